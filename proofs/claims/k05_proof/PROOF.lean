import PyProof.Rows.All
import KE.KIsAll
import OpenK.KLine
import KE.KItem
import OpenK.KRaise
import OpenK.KOwn
import KE.LcSums
import KE.KSortAsk
import KE.KTryMore
import KE.KItemsList
import KE.KSortTup
import Lean
import PyProof.EqAt
import PyProof.EqKinds
import PyProof.TupleCall
import PySem.Challenge.RW_atonce_k05_orders_refused
set_option Elab.async false
set_option linter.all false
set_option maxRecDepth 100000
set_option maxHeartbeats 4000000
namespace L2
open PySem
def Yz (s:Stmt) (j:Nat):Stmt:=match s with
 |.ClassDef _ _ _ body _ _ _ _ _ _ _=>body.getD j (.Pass ⟨0,0,0,0⟩)
 |_=>.Pass ⟨0,0,0,0⟩
def ZH (s:Stmt):Arguments:=match s with
 |.FunctionDef _ a _ _ _ _ _ _ _ _=>a
 |_=>{ posonlyargs:=[],args:=[],vararg:=none,kwonlyargs:=[],kw_defaults:=[],kwarg:=none,defaults:=[] }
def ZE (s:Stmt):List Stmt:=match s with
 |.FunctionDef _ _ b _ _ _ _ _ _ _=>b
 |_=>[]
def Zl (s:Stmt):Scope:=match s with
 |.FunctionDef _ _ _ _ _ _ sc _ _ _=>sc
 |_=>{ kind:=.function,names:=[],isGenerator:=false,isCoroutine:=false }
def tyL:Value->Bool
 |.type s=>s == "list"
 |_=>false
def Gh (K:PySem.W.Frag):Bool:=K.all fun p=>!tyL p.2.cls
def Lv:List String:=["NoneType","bool","int","str","list","tuple","dict"]
end L2
namespace MP
noncomputable section
open PySem L2
def top (i:Nat):Stmt:=PySem.Challenge.pw_atonce_k05_orders_refused.main.body.getD i (.Pass ⟨0,0,0,0⟩)
abbrev NJ:Stmt:=top 17
abbrev Mm:Stmt:=top 19
abbrev NL:Stmt:=top 20
abbrev NN:Stmt:=top 21
abbrev NR:Stmt:=top 22
abbrev MN:Stmt:=top 23
abbrev NG:Stmt:=Yz (top 15) 0
abbrev NK:Stmt:=Yz (top 15) 1
abbrev Mq:Stmt:=Yz (top 15) 2
abbrev N0:Stmt:=top 24
abbrev Rf:Stmt:=Yz (top 13) 0
abbrev Ra:Stmt:=Yz (top 13) 1
abbrev S6:Stmt:=top 25
abbrev RL:Stmt:=Yz (top 10) 0
abbrev RB:Stmt:=Yz (top 13) 2
abbrev S5:Stmt:=Yz (top 13) 3
abbrev RC:Stmt:=Yz (top 10) 1
abbrev RX:Stmt:=Yz (top 10) 7
abbrev Rh:Stmt:=Yz (top 15) 3
abbrev Rv:Stmt:=Yz (top 10) 8
abbrev RO:Stmt:=Yz (top 10) 2
abbrev Rg:Stmt:=Yz (top 10) 3
abbrev RD:Stmt:=top 26
abbrev RH:Stmt:=top 27
abbrev Rb:Stmt:=Yz (top 10) 4
abbrev RV:Stmt:=top 34
abbrev Rs:Stmt:=top 29
abbrev RI:Stmt:=top 31
abbrev RU:Stmt:=top 30
abbrev RT:Stmt:=top 32
abbrev Rp:Stmt:=top 33
abbrev Ru:Stmt:=top 28
abbrev Rk:Stmt:=Yz (top 10) 6
abbrev Ry:Stmt:=Yz (top 10) 5
abbrev RM:Stmt:=top 35
def Vb (as:List Addr) (h:Heap):W.Frag:=as.filterMap fun a=>(h.get? a).map fun o=>(a,o)
theorem RP (h:Heap):∀as:List Addr,(Vb as h).In h
 |[],_,_,e=>by simp[Vb]at e
 |a::as,b,o,e=>by
  have ih:=RP h as b o
  unfold Vb at e ih
  cases hg:h.get? a with
  |none=>simp only[List.filterMap_cons,hg,Option.map_none]at e; exact ih e
  |some v =>
   simp only[List.filterMap_cons,hg,Option.map_some,List.lookup_cons]at e
   by_cases hb:b=a
   ·subst hb; simp at e; rw[hg,e]
   ·have:(b == a)=false:=by simpa using hb
    rw[this]at e; exact ih e
def nth {α:Type}:List α->Nat->Option α
 |[],_=>none
 |a::_,0=>some a
 |_::l,n+1=>nth l n
theorem YJ {α:Type} {l r:List α} (h:l=r) (i:Nat) {x y:α} (h1:nth l i=some x) (h2:nth r i=some y):x=y:=by
 subst h; rw[h1]at h2; exact Option.some.inj h2
def nrm (f:FuncData):FuncData:={ f with kwdefaults:=.none,doc:=.none,pyModule:=.none,annotations:=none,code:=.none,closureTuple:=.none }
def fnV (K:W.Frag) (f:Addr) (q:Str):Option (FuncData × Bool):=match K.lookup f with
 |some ⟨_,_,.func d,_⟩=>some (nrm d,W.codeIn K d.code q)
 |_=>none
def obK (K:W.Frag) (f:Addr):Obj:=(K.lookup f).getD default
def fdK (K:W.Frag) (f:Addr):FuncData:=match (obK K f).data with|.func d=>d|_=>default
theorem Ni {K:W.Frag} {f:Addr} {q n q':Str} {a:Arguments} {b:List Stmt} {s:Scope} (h:fnV K f q=some (nrm (W.fnOf n q' a b s .none .none .none .none none .none .none),true)) :
    K.lookup f=some ⟨(obK K f).cls,(obK K f).dict,.func (W.fnOf n q' a b s .none (fdK K f).kwdefaults (fdK K f).doc (fdK K f).pyModule (fdK K f).annotations (fdK K f).code (fdK K f).closureTuple),(obK K f).slots⟩∧W.codeIn K (fdK K f).code q=true:=by
 unfold fnV at h
 cases hl:K.lookup f with
 |none=>rw[hl]at h; cases h
 |some v =>
  obtain ⟨c,d,dt,sl⟩:=v
  rw[hl]at h
  cases dt with
  |func fd =>
   obtain ⟨h1,h2⟩:=Prod.mk.inj (Option.some.inj h)
   have e1:obK K f=⟨c,d,.func fd,sl⟩:=by simp[obK,hl]
   have e2:fdK K f=fd:=by simp[fdK,e1]
   rw[e2,e1]
   refine ⟨?_,h2⟩
   obtain ⟨x1,x2,x3,x4,x5,x6,x7,x8,x9,x10,x11,x12,x13,x14,x15⟩:=fd
   unfold nrm at h1
   injection h1 with y1 y2 y3 y4 y5 y6 y7 y8 _ _ _ _ _ _ y15
   dsimp only at y1 y2 y3 y4 y5 y6 y7 y8 y15
   subst y1 y2 y3 y4 y5 y6 y7 y8 y15
   rfl
  |_=>cases h
theorem Y1 {K:W.Frag} {f:Addr} {q n q':Str} {a:Arguments} {b:List Stmt} {s:Scope} (h:fnV K f q=some (nrm (W.fnOf n q' a b s .none .none .none .none none .none .none),true)) :
    K.lookup f=some ⟨(obK K f).cls,(obK K f).dict,.func (W.fnOf n q' a b s .none (fdK K f).kwdefaults (fdK K f).doc (fdK K f).pyModule (fdK K f).annotations (fdK K f).code (fdK K f).closureTuple),(obK K f).slots⟩:=(Ni h).1
theorem YV {K:W.Frag} {f:Addr} {q n q':Str} {a:Arguments} {b:List Stmt} {s:Scope} (h:fnV K f q=some (nrm (W.fnOf n q' a b s .none .none .none .none none .none .none),true)):W.codeIn K (fdK K f).code q=true:=(Ni h).2
def HM (x:Option (Option Value)):Option Int:=match x with|some (some (.int i _))=>some i|_=>none
theorem Eg {x:Option (Option Value)} {i:Int} (h:HM x=some i):∃t,x=some (some (.int i t)):=by
 unfold HM at h; split at h
 ·cases h; exact ⟨_,rfl⟩
 ·cases h
def GI (K:W.Frag) (a:Addr):Option (String × Str):=match K.lookup a with
 |some ⟨.type t,_,.seq vs _,_⟩=>(match vs.toList with|[.str x _]=>some (t,x)|_=>none)
 |_=>none
theorem Er {K:W.Frag} {a:Addr} {t:String} {x:Str} (h:GI K a=some (t,x)):∃od n tk sl,K.lookup a=some ⟨.type t,od,.seq #[.str x tk] n,sl⟩:=by
 unfold GI at h; split at h
 ·rename_i od vs n sl hl
  split at h
  ·rename_i y tk hv
   cases h
   have:vs=#[.str x tk]:=Array.toList_inj.mp (by rw[hv])
   subst this
   exact ⟨_,_,_,_,hl⟩
  ·cases h
 ·cases h
def Ge (K:W.Frag):List (Option (Option Value)):=[W.nsIn K mainGlobals "Map",
 W.nsIn K mainGlobals "Board",
 W.nsIn K mainGlobals "Orders",
 W.nsIn K mainGlobals "OrderError",
 W.nsIn K mainGlobals "NoPlace",
 W.nsIn K mainGlobals "NoSide",
 W.nsIn K mainGlobals "Crowded",
 W.nsIn K mainGlobals "NoUnit",
 W.nsIn K mainGlobals "OutOfReach",
 W.nsIn K mainGlobals "STAND",
 W.nsIn K mainGlobals "_law_cell_at",
 W.nsIn K mainGlobals "_law_frame",
 W.nsIn K mainGlobals "_law_links",
 W.nsIn K mainGlobals "_law_sides",
 W.nsIn K mainGlobals "_law_order_by",
 W.nsIn K mainGlobals "_law_orders",
 W.findIn K (.ref 269) "__init__",
 W.findIn K (.ref 269) "need_place",
 W.findIn K (.ref 269) "link",
 W.nsIn K mainGlobals "_law_chart",
 W.findIn K (.ref 222) "__init__",
 W.findIn K (.ref 222) "post",
 W.nsIn K mainGlobals "_law_board",
 W.findIn K (.ref 166) "__init__",
 W.findIn K (.ref 222) "side_at",
 W.findIn K (.ref 222) "need_unit",
 W.findIn K (.ref 166) "stand",
 W.findIn K (.ref 166) "need_all",
 W.findIn K (.ref 269) "beside",
 W.findIn K (.ref 166) "need_beside",
 W.findIn K (.ref 166) "move",
 W.findIn K (.ref 166) "aid",
 W.nsIn K mainGlobals "_law_give",
 W.nsIn K mainGlobals "_law_given",
 W.findIn K (.ref 166) "told",
 W.nsIn K mainGlobals "_law_all",
 W.nsIn K mainGlobals "_law_at",
 W.nsIn K mainGlobals "_law_manned",
 W.nsIn K mainGlobals "_law_beside",
 W.nsIn K mainGlobals "_law_reached",
 W.nsIn K mainGlobals "_law_due",
 W.nsIn K mainGlobals "_law_tried",
 W.findIn K (.ref 166) "goal_of",
 W.findIn K (.ref 166) "movers",
 W.nsIn K mainGlobals "law",
 W.findIn K (.ref 222) "__setattr__",
 W.findIn K (.ref 269) "__setattr__",
 W.findIn K (.ref 166) "__setattr__",
 W.findIn K (.ref 222) "chart",
 W.findIn K (.ref 222) "units",
 W.findIn K (.ref 269) "links",
 W.findIn K (.ref 269) "size",
 W.findIn K (.ref 166) "board",
 W.findIn K (.ref 166) "given",
 W.nsIn K mainGlobals "ValueError",
 W.nsIn K mainGlobals "int",
 W.nsIn K mainGlobals "isinstance",
 W.nsIn K mainGlobals "len",
 W.nsIn K mainGlobals "range",
 W.nsIn K mainGlobals "sorted",
 W.specialIn K (.builtin "object.__class__") "__get__",
 W.findIn K (.ref 44) "__getattribute__",
 W.findIn K (.ref 44) "__getattr__",
 W.findIn K (.ref 44) "__class__",
 W.findIn K (.ref 56) "__getattribute__",
 W.findIn K (.ref 56) "__getattr__",
 W.findIn K (.ref 56) "__class__",
 W.findIn K (.ref 68) "__getattribute__",
 W.findIn K (.ref 68) "__getattr__",
 W.findIn K (.ref 68) "__class__",
 W.findIn K (.ref 80) "__getattribute__",
 W.findIn K (.ref 80) "__getattr__",
 W.findIn K (.ref 80) "__class__",
 W.findIn K (.ref 92) "__getattribute__",
 W.findIn K (.ref 92) "__getattr__",
 W.findIn K (.ref 92) "__class__"]
def GS:List (Option (Option Value)):=[some (some (.ref 269)),
 some (some (.ref 222)),
 some (some (.ref 166)),
 some (some (.ref 31)),
 some (some (.ref 44)),
 some (some (.ref 56)),
 some (some (.ref 68)),
 some (some (.ref 80)),
 some (some (.ref 92)),
 some (some (.ref 95)),
 some (some (.ref 280)),
 some (some (.ref 294)),
 some (some (.ref 299)),
 some (some (.ref 306)),
 some (some (.ref 311)),
 some (some (.ref 316)),
 some (some (.ref 240)),
 some (some (.ref 247)),
 some (some (.ref 254)),
 some (some (.ref 323)),
 some (some (.ref 184)),
 some (some (.ref 191)),
 some (some (.ref 330)),
 some (some (.ref 109)),
 some (some (.ref 198)),
 some (some (.ref 205)),
 some (some (.ref 116)),
 some (some (.ref 156)),
 some (some (.ref 261)),
 some (some (.ref 163)),
 some (some (.ref 123)),
 some (some (.ref 130)),
 some (some (.ref 337)),
 some (some (.ref 344)),
 some (some (.ref 137)),
 some (some (.ref 391)),
 some (some (.ref 358)),
 some (some (.ref 372)),
 some (some (.ref 365)),
 some (some (.ref 379)),
 some (some (.ref 386)),
 some (some (.ref 351)),
 some (some (.ref 149)),
 some (some (.ref 142)),
 some (some (.ref 396)),
 some (some (.builtin "object.__setattr__")),
 some (some (.builtin "object.__setattr__")),
 some (some (.builtin "object.__setattr__")),
 some none,
 some none,
 some none,
 some none,
 some none,
 some none,
 some none,
 some none,
 some none,
 some none,
 some none,
 some none,
 some (some (.builtin "getset_descriptor.__get__")),
 some (some (.builtin "BaseException.__getattribute__")),
 some none,
 some (some (.builtin "object.__class__")),
 some (some (.builtin "BaseException.__getattribute__")),
 some none,
 some (some (.builtin "object.__class__")),
 some (some (.builtin "BaseException.__getattribute__")),
 some none,
 some (some (.builtin "object.__class__")),
 some (some (.builtin "BaseException.__getattribute__")),
 some none,
 some (some (.builtin "object.__class__")),
 some (some (.builtin "BaseException.__getattribute__")),
 some none,
 some (some (.builtin "object.__class__"))]
def Ho (K:W.Frag):List Bool:=[W.keepIn K (.ref 280),
 W.keepIn K (.ref 294),
 W.keepIn K (.ref 299),
 W.keepIn K (.ref 306),
 W.keepIn K (.ref 311),
 W.keepIn K (.ref 316),
 W.isFn K (.ref 240),
 W.keepIn K (.ref 240),
 W.isFn K (.ref 247),
 W.keepIn K (.ref 247),
 W.isFn K (.ref 254),
 W.keepIn K (.ref 254),
 W.keepIn K (.ref 323),
 W.isFn K (.ref 184),
 W.keepIn K (.ref 184),
 W.isFn K (.ref 191),
 W.keepIn K (.ref 191),
 W.keepIn K (.ref 330),
 W.isFn K (.ref 109),
 W.keepIn K (.ref 109),
 W.isFn K (.ref 198),
 W.keepIn K (.ref 198),
 W.isFn K (.ref 205),
 W.keepIn K (.ref 205),
 W.isFn K (.ref 116),
 W.keepIn K (.ref 116),
 W.isFn K (.ref 156),
 W.keepIn K (.ref 156),
 W.isFn K (.ref 261),
 W.keepIn K (.ref 261),
 W.isFn K (.ref 163),
 W.keepIn K (.ref 163),
 W.isFn K (.ref 123),
 W.keepIn K (.ref 123),
 W.isFn K (.ref 130),
 W.keepIn K (.ref 130),
 W.keepIn K (.ref 337),
 W.keepIn K (.ref 344),
 W.isFn K (.ref 137),
 W.keepIn K (.ref 137),
 W.keepIn K (.ref 391),
 W.keepIn K (.ref 358),
 W.keepIn K (.ref 372),
 W.keepIn K (.ref 365),
 W.keepIn K (.ref 379),
 W.keepIn K (.ref 386),
 W.keepIn K (.ref 351),
 W.isFn K (.ref 149),
 W.keepIn K (.ref 149),
 W.isFn K (.ref 142),
 W.keepIn K (.ref 142),
 W.keepIn K (.ref 396),
 W.plainGet K 222 Str.empty,
 W.hasDictIn K 222,
 W.plainOver K 222,
 W.plainGet K 269 Str.empty,
 W.hasDictIn K 269,
 W.plainOver K 269,
 W.plainGet K 166 Str.empty,
 W.hasDictIn K 166,
 W.plainOver K 166,
 W.makesIn K 222,
 W.keepIn K (.ref 222),
 W.makesIn K 269,
 W.keepIn K (.ref 269),
 W.makesIn K 166,
 W.keepIn K (.ref 166),
 W.excIn K 68 [.type "ValueError",.type "Exception",.type "BaseException",.type "object"] "ValueError.__new__",
 W.excIn K 44 [.type "ValueError",.type "Exception",.type "BaseException",.type "object"] "ValueError.__new__",
 W.excIn K 56 [.type "ValueError",.type "Exception",.type "BaseException",.type "object"] "ValueError.__new__",
 W.excIn K 80 [.type "ValueError",.type "Exception",.type "BaseException",.type "object"] "ValueError.__new__",
 W.excIn K 92 [.type "ValueError",.type "Exception",.type "BaseException",.type "object"] "ValueError.__new__",
 (W.clsIn K 44).isSome,
 (W.clsIn K 56).isSome,
 (W.clsIn K 68).isSome,
 (W.clsIn K 80).isSome,
 (W.clsIn K 92).isSome,
 Gh K]
def Gd:List Bool:=[true,true,true,true,true,true,true,true,true,true,true,true,true,true,true,true,true,true,true,true,true,true,true,true,true,true,true,true,true,true,true,true,true,true,true,true,true,true,true,true,true,true,true,true,true,true,true,true,true,true,true,true,true,true,true,true,true,true,true,true,true,true,true,true,true,true,true,true,true,true,true,true,true,true,true,true,true,true]
def HE (K:W.Frag):List (Option (FuncData × Bool)):=[fnV K 280 "_law_cell_at",
 fnV K 294 "_law_frame",
 fnV K 299 "_law_links",
 fnV K 306 "_law_sides",
 fnV K 311 "_law_order_by",
 fnV K 316 "_law_orders",
 fnV K 240 "Map.__init__",
 fnV K 247 "Map.need_place",
 fnV K 254 "Map.link",
 fnV K 323 "_law_chart",
 fnV K 184 "Board.__init__",
 fnV K 191 "Board.post",
 fnV K 330 "_law_board",
 fnV K 109 "Orders.__init__",
 fnV K 198 "Board.side_at",
 fnV K 205 "Board.need_unit",
 fnV K 116 "Orders.stand",
 fnV K 156 "Orders.need_all",
 fnV K 261 "Map.beside",
 fnV K 163 "Orders.need_beside",
 fnV K 123 "Orders.move",
 fnV K 130 "Orders.aid",
 fnV K 337 "_law_give",
 fnV K 344 "_law_given",
 fnV K 137 "Orders.told",
 fnV K 391 "_law_all",
 fnV K 358 "_law_at",
 fnV K 372 "_law_manned",
 fnV K 365 "_law_beside",
 fnV K 379 "_law_reached",
 fnV K 386 "_law_due",
 fnV K 351 "_law_tried",
 fnV K 149 "Orders.goal_of",
 fnV K 142 "Orders.movers",
 fnV K 396 "law"]
def GU:List (Option (FuncData × Bool)):=[some (nrm (W.fnOf "_law_cell_at" "_law_cell_at" (ZH NJ) (ZE NJ) (Zl NJ) .none .none .none .none none .none .none),true),
 some (nrm (W.fnOf "_law_frame" "_law_frame" (ZH Mm) (ZE Mm) (Zl Mm) .none .none .none .none none .none .none),true),
 some (nrm (W.fnOf "_law_links" "_law_links" (ZH NL) (ZE NL) (Zl NL) .none .none .none .none none .none .none),true),
 some (nrm (W.fnOf "_law_sides" "_law_sides" (ZH NN) (ZE NN) (Zl NN) .none .none .none .none none .none .none),true),
 some (nrm (W.fnOf "_law_order_by" "_law_order_by" (ZH NR) (ZE NR) (Zl NR) .none .none .none .none none .none .none),true),
 some (nrm (W.fnOf "_law_orders" "_law_orders" (ZH MN) (ZE MN) (Zl MN) .none .none .none .none none .none .none),true),
 some (nrm (W.fnOf "__init__" "Map.__init__" (ZH NG) (ZE NG) (Zl NG) .none .none .none .none none .none .none),true),
 some (nrm (W.fnOf "need_place" "Map.need_place" (ZH NK) (ZE NK) (Zl NK) .none .none .none .none none .none .none),true),
 some (nrm (W.fnOf "link" "Map.link" (ZH Mq) (ZE Mq) (Zl Mq) .none .none .none .none none .none .none),true),
 some (nrm (W.fnOf "_law_chart" "_law_chart" (ZH N0) (ZE N0) (Zl N0) .none .none .none .none none .none .none),true),
 some (nrm (W.fnOf "__init__" "Board.__init__" (ZH Rf) (ZE Rf) (Zl Rf) .none .none .none .none none .none .none),true),
 some (nrm (W.fnOf "post" "Board.post" (ZH Ra) (ZE Ra) (Zl Ra) .none .none .none .none none .none .none),true),
 some (nrm (W.fnOf "_law_board" "_law_board" (ZH S6) (ZE S6) (Zl S6) .none .none .none .none none .none .none),true),
 some (nrm (W.fnOf "__init__" "Orders.__init__" (ZH RL) (ZE RL) (Zl RL) .none .none .none .none none .none .none),true),
 some (nrm (W.fnOf "side_at" "Board.side_at" (ZH RB) (ZE RB) (Zl RB) .none .none .none .none none .none .none),true),
 some (nrm (W.fnOf "need_unit" "Board.need_unit" (ZH S5) (ZE S5) (Zl S5) .none .none .none .none none .none .none),true),
 some (nrm (W.fnOf "stand" "Orders.stand" (ZH RC) (ZE RC) (Zl RC) .none .none .none .none none .none .none),true),
 some (nrm (W.fnOf "need_all" "Orders.need_all" (ZH RX) (ZE RX) (Zl RX) .none .none .none .none none .none .none),true),
 some (nrm (W.fnOf "beside" "Map.beside" (ZH Rh) (ZE Rh) (Zl Rh) .none .none .none .none none .none .none),true),
 some (nrm (W.fnOf "need_beside" "Orders.need_beside" (ZH Rv) (ZE Rv) (Zl Rv) .none .none .none .none none .none .none),true),
 some (nrm (W.fnOf "move" "Orders.move" (ZH RO) (ZE RO) (Zl RO) .none .none .none .none none .none .none),true),
 some (nrm (W.fnOf "aid" "Orders.aid" (ZH Rg) (ZE Rg) (Zl Rg) .none .none .none .none none .none .none),true),
 some (nrm (W.fnOf "_law_give" "_law_give" (ZH RD) (ZE RD) (Zl RD) .none .none .none .none none .none .none),true),
 some (nrm (W.fnOf "_law_given" "_law_given" (ZH RH) (ZE RH) (Zl RH) .none .none .none .none none .none .none),true),
 some (nrm (W.fnOf "told" "Orders.told" (ZH Rb) (ZE Rb) (Zl Rb) .none .none .none .none none .none .none),true),
 some (nrm (W.fnOf "_law_all" "_law_all" (ZH RV) (ZE RV) (Zl RV) .none .none .none .none none .none .none),true),
 some (nrm (W.fnOf "_law_at" "_law_at" (ZH Rs) (ZE Rs) (Zl Rs) .none .none .none .none none .none .none),true),
 some (nrm (W.fnOf "_law_manned" "_law_manned" (ZH RI) (ZE RI) (Zl RI) .none .none .none .none none .none .none),true),
 some (nrm (W.fnOf "_law_beside" "_law_beside" (ZH RU) (ZE RU) (Zl RU) .none .none .none .none none .none .none),true),
 some (nrm (W.fnOf "_law_reached" "_law_reached" (ZH RT) (ZE RT) (Zl RT) .none .none .none .none none .none .none),true),
 some (nrm (W.fnOf "_law_due" "_law_due" (ZH Rp) (ZE Rp) (Zl Rp) .none .none .none .none none .none .none),true),
 some (nrm (W.fnOf "_law_tried" "_law_tried" (ZH Ru) (ZE Ru) (Zl Ru) .none .none .none .none none .none .none),true),
 some (nrm (W.fnOf "goal_of" "Orders.goal_of" (ZH Rk) (ZE Rk) (Zl Rk) .none .none .none .none none .none .none),true),
 some (nrm (W.fnOf "movers" "Orders.movers" (ZH Ry) (ZE Ry) (Zl Ry) .none .none .none .none none .none .none),true),
 some (nrm (W.fnOf "law" "law" (ZH RM) (ZE RM) (Zl RM) .none .none .none .none none .none .none),true)]
def G4 (K:W.Frag):List (Option Int):=[HM (W.nsIn K mainGlobals "LAST_SIDE")]
def Ev:List (Option Int):=[some 7]
def F7 (K:W.Frag):List (Option (String × Str)):=[GI K 95]
def Em:List (Option (String × Str)):=[some ("tuple","stand")]
def Eb (K:W.Frag):List (List (Option Bool)):=[[.ref 44,.ref 56,.ref 68,.ref 80,.ref 92,.type "ValueError"].map (W.kitOne K (.ref 44)),
 [.ref 44,.ref 56,.ref 68,.ref 80,.ref 92,.type "ValueError"].map (W.kitOne K (.ref 56)),
 [.ref 44,.ref 56,.ref 68,.ref 80,.ref 92,.type "ValueError"].map (W.kitOne K (.ref 68)),
 [.ref 44,.ref 56,.ref 68,.ref 80,.ref 92,.type "ValueError"].map (W.kitOne K (.ref 80)),
 [.ref 44,.ref 56,.ref 68,.ref 80,.ref 92,.type "ValueError"].map (W.kitOne K (.ref 92))]
def Fw:List (List (Option Bool)):=[[true,false,false,false,false,true].map some,
 [false,true,false,false,false,true].map some,
 [false,false,true,false,false,true].map some,
 [false,false,false,true,false,true].map some,
 [false,false,false,false,true,true].map some]
def Ec (K:W.Frag):List (Option Bool):=[W.takesIn K (.builtin "object.__class__"),
 W.mroIn K 44 (.type "object"),
 W.mroIn K 44 (.type "BaseException"),
 W.exmOne K (.ref 44) (.ref 31),
 W.mroIn K 56 (.type "object"),
 W.mroIn K 56 (.type "BaseException"),
 W.exmOne K (.ref 56) (.ref 31),
 W.mroIn K 68 (.type "object"),
 W.mroIn K 68 (.type "BaseException"),
 W.exmOne K (.ref 68) (.ref 31),
 W.mroIn K 80 (.type "object"),
 W.mroIn K 80 (.type "BaseException"),
 W.exmOne K (.ref 80) (.ref 31),
 W.mroIn K 92 (.type "object"),
 W.mroIn K 92 (.type "BaseException"),
 W.exmOne K (.ref 92) (.ref 31)]
def Fx:List (Option Bool):=[some true,
 some true,
 some true,
 some true,
 some true,
 some true,
 some true,
 some true,
 some true,
 some true,
 some true,
 some true,
 some true,
 some true,
 some true,
 some true]
abbrev OT:Type:=List (Option (Option Value)) × List Bool × List (Option (FuncData × Bool)) × List (Option Int) × List (Option (String × Str)) × List (List (Option Bool)) × List (Option Bool)
def PX (K:W.Frag):OT:=(Ge K,Ho K,HE K,G4 K,F7 K,Eb K,Ec K)
def Lx:OT:=(GS,Gd,GU,Ev,Em,Fw,Fx)
def GK (K:W.Frag):Prop:=Ge K=GS∧Ho K=Gd∧HE K=GU∧G4 K=Ev∧F7 K=Em∧Eb K=Fw∧Ec K=Fx
theorem Eu {K:W.Frag} (h:PX K=Lx):GK K:=by
 unfold PX Lx at h
 simp only[Prod.mk.injEq]at h
 exact h
def asK:List Addr:=[2,3,15,17,18,20,21,22,29,30,31,32,35,42,43,44,47,54,55,56,59,66,67,68,71,78,79,80,83,90,91,92,95,103,105,106,108,109,110,112,113,115,116,117,119,120,122,123,124,126,127,129,130,131,133,134,136,137,138,141,142,143,145,146,148,149,150,152,153,155,156,157,159,160,162,163,164,165,166,167,168,178,180,181,183,184,185,187,188,190,191,192,194,195,197,198,199,201,202,204,205,206,208,209,211,212,213,215,216,218,219,220,221,222,223,224,234,236,237,239,240,241,243,244,246,247,248,250,251,253,254,255,257,258,260,261,262,265,266,267,268,269,270,271,274,276,277,279,280,288,290,291,293,294,295,298,299,300,302,303,305,306,307,310,311,312,315,316,317,319,320,322,323,324,326,327,329,330,331,333,334,336,337,338,340,341,343,344,345,347,348,350,351,352,354,355,357,358,359,361,362,364,365,366,368,369,371,372,373,375,376,378,379,380,382,383,385,386,387,390,391,392,395,396]
def hook:W.Hook:=⟨OT,fun s=>PX (Vb asK s.heap),fun _=>Lx,fun _ h=>∃K:W.Frag,K.In h∧GK K,fun _ s e=>⟨_,RP s.heap asK,Eu e⟩,fun _ _ _ ⟨K,x,g⟩ k=>⟨K,W.Frag.In.keeps x k,g⟩⟩
def view:Program:={ PySem.Challenge.pw_atonce_k05_orders_refused with main:={ PySem.Challenge.pw_atonce_k05_orders_refused.main with body:=[top 0,top 2,top 3,top 4,top 5,top 6,top 7,top 9,top 10,top 12,top 13,top 15,top 17,top 18,top 19,top 20,top 21,top 22,top 23,top 24,top 25,top 26,top 27,top 28,top 29,top 30,top 31,top 32,top 33,top 34,top 35] } }
theorem T7 {α β γ:Type} {x:Option α} {f:α->β} {g:α->γ} {a:β} {b:γ} (h1:x.map f=some a) (h2:x.map g=some b):x.map (fun s=>(f s,g s))=some (a,b):=by
 cases x with
 |none=>cases h1
 |some v=>simp only[Option.map_some,Option.some.injEq]at h1 h2 ⊢; rw[h1,h2]
def Xt (s:Shared):Bool:=W.xlAt view [] s&&W.recOk (W.RowW.records PySem.Challenge.rw_atonce_k05_orders_refused.row.toRowW) s
def rT (tb:String->Option Builtin) (q:Program) (v:World) (m:Nat) (an:Option Value):Nat->W.SharedT->Thread->Option W.SharedT
 |0,_,_=>none
 |i+1,x,y=>match W.through y with
  |true=>some x
  |false=>match W.stepOk m an y with
   |false=>none
   |true=>match W.stepT (denote tb) q v x y with
    |some (x',y')=>rT tb q v m an i x' y'
    |none=>none
theorem IH {tb:String->Option Builtin} {q:Program} {v:World} {m:Nat} {an:Option Value}:∀{i:Nat} {x x':W.SharedT} {y:Thread},rT tb q v m an i x y=some x'->W.topRun tb q v m an i x.abs y=some x'.abs
 |0,_,_,_,h=>by cases h
 |i+1,x,x',y,h=>by
  unfold rT at h
  unfold W.topRun
  cases ht:W.through y with
  |true=>rw[ht]at h; cases h; rfl
  |false =>
   rw[ht]at h
   cases hk:W.stepOk m an y with
   |false=>rw[hk]at h; cases h
   |true =>
    rw[hk]at h
    cases hs:W.stepT (denote tb) q v x y with
    |none=>rw[hs]at h; cases h
    |some r=>obtain ⟨x2,y2⟩:=r; rw[hs]at h; rw[W.stepT_spec hs]; exact IH h
def OX:List Obj->Nat->W.BT->Option W.BT
 |[],_,t=>some t
 |o::l,n,t=>match ((t.ins n o).get n).isSome with
  |true=>OX l (n+1) (t.ins n o)
  |false=>none
theorem QQ {lf:Life}:∀{l:List Obj} {n:Nat} {t t':W.BT},OX l n t=some t'->(W.absHeap t' (n+l.length) lf).objs.toList=(W.absHeap t n lf).objs.toList++l
 |[],n,t,t',h=>by cases h; simp
 |o::l,n,t,t',h=>by
  unfold OX at h
  split at h
  ·rename_i e
   have ih:=QQ (lf:=lf) h
   rw[W.absHeap_ins e]at ih
   have:n+(o::l).length=n+1+l.length:=by simp; omega
   rw[this,ih]
   show ((W.absHeap t n lf).objs.push o).toList++l=_
   simp
  ·cases h
def goT (q:Program) (v:World) (m:Nat) (an:Option Value) (i:Nat) (os:OsState):Option W.SharedT :=
 (OX (W.boot_heap v.params).objs.toList 0 .nil).bind fun t=>rT treeTable q v m an i ⟨t,m,(W.boot_heap v.params).life,Array.mk [],W.boot_drawn,W.boot_toks,os⟩ (W.topStub q)
def okT (q:Program) (v:World) (s:Shared):Bool:=W.staticsOk (PySem.importedModules q.main.body) (W.boot_heap v.params) s.heap&&W.namesBound q s.heap&&W.gensDone s&&W.laidKept (W.boot_heap v.params) s.heap
theorem Fk {p q:Program} {loose:List Str} {Xt:Shared->Bool} {α:Type} {Yf:Shared->α} {Ya:World->α} {N m:Nat} {an:Option Value}
    (e:W.opening p=W.plainProg p.main.scope.names) (hN:Nat.ble 600 N=true) (f:∀s,fenceModules? p s=some s)
    (z:∀w:World,((W.boot_heap w.params).isNs mainGlobals,(W.boot_heap w.params).objs.toList.length,(W.boot_heap w.params).nsMap mainGlobals "__annotations__")=(true,m,an))
    (run:∀(w:World) (os:OsState),(goT p w m an N os).map (fun x=>(okT p w x.abs,W.openSeen q loose (PySem.importedModules p.main.body) Xt true x.abs,Yf x.abs))=some (true,W.openGood q loose,Ya w)) :
    W.LeftO p q loose Xt Yf Ya N:=fun w=>by
 obtain ⟨⟨h,gs,d,k,os⟩,o,o'⟩:=Option.map_eq_some_iff.mp (W.boot_open e hN f w)
 obtain ⟨rfl,rfl,rfl,rfl⟩:h=W.boot_heap w.params∧gs=Array.mk []∧d=W.boot_drawn∧k=W.boot_toks:=by simpa using o'
 obtain ⟨z1,z2,z3⟩:_∧_∧_:=by simpa only [Prod.mk.injEq] using z w
 obtain ⟨x,hx,hv⟩:=Option.map_eq_some_iff.mp (run w os)
 obtain ⟨l1,l2,l3⟩:_∧_∧_:=by simpa only [Prod.mk.injEq] using hv
 obtain ⟨t,ht,hr⟩:=Option.bind_eq_some_iff.mp hx
 have r:=IH hr
 have hp:=QQ (lf:=(W.boot_heap w.params).life) ht
 rw[z2,Nat.zero_add]at hp
 have ha:W.absHeap t m (W.boot_heap w.params).life=W.boot_heap w.params:=by
  have:(W.absHeap t m (W.boot_heap w.params).life).objs=(W.boot_heap w.params).objs:=Array.toList_inj.mp (by rw[hp]; simp[W.absHeap,W.BT.list])
  exact congrArg (fun o=>Heap.mk o (W.boot_heap w.params).life) this
 have hs:(W.boot_heap w.params).objs.size=m:=by rw[← z2]; simp
 unfold W.SharedT.abs at r
 dsimp only at r
 rw[ha]at r
 have tt:W.topFrom treeTable p w N ⟨W.boot_heap w.params,Array.mk [],W.boot_drawn,W.boot_toks,os⟩=some x.abs:=by
  unfold W.topFrom
  dsimp only
  rw[z1,z3,hs,r]
  show (match okT p w x.abs with|true=>some x.abs|false=>none)=_
  rw[l1]
 unfold W.openEnds
 rw[o]
 show (W.topFrom treeTable p w N _).map _=_
 rw[tt]
 exact congrArg some (Prod.ext l2 l3)
def Ga (t:W.BT) (n a:Nat):Option Obj:=match Nat.blt a n with
 |true=>W.alive ((t.get a).getD default)
 |false=>none
theorem Kz (t:W.BT) (n:Nat) (lf:Life) (a:Nat):(W.absHeap t n lf).get? a=Ga t n a:=by
 unfold Ga
 by_cases h:a < n
 ·have:Nat.blt a n=true:=by simpa [Nat.blt_eq] using h
  rw[this]
  unfold Heap.get?
  rw[W.absHeap_at,if_pos h]
  generalize (t.get a).getD default=o
  show (match some o with|some ⟨_,_,.freed,_⟩=>none|o=>o)=W.alive o
  obtain ⟨c,d,dt,sl⟩:=o
  cases dt <;> rfl
 ·have:Nat.blt a n=false:=by
   cases hb:Nat.blt a n with
   |false=>rfl
   |true=>exact absurd (by simpa [Nat.blt_eq] using hb) h
  rw[this,W.abs_get_none h]
def Nu (as:List Addr) (t:W.BT) (n:Nat):W.Frag:=as.filterMap fun a=>(Ga t n a).map fun o=>(a,o)
theorem NV (as:List Addr) (t:W.BT) (n:Nat) (lf:Life):Vb as (W.absHeap t n lf)=Nu as t n:=by
 unfold Vb Nu
 simp only[Kz]
theorem EC (w:World):((W.boot_heap w.params).isNs mainGlobals,(W.boot_heap w.params).objs.toList.length,(W.boot_heap w.params).nsMap mainGlobals "__annotations__")=(true,11,(some (.ref 6))):=by kernel_rfl
set_option maxRecDepth 100000 in
set_option maxHeartbeats 0 in
theorem Fp (w:World) (os:OsState):Option.map (fun x=>okT PySem.Challenge.pw_atonce_k05_orders_refused w x.abs) (goT PySem.Challenge.pw_atonce_k05_orders_refused w 11 (some (.ref 6)) 6412 os)=some true:=by kernel_rfl
set_option maxRecDepth 100000 in
set_option maxHeartbeats 0 in
theorem Fd (w:World) (os:OsState):Option.map (fun x=>(W.openSeen view [] (PySem.importedModules PySem.Challenge.pw_atonce_k05_orders_refused.main.body) Xt true x.abs).1) (goT PySem.Challenge.pw_atonce_k05_orders_refused w 11 (some (.ref 6)) 6412 os)=some (W.openGood view []).1:=by kernel_rfl
set_option maxRecDepth 100000 in
set_option maxHeartbeats 0 in
theorem FC (w:World) (os:OsState):Option.map (fun x=>(W.openSeen view [] (PySem.importedModules PySem.Challenge.pw_atonce_k05_orders_refused.main.body) Xt true x.abs).2) (goT PySem.Challenge.pw_atonce_k05_orders_refused w 11 (some (.ref 6)) 6412 os)=some (W.openGood view []).2:=by kernel_rfl
set_option maxRecDepth 100000 in
set_option maxHeartbeats 0 in
theorem Ee (w:World) (os:OsState):Option.map (fun x=>PX (Nu asK x.tree x.n)) (goT PySem.Challenge.pw_atonce_k05_orders_refused w 11 (some (.ref 6)) 6412 os)=some Lx:=by kernel_rfl
theorem K3:(fun x:W.SharedT=>PX (Nu asK x.tree x.n))=fun x=>PX (Vb asK x.abs.heap):=funext fun x=>congrArg PX (NV asK x.tree x.n x.life).symm
theorem Ea (w:World) (os:OsState):Option.map (fun x=>PX (Vb asK x.abs.heap)) (goT PySem.Challenge.pw_atonce_k05_orders_refused w 11 (some (.ref 6)) 6412 os)=some Lx:=K3 ▸ Ee w os
theorem run:W.LeftO PySem.Challenge.pw_atonce_k05_orders_refused view [] Xt (W.Hook.obs hook) (W.Hook.val hook) 6412:=Fk (by kernel_rfl) (by decide) (fun _=>rfl) EC fun w os=>T7 (Fp w os) (T7 (T7 (Fd w os) (FC w os)) (Ea w os))
end
end MP
namespace L2
open PySem PySem.Spec PyProof.Rows
abbrev Key:=Sum Int Str
def TW:Key->Value->Bool
 |.inl k,v=>Value.isInt k v
 |.inr x,v=>Value.isStrOf x v
def E4 (w:World):Key->Int
 |.inl k=>hashInt k
 |.inr x=>hashStr w x
theorem Yp:∀{k:Key} {v:Value},TW k v=true->(∃i t,k=Sum.inl i∧v=Value.int i t)∨(∃x t,k=Sum.inr x∧v=Value.str x t)
 |.inl i,v,h=>by
  obtain ⟨t,e⟩:=Value.isInt_shape (k:=i) (v:=v) h
  exact .inl ⟨i,t,rfl,e⟩
 |.inr x,v,h=>by
  obtain ⟨t,e⟩:=Value.isStrOf_shape (x:=x) (v:=v) h
  exact .inr ⟨x,t,rfl,e⟩
theorem MJ (i:Int) (t:Tok):TW (.inl i) (.int i t)=true:=by simp[TW,Value.isInt]
theorem NT (x:Str) (t:Tok):TW (.inr x) (.str x t)=true:=by simp[TW,Value.isStrOf]
theorem Hc (a b:Int):decide ((Sum.inl a:Key)=Sum.inl b)=(a == b):=by
 by_cases e:a=b
 ·subst e; simp
 ·have h:¬ (Sum.inl a:Key)=Sum.inl b:=fun q=>e (Sum.inl.inj q)
  rw[decide_eq_false h]
  exact (beq_eq_false_iff_ne.mpr e).symm
theorem HU (a b:Str):decide ((Sum.inr a:Key)=Sum.inr b)=decide (a=b):=by
 by_cases e:a=b
 ·subst e; simp
 ·have h:¬ (Sum.inr a:Key)=Sum.inr b:=fun q=>e (Sum.inr.inj q)
  rw[decide_eq_false h,decide_eq_false e]
theorem HJ (a:Int) (b:Str):decide ((Sum.inl a:Key)=Sum.inr b)=false:=decide_eq_false (fun q=>nomatch q)
theorem HI (a:Str) (b:Int):decide ((Sum.inr a:Key)=Sum.inl b)=false:=decide_eq_false (fun q=>nomatch q)
def Z2 (prog:Program) (w:World):PySem.KeyKind prog w Key where
 is:=TW
 hash:=E4 w
 inj:=fun v a b ha hb=>by
  rcases Yp ha with ⟨i,t,rfl,rfl⟩|⟨x,t,rfl,rfl⟩
  ·rcases Yp hb with ⟨j,u,rfl,e⟩|⟨y,u,rfl,e⟩
   ·injection e with e1 _; rw[e1]
   ·exact nomatch e
  ·rcases Yp hb with ⟨j,u,rfl,e⟩|⟨y,u,rfl,e⟩
   ·exact nomatch e
   ·injection e with e1 _; rw[e1]
 byValue:=fun k v h=>by
  rcases Yp h with ⟨i,t,rfl,rfl⟩|⟨x,t,rfl,rfl⟩ <;> rfl
 pyHash:=fun hv h=>by
  rcases Yp hv with ⟨i,t,rfl,rfl⟩|⟨x,t,rfl,rfl⟩
  ·exact wpAny_pyHash_int h
  ·exact wpAny_pyHash_str h
 eqBool:=fun hu hv h=>by
  rcases Yp hu with ⟨i,t,rfl,rfl⟩|⟨x,t,rfl,rfl⟩
  ·rcases Yp hv with ⟨j,u,rfl,rfl⟩|⟨y,u,rfl,rfl⟩
   ·rw[Hc]at h; exact wpAny_eqBool_int h
   ·rw[HJ]at h; exact SeqAt.EqAt.int_str i t y u _ _ _ _ h
  ·rcases Yp hv with ⟨j,u,rfl,rfl⟩|⟨y,u,rfl,rfl⟩
   ·rw[HI]at h; exact SeqAt.EqAt.str_int x t j u _ _ _ _ h
   ·rw[HU]at h; exact wpAny_eqBool_str h
 «strs»:=fun k x t v h=>by
  rcases Yp h with ⟨i,u,rfl,e⟩|⟨y,u,rfl,e⟩
  ·exact nomatch e
  ·injection e with e1 _
   subst e1
   cases v <;> rfl
theorem PH (prog:Program) (w:World) (i:Int) (t:Tok):(Z2 prog w).is (.inl i) (.int i t)=true:=MJ i t
theorem PL (prog:Program) (w:World) (x:Str) (t:Tok):(Z2 prog w).is (.inr x) (.str x t)=true:=NT x t
open PySem PySem.Spec PyProof.Rows
inductive V where
 |non|bl (b:Bool)|int (i:Int)|str (x:Str)|byt (b:Array UInt8)|flt (b:UInt64)|ref (a:Addr)|ty (n:String)
 deriving DecidableEq
def RelV:V->Value->Prop
 |.non,u=>u=Value.none
 |.bl b,u=>u=Value.bool b
 |.int i,u=>∃t,u=Value.int i t
 |.str x,u=>∃t,u=Value.str x t
 |.byt b,u=>∃t,u=Value.bytes b t
 |.flt b,u=>∃t,u=Value.float b t
 |.ref a,u=>u=Value.ref a
 |.ty n,u=>u=Value.type n
abbrev Vals:List V->List Value->Prop:=Paired RelV
theorem Vals.length {xs:List V} {us:List Value} (r:Vals xs us):xs.length=us.length:=Paired.length r
theorem Vals.get:∀{xs:List V} {us:List Value} {i:Nat} {x:V},Vals xs us->xs[i]?=some x->∃u,us[i]?=some u∧RelV x u
 |_,_,_,_,.nil,e=>by simp at e
 |_,_,0,_,.cons r _,e=>by simp at e; subst e; exact ⟨_,rfl,r⟩
 |_,_,i+1,x,.cons _ t,e=>by
  obtain ⟨u,h1,h2⟩:=Vals.get (i:=i) (x:=x) t (by simpa using e)
  exact ⟨u,by simpa using h1,h2⟩
theorem Vals.set {x:V} {u:Value} (r:RelV x u):∀{xs:List V} {us:List Value} (i:Nat),Vals xs us->Vals (xs.set i x) (us.set i u)
 |_,_,_,.nil=>.nil
 |_,_,0,.cons _ t=>.cons r t
 |_,_,i+1,.cons q t=>.cons q (Vals.set r i t)
theorem Vals.append:∀{xs ys:List V} {us ws:List Value},Vals xs us->Vals ys ws->Vals (xs++ys) (us++ws)
 |_,_,_,_,.nil,s=>s
 |_,_,_,_,.cons r t,s=>.cons r (Vals.append t s)
theorem Vals.take:∀{xs:List V} {us:List Value} (n:Nat),Vals xs us->Vals (xs.take n) (us.take n)
 |_,_,0,_=>.nil
 |_,_,_+1,.nil=>.nil
 |_,_,n+1,.cons r t=>.cons r (Vals.take n t)
theorem Vals.drop:∀{xs:List V} {us:List Value} (n:Nat),Vals xs us->Vals (xs.drop n) (us.drop n)
 |_,_,0,r=>r
 |_,_,_+1,.nil=>.nil
 |_,_,n+1,.cons _ t=>Vals.drop n t
def RelO:Option V->Option Value->Prop
 |some v,some u=>RelV v u
 |none,none=>True
 |_,_=>False
def KV {κ:Type}:List (κ × V)->List (κ × Value)->Prop:=Paired fun (p:κ × V) (q:κ × Value)=>p.1=q.1∧RelV p.2 q.2
def kV:Key->V
 |.inl i=>.int i
 |.inr x=>.str x
inductive HO where
 |lst (xs:List V)
 |tup (xs:List V)
 |dK (kvs:List (Key × V))|dT (kvs:List (List Key × V))
 |set (S:Int->Bool) (n:Nat)
 |ins (C dx:Addr) (fs:List (Str × V))
 |own (x:Addr)
 |xd (fs:List (Str × V))
 |met (f x:Addr)
 |rng (lo hi:Int)
 |frz (o:Obj) (u:HO)
 |tbl (ps:Array Value)
 |ext (φ:Heap->Prop)
abbrev Hp:=Addr->Option HO
def upd (H:Hp) (a:Addr) (o:HO):Hp:=fun b=>if b=a then some o else H b
theorem Zz {H:Hp} {a:Addr} {o:HO}:upd H a o a=some o:=by unfold upd; rw[if_pos rfl]
theorem Zp {H:Hp} {a b:Addr} {o:HO} (h:b≠a):upd H a o b=H b:=by unfold upd; rw[if_neg h]
theorem O8 {H:Hp} {a:Addr} {o u:HO}:upd (upd H a o) a u=upd H a u:=by
 funext b; unfold upd; split <;> rfl
theorem Fv {H:Hp} {a b:Addr} {o u:HO} (h:H a=some o) (h':H b=some u) (d:o≠u):a≠b:=by
 intro e; subst e; rw[h]at h'; exact d (Option.some.inj h')
theorem Z0 {H:Hp} {a b:Addr} {o:HO} (h:H a=some o) (h':H b=none):a≠b:=by
 intro e; subst e; rw[h]at h'; cases h'
section
variable (P:Program) (w:World)
def ObjOk (H:Hp) (h:Heap) (a:Addr):HO->Prop
 |.lst xs=>xs.length<=sizeLine∧∃(its:List Value) (n:Nat),Vals xs its∧h.get? a=some { cls:=.type "list",data:=.seq its.toArray n }
 |.tup xs=>xs.length<=sizeLine∧∃its:List Value,Vals xs its∧IsTup h a its.toArray
 |.dK kvs=>kvs.length<=sizeLine∧(a == sysModules)=false∧∃vs,KV kvs vs∧h.DictOf (Z2 P w) a vs
 | .dT kvs => kvs.length <= sizeLine ∧ (a == sysModules) = false ∧ ∃ xs : List (List Key × Addr × Value),
     Paired (fun (p:List Key × V) (q:List Key × Addr × Value)=>p.1=q.1∧H q.2.1=some (.tup (p.1.map kV))∧RelV p.2 q.2.2) kvs xs ∧
     ∃o es ep,h.get? a=some o∧o.ExactDict∧o.data=.dict es ep∧es.toList=xs.map (entryOfKey (tupleKind (Z2 P w)))∧(xs.map (·.1)).Nodup
 |.set S n=>h.SetOf (intKind P w) a S n
 | .ins C dx fs => H dx = some (.own a) ∧ fs.length <= 1000 ∧ dx ≠ a ∧ h.get? a = some (PySem.W.instObj C dx) ∧
     ∃mA,h.Ns1 dx mA∧(∀f,RelO (fs.lookup f) (mA f))∧PySem.Within mA (fs.map (·.1))
 |.own _=>∃o,h.get? a=some o
 |.xd fs=>∃mA,h.Ns1 a mA∧∀f,RelO (fs.lookup f) (mA f)
 |.rng lo hi=>∃t u v,h.get? a=some { cls:=.type "range",data:=.fields #[.int lo t,.int hi u,.int 1 v] }
 |.frz o u=>h.get? a=some o∧ObjOk H h a u
 |.tbl ps=>h.get? a=some { cls:=.none,data:=.fields ps }
 |.met f x=>h.get? a=some (PySem.W.methodObj (.ref f) (.ref x))
 |.ext φ=>φ h∧(∃o,h.get? a=some o)∧∀h1 h2:Heap,φ h1->(∀o,h1.get? a=some o->h2.get? a=some o)->φ h2
def HOk (H:Hp) (h:Heap):Prop:=∀a o,H a=some o->ObjOk P w H h a o
end
section
variable {P:Program} {w:World} {H H':Hp} {h h':Heap} {a:Addr} {o:HO}
theorem ObjOk.lt (x:ObjOk P w H h a o):a < h.objs.size:=by
 cases o with
 |lst xs=>obtain ⟨_,_,_,_,e⟩:=x; exact Heap.lt_size e
 |tup xs=>obtain ⟨_,_,_,p⟩:=x; exact p.lt
 |dK kvs=>obtain ⟨_,_,_,_,o,_,_,e,_⟩:=x; exact Heap.lt_size e
 |dT kvs=>obtain ⟨_,_,_,_,o,_,_,e,_⟩:=x; exact Heap.lt_size e
 |set S n=>obtain ⟨o,_,_,_,e,_⟩:=x; exact Heap.lt_size e
 |ins C dx fs=>obtain ⟨_,_,_,e,_⟩:=x; exact Heap.lt_size e
 |own y=>obtain ⟨_,e⟩:=x; exact Heap.lt_size e
 |xd fs=>obtain ⟨_,⟨_,_,_,e,_⟩,_⟩:=x; exact Heap.lt_size e
 |rng lo hi=>obtain ⟨_,_,_,e⟩:=x; exact Heap.lt_size e
 |frz ob u=>obtain ⟨e,_⟩:=x; exact Heap.lt_size e
 |tbl ps=>exact Heap.lt_size (show h.get? a=some _ from x)
 |met f y=>exact Heap.lt_size (show h.get? a=some _ from x)
 |ext φ=>obtain ⟨_,⟨_,e⟩,_⟩:=x; exact Heap.lt_size e
theorem Paired.mapP {α β:Type} {F G:α->β->Prop}:∀{l₁:List α} {l₂:List β},Paired F l₁ l₂->(∀a b,F a b->G a b)->Paired G l₁ l₂
 |_,_,.nil,_=>.nil
 |_,_,.cons r t,f=>.cons (f _ _ r) (Paired.mapP t f)
theorem ObjOk.stay (x:ObjOk P w H h a o) (k:∀b u,(b=a∨H b=some (.own a))->h.get? b=some u->h'.get? b=some u)
    (ho:∀b,H b=some (.own a)->H' b=some (.own a)) (ht:∀b xs,H b=some (.tup xs)->H' b=some (.tup xs)):ObjOk P w H' h' a o:=by
 induction o with
 |lst xs=>obtain ⟨z,its,n,r,e⟩:=x; exact ⟨z,its,n,r,k _ _ (.inl rfl) e⟩
 |tup xs=>obtain ⟨z,its,r,ob,e,c⟩:=x; exact ⟨z,its,r,ob,k _ _ (.inl rfl) e,c⟩
 |dK kvs=>obtain ⟨z,y,vs,r,ob,es,ep,e,c⟩:=x; exact ⟨z,y,vs,r,ob,es,ep,k _ _ (.inl rfl) e,c⟩
 |dT kvs =>
  obtain ⟨z,y,xs,r,ob,es,ep,e,c⟩:=x
  exact ⟨z,y,xs,Paired.mapP r fun p q z=>⟨z.1,ht _ _ z.2.1,z.2.2⟩,ob,es,ep,k _ _ (.inl rfl) e,c⟩
 |set S n=>obtain ⟨ob,es,ep,t,e,c⟩:=x; exact ⟨ob,es,ep,t,k _ _ (.inl rfl) e,c⟩
 |ins C dx fs =>
  obtain ⟨d,z,ne,e,mA,⟨od,es,ep,e2,c⟩,r⟩:=x
  exact ⟨ho _ d,z,ne,k _ _ (.inl rfl) e,mA,⟨od,es,ep,k _ _ (.inr d) e2,c⟩,r⟩
 |own y=>obtain ⟨ob,e⟩:=x; exact ⟨ob,k _ _ (.inl rfl) e⟩
 |xd fs=>obtain ⟨mA,⟨od,es,ep,e,c⟩,r⟩:=x; exact ⟨mA,⟨od,es,ep,k _ _ (.inl rfl) e,c⟩,r⟩
 |rng lo hi=>obtain ⟨t,u,v,e⟩:=x; exact ⟨t,u,v,k _ _ (.inl rfl) e⟩
 |frz ob u ih=>obtain ⟨e,q⟩:=x; exact ⟨k _ _ (.inl rfl) e,ih q⟩
 |tbl ps =>
  have e:h.get? a=some { cls:=.none,data:=.fields ps }:=x
  show h'.get? a=some { cls:=.none,data:=.fields ps }
  exact k a _ (.inl rfl) e
 |met f y =>
  have e:h.get? a=some (PySem.W.methodObj (.ref f) (.ref y)):=x
  show h'.get? a=some (PySem.W.methodObj (.ref f) (.ref y))
  exact k a _ (.inl rfl) e
 |ext φ=>obtain ⟨p,⟨o,e⟩,st⟩:=x; exact ⟨st _ _ p fun o q=>k _ _ (.inl rfl) q,⟨o,k _ _ (.inl rfl) e⟩,st⟩
theorem HOk.lt (x:HOk P w H h) (e:H a=some o):a < h.objs.size:=(x a o e).lt
theorem HOk.fresh (x:HOk P w H h) (e:h.objs.size<=a):H a=none:=by
 cases q:H a with
 |none=>rfl
 |some u=>exact absurd (Nat.lt_of_lt_of_le (x.lt q) e) (Nat.lt_irrefl _)
theorem HOk.kept (x:HOk P w H h) (k:∀b u,h.get? b=some u->h'.get? b=some u):HOk P w H h':=fun a o e =>
 (x a o e).stay (fun b u _ q=>k b u q) (fun _ q=>q) fun _ _ q=>q
theorem HOk.laid (x:HOk P w H h) (k:∀b u,h.get? b=some u->h'.get? b=some u) (hp:h.objs.size<=a) (new:ObjOk P w (upd H a o) h' a o):HOk P w (upd H a o) h':=fun b u e=>by
 have hn:=x.fresh hp
 by_cases hb:b=a
 ·subst hb; rw[Zz]at e; cases e; exact new
 ·rw[Zp hb]at e
  exact (x b u e).stay (fun c v _ q=>k c v q) (fun c q=>by rw[Zp (Z0 q hn)]; exact q) fun c xs q=>by rw[Zp (Z0 q hn)]; exact q
end
def Rd (H:Hp) (a:Addr) (u:HO):Prop:=H a=some u∨∃o,H a=some (.frz o u)
theorem Rd.of {H:Hp} {a:Addr} {u:HO} (h:H a=some u):Rd H a u:=.inl h
theorem Rd.ok {P:Program} {w:World} {H:Hp} {h:Heap} {a:Addr} {u:HO} (r:Rd H a u) (x:HOk P w H h):ObjOk P w H h a u:=by
 rcases r with r|⟨o,r⟩
 ·exact x a u r
 ·obtain ⟨_,q⟩:=x a _ r
  exact q
def Mut:Option HO->Prop
 |some (.lst _)=>True
 |some (.dK _)=>True
 |some (.dT _)=>True
 |some (.set _ _)=>True
 |some (.ins _ _ _)=>True
 |some (.ext _)=>True
 |_=>False
section
variable {P:Program} {w:World} {H:Hp} {h h':Heap} {x e:Addr} {o':HO}
theorem HOk.write (ok:HOk P w H h) (mu:Mut (H x)) (he:e=x∨H e=some (.own x)) (k:∀b u,b≠e->h.get? b=some u->h'.get? b=some u) (heo:∃u,h'.get? e=some u)
    (new:ObjOk P w (upd H x o') h' x o'):HOk P w (upd H x o') h':=fun b u q=>by
 have nown:∀c y,H c=some (.own y)->c≠x:=fun c y r z=>by subst z; rw[r]at mu; exact mu
 have ntup:∀c xs,H c=some (.tup xs)->c≠x:=fun c xs r z=>by subst z; rw[r]at mu; exact mu
 by_cases hb:b=x
 ·subst hb; rw[Zz]at q; cases q; exact new
 ·rw[Zp hb]at q
  by_cases hbe:b=e
  ·have q':H b=some (.own x):=by
    rcases he with z|z
    ·exact absurd (hbe.trans z) hb
    ·rw[hbe]; exact z
   rw[q]at q'; cases q'
   obtain ⟨v,hv⟩:=heo
   exact ⟨v,by rw[hbe]; exact hv⟩
  ·refine (ok b u q).stay (fun c v hc r=>k c v ?_ r) (fun c r=>by rw[Zp (nown c b r)]; exact r) fun c xs r=>by rw[Zp (ntup c xs r)]; exact r
   rcases hc with rfl|hc
   ·exact hbe
   ·rintro rfl
    rcases he with z|z
    ·exact nown c b hc z
    ·rw[hc]at z; cases z; exact hb rfl
end
structure Un (fs ex:List Addr) (H H':Hp) (h h':Heap):Prop where
 keep:∀b o,h.get? b=some o->H b=none->b ∉ fs->b ∉ ex->h'.get? b=some o
 slot:∀b o,h.get? b=some o->H b=none->b∈fs->b ∉ ex->∃sl,h'.get? b=some { o with slots:=sl }
 free:∀b o,h.get? b=some o->H b=none->b ∉ ex->H' b=none
 there:∀b o,h.get? b=some o->b ∉ ex->∃o',h'.get? b=some o'
 tups:∀b xs,H b=some (.tup xs)->H' b=some (.tup xs)
 frzs:∀b o u,H b=some (.frz o u)->H' b=some (.frz o u)
 tbls:∀b ps,H b=some (.tbl ps)->∃more,H' b=some (.tbl (ps++more))
section
variable {fs fs' ex ex':List Addr} {H H1 H2:Hp} {h h1 h2 h':Heap} {a x e:Addr} {o:HO}
theorem Un.any (u:Un fs ex H H1 h h1) {b:Addr} {ob:Obj} (q:h.get? b=some ob) (n:H b=none) (hx:b ∉ ex):∃sl,h1.get? b=some { ob with slots:=sl }:=by
 by_cases hb:b∈fs
 ·exact u.slot b ob q n hb hx
 ·exact ⟨ob.slots,u.keep b ob q n hb hx⟩
theorem Un.trans (a:Un fs ex H H1 h h1) (b:Un fs ex H1 H2 h1 h2):Un fs ex H H2 h h2 where
 keep:=fun c ob q n hc hx=>b.keep c ob (a.keep c ob q n hc hx) (a.free c ob q n hx) hc hx
 slot:=fun c ob q n hc hx=>by
  obtain ⟨sl,e1⟩:=a.slot c ob q n hc hx
  obtain ⟨sl',e2⟩:=b.slot c _ e1 (a.free c ob q n hx) hc hx
  exact ⟨sl',e2⟩
 free:=fun c ob q n hx=>by
  obtain ⟨o',e1⟩:=a.there c ob q hx
  exact b.free c o' e1 (a.free c ob q n hx) hx
 there:=fun c ob q hx=>by
  obtain ⟨o',e1⟩:=a.there c ob q hx
  exact b.there c o' e1 hx
 tups:=fun c xs q=>b.tups c xs (a.tups c xs q)
 frzs:=fun c ob xs q=>b.frzs c ob xs (a.frzs c ob xs q)
 tbls:=fun c ps q=>by
  obtain ⟨m1,e1⟩:=a.tbls c ps q
  obtain ⟨m2,e2⟩:=b.tbls c _ e1
  exact ⟨m1++m2,by rw[e2,Array.append_assoc]⟩
theorem Un.kept (k:∀b u,h.get? b=some u->h'.get? b=some u):Un fs ex H H h h' :=
 ⟨fun b ob q _ _ _=>k b ob q,fun b ob q _ _ _=>⟨ob.slots,k b ob q⟩,fun _ _ _ n _=>n,fun b ob q _=>⟨ob,k b ob q⟩,fun _ _ q=>q,fun _ _ _ q=>q,fun _ ps q=>⟨#[],by rw[q]; simp⟩⟩
theorem Un.refl:Un fs ex H H h h:=Un.kept fun _ _ q=>q
theorem Un.laid (k:∀b u,h.get? b=some u->h'.get? b=some u) (hp:h.objs.size<=a) (hn:H a=none):Un fs ex H (upd H a o) h h' where
 keep:=fun b u q _ _ _=>k b u q
 slot:=fun b u q _ _ _=>⟨u.slots,k b u q⟩
 free:=fun b u q n _=>by rw[Zp (Nat.ne_of_lt (Nat.lt_of_lt_of_le (Heap.lt_size q) hp))]; exact n
 there:=fun b u q _=>⟨u,k b u q⟩
 tups:=fun b xs q=>by rw[Zp (Z0 q hn)]; exact q
 frzs:=fun b u xs q=>by rw[Zp (Z0 q hn)]; exact q
 tbls:=fun b ps q=>⟨#[],by rw[Zp (Z0 q hn),q]; simp⟩
theorem Un.write (mu:Mut (H x)) (he:e=x∨H e=some (.own x)) (k:∀b u,b≠e->h.get? b=some u->h'.get? b=some u) (heo:∃u,h'.get? e=some u):Un fs ex H (upd H x o) h h':=by
 have hx:∀b,H b=none->b≠x:=fun b n z=>by subst z; rw[n]at mu; exact mu
 have hb:∀b,H b=none->b≠e:=fun b n z=>by
  subst z
  rcases he with r|r
  ·exact hx b n r
  ·rw[n]at r; cases r
 have hm:∀b u,H b=some u->¬ Mut (some u)->b≠x:=fun b u q nm z=>by subst z; rw[q]at mu; exact nm mu
 refine ⟨fun b u q n _ _=>k b u (hb b n) q,fun b u q n _ _=>⟨u.slots,k b u (hb b n) q⟩,fun b u q n _=>by rw[Zp (hx b n)]; exact n,fun b u q _=>?_,
  fun b xs q=>by rw[Zp (hm b _ q fun z=>z)]; exact q,fun b u xs q=>by rw[Zp (hm b _ q fun z=>z)]; exact q,fun b ps q=>⟨#[],by rw[Zp (hm b _ q fun z=>z),q]; simp⟩⟩
 by_cases hbe:b=e
 ·subst hbe; exact heo
 ·exact ⟨u,k b u hbe q⟩
end
def trk (h:Heap) (H:Hp):List Addr:=(List.range h.objs.size).filter fun a=>(H a).isSome
def R6 (h:Heap) (H:Hp):Heap:=PySem.W.hideAll h (trk h H)
theorem ME (h:Heap) (H:Hp):(R6 h H).objs.size=h.objs.size:=PySem.W.hideAll_size _ _
theorem KN {h:Heap} {H:Hp} {b:Addr} {o:Obj} (e:h.get? b=some o) (n:H b=none):(R6 h H).get? b=some o :=
 PySem.W.hideAll_get _ e fun hm=>by
  have q:(H b).isSome=true:=(List.mem_filter.mp hm).2
  rw[n]at q; simp at q
theorem Jb {h:Heap} {H:Hp} {b:Addr} {o:Obj} (e:(R6 h H).get? b=some o):h.get? b=some o∧H b=none:=by
 have e':h.get? b=some o:=PySem.W.of_hideAll (trk h H) e
 refine ⟨e',?_⟩
 cases q:H b with
 |none=>rfl
 |some x =>
  have hm:b∈trk h H:=List.mem_filter.mpr ⟨List.mem_range.mpr (Heap.lt_size e'),by simp[q]⟩
  have z:(R6 h H).get? b=none:=PySem.W.hideAll_none (trk h H) hm
  rw[z]at e; cases e
open PySem PySem.Spec PyProof.Rows
structure Mod (K:PySem.W.Frag) (mg:Str->Option Value) (base:Heap):Prop where
 kin:K.In base
 glob:base.Ns mainGlobals mg
 blt:∃mb,base.Ns builtinsNs mb∧∀x:Str,x≠"__name__"->mb x=bootBuiltins x
 nolimit:base.NoLimit
structure Cx where
 prog:Program
 w:World
 K:PySem.W.Frag
 mg:Str->Option Value
 base:Heap
 A:Around
 N:List Str
 s₀:Shared
 H₀:Hp
 env:Env
 outer:List Env
 stack:List Env
 ex:List Addr
 fn:Str->Bool
 calm:Bool
 pn:List (Addr × Obj)
 xe:Value->Shared->Prop
def frs (l:List Env):List Addr:=l.filterMap (·.frame)
abbrev Cx.fs (X:Cx):List Addr:=frs X.outer
def Vis (sc:Scope) (x:Str):Prop:=sc.names.lookup x=some .local∨sc.names.lookup x=some .cell∨sc.names.lookup x=some .free
def Loc (sc:Scope) (x:Str):Prop:=sc.names.lookup x=some .local∨sc.names.lookup x=some .cell
def EF (env:Env) (h:Heap) (m:Str->Option Value) (x:Str) (u:Value):Prop :=
 (env.kindOf x=some .local∧m x=some u)∨((env.kindOf x=some .cell∨env.kindOf x=some .free)∧∃c,env.cells.lookup x=some c∧h.IsCell c (some u))
structure Cx.Ok (X:Cx):Prop where
 mod:Mod X.K X.mg X.base
 kind:X.env.scope.kind=.function
 glob:X.env.globals=mainGlobals
 blt:X.env.builtins=builtinsNs
 above:X.s₀.heap.objs.size<=X.env.locals
 inj:∀x y c,X.env.cells.lookup x=some c->X.env.cells.lookup y=some c->x=y
 has:∀x,(X.env.kindOf x=some .cell∨X.env.kindOf x=some .free)->∃c,X.env.cells.lookup x=some c
 cab:∀x c,X.fn x=true->X.env.cells.lookup x=some c->X.s₀.heap.objs.size<=c
 hd:X.calm=true->X.A.handled=none
 frames:X.A.frames=some X.stack
 stk:X.stack=X.outer∨(X.stack=X.env::X.outer∧X.env.frame=some X.env.locals)
 exf:∀b∈X.ex,b≠X.env.locals∧∀x c,X.env.cells.lookup x=some c->c≠b
 bs:∀b o,X.base.get? b=some o->X.s₀.heap.get? b=some o∧X.H₀ b=none
 bsz:X.base.objs.size<=X.s₀.heap.objs.size
 noex:∀b o,X.base.get? b=some o->b ∉ X.ex
 exfs:∀b∈X.ex,b ∉ X.fs
 funs:X.s₀.heap.FunFrames X.base X.outer
 frf:∀b∈X.fs,X.H₀ b=none
structure Inv (X:Cx) (pins:List (Addr × Obj)) (σ:List (Option V)) (H:Hp) (s:Shared):Prop where
 ok:X.Ok
 os:s.os=X.s₀.os
 bare:AllBare s.gens
 base:Un X.fs X.ex X.H₀ H X.s₀.heap s.heap
 loc:∃m,s.heap.Ns X.env.locals m∧∀(i:Nat) (x:Str) (v:V),X.N[i]?=some x->σ[i]?=some (some v)->Vis X.env.scope x->∃u,RelV v u∧EF X.env s.heap m x u
 cell:∀x c,X.env.cells.lookup x=some c->∃v,s.heap.IsCell c v
 free:H X.env.locals=none
 freeC:∀x c,X.env.cells.lookup x=some c->H c=none
 pin:∀p∈X.pn++pins,s.heap.get? p.1=some p.2∧H p.1=none∧p.1≠X.env.locals∧p.1 ∉ X.fs∧∀v,p.2.data≠.cell v
 hok:HOk X.prog X.w H s.heap
 len:σ.length=X.N.length
section
variable {X:Cx} {pins:List (Addr × Obj)} {σ:List (Option V)} {H H':Hp} {s:Shared} {h':Heap}
theorem Cx.Ok.nofr (ok:X.Ok) {b:Addr} {o:Obj} (e:X.base.get? b=some o):b ∉ X.fs:=fun hb=>by
 have:=(ok.funs.mem hb).1
 rw[e]at this; cases this
theorem Inv.bs (I:Inv X pins σ H s):∀b o,X.base.get? b=some o->s.heap.get? b=some o∧H b=none:=fun b o e =>
 ⟨I.base.keep b o (I.ok.bs b o e).1 (I.ok.bs b o e).2 (I.ok.nofr e) (I.ok.noex b o e),I.base.free b o (I.ok.bs b o e).1 (I.ok.bs b o e).2 (I.ok.noex b o e)⟩
theorem Inv.bk (I:Inv X pins σ H s):∀b o,X.base.get? b=some o->s.heap.get? b=some o:=fun b o e=>(I.bs b o e).1
theorem Inv.mod (I:Inv X pins σ H s):Mod X.K X.mg X.base:=I.ok.mod
theorem Inv.kIn (I:Inv X pins σ H s):X.K.In s.heap:=I.ok.mod.kin.keeps I.bk
theorem Inv.lt (I:Inv X pins σ H s):X.env.locals < s.heap.objs.size:=let ⟨_,hn,_⟩:=I.loc; hn.lt
theorem Inv.sz (I:Inv X pins σ H s):X.s₀.heap.objs.size<=s.heap.objs.size:=Nat.le_trans I.ok.above (Nat.le_of_lt I.lt)
theorem Inv.nofs (I:Inv X pins σ H s) {a:Addr} (h:s.heap.objs.size<=a):a ∉ X.fs:=fun hb=>by
 obtain ⟨_,o,ho,_⟩:=I.ok.funs.mem hb
 exact absurd (Nat.lt_of_lt_of_le (Heap.lt_size ho) (Nat.le_trans I.sz h)) (Nat.lt_irrefl _)
theorem Inv.cne (I:Inv X pins σ H s):∀x c,X.env.cells.lookup x=some c->c≠X.env.locals:=fun x c e z=>by
 obtain ⟨v,o,ho,hd⟩:=I.cell x c e
 obtain ⟨m,⟨o',es,ep,ho',hd',_⟩,_⟩:=I.loc
 rw[z,ho']at ho; cases ho; rw[hd']at hd; cases hd
theorem Inv.funs (I:Inv X pins σ H s):s.heap.FunFrames X.base X.outer:=by
 have all:∀(l:List Env),(∀b∈frs l,b∈X.fs)->X.s₀.heap.FunFrames X.base l->s.heap.FunFrames X.base l:=by
  intro l
  induction l with
  |nil=>intro _ _; trivial
  |cons env r ih =>
   intro hs hl
   obtain ⟨hk,⟨L,o,hf,hn,ho,hd⟩,hr⟩:=hl
   have hL:L∈X.fs:=hs L (by unfold frs; rw[List.filterMap_cons,hf]; exact List.mem_cons_self)
   obtain ⟨sl,e⟩:=I.base.slot L o ho (I.ok.frf L hL) hL fun z=>I.ok.exfs L z hL
   exact ⟨hk,⟨L,_,hf,hn,e,hd⟩,ih (fun b hb=>hs b (by unfold frs; rw[List.filterMap_cons,hf]; exact List.mem_cons_of_mem _ hb)) hr⟩
 exact all X.outer (fun _ hb=>hb) I.ok.funs
theorem Inv.stack (I:Inv X pins σ H s):s.heap.FunFrames X.base X.stack:=by
 rcases I.ok.stk with e|⟨e,hf⟩
 ·rw[e]; exact I.funs
 ·rw[e]
  obtain ⟨m,hn,_⟩:=I.loc
  refine .cons (by rw[I.ok.kind]; decide) hf hn ?_ I.funs
  exact Heap.get?_none_of_le (Nat.le_trans I.ok.bsz I.ok.above)
theorem Inv.stkSub (I:Inv X pins σ H s):∀b∈frs X.stack,b∈X.env.locals::X.fs:=fun b hb=>by
 rcases I.ok.stk with e|⟨e,hf⟩
 ·rw[e]at hb; exact List.mem_cons_of_mem _ hb
 ·rw[e]at hb
  unfold frs at hb
  rw[List.filterMap_cons,hf]at hb
  exact hb
theorem Inv.stkFree (I:Inv X pins σ H s):∀b∈frs X.stack,H b=none:=fun b hb=>by
 rcases List.mem_cons.mp (I.stkSub b hb) with e|hb
 ·rw[e]; exact I.free
 ·obtain ⟨_,o,ho,_⟩:=I.ok.funs.mem hb
  exact I.base.free b o ho (I.ok.frf b hb) fun z=>I.ok.exfs b z hb
theorem Inv.step {g':Array GenState} {t':Nat} {d':Drawn} {ch:List Addr} (I:Inv X pins σ H s)
    (hch:∀b∈ch,(b∈X.ex∨X.s₀.heap.objs.size<=b)∧b≠X.env.locals∧(∀x c,X.env.cells.lookup x=some c->c≠b)∧∀p∈X.pn++pins,p.1≠b)
    (keep:∀b o,b≠X.env.locals->b ∉ X.fs->b ∉ ch->s.heap.get? b=some o->H b=none->h'.get? b=some o)
    (slot:∀b o,b≠X.env.locals->b∈X.fs->b ∉ ch->s.heap.get? b=some o->H b=none->∃sl,h'.get? b=some { o with slots:=sl }) (free:∀b o,b ∉ ch->s.heap.get? b=some o->H b=none->H' b=none)
    (there:∀b o,b ∉ ch->s.heap.get? b=some o->∃o',h'.get? b=some o')
    (tups:∀b xs,H b=some (.tup xs)->H' b=some (.tup xs)) (frzs:∀b o u,H b=some (.frz o u)->H' b=some (.frz o u)) (tbls:∀b ps,H b=some (.tbl ps)->∃more,H' b=some (.tbl (ps++more)))
    (ns:∀m,s.heap.Ns X.env.locals m->h'.Ns X.env.locals m) (hok:HOk X.prog X.w H' h') (hg:AllBare g') :
    Inv X pins σ H' { s with heap:=h',gens:=g',drawn:=d',toks:=t' }:=by
 have neL:∀b o,X.s₀.heap.get? b=some o->b≠X.env.locals:=fun b o e=>Nat.ne_of_lt (Nat.lt_of_lt_of_le (Heap.lt_size e) I.ok.above)
 have neC:∀b o,X.s₀.heap.get? b=some o->b ∉ X.ex->b ∉ ch:=fun b o e hx hb=>by
  rcases (hch b hb).1 with z|z
  ·exact hx z
  ·exact absurd (Nat.lt_of_lt_of_le (Heap.lt_size e) z) (Nat.lt_irrefl _)
 have cellK:∀x c,X.env.cells.lookup x=some c->∀v,s.heap.IsCell c v->h'.IsCell c v:=fun x c e v ⟨o,ho,hd⟩=>by
  have nch:c ∉ ch:=fun z=>(hch c z).2.2.1 x c e rfl
  by_cases hc:c∈X.fs
  ·obtain ⟨sl,q⟩:=slot c o (I.cne x c e) hc nch ho (I.freeC x c e)
   exact ⟨_,q,hd⟩
  ·exact ⟨o,keep c o (I.cne x c e) hc nch ho (I.freeC x c e),hd⟩
 refine ⟨I.ok,I.os,hg,⟨fun b o e n hb hx=>?_,fun b o e n hb hx=>?_,fun b o e n hx=>?_,fun b o e hx=>?_,fun b xs e=>tups b xs (I.base.tups b xs e),fun b o xs e=>frzs b o xs (I.base.frzs b o xs e),fun b ps e=>?_⟩,?_,fun x c e=>?_,?_,fun x c e=>?_,fun p hp=>?_,hok,I.len⟩
 ·exact keep b o (neL b o e) hb (neC b o e hx) (I.base.keep b o e n hb hx) (I.base.free b o e n hx)
 ·obtain ⟨sl,e1⟩:=I.base.slot b o e n hb hx
  obtain ⟨sl',e2⟩:=slot b _ (neL b o e) hb (neC b o e hx) e1 (I.base.free b o e n hx)
  exact ⟨sl',e2⟩
 ·obtain ⟨o',e1⟩:=I.base.there b o e hx
  exact free b o' (neC b o e hx) e1 (I.base.free b o e n hx)
 ·obtain ⟨o',e1⟩:=I.base.there b o e hx
  exact there b o' (neC b o e hx) e1
 ·obtain ⟨m1,e1⟩:=I.base.tbls b ps e
  obtain ⟨m2,e2⟩:=tbls b _ e1
  exact ⟨m1++m2,by rw[e2,Array.append_assoc]⟩
 ·obtain ⟨m,hn,hl⟩:=I.loc
  refine ⟨m,ns m hn,fun i x v e1 e2 e3=>?_⟩
  obtain ⟨u,r,l⟩:=hl i x v e1 e2 e3
  refine ⟨u,r,?_⟩
  rcases l with l|⟨k,c,e,z⟩
  ·exact .inl l
  ·exact .inr ⟨k,c,e,cellK x c e _ z⟩
 ·obtain ⟨v,z⟩:=I.cell x c e
  exact ⟨v,cellK x c e v z⟩
 ·obtain ⟨m,⟨o,_,_,ho,_⟩,_⟩:=I.loc
  exact free _ o (fun z=>(hch _ z).2.1 rfl) ho I.free
 ·obtain ⟨v,o,ho,hd⟩:=I.cell x c e
  exact free c o (fun z=>(hch c z).2.2.1 x c e rfl) ho (I.freeC x c e)
 ·obtain ⟨e,n,ne,nf,d⟩:=I.pin p hp
  have nch:p.1 ∉ ch:=fun z=>(hch p.1 z).2.2.2 p hp rfl
  exact ⟨keep p.1 p.2 ne nf nch e n,free p.1 p.2 nch e n,ne,nf,d⟩
theorem Inv.un {t':Nat} (I:Inv X pins σ H s) (u:Un X.fs [] H H' s.heap h') (hok:HOk X.prog X.w H' h'):Inv X pins σ H' { s with heap:=h',toks:=t' }:=by
 obtain ⟨m,⟨o,es,ep,ho,r⟩,_⟩:=id I.loc
 obtain ⟨sl,hL⟩:=u.any ho I.free (by simp)
 exact I.step (g':=s.gens) (d':=s.drawn) (ch:=[]) (fun _ z=>nomatch z) (fun b o _ hb _ e n=>u.keep b o e n hb (by simp)) (fun b o _ hb _ e n=>u.slot b o e n hb (by simp)) (fun b o _ e n=>u.free b o e n (by simp)) (fun b o _ e=>u.there b o e (by simp)) u.tups u.frzs u.tbls (fun m' hm=>by
  obtain ⟨o',es',ep',ho',r'⟩:=hm
  rw[ho]at ho'; cases ho'
  exact ⟨_,es',ep',hL,r'⟩) hok I.bare
theorem Inv.call {g':Array GenState} {t':Nat} {d':Drawn} {ch:List Addr} (I:Inv X pins σ H s) (u:Un (frs X.stack) ch H H' s.heap h') (hok:HOk X.prog X.w H' h') (hg:AllBare g')
    (hch:∀b∈ch,(b∈X.ex∨X.s₀.heap.objs.size<=b)∧b≠X.env.locals∧(∀x c,X.env.cells.lookup x=some c->c≠b)∧∀p∈X.pn++pins,p.1≠b) :
    Inv X pins σ H' { s with heap:=h',gens:=g',drawn:=d',toks:=t' }:=by
 obtain ⟨m,⟨o,es,ep,ho,r⟩,_⟩:=id I.loc
 obtain ⟨sl,hL⟩:=u.any ho I.free fun z=>(hch _ z).2.1 rfl
 exact I.step (ch:=ch) hch (fun b o hL hb hc e n=>u.keep b o e n (fun z=>(List.mem_cons.mp (I.stkSub b z)).elim hL hb) hc) (fun b o _ _ hc e n=>u.any e n hc) (fun b o hc e n=>u.free b o e n hc) (fun b o hc e=>u.there b o e hc) u.tups u.frzs u.tbls (fun m' hm=>by
  obtain ⟨o',es',ep',ho',r'⟩:=hm
  rw[ho]at ho'; cases ho'
  exact ⟨_,es',ep',hL,r'⟩) hok hg
theorem Inv.turned {t':Nat} {it:Addr} (I:Inv X pins σ H s) (k:∀b o,b≠it->s.heap.get? b=some o->h'.get? b=some o) (hn:H it=none) (hL:it≠X.env.locals)
    (h1:it∈X.ex∨X.s₀.heap.objs.size<=it) (h2:∀x c,X.env.cells.lookup x=some c->c≠it) (h3:∀p∈X.pn++pins,p.1≠it):Inv X pins σ H { s with heap:=h',toks:=t' }:=by
 have nit:∀b u,H b=some u->b≠it:=fun b u e z=>by rw[z,hn]at e; cases e
 refine I.step (g':=s.gens) (d':=s.drawn) (ch:=[it]) (fun b hb=>?_) (fun b o _ _ hc e _=>k b o (fun z=>hc (by simp[z])) e) (fun b o _ _ hc e _=>⟨o.slots,k b o (fun z=>hc (by simp[z])) e⟩) (fun _ _ _ _ n=>n)
  (fun b o hc e=>⟨o,k b o (fun z=>hc (by simp[z])) e⟩) (fun _ _ e=>e) (fun _ _ _ e=>e) (fun b ps e=>⟨#[],by rw[e]; simp⟩) (fun m hm=>?_) (fun b u e=>?_) I.bare
 ·have e:b=it:=by simpa using hb
  subst e
  exact ⟨h1,hL,h2,h3⟩
 ·obtain ⟨o,es,ep,ho,r⟩:=hm
  exact ⟨o,es,ep,k _ o (Ne.symm hL) ho,r⟩
 ·refine (I.hok b u e).stay (fun c v hc q=>k c v ?_ q) (fun _ q=>q) fun _ _ q=>q
  rcases hc with z|z
  ·rw[z]; exact nit b u e
  ·exact nit c _ z
theorem Inv.tok (I:Inv X pins σ H s) (t:Nat):Inv X pins σ H { s with toks:=t }:=I.un (h':=s.heap) (t':=t) Un.refl I.hok
theorem Inv.kept {t':Nat} (I:Inv X pins σ H s) (k:∀b u,s.heap.get? b=some u->h'.get? b=some u):Inv X pins σ H { s with heap:=h',toks:=t' }:=I.un (Un.kept k) (I.hok.kept k)
theorem Inv.laid {a:Addr} {o:HO} {t':Nat} (I:Inv X pins σ H s) (k:∀b u,s.heap.get? b=some u->h'.get? b=some u) (hp:s.heap.objs.size<=a) (new:ObjOk X.prog X.w (upd H a o) h' a o) :
    Inv X pins σ (upd H a o) { s with heap:=h',toks:=t' }:=I.un (Un.laid k hp (I.hok.fresh hp)) (I.hok.laid k hp new)
theorem Inv.write {x e:Addr} {o:HO} {t':Nat} (I:Inv X pins σ H s) (mu:Mut (H x)) (he:e=x∨H e=some (.own x)) (k:∀b u,b≠e->s.heap.get? b=some u->h'.get? b=some u) (heo:∃u,h'.get? e=some u)
    (new:ObjOk X.prog X.w (upd H x o) h' x o):Inv X pins σ (upd H x o) { s with heap:=h',toks:=t' }:=I.un (Un.write mu he k heo) (I.hok.write mu he k heo new)
theorem Inv.pins_of {pins':List (Addr × Obj)} (I:Inv X pins σ H s) (h:∀p∈pins',s.heap.get? p.1=some p.2∧H p.1=none∧p.1≠X.env.locals∧p.1 ∉ X.fs∧∀v,p.2.data≠.cell v):Inv X pins' σ H s :=
 ⟨I.ok,I.os,I.bare,I.base,I.loc,I.cell,I.free,I.freeC,fun p hp=>(List.mem_append.mp hp).elim (fun z=>I.pin p (List.mem_append_left _ z)) (h p),I.hok,I.len⟩
theorem TZ {N:List Str} (hN:N.Nodup) {i j:Nat} {x:Str} (a:N[i]?=some x) (b:N[j]?=some x):i=j:=by
 obtain ⟨h1,e1⟩:=List.getElem?_eq_some_iff.mp a
 obtain ⟨h2,e2⟩:=List.getElem?_eq_some_iff.mp b
 exact (List.getElem_inj hN).mp (e1.trans e2.symm)
theorem Rr {M:Model} {A:Around} {E:Value->Shared->Prop} {i:Nat} {x:Str} {v:V} {u:Value} {Q:Unit->Shared->Prop} (I:Inv X pins σ H s) (hN:X.N.Nodup) (hi:X.N[i]?=some x) (hx:Loc X.env.scope x) (r:RelV v u)
    (h:∀s',Inv X pins (σ.set i (some v)) H s'->(∃a,Heap.SameBut a s.heap s'.heap∧(a=X.env.locals∨X.env.cells.lookup x=some a))->Q () s') (hf:X.fn x=true∨X.env.scope.names.lookup x=some .local:=by first|exact .inl rfl|exact .inr rfl|assumption):wpAny M A (storeName X.env x u) Q E s:=by
 obtain ⟨m,hn,hl⟩:=id I.loc
 have hcls:(X.env.scope.kind == .class || (X.env.scope.kind == .module&&X.env.locals != X.env.globals))=false:=by rw[I.ok.kind]; rfl
 have hiσ:i < σ.length:=by rw[I.len]; exact (List.getElem?_eq_some_iff.mp hi).1
 have cne:=I.cne
 have tracked:∀{a:Addr} {h':Heap},(∃o,s.heap.get? a=some o∧H a=none)->Heap.SameBut a s.heap h'->HOk X.prog X.w H h':=fun {a h'} ha hs b ob e=>by
  obtain ⟨_,_,hfree⟩:=ha
  refine (I.hok b ob e).stay (fun c w' hc q=>(hs.2 c ?_).trans q) (fun _ q=>q) fun _ _ q=>q
  rintro rfl
  rcases hc with rfl|hc
  ·rw[hfree]at e; cases e
  ·rw[hfree]at hc; cases hc
 rcases hx with hk|hk
 ·refine wpAny_storeName_local hk hn (fun h' hn' hs=>?_) hcls
  obtain ⟨oL,_,_,hoL,_⟩:=id hn
  refine h _ ⟨I.ok,I.os,I.bare,⟨fun b o e n hb hx=>?_,fun b o e n hb hx=>?_,I.base.free,fun b o e hx=>?_,I.base.tups,I.base.frzs,I.base.tbls⟩,⟨_,hn',fun j y v' e1 e2 e3=>?_⟩,fun y c e=>?_,I.free,I.freeC,fun p hp=>?_,tracked ⟨oL,hoL,I.free⟩ hs,by simpa using I.len⟩ ⟨_,hs,.inl rfl⟩
  ·exact (hs.2 b (Nat.ne_of_lt (Nat.lt_of_lt_of_le (Heap.lt_size e) I.ok.above))).trans (I.base.keep b o e n hb hx)
  ·obtain ⟨sl,e1⟩:=I.base.slot b o e n hb hx
   exact ⟨sl,(hs.2 b (Nat.ne_of_lt (Nat.lt_of_lt_of_le (Heap.lt_size e) I.ok.above))).trans e1⟩
  ·obtain ⟨o',e1⟩:=I.base.there b o e hx
   exact ⟨o',(hs.2 b (Nat.ne_of_lt (Nat.lt_of_lt_of_le (Heap.lt_size e) I.ok.above))).trans e1⟩
  ·by_cases hj:j=i
   ·subst hj
    rw[hi]at e1; cases e1
    rw[List.getElem?_set_self hiσ]at e2
    cases e2
    exact ⟨u,r,.inl ⟨hk,by simp⟩⟩
   ·rw[List.getElem?_set_ne (Ne.symm hj)]at e2
    obtain ⟨u',r',q⟩:=hl j y v' e1 e2 e3
    refine ⟨u',r',?_⟩
    rcases q with ⟨k,e⟩|⟨k,c,e,z⟩
    ·refine .inl ⟨k,?_⟩
     have:y≠x:=fun e=>hj (TZ hN e1 (e ▸ hi))
     simp[this,e]
    ·exact .inr ⟨k,c,e,z.sameBut hs (cne y c e)⟩
  ·obtain ⟨w',z⟩:=I.cell y c e
   exact ⟨w',z.sameBut hs (cne y c e)⟩
  ·obtain ⟨e,n,ne,nf,d⟩:=I.pin p hp
   exact ⟨(hs.2 p.1 ne).trans e,n,ne,nf,d⟩
 ·have hfn:X.fn x=true:=by
   rcases hf with z|z
   ·exact z
   ·rw[z]at hk; cases hk
  obtain ⟨c,hc⟩:=I.ok.has x (.inl hk)
  obtain ⟨w',z⟩:=I.cell x c hc
  refine wpAny_storeName_cell I.ok.kind hk hc z (fun h' hc' hs=>?_)
  obtain ⟨oc,hoc,hocd⟩:=id z
  refine h { s with heap:=h' } ⟨I.ok,I.os,I.bare,⟨fun b o e n hb hx=>?_,fun b o e n hb hx=>?_,I.base.free,fun b o e hx=>?_,I.base.tups,I.base.frzs,I.base.tbls⟩,⟨m,hn.sameBut hs (Ne.symm (cne x c hc)),fun j y v' e1 e2 e3=>?_⟩,fun y c' e=>?_,I.free,I.freeC,fun p hp=>?_,tracked ⟨oc,hoc,I.freeC x c hc⟩ hs,by simpa using I.len⟩ ⟨c,hs,.inr hc⟩
  ·exact (hs.2 b (Nat.ne_of_lt (Nat.lt_of_lt_of_le (Heap.lt_size e) (I.ok.cab x c hfn hc)))).trans (I.base.keep b o e n hb hx)
  ·obtain ⟨sl,e1⟩:=I.base.slot b o e n hb hx
   exact ⟨sl,(hs.2 b (Nat.ne_of_lt (Nat.lt_of_lt_of_le (Heap.lt_size e) (I.ok.cab x c hfn hc)))).trans e1⟩
  ·obtain ⟨o',e1⟩:=I.base.there b o e hx
   exact ⟨o',(hs.2 b (Nat.ne_of_lt (Nat.lt_of_lt_of_le (Heap.lt_size e) (I.ok.cab x c hfn hc)))).trans e1⟩
  ·by_cases hj:j=i
   ·subst hj
    rw[hi]at e1; cases e1
    rw[List.getElem?_set_self hiσ]at e2
    cases e2
    exact ⟨u,r,.inr ⟨.inl hk,c,hc,hc'⟩⟩
   ·rw[List.getElem?_set_ne (Ne.symm hj)]at e2
    obtain ⟨u',r',q⟩:=hl j y v' e1 e2 e3
    refine ⟨u',r',?_⟩
    rcases q with q|⟨k,c',e,z'⟩
    ·exact .inl q
    ·refine .inr ⟨k,c',e,z'.sameBut hs ?_⟩
     rintro rfl
     exact hj (TZ hN e1 (I.ok.inj _ _ _ e hc ▸ hi))
  ·by_cases hcc:c'=c
   ·subst hcc; exact ⟨_,hc'⟩
   ·obtain ⟨w2,z2⟩:=I.cell y c' e
    exact ⟨w2,z2.sameBut hs hcc⟩
  ·obtain ⟨e,n,ne,nf,d⟩:=I.pin p hp
   refine ⟨(hs.2 p.1 ?_).trans e,n,ne,nf,d⟩
   intro q
   rw[q,hoc]at e
   have q':oc=p.2:=Option.some.inj e
   exact d w' (by rw[← q']; exact hocd)
theorem Us {M:Model} {A:Around} {E:Value->Shared->Prop} {i:Nat} {x:Str} {v:V} {u:Value} {Q:Unit->Shared->Prop} (I:Inv X pins σ H s) (hN:X.N.Nodup) (hi:X.N[i]?=some x) (hx:Loc X.env.scope x) (r:RelV v u)
    (h:∀s',Inv X pins (σ.set i (some v)) H s'->Q () s') (hf:X.fn x=true∨X.env.scope.names.lookup x=some .local:=by first|exact .inl rfl|exact .inr rfl|assumption):wpAny M A (storeName X.env x u) Q E s :=
 Rr I hN hi hx r (fun s' I' _=>h s' I') hf
theorem Inv.call' {s':Shared} {ch:List Addr} (I:Inv X pins σ H s) (ho:s'.os=s.os) (u:Un (frs X.stack) ch H H' s.heap s'.heap) (hok:HOk X.prog X.w H' s'.heap) (hg:AllBare s'.gens)
    (hch:∀b∈ch,(b∈X.ex∨X.s₀.heap.objs.size<=b)∧b≠X.env.locals∧(∀x c,X.env.cells.lookup x=some c->c≠b)∧∀p∈X.pn++pins,p.1≠b):Inv X pins σ H' s':=by
 obtain ⟨h',g',d',t',o'⟩:=s'
 have e:o'=s.os:=ho
 subst e
 exact I.call (g':=g') (t':=t') (d':=d') u hok hg hch
end
abbrev XK:=Value->Option Addr->Hp->Prop
abbrev St:=List (Option V)
abbrev VK:=V->Hp->Prop
abbrev TE:=St->Hp->VK->Prop
abbrev TT:=St->Hp->(Bool->Hp->Prop)->Prop
abbrev TA:=St->Hp->(List V->Hp->Prop)->Prop
structure Ends where
 nx:St->Hp->Prop
 rt:VK
 bk:St->Hp->Prop:=fun _ _=>False
 ct:St->Hp->Prop:=fun _ _=>False
abbrev TS:=Ends->St->Hp->Prop
def EP (X:Cx) (pins:List (Addr × Obj)) (σ:St) (Q:VK) (u:Value) (s':Shared):Prop:=∃v H',Inv X pins σ H' s'∧RelV v u∧Q v H'
def TP (X:Cx) (pins:List (Addr × Obj)) (σ:St) (Q:Bool->Hp->Prop) (b:Bool) (s':Shared):Prop:=∃H',Inv X pins σ H' s'∧Q b H'
def AP (X:Cx) (pins:List (Addr × Obj)) (σ:St) (Q:List V->Hp->Prop) (us:List Value) (s':Shared):Prop:=∃vs H',Inv X pins σ H' s'∧Vals vs us∧Q vs H'
def SP (X:Cx) (pins:List (Addr × Obj)) (D:Ends) (f:Flow) (s':Shared):Prop :=
 match f with
 |.next=>∃σ' H',Inv X pins σ' H' s'∧D.nx σ' H'
 |.brk=>∃σ' H',Inv X pins σ' H' s'∧D.bk σ' H'
 |.cont=>∃σ' H',Inv X pins σ' H' s'∧D.ct σ' H'
 |.ret u=>∃v σ' H',Inv X pins σ' H' s'∧RelV v u∧D.rt v H'
def PE (X:Cx) (e:Expr) (t:TE):Prop :=
 ∀(pins:List (Addr × Obj)) (s:Shared) (σ:St) (H:Hp) (Q:VK),Inv X pins σ H s->t σ H Q->wpAny (model X.prog X.w) X.A (eval e X.env) (EP X pins σ Q) X.xe s
def PT (X:Cx) (e:Expr) (t:TT):Prop :=
 ∀(pins:List (Addr × Obj)) (s:Shared) (σ:St) (H:Hp) (Q:Bool->Hp->Prop),Inv X pins σ H s->t σ H Q->wpAny (model X.prog X.w) X.A (isTrue e X.env (eval e X.env)) (TP X pins σ Q) X.xe s
def PW (X:Cx) (e:Expr) (t:TT):Prop :=
 ∀(whole:Sem Value) (pins:List (Addr × Obj)) (s:Shared) (σ:St) (H:Hp) (Q:Bool->Hp->Prop),Inv X pins σ H s->t σ H Q->wpAny (model X.prog X.w) X.A (isTrue e X.env whole) (TP X pins σ Q) X.xe s
theorem PW.pt {X:Cx} {e:Expr} {t:TT} (h:PW X e t):PT X e t:=h _
def PA (X:Cx) (es:List Expr) (t:TA):Prop :=
 ∀(pos:Pos) (pins:List (Addr × Obj)) (s:Shared) (σ:St) (H:Hp) (Q:List V->Hp->Prop),Inv X pins σ H s->t σ H Q->wpAny (model X.prog X.w) X.A (spliced (backTo pos (starEach es X.env))) (AP X pins σ Q) X.xe s
def PS (X:Cx) (st:Stmt) (t:TS):Prop :=
 ∀(pins:List (Addr × Obj)) (s:Shared) (σ:St) (H:Hp) (D:Ends),Inv X pins σ H s->t D σ H->wpAny (model X.prog X.w) X.A (exec st X.env) (SP X pins D) X.xe s
def PSs (X:Cx) (st:List Stmt) (t:TS):Prop :=
 ∀(pins:List (Addr × Obj)) (s:Shared) (σ:St) (H:Hp) (D:Ends),Inv X pins σ H s->t D σ H->wpAny (model X.prog X.w) X.A (execs st X.env) (SP X pins D) X.xe s
theorem thn {α:Type} {t:Sem α} {Q Q':α->Shared->Prop} {M:Model} {A:Around} {E:Value->Shared->Prop} {s:Shared} (h:wpAny M A t Q E s) (hQ:∀a s,Q a s->Q' a s):wpAny M A t Q' E s:=wpAny_mono h hQ fun _ _ x=>x
open PySem PySem.Spec PyProof.Rows
section
variable {X:Cx}
def G0 (i:Nat):TE:=fun σ H Q=>∃v,σ[i]?=some (some v)∧Q v H
def tC (v:V):TE:=fun _ H Q=>Q v H
theorem HD {i:Nat} {x:Str} {pos:Pos} (hN:X.N[i]?=some x) (hv:Vis X.env.scope x) (hd:(x == ("__debug__":Str))=false:=by decide) (hcd:(x == ("__classdict__":Str))=false:=by decide):PE X (.Name x pos) (G0 i):=by
 intro pins s σ H Q I h
 obtain ⟨v,e,h⟩:=h
 obtain ⟨m,hn,hl⟩:=I.loc
 obtain ⟨u,r,l⟩:=hl i x v hN e hv
 have fin:EP X pins σ Q u s:=⟨v,H,I,r,h⟩
 rcases l with ⟨hk,hm⟩|⟨hk,c,hc,hcell⟩
 ·exact wpAny_Name (wpAny_loadName_local I.ok.kind hk hn hm fin) hd
 ·rcases hk with hk|hk
  ·exact wpAny_Name (wpAny_loadName_cell I.ok.kind hk hc hcell fin) hd
  ·exact wpAny_Name (wpAny_loadName_free I.ok.kind hk hc hcell fin hcd) hd
theorem Gk {i j pos}:PE X (.Constant (.int i) j pos) (tC (.int i)):=fun _ _ _ H _ I h=>wpAny_Constant_int ⟨.int i,H,I.tok _,⟨_,rfl⟩,h⟩
theorem Fi {b j pos}:PE X (.Constant (.bool b) j pos) (tC (.bl b)):=fun _ _ _ H _ I h=>Constant_bool ⟨.bl b,H,I,rfl,h⟩
theorem HB {j pos}:PE X (.Constant .none j pos) (tC .non):=fun _ _ _ H _ I h=>Constant_none ⟨.non,H,I,rfl,h⟩
theorem LG {x j pos}:PE X (.Constant (.str x) j pos) (tC (.str x)):=fun _ _ _ H _ I h=>Calls.Constant_str ⟨.str x,H,I.tok _,⟨_,rfl⟩,h⟩
def Gl (X:Cx) (x:Str):Prop:=X.env.kindOf x=some .globalImplicit
theorem Uj {E:Value->Shared->Prop} {pins:List (Addr × Obj)} {s:Shared} {σ:St} {H:Hp} {x:Str} {u:Value} {pos:Pos} {Q:Value->Shared->Prop} (I:Inv X pins σ H s) (hg:Gl X x) (hm:X.mg x=some u) (h:Q u s)
    (hd:(x == ("__debug__":Str))=false:=by decide):wpAny (model X.prog X.w) X.A (eval (.Name x pos) X.env) Q E s :=
 Calls.Name_function_global I.ok.kind hg (Calls.loadGlobal_global (by rw[I.ok.glob]; exact I.mod.glob.keeps I.bk) hm h) hd
theorem QA {E:Value->Shared->Prop} {pins:List (Addr × Obj)} {s:Shared} {σ:St} {H:Hp} {x:Str} {u:Value} {pos:Pos} {Q:Value->Shared->Prop} (I:Inv X pins σ H s) (hg:Gl X x) (hm:X.mg x=none) (hv:bootBuiltins x=some u) (h:Q u s)
    (hn:x≠"__name__":=by decide) (hd:(x == ("__debug__":Str))=false:=by decide):wpAny (model X.prog X.w) X.A (eval (.Name x pos) X.env) Q E s:=by
 obtain ⟨mb,h1,h2⟩:=I.mod.blt
 exact Calls.Name_function_global I.ok.kind hg (Calls.loadGlobal_builtin (by rw[I.ok.glob]; exact I.mod.glob.keeps I.bk) hm (by rw[I.ok.blt]; exact h1.keeps I.bk) ((h2 x hn).trans hv) h) hd
theorem W5 {x:Str} {v:V} {u:Value} {pos:Pos} (hg:Gl X x) (hm:X.mg x=some u) (r:RelV v u) (hd:(x == ("__debug__":Str))=false:=by decide):PE X (.Name x pos) (tC v) :=
 fun _ _ _ H _ I h=>Uj I hg hm ⟨v,H,I,r,h⟩ hd
theorem Jt {x:Str} {v:V} {u:Value} {pos:Pos} (hg:Gl X x) (hm:X.mg x=none) (hv:bootBuiltins x=some u) (r:RelV v u) (hn:x≠"__name__":=by decide) (hd:(x == ("__debug__":Str))=false:=by decide):PE X (.Name x pos) (tC v) :=
 fun _ _ _ H _ I h=>QA I hg hm hv ⟨v,H,I,r,h⟩ hn hd
variable {a b:Expr} {ta tb:TE} {pos:Pos}
def PC (X:Cx) (op:CmpOp) (a b:Expr) (t:TE):Prop :=
 ∀(pins:List (Addr × Obj)) (s:Shared) (σ:St) (H:Hp) (Q:VK),Inv X pins σ H s->t σ H Q ->
  wpAny (model X.prog X.w) X.A (eval a X.env) (fun v s₁=>wpAny (model X.prog X.w) X.A (eval b X.env) (fun u s₂=>wpAny (model X.prog X.w) X.A (compareOp op v u) (EP X pins σ Q) X.xe s₂) X.xe s₁) X.xe s
theorem Pk (b:Expr) {op:CmpOp} (h:op≠.In) (h2:op≠.NotIn):behindInMarks op b=false:=by
 have e1:(op == CmpOp.In)=false:=by cases op <;> first|rfl|exact absurd rfl h
 have e2:(op == CmpOp.NotIn)=false:=by cases op <;> first|rfl|exact absurd rfl h2
 cases b <;> simp[behindInMarks,e1,e2]
def EY (ta:TE):TE:=fun σ H Q=>ta σ H fun x H1=>Q (.bl (decide (x=.non))) H1
def Ft (ta:TE):TE:=fun σ H Q=>ta σ H fun x H1=>Q (.bl (!decide (x=.non))) H1
theorem RelV.none_iff {x:V} {v:Value} (r:RelV x v):(v == Value.none)=decide (x=.non):=by
 cases x with
 |non=>cases r; rfl
 |bl _=>cases r; rfl
 |int _=>obtain ⟨t,rfl⟩:=r; rfl
 |str _=>obtain ⟨t,rfl⟩:=r; rfl
 |byt _=>obtain ⟨t,rfl⟩:=r; rfl
 |flt _=>obtain ⟨t,rfl⟩:=r; rfl
 |ref _=>cases r; rfl
 |ty _=>cases r; rfl
theorem HP {j pos'} (ha:PE X a ta):PC X .Is a (.Constant .none j pos') (EY ta):=by
 intro pins s σ H Q I h
 refine thn (ha pins s σ H _ I h) fun v s1 ⟨x,H1,I1,r1,q1⟩=>?_
 exact Constant_none (is_none_gen ⟨.bl _,H1,I1,by rw[r1.none_iff]; rfl,q1⟩)
theorem ON {j pos'} (ha:PE X a ta):PC X .IsNot a (.Constant .none j pos') (Ft ta):=by
 intro pins s σ H Q I h
 refine thn (ha pins s σ H _ I h) fun v s1 ⟨x,H1,I1,r1,q1⟩=>?_
 exact Constant_none (isnot_none_gen ⟨.bl _,H1,I1,by rw[r1.none_iff]; rfl,q1⟩)
def tB (t:TE):TT:=fun σ H Q=>t σ H fun x H1=>∃c,x=.bl c∧Q c H1
theorem Kx {op:CmpOp} {t:TE} (h:PC X op a b t) (h1:behindInMarks op b=false:=by first|exact Pk _ (by decide) (by decide)|rfl):PE X (.Compare a [op] [b] pos) t:=fun pins s σ H Q I hw=>wpAny_Compare1 (h pins s σ H Q I hw) h1
theorem Ou {op:CmpOp} {t:TE} (h:PC X op a b t) (h1:behindInMarks op b=false:=by first|exact Pk _ (by decide) (by decide)|rfl):PT X (.Compare a [op] [b] pos) (tB t):=by
 intro pins s σ H Q I hw
 refine wpAny_isTrue_Compare1 (thn (h pins s σ H _ I hw) fun v s1 h1=>thn h1 fun u s2 h2=>thn h2 fun c s3 ⟨x,H1,I1,r1,q1⟩=>?_) h1
 obtain ⟨d,rfl,q⟩:=q1
 cases r1
 exact wpAny_truthy_bool ⟨H1,I1,q⟩
variable {tA tB':TT} {rest:List Expr}
def Ei (t u:TT):TT:=fun σ H Q=>t σ H fun c H1=>if c=true then u σ H1 Q else Q false H1
def tOr (t u:TT):TT:=fun σ H Q=>t σ H fun c H1=>if c=true then Q true H1 else u σ H1 Q
def EZ (t:TT):TT:=fun σ H Q=>t σ H fun c H1=>Q (!c) H1
theorem JX (ha:PT X a tA):PW X (.BoolOp .And [a] pos) tA:=by
 intro wh pins s σ H Q I h
 refine isTrue_and (thn (ha pins s σ H Q I h) fun c s1 e=>?_)
 cases c with
 |true=>exact isTrue_and_nil e
 |false=>exact e
theorem GQ (ha:PT X a tA):PW X (.BoolOp .Or [a] pos) tA:=by
 intro wh pins s σ H Q I h
 refine isTrue_or (thn (ha pins s σ H Q I h) fun c s1 e=>?_)
 cases c with
 |false=>exact isTrue_or_nil e
 |true=>exact e
theorem HQ (ha:PT X a tA) (hb:PW X (.BoolOp .And (b::rest) pos) tB'):PW X (.BoolOp .And (a::b::rest) pos) (Ei tA tB'):=by
 intro wh pins s σ H Q I h
 refine isTrue_and (thn (ha pins s σ H _ I h) fun c s1 ⟨H1,I1,q1⟩=>?_)
 cases c with
 |true=>exact hb wh pins s1 σ H1 Q I1 q1
 |false=>exact ⟨H1,I1,q1⟩
theorem Ez (ha:PT X a tA) (hb:PW X (.BoolOp .Or (b::rest) pos) tB'):PW X (.BoolOp .Or (a::b::rest) pos) (tOr tA tB'):=by
 intro wh pins s σ H Q I h
 refine isTrue_or (thn (ha pins s σ H _ I h) fun c s1 ⟨H1,I1,q1⟩=>?_)
 cases c with
 |true=>exact ⟨H1,I1,q1⟩
 |false=>exact hb wh pins s1 σ H1 Q I1 q1
theorem Gb (ha:PT X a tA):PT X (.UnaryOp .Not a pos) (EZ tA):=by
 intro pins s σ H Q I h
 exact isTrue_not (ha pins s σ H (fun c H1=>Q (!c) H1) I h)
def FW (ta tb:TE):TE:=fun σ H Q=>ta σ H fun x H1=>∃c,x=.bl c∧if c=true then tb σ H1 Q else Q (.bl false) H1
def EV (ta tb:TE):TE:=fun σ H Q=>ta σ H fun x H1=>∃c,x=.bl c∧if c=true then Q (.bl true) H1 else tb σ H1 Q
theorem Hz {op} {t:TE} (h:PE X a t):PE X (.BoolOp op [a] pos) t:=fun pins s σ H Q I hw=>BoolOp_one (h pins s σ H Q I hw)
theorem HL (ha:PE X a ta) (hb:PE X (.BoolOp .And (b::rest) pos) tb):PE X (.BoolOp .And (a::b::rest) pos) (FW ta tb):=by
 intro pins s σ H Q I h
 refine BoolOp_and (thn (ha pins s σ H _ I h) fun v s1 ⟨x,H1,I1,r1,q1⟩=>?_)
 obtain ⟨c,rfl,q1⟩:=q1
 cases r1
 refine wpAny_truthy_bool ?_
 cases c with
 |true=>exact hb pins s1 σ H1 Q I1 q1
 |false=>exact ⟨.bl false,H1,I1,rfl,q1⟩
theorem Ep (ha:PE X a ta) (hb:PE X (.BoolOp .Or (b::rest) pos) tb):PE X (.BoolOp .Or (a::b::rest) pos) (EV ta tb):=by
 intro pins s σ H Q I h
 refine BoolOp_or (thn (ha pins s σ H _ I h) fun v s1 ⟨x,H1,I1,r1,q1⟩=>?_)
 obtain ⟨c,rfl,q1⟩:=q1
 cases r1
 refine wpAny_truthy_bool ?_
 cases c with
 |false=>exact hb pins s1 σ H1 Q I1 q1
 |true=>exact ⟨.bl true,H1,I1,rfl,q1⟩
end
open PySem PySem.Spec PyProof.Rows
def SqL (K:PySem.W.Frag) (H:Hp) (a:Addr) (xs:List V):Prop :=
 Rd H a (.lst xs) ∨
  ∃(o:Obj) (its:Array Value) (n:Nat),K.lookup a=some o∧o.cls=.type "list"∧o.dict=none∧o.data=.seq its n∧its.size<=sizeLine∧Vals xs its.toList
def SqT (K:PySem.W.Frag) (H:Hp) (a:Addr) (xs:List V):Prop :=
 Rd H a (.tup xs) ∨
  ∃(o:Obj) (its:Array Value) (n:Nat),K.lookup a=some o∧o.cls=.type "tuple"∧o.data=.seq its n∧its.size<=sizeLine∧Vals xs its.toList
def E2:Value->Option V
 |.none=>some .non
 |.bool b=>some (.bl b)
 |.int i _=>some (.int i)
 |.str x _=>some (.str x)
 |.bytes b _=>some (.byt b)
 |.float b _=>some (.flt b)
 |.ref a=>some (.ref a)
 |.type n=>some (.ty n)
 |_=>none
theorem RelV.abs {x:V} {u:Value} (r:RelV x u):E2 u=some x:=by
 cases x with
 |non=>cases r; rfl
 |bl _=>cases r; rfl
 |int _=>obtain ⟨t,rfl⟩:=r; rfl
 |str _=>obtain ⟨t,rfl⟩:=r; rfl
 |byt _=>obtain ⟨t,rfl⟩:=r; rfl
 |flt _=>obtain ⟨t,rfl⟩:=r; rfl
 |ref _=>cases r; rfl
 |ty _=>cases r; rfl
theorem RelV.inj {x y:V} {u:Value} (r:RelV x u) (q:RelV y u):x=y:=Option.some.inj (r.abs.symm.trans q.abs)
theorem Vals.inj:∀{xs ys:List V} {us:List Value},Vals xs us->Vals ys us->xs=ys
 |_,_,_,.nil,.nil=>rfl
 |_,_,_,.cons r t,.cons r' t'=>by rw[r.inj r',Vals.inj t t']
section
variable {X:Cx} {pins:List (Addr × Obj)} {σ:St} {H:Hp} {s:Shared} {a:Addr} {xs ys:List V}
theorem SqL.of {K:PySem.W.Frag} (h:H a=some (.lst xs)):SqL K H a xs:=.inl (.inl h)
theorem SqT.of {K:PySem.W.Frag} (h:H a=some (.tup xs)):SqT K H a xs:=.inl (.inl h)
theorem Inv.list (I:Inv X pins σ H s) (h:SqL X.K H a xs):∃its:List Value,Vals xs its∧PlainL s.heap a its.toArray∧xs.length<=sizeLine:=by
 rcases h with h|⟨o,its,n,hk,hc,hd,hs,hz,r⟩
 ·obtain ⟨z,its,n,r,e⟩:=h.ok I.hok
  exact ⟨its,r,⟨_,n,e,rfl,rfl,rfl⟩,z⟩
 ·refine ⟨its.toList,r,⟨o,n,I.kIn a o hk,hc,hd,by simpa using hs⟩,?_⟩
  have e:=r.length
  simp only[Array.length_toList]at e
  omega
theorem Inv.tuple (I:Inv X pins σ H s) (h:SqT X.K H a xs):∃its:List Value,Vals xs its∧IsTup s.heap a its.toArray∧xs.length<=sizeLine:=by
 rcases h with h|⟨o,its,n,hk,hc,hs,hz,r⟩
 ·obtain ⟨z,its,r,p⟩:=h.ok I.hok
  exact ⟨its,r,p,z⟩
 ·refine ⟨its.toList,r,⟨o,I.kIn a o hk,hc,n,by simpa using hs⟩,?_⟩
  have e:=r.length
  simp only[Array.length_toList]at e
  omega
theorem Inv.list_inj (I:Inv X pins σ H s) (h:SqL X.K H a xs) (h':SqL X.K H a ys):xs=ys:=by
 obtain ⟨its,r,⟨o,n,e,_,_,d⟩,_⟩:=I.list h
 obtain ⟨its',r',⟨o',n',e',_,_,d'⟩,_⟩:=I.list h'
 rw[e]at e'; cases e'
 rw[d]at d'
 injection d' with d1 _
 have:its=its':=by simpa using congrArg Array.toList d1
 subst this
 exact r.inj r'
end
abbrev Cx.wish (X:Cx) (E:Value->Shared->Prop):Cx:={ X with xe:=E }
abbrev Cx.nox (X:Cx):Cx:=X.wish fun _ _=>False
theorem Cx.Ok.wish {X:Cx} (ok:X.Ok) (E:Value->Shared->Prop):(X.wish E).Ok :=
 ⟨ok.mod,ok.kind,ok.glob,ok.blt,ok.above,ok.inj,ok.has,ok.cab,ok.hd,ok.frames,ok.stk,ok.exf,ok.bs,ok.bsz,ok.noex,ok.exfs,ok.funs,ok.frf⟩
theorem Cx.Ok.unwish {X:Cx} {E:Value->Shared->Prop} (ok:(X.wish E).Ok):X.Ok :=
 ⟨ok.mod,ok.kind,ok.glob,ok.blt,ok.above,ok.inj,ok.has,ok.cab,ok.hd,ok.frames,ok.stk,ok.exf,ok.bs,ok.bsz,ok.noex,ok.exfs,ok.funs,ok.frf⟩
section
variable {X:Cx} {pins:List (Addr × Obj)} {σ:St} {H:Hp} {s:Shared} {E:Value->Shared->Prop}
theorem Inv.wish (I:Inv X pins σ H s) (E:Value->Shared->Prop):Inv (X.wish E) pins σ H s:=⟨I.ok.wish E,I.os,I.bare,I.base,I.loc,I.cell,I.free,I.freeC,I.pin,I.hok,I.len⟩
theorem Inv.unwish (I:Inv (X.wish E) pins σ H s):Inv X pins σ H s:=⟨I.ok.unwish,I.os,I.bare,I.base,I.loc,I.cell,I.free,I.freeC,I.pin,I.hok,I.len⟩
theorem SP.unwish {D:Ends} {f:Flow} {s':Shared} (h:SP (X.wish E) pins D f s'):SP X pins D f s':=by
 cases f with
 |next=>obtain ⟨σ',H',I,q⟩:=h; exact ⟨σ',H',I.unwish,q⟩
 |brk=>obtain ⟨σ',H',I,q⟩:=h; exact ⟨σ',H',I.unwish,q⟩
 |cont=>obtain ⟨σ',H',I,q⟩:=h; exact ⟨σ',H',I.unwish,q⟩
 |ret u=>obtain ⟨v,σ',H',I,r,q⟩:=h; exact ⟨v,σ',H',I.unwish,r,q⟩
theorem PE.nox {e:Expr} {t:TE} (h:PE X.nox e t):PE X e t:=fun pins s σ H Q I hw =>
 wpAny_mono (h pins s σ H Q (I.wish _) hw) (fun _ _ ⟨v,H',I',r,q⟩=>⟨v,H',I'.unwish,r,q⟩) fun _ _ z=>False.elim z
theorem PT.nox {e:Expr} {t:TT} (h:PT X.nox e t):PT X e t:=fun pins s σ H Q I hw =>
 wpAny_mono (h pins s σ H Q (I.wish _) hw) (fun _ _ ⟨H',I',q⟩=>⟨H',I'.unwish,q⟩) fun _ _ z=>False.elim z
theorem PSs.nox {st:List Stmt} {t:TS} (h:PSs X.nox st t):PSs X st t:=fun pins s σ H D I hw =>
 wpAny_mono (h pins s σ H D (I.wish _) hw) (fun _ _ q=>q.unwish) fun _ _ z=>False.elim z
end
section
variable {X:Cx} {st:Stmt} {rest:List Stmt} {t u:TS} {e:Expr} {te:TE} {pos:Pos}
def FF:TS:=fun D σ H=>D.nx σ H
def EQ (t u:TS):TS:=fun D σ H=>t { D with nx:=u D } σ H
theorem K6:PSs X [] FF:=fun _ _ σ H _ I h=>wpAny_execs_nil ⟨σ,H,I,h⟩
theorem Lr (h1:PS X st t) (h2:PSs X rest u):PSs X (st::rest) (EQ t u):=by
 intro pins s σ H D I h
 refine wpAny_execs_cons (thn (h1 pins s σ H { D with nx:=u D } I h) fun f s1 q=>?_)
 cases f with
 |next =>
  obtain ⟨σ',H',I',q⟩:=q
  exact h2 pins s1 σ' H' D I' q
 |ret v=>exact q
 |brk=>exact q
 |cont=>exact q
theorem Jn (h1:PS X st t):PSs X [st] t:=by
 intro pins s σ H D I h
 refine wpAny_execs_cons (thn (h1 pins s σ H D I h) fun f s1 q=>?_)
 cases f with
 |next=>exact wpAny_execs_nil q
 |ret v=>exact q
 |brk=>exact q
 |cont=>exact q
theorem Inv.quiet {pins:List (Addr × Obj)} {σ:St} {H:Hp} {s:Shared} (I:Inv X pins σ H s):interactive X.env=false:=by simp[interactive,I.ok.kind]
def IB (te:TE):TS:=fun D σ H=>te σ H fun _ H1=>D.nx σ H1
theorem Jh (he:PE X e te) (hs:swapsWith e none pos.line X.env=pure false:=by rfl):PS X (.Expr e pos) (IB te):=by
 intro pins s σ H D I h
 exact wpAny_Expr_any (thn (he pins s σ H _ I h) fun v s1 ⟨x,H1,I1,r1,q1⟩=>⟨σ,H1,I1,q1⟩) I.quiet hs
def EE (te:TE):TS:=fun D σ H=>te σ H D.rt
theorem Ht (he:PE X e te):PS X (.Return (some e) pos) (EE te):=by
 intro pins s σ H D I h
 exact wpAny_Return_some (thn (he pins s σ H _ I h) fun v s1 ⟨x,H1,I1,r1,q1⟩=>⟨x,σ,H1,I1,r1,q1⟩)
def Ed:TS:=fun D _ H=>D.rt .non H
theorem JP:PS X (.Return none pos) Ed:=fun _ _ σ H _ I h=>wpAny_Return_none ⟨.non,σ,H,I,rfl,h⟩
def Hf (c:TT) (t u:TS):TS:=fun D σ H=>c σ H fun b H1=>if b=true then t D σ H1 else u D σ H1
theorem Fm {c:Expr} {a b:List Stmt} {tc:TT} (hc:PT X c tc) (ha:PSs X a t) (hb:PSs X b u):PS X (.If c a b pos) (Hf tc t u):=by
 intro pins s σ H D I h
 refine wpAny_If (thn (hc pins s σ H _ I h) fun d s1 ⟨H1,I1,q1⟩=>?_)
 cases d with
 |true=>exact ha pins s1 σ H1 D I1 q1
 |false=>exact hb pins s1 σ H1 D I1 q1
end
abbrev TG:=V->St->Hp->(St->Hp->Prop)->Prop
def PG (X:Cx) (target:Expr) (t:TG):Prop :=
 ∀(pins:List (Addr × Obj)) (s:Shared) (σ:St) (H:Hp) (v:V) (u:Value) (Q:St->Hp->Prop),Inv X pins σ H s->RelV v u->t v σ H Q ->
  wpAny (model X.prog X.w) X.A (assign target X.env u) (fun _ s'=>∃σ' H',Inv X pins σ' H' s'∧Q σ' H') X.xe s
abbrev GD:=V->V->V->Hp->(Hp->Prop)->Prop
def FK (X:Cx) (t:GD):Prop :=
 ∀(pins:List (Addr × Obj)) (s:Shared) (σ:St) (H:Hp) (o i v:V) (ov iv u:Value) (Q:Hp->Prop),Inv X pins σ H s->RelV o ov->RelV i iv->RelV v u->t o i v H Q ->
  wpAny (model X.prog X.w) X.A (setItem ov iv u) (fun _ s'=>∃H',Inv X pins σ H' s'∧Q H') X.xe s
section
variable {X:Cx} {pos:Pos}
def LY (i:Nat):TG:=fun v σ H Q=>Q (σ.set i (some v)) H
theorem Xj {i:Nat} {x:Str} (hN:X.N.Nodup) (hi:X.N[i]?=some x) (hx:Loc X.env.scope x) (hf:X.fn x=true∨X.env.scope.names.lookup x=some .local:=by first|exact .inl rfl|exact .inr rfl|assumption):PG X (.Name x pos) (LY i):=by
 intro pins s σ H v u Q I r h
 exact wpAny_assign_Name (Us I hN hi hx r (fun s' I'=>⟨_,H,I',h⟩) hf)
def Fn (to ti:TE) (t:GD):TG:=fun v σ H Q=>to σ H fun o H1=>ti σ H1 fun i H2=>t o i v H2 fun H3=>Q σ H3
theorem Wy {o i:Expr} {to ti:TE} {t:GD} (ho:PE X o to) (hi:PE X i ti) (hs:FK X t)
    (ha:∀v,assign (.Subscript o i pos) X.env v=(do
     let ov ← holding [v] (eval o X.env)
     let iv ← holding [v,ov] (eval i X.env)
     standAt pos
     holding [v,ov,iv] (setItem ov iv v)
     release [v,ov,iv] []):=by intro _; rfl):PG X (.Subscript o i pos) (Fn to ti t):=by
 intro pins s σ H v u Q I r h
 rw[ha]
 refine wpAny_bind (wpAny_holding (thn (ho pins s σ H _ I h) fun ov s1 ⟨x,H1,I1,r1,q1⟩=>?_))
 refine wpAny_bind (wpAny_holding (thn (hi pins s1 σ H1 _ I1 q1) fun iv s2 ⟨y,H2,I2,r2,q2⟩=>?_))
 refine wpAny_bind (wpAny_standAt (wpAny_bind (wpAny_holding (thn (hs pins s2 σ H2 x y v ov iv u _ I2 r1 r2 r q2) fun _ s3 ⟨H3,I3,q3⟩=>?_))))
 exact wpAny_release ⟨σ,H3,I3,q3⟩
def FY (te:TE) (g:TG):TS:=fun D σ H=>te σ H fun x H1=>g x σ H1 D.nx
theorem HV {tg e:Expr} {te:TE} {g:TG} (he:PE X e te) (hg:PG X tg g) (hs:swapsWithSole [tg] e pos.line X.env=pure false:=by rfl) (hw:swappedStores [tg] e X.env=pure none:=by rfl)
    (h1:(assignEach [tg] X.env).map (·.2)=[assign tg X.env]:=by rfl):PS X (.Assign [tg] e pos) (FY te g):=by
 intro pins s σ H D I h
 refine wpAny_Assign_stores (thn (he pins s σ H _ I h) fun v s1 ⟨x,H1,I1,r1,q1⟩=>?_) hs hw
 rw[h1]
 exact thn (hg pins s1 σ H1 x v _ I1 r1 q1) fun _ s2 q=>q
theorem Hk {i:Nat} {x:Str} {e:Expr} {te:TE} {pos':Pos} (hN:X.N.Nodup) (hi:X.N[i]?=some x) (hx:Loc X.env.scope x) (he:PE X e te) (hs:swapsWith e (some (.Name x pos')) pos.line X.env=pure false:=by rfl) (hf:X.fn x=true∨X.env.scope.names.lookup x=some .local:=by first|exact .inl rfl|exact .inr rfl|assumption) :
    PS X (.Assign [.Name x pos'] e pos) (FY te (LY i)):=by
 intro pins s σ H D I h
 refine wpAny_Assign_Name (thn (he pins s σ H _ I h) fun v s1 ⟨y,H1,I1,r1,q1⟩=>?_) hs
 exact Us I1 hN hi hx r1 (fun s2 I2=>⟨_,H1,I2,q1⟩) hf
end
section
variable {X:Cx} {pos:Pos}
end
structure It where
 go:Nat->Hp->Prop
 yld:Nat->Hp->V->Hp->Prop
 stop:Nat->Hp->Prop
def TM (X:Cx) (pins:List (Addr × Obj)) (H:Hp) (b:Addr):Prop :=
 H b=none∧b≠X.env.locals∧b ∉ X.fs∧(b∈X.ex∨X.s₀.heap.objs.size<=b)∧(∀x c,X.env.cells.lookup x=some c->c≠b)∧∀p∈X.pn++pins,p.1≠b
theorem Inv.fpOk {X:Cx} {pins:List (Addr × Obj)} {σ:St} {H H':Hp} {s:Shared} {b:Addr} (I:Inv X pins σ H s) (hb:s.heap.objs.size<=b) (hn:H' b=none):TM X pins H' b:=by
 refine ⟨hn,Nat.ne_of_gt (Nat.lt_of_lt_of_le I.lt hb),I.nofs hb,.inr (Nat.le_trans I.sz hb),fun x c e z=>?_,fun p hp z=>?_⟩
 ·obtain ⟨v,q⟩:=I.cell x c e
  exact absurd (Nat.lt_of_lt_of_le q.lt (by rw[z]; exact hb)) (Nat.lt_irrefl _)
 ·exact absurd (Nat.lt_of_lt_of_le (Heap.lt_size (I.pin p hp).1) (by rw[z]; exact hb)) (Nat.lt_irrefl _)
structure Turn (P:Program) (w:World) (K:PySem.W.Frag) (tg:Expr) (J:It) (fp:List Addr) (it:Addr) (tn:Nat->Heap->Prop):Prop where
 mem:it∈fp
 obj:∀i h,tn i h->∀b∈fp,∃o,h.get? b=some o∧∀v,o.data≠.cell v
 keep:∀i h h',tn i h->(∀b∈fp,∀o,h.get? b=some o->h'.get? b=some o)->tn i h'
 item:∀(X:Cx),X.prog=P->X.w=w->X.K=K->X.calm=true->∀(i:Nat) (pins:List (Addr × Obj)) (s:Shared) (σ:St) (H:Hp) (E:Value->Shared->Prop),Inv X pins σ H s->(∀b∈fp,TM X pins H b)->tn i s.heap->J.go i H ->
  wpAny (model P w) X.A (pyNext (.ref it)) (fun r s1=>∃u,r=some u ∧
   wpAny (model P w) X.A (letOwnedTupleGo tg (.ref it) u) (fun _ s2=>∃x H',Inv X pins σ H' s2∧RelV x u∧J.yld i H x H'∧tn (i+1) s2.heap∧∀b∈fp,H' b=none) E s1) E s
 done:∀(X:Cx),X.prog=P->X.w=w->X.K=K->X.calm=true->∀(i:Nat) (pins:List (Addr × Obj)) (s:Shared) (σ:St) (H:Hp) (E:Value->Shared->Prop),Inv X pins σ H s->(∀b∈fp,TM X pins H b)->tn i s.heap->J.stop i H ->
  wpAny (model P w) X.A (pyNext (.ref it)) (fun r s1=>r=none∧Inv X pins σ H s1) E s
 self:∀(A:Around) (i:Nat) (s:Shared) (Q:Value->Shared->Prop) (E:Value->Shared->Prop),tn i s.heap->Q (.ref it) s->wpAny (model P w) A (pyIter (.ref it)) Q E s
abbrev TI:=St->Hp->(It->Hp->Prop)->Prop
def PIE (X:Cx) (pins:List (Addr × Obj)) (σ:St) (tg:Expr) (R:It->Hp->Prop) (itv:Value) (s2:Shared):Prop :=
 ∃(it:Addr) (fp:List Addr) (tn:Nat->Heap->Prop) (J:It) (H':Hp),itv=.ref it∧Inv X pins σ H' s2∧Turn X.prog X.w X.K tg J fp it tn∧tn 0 s2.heap∧(∀b∈fp,TM X pins H' b)∧R J H'
def PI (X:Cx) (tg iter:Expr) (wi:TI):Prop :=
 ∀(pins:List (Addr × Obj)) (s:Shared) (σ:St) (H:Hp) (R:It->Hp->Prop),Inv X pins σ H s->wi σ H R ->
  wpAny (model X.prog X.w) X.A (eval iter X.env) (fun v s1=>wpAny (model X.prog X.w) X.A (pyIter v) (PIE X pins σ tg R) X.xe s1) X.xe s
theorem Ka {M:Model} {A:Around} {E:Value->Shared->Prop} {s:Shared} {tg:Expr} {it:Addr} {u:Value} {o:Obj} {n:String} {vs:Array Value} {Q:Unit->Shared->Prop} (ho:s.heap.get? it=some o) (hc:o.cls=.type n) (hd:o.data=.fields vs)
    (hn:["enumerate","zip","dict_itemiterator","dict_reverseitemiterator","odict_iterator","itertools.zip_longest","itertools.pairwise"].contains n=false) (hQ:Q () s):wpAny M A (letOwnedTupleGo tg (.ref it) u) Q E s:=by
 unfold letOwnedTupleGo
 cases tg <;> first
  |exact wpAny_pure hQ
  | (cases u <;> first
      |exact wpAny_pure hQ
      | (refine wpAny_bind (wpAny_load ho ?_)
         rw[hc,hd]
         show wpAny M A (if (["enumerate","zip","dict_itemiterator","dict_reverseitemiterator","odict_iterator","itertools.zip_longest","itertools.pairwise"].contains n&&vs[0]? == some (rawInt _))=true then _ else _) Q E s
         rw[if_neg (by intro h; rw[hn,Bool.false_and]at h; cases h)]
         exact wpAny_pure hQ))
def Itl (K:PySem.W.Frag) (a:Addr):It :=
 ⟨fun i H=>∃xs x,SqL K H a xs∧xs[i]?=some x,fun i H x H'=>H'=H∧∀xs,SqL K H a xs->xs[i]?=some x,fun i H=>∃xs,SqL K H a xs∧xs.length<=i⟩
def Itr (lo:Int) (n:Nat):It:=⟨fun i _=>i < n,fun i H x H'=>H'=H∧x=.int (lo+i),fun i _=>n<=i⟩
theorem MQ {P:Program} {w:World} {K:PySem.W.Frag} {tg:Expr} (a it:Addr):Turn P w K tg (Itl K a) [it] it (fun i h=>h.IsListIter it a i) where
 mem:=by simp
 obj:=fun i h st b hb=>by
  have e:b=it:=by simpa using hb
  subst e
  obtain ⟨o,e,c,d⟩:=st
  exact ⟨o,e,fun v z=>by rw[d]at z; cases z⟩
 keep:=fun i h h' st k=>st.at fun o e=>k it (by simp) o e
 item:=by
  intro X hP hw hK hc i pins s σ H E I hf st hg
  subst hP hw hK
  obtain ⟨xs,x,hq,hx⟩:=hg
  obtain ⟨its,rv,p,hz⟩:=I.list hq
  obtain ⟨u,hu,ru⟩:=rv.get hx
  obtain ⟨f0,f1,f2,f3,f4,f5⟩:=hf it (by simp)
  refine wpAny_pyNext_list_item st p.isList (x:=u) (by simpa using hu) fun h' st' sb=>?_
  have I1:Inv X pins σ H { s with heap:=h' }:=I.turned (t':=s.toks) (fun b o hb e=>(sb.2 b hb).trans e) f0 f1 f3 f4 f5
  obtain ⟨o,e,c,d⟩:=id st'
  exact ⟨u,rfl,Ka (s:={ s with heap:=h' }) e c d (by decide) ⟨x,H,I1,ru,⟨rfl,fun ys hy=>by rw[I.list_inj hy hq]; exact hx⟩,st',fun b hb=>(hf b hb).1⟩⟩
 done:=by
  intro X hP hw hK hc i pins s σ H E I hf st hg
  subst hP hw hK
  obtain ⟨xs,hq,hx⟩:=hg
  obtain ⟨its,rv,p,hz⟩:=I.list hq
  obtain ⟨f0,f1,f2,f3,f4,f5⟩:=hf it (by simp)
  have hl:=rv.length
  exact wpAny_pyNext_list_end (I.ok.hd hc) st p.isList (by simp; omega) fun h' eb=>⟨rfl,I.turned (t':=s.toks) (fun b o hb e=>eb b o hb e) f0 f1 f3 f4 f5⟩
 self:=fun _ _ _ _ _ st h=>wpAny_pyIter_listiter st h
theorem Oz {P:Program} {w:World} {K:PySem.W.Frag} {tg:Expr} (it:Addr) (lo:Int) (n:Nat):Turn P w K tg (Itr lo n) [it] it (fun i h=>IsRangeIter h it (lo+(i:Nat) * 1) ((n:Int) - (i:Nat)) 1) where
 mem:=by simp
 obj:=fun i h st b hb=>by
  have e:b=it:=by simpa using hb
  subst e
  exact ⟨_,st,fun v z=>by
   have z':Data.fields _=Data.cell v:=z
   cases z'⟩
 keep:=fun i h h' st k=>k it (by simp) _ st
 item:=by
  intro X hP hw hK hc i pins s σ H E I hf st hg
  subst hP hw hK
  obtain ⟨f0,f1,f2,f3,f4,f5⟩:=hf it (by simp)
  have W:=Walks.range (prog:=X.prog) (w:=X.w) (I.ok.hd hc) it lo 1 n
  refine W.item i s _ _ hg st fun v h' tk hv st' kk=>?_
  obtain ⟨t,rfl⟩:=hv
  have I1:Inv X pins σ H { s with heap:=h',toks:=tk }:=I.turned (fun b o hb e=>kk b o (by simpa using hb) e) f0 f1 f3 f4 f5
  refine ⟨_,rfl,Ka (s:={ s with heap:=h',toks:=tk }) (n:="range_iterator") st' rfl rfl (by decide) ⟨.int (lo+i),H,I1,⟨t,?_⟩,⟨rfl,rfl⟩,st',fun b hb=>(hf b hb).1⟩⟩
  rw[Int.mul_one]
 done:=by
  intro X hP hw hK hc i pins s σ H E I hf st hg
  subst hP hw hK
  obtain ⟨f0,f1,f2,f3,f4,f5⟩:=hf it (by simp)
  exact wpAny_pyNext_range_end (I.ok.hd hc) st (by have:n<=i:=hg; omega) fun h' eb=>⟨rfl,I.turned (t':=s.toks) (fun b o hb e=>eb b o hb e) f0 f1 f3 f4 f5⟩
 self:=fun _ _ _ _ _ st h=>wpAny_pyIter_rangeiter st h
open PySem PySem.Spec PyProof.Rows
section
variable {X:Cx} {tg:Expr}
def FM (K:PySem.W.Frag) (tl:TE):TI:=fun σ H R=>tl σ H fun x H1=>∃a,x=.ref a∧(∃xs,SqL K H1 a xs)∧R (Itl K a) H1
theorem OJ {l:Expr} {tl:TE} (hl:PE X l tl):PI X tg l (FM X.K tl):=by
 intro pins s σ H R I h
 refine thn (hl pins s σ H _ I h) fun v s1 ⟨x,H1,I1,r1,q1⟩=>?_
 obtain ⟨a,e,⟨xs,hq⟩,q⟩:=q1
 subst e
 cases r1
 obtain ⟨its,rv,p,hz⟩:=I1.list hq
 refine wpAny_pyIter_list p.isList ?_
 refine ⟨s1.heap.objs.size,[s1.heap.objs.size],_,_,H1,rfl,I1.kept (t':=s1.toks) fun b o e=>Heap.get?_push_of_some _ e,MQ a _,⟨_,Heap.get?_push_size _ rfl,rfl,rfl⟩,fun b hb=>?_,q⟩
 have e:b=s1.heap.objs.size:=by simpa using hb
 subst e
 exact I1.fpOk (Nat.le_refl _) (I1.hok.fresh (Nat.le_refl _))
theorem LZ {pins:List (Addr × Obj)} {σ:St} {H:Hp} {s:Shared} {R:It->Hp->Prop} {E:Value->Shared->Prop} {lo hi:Int} {t u v:Tok} {tk:Nat} (I:Inv X pins σ H s) (h1:-(2 ^ 62)<=lo) (h2:lo < 2 ^ 62) (h3:-(2 ^ 62)<=hi) (h4:hi < 2 ^ 62)
    (q:R (Itr lo (hi - lo).toNat) H):wpAny (model X.prog X.w) X.A (pyIter (.ref s.heap.objs.size)) (PIE X pins σ tg R) E { s with heap:=s.heap.push { cls:=.type "range",data:=.fields #[.int lo t,.int hi u,.int 1 v] },toks:=tk }:=by
 refine wpAny_pyIter_range (IsRange.new ..) (small_one h1 h2 h3 h4) ?_
 have I1:Inv X pins σ H { s with heap:=s.heap.push { cls:=.type "range",data:=.fields #[.int lo t,.int hi u,.int 1 v] },toks:=tk }:=I.kept fun b o e=>Heap.get?_push_of_some _ e
 refine ⟨(s.heap.push { cls:=.type "range",data:=.fields #[.int lo t,.int hi u,.int 1 v] }).objs.size,[(s.heap.push { cls:=.type "range",data:=.fields #[.int lo t,.int hi u,.int 1 v] }).objs.size],_,_,H,rfl,
  I1.kept (t':=tk) fun b o e=>Heap.get?_push_of_some _ e,Oz _ lo (hi - lo).toNat,?_,fun b hb=>?_,q⟩
 ·have e1:lo+((0:Nat):Int) * 1=lo:=by simp
  have e2:(((hi - lo).toNat:Nat):Int) - ((0:Nat):Int)=Builtin.Range.rangeSize lo hi 1:=by rw[rangeSize_one]; split <;> omega
  show IsRangeIter _ _ (lo+((0:Nat):Int) * 1) ((((hi - lo).toNat:Nat):Int) - ((0:Nat):Int)) 1
  rw[e1,e2]
  exact Heap.get?_push_size _ rfl
 ·have e:b=(s.heap.push { cls:=.type "range",data:=.fields #[.int lo t,.int hi u,.int 1 v] }).objs.size:=by simpa using hb
  subst e
  exact I1.fpOk (Nat.le_refl _) (I1.hok.fresh (Nat.le_refl _))
def Fz (ta:TA):TI:=fun σ H R=>ta σ H fun vs H1=>∃j:Int,vs=[.int j]∧-(2 ^ 62)<=j∧j < 2 ^ 62∧R (Itr 0 j.toNat) H1
theorem Ma {a:Expr} {ta:TA} {p pos:Pos} (hg:Gl X "range") (hm:X.mg "range"=none) (ha:PA X [a] ta) (hs:starEach [a] X.env=[(false,eval a X.env)]:=by rfl):PI X tg (.Call (.Name "range" p) [a] [] pos) (Fz ta):=by
 intro pins s σ H R I h
 refine Call_ (QA I hg hm boot_range (PyProof.Rows.callWith_type1 (thn (ha pos pins s σ H _ I h) fun us s1 ⟨vs,H1,I1,r1,q1⟩=>?_) hs rfl))
 obtain ⟨j,e,q1,q2,q⟩:=q1
 subst e
 cases r1 with
 |cons r rr =>
  cases rr
  obtain ⟨t,rfl⟩:=r
  exact call_range_1 (LZ I1 (by omega) (by omega) q1 q2 (by simpa using q))
def EI (wi:TI) (g:TG) (tb:TS):TS:=fun D σ H=>wi σ H fun J H1=>∃W:Nat->Nat->St->Hp->Prop,(∃m,W 0 m σ H1)∧∀i m σ H,W i m σ H ->
 (J.stop i H∧D.nx σ H)∨(J.go i H∧∃N:St->Hp->Prop,(∀σ' H',N σ' H'->∃m',m' < m∧W (i+1) m' σ' H')∧∀x H',J.yld i H x H'->g x σ H' fun σ2 H2=>tb { D with nx:=N,ct:=N,bk:=D.nx } σ2 H2)
def VT (fp:List Addr) (h:Heap):List (Addr × Obj):=fp.filterMap fun b=>(h.get? b).map fun o=>(b,o)
theorem WV {fp:List Addr} {h:Heap} {b:Addr} {o:Obj} (hb:b∈fp) (e:h.get? b=some o):(b,o)∈VT fp h:=List.mem_filterMap.mpr ⟨b,hb,by rw[e]; rfl⟩
theorem MG {fp:List Addr} {h:Heap} {p:Addr × Obj} (hp:p∈VT fp h):p.1∈fp∧h.get? p.1=some p.2:=by
 obtain ⟨b,hb,e⟩:=List.mem_filterMap.mp hp
 cases q:h.get? b with
 |none=>rw[q]at e; cases e
 |some o =>
  rw[q]at e
  have e':(b,o)=p:=Option.some.inj e
  subst e'
  exact ⟨hb,q⟩
theorem Inv.pinned {pins:List (Addr × Obj)} {σ:St} {H:Hp} {s:Shared} {fp:List Addr} (I:Inv X pins σ H s) (hf:∀b∈fp,TM X pins H b) (ho:∀b∈fp,∃o,s.heap.get? b=some o∧∀v,o.data≠.cell v):Inv X (pins++VT fp s.heap) σ H s :=
 I.pins_of fun p hp=>(List.mem_append.mp hp).elim (fun z=>I.pin p (List.mem_append_right _ z)) fun z=>by
  obtain ⟨hb,e⟩:=MG z
  obtain ⟨f0,f1,f2,_⟩:=hf p.1 hb
  obtain ⟨o,e',d⟩:=ho p.1 hb
  rw[e]at e'; cases e'
  exact ⟨e,f0,f1,f2,d⟩
theorem Inv.unpinned {pins pl:List (Addr × Obj)} {σ:St} {H:Hp} {s:Shared} (I:Inv X (pins++pl) σ H s):Inv X pins σ H s:=I.pins_of fun p hp=>I.pin p (List.mem_append_right _ (List.mem_append_left _ hp))
theorem LD {iter:Expr} {body:List Stmt} {wi:TI} {g:TG} {tb:TS} {pos:Pos} (hp:PassesOwn (model X.prog X.w) X.A X.env X.xe) (hc:X.calm=true) (hi:PI X tg iter wi) (hg:PG X tg g) (hb:PSs X body tb)
    (hs:∀x,foldedSetIterable iter X.env x=pure x:=by intro _; rfl):PS X (.For tg iter body [] pos) (EI wi g tb):=by
 intro pins s σ H D I h
 refine wpAny_For (thn (hi pins s σ H _ I h) fun v s1 h1=>thn h1 fun itv s2 h2=>?_) hs
 obtain ⟨it,fp,tn,J,H2,e,I2,T,st2,f2,W,⟨m0,w0⟩,turn⟩:=h2
 subst e
 have stat:∀{H':Hp},(∀b∈fp,H' b=none)->∀b∈fp,TM X pins H' b:=fun hn b hb=>⟨hn b hb,(f2 b hb).2⟩
 refine codeAny_forLoop_any (fun n s'=>∃i σ' H',Inv X pins σ' H' s'∧tn i s'.heap∧(∀b∈fp,H' b=none)∧W i n σ' H') ?_ m0 ⟨0,σ,H2,I2,st2,fun b hb=>(f2 b hb).1,w0⟩
 rintro n s3 ⟨i,σ3,H3,I3,st3,fr3,w3⟩
 rcases turn i n σ3 H3 w3 with ⟨stop,qn⟩|⟨go,N,hN,step⟩
 ·refine wpAny_passesOwn hp (thn (T.done X rfl rfl rfl hc i pins s3 σ3 H3 X.xe I3 (stat fr3) st3 stop) fun r s4 ⟨hr,I4⟩=>?_)
  subst hr
  exact wpAny_execs_nil ⟨σ3,H3,I4,qn⟩
 ·refine wpAny_passesOwn hp (thn (T.item X rfl rfl rfl hc i pins s3 σ3 H3 X.xe I3 (stat fr3) st3 go) fun r s4 ⟨u,hr,h4⟩=>?_)
  subst hr
  refine wpAny_passesOwn hp (thn h4 fun _ s5 ⟨x,H5,I5,r5,y5,st5,fr5⟩=>?_)
  have I5':=I5.pinned (stat fr5) (T.obj _ _ st5)
  refine wpAny_passesOwn hp (thn (hg _ s5 σ3 H5 x u _ I5' r5 (step x H5 y5)) fun _ s6 ⟨σ6,H6,I6,q6⟩=>?_)
  refine wpAny_passesOwn hp (thn (hb _ s6 σ6 H6 _ I6 q6) fun f s7 q7=>?_)
  have again:∀{σ7:St} {H7:Hp},Inv X (pins++VT fp s5.heap) σ7 H7 s7->N σ7 H7->∃m,m < n∧∃i σ' H',Inv X pins σ' H' s7∧tn i s7.heap∧(∀b∈fp,H' b=none)∧W i m σ' H':=fun {σ7 H7} I7 n7=>by
   obtain ⟨m',hm,w7⟩:=hN σ7 H7 n7
   refine ⟨m',hm,i+1,σ7,H7,I7.unpinned,T.keep _ _ _ st5 fun b hb o e=>(I7.pin (b,o) (List.mem_append_right _ (List.mem_append_right _ (WV hb e)))).1,fun b hb=>?_,w7⟩
   obtain ⟨o,e,d⟩:=T.obj _ _ st5 b hb
   exact (I7.pin (b,o) (List.mem_append_right _ (List.mem_append_right _ (WV hb e)))).2.1
  cases f with
  |next=>obtain ⟨σ7,H7,I7,n7⟩:=q7; exact again I7 n7
  |cont=>obtain ⟨σ7,H7,I7,n7⟩:=q7; exact again I7 n7
  |brk=>obtain ⟨σ7,H7,I7,q7⟩:=q7; exact ⟨σ7,H7,I7.unpinned,q7⟩
  |ret v=>obtain ⟨x7,σ7,H7,I7,r7,q7⟩:=q7; exact ⟨x7,σ7,H7,I7.unpinned,r7,q7⟩
end
open PySem PySem.Spec PyProof.Rows
abbrev R2:=V->V->Hp->VK->Prop
def OpR (X:Cx) (f:Value->Value->Sem Value) (r:R2):Prop :=
 ∀(pins:List (Addr × Obj)) (s:Shared) (σ:St) (H:Hp) (x y:V) (v u:Value) (Q:VK),Inv X pins σ H s->RelV x v->RelV y u->r x y H Q ->
  wpAny (model X.prog X.w) X.A (f v u) (EP X pins σ Q) X.xe s
def CallR (X:Cx) (f:Value) (r:List V->Hp->VK->Prop):Prop :=
 ∀(pins:List (Addr × Obj)) (s:Shared) (σ:St) (H:Hp) (xs:List V) (us:List Value) (Q:VK),Inv X pins σ H s->Vals xs us->r xs H Q ->
  wpAny (model X.prog X.w) X.A (call f us) (EP X pins σ Q) X.xe s
def E1 (X:Cx) (r:V->Hp->(Bool->Hp->Prop)->Prop):Prop :=
 ∀(pins:List (Addr × Obj)) (s:Shared) (σ:St) (H:Hp) (x:V) (v:Value) (Q:Bool->Hp->Prop),Inv X pins σ H s->RelV x v->r x H Q ->
  wpAny (model X.prog X.w) X.A (truthy v) (TP X pins σ Q) X.xe s
def tOp (r:R2) (ta tb:TE):TE:=fun σ H Q=>ta σ H fun x H1=>tb σ H1 fun y H2=>r x y H2 Q
def rI (C:Int->Int->Prop) (g:Int->Int->V):R2:=fun x y H Q=>∃i j,x=.int i∧y=.int j∧C i j∧Q (g i j) H
def rI0 (g:Int->Int->V):R2:=fun x y H Q=>∃i j,x=.int i∧y=.int j∧Q (g i j) H
section
variable {X:Cx} {a b c:Expr} {ta tb tc:TE} {pos:Pos}
theorem GC (ha:PE X a ta) (hb:PE X b tb) {pins:List (Addr × Obj)} {s:Shared} {σ:St} {H:Hp} {R:V->V->Hp->Prop} (I:Inv X pins σ H s)
    (h:ta σ H fun x H1=>tb σ H1 fun y H2=>R x y H2) {Q:Value->Shared->Prop} {f:Value->Value->Sem Value}
    (hf:∀v u s2 x y H2,Inv X pins σ H2 s2->RelV x v->RelV y u->R x y H2->wpAny (model X.prog X.w) X.A (f v u) Q X.xe s2) :
    wpAny (model X.prog X.w) X.A (eval a X.env) (fun v s₁=>wpAny (model X.prog X.w) X.A (eval b X.env) (fun u s₂=>wpAny (model X.prog X.w) X.A (f v u) Q X.xe s₂) X.xe s₁) X.xe s:=by
 refine thn (ha pins s σ H _ I h) fun v s1 ⟨x,H1,I1,r1,q1⟩=>?_
 refine thn (hb pins s1 σ H1 _ I1 q1) fun u s2 ⟨y,H2,I2,r2,q2⟩=>?_
 exact hf v u s2 x y H2 I2 r1 r2 q2
theorem IQ {op:Operator} {r:R2} (ho:OpR X (binaryOp op) r) (ha:PE X a ta) (hb:PE X b tb):PE X (.BinOp a op b pos) (tOp r ta tb):=by
 intro pins s σ H Q I h
 exact wpAny_BinOp (GC ha hb I h fun v u s2 x y H2 I2 rx ry q=>ho pins s2 σ H2 x y v u Q I2 rx ry q)
theorem opI {f:Value->Value->Sem Value} {C:Int->Int->Prop} {g:Int->Int->Int}
    (rule:∀(i j:Int) (t u:Tok) (s:Shared) (Q:Value->Shared->Prop) (E:Value->Shared->Prop),C i j->Q (.int (g i j) s.toks) { s with toks:=s.toks+1 }->wpAny (model X.prog X.w) X.A (f (.int i t) (.int j u)) Q E s) :
    OpR X f (rI C fun i j=>.int (g i j)):=by
 intro pins s σ H x y v u Q I rx ry h
 obtain ⟨i,j,rfl,rfl,hc,q⟩:=h
 obtain ⟨t,rfl⟩:=rx
 obtain ⟨t',rfl⟩:=ry
 exact rule i j t t' s _ _ hc ⟨.int (g i j),H,I.tok _,⟨_,rfl⟩,q⟩
theorem Fb {f:Value->Value->Sem Value} {g:Int->Int->Int}
    (rule:∀(i j:Int) (t u:Tok) (s:Shared) (Q:Value->Shared->Prop) (E:Value->Shared->Prop),Q (.int (g i j) s.toks) { s with toks:=s.toks+1 }->wpAny (model X.prog X.w) X.A (f (.int i t) (.int j u)) Q E s) :
    OpR X f (rI0 fun i j=>.int (g i j)):=by
 intro pins s σ H x y v u Q I rx ry h
 obtain ⟨i,j,rfl,rfl,q⟩:=h
 obtain ⟨t,rfl⟩:=rx
 obtain ⟨t',rfl⟩:=ry
 exact rule i j t t' s _ _ ⟨.int (g i j),H,I.tok _,⟨_,rfl⟩,q⟩
theorem JQ {f:Value->Value->Sem Value} {g:Int->Int->Bool}
    (rule:∀(i j:Int) (t u:Tok) (s:Shared) (Q:Value->Shared->Prop) (E:Value->Shared->Prop),Q (.bool (g i j)) s->wpAny (model X.prog X.w) X.A (f (.int i t) (.int j u)) Q E s) :
    OpR X f (rI0 fun i j=>.bl (g i j)):=by
 intro pins s σ H x y v u Q I rx ry h
 obtain ⟨i,j,rfl,rfl,q⟩:=h
 obtain ⟨t,rfl⟩:=rx
 obtain ⟨t',rfl⟩:=ry
 exact rule i j t t' s _ _ ⟨.bl (g i j),H,I,rfl,q⟩
def E3 (i j:Int):Prop:=0 < j∧j < 1073741824
def CMul (i j:Int):Prop:=(-(2 ^ 64) < i∧i < 2 ^ 64)∨(-(2 ^ 64) < j∧j < 2 ^ 64)
theorem CMul.ok {i j:Int} (h:CMul i j):IntMulOk i j:=by
 rcases h with ⟨h1,h2⟩|⟨h1,h2⟩
 ·exact .of_left (intBits_le_64 h1 h2)
 ·exact .of_right (intBits_le_64 h1 h2)
theorem HW:OpR X (binaryOp .Add) (rI0 fun i j=>.int (i+j)):=Fb fun _ _ _ _ _ _ _ q=>add_int q
theorem HY:OpR X (binaryOp .Sub) (rI0 fun i j=>.int (i - j)):=Fb fun _ _ _ _ _ _ _ q=>sub_int q
theorem Jg:OpR X (binaryOp .FloorDiv) (rI E3 fun i j=>.int (i / j)):=opI fun i j _ _ _ _ _ hc q=>by
 have h1:(0:Int) < j:=hc.1
 have h2:j < 1073741824:=hc.2
 exact floordiv_int (by omega) (by rw[Int.fdiv_eq_ediv_of_nonneg i (by omega)]; exact q) (.inl (PyProof.noPylong_small (by omega)))
theorem Gu:OpR X (binaryOp .Mod) (rI (fun _ j=>0 < j) fun i j=>.int (i % j)):=opI fun i j _ _ _ _ _ hc q=>by
 have h1:(0:Int) < j:=hc
 exact mod_int' (by omega) (by rw[Int.fmod_eq_emod_of_nonneg i (by omega)]; exact q)
end
section
variable {X:Cx} {a b c:Expr} {ta tb tc:TE} {pos:Pos}
theorem L8:OpR X (compareOp .Lt) (rI0 fun i j=>.bl (decide (i < j))):=JQ fun _ _ _ _ _ _ _ q=>lt_int q
theorem Ih:OpR X (compareOp .LtE) (rI0 fun i j=>.bl (decide (i<=j))):=JQ fun _ _ _ _ _ _ _ q=>le_int q
theorem El:OpR X (compareOp .Gt) (rI0 fun i j=>.bl (decide (j < i))):=JQ fun _ _ _ _ _ _ _ q=>gt_int q
theorem FZ:OpR X (compareOp .GtE) (rI0 fun i j=>.bl (decide (j<=i))):=JQ fun _ _ _ _ _ _ _ q=>ge_int q
theorem VU (b:Expr) {op:CmpOp} (h:op≠.In:=by decide) (h2:op≠.NotIn:=by decide):behindInMarks op b=false:=by
 have e1:(op == CmpOp.In)=false:=by cases op <;> first|rfl|exact absurd rfl h
 have e2:(op == CmpOp.NotIn)=false:=by cases op <;> first|rfl|exact absurd rfl h2
 cases b <;> simp[behindInMarks,e1,e2]
theorem JA {op:CmpOp} {r:R2} (ho:OpR X (compareOp op) r) (ha:PE X a ta) (hb:PE X b tb) (hm:behindInMarks op b=false):PE X (.Compare a [op] [b] pos) (tOp r ta tb):=by
 intro pins s σ H Q I h
 exact wpAny_Compare1 (GC ha hb I h fun v u s2 x y H2 I2 rx ry q=>ho pins s2 σ H2 x y v u Q I2 rx ry q) hm
def J8 (t:TE):TT:=fun σ H Q=>t σ H fun x H'=>∃k,x=.bl k∧Q k H'
theorem JY {op:CmpOp} {r:R2} (ho:OpR X (compareOp op) r) (ha:PE X a ta) (hb:PE X b tb) (hm:behindInMarks op b=false):PT X (.Compare a [op] [b] pos) (J8 (tOp r ta tb)):=by
 intro pins s σ H Q I h
 refine wpAny_isTrue_Compare1 (thn (ha pins s σ H _ I h) fun v s1 ⟨x,H1,I1,r1,q1⟩=>thn (hb pins s1 σ H1 _ I1 q1) fun u s2 ⟨y,H2,I2,r2,q2⟩ =>
  thn (ho pins s2 σ H2 x y v u _ I2 r1 r2 q2) fun c s3 ⟨z,H3,I3,r3,k,e,q3⟩=>?_) hm
 subst e
 cases r3
 exact wpAny_truthy_bool ⟨H3,I3,q3⟩
def KK (r r':R2) (ta tb tc:TE):TE:=fun σ H Q=>ta σ H fun x H1=>tb σ H1 fun y H2=>r x y H2 fun z H3=>∃k,z=.bl k ∧
 (if k=true then tc σ H3 fun w' H4=>r' y w' H4 Q else Q (.bl false) H3)
theorem LP {op op':CmpOp} {r r':R2} (ho:OpR X (compareOp op) r) (ho':OpR X (compareOp op') r') (ha:PE X a ta) (hb:PE X b tb) (hc:PE X c tc)
    (hm:lastMarks [op,op'] [b,c]=false:=by with_unfolding_all rfl):PT X (.Compare a [op,op'] [b,c] pos) (J8 (KK r r' ta tb tc)):=by
 intro pins s σ H Q I h
 refine isTrue_chain (thn (ha pins s σ H _ I h) fun v s1 ⟨x,H1,I1,r1,q1⟩=>test_link (thn (hb pins s1 σ H1 _ I1 q1) fun u s2 ⟨y,H2,I2,r2,q2⟩ =>
  thn (ho pins s2 σ H2 x y v u _ I2 r1 r2 q2) fun d s3 ⟨z,H3,I3,r3,k,e,q3⟩=>?_)) hm
 subst e
 cases r3
 refine wpAny_truthy_bool ?_
 cases k with
 |false =>
  obtain ⟨k',e',q'⟩:=q3
  cases e'
  exact ite_ff ⟨H3,I3,q'⟩
 |true =>
  refine ite_tt (test_last (thn (hc pins s3 σ H3 _ I3 q3) fun w' s4 ⟨z',H4,I4,r4,q4⟩=>thn (ho' pins s4 σ H4 y z' u w' _ I4 r2 r4 q4) fun d' s5 ⟨z2,H5,I5,r5,k2,e2,q5⟩=>?_))
  subst e2
  cases r5
  exact wpAny_truthy_bool ⟨H5,I5,q5⟩
def Hh (K:PySem.W.Frag) (x:V) (H:Hp) (k:Bool):Prop :=
 match x with
 |.non=>k=false
 |.bl b=>k=b
 |.int i=>k=(i != 0)
 |.str y=>y.length<=sizeLine∧k=((y.length:Int) != 0)
 |.byt y=>y.size<=sizeLine∧k=((y.size:Int) != 0)
 |.ref p=>(∃xs,SqL K H p xs∧k=!xs.isEmpty)∨(∃xs,SqT K H p xs∧k=!xs.isEmpty)∨∃kvs,H p=some (.dK kvs)∧k=!kvs.isEmpty
 |_=>False
theorem Oe {κ:Type} {kvs:List (κ × V)} {vs:List (κ × Value)} (r:KV kvs vs):(!vs.isEmpty)=!kvs.isEmpty:=by
 cases r <;> rfl
theorem T6 {xs:List V} {its:List Value} (r:Vals xs its):(!its.toArray.isEmpty)=!xs.isEmpty:=by
 cases r <;> simp
theorem U0:(sizeLine:Nat) < 2 ^ 63:=by rw[sizeLine_eq]; decide
theorem Hv:E1 X (fun x H Q=>∃k,Hh X.K x H k∧Q k H):=by
 intro pins s σ H x v Q I rx h
 obtain ⟨k,e,q⟩:=h
 have hl:=U0
 have hs:sizeLine=16777216:=sizeLine_eq
 cases x with
 |non =>
  cases rx
  have e':k=false:=e
  subst e'
  exact truthy_none ⟨H,I,q⟩
 |bl b =>
  cases rx
  have e':k=b:=e
  subst e'
  exact wpAny_truthy_bool ⟨H,I,q⟩
 |int i =>
  obtain ⟨t,rfl⟩:=rx
  have e':k=(i != 0):=e
  subst e'
  exact PySem.P.truthy_int ⟨H,I,q⟩
 |str y =>
  obtain ⟨t,rfl⟩:=rx
  obtain ⟨hy,e'⟩:y.length<=sizeLine∧k=((y.length:Int) != 0):=e
  subst e'
  exact PySem.P.truthy_str (by omega) ⟨H,I.tok _,q⟩
 |byt y =>
  obtain ⟨t,rfl⟩:=rx
  obtain ⟨hy,e'⟩:y.size<=sizeLine∧k=((y.size:Int) != 0):=e
  subst e'
  exact PySem.W.truthy_bytes (by omega) ⟨H,I.tok _,q⟩
 |ref p =>
  cases rx
  have e':(∃xs,SqL X.K H p xs∧k=!xs.isEmpty)∨(∃xs,SqT X.K H p xs∧k=!xs.isEmpty)∨∃kvs,H p=some (.dK kvs)∧k=!kvs.isEmpty:=e
  rcases e' with ⟨xs,hx,e'⟩|⟨xs,hx,e'⟩|⟨kvs,hx,e'⟩
  ·subst e'
   obtain ⟨its,r,pl,hz⟩:=I.list hx
   have hlen:=r.length
   exact wpAny_truthy_list pl.isList (by simp only[List.size_toArray]; omega) ⟨H,I.tok _,by rw[T6 r]; exact q⟩
  ·subst e'
   obtain ⟨its,r,pl,hz⟩:=I.tuple hx
   have hlen:=r.length
   exact truthy_tuple pl (by simp only[List.size_toArray]; omega) ⟨H,I.tok _,by rw[T6 r]; exact q⟩
  ·subst e'
   obtain ⟨hz,hS,vs,r,m⟩:kvs.length<=sizeLine∧(p == sysModules)=false∧∃vs,KV kvs vs∧s.heap.DictOf (Z2 X.prog X.w) p vs:=I.hok p _ hx
   have hlen:kvs.length=vs.length:=Paired.length r
   exact wpAny_truthy_dict hS m (by omega) ⟨H,I.tok _,by rw[Oe r]; exact q⟩
 |_=>exact (show False from e).elim
theorem KC (ha:PE X a ta) (he:∀whole,isTrue a X.env whole=(do let v ← whole; standAt a.pos; holding [v] (truthy v))) :
    PT X a (fun σ H Q=>ta σ H fun x H'=>∃k,Hh X.K x H' k∧Q k H'):=by
 intro pins s σ H Q I h
 exact isTrue_plain (thn (ha pins s σ H _ I h) fun v s1 ⟨x,H1,I1,r1,q1⟩=>Hv pins s1 σ H1 x v Q I1 r1 q1) (he _)
theorem Py {x:V} {us:List Value} (r:Vals [x] us):∃u,us=[u]∧RelV x u:=by
 cases r with
 |cons r1 r2=>cases r2; exact ⟨_,rfl,r1⟩
theorem En {x y:V} {us:List Value} (r:Vals [x,y] us):∃u w',us=[u,w']∧RelV x u∧RelV y w':=by
 cases r with
 |cons r1 r2 =>
  cases r2 with
  |cons r3 r4=>cases r4; exact ⟨_,_,rfl,r1,r3⟩
theorem NQ:CallR X (.type "int") (fun xs H Q=>(∃i,xs=[.int i]∧Q (.int i) H)∨∃k,xs=[.bl k]∧Q (.int (if k then 1 else 0)) H):=by
 intro pins s σ H xs us Q I r h
 rcases h with ⟨i,rfl,q⟩|⟨k,rfl,q⟩
 ·obtain ⟨u,rfl,t,rfl⟩:=Py r
  exact call_int_int ⟨.int i,H,I,⟨_,rfl⟩,q⟩
 ·obtain ⟨u,rfl,r1⟩:=Py r
  cases r1
  exact call_int_bool ⟨.int (if k then 1 else 0),H,I.tok _,⟨_,rfl⟩,q⟩
end
open PySem PySem.Spec PyProof.Rows
structure ObjM (h:Heap) (x dx C:Addr) (mA:Str->Option Value):Prop where
 obj:h.get? x=some (PySem.W.instObj C dx)
 ns:h.Ns1 dx mA
 ne:dx≠x
theorem NZ {h:Heap} {dx:Addr} {mA:Str->Option Value} (n:h.Ns1 dx mA):∃od,h.get? dx=some od∧∀name,PySem.W.lookIn name od=some (mA name):=by
 obtain ⟨o,es,ep,ho,hd,hk,_,hm⟩:=n
 refine ⟨o,ho,fun name=>?_⟩
 have e:=hm name
 unfold nsFind findBy at e
 rw[← Array.find?_toList]at e
 unfold PySem.W.lookIn
 rw[hd]
 dsimp only
 split
 ·rename_i y q
  rw[q]at e
  exact congrArg some e
 ·rename_i q
  rw[q]at e
  have a:es.toList.any (·.refKey)=false:=by
   rw[List.any_eq_false]
   intro y hy
   obtain ⟨z,t,hkey⟩:=hk y (Array.mem_toList_iff.mp hy)
   simp[DictEntry.refKey,hkey]
  have a':¬ es.toList.any (·.refKey)=true:=by rw[a]; exact Bool.false_ne_true
  rw[if_neg a']
  exact congrArg some e
theorem ObjM.look {h:Heap} {x dx C:Addr} {mA:Str->Option Value} (I:ObjM h x dx C mA):∃od,PySem.W.InstAt h x (PySem.W.instObj C dx) C (some od)∧∀name,PySem.W.lookIn name od=some (mA name) :=
 let ⟨od,ho,hl⟩:=NZ I.ns
 ⟨od,⟨I.obj,rfl,rfl,ho⟩,hl⟩
section
variable {prog:Program} {w:World} {A:Around} {E:Value->Shared->Prop} {s:Shared} {K:PySem.W.Frag} {x dx C f:Addr} {mA:Str->Option Value} {name:Str} {v:Value}
theorem Jx {expr:Bool} {Q:Value->Shared->Prop} (X:K.In s.heap) (I:ObjM s.heap x dx C mA) (hg:PySem.W.plainGet K C name=true) (hh:PySem.W.hasDictIn K C=true)
    (ha:PySem.W.findIn K (.ref C) name=some none) (hv:mA name=some v) (hv':PySem.W.handedIn v=true) (h:Q v { s with toks:=s.toks+1 }) :
    wpAny (model prog w) A (getAttr (.ref x) name expr) Q E s:=by
 obtain ⟨od,J,hl⟩:=I.look
 exact PySem.W.get_value X J (PySem.W.plainGet_of hg).1 (PySem.W.findObj_own hh ha rfl (by rw[hl,hv])) hv' h
theorem Kn {pl:Sem Bool} {Q:Value × List Value->Shared->Prop} (X:K.In s.heap) (I:ObjM s.heap x dx C mA) (hg:PySem.W.plainGet K C name=true)
    (hf:PySem.W.findIn K (.ref C) name=some (some (.ref f))) (ht:PySem.W.isFn K (.ref f)=true) (hv:mA name=none) (h:Q (.ref f,[.ref x]) s) :
    wpAny (model prog w) A (getMethod (.ref x) name pl) Q E s:=by
 obtain ⟨od,J,hl⟩:=I.look
 exact PySem.W.method_fn X J (PySem.W.plainGet_of hg).1 (PySem.W.plainGet_of hg).2 hf (beq_iff_eq.mp ht) (by show (PySem.W.lookIn name od).map (·.isSome)=some false; rw[hl,hv]; rfl) h
theorem Tr {ns:List Str} {Q:Unit->Shared->Prop} (X:K.In s.heap) (I:ObjM s.heap x dx C mA)
    (hs:PySem.W.findIn K (.ref C) "__setattr__"=some (some (.builtin "object.__setattr__"))) (hp:PySem.W.plainOver K C=true) (ht:PySem.W.takerIn K C name=some none) (hh:PySem.W.hasDictIn K C=true)
    (hw:PySem.Within mA ns) (hsz:ns.length<=sizeLine)
    (h:∀h',ObjM h' x dx C (fun y=>if y=name then some v else mA y)->Heap.SameBut dx s.heap h'->Q () { s with heap:=h',toks:=s.toks+2 }) :
    wpAny (model prog w) A (setAttr (.ref x) name v) Q E s:=by
 obtain ⟨od,J,hl⟩:=I.look
 refine PySem.W.set_plain X J hs (PySem.W.osa_open (s:={ s with toks:=s.toks+1 }) (r:=none) X J hp ht fun b=>?_)
 obtain ⟨cd,hc,hd'⟩:=PySem.W.any_some hh
 have hx:s.heap.get? x=some ⟨.ref C,some dx,.plain,#[]⟩:=I.obj
 refine wpAny_bind (wpAny_pure (wpAny_bind (wpAny_bind (wpAny_loadPart hx (wpAny_bind (PySem.W.Looks.here (s:={ s with toks:=s.toks+1 }) (PySem.W.looks_clsIn X hc) ?_))))))
 rw[hd']
 refine wpAny_pure (a:=some dx) (wpAny_bind (wpAny_pure (wpAny_bind ?_)))
 refine wpAny_nsSet1 (s:={ s with toks:=s.toks+1 }) I.ns fun h' hn2 hs2=>?_
 obtain ⟨oD,esD,epD,hoD,hdD,hcD⟩:=hn2.count (PySem.Within.cons name v hw)
 refine wpAny_bind (wpAny_lookBehind hoD (by rw[hdD]; exact pastItsLine_dict (Nat.le_trans hcD (by rw[List.length_cons]; omega))) ?_)
 exact wpAny_pure (h _ ⟨(hs2.2 _ (Ne.symm I.ne)).trans I.obj,hn2,I.ne⟩ hs2)
theorem LA {R:Result->Shared->Prop} {vs:List Value} {kw:List (Str × Value)} (X:K.In s.heap) (hm:PySem.W.makesIn K C=true)
    (hi:PySem.W.findIn K (.ref C) "__init__"=some (some (.ref f))) (hf:PySem.W.typeIn K (.ref f)=some (.type "function"))
    (h:codeAny (model prog w) (A.under (.builtin "type.__call__" ⟨.ref C::vs,kw⟩)) (.call (.ref f) ⟨.ref (s.heap.objs.size+1)::vs,kw⟩) (PySem.W.InitBack (s.heap.objs.size+1) R)
     { s with heap:=(s.heap.push PySem.W.emptyDict).push (PySem.W.instObj C s.heap.objs.size) }) :
    codeAny (model prog w) A (.call (.ref C) ⟨vs,kw⟩) R s:=by
 obtain ⟨hh,g,d,t,os⟩:=s
 exact PySem.W.make_core (PySem.W.makes_of X hm) (PySem.W.looks_findIn X hi) (fun self=>PySem.W.bind_fn X self hf) (.inl rfl) h
end
def putF (f:Str) (v:V):List (Str × V)->List (Str × V)
 |[]=>[(f,v)]
 |(g,x)::r=>if g=f then (g,v)::r else (g,x)::putF f v r
theorem Tg (f g:Str) (v:V):∀fs:List (Str × V),(putF f v fs).lookup g=if g=f then some v else fs.lookup g
 |[]=>by
  show List.lookup g [(f,v)]=_
  by_cases h:g=f
  ·have hb:(g == f)=true:=beq_iff_eq.mpr h
   simp only[List.lookup,hb,if_pos h]
  ·have hb:(g == f)=false:=beq_eq_false_iff_ne.mpr h
   simp only[List.lookup,hb,if_neg h]
 |(k,x)::r=>by
  have ih:=Tg f g v r
  rw[show putF f v ((k,x)::r)=(if k=f then (k,v)::r else (k,x)::putF f v r) from rfl]
  by_cases hk:k=f
  ·rw[if_pos hk]
   by_cases h:g=k
   ·have hb:(g == k)=true:=beq_iff_eq.mpr h
    simp only[List.lookup,hb,if_pos (h.trans hk)]
   ·have hb:(g == k)=false:=beq_eq_false_iff_ne.mpr h
    simp only[List.lookup,hb,if_neg (fun e:g=f=>h (e.trans hk.symm))]
  ·rw[if_neg hk]
   by_cases h:g=k
   ·have hb:(g == k)=true:=beq_iff_eq.mpr h
    simp only[List.lookup,hb,if_neg (fun e:g=f=>hk (h.symm.trans e))]
   ·have hb:(g == k)=false:=beq_eq_false_iff_ne.mpr h
    simp only[List.lookup,hb]
    exact ih
theorem U3 (f:Str) (v:V):∀fs:List (Str × V),f∈(putF f v fs).map (·.1)∧∀g,g∈fs.map (·.1)->g∈(putF f v fs).map (·.1)
 |[]=>⟨by simp[putF],fun g h=>by simp at h⟩
 |(k,x)::r=>by
  obtain ⟨i1,i2⟩:=U3 f v r
  rw[show putF f v ((k,x)::r)=(if k=f then (k,v)::r else (k,x)::putF f v r) from rfl]
  by_cases hk:k=f
  ·rw[if_pos hk]
   subst hk
   exact ⟨by simp,fun g h=>by simpa using h⟩
  ·rw[if_neg hk]
   refine ⟨?_,fun g h=>?_⟩
   ·rw[List.map_cons]
    exact List.mem_cons_of_mem _ i1
   ·rw[List.map_cons]at h ⊢
    rcases List.mem_cons.mp h with e|e
    ·exact List.mem_cons.mpr (.inl e)
    ·exact List.mem_cons_of_mem _ (i2 g e)
theorem U6 (f:Str) (v:V):∀fs:List (Str × V),(putF f v fs).length<=fs.length+1
 |[]=>by simp[putF]
 |(k,x)::r=>by
  have ih:=U6 f v r
  rw[show putF f v ((k,x)::r)=(if k=f then (k,v)::r else (k,x)::putF f v r) from rfl]
  by_cases hk:k=f
  ·rw[if_pos hk,List.length_cons,List.length_cons]; omega
  ·rw[if_neg hk,List.length_cons,List.length_cons]; omega
theorem RelO.some_of {v:V} {o:Option Value} (r:RelO (some v) o):∃u,o=some u∧RelV v u:=by
 cases o with
 |none=>exact (show False from r).elim
 |some u=>exact ⟨u,rfl,r⟩
theorem RelO.none_of {o:Option Value} (r:RelO none o):o=none:=by
 cases o with
 |none=>rfl
 |some u=>exact (show False from r).elim
theorem Me {v:V} {u:Value} (r:RelV v u):PySem.W.handedIn u=true:=by
 cases v with
 |non=>cases (show u=Value.none from r); rfl
 |bl b=>cases (show u=Value.bool b from r); rfl
 |int i=>obtain ⟨t,e⟩:=(show ∃t,u=Value.int i t from r); cases e; rfl
 |str x=>obtain ⟨t,e⟩:=(show ∃t,u=Value.str x t from r); cases e; rfl
 |byt b=>obtain ⟨t,e⟩:=(show ∃t,u=Value.bytes b t from r); cases e; rfl
 |flt b=>obtain ⟨t,e⟩:=(show ∃t,u=Value.float b t from r); cases e; rfl
 |ref a=>cases (show u=Value.ref a from r); rfl
 |ty n=>cases (show u=Value.type n from r); rfl
section
variable {P:Program} {w:World} {H H':Hp} {h h':Heap} {a C dx:Addr} {fs fs':List (Str × V)}
theorem RY (hok:HOk P w H h) (e:H a=some (.ins C dx fs)):∃mA,ObjM h a dx C mA∧(∀f,RelO (fs.lookup f) (mA f))∧PySem.Within mA (fs.map (·.1))∧fs.length<=1000∧H dx=some (.own a):=by
 obtain ⟨d,z,ne,ob,mA,n,r,q⟩:=(show ObjOk P w H h a (.ins C dx fs) from hok a _ e)
 exact ⟨mA,⟨ob,n,ne⟩,r,q,z,d⟩
end
structure Cls (K:PySem.W.Frag) (C:Addr):Prop where
 pg:PySem.W.plainGet K C Str.empty=true
 hd:PySem.W.hasDictIn K C=true
 po:PySem.W.plainOver K C=true
 sa:PySem.W.findIn K (.ref C) "__setattr__"=some (some (.builtin "object.__setattr__"))
theorem Cls.get {K:PySem.W.Frag} {C:Addr} (c:Cls K C) (f:Str):PySem.W.plainGet K C f=true:=c.pg
def NoAttr (K:PySem.W.Frag) (C:Addr) (f:Str):Prop:=PySem.W.findIn K (.ref C) f=some none
theorem NoAttr.taker {K:PySem.W.Frag} {C:Addr} {f:Str} (n:NoAttr K C f):PySem.W.takerIn K C f=some none:=by
 unfold PySem.W.takerIn
 rw[show PySem.W.findIn K (.ref C) f=some none from n]
 rfl
structure Con (K:PySem.W.Frag) (C:Addr) (f:Str) (v:V) (u:Value):Prop where
 at_:PySem.W.findIn K (.ref C) f=some (some u)
 rel:RelV v u
 get:PySem.W.specialIn K u "__get__"=some none
 cp:PySem.W.copiedNames.contains f=false
structure Meth (K:PySem.W.Frag) (C:Addr) (m:Str) (f:Addr):Prop where
 at_:PySem.W.findIn K (.ref C) m=some (some (.ref f))
 fn:PySem.W.isFn K (.ref f)=true
 kp:PySem.W.keepIn K (.ref f)=true
section
variable {X:Cx} {pins:List (Addr × Obj)} {σ:St} {H:Hp} {s:Shared} {a C dx:Addr} {fs:List (Str × V)} {f:Str} {v:V} {A:Around} {E:Value->Shared->Prop}
theorem Of {b:Bool} {Q:Value->Shared->Prop} (I:Inv X pins σ H s) (e:H a=some (.ins C dx fs)) (c:Cls X.K C) (n:NoAttr X.K C f) (l:fs.lookup f=some v)
    (h:∀u s',Inv X pins σ H s'->RelV v u->Q u s'):wpAny (model X.prog X.w) A (getAttr (.ref a) f b) Q E s:=by
 obtain ⟨mA,O,r,_,_,_⟩:=RY I.hok e
 obtain ⟨u,hu,ru⟩:=RelO.some_of (v:=v) (o:=mA f) (by rw[← l]; exact r f)
 exact Jx I.kIn O (c.get f) c.hd n hu (Me ru) (h u _ (I.tok _) ru)
theorem VX {m:Str} {g:Addr} {pl:Sem Bool} {Q:Value × List Value->Shared->Prop} (I:Inv X pins σ H s) (e:H a=some (.ins C dx fs)) (c:Cls X.K C) (k:Meth X.K C m g) (l:fs.lookup m=none)
    (h:Q (.ref g,[.ref a]) s):wpAny (model X.prog X.w) A (getMethod (.ref a) m pl) Q E s:=by
 obtain ⟨mA,O,r,_,_,_⟩:=RY I.hok e
 have hn:mA m=none:=RelO.none_of (by rw[← l]; exact r m)
 exact Kn I.kIn O (c.get m) k.at_ k.fn hn h
theorem Oc {y:V} {u:Value} {Q:Unit->Shared->Prop} (I:Inv X pins σ H s) (e:H a=some (.ins C dx fs)) (c:Cls X.K C) (n:NoAttr X.K C f) (hl:fs.length < 1000) (ry:RelV y u)
    (h:∀s',Inv X pins σ (upd H a (.ins C dx (putF f y fs))) s'->Q () s'):wpAny (model X.prog X.w) A (setAttr (.ref a) f u) Q E s:=by
 obtain ⟨mA,O,r,wi,_,ho⟩:=RY I.hok e
 have hz:(fs.map (·.1)).length<=sizeLine:=by rw[List.length_map,sizeLine_eq]; omega
 refine Tr I.kIn O c.sa c.po n.taker c.hd wi hz fun h' O' sb=>h _ ?_
 have hd:∃o,h'.get? dx=some o:=let ⟨o,_,_,e',_⟩:=O'.ns; ⟨o,e'⟩
 refine I.write (x:=a) (e:=dx) (by rw[e]; exact True.intro) (.inr ho) (fun b q hb z=>(sb.2 b hb).trans z) hd ?_
 refine ⟨by rw[Zp O.ne]; exact ho,?_,O.ne,O'.obj,_,O'.ns,fun g=>?_,fun g hg=>?_⟩
 ·have:=U6 f y fs; omega
 ·show RelO ((putF f y fs).lookup g) (if g=f then some u else mA g)
  rw[Tg]
  by_cases q:g=f
  ·rw[if_pos q,if_pos q]; exact ry
  ·rw[if_neg q,if_neg q]; exact r g
 ·by_cases q:g=f
  ·rw[q]; exact (U3 f y fs).1
  ·refine (U3 f y fs).2 g (wi g fun z=>hg ?_)
   show (if g=f then some u else mA g)=none
   rw[if_neg q]; exact z
theorem Inv.made (I:Inv X pins σ H s):Inv X pins σ (upd (upd H s.heap.objs.size (.own (s.heap.objs.size+1))) (s.heap.objs.size+1) (.ins C s.heap.objs.size []))
    { s with heap:=(s.heap.push PySem.W.emptyDict).push (PySem.W.instObj C s.heap.objs.size) }:=by
 have e1:(s.heap.push PySem.W.emptyDict).get? s.heap.objs.size=some PySem.W.emptyDict:=Heap.get?_push_size s.heap rfl
 have e2:((s.heap.push PySem.W.emptyDict).push (PySem.W.instObj C s.heap.objs.size)).get? (s.heap.objs.size+1)=some (PySem.W.instObj C s.heap.objs.size):=by
  have:=Heap.get?_push_size (s.heap.push PySem.W.emptyDict) (o:=PySem.W.instObj C s.heap.objs.size) rfl
  rwa [Heap.size_push]at this
 have e3:(s.heap.push PySem.W.emptyDict).Ns s.heap.objs.size (fun _=>none):=⟨PySem.W.emptyDict,#[],_,e1,rfl,(fun e he=>absurd he (by simp)),fun _=>rfl⟩
 have I1:=I.laid (a:=s.heap.objs.size) (o:=.own (s.heap.objs.size+1)) (h':=s.heap.push PySem.W.emptyDict) (t':=s.toks) (fun b u q=>Heap.get?_push_of_some _ q) (Nat.le_refl _) ⟨_,e1⟩
 refine I1.laid (a:=s.heap.objs.size+1) (o:=.ins C s.heap.objs.size []) (t':=s.toks) (fun b u q=>Heap.get?_push_of_some _ q) (Nat.le_of_eq (Heap.size_push _ _)) ?_
 have ne:s.heap.objs.size≠s.heap.objs.size+1:=Nat.ne_of_lt (Nat.lt_succ_self _)
 refine ⟨by rw[Zp ne,Zz],Nat.zero_le _,ne,e2,fun _=>none,(Heap.Ns1.of_empty e3).at fun o q=>Heap.get?_push_of_some _ q,fun _=>True.intro,fun y hy=>absurd rfl hy⟩
theorem Jl {prog:Program} {w:World} {env:Env} {e:Expr} {f:Str} {pos:Pos} {s:Shared} {Q:Value->Shared->Prop} (hb:attributeBase e f env (eval e env)=eval e env)
    (h:wpAny (model prog w) A (eval e env) (fun o s₁=>wpAny (model prog w) A (getAttr o f true) Q E s₁) E s):wpAny (model prog w) A (eval (.Attribute e f pos) env) Q E s :=
 Attribute_any_ h (by rw[arm_eval_Attribute,hb])
end
def EK (K:PySem.W.Frag) (ta:TE) (f:Str):TE:=fun σ H Q=>ta σ H fun x H1=>∃a C dx fs v,x=.ref a∧H1 a=some (.ins C dx fs)∧Cls K C∧NoAttr K C f∧fs.lookup f=some v∧Q v H1
def EO (K:PySem.W.Frag) (ta tv:TE) (f:Str):TS:=fun D σ H=>tv σ H fun y H1=>ta σ H1 fun x H2=>∃a C dx fs,x=.ref a∧H2 a=some (.ins C dx fs)∧Cls K C∧NoAttr K C f∧fs.length < 1000 ∧
 D.nx σ (upd H2 a (.ins C dx (putF f y fs)))
section
variable {X:Cx} {o e value:Expr} {f:Str} {pos pos' tpos:Pos} {ta tv:TE}
theorem HX (he:PE X e ta) (hb:attributeBase e f X.env (eval e X.env)=eval e X.env):PE X (.Attribute e f pos) (EK X.K ta f):=by
 intro pins s σ H Q I h
 refine Jl hb (thn (he pins s σ H _ I h) fun u s1 ⟨x,H1,I1,rx,a,C,dx,fs,v,ex,ea,c,n,l,q⟩=>?_)
 subst ex
 obtain rfl:u=Value.ref a:=rx
 exact Of I1 ea c n l fun u' s2 I2 ru=>⟨v,H1,I2,ru,q⟩
theorem Gw (ha:PE X o ta) (hv:PE X value tv) (hs:swapsWith value (some (.Attribute o f pos')) pos.line X.env=pure false):PS X (.Assign [.Attribute o f pos'] value pos) (EO X.K ta tv f):=by
 intro pins s σ H D I h
 refine plainObj_wpAny_Assign_Attribute (thn (hv pins s σ H _ I h) fun u s1 ⟨y,H1,I1,ry,q⟩=>thn (ha pins s1 σ H1 _ I1 q) fun ov s2 ⟨x,H2,I2,rx,a,C,dx,fs,ex,ea,c,n,l,q2⟩=>?_) hs
 subst ex
 obtain rfl:ov=Value.ref a:=rx
 exact Oc I2 ea c n l ry fun s3 I3=>⟨σ,_,I3,q2⟩
end
section
variable {X:Cx} {pins:List (Addr × Obj)} {σ:St} {H:Hp} {s:Shared} {A:Around} {E:Value->Shared->Prop} {Q:Value->Shared->Prop} {c:Value} {b:Bool}
inductive TyOf (K:PySem.W.Frag) (H:Hp):V->Value->Prop where
 |non:TyOf K H .non (.type "NoneType")
 |bl (x:Bool):TyOf K H (.bl x) (.type "bool")
 |int (i:Int):TyOf K H (.int i) (.type "int")
 |str (x:Str):TyOf K H (.str x) (.type "str")
 |flt (x:UInt64):TyOf K H (.flt x) (.type "float")
 |lst {a:Addr} {xs:List V} (e:H a=some (.lst xs)):TyOf K H (.ref a) (.type "list")
 |frz {a:Addr} {o:Obj} {xs:List V} (e:H a=some (.frz o (.lst xs))):TyOf K H (.ref a) (.type "list")
 |mtup {a:Addr} {o:Obj} (e:K.lookup a=some o) (hc:o.cls=.type "tuple"):TyOf K H (.ref a) (.type "tuple")
 |tup {a:Addr} {xs:List V} (e:H a=some (.tup xs)):TyOf K H (.ref a) (.type "tuple")
 |dK {a:Addr} {kvs:List (Key × V)} (e:H a=some (.dK kvs)):TyOf K H (.ref a) (.type "dict")
 |dT {a:Addr} {kvs:List (List Key × V)} (e:H a=some (.dT kvs)):TyOf K H (.ref a) (.type "dict")
 | ins {a C dx : Addr} {fs : List (Str × V)} (e : H a = some (.ins C dx fs)) (cl : Cls K C) (ha : PySem.W.findIn K (.ref C) "__class__" = some (some (.builtin "object.__class__")))
     (hn:PySem.W.specialIn K (.builtin "object.__class__") "__get__"=some (some (.builtin "getset_descriptor.__get__"))) (htk:PySem.W.takesIn K (.builtin "object.__class__")=some true)
     (hm:PySem.W.mroIn K C (.type "object")=some true):TyOf K H (.ref a) (.ref C)
end
open PySem PySem.Spec PyProof.Rows
structure Room (k:Nat) (A:Around):Prop where
 hd:A.handled=none
 dp:A.depth+3 * k+5 < recursionLimit
 un:A.units+16 * k+200 < cLine
theorem Room.mono {j k:Nat} {A:Around} (r:Room k A) (h:j<=k):Room j A:=⟨r.hd,by have:=r.dp; omega,by have:=r.un; omega⟩
theorem Room.deeper {k:Nat} {A:Around} (r:Room (k+1) A) (env:Env):Room k (A.deeper env) :=
 ⟨r.hd,by have:=r.dp; show A.depth+1+3 * k+5 < _; omega,by have:=r.un; show A.units+3+16 * k+200 < _; omega⟩
theorem OE {A:Around} {C:Addr} {us:List Value} {kw:List (Str × Value)}:(A.under (.builtin "type.__call__" ⟨.ref C::us,kw⟩)).depth=A.depth+1:=by
 first|rfl|simp[Around.under,Code.weight,Code.isCreation,Code.isGuard,Code.isCaller,Code.frames,Code.isFrame,guardIds]
theorem P8 {A:Around} {C:Addr} {us:List Value} {kw:List (Str × Value)}:(A.under (.builtin "type.__call__" ⟨.ref C::us,kw⟩)).units=A.units+1:=by
 first|rfl|simp[Around.under,Code.cUnits,Code.frames,Code.isFrame]
theorem Room.make {k:Nat} {A:Around} (r:Room (k+1) A) (C:Addr) (us:List Value) (kw:List (Str × Value)):Room k (A.under (.builtin "type.__call__" ⟨.ref C::us,kw⟩)) :=
 ⟨r.hd,by have:=r.dp; rw[OE]; omega,by have:=r.un; rw[P8]; omega⟩
theorem Room.depth {k:Nat} {A:Around} (r:Room k A):A.depth < recursionLimit:=by have:=r.dp; omega
theorem Room.units {k:Nat} {A:Around} (r:Room k A):A.units+64 < cLine:=by have:=r.un; omega
def He:TA:=fun _ H Q=>Q [] H
def Fu (ta:TE) (tr:TA):TA:=fun σ H Q=>ta σ H fun x H1=>tr σ H1 fun xs H2=>Q (x::xs) H2
section
variable {X:Cx} {e:Expr} {es:List Expr} {te:TE} {t:TA} {pos:Pos}
theorem Sd:PA X [] He:=fun _ _ _ _ H Q I h=>Calls.spliced_nil ⟨[],H,I,.nil,h⟩
theorem Vv (ha:PE X e te) (hr:PA X es t) (hs:starEach (e::es) X.env=(false,eval e X.env)::starEach es X.env:=by rfl):PA X (e::es) (Fu te t):=by
 intro pos pins s σ H Q I h
 rw[hs]
 show wpAny _ _ (spliced ((false,eval e X.env)::backTo pos (starEach es X.env))) _ _ s
 refine Calls.spliced_cons (thn (ha pins s σ H _ I h) fun u s1 ⟨x,H1,I1,r1,q1⟩=>?_)
 exact thn (hr pos pins s1 σ H1 _ I1 q1) fun us s2 ⟨xs,H2,I2,r2,q2⟩=>⟨x::xs,H2,I2,.cons r1 r2,q2⟩
def ET (t:TA):TE:=fun σ H Q=>t σ H fun xs H1=>xs.length<=sizeLine∧∀p,H1 p=none->Q (.ref p) (upd H1 p (.tup xs))
def EN (t:TA):TE:=fun σ H Q=>t σ H fun xs H1=>xs.length<=sizeLine∧∀p,H1 p=none->Q (.ref p) (upd H1 p (.lst xs))
theorem Gq {x1} (h:PA X es t):PE X (.Tuple es x1 pos) (ET t):=by
 intro pins s σ H Q I hq
 refine wpAny_Tuple_spliced (thn (h pos pins s σ H _ I hq) fun us s1 ⟨xs,H1,I1,r,z,q⟩=>⟨by rw[← r.length]; exact z,?_⟩)
 have hf:H1 s1.heap.objs.size=none:=I1.hok.fresh (Nat.le_refl _)
 refine ⟨.ref s1.heap.objs.size,upd H1 s1.heap.objs.size (.tup xs),I1.laid (t':=s1.toks) (fun b u e=>Heap.get?_push_of_some _ e) (Nat.le_refl _) ?_,rfl,q _ hf⟩
 exact ⟨z,us,r,⟨_,Heap.get?_push_size _ rfl,rfl,_,rfl⟩⟩
theorem P5 (h:PA X es t):PE X (.List es pos) (EN t):=by
 intro pins s σ H Q I hq
 refine wpAny_List_spliced (thn (h pos pins s σ H _ I hq) fun us s1 ⟨xs,H1,I1,r,z,q⟩=>⟨by rw[← r.length]; exact z,?_⟩)
 have hf:H1 s1.heap.objs.size=none:=I1.hok.fresh (Nat.le_refl _)
 refine ⟨.ref s1.heap.objs.size,upd H1 s1.heap.objs.size (.lst xs),I1.laid (t':=s1.toks) (fun b u e=>Heap.get?_push_of_some _ e) (Nat.le_refl _) ?_,rfl,q _ hf⟩
 exact ⟨z,us,0,r,Heap.get?_push_size _ rfl⟩
end
abbrev Sp:=List V->Hp->VK->XK->Prop
abbrev CXT:=List Env->Hp->Shared->XK->Value->Shared->Prop
structure Env0 (P:Program) (w:World) (K:PySem.W.Frag) (mg:Str->Option Value) (base:Heap) (A:Around) (outer:List Env) (s:Shared) (H:Hp):Prop where
 frames:A.frames=some outer
 mod:Mod K mg base
 bs:∀b o,base.get? b=some o->s.heap.get? b=some o∧H b=none
 bsz:base.objs.size<=s.heap.objs.size
 funs:s.heap.FunFrames base outer
 frf:∀b∈frs outer,H b=none
 hok:HOk P w H s.heap
 bare:AllBare s.gens
def CE (outer:List Env) (P:Program) (w:World) (H:Hp) (s:Shared) (Q:VK) (u:Value) (s':Shared):Prop :=
 ∃v H',s'.os=s.os∧AllBare s'.gens∧Un (frs outer) [] H H' s.heap s'.heap∧HOk P w H' s'.heap∧RelV v u∧Q v H'
def CR (CX:CXT) (outer:List Env) (P:Program) (w:World) (H:Hp) (s:Shared) (Q:VK) (E:XK) (r:Result) (s':Shared):Prop :=
 match r with
 |.ok (.ret u)=>CE outer P w H s Q u s'
 |.ok _=>False
 |.error e=>CX outer H s E e s'
structure FnOk (P:Program) (w:World) (K:PySem.W.Frag) (mg:Str->Option Value) (base:Heap) (CX:CXT) (k:Nat) (f:Addr) (fd:FuncData) (ps:List Str) (sp:Sp):Prop where
 len:∀vs H Q E,sp vs H Q E->vs.length=ps.length
 run:∀(A:Around) (outer:List Env) (s:Shared) (H:Hp) (args:Args) (us:List Value) (vs:List V) (Q:VK) (E:XK),Room k A->Env0 P w K mg base A outer s H->BindsTo s fd args (ps.zip us)->Vals vs us->sp vs H Q E ->
  codeAny (model P w) A (.call (.ref f) args) (CR CX outer P w H s Q E) s
theorem FnOk.imp {P:Program} {w:World} {K:PySem.W.Frag} {mg:Str->Option Value} {base:Heap} {CX:CXT} {k:Nat} {f:Addr} {fd:FuncData} {ps:List Str} {sp sp':Sp} (F:FnOk P w K mg base CX k f fd ps sp)
    (h:∀vs H Q E,sp' vs H Q E->sp vs H Q E):FnOk P w K mg base CX k f fd ps sp' :=
 ⟨fun vs H Q E q=>F.len vs H Q E (h _ _ _ _ q),fun A outer s H args us vs Q E hr he hb hv hs=>F.run A outer s H args us vs Q E hr he hb hv (h _ _ _ _ hs)⟩
theorem Env0.make {P:Program} {w:World} {K:PySem.W.Frag} {mg:Str->Option Value} {base:Heap} {A:Around} {outer:List Env} {s:Shared} {H:Hp} (e:Env0 P w K mg base A outer s H) (C:Addr) (us:List Value) (kw:List (Str × Value)) :
    Env0 P w K mg base (A.under (.builtin "type.__call__" ⟨.ref C::us,kw⟩)) outer s H:=⟨by first|exact e.frames|(simpa [Around.under,Code.envs,Code.isFrame,pushEnvs] using e.frames),e.mod,e.bs,e.bsz,e.funs,e.frf,e.hok,e.bare⟩
section
variable {X:Cx} {pins:List (Addr × Obj)} {σ:St} {H:Hp} {s s':Shared}
theorem Inv.env0 (I:Inv X pins σ H s):Env0 X.prog X.w X.K X.mg X.base X.A X.stack s H :=
 ⟨I.ok.frames,I.ok.mod,I.bs,Nat.le_trans I.ok.bsz I.sz,I.stack,I.stkFree,I.hok,I.bare⟩
theorem Inv.after {Q:VK} {u:Value} (I:Inv X pins σ H s) (h:CE X.stack X.prog X.w H s Q u s'):EP X pins σ Q u s':=by
 obtain ⟨v,H',os,bare,un,hok,r,q⟩:=h
 obtain ⟨hh,g,d,t,os'⟩:=s'
 obtain rfl:os'=s.os:=os
 exact ⟨v,H',I.call (h':=hh) (g':=g) (d':=d) (t':=t) (ch:=[]) un hok bare (fun b z=>absurd z (by simp)),r,q⟩
end
def Fa (sp:Sp) (dvs:List V) (E:XK) (t:TA):TE:=fun σ H Q=>t σ H fun vs H1=>sp (vs++dvs) H1 Q E
def O1 (C:Addr) (m:Str) (sp:Sp) (dvs:List V) (E:XK) (ta:TE) (t:TA):TE:=fun σ H Q=>ta σ H fun x H1=>∃a dx fs,x=.ref a∧H1 a=some (.ins C dx fs)∧fs.lookup m=none ∧
 t σ H1 fun vs H2=>sp (x::(vs++dvs)) H2 Q E
def Ff (C:Addr) (sp:Sp) (dvs:List V) (E:XK) (t:TA):TE:=fun σ H Q=>t σ H fun vs H1=>∀x dx,H1 x=none->H1 dx=none->dx≠x ->
 sp (.ref x::(vs++dvs)) (upd (upd H1 dx (.own x)) x (.ins C dx [])) (fun v H2=>v=.non∧Q (.ref x) H2) E
def Binds (K:PySem.W.Frag) (fd:FuncData) (ps:List Str) (ds:List Value):Prop :=
 ∀(s:Shared) (us:List Value),K.In s.heap->(us++ds).length=ps.length->BindsTo s fd ⟨us,[]⟩ (ps.zip (us++ds))
theorem Binds.all {K:PySem.W.Frag} {fd:FuncData} {ps:List Str} (h:∀us:List Value,us.length=ps.length->bindArgs fd ⟨us,[]⟩=pure (ps.zip us)):Binds K fd ps []:=fun s us _ hl=>by
 rw[List.append_nil]at hl ⊢
 exact .of_eq (h us hl)
def XW (CX:CXT) (X:Cx) (E:XK):Prop:=∀(pins:List (Addr × Obj)) (σ:St) (H:Hp) (s:Shared) (e:Value) (s':Shared),Inv X pins σ H s->CX X.stack H s E e s'->X.xe e s'
section
variable {X:Cx} {CX:CXT} {k:Nat} {f C:Addr} {fd:FuncData} {ps:List Str} {sp:Sp} {dvs:List V} {ds:List Value} {E:XK} {x m:Str} {p pos apos:Pos} {e o:Expr} {es:List Expr} {ta:TE} {t:TA}
theorem OD {pins:List (Addr × Obj)} {σ:St} {H:Hp} {s:Shared} {Q:VK} {us:List Value} {vs:List V} (F:FnOk X.prog X.w X.K X.mg X.base CX k f fd ps sp) (hr:Room k X.A) (hb:Binds X.K fd ps ds) (hd:Vals dvs ds) (hx:XW CX X E)
    (I:Inv X pins σ H s) (r:Vals vs us) (h:sp (vs++dvs) H Q E):wpAny (model X.prog X.w) X.A (call (.ref f) us) (EP X pins σ Q) X.xe s:=by
 have r2:Vals (vs++dvs) (us++ds):=r.append hd
 have hl:(us++ds).length=ps.length:=by rw[← r2.length]; exact F.len _ _ _ _ h
 refine wpAny_call (codeAny_mono (F.run X.A X.stack s H ⟨us,[]⟩ (us++ds) (vs++dvs) Q E hr I.env0 (hb s us I.kIn hl) r2 h) fun r s' hq=>?_)
 cases r with
 |error e=>exact hx pins σ H s e s' I hq
 |ok fl =>
  cases fl with
  |ret u=>exact I.after hq
  |next=>exact False.elim hq
  |brk=>exact False.elim hq
  |cont=>exact False.elim hq
theorem Jq (F:FnOk X.prog X.w X.K X.mg X.base CX k f fd ps sp) (hr:Room k X.A) (hg:Gl X x) (hm:X.mg x=some (.ref f)) (hk:PySem.W.keepIn X.K (.ref f)=true) (hb:Binds X.K fd ps ds) (hd:Vals dvs ds) (hx:XW CX X E)
    (ha:PA X (e::es) t) (hdb:(x == ("__debug__":Str))=false:=by decide) (he:starEach (e::es) X.env=(false,eval e X.env)::starEach es X.env:=by rfl) (hpl:(backTo pos (starEach es X.env)).any (·.1)=false:=by rfl) :
    PE X (.Call (.Name x p) (e::es) [] pos) (Fa sp dvs E t):=by
 intro pins s σ H Q I h
 refine wpAny_Call_Name_kw (Uj I hg hm ?_ hdb)
 refine PySem.W.callWith_K (h₀:=X.base) I.ok.mod.kin hk (thn (ha pos pins s σ H _ I h) fun us s1 ⟨vs,H1,I1,r,q⟩=>⟨I1.kIn,?_⟩) he hpl
 exact OD F hr hb hd hx I1 r q
theorem JW {pl:Sem Bool} (he:PE X o ta) (c:Cls X.K C) (hm:Meth X.K C m f) (F:FnOk X.prog X.w X.K X.mg X.base CX k f fd ps sp) (hr:Room k X.A) (hb:Binds X.K fd ps ds) (hd:Vals dvs ds) (hx:XW CX X E) (ha:PA X (e::es) t)
    (hst:starEach (e::es) X.env=(false,eval e X.env)::starEach es X.env:=by rfl) (hpl:(backTo pos (starEach es X.env)).any (·.1)=false:=by rfl)
    (ht:eval (.Call (.Attribute o m apos) (e::es) [] pos) X.env=(do
     let ov ← eval o X.env
     standAt apos.atName
     let (f,first) ← holding [ov] (getMethod ov m pl)
     callWith pos f first (backTo pos (starEach (e::es) X.env)) (backToKw pos (keywordEach [] X.env))):=by rfl) :
    PE X (.Call (.Attribute o m apos) (e::es) [] pos) (O1 C m sp dvs E ta t):=by
 intro pins s σ H Q I h
 refine PySem.W.methodCall_KW (pl:=pl) (thn (he pins s σ H _ I h) fun u s1 ⟨x,H1,I1,rx,a,dx,fs,ex,ea,l,q⟩=>?_) ht
 subst ex
 obtain rfl:u=Value.ref a:=rx
 refine VX I1 ea c hm l ?_
 refine PySem.W.callWith_K (first:=[.ref a]) (h₀:=X.base) I.ok.mod.kin hm.kp (thn (ha pos pins s1 σ H1 _ I1 q) fun us s2 ⟨vs,H2,I2,r,q2⟩=>⟨I2.kIn,?_⟩) hst hpl
 exact OD (us:=.ref a::us) (vs:=.ref a::vs) F hr hb hd hx I2 (.cons rfl r) q2
theorem LI {pl:Sem Bool} (he:PE X o ta) (c:Cls X.K C) (hm:Meth X.K C m f) (F:FnOk X.prog X.w X.K X.mg X.base CX k f fd ps sp) (hr:Room k X.A) (hb:Binds X.K fd ps ds) (hd:Vals dvs ds) (hx:XW CX X E)
    (ht:eval (.Call (.Attribute o m apos) [] [] pos) X.env=(do
     let ov ← eval o X.env
     standAt apos.atName
     let (f,first) ← holding [ov] (getMethod ov m pl)
     callWith pos f first (backTo pos (starEach [] X.env)) (backToKw pos (keywordEach [] X.env))):=by rfl) :
    PE X (.Call (.Attribute o m apos) [] [] pos) (O1 C m sp dvs E ta He):=by
 intro pins s σ H Q I h
 refine PySem.W.methodCall_KW (pl:=pl) (thn (he pins s σ H _ I h) fun u s1 ⟨x,H1,I1,rx,a,dx,fs,ex,ea,l,q⟩=>?_) ht
 subst ex
 obtain rfl:u=Value.ref a:=rx
 refine VX I1 ea c hm l ?_
 exact PySem.W.callWith_K0 (first:=[.ref a]) I1.kIn hm.kp (OD (us:=[.ref a]) (vs:=[.ref a]) F hr hb hd hx I1 (.cons rfl .nil) q)
structure Mk (K:PySem.W.Frag) (C f:Addr):Prop where
 makes:PySem.W.makesIn K C=true
 init:PySem.W.findIn K (.ref C) "__init__"=some (some (.ref f))
 fn:PySem.W.isFn K (.ref f)=true
 kp:PySem.W.keepIn K (.ref C)=true
theorem LK {pins:List (Addr × Obj)} {σ:St} {H:Hp} {s:Shared} {Q:VK} {us:List Value} {vs:List V} (M:Mk X.K C f) (F:FnOk X.prog X.w X.K X.mg X.base CX k f fd ps sp) (hr:Room (k+1) X.A) (hb:Binds X.K fd ps ds) (hd:Vals dvs ds)
    (hx:XW CX X E) (I:Inv X pins σ H s) (r:Vals vs us)
    (h:∀x dx,H x=none->H dx=none->dx≠x->sp (.ref x::(vs++dvs)) (upd (upd H dx (.own x)) x (.ins C dx [])) (fun v H2=>v=.non∧Q (.ref x) H2) E) :
    wpAny (model X.prog X.w) X.A (call (.ref C) us) (EP X pins σ Q) X.xe s:=by
 have hq:=h (s.heap.objs.size+1) s.heap.objs.size (I.hok.fresh (Nat.le_succ _)) (I.hok.fresh (Nat.le_refl _)) (Nat.ne_of_lt (Nat.lt_succ_self _))
 have I2:=Inv.made (C:=C) I
 have r2:Vals (V.ref (s.heap.objs.size+1)::(vs++dvs)) (Value.ref (s.heap.objs.size+1)::(us++ds)):=.cons rfl (r.append hd)
 have hl:(Value.ref (s.heap.objs.size+1)::us++ds).length=ps.length:=by
  have e:=r2.length
  rw[F.len _ _ _ _ hq]at e
  exact e.symm
 refine wpAny_call (LA (f:=f) I.kIn M.makes M.init (beq_iff_eq.mp M.fn) (codeAny_mono (F.run _ X.stack _ _ ⟨Value.ref (s.heap.objs.size+1)::us,[]⟩ (Value.ref (s.heap.objs.size+1)::(us++ds)) _ _ E (hr.make C us [])
  (I2.env0.make C us []) (hb _ (Value.ref (s.heap.objs.size+1)::us) I2.kIn hl) r2 hq) fun r s' hq'=>?_))
 cases r with
 |error e=>exact hx pins σ _ _ e s' I2 hq'
 |ok fl =>
  cases fl with
  |ret u =>
   obtain ⟨v,H',I3,rv,ev,q3⟩:=I2.after hq'
   subst ev
   exact ⟨rv,⟨V.ref (s.heap.objs.size+1),H',I3,rfl,q3⟩⟩
  |next=>exact False.elim hq'
  |brk=>exact False.elim hq'
  |cont=>exact False.elim hq'
theorem J3 (M:Mk X.K C f) (F:FnOk X.prog X.w X.K X.mg X.base CX k f fd ps sp) (hr:Room (k+1) X.A) (hg:Gl X x) (hm:X.mg x=some (.ref C)) (hb:Binds X.K fd ps ds) (hd:Vals dvs ds) (hx:XW CX X E)
    (ha:PA X (e::es) t) (hdb:(x == ("__debug__":Str))=false:=by decide) (he:starEach (e::es) X.env=(false,eval e X.env)::starEach es X.env:=by rfl) (hpl:(backTo pos (starEach es X.env)).any (·.1)=false:=by rfl) :
    PE X (.Call (.Name x p) (e::es) [] pos) (Ff C sp dvs E t):=by
 intro pins s σ H Q I h
 refine wpAny_Call_Name_kw (Uj I hg hm ?_ hdb)
 refine PySem.W.callWith_K (h₀:=X.base) I.ok.mod.kin M.kp (thn (ha pos pins s σ H _ I h) fun us s1 ⟨vs,H1,I1,r,q⟩=>⟨I1.kIn,?_⟩) he hpl
 exact LK M F hr hb hd hx I1 r q
end
section
variable {X:Cx} {CX:CXT} {k:Nat} {f C:Addr} {fd:FuncData} {ps ks:List Str} {sp:Sp} {E:XK} {x m:Str} {p pos apos kpos:Pos} {e o:Expr} {es:List Expr} {kws:List Keyword} {te ta:TE} {t tk:TA} {nm:Option Str}
structure KBinds (K:PySem.W.Frag) (fd:FuncData) (ps ks:List Str) (g:List Value->List Value->List Value) (gV:List V->List V->List V):Prop where
 to:∀(s:Shared) (us ws:List Value),K.In s.heap->(g us ws).length=ps.length->BindsTo s fd ⟨us,ks.zip ws⟩ (ps.zip (g us ws))
 rel:∀{vs:List V} {us:List Value} {zs:List V} {ws:List Value},Vals vs us->Vals zs ws->Vals (gV vs zs) (g us ws)
variable {g:List Value->List Value->List Value} {gV:List V->List V->List V}
end
structure FnScope (N P:List Str) (sc:Scope):Prop where
 kind:sc.kind=.function
 co:sc.isCoroutine=false
 gen:sc.isGenerator=false
 nd:N.Nodup
 pre:N.take P.length=P
 par:∀x∈P,sc.names.lookup x=some .local∨sc.names.lookup x=some .cell
 nofree:∀y∈sc.names,y.2≠.free
theorem Rt {kindOf:Str->Option NameKind} {x:Str}:∀{binds:List (Str × Value)} {m:Str->Option Value},(∀v,(x,v) ∉ binds)->bindL kindOf binds m x=m x
 |[],_,_=>rfl
 |(n,v)::r,m,h=>by
  unfold bindL
  rw[Rt fun w hw=>h w (List.mem_cons_of_mem _ hw)]
  split
  ·have:x≠n:=by rintro rfl; exact h v List.mem_cons_self
   simp[this]
  ·rfl
theorem Rn {kindOf:Str->Option NameKind} {x:Str}:∀{binds:List (Str × Value)} {m:Str->Option Value},(∀v,(x,v) ∉ binds)->bindC kindOf binds m x=m x
 |[],_,_=>rfl
 |(n,v)::r,m,h=>by
  unfold bindC
  rw[Rn fun w hw=>h w (List.mem_cons_of_mem _ hw)]
  split
  ·rfl
  ·have:x≠n:=by rintro rfl; exact h v List.mem_cons_self
   simp[this]
theorem S0 {kindOf:Str->Option NameKind} {x:Str} {v:Value}:∀{P:List Str} {vs:List Value} {i:Nat} {m:Str->Option Value},P.Nodup->P[i]?=some x->vs[i]?=some v->kindOf x=some .local ->
    bindL kindOf (P.zip vs) m x=some v
 |[],_,_,_,_,h,_,_=>by simp at h
 |_::_,[],_,_,_,_,h,_=>by simp at h
 |p::P,w::vs,0,m,nd,h1,h2,hk=>by
  simp at h1 h2; subst h1; subst h2
  show bindL kindOf ((p,w)::P.zip vs) m p=_
  unfold bindL
  rw[Rt fun v hv=>(List.nodup_cons.mp nd).1 (List.of_mem_zip hv).1,if_pos hk]
  simp
 |p::P,w::vs,i+1,m,nd,h1,h2,hk=>by
  show bindL kindOf ((p,w)::P.zip vs) m x=_
  unfold bindL
  exact S0 (i:=i) (List.nodup_cons.mp nd).2 (by simpa using h1) (by simpa using h2) hk
theorem RN {kindOf:Str->Option NameKind} {x:Str} {v:Value}:∀{P:List Str} {vs:List Value} {i:Nat} {m:Str->Option Value},P.Nodup->P[i]?=some x->vs[i]?=some v->kindOf x≠some .local ->
    bindC kindOf (P.zip vs) m x=some v
 |[],_,_,_,_,h,_,_=>by simp at h
 |_::_,[],_,_,_,_,h,_=>by simp at h
 |p::P,w::vs,0,m,nd,h1,h2,hk=>by
  simp at h1 h2; subst h1; subst h2
  show bindC kindOf ((p,w)::P.zip vs) m p=_
  unfold bindC
  rw[Rn fun v hv=>(List.nodup_cons.mp nd).1 (List.of_mem_zip hv).1,if_neg hk]
  simp
 |p::P,w::vs,i+1,m,nd,h1,h2,hk=>by
  show bindC kindOf ((p,w)::P.zip vs) m x=_
  unfold bindC
  exact RN (i:=i) (List.nodup_cons.mp nd).2 (by simpa using h1) (by simpa using h2) hk
def start (N:List Str) (vs:List V):St:=vs.map some++List.replicate (N.length - vs.length) none
def SI (CX:CXT) (P:Program) (w:World) (K:PySem.W.Frag) (mg:Str->Option Value) (base:Heap) (N:List Str) (qual:Str) (scope:Scope) (f:Addr) (cd:Value) (A:Around) (outer:List Env) (s:Shared) (H:Hp) (E:XK):Cx where
 prog:=P
 w:=w
 K:=K
 mg:=mg
 base:=base
 A:=A.deeper (envOfC qual scope s.heap.objs.size f cd)
 N:=N
 s₀:=s
 H₀:=H
 env:=envOfC qual scope s.heap.objs.size f cd
 outer:=outer
 stack:=envOfC qual scope s.heap.objs.size f cd::outer
 ex:=[]
 calm:=true
 fn:=fun _=>true
 pn:=[]
 xe:=fun e s'=>wpAny (model P w) (A.deeper (envOfC qual scope s.heap.objs.size f cd)) (leaving (envOfC qual scope s.heap.objs.size f cd) e) (fun _ s''=>CX outer H s E e s'') (fun e' s''=>CX outer H s E e' s'') s'
theorem Pb {sc:Scope} {n:Nat} {x:Str} (h:sc.names.lookup x=some .cell):∃c,(cellsFrom n sc.names []).lookup x=some c:=by
 have q:=PySem.W.cellsFrom_some sc.names n [] (.inl h)
 exact Option.isSome_iff_exists.mp q
theorem N6 {CX:CXT} {P:Program} {w:World} {K:PySem.W.Frag} {mg:Str->Option Value} {base:Heap} {N ps:List Str} {qual:Str} {scope:Scope} {f:Addr} {cd:Value} {A:Around} {outer:List Env} {s s1:Shared} {H:Hp} {E:XK} {us:List Value} {vs:List V}
    (S:FnScope N ps scope) (hd:A.handled=none) (e0:Env0 P w K mg base A outer s H) (hl:vs.length=ps.length) (r:Vals vs us)
    (x:InCallC s s.heap.objs.size (bindL (envOfC qual scope s.heap.objs.size f cd).kindOf (ps.zip us) fun _=>none) (cellsFrom (s.heap.objs.size+1) scope.names []) (bindC (envOfC qual scope s.heap.objs.size f cd).kindOf (ps.zip us) fun _=>none) s1) :
    Inv (SI CX P w K mg base N qual scope f cd A outer s H E) [] (start N vs) H s1:=by
 have hpl:ps.length<=N.length:=by have:=congrArg List.length S.pre; rw[List.length_take]at this; omega
 obtain ⟨h1,tk,rfl,hk⟩:=x.done
 have noA:∀b:Addr,b ∉ (SI CX P w K mg base N qual scope f cd A outer s H E).ex:=fun b z=>absurd (show b∈([]:List Addr) from z) (by simp)
 refine ⟨⟨e0.mod,S.kind,rfl,rfl,Nat.le_refl _,fun y z c h1 h2=>?_,fun y hy=>?_,fun y c _ h=>?_,fun _=>hd,Around.frames_deeper e0.frames,.inr ⟨rfl,rfl⟩,fun b z=>absurd z (noA b),e0.bs,e0.bsz,fun b _ _=>noA b,fun b z=>absurd z (noA b),e0.funs,e0.frf⟩,
  rfl,e0.bare,Un.kept hk,⟨_,x.toInCall.ns,fun i y v h1 h2 h3=>?_⟩,fun y c h=>⟨_,x.cell y c h⟩,e0.hok.fresh (Nat.le_refl _),fun y c h=>?_,fun p hp=>absurd (show p∈([]:List (Addr × Obj)) from hp) (by simp),e0.hok.kept hk,?_⟩
 ·exact name_of_addr x.apart (PySem.mem_of_lookup h1) (PySem.mem_of_lookup h2)
 ·have hy:scope.names.lookup y=some .cell∨scope.names.lookup y=some .free:=hy
  rcases hy with hy|hy
  ·exact Pb hy
  ·exact absurd rfl (S.nofree _ (PySem.mem_of_lookup hy))
 ·exact Nat.le_of_lt (x.above y c (PySem.mem_of_lookup h))
 ·have hi:i < vs.length:=by
   unfold start at h2
   by_cases hi:i < vs.length
   ·exact hi
   ·rw[List.getElem?_append_right (by simpa using hi)]at h2
    rw[List.getElem?_replicate]at h2
    split at h2 <;> cases h2
  have ha:vs[i]?=some v:=by
   unfold start at h2
   rw[List.getElem?_append_left (by simpa using hi),List.getElem?_map]at h2
   cases e:vs[i]? with
   |none=>rw[e]at h2; cases h2
   |some a=>rw[e]at h2; cases h2; rfl
  obtain ⟨u,hu,rv⟩:=r.get ha
  have hp:ps[i]?=some y:=by
   rw[← S.pre,List.getElem?_take_of_lt (by omega)]; exact h1
  have ndP:ps.Nodup:=by rw[← S.pre]; exact S.nd.sublist (List.take_sublist _ _)
  refine ⟨u,rv,?_⟩
  rcases S.par y (List.mem_of_getElem? hp) with k|k
  ·exact .inl ⟨k,S0 ndP hp hu k⟩
  ·obtain ⟨c,e⟩:=Pb (n:=s.heap.objs.size+1) k
   refine .inr ⟨.inl k,c,e,?_⟩
   have q:=x.cell y c e
   rw[RN ndP hp hu (by show scope.names.lookup y≠_; rw[k]; decide)]at q
   exact q
 ·exact e0.hok.fresh (Nat.le_of_lt (x.above y c (PySem.mem_of_lookup h)))
 ·unfold start
  show _=N.length
  rw[List.length_append,List.length_map,List.length_replicate]
  omega
theorem Il {CX:CXT} {P:Program} {w:World} {K:PySem.W.Frag} {mg:Str->Option Value} {base:Heap} {k:Nat} {f:Addr} {name qual:Str} {params:Arguments} {body:List Stmt} {scope:Scope} {dV kV doc pm cdv ct oc:Value} {an od:Option Addr}
    {osl:Array (Option Value)} {N ps:List Str} {sp:Sp} (lk:K.lookup f=some ⟨oc,od,.func (PySem.W.fnOf name qual params body scope dV kV doc pm an cdv ct),osl⟩) (hcd:PySem.W.codeIn K cdv qual=true) (S:FnScope N ps scope)
    (len:∀vs H Q E,sp vs H Q E->vs.length=ps.length)
    (hbody:∀(A:Around) (outer:List Env) (s:Shared) (H:Hp) (vs:List V) (Q:VK) (E:XK),Room k (A.deeper (envOfC qual scope s.heap.objs.size f cdv))->sp vs H Q E ->
     ∃t,PSs (SI CX P w K mg base N qual scope f cdv A outer s H E) body t∧t { nx:=fun _ H'=>Q .non H',rt:=Q } (start N vs) H) :
    FnOk P w K mg base CX (k+1) f (PySem.W.fnOf name qual params body scope dV kV doc pm an cdv ct) ps sp:=by
 refine ⟨len,fun A outer s H args us vs Q E hr e0 hb r hsp=>?_⟩
 have hl:=len _ _ _ _ hsp
 have KX:K.In s.heap:=e0.mod.kin.keeps fun b o e=>(e0.bs b o e).1
 have lim:s.heap.NoLimit:=e0.mod.nolimit.keeps fun b o e=>(e0.bs b o e).1
 have hkind:∀y∈ps.zip us,scope.names.lookup y.1=some .local∨(scope.names.lookup y.1=some .cell∧((cellsFrom (s.heap.objs.size+1) scope.names []).lookup y.1).isSome=true):=fun ⟨n,v⟩ hy=>by
  rcases S.par n (List.of_mem_zip hy).1 with q|q
  ·exact .inl q
  ·exact .inr ⟨q,PySem.W.cellsFrom_some _ _ _ (.inl q)⟩
 refine codeAny_call_function hr.depth (KX _ _ lk) rfl S.co S.gen rfl (PySem.W.codeRec_of KX hcd) (hb _ _ _ _ ?_)
 refine wpAny_newFunctionEnv_cells S.kind hkind fun env he s1 x=>?_
 subst he
 refine ⟨lim.keeps x.toInCall.keep,codeAny_func ?_⟩
 obtain ⟨t,ht,hq⟩:=hbody A outer s H vs Q E (hr.deeper _) hsp
 have I:Inv (SI CX P w K mg base N qual scope f cdv A outer s H E) [] (start N vs) H s1:=N6 S hr.hd e0 hl r x
 refine wpAny_mono (ht [] s1 (start N vs) H _ I hq) (fun fl s' hs=>?_) fun e s' hs=>hs
 have fin:∀{σ':St} {H':Hp} {v:V} {u:Value},Inv (SI CX P w K mg base N qual scope f cdv A outer s H E) [] σ' H' s'->RelV v u->Q v H'->CE outer P w H s Q u s' :=
  fun {σ' H' v u} J rv q=>⟨v,H',J.os,J.bare,J.base,J.hok,rv,q⟩
 cases fl with
 |ret u =>
  obtain ⟨v,σ',H',J,rv,q⟩:=hs
  exact fin J rv q
 |next =>
  obtain ⟨σ',H',J,q⟩:=hs
  exact fin (v:=V.non) (u:=Value.none) J rfl q
 |brk =>
  obtain ⟨_,_,_,q⟩:=hs
  exact False.elim q
 |cont =>
  obtain ⟨_,_,_,q⟩:=hs
  exact False.elim q
open PySem PySem.Spec PyProof.Rows
section
variable {X:Cx} {x:Str} {p pos:Pos} {e:Expr} {es:List Expr} {t:TA} {id T:String} {r:List V->Hp->VK->Prop}
def tCB (r:List V->Hp->VK->Prop) (t:TA):TE:=fun σ H Q=>t σ H fun vs H1=>r vs H1 Q
theorem Ph (hc:CallR X (.builtin id) r) (hg:Gl X x) (hm:X.mg x=none) (hv:bootBuiltins x=some (.builtin id)) (ha:PA X (e::es) t) (hn:x≠"__name__":=by decide) (hdb:(x == ("__debug__":Str))=false:=by decide)
    (he:starEach (e::es) X.env=(false,eval e X.env)::starEach es X.env:=by rfl) (hpl:(backTo pos (starEach es X.env)).any (·.1)=false:=by rfl):PE X (.Call (.Name x p) (e::es) [] pos) (tCB r t):=by
 intro pins s σ H Q I h
 refine wpAny_Call_Name_kw (QA I hg hm hv ?_ hn hdb)
 exact PyProof.Rows.callWith_builtin1 (thn (ha pos pins s σ H _ I h) fun us s1 ⟨vs,H1,I1,r1,q1⟩=>hc pins s1 σ H1 vs us Q I1 r1 q1) he hpl
theorem Mc (hc:CallR X (.type T) r) (hg:Gl X x) (hm:X.mg x=none) (hv:bootBuiltins x=some (.type T)) (ha:PA X (e::es) t) (hn:x≠"__name__":=by decide) (hdb:(x == ("__debug__":Str))=false:=by decide)
    (he:starEach (e::es) X.env=(false,eval e X.env)::starEach es X.env:=by rfl) (hpl:(backTo pos (starEach es X.env)).any (·.1)=false:=by rfl):PE X (.Call (.Name x p) (e::es) [] pos) (tCB r t):=by
 intro pins s σ H Q I h
 refine wpAny_Call_Name_kw (QA I hg hm hv ?_ hn hdb)
 exact PyProof.Rows.callWith_type1 (thn (ha pos pins s σ H _ I h) fun us s1 ⟨vs,H1,I1,r1,q1⟩=>hc pins s1 σ H1 vs us Q I1 r1 q1) he hpl
end
end L2
namespace HT
open PySem PyProof.Rows
section
open PySem.SeqAt
open PySem.AutoSeq1 (wpAny_loadPart')
open PySem.MeetsSeq PySem.MeetsSeq2 PySem.MeetsSeq3
end
section
variable {prog:Program} {w:World} {A:Around} {E:Value->Shared->Prop} {s:Shared}
def sIx (n d:Nat):Option Int->Nat
 |none=>d
 |some v=>if v < 0 then (v+(n:Int)).toNat else min v.toNat n
end
end HT
namespace L2
open PySem PySem.Spec PyProof.Rows
section
variable {X:Cx} {e:Expr} {te:TE} {lo hi:Option Expr} {tl th:TO} {pos p2:Pos}
end
open PySem PySem.Spec PyProof.Rows
def ixN (n:Nat) (i:Int):Option Nat:=if 0<=i then (if i < n then some i.toNat else none) else if -(n:Int)<=i then some (i+n).toNat else none
def atI {α:Type} (xs:List α) (i:Int):Option α:=(ixN xs.length i).bind fun j=>xs[j]?
theorem OU {n:Nat} {i:Int} {j:Nat} (h:ixN n i=some j):seqIndex? i n=some j∧j < n∧-(n:Int)<=i∧i < n:=by
 unfold ixN at h
 by_cases h0:0<=i
 ·rw[if_pos h0]at h
  by_cases h1:i < n
  ·rw[if_pos h1]at h
   have e:i.toNat=j:=Option.some.inj h
   exact ⟨by rw[seqIndex_of h0 h1,e],by omega,by omega,h1⟩
  ·rw[if_neg h1]at h; cases h
 ·rw[if_neg h0]at h
  by_cases h1:-(n:Int)<=i
  ·rw[if_pos h1]at h
   have e:(i+n).toNat=j:=Option.some.inj h
   exact ⟨by rw[seqIndex_neg (by omega) h1,e],by omega,h1,by omega⟩
  ·rw[if_neg h1]at h; cases h
theorem Qu {α:Type} {xs:List α} {i:Int} {v:α} (h:atI xs i=some v):∃j,seqIndex? i xs.length=some j∧xs[j]?=some v∧j < xs.length∧-(xs.length:Int)<=i∧i < xs.length:=by
 unfold atI at h
 cases e:ixN xs.length i with
 |none=>rw[e]at h; cases h
 |some j =>
  rw[e]at h
  obtain ⟨h1,h2,h3,h4⟩:=OU e
  exact ⟨j,h1,h,h2,h3,h4⟩
theorem KO {α:Type} {xs:List α} {j:Nat} {v:α} (h:xs[j]?=some v):atI xs (j:Int)=some v:=by
 have hj:j < xs.length:=(List.getElem?_eq_some_iff.mp h).1
 have e:ixN xs.length (j:Int)=some j:=by
  unfold ixN
  rw[if_pos (by omega),if_pos (by omega)]; simp
 unfold atI; rw[e]; exact h
def Qn (b:Expr):Prop:=∀o i,subscripted b false o i=operate [o,i] (getItem o i)
def IxR (X:Cx) (r:R2):Prop :=
 ∀(value slice:Expr) (pins:List (Addr × Obj)) (s:Shared) (σ:St) (H:Hp) (x y:V) (v u:Value) (Q:VK),Inv X pins σ H s->RelV x v->RelV y u->r x y H Q ->
  subscripted slice false v u=operate [v,u] (getItem v u)->wpAny (model X.prog X.w) X.A (subscriptTail value slice v u) (EP X pins σ Q) X.xe s
def MtR (X:Cx) (id:String) (r:V->List V->Hp->VK->Prop):Prop :=
 ∀(pins:List (Addr × Obj)) (s:Shared) (σ:St) (H:Hp) (x:V) (xs:List V) (v:Value) (us:List Value) (Q:VK),Inv X pins σ H s->RelV x v->Vals xs us->r x xs H Q ->
  wpAny (model X.prog X.w) X.A (call (.builtin id) (v::us)) (EP X pins σ Q) X.xe s
section
variable {X:Cx} {a b:Expr} {ta tb:TE} {pos:Pos}
theorem IxR.or {r r':R2} (h:IxR X r) (h':IxR X r'):IxR X (fun x y H Q=>r x y H Q∨r' x y H Q):=by
 intro value slice pins s σ H x y v u Q I rx ry q hs
 rcases q with q|q
 ·exact h value slice pins s σ H x y v u Q I rx ry q hs
 ·exact h' value slice pins s σ H x y v u Q I rx ry q hs
theorem Ix {r:R2} (hr:IxR X r) (ha:PE X a ta) (hb:PE X b tb) (hs:Qn b):PE X (.Subscript a b pos) (tOp r ta tb):=by
 intro pins s σ H Q I h
 exact Subscript_ (GC ha hb I h fun v u s2 x y H2 I2 rx ry q=>hr a b pins s2 σ H2 x y v u Q I2 rx ry q (hs _ _))
def EB (K:PySem.W.Frag):R2:=fun x y H Q=>∃p xs i v,x=.ref p∧y=.int i∧SqL K H p xs∧atI xs i=some v∧Q v H
def FR (K:PySem.W.Frag):R2:=fun x y H Q=>∃p xs i v,x=.ref p∧y=.int i∧SqT K H p xs∧atI xs i=some v∧Q v H
def GZ:R2:=fun x y H Q=>∃z i c,x=.str z∧y=.int i∧z.length<=sizeLine∧atI z.cps.toList i=some c∧Q (.str ⟨#[c]⟩) H
theorem K0:IxR X (EB X.K):=by
 intro value slice pins s σ H x y v u Q I rx ry h hs
 obtain ⟨p,xs,i,z,rfl,rfl,hq,he,q⟩:=h
 cases rx
 obtain ⟨t,rfl⟩:=ry
 obtain ⟨its,r,pl,hz⟩:=I.list hq
 obtain ⟨j,h1,h2,h3,h4,h5⟩:=Qu he
 obtain ⟨w,ew,rw'⟩:=r.get h2
 have hl:=r.length
 have hn:=U0
 have fin:EP X pins σ Q w s:=⟨z,H,I,rw',q⟩
 by_cases h0:0<=i
 ·have hj:i.toNat=j:=by
   rw[seqIndex_of h0 h5]at h1
   exact Option.some.inj h1
  exact item_listR pl.isList h0 (by omega) (by rw[hj]; simpa using ew) fin hs
 ·have hj:(i+(its.toArray.size:Int)).toNat=j:=by
   rw[seqIndex_neg (by omega) h4]at h1
   rw[List.size_toArray,← hl]
   exact Option.some.inj h1
  exact subscriptTail_builtinR (x:=w) pl.isList.typeIs slot_list_getitem.lookup
   (wpAny_getItem_list_neg (Q:=fun r s'=>r=w∧EP X pins σ Q r s') pl.isList (by omega) (by rw[List.size_toArray] <;> omega) (by omega) (by rw[hj]; simpa using ew) ⟨rfl,fin⟩) hs
theorem Hr:IxR X (FR X.K):=by
 intro value slice pins s σ H x y v u Q I rx ry h hs
 obtain ⟨p,xs,i,z,rfl,rfl,hq,he,q⟩:=h
 cases rx
 obtain ⟨t,rfl⟩:=ry
 obtain ⟨its,r,pl,hz⟩:=I.tuple hq
 obtain ⟨j,h1,h2,h3,h4,h5⟩:=Qu he
 obtain ⟨w,ew,rw'⟩:=r.get h2
 have hl:=r.length
 have hn:=U0
 have fin:EP X pins σ Q w s:=⟨z,H,I,rw',q⟩
 exact subscriptTail_builtinR (x:=w) pl.typeIs slot_tuple_getitem.lookup
  (getItem_tuple (j:=j) (Q:=fun r s'=>r=w∧EP X pins σ Q r s') pl (by omega) (by omega) (by rw[List.size_toArray,← hl]; exact h1) (by simpa using ew) ⟨rfl,fin⟩) hs
theorem Ha:IxR X GZ:=by
 intro value slice pins s σ H x y v u Q I rx ry h hs
 obtain ⟨z,i,c,rfl,rfl,hz,he,q⟩:=h
 obtain ⟨t,rfl⟩:=rx
 obtain ⟨t',rfl⟩:=ry
 obtain ⟨j,h1,h2,h3,h4,h5⟩:=Qu he
 have hl:z.cps.toList.length=z.length:=by simp[Str.length]
 rw[hl]at h1 h4 h5
 have hn:=U0
 exact tail_any (typeIs_str s z t) slot_str_getitem.lookup (getItem_str (c:=c) (by
  have e1:decide (i < -(2 ^ 63:Int))=false:=decide_eq_false (by omega)
  have e2:decide (i ≥ 2 ^ 63)=false:=decide_eq_false (by omega)
  rw[e1,e2,Bool.or_false]) (by rw[h1]; simpa using h2) ⟨.str ⟨#[c]⟩,H,I.tok _,⟨_,rfl⟩,q⟩) hs
def rIx (K:PySem.W.Frag):R2:=fun x y H Q=>EB K x y H Q∨FR K x y H Q∨GZ x y H Q
theorem Lh:IxR X (rIx X.K):=K0.or (Hr.or Ha)
theorem Ox (its:List Value) (n j:Nat) (u:Value):Obj.mapSeq (·.setIfInBounds j u) { cls:=.type "list",data:=.seq its.toArray n }={ cls:=.type "list",data:=.seq (its.set j u).toArray n }:=by
 simp[Obj.mapSeq]
theorem Inv.lst {pins:List (Addr × Obj)} {σ:St} {H:Hp} {s:Shared} {p:Addr} {xs:List V} (I:Inv X pins σ H s) (h:H p=some (.lst xs)) :
    ∃(its:List Value) (n:Nat),Vals xs its∧s.heap.get? p=some { cls:=.type "list",data:=.seq its.toArray n }∧xs.length<=sizeLine:=by
 obtain ⟨z,its,n,r,e⟩:=I.hok p _ h
 exact ⟨its,n,r,e,z⟩
theorem Inv.lstUpd {pins:List (Addr × Obj)} {σ:St} {H:Hp} {s:Shared} {p:Addr} {xs ys:List V} {its its':List Value} {n n':Nat} {f:Obj->Obj} (I:Inv X pins σ H s) (h:H p=some (.lst xs))
    (ho:s.heap.get? p=some { cls:=.type "list",data:=.seq its.toArray n }) (hf:f { cls:=.type "list",data:=.seq its.toArray n }={ cls:=.type "list",data:=.seq its'.toArray n' }) (r:Vals ys its') (hz:ys.length<=sizeLine) (t:Nat) :
    Inv X pins σ (upd H p (.lst ys)) { s with heap:=s.heap.update p f,toks:=t }:=by
 have e:(s.heap.update p f).get? p=some { cls:=.type "list",data:=.seq its'.toArray n' }:=by
  rw[Heap.get?_update_self f ho (by rw[hf] <;> rfl),hf]
 refine I.write (x:=p) (e:=p) (by rw[h]; trivial) (.inl rfl) (fun b u hb q=>(Heap.get?_update_other _ _ (Ne.symm hb)).trans q) ⟨_,e⟩ ?_
 exact ⟨hz,its',n',r,e⟩
def Iw:V->V->V->Hp->(Hp->Prop)->Prop:=fun o i v H Q=>∃p xs k j,o=.ref p∧i=.int k∧H p=some (.lst xs)∧ixN xs.length k=some j∧Q (upd H p (.lst (xs.set j v)))
theorem Xh:FK X Iw:=by
 intro pins s σ H o i v ov iv u Q I ro ri rv h
 obtain ⟨p,xs,k,j,rfl,rfl,hp,hj,q⟩:=h
 cases ro
 obtain ⟨t,rfl⟩:=ri
 obtain ⟨its,n,r,ho,hz⟩:=I.lst hp
 obtain ⟨h1,h2,h3,h4⟩:=OU hj
 have hl:=r.length
 have hn:=U0
 have I':Inv X pins σ (upd H p (.lst (xs.set j v))) { s with heap:=s.heap.update p (Obj.mapSeq (·.setIfInBounds j u)) } :=
  I.lstUpd hp ho (Ox its n j u) (r.set rv j) (by rw[List.length_set]; exact hz) s.toks
 by_cases h0:0<=k
 ·have hk:k.toNat=j:=by
   rw[seqIndex_of h0 h4]at h1
   exact Option.some.inj h1
  exact PySem.W.ki_setAt ho h0 (by omega) (by rw[List.size_toArray,← hl]; exact h4) (by rw[hk]; exact ⟨_,I',q⟩)
 ·have hk:(k+(its.toArray.size:Int)).toNat=j:=by
   rw[seqIndex_neg (by omega) h3]at h1
   rw[List.size_toArray,← hl]
   exact Option.some.inj h1
  exact PySem.W.ki_setBack ho (by omega) (by rw[List.size_toArray,← hl]; exact h3) (by omega) (by rw[hk]; exact ⟨_,I',q⟩)
theorem QK:CallR X (.builtin "len") (fun xs H Q=>∃p ys,xs=[.ref p]∧(SqL X.K H p ys∨SqT X.K H p ys)∧Q (.int ys.length) H):=by
 intro pins s σ H xs us Q I r h
 obtain ⟨p,ys,rfl,hq,q⟩:=h
 obtain ⟨u,rfl,rx⟩:=Py r
 cases rx
 have hn:=U0
 rcases hq with hq|hq
 ·obtain ⟨its,r',pl,hz⟩:=I.list hq
  have hlen:=r'.length
  exact Calls.call_len_list pl.isList (by simp only[List.size_toArray] <;> omega) ⟨.int ys.length,H,I.tok _,⟨s.toks+1,by rw[List.size_toArray,hlen]⟩,q⟩
 ·obtain ⟨its,r',pl,hz⟩:=I.tuple hq
  have hlen:=r'.length
  exact len_tuple pl (by simp only[List.size_toArray] <;> omega) ⟨.int ys.length,H,I.tok _,⟨s.toks+1,by rw[List.size_toArray,hlen]⟩,q⟩
theorem CallR.or {f:Value} {r r':List V->Hp->VK->Prop} (h:CallR X f r) (h':CallR X f r'):CallR X f (fun xs H Q=>r xs H Q∨r' xs H Q):=by
 intro pins s σ H xs us Q I rs q
 rcases q with q|q
 ·exact h pins s σ H xs us Q I rs q
 ·exact h' pins s σ H xs us Q I rs q
def tyV (K:PySem.W.Frag) (T:String) (x:V) (H:Hp):Prop:=match x with
 |.str _=>T="str"
 |.int _=>T="int"
 | .ref p => (T = "list" ∧ ∃ xs,SqL K H p xs) ∨ (T = "tuple" ∧ ∃ o,K.lookup p = some o ∧ o.cls = .type "tuple" ∧ o.dict = none) ∨
     (T="dict"∧((∃kvs,H p=some (.dK kvs))∨∃kvs,H p=some (.dT kvs)))∨(T="set"∧∃S n,H p=some (.set S n))
 |_=>False
theorem Hb {pins:List (Addr × Obj)} {σ:St} {H:Hp} {s:Shared} {T:String} {x:V} {v:Value} (I:Inv X pins σ H s) (r:RelV x v) (ty:tyV X.K T x H) :
    s.TypeIs v T∧∀a,v=.ref a->∃ob,s.heap.get? a=some ob∧ob.dict=none:=by
 cases x with
 |str z =>
  obtain ⟨t,rfl⟩:=r
  cases (show T="str" from ty)
  exact ⟨typeIs_str s z t,fun _ e=>nomatch e⟩
 |int i =>
  obtain ⟨t,rfl⟩:=r
  cases (show T="int" from ty)
  exact ⟨typeIs_int s i t,fun _ e=>nomatch e⟩
 |ref p =>
  cases r
  rcases ty with ⟨rfl,xs,hq⟩|⟨rfl,o,hk,hc,hd⟩|⟨rfl,hk⟩|⟨rfl,S,n,hk⟩
  ·obtain ⟨its,_,pl,_⟩:=I.list hq
   refine ⟨pl.isList.typeIs,fun a e=>?_⟩
   cases e
   obtain ⟨o,n,e,c,hd,_⟩:=pl
   exact ⟨o,e,hd⟩
  ·refine ⟨⟨o,I.kIn p o hk,hc⟩,fun a e=>?_⟩
   cases e
   exact ⟨o,I.kIn _ o hk,hd⟩
  ·have z:∃o,s.heap.get? p=some o∧o.ExactDict:=by
    rcases hk with ⟨kvs,hk⟩|⟨kvs,hk⟩
    ·obtain ⟨_,_,_,_,o,_,_,e,ex,_⟩:=I.hok p _ hk
     exact ⟨o,e,ex⟩
    ·obtain ⟨_,_,_,_,o,_,_,e,ex,_⟩:=I.hok p _ hk
     exact ⟨o,e,ex⟩
   obtain ⟨o,e,ex⟩:=z
   refine ⟨⟨o,e,ex.1⟩,fun a e2=>?_⟩
   cases e2
   exact ⟨o,e,ex.2.1⟩
  ·obtain ⟨o,_,_,_,e,ex,_⟩:=I.hok p _ hk
   refine ⟨⟨o,e,ex.1⟩,fun a e2=>?_⟩
   cases e2
   exact ⟨o,e,ex.2.1⟩
 |_=>exact False.elim ty
def tBM (K:PySem.W.Frag) (T:String) (r:V->List V->Hp->VK->Prop) (to:TE) (t:TA):TE:=fun σ H Q=>to σ H fun x H1=>tyV K T x H1∧t σ H1 fun xs H2=>r x xs H2 Q
variable {o e:Expr} {es:List Expr} {to:TE} {t:TA} {name:Str} {apos cpos:Pos} {T id:String} {r:V->List V->Hp->VK->Prop}
theorem Fq (pa:PlainAttrs T) (slot:Slot T name id) (hty:typeOf (.builtin id)=pure (.type "method_descriptor")) (hm:MtR X id r) (ho:PE X o to) (ha:PA X (e::es) t)
    (hbase:attributeBase o name X.env (eval o X.env)=eval o X.env:=by rfl)
    (hfew:((backTo cpos (starEach (e::es) X.env)).all (fun x=>!x.1)&&(backToKw cpos (keywordEach [] X.env)).all (fun x=>x.1.isSome)
     && decide ((e::es).length+([]:List Keyword).length+(if ([]:List Keyword).isEmpty then 0 else 1) < 30))=true:=by rfl)
    (hline:(apos.endLine == cpos.line)=true:=by rfl) (hs:starEach (e::es) X.env=(false,eval e X.env)::starEach es X.env:=by rfl) (hplain:(backTo cpos (starEach es X.env)).any (·.1)=false:=by rfl) :
    PE X (.Call (.Attribute o name apos) (e::es) [] cpos) (tBM X.K T r to t):=by
 intro pins s σ H Q I h
 refine wpAny_Call_method_late hbase hfew hline rfl (thn (ho pins s σ H _ I h) fun v s1 ⟨x,H1,I1,r1,ty,q1⟩=>?_)
 obtain ⟨h1,h2⟩:=Hb I1 r1 ty
 refine ⟨T,id,pa,slot,hty,h1,h2,?_⟩
 have hA:=ha cpos pins s1 σ H1 _ I1 q1
 rw[hs]at hA ⊢
 refine Calls.callWith_builtin (by show (false || (backTo cpos (starEach es X.env)).any (·.1))=false; rw[hplain] <;> rfl) (Calls.evalArgs_plain ?_)
 exact thn hA fun us s2 ⟨vs,H2,I2,r2,q2⟩=>hm pins s2 σ H2 x vs v us Q I2 r1 r2 q2
end
open PySem PySem.Spec PyProof.Rows
def MtM (X:Cx) (id:String) (r:V->List V->Hp->VK->Prop):Prop :=
 ∀(pins:List (Addr × Obj)) (s:Shared) (σ:St) (H:Hp) (x:V) (xs:List V) (v:Value) (us:List Value) (Q:VK),Inv X pins σ H s->RelV x v->Vals xs us->r x xs H Q ->
  wpAny (model X.prog X.w) X.A (call (.builtin id) (v::us)) (EP X pins σ Q) X.xe s
theorem Vals.one:∀{x:V} {us:List Value},Vals [x] us->∃u,us=[u]∧RelV x u
 |_,_,.cons r .nil=>⟨_,rfl,r⟩
theorem Vals.rep {xs:List V} {us:List Value} (h:Vals xs us):∀k:Nat,Vals (List.replicate k xs).flatten (List.replicate k us).flatten
 |0=>.nil
 |k+1=>by
  rw[List.replicate_succ,List.replicate_succ,List.flatten_cons,List.flatten_cons]
  exact Vals.append h (Vals.rep h k)
theorem Rq (its:List Value):∀(k:Nat) (acc:List Value),
    List.foldl (fun x1 x2=>x1++x2) acc.toArray (List.replicate k its.toArray)=(acc++(List.replicate k its).flatten).toArray
 |0,acc=>by simp
 |k+1,acc=>by
  have e:acc.toArray++its.toArray=(acc++its).toArray:=by simp
  have e2:(acc++its)++(List.replicate k its).flatten=acc++(List.replicate (k+1) its).flatten:=by
   rw[List.replicate_succ,List.flatten_cons,List.append_assoc]
  rw[← e2,← Rq its k (acc++its),← e,List.replicate_succ,List.foldl_cons]
section
variable {X:Cx} {pins:List (Addr × Obj)} {σ:St} {H:Hp} {s:Shared} {l b:Addr} {xs ys zs:List V}
theorem Inv.lset {its its':List Value} {n:Nat} {f:Array Value->Array Value} {t':Nat} (I:Inv X pins σ H s) (hH:H l=some (.lst xs))
    (e:s.heap.get? l=some { cls:=.type "list",data:=.seq its.toArray n }) (hf:f its.toArray=its'.toArray) (hv:Vals ys its') (hz:ys.length<=sizeLine) :
    Inv X pins σ (upd H l (.lst ys)) { s with heap:=s.heap.update l (Obj.mapSeq f),toks:=t' }:=by
 have q:=PySem.IsL.update e f
 rw[hf]at q
 refine I.write (x:=l) (e:=l) (by rw[hH]; exact trivial) (.inl rfl) (fun b' u hb hu=>(Heap.get?_update_other s.heap (Obj.mapSeq f) (Ne.symm hb)).trans hu) ⟨_,q⟩ ?_
 exact ⟨hz,its',_,hv,q⟩
theorem Inv.lnew {its:List Value} {t':Nat} (I:Inv X pins σ H s) (hv:Vals ys its) (hz:ys.length<=sizeLine) :
    Inv X pins σ (upd H s.heap.objs.size (.lst ys)) { s with heap:=s.heap.push { cls:=.type "list",data:=.seq its.toArray },toks:=t' } :=
 I.laid (fun _ _ q=>Heap.get?_push_of_some _ q) (Nat.le_refl _) ⟨hz,its,0,hv,Heap.get?_push_size _ rfl⟩
theorem Inv.fresh (I:Inv X pins σ H s):H s.heap.objs.size=none:=I.hok.fresh (Nat.le_refl _)
theorem Inv.lstM (I:Inv X pins σ H s) (hH:H l=some (.lst xs)):xs.length<=sizeLine∧∃(its:List Value) (n:Nat),Vals xs its∧xs.length=its.length∧s.heap.get? l=some { cls:=.type "list",data:=.seq its.toArray n }:=by
 obtain ⟨z,its,n,r,e⟩:=I.hok l _ hH
 exact ⟨z,its,n,r,r.length,e⟩
theorem M0 {n:Nat} (h:n<=sizeLine):Builtin.List.listTooLong n=false:=by
 unfold Builtin.List.listTooLong
 exact decide_eq_false (by omega)
end
section
variable {X:Cx}
def No:V->List V->Hp->VK->Prop:=fun x vs H Q=>∃l xs y,x=.ref l∧vs=[y]∧H l=some (.lst xs)∧xs.length < sizeLine∧Q .non (upd H l (.lst (xs++[y])))
theorem MA:MtM X "list.append" No:=by
 intro pins s σ H x vs v us Q I rx rv h
 obtain ⟨l,xs,y,rfl,rfl,hH,hz,q⟩:=h
 cases rx
 obtain ⟨u,rfl,ru⟩:=rv.one
 obtain ⟨z,its,n,r,hl,e⟩:=I.lstM hH
 refine call_meets F.slot_list_append ⟨_,e,rfl⟩ F.entry_list_append (F.args_list_append_2 _ _) (PySem.list_append l its.toArray n u (by rw[List.size_toArray]; omega)) ⟨e,?_⟩
 refine ⟨.non,_,I.lset (its':=its++[u]) hH e (by simp) (r.append (.cons ru .nil)) ?_,rfl,q⟩
 rw[List.length_append,List.length_singleton]
 omega
def EJ:R2:=fun x y H Q=>∃l k xs,x=.ref l∧y=.int k∧H l=some (.lst xs)∧-(2 ^ 63)<=k∧k < 2 ^ 63∧xs.length * k.toNat<=sizeLine ∧
 ∀p,H p=none->Q (.ref p) (upd H p (.lst (List.replicate k.toNat xs).flatten))
theorem Jm {α:Type} (xs:List α) (k:Nat):(List.replicate k xs).flatten.length=k * xs.length:=by
 induction k with
 |zero=>simp
 |succ k ih=>rw[List.replicate_succ,List.flatten_cons,List.length_append,ih,Nat.succ_mul,Nat.add_comm]
theorem HS:OpR X (binaryOp .Mult) EJ:=by
 intro pins s σ H x y v u Q I rx ry h
 obtain ⟨l,k,xs,rfl,rfl,hH,h1,h2,hz,q⟩:=h
 cases rx
 obtain ⟨t,rfl⟩:=ry
 obtain ⟨z,its,n,r,hl,e⟩:=I.lstM hH
 have hlen:its.toArray.size * k.toNat<=sizeLine:=by rw[List.size_toArray,← hl]; exact hz
 have hcap:¬ its.toArray.size * k.toNat > (2 ^ 63 - 1) / 8:=by
  have:(sizeLine:Nat)<=(2 ^ 63 - 1) / 8:=by decide
  omega
 have hfit:¬ (!Builtin.List.listFitsIndex k)=true:=by
  rw[fitsIndex_both h1 h2]
  exact Bool.false_ne_true
 have hlong:¬ Builtin.List.listTooLong (its.toArray.size * k.toNat)=true:=by
  rw[M0 hlen]
  exact Bool.false_ne_true
 have hnew:List.foldl (fun x1 x2=>x1++x2) #[] (List.replicate (if its.toArray.isEmpty=true then 0 else k.toNat) its.toArray)=(List.replicate k.toNat its).flatten.toArray:=by
  have f0:∀m:Nat,List.foldl (fun x1 x2=>x1++x2) #[] (List.replicate m its.toArray)=(List.replicate m its).flatten.toArray:=fun m=>by
   have:=Rq its m []
   rw[List.nil_append]at this
   exact this
  rw[f0]
  cases its with
  |nil=>simp
  |cons a r'=>rw[if_neg (by simp)]
 refine wpAny_binaryOp_repeat_ref (T:="list") (U:="int") (by decide) ⟨_,e,rfl⟩ (fun s'=>typeIs_int s' k t) noFill_list_mul F.fills_int_mul F.slot_int_rmul repeat_list F.slot_int_index.lookup
  (call_meets F.slot_int_rmul (typeIs_int s k t) F.entry_int_rmul (F.args_int_rmul_2 _ _) (int___rmul___int_list k t l its.toArray n)
   ⟨e,rfl,⟨_,e,rfl⟩,call_meets F.slot_list_mul ⟨_,e,rfl⟩ F.entry_list_mul (F.args_list_mul_2 _ _) (AutoListH.list___mul___list_int_3 l its.toArray n k t hfit hcap hlong) ⟨e,?_⟩⟩)
 rw[hnew]
 exact ⟨.ref _,_,I.lnew (t':=s.toks) (r.rep k.toNat) (by rw[Jm,Nat.mul_comm]; exact hz),rfl,q _ I.fresh⟩
end
section
variable {prog:Program} {w:World} {A:Around} {E:Value->Shared->Prop} {s:Shared}
end
section
variable {X:Cx}
end
open PySem PySem.Spec PyProof.Rows
section
variable {κ:Type} [DecidableEq κ]
def Ug (kvs:List (κ × V)) (k:κ):Option V:=(kvs.find? fun kv=>decide (kv.1=k)).map (·.2)
def Ub (kvs:List (κ × V)) (k:κ) (v:V):List (κ × V) :=
 if (kvs.any fun kv=>decide (kv.1=k))=true then kvs.map (fun kv=>if kv.1=k then (kv.1,v) else kv) else kvs++[(k,v)]
def OW (kvs:List (κ × V)) (k:κ):List (κ × V):=kvs.filter fun kv=>decide (kv.1≠k)
theorem Tz {p:κ × V} {r:List (κ × V)} {k:κ} (e:p.1=k):Ug (p::r) k=some p.2:=by simp[Ug,List.find?_cons,e]
theorem Sb {p:κ × V} {r:List (κ × V)} {k:κ} (e:¬ p.1=k):Ug (p::r) k=Ug r k:=by simp[Ug,List.find?_cons,e]
theorem Pj (k:κ):∀kvs:List (κ × V),(kvs.any fun kv=>decide (kv.1=k))=(Ug kvs k).isSome
 |[]=>rfl
 |p::r=>by
  rw[List.any_cons]
  by_cases e:p.1=k
  ·simp only[Tz e,decide_eq_true e,Bool.true_or,Option.isSome_some]
  ·rw[Sb e,decide_eq_false e,Bool.false_or]; exact Pj k r
theorem Tb (kvs:List (κ × V)) (k:κ) (v:V):(Ub kvs k v).length<=kvs.length+1:=by
 unfold Ub
 split
 ·rw[List.length_map]; omega
 ·rw[List.length_append,List.length_cons,List.length_nil]; omega
theorem RelO.isSome_eq {o:Option V} {u:Option Value} (r:RelO o u):o.isSome=u.isSome:=by
 cases o with
 |none=>cases u with
  |none=>rfl
  |some _=>exact (show False from r).elim
 |some _=>cases u with
  |none=>exact (show False from r).elim
  |some _=>rfl
theorem RelO.getD {o:Option V} {u:Option Value} {d:V} {d':Value} (r:RelO o u) (rd:RelV d d'):RelV (o.getD d) (u.getD d'):=by
 cases o with
 |none=>cases u with
  |none=>exact rd
  |some _=>exact (show False from r).elim
 |some _=>cases u with
  |none=>exact (show False from r).elim
  |some _=>exact r
theorem KV.val {kvs:List (κ × V)} {vs:List (κ × Value)} (r:KV kvs vs) (k:κ):RelO (Ug kvs k) (valueAt vs k):=by
 unfold KV at r
 induction r with
 |nil=>exact True.intro
 |@cons p q ps qs h t ih =>
  obtain ⟨h1,h2⟩:=h
  by_cases e:p.1=k
  ·have e':q.1=k:=h1.symm.trans e
   have b:valueAt (q::qs) k=some q.2:=by simp[valueAt,List.find?_cons,e']
   rw[Tz e,b]; exact h2
  ·have e':¬ q.1=k:=fun z=>e (h1.trans z)
   have b:valueAt (q::qs) k=valueAt qs k:=by simp[valueAt,List.find?_cons,e']
   rw[Sb e,b]; exact ih
theorem KV.any {kvs:List (κ × V)} {vs:List (κ × Value)} (r:KV kvs vs) (k:κ):(kvs.any fun kv=>decide (kv.1=k))=vs.any fun kv=>decide (kv.1=k):=by
 unfold KV at r
 induction r with
 |nil=>rfl
 |cons h t ih=>rw[List.any_cons,List.any_cons,ih,h.1]
theorem KV.repl {kvs:List (κ × V)} {vs:List (κ × Value)} (r:KV kvs vs) (k:κ) {y:V} {u:Value} (ry:RelV y u) :
    KV (kvs.map fun kv=>if kv.1=k then (kv.1,y) else kv) (vs.map fun kv=>if kv.1=k then (kv.1,u) else kv):=by
 unfold KV at r ⊢
 induction r with
 |nil=>exact .nil
 |@cons p q ps qs h t ih =>
  rw[List.map_cons,List.map_cons]
  refine .cons ?_ ih
  obtain ⟨h1,h2⟩:=h
  by_cases e:p.1=k
  ·rw[if_pos e,if_pos (h1.symm.trans e)]; exact ⟨h1,ry⟩
  ·rw[if_neg e,if_neg (fun z=>e (h1.trans z))]; exact ⟨h1,h2⟩
theorem KV.put {kvs:List (κ × V)} {vs:List (κ × Value)} (r:KV kvs vs) (k:κ) {y:V} {u:Value} (ry:RelV y u):KV (Ub kvs k y) (stored vs k u):=by
 unfold Ub stored
 rw[r.any k]
 by_cases e:(vs.any fun kv=>decide (kv.1=k))=true
 ·rw[if_pos e,if_pos e]; exact r.repl k ry
 ·rw[if_neg e,if_neg e]; exact Paired.snoc r ⟨rfl,ry⟩
theorem KV.drop {kvs:List (κ × V)} {vs:List (κ × Value)} (r:KV kvs vs) (k:κ):KV (OW kvs k) (without vs k):=by
 unfold KV at r ⊢
 unfold OW without
 induction r with
 |nil=>exact .nil
 |@cons p q ps qs h t ih =>
  obtain ⟨h1,h2⟩:=h
  rw[List.filter_cons,List.filter_cons]
  by_cases e:p.1=k
  ·have a:¬ decide (p.1≠k)=true:=by simp[e]
   have b:¬ decide (q.1≠k)=true:=by simp[h1.symm.trans e]
   rw[if_neg a,if_neg b]; exact ih
  ·have e':¬ q.1=k:=fun z=>e (h1.trans z)
   have a:decide (p.1≠k)=true:=by simp[e]
   have b:decide (q.1≠k)=true:=by simp[e']
   rw[if_pos a,if_pos b]; exact .cons ⟨h1,h2⟩ ih
theorem KV.length {kvs:List (κ × V)} {vs:List (κ × Value)} (r:KV kvs vs):kvs.length=vs.length:=Paired.length r
end
theorem Pt {P:Program} {w:World} {k:Key} {u:Value} (r:RelV (kV k) u):(Z2 P w).is k u=true:=by
 cases k with
 |inl i=>obtain ⟨t,e⟩:=(show ∃t,u=Value.int i t from r); subst e; exact PH P w i t
 |inr x=>obtain ⟨t,e⟩:=(show ∃t,u=Value.str x t from r); subst e; exact PL P w x t
theorem Rx {P:Program} {w:World}:∀{ks:List Key} {us:List Value},Vals (ks.map kV) us->ItemsAre (Z2 P w) ks us
 |[],_,r=>by rw[List.map_nil]at r; cases r; exact .nil
 |k::ks,_,r=>by
  rw[List.map_cons]at r
  cases r with
  |cons h t=>exact .cons (Pt h) (Rx t)
abbrev KT (H:Hp):List (List Key × V)->List (List Key × Addr × Value)->Prop:=Paired fun p q=>p.1=q.1∧H q.2.1=some (.tup (p.1.map kV))∧RelV p.2 q.2.2
theorem KT.val {H:Hp} {kvs:List (List Key × V)} {xs:List (List Key × Addr × Value)} (r:KT H kvs xs) (k:List Key):RelO (Ug kvs k) ((atKey xs k).map (·.2)):=by
 induction r with
 |nil=>exact True.intro
 |@cons p q ps qs h t ih =>
  obtain ⟨h1,_,h2⟩:=h
  by_cases e:p.1=k
  ·have e':q.1=k:=h1.symm.trans e
   have b:atKey (q::qs) k=some q.2:=by simp[atKey,List.find?_cons,e']
   rw[Tz e,b]; exact h2
  ·have e':¬ q.1=k:=fun z=>e (h1.trans z)
   have b:atKey (q::qs) k=atKey qs k:=by simp[atKey,List.find?_cons,e']
   rw[Sb e,b]; exact ih
theorem KT.repl {H:Hp} {kvs:List (List Key × V)} {xs:List (List Key × Addr × Value)} (r:KT H kvs xs) (k:List Key) {y:V} {u:Value} (ry:RelV y u) :
    KT H (kvs.map fun kv=>if kv.1=k then (kv.1,y) else kv) (xs.map (putAt k u)):=by
 induction r with
 |nil=>exact .nil
 |@cons p q ps qs h t ih =>
  rw[List.map_cons,List.map_cons]
  refine .cons ?_ ih
  obtain ⟨h1,h2,h3⟩:=h
  unfold putAt
  by_cases e:p.1=k
  ·rw[if_pos e,if_pos (h1.symm.trans e)]; exact ⟨h1,h2,ry⟩
  ·rw[if_neg e,if_neg (fun z=>e (h1.trans z))]; exact ⟨h1,h2,h3⟩
theorem KT.put {H:Hp} {kvs:List (List Key × V)} {xs:List (List Key × Addr × Value)} (r:KT H kvs xs) (k:List Key) {b:Addr} {y:V} {u:Value} (hb:H b=some (.tup (k.map kV))) (ry:RelV y u) :
    KT H (Ub kvs k y) (storedH xs k b u):=by
 have e:(kvs.any fun kv=>decide (kv.1=k))=(atKey xs k).isSome:=by
  rw[Pj,(r.val k).isSome_eq,Option.isSome_map]
 unfold Ub storedH
 rw[e]
 by_cases q:(atKey xs k).isSome=true
 ·rw[if_pos q,if_pos q]; exact r.repl k ry
 ·rw[if_neg q,if_neg q]; exact Paired.snoc r ⟨rfl,hb,ry⟩
theorem KT.keeps {H H':Hp} {kvs:List (List Key × V)} {xs:List (List Key × Addr × Value)} (r:KT H kvs xs) (ht:∀b ys,H b=some (.tup ys)->H' b=some (.tup ys)):KT H' kvs xs :=
 Paired.mapP r fun _ _ z=>⟨z.1,ht _ _ z.2.1,z.2.2⟩
section
variable {P:Program} {w:World} {H:Hp} {h:Heap} {a:Addr}
theorem IR {u:HO} (ok:HOk P w H h) (e:Rd H a u):ObjOk P w H h a u:=e.ok ok
theorem Rm {kvs:List (Key × V)} (ok:HOk P w H h) (e:Rd H a (.dK kvs)):kvs.length<=sizeLine∧(a == sysModules)=false∧∃vs,KV kvs vs∧h.DictOf (Z2 P w) a vs :=
 show ObjOk P w H h a (.dK kvs) from IR ok e
theorem Ek {kvs:List (Key × V)} (ok:HOk P w H h) (e:H a=some (.dK kvs)):kvs.length<=sizeLine∧(a == sysModules)=false∧∃vs,KV kvs vs∧h.DictOf (Z2 P w) a vs:=Rm ok (.inl e)
theorem Sj {ks:List Key} (ok:HOk P w H h) (e:H a=some (.tup (ks.map kV))):(tupleKind (Z2 P w)).is h ks a:=by
 obtain ⟨_,its,r,o,h1,h2,n,h3⟩:=(show ObjOk P w H h a (.tup (ks.map kV)) from ok a _ e)
 exact ⟨o,its.toArray,n,h1,h2,h3,by simpa using Rx r⟩
theorem PR {kvs:List (List Key × V)} (ok:HOk P w H h) (e:Rd H a (.dT kvs)):kvs.length<=sizeLine∧(a == sysModules)=false ∧
    ∃xs,KT H kvs xs∧h.DictOfH (tupleKind (Z2 P w)) a xs:=by
 obtain ⟨z,y,xs,r,o,es,ep,h1,h2,h3,h4,h5⟩:=(show ObjOk P w H h a (.dT kvs) from IR ok e)
 refine ⟨z,y,xs,r,o,es,ep,h1,h2,h3,h4,fun x hx=>?_,h5⟩
 have all:∀{l:List (List Key × V)} {m:List (List Key × Addr × Value)},KT H l m->∀x∈m,(tupleKind (Z2 P w)).is h x.1 x.2.1:=by
  intro l m q
  induction q with
  |nil=>intro x hx; exact nomatch hx
  |@cons p q ps qs hq t ih =>
   intro x hx
   rcases List.mem_cons.mp hx with e|hx
   ·subst e
    exact Sj ok (by rw[← hq.1]; exact hq.2.1)
   ·exact ih x hx
 exact all r x hx
theorem Ef {kvs:List (List Key × V)} (ok:HOk P w H h) (e:H a=some (.dT kvs)):kvs.length<=sizeLine∧(a == sysModules)=false ∧
    ∃xs,KT H kvs xs∧h.DictOfH (tupleKind (Z2 P w)) a xs:=PR ok (.inl e)
end
def DGet (H:Hp) (a:Addr) (y:V) (r:Option V):Prop :=
 (∃kvs k,Rd H a (.dK kvs)∧y=kV k∧r=Ug kvs k)∨∃kvs k b,Rd H a (.dT kvs)∧y=.ref b∧H b=some (.tup (k.map kV))∧r=Ug kvs k
def DPut (H:Hp) (a:Addr) (y v:V) (H':Hp):Prop :=
 (∃kvs k,H a=some (.dK kvs)∧y=kV k∧kvs.length < sizeLine∧H'=upd H a (.dK (Ub kvs k v))) ∨
 ∃kvs k b,H a=some (.dT kvs)∧y=.ref b∧H b=some (.tup (k.map kV))∧kvs.length < sizeLine∧H'=upd H a (.dT (Ub kvs k v))
theorem DGet.k {H:Hp} {a:Addr} {kvs:List (Key × V)} {k:Key} (e:H a=some (.dK kvs)):DGet H a (kV k) (Ug kvs k):=.inl ⟨kvs,k,.inl e,rfl,rfl⟩
theorem DGet.t {H:Hp} {a b:Addr} {kvs:List (List Key × V)} {k:List Key} (e:H a=some (.dT kvs)) (eb:H b=some (.tup (k.map kV))):DGet H a (.ref b) (Ug kvs k):=.inr ⟨kvs,k,b,.inl e,rfl,eb,rfl⟩
theorem DPut.k {H:Hp} {a:Addr} {kvs:List (Key × V)} {k:Key} {v:V} (e:H a=some (.dK kvs)) (hl:kvs.length < sizeLine):DPut H a (kV k) v (upd H a (.dK (Ub kvs k v))):=.inl ⟨kvs,k,e,rfl,hl,rfl⟩
theorem DPut.t {H:Hp} {a b:Addr} {kvs:List (List Key × V)} {k:List Key} {v:V} (e:H a=some (.dT kvs)) (eb:H b=some (.tup (k.map kV))) (hl:kvs.length < sizeLine) :
    DPut H a (.ref b) v (upd H a (.dT (Ub kvs k v))):=.inr ⟨kvs,k,b,e,rfl,eb,hl,rfl⟩
section
variable {X:Cx} {pins:List (Addr × Obj)} {σ:St} {H:Hp} {s:Shared} {a:Addr} {y v:V} {u r:Value} {o:Option V} {A:Around} {E:Value->Shared->Prop}
theorem Inv.big (I:Inv X pins σ H s):sysModules < s.heap.objs.size:=by
 have h:mainGlobals < s.heap.objs.size:=(I.mod.glob.keeps I.bk).lt
 exact Nat.lt_trans (by decide) h
theorem EW {Q:Value->Shared->Prop} (hu:A.units+1 < cLine) (I:Inv X pins σ H s) (g:DGet H a y o) (ry:RelV y u) (h:∀s',Inv X pins σ H s'->Q (.bool o.isSome) s') :
    wpAny (model X.prog X.w) A (compareOp .In u (.ref a)) Q E s:=by
 rcases g with ⟨kvs,k,e,ey,l⟩|⟨kvs,k,b,e,ey,eb,l⟩
 ·subst ey
  obtain ⟨z,hd,vs,rel,dd⟩:=Rm I.hok e
  refine wpAny_in_of (Pt ry) hd dd.mapOf ?_
  rw[← (rel.val k).isSome_eq,← l]
  exact h _ (I.tok _)
 ·subst ey
  cases (show u=Value.ref b from ry)
  obtain ⟨z,hd,xs,rel,dd⟩:=PR I.hok e
  refine wpAny_in_heap (tupleKind_room_in1 hu) (Sj I.hok eb) hd dd ?_
  have q:=(rel.val k).isSome_eq
  rw[Option.isSome_map]at q
  rw[← q,← l]
  exact h _ (I.tok _)
theorem O6 {h':Heap} {t':Nat} {ob:HO} (I:Inv X pins σ H s) (mu:Mut (H a)) (hs:Heap.SameBut a s.heap h') (he:∃q,h'.get? a=some q) (new:ObjOk X.prog X.w (upd H a ob) h' a ob) :
    Inv X pins σ (upd H a ob) { s with heap:=h',toks:=t' } :=
 I.write (x:=a) (e:=a) mu (.inl rfl) (fun b q hb z=>(hs.2 b hb).trans z) he new
theorem Hw {P:Program} {w:World} {H':Hp} {h':Heap} {kvs:List (Key × V)} {vs:List (Key × Value)} (z:kvs.length<=sizeLine) (hd:(a == sysModules)=false) (rel:KV kvs vs) (dd:h'.DictOf (Z2 P w) a vs) :
    ObjOk P w H' h' a (.dK kvs):=⟨z,hd,vs,rel,dd⟩
theorem Mv {H':Hp} {Q:Unit->Shared->Prop} (hu:A.units+1 < cLine) (I:Inv X pins σ H s) (g:DPut H a y v H') (ry:RelV y u) (rv:RelV v r) (h:∀s',Inv X pins σ H' s'->Q () s') :
    wpAny (model X.prog X.w) A (setItem (.ref a) u r) Q E s:=by
 rcases g with ⟨kvs,k,e,ey,l,eH⟩|⟨kvs,k,b,e,ey,eb,l,eH⟩
 ·subst ey eH
  obtain ⟨z,hd,vs,rel,dd⟩:=Ek I.hok e
  have hz:vs.length<=sizeLine:=by rw[← rel.length]; exact z
  have hl:(Ub kvs k v).length<=sizeLine:=by have:=Tb kvs k v; omega
  refine wpAny_setItem_pairs (hsz:=hz) (Pt ry) dd fun h' dd' hs=>h _ ?_
  have he:∃q,h'.get? a=some q:=let ⟨q,_,_,hq,_⟩:=dd'; ⟨q,hq⟩
  exact O6 I (by rw[e]; exact True.intro) hs he (Hw hl hd (rel.put k rv) dd')
 ·subst ey eH
  cases (show u=Value.ref b from ry)
  obtain ⟨z,hd,xs,rel,dd⟩:=Ef I.hok e
  have hz:xs.length<=sizeLine:=by rw[← Paired.length rel]; exact z
  have hl:(Ub kvs k v).length<=sizeLine:=by have:=Tb kvs k v; omega
  refine wpAny_setItem_heap (hsz:=hz) (tupleKind_room_in1 hu) (Sj I.hok eb) dd fun h' dd' hs=>h _ ?_
  obtain ⟨q,es,ep,hq,h2,h3,h4,_,h5⟩:=dd'
  refine O6 I (by rw[e]; exact True.intro) hs ⟨q,hq⟩ ⟨hl,hd,_,(rel.put k eb rv).keeps fun c ys ec=>?_,q,es,ep,hq,h2,h3,h4,h5⟩
  rw[Zp (Fv ec e (fun z=>nomatch z))]
  exact ec
end
section
variable {X:Cx} {pins:List (Addr × Obj)} {σ:St} {H:Hp} {s:Shared} {a:Addr} {kvs:List (Key × V)} {k:Key} {u:Value} {A:Around} {E:Value->Shared->Prop}
theorem G6 {Q:Value->Shared->Prop} (I:Inv X pins σ H s) (e:Rd H a (.dK kvs)) (h:∀t s',Inv X pins σ H s'->Q (.int kvs.length t) s'):wpAny (model X.prog X.w) A (call (.builtin "len") [.ref a]) Q E s:=by
 obtain ⟨z,hd,vs,rel,dd⟩:=Rm I.hok e
 refine call_len_dict hd dd (by rw[← rel.length]; rw[sizeLine_eq]at z; omega) ?_
 rw[← rel.length]
 exact h _ _ (I.tok _)
end
def EG (ty td:TE):TE:=fun σ H Q=>ty σ H fun y H1=>td σ H1 fun x H2=>∃a o,x=.ref a∧DGet H2 a y o∧Q (.bl o.isSome) H2
def Fs (td ty tv:TE):TS:=fun D σ H=>tv σ H fun v H1=>td σ H1 fun x H2=>ty σ H2 fun y H3=>∃a H4,x=.ref a∧DPut H3 a y v H4∧D.nx σ H4
section
variable {X:Cx} {o i e value:Expr} {pos pos' tpos:Pos} {td ty tv:TE}
theorem Ll (hu:X.A.units+1 < cLine) (hi:PE X i ty) (ho:PE X o td):PC X .In i o (EG ty td):=by
 intro pins s σ H Q I h
 refine thn (hi pins s σ H _ I h) fun iv s1 ⟨y,H1,I1,ry,q1⟩=>thn (ho pins s1 σ H1 _ I1 q1) fun u s2 ⟨x,H2,I2,rx,a,ov,ex,g,q2⟩=>?_
 subst ex
 obtain rfl:u=Value.ref a:=rx
 exact EW hu I2 g ry fun s3 I3=>⟨.bl ov.isSome,H2,I3,rfl,q2⟩
theorem JV (hu:X.A.units+1 < cLine) (ho:PE X o td) (hi:PE X i ty) (hv:PE X value tv) (hs:swapsWith value (some (.Subscript o i pos')) pos.line X.env=pure false) :
    PS X (.Assign [.Subscript o i pos'] value pos) (Fs td ty tv):=by
 intro pins s σ H D I h
 refine wpAny_Assign_Subscript (thn (hv pins s σ H _ I h) fun r s1 ⟨v,H1,I1,rv,q1⟩=>thn (ho pins s1 σ H1 _ I1 q1) fun u s2 ⟨x,H2,I2,rx,q2⟩=>thn (hi pins s2 σ H2 _ I2 q2) fun iv s3 ⟨y,H3,I3,ry,a,H4,ex,g,q3⟩=>?_) hs
 subst ex
 obtain rfl:u=Value.ref a:=rx
 exact Mv hu I3 g ry rv fun s4 I4=>⟨σ,H4,I4,q3⟩
end
theorem LM {P:Program} {w:World} {H:Hp} (h:Heap) (hb:sysModules < h.objs.size):ObjOk P w H (h.push { cls:=.type "dict",data:=.dict #[] }) h.objs.size (.dK []) :=
 ⟨Nat.zero_le _,beq_eq_false_iff_ne.mpr (Ne.symm (Nat.ne_of_lt hb)),[],.nil,Heap.DictOf.new h⟩
theorem Kk {P:Program} {w:World} {H:Hp} (h:Heap) (hb:sysModules < h.objs.size):ObjOk P w H (h.push { cls:=.type "dict",data:=.dict #[] }) h.objs.size (.dT []) :=
 ⟨Nat.zero_le _,beq_eq_false_iff_ne.mpr (Ne.symm (Nat.ne_of_lt hb)),[],.nil,_,#[],0,Heap.get?_push_size _ rfl,⟨rfl,rfl,rfl⟩,rfl,rfl,List.nodup_nil⟩
def HA:TE:=fun _ H Q=>∀p,H p=none->Q (.ref p) (upd H p (.dK []))
def Hq:TE:=fun _ H Q=>∀p,H p=none->Q (.ref p) (upd H p (.dT []))
section
variable {X:Cx} {pos:Pos}
theorem Ks:PE X (.Dict [] [] pos) HA:=fun pins s σ H Q I h =>
 wpAny_Dict_empty ⟨.ref s.heap.objs.size,_,I.laid (a:=s.heap.objs.size) (o:=.dK []) (t':=s.toks) (fun _ _ q=>Heap.get?_push_of_some _ q) (Nat.le_refl _) (LM s.heap I.big),rfl,h _ (I.hok.fresh (Nat.le_refl _))⟩
theorem Lg:PE X (.Dict [] [] pos) Hq:=fun pins s σ H Q I h =>
 wpAny_Dict_empty ⟨.ref s.heap.objs.size,_,I.laid (a:=s.heap.objs.size) (o:=.dT []) (t':=s.toks) (fun _ _ q=>Heap.get?_push_of_some _ q) (Nat.le_refl _) (Kk s.heap I.big),rfl,h _ (I.hok.fresh (Nat.le_refl _))⟩
end
structure M1 (X:Cx) (o:Expr) (m:Str) (apos:Pos) (e:Expr) (cpos:Pos):Prop where
 base:attributeBase o m X.env (eval o X.env)=eval o X.env
 few:((backTo cpos (starEach [e] X.env)).all (fun x=>!x.1)&&(backToKw cpos (keywordEach [] X.env)).all (fun x=>x.1.isSome)
  && decide (([e]:List Expr).length+([]:List Keyword).length+(if ([]:List Keyword).isEmpty then 0 else 1) < 30))=true
 line:(apos.endLine == cpos.line)=true
 trees:backTo cpos (starEach [e] X.env)=[(false,eval e X.env)]
structure M2 (X:Cx) (o:Expr) (m:Str) (apos:Pos) (e f:Expr) (cpos:Pos):Prop where
 base:attributeBase o m X.env (eval o X.env)=eval o X.env
 few:((backTo cpos (starEach [e,f] X.env)).all (fun x=>!x.1)&&(backToKw cpos (keywordEach [] X.env)).all (fun x=>x.1.isSome)
  && decide (([e,f]:List Expr).length+([]:List Keyword).length+(if ([]:List Keyword).isEmpty then 0 else 1) < 30))=true
 line:(apos.endLine == cpos.line)=true
 trees:backTo cpos (starEach [e,f] X.env)=[(false,eval e X.env),(false,eval f X.env)]
def IsD (H:Hp) (a:Addr):Prop:=(∃kvs,Rd H a (.dK kvs))∨∃kvs,Rd H a (.dT kvs)
theorem Ls {X:Cx} {pins:List (Addr × Obj)} {σ:St} {H:Hp} {s:Shared} {a:Addr} (I:Inv X pins σ H s) (d:IsD H a) :
    s.TypeIs (.ref a) "dict"∧(∀b,Value.ref a=.ref b->∃ob,s.heap.get? b=some ob∧ob.dict=none)∧(a == sysModules)=false:=by
 rcases d with ⟨kvs,e⟩|⟨kvs,e⟩
 ·obtain ⟨_,hd,vs,_,dd⟩:=Rm I.hok e
  refine ⟨dd.typeIs,fun b q=>?_,hd⟩
  cases q
  obtain ⟨ob,_,_,h1,h2,_⟩:=dd
  exact ⟨ob,h1,h2.2.1⟩
 ·obtain ⟨_,hd,xs,_,dd⟩:=PR I.hok e
  refine ⟨dd.typeIs,fun b q=>?_,hd⟩
  cases q
  obtain ⟨ob,_,_,h1,h2,_⟩:=dd
  exact ⟨ob,h1,h2.2.1⟩
section
variable {X:Cx} {pins:List (Addr × Obj)} {σ:St} {H:Hp} {s:Shared} {a:Addr} {y d:V} {u r:Value} {o:Option V} {A:Around} {E:Value->Shared->Prop}
theorem GH {Q:Value->Shared->Prop} (hu:A.units+1 < cLine) (I:Inv X pins σ H s) (g:DGet H a y o) (ry:RelV y u) (h:∀w' s',Inv X pins σ H s'->RelV (o.getD .non) w'->Q w' s') :
    wpAny (model X.prog X.w) A (call (.builtin "dict.get") [.ref a,u]) Q E s:=by
 rcases g with ⟨kvs,k,e,ey,l⟩|⟨kvs,k,b,e,ey,eb,l⟩
 ·subst ey
  obtain ⟨z,hd,vs,rel,dd⟩:=Rm I.hok e
  refine call_meetsIn PySem.F.slot_dict_get dd.typeIs PySem.F.entry_dict_get (PySem.F.args_dict_get_2 _ _) (meets_dict_get (Z2 X.prog X.w) a (Pt ry) hd) ⟨_,dd.mapOf,h _ _ (I.tok _) ?_⟩
  rw[l]
  exact (rel.val k).getD rfl
 ·subst ey
  cases (show u=Value.ref b from ry)
  obtain ⟨z,hd,xs,rel,dd⟩:=PR I.hok e
  refine call_meetsIn PySem.F.slot_dict_get dd.typeIs PySem.F.entry_dict_get (PySem.F.args_dict_get_2 _ _) (meetsH_dict_get (tupleKind (Z2 X.prog X.w)) a b hd) ⟨tupleKind_room_in1 hu,k,xs,Sj I.hok eb,dd,h _ _ (I.tok _) ?_⟩
  rw[l]
  exact (rel.val k).getD rfl
theorem Gy {Q:Value->Shared->Prop} (hu:A.units+1 < cLine) (I:Inv X pins σ H s) (g:DGet H a y o) (ry:RelV y u) (rd:RelV d r) (h:∀w' s',Inv X pins σ H s'->RelV (o.getD d) w'->Q w' s') :
    wpAny (model X.prog X.w) A (call (.builtin "dict.get") [.ref a,u,r]) Q E s:=by
 rcases g with ⟨kvs,k,e,ey,l⟩|⟨kvs,k,b,e,ey,eb,l⟩
 ·subst ey
  obtain ⟨z,hd,vs,rel,dd⟩:=Rm I.hok e
  refine call_meetsIn PySem.F.slot_dict_get dd.typeIs PySem.F.entry_dict_get (PySem.F.args_dict_get_3 _ _ _) (meets_dict_get_default (Z2 X.prog X.w) a (Pt ry) hd r) ⟨_,dd.mapOf,h _ _ (I.tok _) ?_⟩
  rw[l]
  exact (rel.val k).getD rd
 ·subst ey
  cases (show u=Value.ref b from ry)
  obtain ⟨z,hd,xs,rel,dd⟩:=PR I.hok e
  refine call_meetsIn PySem.F.slot_dict_get dd.typeIs PySem.F.entry_dict_get (PySem.F.args_dict_get_3 _ _ _) (meetsH_dict_get_default (tupleKind (Z2 X.prog X.w)) a b hd r) ⟨tupleKind_room_in1 hu,k,xs,Sj I.hok eb,dd,h _ _ (I.tok _) ?_⟩
  rw[l]
  exact (rel.val k).getD rd
end
def HG (td ty:TE):TE:=fun σ H Q=>td σ H fun x H1=>∃a,x=.ref a∧IsD H1 a∧ty σ H1 fun y H2=>∃o,DGet H2 a y o∧Q (o.getD .non) H2
def GA (td ty tx:TE):TE:=fun σ H Q=>td σ H fun x H1=>∃a,x=.ref a∧IsD H1 a∧ty σ H1 fun y H2=>tx σ H2 fun z H3=>∃o,DGet H3 a y o∧Q (o.getD z) H3
section
variable {X:Cx} {o e f:Expr} {apos cpos:Pos} {td ty tx:TE}
theorem LJ (hu:X.A.units+1 < cLine) (ho:PE X o td) (he:PE X e ty) (m:M1 X o "get" apos e cpos):PE X (.Call (.Attribute o "get" apos) [e] [] cpos) (HG td ty):=by
 intro pins s σ H Q I h
 refine wpAny_Call_method m.base m.few m.line PySem.F.plainAttrs_dict PySem.F.slot_dict_get PySem.F.type_dict_get (thn (ho pins s σ H _ I h) fun u s1 ⟨x,H1,I1,rx,a,ex,d,q1⟩=>?_)
 subst ex
 obtain rfl:u=Value.ref a:=rx
 obtain ⟨t1,t2,_⟩:=Ls I1 d
 refine ⟨t1,t2,?_⟩
 rw[m.trees]
 refine Calls.callWith_builtin rfl (Calls.evalArgs_plain (Calls.spliced_cons (thn (he pins s1 σ H1 _ I1 q1) fun iv s2 ⟨y,H2,I2,ry,ov,g,q2⟩=>Calls.spliced_nil ?_)))
 exact GH hu I2 g ry fun w' s3 I3 rw'=>⟨_,H2,I3,rw',q2⟩
theorem Lz (hu:X.A.units+1 < cLine) (ho:PE X o td) (he:PE X e ty) (hf:PE X f tx) (m:M2 X o "get" apos e f cpos):PE X (.Call (.Attribute o "get" apos) [e,f] [] cpos) (GA td ty tx):=by
 intro pins s σ H Q I h
 refine wpAny_Call_method m.base m.few m.line PySem.F.plainAttrs_dict PySem.F.slot_dict_get PySem.F.type_dict_get (thn (ho pins s σ H _ I h) fun u s1 ⟨x,H1,I1,rx,a,ex,d,q1⟩=>?_)
 subst ex
 obtain rfl:u=Value.ref a:=rx
 obtain ⟨t1,t2,_⟩:=Ls I1 d
 refine ⟨t1,t2,?_⟩
 rw[m.trees]
 refine Calls.callWith_builtin rfl (Calls.evalArgs_plain (Calls.spliced_cons (thn (he pins s1 σ H1 _ I1 q1) fun iv s2 ⟨y,H2,I2,ry,q2⟩ =>
  Calls.spliced_cons (thn (hf pins s2 σ H2 _ I2 q2) fun fv s3 ⟨z,H3,I3,rz,ov,g,q3⟩=>Calls.spliced_nil ?_))))
 exact Gy hu I3 g ry rz fun w' s4 I4 rw'=>⟨_,H3,I4,rw',q3⟩
end
section
variable {X:Cx} {pins:List (Addr × Obj)} {σ:St} {H:Hp} {s:Shared} {a:Addr} {kvs:List (Key × V)} {A:Around} {E:Value->Shared->Prop}
end
section
variable {X:Cx} {pins:List (Addr × Obj)} {σ:St} {H:Hp} {s:Shared} {a:Addr} {y:V} {u:Value} {A:Around} {E:Value->Shared->Prop}
end
end L2
namespace Att
open PySem PySem.W PySem.Calls PyProof.Rows
theorem Tk {P:Params} {h:Heap}:∀(ns:List Int) (vs:List Value),WellAll P h vs (ns.map WData.int)->IntsAre vs ns:=by
 intro ns
 induction ns with
 |nil =>
  intro vs w
  rw[List.map_nil]at w
  cases w
  exact .nil
 |cons n ns ih =>
  intro vs w
  rw[List.map_cons]at w
  cases w with
  |cons a b =>
   cases a
   exact .cons _ _ (ih _ b)
theorem NH {l:OpenLaw} {n:Nat} (hn:l.most=some n) {P:Params} {h:Heap} {args:List WData} {vals:List Value}
    (hpre:l.row.toRowW.claim.pre args=true) (hwl:WellAll P h vals args) :
    ∃a vs ns,vals=[Value.ref a]∧args=[WData.list (ns.map WData.int)]∧h.get? a=some { cls:=.type "list",data:=.seq vs.toArray }∧IntsAre vs ns∧ns.length<=n:=by
 have hsh:WShape.hasAll [] args [.list .int]=true:=(pre_splitW hpre).1
 have hc:l.pre.holds [] { args:=args }=true:=(pre_splitW hpre).2
 obtain ⟨d,r,rfl,h1,h2⟩:=hasAllW_cons hsh
 obtain rfl:=hasAllW_nil h2
 obtain ⟨xs,rfl,h3⟩:=hasW_list h1
 obtain ⟨ns,rfl⟩:=items_int h3
 have hlen:ns.length<=n:=by
  unfold OpenLaw.pre at hc
  have h4:(WTm.not (.lt (.lit (.int (n:Int))) (.len (.arg 0)))).holds [] { args:=[.list (ns.map .int)] }=true:=by
   have h4:=(holds_andW hc).1
   rw[hn]at h4
   exact h4
  have h5:=condW_of h4 (w_not (w_lt w_lit (w_len_list (w_arg rfl))))
  rw[List.length_map]at h5
  refine Nat.le_of_not_lt fun q=>?_
  have q':(n:Int) < ((ns.length:Nat):Int):=by omega
  first
   |(rw[decide_eq_true q']at h5; exact absurd h5 (by decide))
   |(simp at h5; omega)
 cases hwl with
 |cons w1 w2 =>
  cases w2
  cases w1 with
  |list ho hall=>exact ⟨_,_,ns,rfl,rfl,ho,Tk ns _ hall,hlen⟩
theorem MI (l:OpenLaw) (args:List WData):l.row.toRowW.claim.post args (.bool true) args=true :=
 postW_of (r:=l.row.toRowW) (X:=(true == true))
  (show WShape.has [] (.bool true) .bool=true by first|rfl|decide|simp[WShape.has,WShape.arms,WShape.armsAll])
  (show (WTm.eq .res (.lit (.bool true))).value [] { args:=args,res:=some (.bool true),after:=args }=some (.bool (true == true)) from w_eq_bool (w_res rfl) w_lit) rfl
theorem attach_call {l:OpenLaw} {n:Nat} {q:Program} {loose:List Str} {XP:(Str->Option Value)->Heap->Prop} {YP:World->Heap->Prop} {d:DefRec}
    (hn:l.most=some n) (hdf:d.params.defaults=[])
    (call:∀(w:World) (s₀ s₁:Shared) (mg mb:Str->Option Value) (fa:Addr) (o:Obj) (pm cd doc:Value) (a:Addr) (vs:List Value) (ns:List Int),
     Ground q loose [] XP w s₀ mg mb s₁.heap->YP w s₁.heap ->
     s₁.heap.get? fa=some o->o.data=.func (docDef d.name d.params d.body d.scope pm cd doc)->s₁.heap.CodeRec cd d.name->mg d.name=some (.ref fa) ->
     s₁.heap.get? a=some { cls:=.type "list",data:=.seq vs.toArray }->IntsAre vs ns->ns.length<=n->s₁.gens=#[] ->
     codeAny (model l.prog w) callerA (.call (.ref fa) ⟨[.ref a],[]⟩) (fun r s'=>r=.ok (.ret (.bool true))∧OldK s₁.heap s'.heap∧s'.os=s₁.os∧AllBare s'.gens) s₁) :
    WalkO q loose XP YP l.row.toRowW d [] (fun f vs=>PySem.call f vs):=by
 intro w s₀ s₁ mg mb G Y fa o pm cd doc dV kV ho hd hcd hD hmg hg args vals as hpre hlay hrd hwl hlo
 obtain rfl:dV=.none:=Dflts.none hD hdf
 obtain rfl:kV=.none:=Dflts.noKw hD
 obtain ⟨a,vs,ns,rfl,rfl,hobj,hints,hlen⟩:=NH hn hpre hwl
 refine enter_call (codeAny_mono (call w s₀ s₁ mg mb fa o pm cd doc a vs ns G Y ho (fd_plain hd) hcd hmg hobj hints hlen hg) fun r s' hq=>?_)
 obtain ⟨rfl,h2,h3,h4⟩:=hq
 exact ⟨.inl ⟨.bool true,.bool true,[],rfl,fun _=>rfl,.bool true,MI l _,fun _=>⟨List.Pairwise.nil,fun _ hm=>(nomatch hm)⟩⟩,h2,h3,h4⟩
section
variable {prog:Program} {w:World} {A:Around} {E:Value->Shared->Prop} {s:Shared} {K:Frag}
end
end Att
namespace L2
open PySem PySem.Spec PyProof.Rows
theorem Ro:∀{vs:List Value} {ns:List Int},IntsAre vs ns->Vals (ns.map V.int) vs
 |_,_,.nil=>.nil
 |_,_,.cons n t h=>.cons ⟨t,rfl⟩ (Ro h)
def G8 (H:Hp):Prop:=∀b,H b=none∨∃o xs,H b=some (.frz o (.lst xs))
theorem L7 {P:Program} {w:World} {K:PySem.W.Frag} {mg mb:Str->Option Value} {CX:CXT} {k:Nat} {fa a:Addr} {fd:FuncData} {x:Str} {sp:Sp} {s₁:Shared} {vs:List Value} {ns:List Int}
    (KX:K.In s₁.heap) (hns:s₁.heap.Ns mainGlobals mg) (hb:s₁.heap.Ns builtinsNs mb) (hbb:∀x:Str,x≠"__name__"->mb x=bootBuiltins x) (hlim:s₁.heap.NoLimit) (hg:s₁.gens=#[])
    (ha:s₁.heap.get? a=some { cls:=.type "list",data:=.seq vs.toArray }) (hi:IntsAre vs ns) (hl:ns.length<=sizeLine) (hr:Room k callerA)
    (F:∀base:Heap,K.In base->base.Ns mainGlobals mg->FnOk P w K mg base CX k fa fd [x] sp) (hbind:∀(s:Shared) (u:Value),BindsTo s fd ⟨[u],[]⟩ [(x,u)])
    (hsp:∀H:Hp,G8 H->SqL K H a (ns.map V.int)->sp [.ref a] H (fun v _=>v=.bl true) fun _ _ _=>False)
    (hCX:∀H e s',CX [] H s₁ (fun _ _ _=>False) e s'->False) :
    codeAny (model P w) callerA (.call (.ref fa) ⟨[.ref a],[]⟩) (fun r s'=>r=.ok (.ret (.bool true))∧OldK s₁.heap s'.heap∧s'.os=s₁.os∧AllBare s'.gens) s₁:=by
 have rv:=Ro hi
 have lenV:=hi.length
 have core : ∀ H : Hp,G8 H -> SqL K H a (ns.map V.int) -> HOk P w H s₁.heap -> (∀ b,H b ≠ none -> b = a) -> (H a ≠ none -> K.lookup a = none) ->
     codeAny (model P w) callerA (.call (.ref fa) ⟨[.ref a],[]⟩) (fun r s'=>r=.ok (.ret (.bool true))∧OldK s₁.heap s'.heap∧s'.os=s₁.os∧AllBare s'.gens) s₁:=by
  intro H hO hS hok hA hK
  have base_of:∀{b:Addr} {o:Obj},s₁.heap.get? b=some o->H b=none->(R6 s₁.heap H).get? b=some o:=fun e n=>KN e n
  have noA:∀{b:Addr} {o:Obj} {es:Array DictEntry} {ep:Nat},s₁.heap.get? b=some o->o.data=.dict es ep->H b=none:=fun {b o es ep} e d=>by
   cases q:H b with
   |none=>rfl
   |some u =>
    have e':b=a:=hA b (by rw[q]; simp)
    subst e'
    rw[ha]at e; cases e
    have d':Data.seq vs.toArray _=Data.dict es ep:=d
    cases d'
  have nsK:∀{b:Addr} {m:Str->Option Value},s₁.heap.Ns b m->(R6 s₁.heap H).Ns b m:=fun {b m} ⟨o,es,ep,e,d,r⟩=>⟨o,es,ep,base_of e (noA e d),d,r⟩
  have hKb:K.In (R6 s₁.heap H):=fun b o e=>base_of (KX b o e) (by
   cases q:H b with
   |none=>rfl
   |some u =>
    have e':b=a:=hA b (by rw[q]; simp)
    subst e'
    rw[hK (by rw[q]; simp)]at e; cases e)
  have hM:Mod K mg (R6 s₁.heap H):=⟨hKb,nsK hns,⟨mb,nsK hb,hbb⟩,let ⟨mc,h1,h2⟩:=hlim; ⟨mc,nsK h1,h2⟩⟩
  have e0:Env0 P w K mg (R6 s₁.heap H) callerA [] s₁ H:=⟨rfl,hM,fun b o e=>Jb e,Nat.le_of_eq (ME _ _),trivial,fun b hb=>absurd (show b∈([]:List Addr) from hb) (by simp),hok,.of_eq hg⟩
  refine codeAny_mono ((F _ hKb (nsK hns)).run callerA [] s₁ H ⟨[.ref a],[]⟩ [.ref a] [.ref a] _ _ hr e0 (hbind s₁ (.ref a)) (.cons rfl .nil) (hsp H hO hS)) fun r s' h=>?_
  cases r with
  |error e=>exact (hCX H e s' h).elim
  |ok fl =>
   cases fl with
   |next=>exact False.elim h
   |brk=>exact False.elim h
   |cont=>exact False.elim h
   |ret u =>
    obtain ⟨v,H',os,bare,un,hok',r',q⟩:=h
    have q':v=.bl true:=q
    subst q'
    obtain rfl:u=Value.bool true:=r'
    refine ⟨rfl,OldK.of_keep fun b o e=>?_,os,bare⟩
    cases q:H b with
    |none=>exact un.keep b o e q (by intro z; exact absurd (show b∈([]:List Addr) from z) (by simp)) (by simp)
    |some u =>
     rcases hO b with z|⟨ob,xs,z⟩
     ·rw[q]at z; cases z
     ·have z2:=un.frzs b ob _ z
      obtain ⟨e1,_⟩:=hok b _ z
      obtain ⟨e2,_⟩:=hok' b _ z2
      rw[e]at e1; cases e1
      exact e2
 cases hk:K.lookup a with
 |some o =>
  have e:=KX a o hk
  rw[ha]at e
  cases e
  refine core (fun _=>none) (fun _=>.inl rfl) (.inr ⟨_,vs.toArray,_,hk,rfl,rfl,rfl,by rw[List.size_toArray,lenV]; exact hl,by simpa using rv⟩) (fun b u z=>by have z':(none:Option HO)=some u:=z; cases z') (fun b z=>absurd rfl z) fun z=>absurd rfl z
 |none =>
  refine core (fun b=>if b=a then some (.frz { cls:=.type "list",data:=.seq vs.toArray } (.lst (ns.map V.int))) else none) (fun b=>?_) (.inl (.inr ⟨{ cls:=.type "list",data:=.seq vs.toArray },if_pos rfl⟩)) (fun b u z=>?_) (fun b z=>?_) fun _=>hk
  ·by_cases hb:b=a
   ·exact .inr ⟨_,_,if_pos hb⟩
   ·exact .inl (if_neg hb)
  ·by_cases hb:b=a
   ·have z':=(if_pos hb).symm.trans z
    cases z'
    subst hb
    exact ⟨ha,by rw[List.length_map]; exact hl,vs,_,rv,ha⟩
   ·have z':=(if_neg hb).symm.trans z
    cases z'
  ·by_cases hb:b=a
   ·exact hb
   ·exact absurd (if_neg hb) z
open PySem PySem.Spec PyProof.Rows
open PySem PySem.Spec PyProof.Rows
abbrev CX0:CXT:=fun _ _ _ _ _ _=>False
abbrev E0:XK:=fun _ _ _=>False
structure Fun (K:PySem.W.Frag) (x qual:Str) (st:Stmt) (f:Addr) (fd:FuncData):Prop where
 ex:∃(oc:Value) (od:Option Addr) (kV doc pm:Value) (an:Option Addr) (cdv ct:Value) (osl:Array (Option Value)),
  fd=PySem.W.fnOf x qual (ZH st) (ZE st) (Zl st) .none kV doc pm an cdv ct∧K.lookup f=some ⟨oc,od,.func fd,osl⟩∧PySem.W.codeIn K cdv qual=true
 kp:PySem.W.keepIn K (.ref f)=true
section
variable {P:Program} {w:World} {K:PySem.W.Frag} {mg:Str->Option Value} {base:Heap}
theorem Fun.ok {x qual:Str} {st:Stmt} {f:Addr} {fd:FuncData} {N ps:List Str} {k:Nat} {sp:Sp} (F:Fun K x qual st f fd) (S:FnScope N ps (Zl st)) (len:∀vs H Q E,sp vs H Q E->vs.length=ps.length)
    (hbody:∀(cdv:Value) (A:Around) (outer:List Env) (s:Shared) (H:Hp) (vs:List V) (Q:VK) (E:XK),Room k (A.deeper (envOfC qual (Zl st) s.heap.objs.size f cdv))->sp vs H Q E ->
     ∃t,PSs (SI CX0 P w K mg base N qual (Zl st) f cdv A outer s H E).nox (ZE st) t∧t { nx:=fun _ H'=>Q .non H',rt:=Q } (start N vs) H):FnOk P w K mg base CX0 (k+1) f fd ps sp:=by
 obtain ⟨oc,od,kV,doc,pm,an,cdv,ct,osl,rfl,lk,hcd⟩:=F.ex
 refine Il lk hcd S len fun A outer s H vs Q E hr hsp=>?_
 obtain ⟨t,h,q⟩:=hbody cdv A outer s H vs Q E hr hsp
 exact ⟨t,h.nox,q⟩
theorem Fun.binds {x qual:Str} {st:Stmt} {f:Addr} {fd:FuncData} {ps:List Str} (F:Fun K x qual st f fd)
    (h:∀(kV doc pm:Value) (an:Option Addr) (cdv ct:Value) (us:List Value),us.length=ps.length->bindArgs (PySem.W.fnOf x qual (ZH st) (ZE st) (Zl st) .none kV doc pm an cdv ct) ⟨us,[]⟩=pure (ps.zip us)):Binds K fd ps []:=by
 obtain ⟨oc,od,kV,doc,pm,an,cdv,ct,osl,rfl,lk,hcd⟩:=F.ex
 exact .all (h kV doc pm an cdv ct)
theorem ZY {x qual:Str} {st:Stmt} {f:Addr} {oc:Value} {od an:Option Addr} {osl:Array (Option Value)} {kV doc pm cdv ct:Value} (l:K.lookup f=some ⟨oc,od,.func (PySem.W.fnOf x qual (ZH st) (ZE st) (Zl st) .none kV doc pm an cdv ct),osl⟩)
    (c:PySem.W.codeIn K cdv qual=true) (k:PySem.W.keepIn K (.ref f)=true):Fun K x qual st f (PySem.W.fnOf x qual (ZH st) (ZE st) (Zl st) .none kV doc pm an cdv ct):=⟨⟨oc,od,kV,doc,pm,an,cdv,ct,osl,rfl,l,c⟩,k⟩
end
section
variable {X:Cx}
end
def Same (H H':Hp):Prop:=∀b o,H b=some o->H' b=some o
theorem Same.refl (H:Hp):Same H H:=fun _ _ h=>h
theorem Same.trans {H H1 H2:Hp} (a:Same H H1) (b:Same H1 H2):Same H H2:=fun c o h=>b c o (a c o h)
theorem Same.free {H H':Hp} (e:Same H H') {l:Addr} (h:H' l=Option.none):H l=Option.none:=by
 cases q:H l with
 |none=>rfl
 |some o =>
  rw[e l o q]at h
  cases h
theorem Same.seq {K:PySem.W.Frag} {H H':Hp} {a:Addr} {xs:List V} (e:Same H H') (h:SqL K H a xs):SqL K H' a xs:=by
 rcases h with (h|⟨o,h⟩)|h
 ·exact .inl (.inl (e _ _ h))
 ·exact .inl (.inr ⟨o,e _ _ h⟩)
 ·exact .inr h
open PySem PySem.Spec PyProof.Rows
section
variable {X:Cx}
theorem NO:CallR X (.builtin "len") (fun xs H Q=>∃a kvs,xs=[V.ref a]∧H a=some (.dK kvs)∧Q (.int kvs.length) H):=by
 intro pins s σ H xs us Q I r h
 obtain ⟨a,kvs,rfl,ha,q⟩:=h
 obtain ⟨u,rfl,ru⟩:=Py r
 cases ru
 exact G6 I (.inl ha) fun t s' I'=>⟨.int kvs.length,H,I',⟨t,rfl⟩,q⟩
end
open PySem PySem.Spec PyProof.Rows
section
variable {κ:Type} [DecidableEq κ]
end
open PySem PySem.Spec PyProof.Rows
mutual
inductive DV (H:Hp):V->PyData->Prop
 |non:DV H .non .none
 |bl (b:Bool):DV H (.bl b) (.bool b)
 |int (i:Int):DV H (.int i) (.int i)
 |str (x:Str):DV H (.str x) (.str x)
 |lst {a:Addr} {xs:List V} {ds:List PyData} (e:H a=some (.lst xs)) (r:DVs H xs ds):DV H (.ref a) (.list ds)
 |tup {a:Addr} {xs:List V} {ds:List PyData} (e:H a=some (.tup xs)) (r:DVs H xs ds):DV H (.ref a) (.tuple ds)
inductive DVs (H:Hp):List V->List PyData->Prop
 |nil:DVs H [] []
 |cons {x:V} {xs:List V} {d:PyData} {ds:List PyData} (h:DV H x d) (r:DVs H xs ds):DVs H (x::xs) (d::ds)
end
section
variable {X:Cx} {pins:List (Addr × Obj)} {σ:St} {H:Hp} {s:Shared}
end
section
variable {X:Cx}
end
section
variable {X:Cx} {st:Stmt} {rest:List Stmt} {t u:TS}
end
section
variable {X:Cx} {e:Expr} {es:List Expr} {te:TE} {pos:Pos}
def EU (te:TE):TE:=fun σ H Q=>te σ H fun x H1=>∃i,x=.int i∧i.natAbs.log2 < 1920∧Q (.str (toString i)) H1
theorem Gg (he:PE X e te):PE X (.FormattedValue e (-1) none pos) (EU te):=by
 intro pins s σ H Q I h
 refine PyProof.Rows.FormattedValue_plain (thn (he pins s σ H _ I h) fun v s1 ⟨x,H1,I1,r1,i,ex,hb,q⟩=>?_)
 subst ex
 obtain ⟨t,rfl⟩:=r1
 exact PySem.wpAny_formatField_int hb ⟨.str (toString i),H1,I1.tok _,⟨_,rfl⟩,q⟩
def PJ (X:Cx) (n:Nat) (es:List Expr) (t:TA):Prop :=
 ∀(pins:List (Addr × Obj)) (s:Shared) (σ:St) (H:Hp) (acc:Str) (Q:VK),Inv X pins σ H s->acc.length+n * es.length<=sizeLine ->
  t σ H (fun _ H1=>∀z:Str,Q (.str z) H1)->wpAny (model X.prog X.w) X.A (joinParts acc (evalEach es X.env)) (EP X pins σ Q) X.xe s
def GB (n:Nat) (te:TE) (t:TA):TA:=fun σ H Q=>te σ H fun x H1=>(∃y:Str,x=.str y∧y.length<=n)∧t σ H1 Q
theorem Hx {n:Nat}:PJ X n [] He:=by
 intro pins s σ H acc Q I hl h
 exact PyProof.Rows.joinParts_nil ⟨.str acc,H,I.tok _,⟨_,rfl⟩,h acc⟩ (by simpa using hl)
theorem Nz {n:Nat} {t:TA} (he:PE X e te) (hr:PJ X n es t) (hs:evalEach (e::es) X.env=eval e X.env::evalEach es X.env:=by rfl):PJ X n (e::es) (GB n te t):=by
 intro pins s σ H acc Q I hl h
 rw[hs]
 refine PyProof.Rows.joinParts_cons (thn (he pins s σ H _ I h) fun v s1 ⟨x,H1,I1,r1,⟨y,ex,hy⟩,q⟩=>?_)
 subst ex
 obtain ⟨t',rfl⟩:=r1
 have hz:acc.length+n * es.length+n<=sizeLine:=by
  rw[List.length_cons,Nat.mul_succ]at hl; omega
 have hap:(acc++y).length=acc.length+y.length:=strLen_append ..
 have hm:(acc++y).length<=sizeLine:=by rw[hap]; omega
 exact ⟨hm,hr pins s1 σ H1 (acc++y) Q I1 (by rw[hap]; omega) q⟩
def FX (t:TA):TE:=fun σ H Q=>t σ H fun _ H1=>∀z:Str,Q (.str z) H1
theorem KZ {v₁ v₂:Expr} {rest:List Expr} {n:Nat} {t:TA} (h:PJ X n (v₁::v₂::rest) t) (hn:n * (v₁::v₂::rest).length<=16000000)
    (hs:evalEach (v₁::v₂::rest) X.env=eval v₁ X.env::eval v₂ X.env::evalEach rest X.env:=by rfl):PE X (.JoinedStr (v₁::v₂::rest) pos) (FX t):=by
 intro pins s σ H Q I q
 refine PyProof.Rows.JoinedStr_many ?_
 rw[← hs]
 refine h pins s σ H Str.empty Q I ?_ q
 rw[sizeLine_eq]
 have:Str.empty.length=0:=rfl
 omega
theorem Mf {i:Int} {n:Nat} (h:i.natAbs.log2 < 1920) (hn:1921<=n):(toString i:Str).length<=n:=Nat.le_trans (PyProof.Rows.int_text_len_1921 h) hn
end
open PySem PySem.Spec PyProof.Rows
theorem ObjOk.ex {P:Program} {w:World} {H:Hp} {h:Heap} {a:Addr} {o:HO} (x:ObjOk P w H h a o):∃ob,h.get? a=some ob:=by
 cases o with
 |lst xs=>obtain ⟨_,_,_,_,e⟩:=x; exact ⟨_,e⟩
 |tup xs=>obtain ⟨_,_,_,ob,e,_⟩:=x; exact ⟨_,e⟩
 |dK kvs=>obtain ⟨_,_,_,_,o,_,_,e,_⟩:=x; exact ⟨_,e⟩
 |dT kvs=>obtain ⟨_,_,_,_,o,_,_,e,_⟩:=x; exact ⟨_,e⟩
 |set S n=>obtain ⟨o,_,_,_,e,_⟩:=x; exact ⟨_,e⟩
 |ins C dx fs=>obtain ⟨_,_,_,e,_⟩:=x; exact ⟨_,e⟩
 |own y=>exact x
 |xd fs=>obtain ⟨_,⟨_,_,_,e,_⟩,_⟩:=x; exact ⟨_,e⟩
 |rng lo hi=>obtain ⟨_,_,_,e⟩:=x; exact ⟨_,e⟩
 |frz ob u=>obtain ⟨e,_⟩:=x; exact ⟨_,e⟩
 |tbl ps=>exact ⟨_,x⟩
 |met f y=>exact ⟨_,x⟩
 |ext φ=>obtain ⟨_,e,_⟩:=x; exact e
theorem Un.on {fs:List Addr} {H H1:Hp} {h0 h1 h2:Heap} (u:Un fs [] H H1 h0 h1) (kB:∀b o o1,h0.get? b=some o->b ∉ fs->h1.get? b=some o1->h2.get? b=some o1)
    (ks:∀b o o1,h0.get? b=some o->b∈fs->h1.get? b=some o1->∃sl,h2.get? b=some { o1 with slots:=sl }):Un fs [] H H1 h0 h2 where
 keep:=fun b o e n hb hx=>kB b o o e hb (u.keep b o e n hb hx)
 slot:=fun b o e n hb hx=>by
  obtain ⟨sl,e1⟩:=u.slot b o e n hb hx
  obtain ⟨sl2,e2⟩:=ks b o _ e hb e1
  exact ⟨sl2,e2⟩
 free:=u.free
 there:=fun b o e hx=>by
  obtain ⟨o1,e1⟩:=u.there b o e hx
  by_cases hb:b∈fs
  ·obtain ⟨sl,e2⟩:=ks b o o1 e hb e1
   exact ⟨_,e2⟩
  ·exact ⟨o1,kB b o o1 e hb e1⟩
 tups:=u.tups
 frzs:=u.frzs
 tbls:=u.tbls
structure Fly (P:Program) (w:World) (outer:List Env) (H:Hp) (s:Shared) (H':Hp) (a:Addr) (cls:Value) (s':Shared):Prop where
 os:s'.os=s.os
 bare:AllBare s'.gens
 un:Un (frs outer) [] H H' s.heap s'.heap
 hok:HOk P w H' s'.heap
 fl:∃B a0,Heap.FlyingW B outer a cls a0 s'.heap∧(∀b o ob,H' b=some o->s'.heap.get? b=some ob->B.get? b=some ob) ∧
  ∀b o ob,s.heap.get? b=some o->b ∉ frs outer->s'.heap.get? b=some ob->B.get? b=some ob
def CXw (P:Program) (w:World):CXT:=fun outer H s E e s'=>∃a cls H',e=.ref a∧Fly P w outer H s H' a cls s'∧E cls none H'
theorem HOk.flown {P:Program} {w:World} {H:Hp} {h h' B:Heap} (x:HOk P w H h) (c1:∀b o ob,H b=some o->h.get? b=some ob->B.get? b=some ob) (st:B.StaysIn h'):HOk P w H h':=fun b o e =>
 (x b o e).stay (fun c u hc q=>by
  rcases hc with rfl|hc
  ·exact st _ _ (c1 _ _ _ e q)
  ·exact st _ _ (c1 _ _ _ hc q)) (fun _ q=>q) fun _ _ q=>q
section
variable {P:Program} {w:World} {K:PySem.W.Frag} {mg:Str->Option Value} {base:Heap} {N:List Str} {qual:Str} {scope:Scope} {f:Addr} {cd:Value} {A:Around} {outer:List Env} {s:Shared} {H:Hp} {E:XK}
theorem ZI:XW (CXw P w) (SI (CXw P w) P w K mg base N qual scope f cd A outer s H E) E:=by
 intro pins σ H1 s1 e s' I hcx
 obtain ⟨a,cls,H',rfl,fly,hE⟩:=hcx
 have I':=I.call' (ch:=[]) fly.os fly.un fly.hok fly.bare (fun _ z=>nomatch z)
 obtain ⟨B,a0,fl,c1,c2⟩:=fly.fl
 have hfr:(A.deeper (envOfC qual scope s.heap.objs.size f cd)).frames=some (envOfC qual scope s.heap.objs.size f cd::outer):=I.ok.frames
 refine wpAny_leaves_onW (L:=s.heap.objs.size) hfr rfl fl fun h' fl' up=>⟨a,cls,H',rfl,?_,hE⟩
 have hub:Un (frs outer) [] H H' s.heap s'.heap:=I'.base
 have nL:∀b o,s.heap.get? b=some o->b ∉ frs outer->b ∉ frs (envOfC qual scope s.heap.objs.size f cd::outer):=fun b o e hb hm=>by
  unfold frs at hm hb
  rw[List.filterMap_cons]at hm
  rcases List.mem_cons.mp hm with z|z
  ·exact absurd (Heap.lt_size e) (by rw[z]; exact Nat.lt_irrefl _)
  ·exact hb z
 have kB:∀b o o1,s.heap.get? b=some o->b ∉ frs outer->s'.heap.get? b=some o1->B.get? b=some o1:=fun b o o1 e hb e1=>by
  obtain ⟨o2,e2⟩:=(show Un (frs outer) [] H H1 s.heap s1.heap from I.base).there b o e (by simp)
  exact c2 b o2 o1 e2 (nL b o e hb) e1
 refine ⟨I'.os,I'.bare,hub.on (fun b o o1 e hb e1=>fl'.1 _ _ (kB b o o1 e hb e1)) (fun b o o1 e hb e1=>?_),fly.hok.flown c1 fl'.1,B,a0,fl',fun b o ob e eb=>?_,fun b o ob e hb eb=>?_⟩
 ·obtain ⟨_,o',ho',hnf⟩:=I'.funs.mem hb
  have ho':s'.heap.get? b=some o':=ho'
  rw[e1]at ho'
  cases ho'
  exact up b o1 e1 hnf
 ·obtain ⟨ob2,e2⟩:=(fly.hok b o e).ex
  have e3:=c1 b o ob2 e e2
  have e4:=fl'.1 _ _ e3
  have eb:h'.get? b=some ob:=eb
  rw[e4]at eb
  cases eb
  exact e3
 ·obtain ⟨ob2,e2⟩:=hub.there b o e (by simp)
  have e3:=kB b o ob2 e hb e2
  have e4:=fl'.1 _ _ e3
  have eb:h'.get? b=some ob:=eb
  rw[e4]at eb
  cases eb
  exact e3
end
def Oo (X:Cx) (E:XK):Prop:=∀(pins:List (Addr × Obj)) (σ:St) (H:Hp) (s:Shared) (h':Heap) (e:Addr) (cls:Value) (args:List Value),Inv X pins σ H s->Heap.MadeExcOf s.heap h' e cls args->E cls none H->X.xe (.ref e) { s with heap:=h' }
section
variable {P:Program} {w:World} {K:PySem.W.Frag} {mg:Str->Option Value} {base:Heap} {N:List Str} {qual:Str} {scope:Scope} {f:Addr} {cd:Value} {A:Around} {outer:List Env} {s:Shared} {H:Hp} {E:XK}
theorem VW:Oo (SI (CXw P w) P w K mg base N qual scope f cd A outer s H E) E:=by
 intro pins σ H1 s1 h1 e cls args I hx hE
 have hfr:(A.deeper (envOfC qual scope s.heap.objs.size f cd)).frames=some (envOfC qual scope s.heap.objs.size f cd::outer):=I.ok.frames
 have hst:s1.heap.FunFrames base (envOfC qual scope s.heap.objs.size f cd::outer):=I.stack
 have hl:s1.heap.FunFrames (PySem.W.hideAll s1.heap (frs (envOfC qual scope s.heap.objs.size f cd::outer))) (envOfC qual scope s.heap.objs.size f cd::outer) :=
  PySem.W.funFrames_hide hst fun env he a ha=>List.mem_filterMap.mpr ⟨env,he,ha⟩
 refine wpAny_leaves_madeW (base:=PySem.W.hideAll s1.heap (frs (envOfC qual scope s.heap.objs.size f cd::outer))) (h:=s1.heap) (L:=s.heap.objs.size) hfr rfl (fun b o q=>PySem.W.of_hideAll _ q) hl hx fun h' t fl' _ _ up=>⟨e,cls,H1,rfl,?_,hE⟩
 have hub:Un (frs outer) [] H H1 s.heap s1.heap:=I.base
 have nL:∀b o,s.heap.get? b=some o->b ∉ frs outer->b ∉ frs (envOfC qual scope s.heap.objs.size f cd::outer):=fun b o e hb hm=>by
  unfold frs at hm hb
  rw[List.filterMap_cons]at hm
  rcases List.mem_cons.mp hm with z|z
  ·exact absurd (Heap.lt_size e) (by rw[z]; exact Nat.lt_irrefl _)
  ·exact hb z
 have tB:∀b o ob,H1 b=some o->s1.heap.get? b=some ob->(PySem.W.hideAll s1.heap (frs (envOfC qual scope s.heap.objs.size f cd::outer))).get? b=some ob:=fun b o ob e eb =>
  PySem.W.hideAll_get _ eb fun hm=>by
   have:=I.stkFree b hm
   rw[e]at this
   cases this
 have kB:∀b o o1,s.heap.get? b=some o->b ∉ frs outer->s1.heap.get? b=some o1->(PySem.W.hideAll s1.heap (frs (envOfC qual scope s.heap.objs.size f cd::outer))).get? b=some o1:=fun b o o1 e hb e1 =>
  PySem.W.hideAll_get _ e1 (nL b o e hb)
 refine ⟨I.os,I.bare,hub.on (fun b o o1 e hb e1=>fl'.1 _ _ (kB b o o1 e hb e1)) (fun b o o1 e hb e1=>?_),I.hok.flown tB fl'.1,_,_,fl',fun b o ob e eb=>?_,fun b o ob e hb eb=>?_⟩
 ·obtain ⟨_,o',ho',hnf⟩:=I.funs.mem hb
  have ho':s1.heap.get? b=some o':=ho'
  rw[e1]at ho'
  cases ho'
  exact up b o1 (hx.keeps b o1 e1) hnf
 ·obtain ⟨ob2,e2⟩:=(I.hok b o e).ex
  have e3:=tB b o ob2 e e2
  have e4:=fl'.1 _ _ e3
  have eb:h'.get? b=some ob:=eb
  rw[e4]at eb
  cases eb
  exact e3
 ·obtain ⟨ob2,e2⟩:=hub.there b o e (by simp)
  have e3:=kB b o ob2 e hb e2
  have e4:=fl'.1 _ _ e3
  have eb:h'.get? b=some ob:=eb
  rw[e4]at eb
  cases eb
  exact e3
end
theorem N5 {K:PySem.W.Frag} {h:Heap} {C:Addr} {bmB:List Value} {newId:String} (X:K.In h) (q:PySem.W.excIn K C bmB newId=true) :
    ∃bm Nn nm qn bs hdct sn sub ab col dd k0 k1 k2 k3 k5 mN,h.get? C=some (excClassObj nm qn C Nn bs bm hdct sn sub ab col dd k0 k1 k2 k3 k5 newId)∧h.Ns Nn mN∧mN "__init__"=none∧OwnTail h bmB bm:=by
 unfold PySem.W.excIn at q
 split at q
 ·rename_i dd cd sl ho
  split at q
  ·rename_i C' bm k0 k1 k2 k3 n k5 hm hs
   simp only[Bool.and_eq_true,beq_iff_eq,Bool.not_eq_true']at q
   obtain ⟨⟨⟨⟨⟨e1,e2⟩,hdel⟩,ht⟩,hok⟩,hni⟩:=q
   subst e1 e2
   obtain ⟨nm,bs,mro,ns,qn,hd,sn,sub,ab,col,del⟩:=cd
   dsimp only at hm hdel hok hni
   subst hm hdel
   obtain ⟨l⟩:=sl
   have hs:l=_:=hs
   subst hs
   exact ⟨bm,ns,nm,qn,bs,hd,sn,sub,ab,col,dd,k0,k1,k2,k3,k5,_,X _ _ ho,.of_isNs (PySem.W.isNs_of_in X hok),PySem.W.nsMap_none_of_in X hok hni,PySem.W.tail_of_in X ht⟩
  ·cases q
 ·cases q
section
variable {X:Cx} {x:Str} {C:Addr} {bmB:List Value} {B newId initId:String} {E:XK} {e₀:Expr} {rest:List Expr} {np cpos pos:Pos} {t:TA}
def GN (C:Addr) (E:XK) (t:TA):TS:=fun _ σ H=>t σ H fun vs H1=>vs.length<=sizeLine∧E (.ref C) none H1
theorem LH (FB:ExcBaseFacts B newId initId bmB) (q:PySem.W.excIn X.K C bmB newId=true) (hg:Gl X x) (hm:X.mg x=some (.ref C)) (hc:X.calm=true) (hE:Oo X E) (ha:PA X (e₀::rest) t)
    (he:starEach (e₀::rest) X.env=(false,eval e₀ X.env)::starEach rest X.env:=by rfl) (hpl:(backTo cpos (starEach rest X.env)).any (·.1)=false:=by rfl) (hdb:(x == ("__debug__":Str))=false:=by decide) :
    PS X (.Raise (some (.Call (.Name x np) (e₀::rest) [] cpos)) none pos) (GN C E t):=by
 intro pins s σ H D I h
 obtain ⟨bm,Nn,nm,qn,bs,hdct,sn,sub,ab,col,dd,k0,k1,k2,k3,k5,mN,hC,hN,hni,T⟩:=N5 I.mod.kin q
 refine wpAny_Raise_call_subT (C:=C) (nm:=nm) (q:=qn) (N:=Nn) (bs:=bs) (bm:=bm) (hdct:=hdct) (sn:=sn) (sub:=sub) (ab:=ab) (col:=col) (dd:=dd) (k0:=k0) (k1:=k1) (k2:=k2) (k3:=k3) (k5:=k5)
  FB (mN:=mN) (T.hasType FB.hasBase) (I.ok.hd hc) (by rw[he]; show (false || (backTo cpos (starEach rest X.env)).any (·.1))=false; rw[hpl]; rfl) hni (Uj I hg hm ⟨rfl,?_⟩ hdb)
 have hw:=ha cpos pins s σ H _ I h
 rw[he]at hw ⊢
 refine Calls.evalArgs_plain (thn hw fun us s1 ⟨vs,H1,I1,r,hl,hq⟩=>?_)
 exact ⟨rfl,by rw[← r.length]; exact hl,I1.bk _ _ hC,hN.keeps I1.bk,T.keeps I1.bk,fun h' e hmx=>hE pins σ H1 s1 h' e _ _ I1 hmx hq⟩
end
theorem Fun.okX {P:Program} {w:World} {K:PySem.W.Frag} {mg:Str->Option Value} {base:Heap} {x qual:Str} {st:Stmt} {f:Addr} {fd:FuncData} {N ps:List Str} {k:Nat} {sp:Sp} (F:Fun K x qual st f fd) (S:FnScope N ps (Zl st)) (len:∀vs H Q E,sp vs H Q E->vs.length=ps.length)
    (hbody:∀(cdv:Value) (A:Around) (outer:List Env) (s:Shared) (H:Hp) (vs:List V) (Q:VK) (E:XK),Room k (A.deeper (envOfC qual (Zl st) s.heap.objs.size f cdv))->sp vs H Q E ->
     ∃t,PSs (SI (CXw P w) P w K mg base N qual (Zl st) f cdv A outer s H E) (ZE st) t∧t { nx:=fun _ H'=>Q .non H',rt:=Q } (start N vs) H):FnOk P w K mg base (CXw P w) (k+1) f fd ps sp:=by
 obtain ⟨oc,od,kV,doc,pm,an,cdv,ct,osl,rfl,lk,hcd⟩:=F.ex
 exact Il lk hcd S len fun A outer s H vs Q E hr hsp=>hbody cdv A outer s H vs Q E hr hsp
theorem Rw {P:Program} {w:World} {X:Cx}:XW (CXw P w) X E0:=fun _ _ _ _ _ _ _ ⟨_,_,_,_,_,h⟩=>h.elim
open PySem PySem.Spec PyProof.Rows
section
variable {X:Cx} {pins:List (Addr × Obj)} {σ:St}
def PEat (X:Cx) (pins:List (Addr × Obj)) (σ:St) (e:Expr) (t:TE):Prop :=
 ∀(s:Shared) (H:Hp) (Q:VK),Inv X pins σ H s->t σ H Q->wpAny (model X.prog X.w) X.A (eval e X.env) (EP X pins σ Q) X.xe s
def PSat (X:Cx) (pins:List (Addr × Obj)) (σ:St) (st:Stmt) (t:TS):Prop :=
 ∀(s:Shared) (H:Hp) (D:Ends),Inv X pins σ H s->t D σ H->wpAny (model X.prog X.w) X.A (exec st X.env) (SP X pins D) X.xe s
def T4 (X:Cx) (pins:List (Addr × Obj)) (σ:St) (st:List Stmt) (t:TS):Prop :=
 ∀(s:Shared) (H:Hp) (D:Ends),Inv X pins σ H s->t D σ H->wpAny (model X.prog X.w) X.A (execs st X.env) (SP X pins D) X.xe s
def Vl (CX:CXT) (X:Cx) (pins:List (Addr × Obj)) (σ:St) (E:XK):Prop:=∀(H:Hp) (s:Shared) (e:Value) (s':Shared),Inv X pins σ H s->CX X.stack H s E e s'->X.xe e s'
end
section
variable {X:Cx} {pins:List (Addr × Obj)} {σ:St} {CX:CXT} {k:Nat} {f C:Addr} {fd:FuncData} {ps:List Str} {sp:Sp} {dvs:List V} {ds:List Value} {E:XK} {m:Str} {pos apos:Pos} {e o:Expr} {es:List Expr} {ta:TE} {t:TA}
theorem LC {H:Hp} {s:Shared} {Q:VK} {us:List Value} {vs:List V} (F:FnOk X.prog X.w X.K X.mg X.base CX k f fd ps sp) (hr:Room k X.A) (hb:Binds X.K fd ps ds) (hd:Vals dvs ds) (hx:Vl CX X pins σ E)
    (I:Inv X pins σ H s) (r:Vals vs us) (h:sp (vs++dvs) H Q E):wpAny (model X.prog X.w) X.A (call (.ref f) us) (EP X pins σ Q) X.xe s:=by
 have r2:Vals (vs++dvs) (us++ds):=r.append hd
 have hl:(us++ds).length=ps.length:=by rw[← r2.length]; exact F.len _ _ _ _ h
 refine wpAny_call (codeAny_mono (F.run X.A X.stack s H ⟨us,[]⟩ (us++ds) (vs++dvs) Q E hr I.env0 (hb s us I.kIn hl) r2 h) fun r s' hq=>?_)
 rcases r with ex|fl
 ·exact hx H s ex s' I hq
 ·cases fl with
  |ret u=>exact I.after hq
  |next=>exact (show False from hq).elim
  |brk=>exact (show False from hq).elim
  |cont=>exact (show False from hq).elim
theorem My {pl:Sem Bool} (he:PE X o ta) (c:Cls X.K C) (hm:Meth X.K C m f) (F:FnOk X.prog X.w X.K X.mg X.base CX k f fd ps sp) (hr:Room k X.A) (hb:Binds X.K fd ps ds) (hd:Vals dvs ds) (hx:Vl CX X pins σ E) (ha:PA X (e::es) t)
    (hst:starEach (e::es) X.env=(false,eval e X.env)::starEach es X.env:=by rfl) (hpl:(backTo pos (starEach es X.env)).any (·.1)=false:=by rfl)
    (ht:eval (.Call (.Attribute o m apos) (e::es) [] pos) X.env=(do
     let ov ← eval o X.env
     standAt apos.atName
     let (f,first) ← holding [ov] (getMethod ov m pl)
     callWith pos f first (backTo pos (starEach (e::es) X.env)) (backToKw pos (keywordEach [] X.env))):=by rfl) :
    PEat X pins σ (.Call (.Attribute o m apos) (e::es) [] pos) (O1 C m sp dvs E ta t):=by
 intro s H Q I h
 refine PySem.W.methodCall_KW (pl:=pl) (thn (he pins s σ H _ I h) fun u s1 ⟨x,H1,I1,rx,a,dx,fs,ex,ea,l,q⟩=>?_) ht
 subst ex
 cases (show u=Value.ref a from rx)
 refine VX I1 ea c hm l ?_
 refine PySem.W.callWith_K (first:=[.ref a]) (h₀:=X.base) I.ok.mod.kin hm.kp (thn (ha pos pins s1 σ H1 _ I1 q) fun us s2 ⟨vs,H2,I2,r,q2⟩=>⟨I2.kIn,?_⟩) hst hpl
 exact LC (us:=.ref a::us) (vs:=.ref a::vs) F hr hb hd hx I2 (.cons rfl r) q2
theorem MD {te:TE} (he:PEat X pins σ e te) (hs:swapsWith e none pos.line X.env=pure false:=by rfl):PSat X pins σ (.Expr e pos) (IB te):=by
 intro s H D I h
 exact wpAny_Expr_any (thn (he s H _ I h) fun u s1 ⟨x,H1,I1,_,q⟩=>⟨σ,H1,I1,q⟩) I.quiet hs
theorem JJ {c:Expr} {a b:List Stmt} {tc:TT} {t u:TS} (hc:PT X c tc) (ha:T4 X pins σ a t) (hb:T4 X pins σ b u):PSat X pins σ (.If c a b pos) (Hf tc t u):=by
 intro s H D I h
 refine wpAny_If (thn (hc pins s σ H _ I h) fun k s1 ⟨H1,I1,q⟩=>?_)
 cases k with
 |true=>exact ha s1 H1 D I1 (by simpa using q)
 |false=>exact hb s1 H1 D I1 (by simpa using q)
theorem WQ {st:Stmt} {t:TS} (h1:PSat X pins σ st t):T4 X pins σ [st] t:=by
 intro s H D I h
 refine wpAny_execs_cons (thn (h1 s H D I h) fun f s1 q=>?_)
 cases f with
 |next=>obtain ⟨σ',H',I',q'⟩:=q; exact wpAny_execs_nil ⟨σ',H',I',q'⟩
 |brk=>exact q
 |cont=>exact q
 |ret u=>exact q
end
abbrev Cx.held (X:Cx) (a:Addr):Cx:={ X with A:=X.A.mark (some (.ref a)),calm:=false,xe:=fun _ _=>False }
section
variable {X:Cx} {pins:List (Addr × Obj)} {σ:St} {H:Hp} {s:Shared} {a:Addr}
theorem Cx.Ok.held (ok:X.Ok) (a:Addr):(X.held a).Ok :=
 ⟨ok.mod,ok.kind,ok.glob,ok.blt,ok.above,ok.inj,ok.has,ok.cab,(fun h=>by cases h),ok.frames,ok.stk,ok.exf,ok.bs,ok.bsz,ok.noex,ok.exfs,ok.funs,ok.frf⟩
theorem Inv.held (I:Inv X pins σ H s) (a:Addr):Inv (X.held a) pins σ H s:=⟨I.ok.held a,I.os,I.bare,I.base,I.loc,I.cell,I.free,I.freeC,I.pin,I.hok,I.len⟩
theorem Inv.unheld (ok:X.Ok) (I:Inv (X.held a) pins σ H s):Inv X pins σ H s:=⟨ok,I.os,I.bare,I.base,I.loc,I.cell,I.free,I.freeC,I.pin,I.hok,I.len⟩
end
def Mo (a C:Addr):HO:=.ext fun h=>∃ob,h.get? a=some ob∧ob.cls=.ref C
section
variable {X:Cx} {pins:List (Addr × Obj)} {σ:St} {H H':Hp} {s s':Shared} {h' B:Heap}
theorem Inv.flown (hex:X.ex=[]) (I:Inv X pins σ H s) (I':Inv X pins σ H' s') (c1:∀b o ob,H' b=some o->s'.heap.get? b=some ob->B.get? b=some ob)
    (c2:∀b o ob,s.heap.get? b=some o->b ∉ frs X.stack->s'.heap.get? b=some ob->B.get? b=some ob) (st:B.StaysIn h') (up:s'.heap.UpToSlots h'):Inv X pins σ H' { s' with heap:=h' }:=by
 have nL:∀b,b ∉ X.fs->b≠X.env.locals->b ∉ frs X.stack:=fun b h1 h2 hm=>(List.mem_cons.mp (I.stkSub b hm)).elim h2 h1
 have ub:Un X.fs [] X.H₀ H X.s₀.heap s.heap:=hex ▸ I.base
 have ub':Un X.fs [] X.H₀ H' X.s₀.heap s'.heap:=hex ▸ I'.base
 have neL:∀b o,X.s₀.heap.get? b=some o->b≠X.env.locals:=fun b o e=>Nat.ne_of_lt (Nat.lt_of_lt_of_le (Heap.lt_size e) I.ok.above)
 have cellK:∀c v,s'.heap.IsCell c v->h'.IsCell c v:=fun c v ⟨o,ho,hd⟩=>by
  obtain ⟨sl,q⟩:=up c o ho fun vs z=>by rw[hd]at z; cases z
  exact ⟨_,q,hd⟩
 refine ⟨I'.ok,I'.os,I'.bare,hex ▸ ub'.on (fun b o o1 e hb e1=>?_) (fun b o o1 e hb e1=>?_),?_,fun x c e=>?_,I'.free,I'.freeC,fun p hp=>?_,I'.hok.flown c1 st,I'.len⟩
 ·obtain ⟨o2,e2⟩:=ub.there b o e (by simp)
  exact st _ _ (c2 b o2 o1 e2 (nL b hb (neL b o e)) e1)
 ·obtain ⟨_,o',ho',hnf⟩:=I'.funs.mem hb
  rw[e1]at ho'
  cases ho'
  exact up b o1 e1 hnf
 ·obtain ⟨m,hn,hl⟩:=I'.loc
  refine ⟨m,up.ns hn,fun i x v e1 e2 e3=>?_⟩
  obtain ⟨u,r,l⟩:=hl i x v e1 e2 e3
  refine ⟨u,r,?_⟩
  rcases l with l|⟨k,c,e,z⟩
  ·exact .inl l
  ·exact .inr ⟨k,c,e,cellK c _ z⟩
 ·obtain ⟨v,z⟩:=I'.cell x c e
  exact ⟨v,cellK c v z⟩
 ·obtain ⟨e,n,ne,nf,d⟩:=I'.pin p hp
  exact ⟨st _ _ (c2 p.1 p.2 p.2 (I.pin p hp).1 (nL p.1 nf ne) e),n,ne,nf,d⟩
theorem Inv.track {a C:Addr} (hex:X.ex=[]) (I:Inv X pins σ H s) (n0:X.s₀.heap.get? a=none) (na:H a=none) (np:∀p∈X.pn++pins,p.1≠a) {ob:Obj} {vs:Array Value} (he:s.heap.get? a=some ob) (hcl:ob.cls=.ref C) (hd:ob.data=.fields vs) :
    Inv X pins σ (upd H a (Mo a C)) s:=by
 have ub:Un X.fs [] X.H₀ H X.s₀.heap s.heap:=hex ▸ I.base
 have ne:∀b o,X.s₀.heap.get? b=some o->b≠a:=fun b o e z=>by rw[z,n0]at e; cases e
 have neH:∀b o,H b=some o->b≠a:=fun b o e z=>by rw[z,na]at e; cases e
 refine ⟨I.ok,I.os,I.bare,hex ▸ ⟨ub.keep,ub.slot,fun b o e n hx=>?_,ub.there,fun b xs e=>?_,fun b o u e=>?_,fun b ps e=>?_⟩,I.loc,I.cell,?_,fun x c e=>?_,fun p hp=>?_,fun b o e=>?_,I.len⟩
 ·rw[Zp (ne b o e)]; exact ub.free b o e n hx
 ·have q:=ub.tups b xs e
  rw[Zp (neH _ _ q)]; exact q
 ·have q:=ub.frzs b o u e
  rw[Zp (neH _ _ q)]; exact q
 ·obtain ⟨m,q⟩:=ub.tbls b ps e
  exact ⟨m,by rw[Zp (neH _ _ q)]; exact q⟩
 ·have:X.env.locals≠a:=fun z=>by
   obtain ⟨m,⟨o,es,ep,ho,hd',_⟩,_⟩:=I.loc
   rw[z,he]at ho
   cases ho
   rw[hd]at hd'
   cases hd'
  rw[Zp this]; exact I.free
 ·have:c≠a:=fun z=>by
   obtain ⟨v,o,ho,hd'⟩:=I.cell x c e
   rw[z,he]at ho
   cases ho
   rw[hd]at hd'
   cases hd'
  rw[Zp this]; exact I.freeC x c e
 ·obtain ⟨e,n,n1,n2,d⟩:=I.pin p hp
  exact ⟨e,by rw[Zp (np p hp)]; exact n,n1,n2,d⟩
 ·by_cases hb:b=a
  ·subst hb
   rw[Zz]at e
   cases e
   exact ⟨⟨ob,he,hcl⟩,⟨ob,he⟩,fun h1 h2 ⟨o1,e1,e2⟩ k=>⟨o1,k o1 e1,e2⟩⟩
  ·rw[Zp hb]at e
   exact (I.hok b o e).stay (fun c u _ q=>q) (fun c q=>by rw[Zp (neH _ _ q)]; exact q) fun c xs q=>by rw[Zp (neH _ _ q)]; exact q
theorem MK {M:Model} {A:Around} {E:Value->Shared->Prop} {i:Nat} {n:Str} {pos:Pos} {Q:Unit->Shared->Prop} (I:Inv X pins σ H s) (hN:X.N.Nodup) (hi:X.N[i]?=some n) (hl:X.env.scope.names.lookup n=some .local)
    (h:∀s',Inv X pins (σ.set i none) H s'->Q () s'):wpAny M A (do bindName X.env n .none; unbindBehindTheSuite X.env n pos) Q E s:=by
 obtain ⟨m,hn,hlo⟩:=id I.loc
 obtain ⟨oL,es,ep,hoL,hr⟩:=id hn
 have hcls:(X.env.scope.kind == .class || (X.env.scope.kind == .module&&X.env.locals != X.env.globals))=false:=by rw[I.ok.kind]; rfl
 refine wpAny_nameGoes_keeps hl hn hcls fun h' v hn' hs=>h _ ?_
 have neL:∀b o,X.s₀.heap.get? b=some o->b≠X.env.locals:=fun b o e=>Nat.ne_of_lt (Nat.lt_of_lt_of_le (Heap.lt_size e) I.ok.above)
 have hiσ:i < σ.length:=by rw[I.len]; exact (List.getElem?_eq_some_iff.mp hi).1
 refine ⟨I.ok,I.os,I.bare,⟨fun b o e n hb hx=>?_,fun b o e n hb hx=>?_,I.base.free,fun b o e hx=>?_,I.base.tups,I.base.frzs,I.base.tbls⟩,⟨_,hn',fun j y v' e1 e2 e3=>?_⟩,fun y c e=>?_,I.free,I.freeC,fun p hp=>?_,fun b ob e=>?_,by simpa using I.len⟩
 ·exact (hs.2 b (neL b o e)).trans (I.base.keep b o e n hb hx)
 ·obtain ⟨sl,e1⟩:=I.base.slot b o e n hb hx
  exact ⟨sl,(hs.2 b (neL b o e)).trans e1⟩
 ·obtain ⟨o',e1⟩:=I.base.there b o e hx
  exact ⟨o',(hs.2 b (neL b o e)).trans e1⟩
 ·by_cases hj:j=i
  ·subst hj
   rw[List.getElem?_set_self hiσ]at e2
   cases e2
  ·rw[List.getElem?_set_ne (Ne.symm hj)]at e2
   obtain ⟨u',r',q⟩:=hlo j y v' e1 e2 e3
   refine ⟨u',r',?_⟩
   rcases q with ⟨k,e⟩|⟨k,c,e,z⟩
   ·refine .inl ⟨k,?_⟩
    have:y≠n:=fun e=>hj (TZ hN e1 (e ▸ hi))
    simp[this,e]
   ·exact .inr ⟨k,c,e,z.sameBut hs (I.cne y c e)⟩
 ·obtain ⟨w',z⟩:=I.cell y c e
  exact ⟨w',z.sameBut hs (I.cne y c e)⟩
 ·obtain ⟨e,n,ne,nf,d⟩:=I.pin p hp
  exact ⟨(hs.2 p.1 ne).trans e,n,ne,nf,d⟩
 ·refine (I.hok b ob e).stay (fun c w' hc q=>(hs.2 c ?_).trans q) (fun _ q=>q) fun _ _ q=>q
  rintro rfl
  rcases hc with rfl|hc
  ·rw[I.free]at e; cases e
  ·rw[I.free]at hc; cases hc
end
section
variable {X:Cx} {P:Program} {w:World}
def EH (K:PySem.W.Frag) (CE:Value) (i:Nat) (tb:XK->TS) (ts:Addr->TS):TS:=fun D σ H=>∃E:XK,tb E D σ H∧∀cls o H',E cls o H'->∃C,cls=.ref C∧PySem.W.exmOne K (.ref C) CE=some true ∧
 ∀a,H' a=none->ts a { nx:=fun σ2 H2=>D.nx (σ2.set i none) H2,rt:=D.rt,bk:=fun σ2 H2=>D.bk (σ2.set i none) H2,ct:=fun σ2 H2=>D.ct (σ2.set i none) H2 } (σ.set i (some (.ref a))) (upd H' a (Mo a C))
theorem Gj {body:List Stmt} {x n:Str} {np hpos pos:Pos} {b₀:Stmt} {suite:List Stmt} {CE:Value} {i:Nat} {tb:XK->TS} {ts:Addr->TS} (hX:X.prog=P∧X.w=w) (hex:X.ex=[]) (hstk:X.stack=X.env::X.outer∧X.env.frame=some X.env.locals)
    (hN:X.N.Nodup) (hi:X.N[i]?=some n) (hl:X.env.scope.names.lookup n=some .local) (hg:Gl X x) (hm:X.mg x=some CE)
    (hb:∀(E:XK) (xe:Value->Shared->Prop) (pins:List (Addr × Obj)) (σ:St),Vl (CXw P w) (X.wish xe) pins σ E->T4 (X.wish xe) pins σ body (tb E))
    (hs:∀a,PSs (X.held a) (b₀::suite) (ts a)) (hdb:(x == ("__debug__":Str))=false:=by decide) :
    PS X (.Try body [.ExceptHandler (some (.Name x np)) (some n) (b₀::suite) hpos] [] [] pos) (EH X.K CE i tb ts):=by
 obtain ⟨rfl,rfl⟩:=hX
 intro pins s σ H D I h
 obtain ⟨E,qb,qc⟩:=h
 refine wpAny_Try_except ?_
 refine wpAny_mono (hb E (fun e s₁=>wpAny (model X.prog X.w) X.A (noteFrame e X.env) (fun _ s₂=>wpAny (model X.prog X.w) X.A (setFlight e none) (fun _ s₃=>wpAny (model X.prog X.w) X.A (handleBy e X.env [.ExceptHandler (some (.Name x np)) (some n) (b₀::suite) hpos]) (SP X pins D) X.xe s₃) X.xe s₂) X.xe s₁)
  pins σ ?_ s H D (I.wish _) qb) (fun f s1 q=>?_) fun _ _ q=>q
 ·intro H1 s1 e s' I1 hcx
  obtain ⟨a,cls,H',rfl,fly,hE⟩:=hcx
  obtain ⟨C,rfl,hmt,qs⟩:=qc cls none H' hE
  have I1:=I1.unwish
  have I2:Inv X pins σ H' s':=I1.call' (ch:=[]) fly.os fly.un fly.hok fly.bare (fun _ z=>nomatch z)
  obtain ⟨B,a0,fl,c1,c2⟩:=fly.fl
  have fl:Heap.FlyingW B X.stack a (.ref C) a0 s'.heap:=fl
  rw[hstk.1]at fl
  have hfr:X.A.frames=some (X.env::X.outer):=by rw[← hstk.1]; exact I.ok.frames
  refine wpAny_looks_onW hfr hstk.2 fl fun h4 held4 sm4=>?_
  refine wpAny_landsW held4 fun h5 held5 sm5=>?_
  have I5:Inv X pins σ H' { s' with heap:=h5 }:=Inv.flown hex I1 I2 c1 c2 held5.1 (sm4.trans sm5)
  refine wpAny_handleBy_cons (codeAny_handlers_test (Uj (X:=X.held a) (I5.held a) hg hm ?_ hdb)) (by intro q; cases q)
  have LT:PySem.W.Looks (model X.prog X.w) h5 (typeOf (.ref a)) (.ref C):=by
   obtain ⟨ob,hob,hc⟩:=held5.there
   rw[← hc]
   exact (PySem.W.Looks.ld hob).andThen .now
  refine (PySem.W.exm_one (K:=X.K) (I5.kIn) LT hmt).here ?_
  refine codeAny_handlers_suite_as ?_
  refine lands_againW held5 fun h6 fl6 sm6=>?_
  have I6:Inv X pins σ H' { s' with heap:=h6 }:=Inv.flown hex I1 I2 c1 c2 fl6.1 ((sm4.trans sm5).trans sm6)
  obtain ⟨oe,ws,hoe,hoec,hoed,_⟩:=fl6.first
  have nB:B.get? a=none:=fl6.2.1
  have na:H' a=none:=by
   cases q:H' a with
   |none=>rfl
   |some o =>
    obtain ⟨ob,e⟩:=(I2.hok a o q).ex
    rw[c1 a o ob q e]at nB
    cases nB
  have nfr:a ∉ frs X.stack:=fun hm=>by
   obtain ⟨_,o',ho',hnf⟩:=I6.stack.mem hm
   rw[hoe]at ho'
   cases ho'
   exact hnf _ hoed
  have ns1:∀o,s1.heap.get? a=some o->False:=fun o e=>by
   obtain ⟨o2,e2⟩:=fly.un.there a o e (by simp)
   rw[c2 a o o2 e nfr e2]at nB
   cases nB
  have n0:X.s₀.heap.get? a=none:=by
   cases q:X.s₀.heap.get? a with
   |none=>rfl
   |some o =>
    obtain ⟨o2,e2⟩:=I1.base.there a o q (by rw[hex]; simp)
    exact (ns1 o2 e2).elim
  have npn:∀p∈X.pn++pins,p.1≠a:=fun p hp z=>ns1 p.2 (by rw[← z]; exact (I1.pin p hp).1)
  have I7:=(Inv.track (C:=C) hex I6 n0 na npn hoe hoec hoed).held a
  refine Us (X:=X.held a) I7 hN hi (.inl hl) (v:=.ref a) rfl (fun s8 I8=>?_) (.inr hl)
  refine wpAny_mono (hs a pins s8 _ _ _ I8 (qs a na)) (fun f s9 q9=>?_) fun _ _ q=>(show False from q).elim
  have back:∀{σ9:St} {H9:Hp} {R:Unit->Shared->Prop},Inv (X.held a) pins σ9 H9 s9->(∀s10,Inv X pins (σ9.set i none) H9 s10->R () s10)->wpAny (model X.prog X.w) X.A (do bindName X.env n .none; unbindBehindTheSuite X.env n hpos) R X.xe s9:=fun I9 k =>
   MK (Inv.unheld I.ok I9) hN hi hl k
  cases f with
  |next =>
   obtain ⟨σ9,H9,I9,q⟩:=q9
   exact back I9 fun s10 I10=>⟨_,H9,I10,q⟩
  |brk =>
   obtain ⟨σ9,H9,I9,q⟩:=q9
   exact back I9 fun s10 I10=>⟨_,H9,I10,q⟩
  |cont =>
   obtain ⟨σ9,H9,I9,q⟩:=q9
   exact back I9 fun s10 I10=>⟨_,H9,I10,q⟩
  |ret u =>
   obtain ⟨v,σ9,H9,I9,r,q⟩:=q9
   exact back I9 fun s10 I10=>⟨v,_,H9,I10,r,q⟩
 ·have q':SP X pins D f s1:=SP.unwish q
  cases f with
  |next=>obtain ⟨σ',H',I',q1⟩:=q'; exact wpAny_execs_nil ⟨σ',H',I',q1⟩
  |brk=>exact q'
  |cont=>exact q'
  |ret u=>exact q'
end
structure ExcK (K:PySem.W.Frag) (C:Addr):Prop where
 ga:PySem.W.findIn K (.ref C) "__getattribute__"=some (some (.builtin "BaseException.__getattribute__"))
 gt:PySem.W.findIn K (.ref C) "__getattr__"=some none
 cl:PySem.W.findIn K (.ref C) "__class__"=some (some (.builtin "object.__class__"))
 ob:PySem.W.mroIn K C (.type "object")=some true
 be:PySem.W.mroIn K C (.type "BaseException")=some true
 sp:PySem.W.specialIn K (.builtin "object.__class__") "__get__"=some (some (.builtin "getset_descriptor.__get__"))
 tk:PySem.W.takesIn K (.builtin "object.__class__")=some true
 is:(PySem.W.clsIn K C).isSome=true
open PySem PySem.Spec PyProof.Rows
section
open PySem.W Builtin Builtin.ObjectAttr Builtin.Getset_descriptor
variable {prog:Program} {w:World} {A:Around} {E:Value->Shared->Prop} {h:Heap} {g:Array GenState} {d:Drawn} {t:Nat} {os:OsState} {K:Frag} {a C:Addr} {o:Obj}
theorem Uu {M:Model} (hx:h.get? a=some o) (hc:o.cls=.ref C):Looks M h (typeOf (.ref a)) (.ref C):=by
 rw[← hc]
 exact (Looks.ld hx).andThen .now
theorem GE {R:Result->Shared->Prop} {tp:Value} (X:K.In h) (F:ExcK K C) (hx:h.get? a=some o) (hc:o.cls=.ref C) (hq:R (.ok (.ret (.ref C))) ⟨h,g,d,t,os⟩) :
    codeAny (model prog w) A (.call (.builtin "getset_descriptor.__get__") ⟨[.builtin "object.__class__",.ref a,tp],[]⟩) R ⟨h,g,d,t,os⟩:=by
 have T0:=Uu (M:=model prog w) hx hc
 have T1:=looks_mroIn (M:=model prog w) X F.ob
 refine codeAny_call_builtin KF.slot_gs.plain KF.entry_gs (KF.slot_gs.check _ _ _ _ _ _ _ _ KF.type_class (KF.args_gs _ _ _) ?_)
 unfold Builtin.«getset_descriptor.__get__» descrGet
 rw[dga_obj]
 refine wpAny_bind (wpAny_pure ?_)
 unfold descrGetter descrCheckInstance descrNameAndClass isInstance
 simp only[KF.owner_class]
 repeat lk
 refine ⟨Code.quiet_builtin _ (by decide +kernel),codeAny_builtin KF.entry_class ?_⟩
 unfold Builtin.«object.__class__» shownTypeOf
 repeat lk
 exact hq
theorem Jo (X:K.In h) (F:ExcK K C) {M:Model}:Looks M h (find (.ref a) (.ref C) "__class__") (.bind (.builtin "getset_descriptor.__get__") (.builtin "object.__class__")):=by
 have T1:=looks_findIn (M:=M) X F.cl
 have T2:Looks M h (getOf (some (.builtin "object.__class__"))) (some (.builtin "getset_descriptor.__get__")):=looks_specialIn X F.sp
 have T3:=looks_takesIn (M:=M) X F.tk
 intro A' Q' E' s' k q
 obtain ⟨hh,g',d',t',os'⟩:=s'
 have T1:=T1.keeps k
 have T2:=T2.keeps k
 have T3:=T3.keeps k
 unfold find
 refine wpAny_bind (T1.at ?_)
 refine wpAny_bind (T2.at ?_)
 unfold dataDescriptor?
 refine wpAny_bind (wpAny_bind (T3.at ?_))
 repeat lk
 exact q
theorem M7 {M:Model} {nameV:Value} {Q:Unit->Shared->Prop} (X:K.In h) (XF:ExcK K C) (hx:h.get? a=some o) (hc:o.cls=.ref C) (hq:Q () ⟨h,g,d,t,os⟩) :
    wpAny M A (checkBuiltinCall "BaseException.__getattribute__" ⟨[.ref a,nameV],[]⟩) Q E ⟨h,g,d,t,os⟩:=by
 have e1:builtinKind "BaseException.__getattribute__"=some .slot:=by decide +kernel
 have e2:splitId "BaseException.__getattribute__"=some ("BaseException","__getattribute__"):=by decide +kernel
 have T0:=Uu (M:=M) hx hc
 have T1:=looks_mroIn (M:=M) X XF.be
 have T2:Looks M h (isInstance (.ref a) (.type "BaseException")) true:=T0.andThen T1
 have e3:=PySem.F.args_bexc_ga (.ref a) nameV
 simp only[checkBuiltinCall,e1,e2]
 refine wpAny_bind (T2.at ?_)
 repeat (any_goals (first|assumption|wp_step))
theorem LW {tk:Tok} {Q:PySem.Fin->Shared->Prop} (X:K.In h) (XF:ExcK K C) (hx:h.get? a=some o) (hc:o.cls=.ref C) (hq:Q (.done (.ret (.ref C))) ⟨h,g,d,t,os⟩) :
    wpAny (model prog w) A (Builtin.«object.__getattribute__» ⟨[.ref a,.str "__class__" tk],[]⟩) Q E ⟨h,g,d,t,os⟩:=by
 have T0:=Uu (M:=model prog w) hx hc
 have T1:=Jo (a:=a) X XF (M:=model prog w)
 unfold Builtin.«object.__getattribute__»
 refine wpAny_bind (wpAny_pure ?_)
 refine wpAny_bind (wpAny_pure ?_)
 refine wpAny_bind (T0.at ?_)
 refine wpAny_bind (T1.at ?_)
 show wpAny _ _ (bindTo (.builtin "getset_descriptor.__get__") (.builtin "object.__class__") (.ref a) (.ref C)) _ _ _
 unfold bindTo
 refine wpAny_bind (wpAny_call (GE X XF hx hc ?_))
 exact wpAny_pure hq
theorem K9 {s:Shared} {Q:Option Value->Shared->Prop} (X:K.In s.heap) (XF:ExcK K C) (hx:s.heap.get? a=some o) (hc:o.cls=.ref C) (hq:Q (some (.ref C)) { s with toks:=s.toks+1 }) :
    wpAny (model prog w) A (getAttr? (.ref a) "__class__") Q E s:=by
 obtain ⟨hh,g,d,t,os⟩:=s
 have T0:=Uu (M:=model prog w) hx hc
 have T1:=looks_findIn (M:=model prog w) X XF.ga
 have T2:=looks_findIn (M:=model prog w) X XF.gt
 have f3:=PySem.F.attr_ValueError.ga.bind (.ref a)
 unfold getAttr? getAttrBy? getAttrBy
 refine wpAny_bind (wpAny_mkText (wpAny_bind (wpAny_attempt (wpAny_holding (wpAny_bind (T0.at (wpAny_bind (T1.at ?_))))))))
 show wpAny _ _ (getAttrByItsOwn (.ref a) _ (.ref C) (.builtin "BaseException.__getattribute__") false false) _ _ _
 unfold getAttrByItsOwn
 refine wpAny_bind ?_
 show wpAny _ _ (typeLookup (.ref C) "__getattr__") _ _ _
 refine T2.at ?_
 refine wpAny_bind (wpAny_attempt (wpAny_holding ?_))
 show wpAny _ _ (boundAndCalled (.builtin "BaseException.__getattribute__") (.ref a) _) _ _ _
 unfold boundAndCalled
 refine wpAny_bind (wpAny_of_eq f3 ?_)
 refine wpAny_call (codeAny_call_builtin PySem.F.attr_ValueError.ga.plain PySem.F.entry_bexc_ga (M7 X XF hx hc (LW X XF hx hc ?_)))
 exact wpAny_pure (wpAny_pure hq)
theorem Kb (XF:ExcK K C):KitX K (.ref a) (.ref C) (fun h=>∃o,h.get? a=some o∧o.cls=.ref C) where
 ty:=fun _ _ _ ⟨o,hx,hc⟩=>Uu hx hc
 it:=fun _ _ X _=>by
  obtain ⟨cd,hcd⟩:=Option.isSome_iff_exists.mp XF.is
  unfold clsIn at hcd
  split at hcd
  ·rename_i c' d' cd' sl' ho
   intro A' Q' E' s' k q
   unfold isType loadHead
   exact wpAny_bind (wpAny_loadPart (k _ _ (X _ _ ho)) (wpAny_pure q))
  ·cases hcd
 ne:=fun h tp dd its n sl X htp=>by
  obtain ⟨cd,hcd⟩:=Option.isSome_iff_exists.mp XF.is
  refine Bool.eq_false_iff.mpr fun q=>?_
  cases (Value.ref.inj (beq_iff_eq.mp q))
  unfold clsIn at hcd
  split at hcd
  ·rename_i c' d' cd' sl' ho
   have z:=(X _ _ ho).symm.trans htp
   cases z
  ·cases hcd
 ca:=fun X ⟨o,hx,hc⟩ k=>K9 X XF hx hc k
end
section
variable {X:Cx}
def KW:V->Option Value
 |.ref D=>some (.ref D)
 |.ty n=>some (.type n)
 |_=>none
theorem Kt {v:V} {c u:Value} (h:KW v=some c) (r:RelV v u):u=c:=by
 cases v with
 |ref D=>cases h; exact r
 |ty n=>cases h; exact r
 |_=>cases h
theorem Mr:CallR X (.builtin "isinstance") (fun xs H Q=>∃a C cv c b,xs=[.ref a,cv]∧H a=some (Mo a C)∧ExcK X.K C∧KW cv=some c∧PySem.W.kitOne X.K (.ref C) c=some b∧Q (.bl b) H):=by
 intro pins s σ H xs us Q I r h
 obtain ⟨a,C,cv,c,b,rfl,ha,XF,hc,hk,q⟩:=h
 obtain ⟨u,v,rfl,ru,rv⟩:=En r
 cases (show u=Value.ref a from ru)
 cases Kt hc rv
 obtain ⟨hp,_,_⟩:=I.hok a _ ha
 exact PySem.W.kia_one (Kb XF) I.kIn hp hk (fun z=>nomatch z) fun tk=>⟨.bl b,H,I.tok _,rfl,q⟩
end
open PySem PySem.Spec PyProof.Rows
abbrev Yw (X:Cx) (scope:Scope) (cl:List (Str × Addr)) (x:Str) (cn:List Str) (C:Addr) (s₂:Shared) (H₂:Hp) (fp:List Addr):Cx where
 prog:=X.prog
 w:=X.w
 K:=X.K
 mg:=X.mg
 base:=X.base
 A:=X.A
 N:=x::cn
 s₀:=s₂
 H₀:=H₂
 env:=compEnvC scope cl C X.env
 outer:=X.stack
 stack:=X.stack
 ex:=fp
 fn:=fun _=>false
 calm:=X.calm
 pn:=[]
 xe:=fun _ _=>False
def Y2 (js:List Nat) (v:Option V) (σ:St):St:=v::js.map fun j=>(σ[j]?).join
def SU (X:Cx) (ifs:List Expr) (t:TT):Prop :=
 ∀(pins:List (Addr × Obj)) (s:Shared) (σ:St) (H:Hp) (Q:Bool->Hp->Prop),Inv X pins σ H s->t σ H Q ->
  wpAny (model X.prog X.w) X.A (forIn ifs true fun c r=>if r=true then do let ok ← isTrue c X.env (eval c X.env); pure (ForInStep.yield ok) else pure (ForInStep.yield r)) (TP X pins σ Q) X.xe s
def F9:TT:=fun _ H Q=>Q true H
theorem L6 {X:Cx}:SU X [] F9:=fun _ _ _ H _ I h=>wpAny_tests_nil ⟨H,I,h⟩
theorem Kl {X:Cx} {c:Expr} {t:TT} (h:PT X c t):SU X [c] t:=fun pins s σ H Q I q=>wpAny_tests_one (h pins s σ H Q I q)
structure CompOk (X:Cx) (scope:Scope) (cl:List (Str × Addr)) (x:Str) (cn:List Str) (js:List Nat):Prop where
 clos:closureFor scope X.env=pure cl
 nocell:∀y∈scope.names,y.2≠.cell
 kind:scope.kind=.function
 names:∀y∈scope.names,y.2=.local->scope.names.lookup y.1=some .local
 hx:scope.names.lookup x=some .local
 sub:∀y c,cl.lookup y=some c->X.env.cells.lookup y=some c
 has:∀p∈(relabel scope X.env).names,p.2=.cell∨p.2=.free->∃c,cl.lookup p.1=some c
 cap:∀(k:Nat) y,cn[k]?=some y->∃j,js[k]?=some j∧X.N[j]?=some y∧Vis X.env.scope y∧(X.env.kindOf y=some .cell∨X.env.kindOf y=some .free)∧((compEnvC scope cl 0 X.env).kindOf y=some .cell∨(compEnvC scope cl 0 X.env).kindOf y=some .free)
 len:js.length=cn.length
 nd:(x::cn).Nodup
def L0 (names:List (Str × NameKind)) (env:Env):List (Str × Addr):=names.foldl (fun cs p=>if p.2 == .free then (match env.cells.lookup p.1 with|some c=>(p.1,c)::cs|none=>cs) else cs) []
theorem S9 (env:Env):∀(names:List (Str × NameKind)) (cs:List (Str × Addr)),(∀p∈cs,env.cells.lookup p.1=some p.2) ->
    ∀p∈names.foldl (fun cs p=>if p.2 == .free then (match env.cells.lookup p.1 with|some c=>(p.1,c)::cs|none=>cs) else cs) cs,env.cells.lookup p.1=some p.2
 |[],cs,h=>h
 |q::r,cs,h=>by
  refine S9 env r _ ?_
  dsimp only
  split
  ·split
   ·rename_i c e
    intro p hp
    rcases List.mem_cons.mp hp with rfl|hp
    ·exact e
    ·exact h p hp
   ·exact h
  ·exact h
def Mn (k:Option NameKind):Bool:=k == some .cell || k == some .free
theorem O5 {k:Option NameKind} (h:Mn k=true):k=some .cell∨k=some .free:=by
 unfold Mn at h
 rcases Bool.or_eq_true_iff.mp h with q|q
 ·exact .inl (by simpa using q)
 ·exact .inr (by simpa using q)
theorem YF {X:Cx} {scope:Scope} {x:Str} {cn:List Str} {js:List Nat} (clos:closureFor scope X.env=pure (L0 scope.names X.env)) (nocell:∀y∈scope.names,y.2≠.cell) (kind:scope.kind=.function)
    (names:∀y∈scope.names,y.2=.local->scope.names.lookup y.1=some .local) (hx:scope.names.lookup x=some .local)
    (has:((relabel scope X.env).names.all fun p=>!(Mn (some p.2)) || ((L0 scope.names X.env).lookup p.1).isSome)=true) (len:js.length=cn.length)
    (cap:((cn.zip js).all fun p=>(X.N[p.2]? == some p.1)&&Mn (X.env.scope.names.lookup p.1)&&Mn ((relabel scope X.env).names.lookup p.1))=true)
    (nd:(x::cn).Nodup):CompOk X scope (L0 scope.names X.env) x cn js where
 clos:=clos
 nocell:=nocell
 kind:=kind
 names:=names
 hx:=hx
 sub:=fun y c h=>S9 X.env scope.names [] (fun _ z=>(nomatch z)) (y,c) (PySem.mem_of_lookup h)
 has:=fun p hp hk=>by
  have q:=List.all_eq_true.mp has p hp
  have hk':Mn (some p.2)=true:=by rcases hk with z|z <;> rw[z] <;> rfl
  rw[hk']at q
  exact Option.isSome_iff_exists.mp (by simpa using q)
 cap:=fun k y e=>by
  have hk:k < cn.length:=(List.getElem?_eq_some_iff.mp e).1
  have hj:js[k]?=some (js[k]'(by omega)):=List.getElem?_eq_getElem _
  have hz:(y,js[k]'(by omega))∈cn.zip js:=by
   refine List.mem_of_getElem? (i:=k) ?_
   rw[List.getElem?_zip_eq_some]
   exact ⟨e,hj⟩
  have q:=List.all_eq_true.mp cap _ hz
  simp only[Bool.and_eq_true,beq_iff_eq]at q
  obtain ⟨⟨q1,q2⟩,q3⟩:=q
  have c2:=O5 q2
  refine ⟨_,hj,q1,?_,c2,O5 q3⟩
  rcases c2 with z|z
  ·exact .inr (.inl z)
  ·exact .inr (.inr z)
 len:=len
 nd:=nd
section
variable {X:Cx} {scope:Scope} {cl:List (Str × Addr)} {x:Str} {cn:List Str} {js:List Nat} {pins:List (Addr × Obj)} {σ:St} {H₂:Hp} {s₂:Shared} {fp:List Addr}
theorem CompOk.ok (O:CompOk X scope cl x cn js) (I:Inv X pins σ H₂ s₂) (hf:∀b∈fp,TM X pins H₂ b) {C:Addr} (hC:s₂.heap.objs.size<=C) (ho:∀b∈fp,∃o,s₂.heap.get? b=some o):(Yw X scope cl x cn C s₂ H₂ fp).Ok where
 mod:=I.mod
 kind:=by show (relabel scope X.env).kind=.function; exact O.kind
 glob:=I.ok.glob
 blt:=I.ok.blt
 above:=hC
 inj:=fun y z c h1 h2=>I.ok.inj y z c (O.sub y c h1) (O.sub z c h2)
 has:=fun y hy=>by
  have hy:(relabel scope X.env).names.lookup y=some .cell∨(relabel scope X.env).names.lookup y=some .free:=hy
  rcases hy with hy|hy
  ·exact O.has _ (PySem.mem_of_lookup hy) (.inl rfl)
  ·exact O.has _ (PySem.mem_of_lookup hy) (.inr rfl)
 cab:=fun _ _ h=>(by cases h)
 hd:=I.ok.hd
 frames:=I.ok.frames
 stk:=.inl rfl
 exf:=fun b hb=>by
  obtain ⟨o,e⟩:=ho b hb
  exact ⟨Nat.ne_of_lt (Nat.lt_of_lt_of_le (Heap.lt_size e) hC),fun y c h=>(hf b hb).2.2.2.2.1 y c (O.sub y c h)⟩
 bs:=I.bs
 bsz:=Nat.le_trans I.ok.bsz I.sz
 noex:=fun b o e hb=>by
  rcases (hf b hb).2.2.2.1 with z|z
  ·exact I.ok.noex b o e z
  ·exact absurd (Nat.lt_of_lt_of_le (Heap.lt_size e) (Nat.le_trans I.ok.bsz z)) (Nat.lt_irrefl _)
 exfs:=fun b hb hm=>(List.mem_cons.mp (I.stkSub b hm)).elim (hf b hb).2.1 (hf b hb).2.2.1
 funs:=I.stack
 frf:=I.stkFree
theorem CompOk.start (O:CompOk X scope cl x cn js) (I:Inv X pins σ H₂ s₂) (hf:∀b∈fp,TM X pins H₂ b) (ho:∀b∈fp,∃o,s₂.heap.get? b=some o) {h₁:Heap} {m:Str->Option Value} {tk:Nat}
    (hns:h₁.Ns (s₂.heap.objs.size+1) m) (hk:∀b o,s₂.heap.get? b=some o->h₁.get? b=some o) (hD:h₁.get? s₂.heap.objs.size=some { cls:=.type "list",data:=.seq ([]:List Value).toArray }) :
    Inv (Yw X scope cl x cn (s₂.heap.objs.size+1) s₂ H₂ fp) [] (Y2 js none σ) (upd H₂ s₂.heap.objs.size (.lst [])) { s₂ with heap:=h₁,toks:=tk }:=by
 have fD:H₂ s₂.heap.objs.size=none:=I.hok.fresh (Nat.le_refl _)
 have fC:H₂ (s₂.heap.objs.size+1)=none:=I.hok.fresh (Nat.le_succ _)
 have neD:s₂.heap.objs.size+1≠s₂.heap.objs.size:=Nat.succ_ne_self _
 obtain ⟨m0,hn0,hl0⟩:=I.loc
 refine ⟨O.ok I hf (Nat.le_succ _) ho,rfl,I.bare,?_,⟨m,hns,fun i y v e1 e2 e3=>?_⟩,fun y c e=>?_,?_,fun y c e=>?_,(fun p hp=>nomatch hp),?_,?_⟩
 ·exact Un.laid hk (Nat.le_refl _) fD
 ·cases i with
  |zero=>exact nomatch (show (none:Option V)=some v from Option.some.inj e2)
  |succ k =>
   obtain ⟨j,hj,hjN,hvis,hcell,hk2⟩:=O.cap k y (by simpa using e1)
   have e4:(σ[j]?).join=some v:=by
    have z:(js.map fun j=>(σ[j]?).join)[k]?=some (some v):=by simpa [Y2] using e2
    rw[List.getElem?_map,hj]at z
    simpa using z
   have e5:σ[j]?=some (some v):=by
    cases q:σ[j]? with
    |none=>rw[q]at e4; cases e4
    |some o=>rw[q]at e4; simp at e4; rw[e4]
   obtain ⟨u,r,l⟩:=hl0 j y v hjN e5 hvis
   refine ⟨u,r,.inr ⟨hk2,?_⟩⟩
   rcases l with ⟨kl,_⟩|⟨_,c,ec,z⟩
   ·rcases hcell with q|q
    ·rw[kl]at q; cases q
    ·rw[kl]at q; cases q
   ·have hy:∃c',cl.lookup y=some c':=by
     rcases hk2 with q|q
     ·exact O.has _ (PySem.mem_of_lookup (show (relabel scope X.env).names.lookup y=some .cell from q)) (.inl rfl)
     ·exact O.has _ (PySem.mem_of_lookup (show (relabel scope X.env).names.lookup y=some .free from q)) (.inr rfl)
    obtain ⟨c',hc'⟩:=hy
    have ecc:=O.sub y c' hc'
    rw[ec]at ecc
    cases ecc
    exact ⟨c,hc',z.keeps hk⟩
 ·obtain ⟨v,z⟩:=I.cell y c (O.sub y c e)
  exact ⟨v,z.keeps hk⟩
 ·show upd H₂ s₂.heap.objs.size (.lst []) (s₂.heap.objs.size+1)=none
  rw[Zp neD]; exact fC
 ·obtain ⟨v,o,ho',_⟩:=I.cell y c (O.sub y c e)
  rw[Zp (Nat.ne_of_lt (Heap.lt_size ho'))]
  exact I.freeC y c (O.sub y c e)
 ·exact I.hok.laid hk (Nat.le_refl _) ⟨Nat.zero_le _,[],0,.nil,hD⟩
 ·show (Y2 js none σ).length=(x::cn).length
  simp[Y2,O.len]
end
theorem QU {prog:Program} {w:World} {A:Around} {R:Result->Shared->Prop} {s:Shared} {elt target iter:Expr} {ifs:List Expr} {scope:Scope} {pos:Pos} {it acc:Value} {env:Env} (I:Nat->Shared->Prop)
    (turn:∀n s,I n s->wpAny (model prog w) A (pyNext it) (fun r s₁=>match r with
     |none=>R (.ok .next) s₁
     | some v => wpAny (model prog w) A (letOwnedTupleGo target it v) (fun _ s₁' => wpAny (model prog w) A (assign target env v) (fun _ s₂ =>
         wpAny (model prog w) A (forIn ifs true fun c r=>if r=true then do let ok ← isTrue c env (eval c env); pure (ForInStep.yield ok) else pure (ForInStep.yield r)) (fun ok s₃ =>
          if ok=true then wpAny (model prog w) A (eval elt env) (fun x s₄=>wpAny (model prog w) A (call (.builtin "list.append") [acc,x]) (fun _ s₅=>∃m,m < n∧I m s₅) (fun _ _=>False) s₄) (fun _ _=>False) s₃
          else ∃m,m < n∧I m s₃) (fun _ _=>False) s₂) (fun _ _=>False) s₁') (fun _ _=>False) s₁) (fun _ _=>False) s)
    (n:Nat) (h:I n s):codeAny (model prog w) A (.compLoop (.ListComp elt [⟨target,iter,ifs,0⟩] scope pos) 0 it acc env) R s:=by
 refine codeAny_loop rfl I (fun n s hI=>?_) n h
 show wpAny _ A ((compTurn (.ListComp elt [⟨target,iter,ifs,0⟩] scope pos) 0 it acc env).onRaise (fun x=>do noteFrame x env; theTreesLotGoes x)) _ _ s
 refine wpAny_noted ?_
 rw[compTurn_list]
 refine wpAny_bind (wpAny_standAt (wpAny_bind (wpAny_mono (turn n s hI) (fun r s₁ h₁=>?_) fun _ _ h'=>h'.elim)))
 cases r with
 |none=>exact wpAny_pure h₁
 |some v =>
  refine wpAny_bind (wpAny_mono h₁ (fun _ s₁' h₁'=>?_) fun _ _ h'=>h'.elim)
  refine wpAny_bind (wpAny_mono h₁' (fun _ s₂ h₂=>wpAny_bind (wpAny_mono h₂ (fun ok s₃ h₃=>?_) fun _ _ h'=>h'.elim)) fun _ _ h'=>h'.elim)
  cases ok with
  |false =>
   rw[if_neg Bool.false_ne_true]at h₃
   exact wpAny_pure ⟨rfl,h₃⟩
  |true =>
   rw[if_pos rfl]at h₃
   exact wpAny_bind (wpAny_bind (wpAny_mono h₃ (fun x s₄ h₄=>wpAny_bind (wpAny_mono h₄ (fun _ s₅ h₅=>wpAny_pure (wpAny_pure ⟨rfl,h₅⟩)) fun _ _ h'=>h'.elim)) fun _ _ h'=>h'.elim))
def OR (wi:TI) (js:List Nat) (tc:Addr->Shared->Hp->List Addr->TT) (te:Addr->Shared->Hp->List Addr->TE):TE:=fun σ H Q=>wi σ H fun J H1=>∀D,H1 D=none->∀C s₂ H₂ fp,∃W:Nat->Nat->List V->Hp->Prop,(∃m,W 0 m [] (upd H1 D (.lst [])))∧∀i m ys H2,W i m ys H2->H2 D=some (.lst ys) ∧
 ((J.stop i H2∧Q (.ref D) H2)∨(J.go i H2∧∀x H',J.yld i H2 x H'->tc C s₂ H₂ fp (Y2 js (some x) σ) H' fun b H3=>if b=true then te C s₂ H₂ fp (Y2 js (some x) σ) H3 fun v H4=>H4 D=some (.lst ys)∧ys.length < sizeLine∧∃m',m' < m∧W (i+1) m' (ys++[v]) (upd H4 D (.lst (ys++[v])))
  else ∃m',m' < m∧W (i+1) m' ys H3))
section
variable {X:Cx} {scope:Scope} {cl:List (Str × Addr)} {x:Str} {cn:List Str} {js:List Nat} {elt iter:Expr} {ifs:List Expr} {px pos:Pos} {wi:TI} {tc:Addr->Shared->Hp->List Addr->TT} {te:Addr->Shared->Hp->List Addr->TE}
theorem Sy (O:CompOk X scope cl x cn js) (hc:X.calm=true) (ht:∀C s₂ H₂ fp,SU (Yw X scope cl x cn C s₂ H₂ fp) ifs (tc C s₂ H₂ fp)) (he:∀C s₂ H₂ fp,PE (Yw X scope cl x cn C s₂ H₂ fp) elt (te C s₂ H₂ fp))
    {pins:List (Addr × Obj)} {σ:St} {s₂:Shared} {itv:Value} {R:V->Hp->Prop} {RR:Value->Addr->Result->Shared->Prop} {E:Value->Shared->Prop}
    (h:PIE X pins σ (.Name x px) (fun J H1=>∀D,H1 D=none->∀C s₂ H₂ fp,∃W:Nat->Nat->List V->Hp->Prop,(∃m,W 0 m [] (upd H1 D (.lst [])))∧∀i m ys H2,W i m ys H2->H2 D=some (.lst ys) ∧
     ((J.stop i H2∧R (.ref D) H2)∨(J.go i H2∧∀x H',J.yld i H2 x H'->tc C s₂ H₂ fp (Y2 js (some x) σ) H' fun b H3=>if b=true then te C s₂ H₂ fp (Y2 js (some x) σ) H3 fun v H4=>H4 D=some (.lst ys)∧ys.length < sizeLine∧∃m',m' < m∧W (i+1) m' (ys++[v]) (upd H4 D (.lst (ys++[v])))
      else ∃m',m' < m∧W (i+1) m' ys H3))) itv s₂)
    (hRR:∀D C H' s',Inv X pins σ H' s'->R (.ref D) H'->H' C=none->C≠X.env.locals->X.s₀.heap.objs.size<=C->(∀y c,X.env.cells.lookup y=some c->c≠C)->(∀p∈X.pn++pins,p.1≠C)->(∃m,s'.heap.Ns C m)->RR (.ref D) C (.ok .next) s') :
    wpAny (model X.prog X.w) X.A (newList []) (fun acc s₃=>wpAny (model X.prog X.w) X.A (newFunctionEnv scope X.env.globals cl [] X.env.qual none .none (some X.env)) (fun cenv s₄ =>
     codeAny (model X.prog X.w) X.A (.compStart (.ListComp elt [⟨.Name x px,iter,ifs,0⟩] scope pos) 0 itv acc { cenv with scope:=relabel scope X.env }) (RR acc cenv.locals) s₄) E s₃) E s₂:=by
 obtain ⟨it,fp,tn,J,H₂,rfl,I2,T,st2,f2,hR⟩:=h
 have ho:∀b∈fp,∃o,s₂.heap.get? b=some o:=fun b hb=>let ⟨o,e,_⟩:=T.obj _ _ st2 b hb; ⟨o,e⟩
 obtain ⟨W,⟨m0,w0⟩,turn⟩:=hR s₂.heap.objs.size (I2.hok.fresh (Nat.le_refl _)) (s₂.heap.objs.size+1) s₂ H₂ fp
 refine wpAny_newObj_type (wpAny_newFunctionEnv O.nocell (by intro y hy; simp at hy) (fun h₁ hns₁ hsb₁=>?_) O.kind)
 dsimp only at hns₁ hsb₁ ⊢
 generalize hH2:s₂.heap.push { cls:=.type "list",dict:=none,data:=.seq ([]:List Value).toArray }=HH at hns₁ hsb₁ ⊢
 have hsz:HH.objs.size=s₂.heap.objs.size+1:=by rw[← hH2,Heap.size_push]
 have old:∀b o,s₂.heap.get? b=some o->h₁.get? b=some o:=fun b o e=>by
  refine hsb₁.extBut b o ?_ (Heap.get?_push_of_some _ (hH2 ▸ Heap.get?_push_of_some _ e))
  rw[hsz]
  exact Nat.ne_of_lt (Nat.lt_succ_of_lt (Heap.lt_size e))
 have hD:h₁.get? s₂.heap.objs.size=some { cls:=.type "list",data:=.seq ([]:List Value).toArray }:=by
  refine hsb₁.extBut _ _ ?_ (Heap.get?_push_of_some _ (hH2 ▸ Heap.get?_push_size _ rfl))
  rw[hsz]
  exact Nat.ne_of_lt (Nat.lt_succ_self _)
 rw[hsz]at hns₁
 show codeAny _ _ (.compStart _ 0 (.ref it) (.ref s₂.heap.objs.size) (compEnvC scope cl HH.objs.size X.env)) (RR (.ref s₂.heap.objs.size) HH.objs.size) _
 rw[hsz]
 have I3:=O.start I2 f2 ho (tk:=s₂.toks+([]:List (Str × Value)).length) hns₁ old hD
 have st3:tn 0 h₁:=T.keep 0 _ _ st2 fun b hb o e=>old b o e
 have fpD:∀b∈fp,b≠s₂.heap.objs.size:=fun b hb=>by obtain ⟨o,e⟩:=ho b hb; exact Nat.ne_of_lt (Heap.lt_size e)
 have stat:∀{pl:List (Addr × Obj)} {H':Hp},(∀b∈fp,H' b=none)->(∀p∈pl,∀b∈fp,p.1≠b)->∀b∈fp,TM (Yw X scope cl x cn (s₂.heap.objs.size+1) s₂ H₂ fp) pl H' b:=fun {pl H'} hn hp b hb =>
  ⟨hn b hb,(I3.ok.exf b hb).1,fun hm=>I3.ok.exfs b hb hm,.inl hb,(I3.ok.exf b hb).2,fun p hpm=>hp p (by simpa using hpm) b hb⟩
 have loop : ∀ s₃ : Shared,s₃ = { s₂ with heap:=h₁,toks:=s₂.toks + ([] : List (Str × Value)).length } ->
     codeAny (model X.prog X.w) X.A (.compLoop (.ListComp elt [⟨.Name x px,iter,ifs,0⟩] scope pos) 0 (.ref it) (.ref s₂.heap.objs.size) (compEnvC scope cl (s₂.heap.objs.size+1) X.env)) (RR (.ref s₂.heap.objs.size) (s₂.heap.objs.size+1)) s₃:=by
  rintro s₃ rfl
  refine QU (fun n s'=>∃i ys v H',Inv (Yw X scope cl x cn (s₂.heap.objs.size+1) s₂ H₂ fp) [] (Y2 js v σ) H' s'∧tn i s'.heap∧(∀b∈fp,H' b=none)∧W i n ys H') ?_ m0
   ⟨0,[],none,_,I3,st3,fun b hb=>by rw[Zp (fpD b hb)]; exact (f2 b hb).1,w0⟩
  rintro n s4 ⟨i,ys,v4,H4,I4,st4,fr4,w4⟩
  obtain ⟨hD4,tr⟩:=turn i n ys H4 w4
  rcases tr with ⟨stop,qn⟩|⟨go,step⟩
  ·refine wpAny_mono (T.done (Yw X scope cl x cn (s₂.heap.objs.size+1) s₂ H₂ fp) rfl rfl rfl hc i [] s4 _ H4 (fun _ _=>False) I4 (stat fr4 (fun _ z=>nomatch z)) st4 stop) (fun r s5 ⟨hr,I5⟩=>?_) fun _ _ q=>q
   subst hr
   have I6:Inv X pins σ H4 s5:=I2.call' (ch:=fp) I5.os I5.base I5.hok I5.bare fun b hb=>⟨(f2 b hb).2.2.2.1,(f2 b hb).2.1,(f2 b hb).2.2.2.2.1,(f2 b hb).2.2.2.2.2⟩
   obtain ⟨m,hn,_⟩:=I5.loc
   refine hRR _ _ H4 s5 I6 qn I5.free (Nat.ne_of_gt (Nat.lt_succ_of_lt I2.lt)) (Nat.le_succ_of_le I2.sz) (fun y c e z=>?_) (fun p hp z=>?_) ⟨m,hn⟩
   ·obtain ⟨v,o,ho',_⟩:=I2.cell y c e
    exact absurd (Heap.lt_size ho') (by rw[z]; exact Nat.not_lt.mpr (Nat.le_succ _))
   ·exact absurd (Heap.lt_size (I2.pin p hp).1) (by rw[z]; exact Nat.not_lt.mpr (Nat.le_succ _))
  ·refine wpAny_mono (T.item (Yw X scope cl x cn (s₂.heap.objs.size+1) s₂ H₂ fp) rfl rfl rfl hc i [] s4 _ H4 (fun _ _=>False) I4 (stat fr4 (fun _ z=>nomatch z)) st4 go) (fun r s4' ⟨u,hr,h5⟩=>?_) fun _ _ q=>q
   subst hr
   refine wpAny_mono h5 (fun _ s5 ⟨x5,H5,I5,r5,y5,st5,fr5⟩=>?_) fun _ _ q=>q
   have I5p:=I5.pinned (stat fr5 (fun _ z=>nomatch z)) (T.obj _ _ st5)
   refine wpAny_assign_Name (Us (X:=Yw X scope cl x cn (s₂.heap.objs.size+1) s₂ H₂ fp) (i:=0) (E:=fun _ _=>False) I5p O.nd rfl (.inl (lookup_relabel_local O.hx)) r5 (fun s6 I6=>?_) (.inr (lookup_relabel_local O.hx)))
   have I6:Inv (Yw X scope cl x cn (s₂.heap.objs.size+1) s₂ H₂ fp) ([]++VT fp s5.heap) (Y2 js (some x5) σ) H5 s6:=I6
   have again:∀{s7:Shared} {H7:Hp},Inv (Yw X scope cl x cn (s₂.heap.objs.size+1) s₂ H₂ fp) ([]++VT fp s5.heap) (Y2 js (some x5) σ) H7 s7->tn (i+1) s7.heap∧∀b∈fp,H7 b=none:=fun {s7 H7} I7=>by
    refine ⟨T.keep _ _ _ st5 fun b hb o e=>(I7.pin (b,o) (List.mem_append_right _ (List.mem_append_right _ (WV hb e)))).1,fun b hb=>?_⟩
    obtain ⟨o,e,d⟩:=T.obj _ _ st5 b hb
    exact (I7.pin (b,o) (List.mem_append_right _ (List.mem_append_right _ (WV hb e)))).2.1
   refine wpAny_mono (ht _ _ _ _ _ s6 _ H5 _ I6 (step x5 H5 y5)) (fun ok s7 ⟨H7,I7,q7⟩=>?_) fun _ _ q=>q
   cases ok with
   |false =>
    rw[if_neg Bool.false_ne_true]
    rw[if_neg Bool.false_ne_true]at q7
    obtain ⟨m',hm,w7⟩:=q7
    obtain ⟨st7,fr7⟩:=again I7
    exact ⟨m',hm,i+1,ys,some x5,H7,I7.unpinned,st7,fr7,w7⟩
   |true =>
    rw[if_pos rfl]
    rw[if_pos rfl]at q7
    refine wpAny_mono (he _ _ _ _ _ s7 _ H7 _ I7 q7) (fun u8 s8 ⟨v8,H8,I8,r8,hD8,hz8,m',hm,w8⟩=>?_) fun _ _ q=>q
    obtain ⟨st8,fr8⟩:=again I8
    obtain ⟨z8,its,k8,rv8,e8⟩:=I8.hok _ _ hD8
    have hl8:=rv8.length
    refine append_at (E:=fun _ _=>False) (hsz:=by rw[List.size_toArray]; omega) e8 fun h9 hs9 e9=>?_
    have I9:Inv (Yw X scope cl x cn (s₂.heap.objs.size+1) s₂ H₂ fp) ([]++VT fp s5.heap) (Y2 js (some x5) σ) (upd H8 s₂.heap.objs.size (.lst (ys++[v8]))) { s8 with heap:=h9 }:=by
     refine I8.write (x:=s₂.heap.objs.size) (e:=s₂.heap.objs.size) (t':=s8.toks) (by rw[hD8]; exact True.intro) (.inl rfl) (fun b u hb q=>(hs9.2 b hb).trans q) ⟨_,e9⟩ ?_
     refine ⟨by rw[List.length_append,List.length_singleton]; omega,its++[u8],k8+1,rv8.append (.cons r8 .nil),?_⟩
     rw[e9,List.push_toArray]
    obtain ⟨st9,fr9⟩:=again I9
    exact ⟨m',hm,i+1,ys++[v8],some x5,_,I9.unpinned,st9,fr9,w8⟩
 exact codeAny_compStart_list (loop _ rfl) (T.self _ 0 _ _ _ st3 (loop _ rfl))
theorem NC (O:CompOk X scope cl x cn js) (hc:X.calm=true) (hi:PI X (.Name x px) iter wi) (ht:∀C s₂ H₂ fp,SU (Yw X scope cl x cn C s₂ H₂ fp) ifs (tc C s₂ H₂ fp)) (he:∀C s₂ H₂ fp,PE (Yw X scope cl x cn C s₂ H₂ fp) elt (te C s₂ H₂ fp))
    (hs:∀v,foldedSetIterable iter X.env v=pure v:=by intro _; rfl):PE X (.ListComp elt [⟨.Name x px,iter,ifs,0⟩] scope pos) (OR wi js tc te):=by
 intro pins s σ H Q I h
 rw[eval_ListComp]
 refine wpAny_comprehension_free (use:=none) rfl hs O.clos O.kind O.names (thn (hi pins s σ H _ I h) fun v s1 h1=>thn h1 fun itv s2 h2=>?_)
 refine Sy O hc ht he (R:=Q) (RR:=fun acc C=>compPost (model X.prog X.w) X.A X.xe none (EP X pins σ Q) acc C) h2 ?_
 intro D C H' s' I' q hC hL h0 hcl hp ⟨m,hn⟩
 refine ⟨m,hn,fun h'' hs''=>⟨.ref D,H',?_,rfl,q⟩⟩
 exact I'.turned (t':=s'.toks) (fun b o hb e=>(hs''.2 b hb).trans e) hC hL (.inr h0) hcl hp
def Lb (j:Nat) (wi:TI) (js:List Nat) (tc:Addr->Shared->Hp->List Addr->TT) (te:Addr->Shared->Hp->List Addr->TE):TS:=fun D σ H=>OR wi js tc te σ H fun v H1=>D.nx (σ.set j (some v)) H1
theorem Oy {j:Nat} {y:Str} {py spos:Pos} (O:CompOk X scope cl x cn js) (hc:X.calm=true) (hi:PI X (.Name x px) iter wi) (ht:∀C s₂ H₂ fp,SU (Yw X scope cl x cn C s₂ H₂ fp) ifs (tc C s₂ H₂ fp)) (he:∀C s₂ H₂ fp,PE (Yw X scope cl x cn C s₂ H₂ fp) elt (te C s₂ H₂ fp))
    (hN:X.N.Nodup) (hj:X.N[j]?=some y) (hy:Loc X.env.scope y) (hsw:swapsWith (.ListComp elt [⟨.Name x px,iter,ifs,0⟩] scope pos) (some (.Name y py)) spos.line X.env=pure true)
    (hs:∀v,foldedSetIterable iter X.env v=pure v:=by intro _; rfl) (hf:X.fn y=true∨X.env.scope.names.lookup y=some .local:=by first|exact .inl rfl|exact .inr rfl) :
    PS X (.Assign [.Name y py] (.ListComp elt [⟨.Name x px,iter,ifs,0⟩] scope pos) spos) (Lb j wi js tc te):=by
 intro pins s σ H D I h
 rw[exec_Assign_Name_used _ _ _ _ hsw]
 refine wpAny_bind (wpAny_standAt (wpAny_bind ?_))
 show wpAny _ X.A (do let _ ← comprehension (.ListComp elt [⟨.Name x px,iter,ifs,0⟩] scope pos) scope X.env _ (newList []) false (eval iter X.env) (some (assign (.Name y py) X.env))) _ _ s
 refine wpAny_bind (wpAny_mono (wpAny_comprehension_free (use:=some (assign (.Name y py) X.env)) (Q:=fun _ s'=>SP X pins D .next s') rfl hs O.clos O.kind O.names
  (thn (hi pins s σ H _ I h) fun v s1 h1=>thn h1 fun itv s2 h2=>?_)) (fun _ s' hq=>wpAny_pure (wpAny_pure hq)) fun _ _ e=>e)
 refine Sy O hc ht he (R:=fun v H1=>D.nx (σ.set j (some v)) H1) (RR:=fun acc C=>compPost (model X.prog X.w) X.A X.xe (some (assign (.Name y py) X.env)) (fun _ s'=>SP X pins D .next s') acc C) h2 ?_
 intro DD C H' s' I' q hC hL h0 hcl hp ⟨m,hn⟩
 show wpAny _ X.A (assign (.Name y py) X.env (.ref DD)) _ _ s'
 refine wpAny_assign_Name (Rr I' hN hj hy (v:=.ref DD) rfl (fun s3 I3 ⟨a,hsb,ha⟩=>?_) hf)
 have nCa:C≠a:=fun z=>by
  rcases ha with e|e
  ·exact hL (z.trans e)
  ·exact hcl _ _ e z.symm
 refine ⟨m,hn.sameBut hsb nCa,fun h'' hs''=>⟨_,H',?_,q⟩⟩
 exact I3.turned (t':=s3.toks) (fun b o hb e=>(hs''.2 b hb).trans e) hC hL (.inr h0) hcl hp
end
open PySem PySem.Spec PyProof.Rows
section
variable {X:Cx} {pins:List (Addr × Obj)} {σ:St} {H:Hp} {s:Shared}
theorem Inv.freeze {d:Addr} {ob:Obj} {ks:List (Key × V)} (I:Inv X pins σ H s) (hd:H d=some (.dK ks)) (ho:s.heap.get? d=some ob):Inv X pins σ (upd H d (.frz ob (.dK ks))) s:=by
 have old:∀b x,H b=some x->(∀ys,x≠.dK ys)->upd H d (.frz ob (.dK ks)) b=some x:=fun b x e n=>by
  have hb:b≠d:=fun z=>by rw[z,hd]at e; exact n ks (Option.some.inj e).symm
  rw[Zp hb]; exact e
 have ow:∀b a,H b=some (.own a)->upd H d (.frz ob (.dK ks)) b=some (.own a):=fun b a e=>old b _ e fun _ z=>by cases z
 have tu:∀b xs,H b=some (.tup xs)->upd H d (.frz ob (.dK ks)) b=some (.tup xs):=fun b a e=>old b _ e fun _ z=>by cases z
 refine I.un (h':=s.heap) (t':=s.toks) (H':=upd H d (.frz ob (.dK ks))) ⟨fun b o e n _ _=>e,fun b o e n _ _=>⟨o.slots,e⟩,fun b o e n _=>?_,fun b o e _=>⟨o,e⟩,tu,fun b o u e=>old b _ e (fun _ z=>by cases z),fun b ps e=>⟨#[],?_⟩⟩ (fun b x e=>?_)
 ·rw[Zp (Ne.symm (Z0 hd n))]; exact n
 ·rw[Array.append_empty]; exact old b _ e (fun _ z=>by cases z)
 ·by_cases hb:b=d
  ·rw[hb,Zz]at e
   cases e
   rw[hb]
   exact ⟨ho,(I.hok d _ hd).stay (fun _ _ _ q=>q) (fun c q=>ow c _ q) fun c xs q=>tu c xs q⟩
  ·rw[Zp hb]at e
   exact (I.hok b x e).stay (fun _ _ _ q=>q) (fun c q=>ow c _ q) fun c xs q=>tu c xs q
theorem Inv.nofrz {d:Addr} {ks:List (Key × V)} (I:Inv X pins σ H s) (hd:H d=some (.dK ks)):∀o u,X.H₀ d≠some (.frz o u):=fun o u z=>by
 have:=I.base.frzs d o u z
 rw[hd]at this; cases this
theorem Inv.thaw {d:Addr} {ob:Obj} {ks:List (Key × V)} (I:Inv X pins σ H s) (hd:H d=some (.frz ob (.dK ks))) (nf:∀o u,X.H₀ d≠some (.frz o u)):Inv X pins σ (upd H d (.dK ks)) s:=by
 have old:∀b x,H b=some x->b≠d->upd H d (.dK ks) b=some x:=fun b x e n=>by rw[Zp n]; exact e
 have nn:∀b,H b=none->upd H d (.dK ks) b=none:=fun b n=>by rw[Zp (Ne.symm (Z0 hd n))]; exact n
 have tu:∀b xs,H b=some (.tup xs)->upd H d (.dK ks) b=some (.tup xs):=fun b xs e=>old b _ e fun z=>by rw[z,hd]at e; cases e
 have ow:∀b a,H b=some (.own a)->upd H d (.dK ks) b=some (.own a):=fun b xs e=>old b _ e fun z=>by rw[z,hd]at e; cases e
 refine ⟨I.ok,I.os,I.bare,⟨I.base.keep,I.base.slot,fun b o e n hx=>nn b (I.base.free b o e n hx),I.base.there,fun b xs e=>tu b xs (I.base.tups b xs e),fun b o u e=>old b _ (I.base.frzs b o u e) (fun z=>nf o u (z ▸ e)),fun b ps e=>?_⟩,
  I.loc,I.cell,nn _ I.free,fun x c e=>nn c (I.freeC x c e),fun p hp=>?_,fun b x e=>?_,I.len⟩
 ·obtain ⟨more,e1⟩:=I.base.tbls b ps e
  exact ⟨more,old b _ e1 fun z=>by rw[z,hd]at e1; cases e1⟩
 ·obtain ⟨h1,h2,h3⟩:=I.pin p hp
  exact ⟨h1,nn _ h2,h3⟩
 ·by_cases hb:b=d
  ·rw[hb,Zz]at e
   cases e
   rw[hb]
   obtain ⟨_,q⟩:=(show s.heap.get? d=some ob∧ObjOk X.prog X.w H s.heap d (.dK ks) from I.hok d _ hd)
   exact q.stay (fun _ _ _ q=>q) (fun c q=>ow c _ q) fun c xs q=>tu c xs q
  ·rw[Zp hb]at e
   exact (I.hok b x e).stay (fun _ _ _ q=>q) (fun c q=>ow c _ q) fun c xs q=>tu c xs q
end
theorem KY {k:Key} {v:Value} (h:TW k v=true):RelV (kV k) v:=by
 rcases Yp h with ⟨i,t,rfl,rfl⟩|⟨x,t,rfl,rfl⟩
 ·exact ⟨t,rfl⟩
 ·exact ⟨t,rfl⟩
theorem Nr {α γ:Type} {R:α->γ->Prop}:∀{xs:List α} {ys:List γ} {i:Nat} {x:α} {y:γ},Paired R xs ys->xs[i]?=some x->ys[i]?=some y->R x y
 |_,_,_,_,_,.nil,e,_=>by simp at e
 |_,_,0,_,_,.cons h _,e1,e2=>by simp at e1 e2; subst e1 e2; exact h
 |_,_,i+1,_,_,.cons _ r,e1,e2=>Nr (i:=i) r (by simpa using e1) (by simpa using e2)
def Itd (d:Addr) (ob:Obj) (ks:List (Key × V)):It :=
 ⟨fun i H=>H d=some (.frz ob (.dK ks))∧i < ks.length,fun i H x H'=>H'=H∧∃p,ks[i]?=some p∧x=kV p.1,fun i H=>H d=some (.frz ob (.dK ks))∧ks.length<=i⟩
def TnD (d:Addr) (ob:Obj) (it:Addr) (i:Nat) (h:Heap):Prop:=∃es ep,h.IsKeyIter it d i es.size ep∧ob.data=.dict es ep
theorem Iy {P:Program} {w:World} {H:Hp} {h:Heap} {d:Addr} {ob:Obj} {ks:List (Key × V)} {es:Array DictEntry} {ep:Nat} (ok:HOk P w H h) (hd:H d=some (.frz ob (.dK ks))) (hdat:ob.data=.dict es ep) :
    ∃ws,KV ks ws∧h.DictAt (Z2 P w) d ws ep∧es.size=ws.length:=by
 obtain ⟨ho,z,hS,ws,r,m⟩:=(show h.get? d=some ob∧ks.length<=sizeLine∧(d == sysModules)=false∧∃vs,KV ks vs∧h.DictOf (Z2 P w) d vs from ok d _ hd)
 obtain ⟨o',es',ep',ho',hex,hdat',hk,hp,hn⟩:=m
 rw[ho]at ho'
 cases ho'
 rw[hdat]at hdat'
 injection hdat' with e1 e2
 subst e1 e2
 refine ⟨ws,r,⟨ob,es,ho,hex,hdat,hk,hp,hn⟩,?_⟩
 have:=hp.length
 simpa using this
theorem RS {P:Program} {w:World} {K:PySem.W.Frag} {tg:Expr} (d it:Addr) (ob:Obj) (ks:List (Key × V)):Turn P w K tg (Itd d ob ks) [it] it (TnD d ob it) where
 mem:=by simp
 obj:=fun i h ⟨es,ep,st,_⟩ b hb=>by
  have e:b=it:=by simpa using hb
  subst e
  obtain ⟨o,e,c,d⟩:=st
  exact ⟨o,e,fun v z=>by rw[d]at z; cases z⟩
 keep:=fun i h h' ⟨es,ep,⟨o,e,c,q⟩,hd⟩ k=>⟨es,ep,⟨o,k it (by simp) o e,c,q⟩,hd⟩
 item:=by
  intro X hP hw hK hc i pins s σ H E I hf st hg
  subst hP hw hK
  obtain ⟨hd,hi⟩:=hg
  obtain ⟨es,ep,hit,hdat⟩:=st
  obtain ⟨ws,r,hm,hsz⟩:=Iy I.hok hd hdat
  have hl:ks.length=ws.length:=r.length
  have hiw:i < ws.length:=by omega
  obtain ⟨f0,f1,f2,f3,f4,f5⟩:=hf it (by simp)
  rw[hsz]at hit
  refine wpAny_pyNext_dict_item (knd:=Z2 X.prog X.w) (kvs:=ws) (k:=ws[i].1) (v:=ws[i].2) hit hm (List.getElem?_eq_getElem hiw) fun key h' hkey hit' sb=>?_
  have I1:Inv X pins σ H { s with heap:=h' }:=I.turned (t':=s.toks) (fun b o hb e=>(sb.2 b hb).trans e) f0 f1 f3 f4 f5
  obtain ⟨oi,e1,c1,d1⟩:=id hit'
  obtain ⟨g1,_⟩:=Nr r (List.getElem?_eq_getElem hi) (List.getElem?_eq_getElem hiw)
  refine ⟨key,rfl,Ka (s:={ s with heap:=h' }) e1 c1 d1 (by decide) ⟨kV ks[i].1,H,I1,?_,⟨rfl,ks[i],List.getElem?_eq_getElem hi,rfl⟩,⟨es,ep,by rw[hsz]; exact hit',hdat⟩,fun b hb=>(hf b hb).1⟩⟩
  rw[g1]
  exact KY hkey
 done:=by
  intro X hP hw hK hc i pins s σ H E I hf st hg
  subst hP hw hK
  obtain ⟨hd,hi⟩:=hg
  obtain ⟨es,ep,hit,hdat⟩:=st
  obtain ⟨ws,r,hm,hsz⟩:=Iy I.hok hd hdat
  have hl:ks.length=ws.length:=r.length
  obtain ⟨f0,f1,f2,f3,f4,f5⟩:=hf it (by simp)
  rw[hsz]at hit
  exact wpAny_pyNext_dict_end (knd:=Z2 X.prog X.w) (kvs:=ws) (I.ok.hd hc) hit hm (List.getElem?_eq_none (by omega)) fun h' eb=>⟨rfl,I.turned (t':=s.toks) (fun b o hb e=>eb b o hb e) f0 f1 f3 f4 f5⟩
 self:=fun _ _ _ _ _ ⟨_,_,st,_⟩ h=>wpAny_pyIter_keyiter st h
section
variable {X:Cx} {tg:Expr}
def IF (X:Cx) (tl:TE):TI:=fun σ H R=>tl σ H fun x H1=>∃d ks,x=.ref d∧((H1 d=some (.dK ks)∧∀ob,(∀o u,X.H₀ d≠some (.frz o u))->R (Itd d ob ks) (upd H1 d (.frz ob (.dK ks))))∨∃ob,H1 d=some (.frz ob (.dK ks))∧R (Itd d ob ks) H1)
theorem K8 {l:Expr} {tl:TE} (hl:PE X l tl):PI X tg l (IF X tl):=by
 intro pins s σ H R I h
 refine thn (hl pins s σ H _ I h) fun v s1 ⟨x,H1,I1,r1,q1⟩=>?_
 obtain ⟨d,ks,e,q⟩:=q1
 subst e
 cases r1
 rcases q with ⟨hd,q⟩|⟨ob,hd,q⟩
 ·obtain ⟨z,hS,ws,r,m⟩:=(show ks.length<=sizeLine∧(d == sysModules)=false∧∃vs,KV ks vs∧s1.heap.DictOf (Z2 X.prog X.w) d vs from I1.hok d _ hd)
  obtain ⟨ob,es,ep,ho,hex,hdat,hk,hp,hn⟩:=m
  have hsz:es.size=ws.length:=by have:=hp.length; simpa using this
  have I2:=I1.freeze hd ho
  refine wpAny_pyIter_dict (knd:=Z2 X.prog X.w) (kvs:=ws) (ep:=ep) hS ⟨ob,es,ho,hex,hdat,hk,hp,hn⟩ ?_
  refine ⟨s1.heap.objs.size,[s1.heap.objs.size],_,_,_,rfl,I2.kept (t':=s1.toks) fun b o e=>Heap.get?_push_of_some _ e,RS d _ ob ks,⟨es,ep,⟨_,Heap.get?_push_size _ rfl,rfl,by rw[hsz]; rfl⟩,hdat⟩,fun b hb=>?_,q ob (I1.nofrz hd)⟩
  have e:b=s1.heap.objs.size:=by simpa using hb
  subst e
  exact I2.fpOk (Nat.le_refl _) (I2.hok.fresh (Nat.le_refl _))
 ·obtain ⟨ho,z,hS,ws,r,m⟩:=(show s1.heap.get? d=some ob∧ks.length<=sizeLine∧(d == sysModules)=false∧∃vs,KV ks vs∧s1.heap.DictOf (Z2 X.prog X.w) d vs from I1.hok d _ hd)
  obtain ⟨ob',es,ep,ho',hex,hdat,hk,hp,hn⟩:=m
  rw[ho]at ho'
  cases ho'
  have hsz:es.size=ws.length:=by have:=hp.length; simpa using this
  refine wpAny_pyIter_dict (knd:=Z2 X.prog X.w) (kvs:=ws) (ep:=ep) hS ⟨ob,es,ho,hex,hdat,hk,hp,hn⟩ ?_
  refine ⟨s1.heap.objs.size,[s1.heap.objs.size],_,_,_,rfl,I1.kept (t':=s1.toks) fun b o e=>Heap.get?_push_of_some _ e,RS d _ ob ks,⟨es,ep,⟨_,Heap.get?_push_size _ rfl,rfl,by rw[hsz]; rfl⟩,hdat⟩,fun b hb=>?_,q⟩
  have e:b=s1.heap.objs.size:=by simpa using hb
  subst e
  exact I1.fpOk (Nat.le_refl _) (I1.hok.fresh (Nat.le_refl _))
def Thawed (X:Cx) (Q:Hp->Prop) (H2:Hp):Prop:=(∃d ob ks,(∀o u,X.H₀ d≠some (.frz o u))∧H2 d=some (.frz ob (.dK ks))∧Q (upd H2 d (.dK ks)))∨Q H2
theorem Thawed.inv {Q:Hp->Prop} {pins:List (Addr × Obj)} {σ:St} {H:Hp} {s:Shared} (h:Thawed X Q H) (I:Inv X pins σ H s):∃H',Inv X pins σ H' s∧Q H':=by
 rcases h with ⟨d,ob,ks,nf,hd,q⟩|q
 ·exact ⟨_,I.thaw hd nf,q⟩
 ·exact ⟨H,I,q⟩
theorem K4 {e:Expr} {t:TE} (h:PE X e t):PE X e (fun σ H Q=>t σ H fun v=>Thawed X (Q v)):=fun pins s σ H Q I q =>
 thn (h pins s σ H _ I q) fun v s1 ⟨x,H1,I1,r1,q1⟩=>let ⟨H2,I2,q2⟩:=q1.inv I1; ⟨x,H2,I2,r1,q2⟩
theorem Q6:∀{xs:List V} {us:List Value} {ns:List Int},xs=ns.map V.int->Vals xs us->IntsAre us ns
 |_,_,[],e,r=>by subst e; cases r; exact .nil
 |_,_,n::ns,e,r=>by
  subst e
  cases r with
  |cons h r =>
   obtain ⟨t,rfl⟩:=(show ∃t,_=Value.int n t from h)
   exact .cons n t (Q6 rfl r)
theorem OO:∀{us:List Value} {ns:List Int},IntsAre us ns->Vals (ns.map V.int) us
 |_,_,.nil=>.nil
 |_,_,.cons n t r=>.cons ⟨t,rfl⟩ (OO r)
def MV (K:PySem.W.Frag):List V->Hp->VK->Prop:=fun xs H Q=>∃(l:Addr) (ns:List Int),xs=[.ref l]∧SqL K H l (ns.map V.int)∧ns.length < 64∧∀(p:Addr) (ms:List Int),ms.Perm ns->ms.Pairwise (·<=·)->H p=none->Q (.ref p) (upd H p (.lst (ms.map V.int)))
theorem P3:CallR X (.builtin "sorted") (MV X.K):=by
 intro pins s σ H xs us Q I r h
 obtain ⟨l,ns,rfl,hl,h64,q⟩:=h
 obtain ⟨u,rfl,ru⟩:=Py r
 cases (show u=Value.ref l from ru)
 obtain ⟨its,rv,p,hz⟩:=I.list hl
 have hI:=Q6 rfl rv
 have hlen:its.length=ns.length:=by have:=rv.length; rw[List.length_map]at this; exact this.symm
 refine sorted_ints (vs:=its) (ns:=ns) p.isList hI (by omega) fun out ms a1 a2 a3=>?_
 obtain ⟨e,he⟩:=sortedAll_at s.heap its out
 refine ⟨.ref (s.heap.objs.size+1),_,I.laid (o:=.lst (ms.map V.int)) (t':=s.toks) (fun _ _=>sortedAll_old) (Nat.le_succ _) ?_,rfl,q _ ms a2 a3 (I.hok.fresh (Nat.le_succ _))⟩
 have hl2:ms.length=ns.length:=a2.length_eq
 refine ⟨by rw[List.length_map,sizeLine_eq]; omega,out.toList,e,OO a1,?_⟩
 rw[he]
end
open PySem PySem.Spec PyProof.Rows
abbrev NA (X:Cx) (scope:Scope) (cl:List (Str × Addr)) (xs cn:List Str) (C:Addr) (s₂:Shared) (H₂:Hp) (fp:List Addr):Cx where
 prog:=X.prog
 w:=X.w
 K:=X.K
 mg:=X.mg
 base:=X.base
 A:=X.A
 N:=xs++cn
 s₀:=s₂
 H₀:=H₂
 env:=compEnvC scope cl C X.env
 outer:=X.stack
 stack:=X.stack
 ex:=fp
 fn:=fun _=>false
 calm:=X.calm
 pn:=[]
 xe:=fun _ _=>False
def Hu (js:List Nat) (σ:St):St:=js.map fun j=>(σ[j]?).join
structure CompOkT (X:Cx) (scope:Scope) (cl:List (Str × Addr)) (xs cn:List Str) (js:List Nat):Prop where
 clos:closureFor scope X.env=pure cl
 nocell:∀y∈scope.names,y.2≠.cell
 kind:scope.kind=.function
 names:∀y∈scope.names,y.2=.local->scope.names.lookup y.1=some .local
 sub:∀y c,cl.lookup y=some c->X.env.cells.lookup y=some c
 has:∀p∈(relabel scope X.env).names,p.2=.cell∨p.2=.free->∃c,cl.lookup p.1=some c
 cap:∀(k:Nat) y,cn[k]?=some y->∃j,js[k]?=some j∧X.N[j]?=some y∧Vis X.env.scope y∧(X.env.kindOf y=some .cell∨X.env.kindOf y=some .free)∧((compEnvC scope cl 0 X.env).kindOf y=some .cell∨(compEnvC scope cl 0 X.env).kindOf y=some .free)
 len:js.length=cn.length
 nd:(xs++cn).Nodup
section
variable {X:Cx} {scope:Scope} {cl:List (Str × Addr)} {xs cn:List Str} {js:List Nat} {pins:List (Addr × Obj)} {σ:St} {H₂:Hp} {s₂:Shared} {fp:List Addr}
theorem CompOkT.ok (O:CompOkT X scope cl xs cn js) (I:Inv X pins σ H₂ s₂) (hf:∀b∈fp,TM X pins H₂ b) {C:Addr} (hC:s₂.heap.objs.size<=C) (ho:∀b∈fp,∃o,s₂.heap.get? b=some o):(NA X scope cl xs cn C s₂ H₂ fp).Ok where
 mod:=I.mod
 kind:=by show (relabel scope X.env).kind=.function; exact O.kind
 glob:=I.ok.glob
 blt:=I.ok.blt
 above:=hC
 inj:=fun y z c h1 h2=>I.ok.inj y z c (O.sub y c h1) (O.sub z c h2)
 has:=fun y hy=>by
  have hy:(relabel scope X.env).names.lookup y=some .cell∨(relabel scope X.env).names.lookup y=some .free:=hy
  rcases hy with hy|hy
  ·exact O.has _ (PySem.mem_of_lookup hy) (.inl rfl)
  ·exact O.has _ (PySem.mem_of_lookup hy) (.inr rfl)
 cab:=fun _ _ h=>(by cases h)
 hd:=I.ok.hd
 frames:=I.ok.frames
 stk:=.inl rfl
 exf:=fun b hb=>by
  obtain ⟨o,e⟩:=ho b hb
  exact ⟨Nat.ne_of_lt (Nat.lt_of_lt_of_le (Heap.lt_size e) hC),fun y c h=>(hf b hb).2.2.2.2.1 y c (O.sub y c h)⟩
 bs:=I.bs
 bsz:=Nat.le_trans I.ok.bsz I.sz
 noex:=fun b o e hb=>by
  rcases (hf b hb).2.2.2.1 with z|z
  ·exact I.ok.noex b o e z
  ·exact absurd (Nat.lt_of_lt_of_le (Heap.lt_size e) (Nat.le_trans I.ok.bsz z)) (Nat.lt_irrefl _)
 exfs:=fun b hb hm=>(List.mem_cons.mp (I.stkSub b hm)).elim (hf b hb).2.1 (hf b hb).2.2.1
 funs:=I.stack
 frf:=I.stkFree
theorem CompOkT.start (O:CompOkT X scope cl xs cn js) (I:Inv X pins σ H₂ s₂) (hf:∀b∈fp,TM X pins H₂ b) (ho:∀b∈fp,∃o,s₂.heap.get? b=some o) {h₁:Heap} {m:Str->Option Value} {tk:Nat}
    (hns:h₁.Ns (s₂.heap.objs.size+1) m) (hk:∀b o,s₂.heap.get? b=some o->h₁.get? b=some o) (hD:h₁.get? s₂.heap.objs.size=some { cls:=.type "list",data:=.seq ([]:List Value).toArray }) :
    Inv (NA X scope cl xs cn (s₂.heap.objs.size+1) s₂ H₂ fp) [] (List.replicate xs.length none++Hu js σ) (upd H₂ s₂.heap.objs.size (.lst [])) { s₂ with heap:=h₁,toks:=tk }:=by
 have fD:H₂ s₂.heap.objs.size=none:=I.hok.fresh (Nat.le_refl _)
 have fC:H₂ (s₂.heap.objs.size+1)=none:=I.hok.fresh (Nat.le_succ _)
 have neD:s₂.heap.objs.size+1≠s₂.heap.objs.size:=Nat.succ_ne_self _
 obtain ⟨m0,hn0,hl0⟩:=I.loc
 refine ⟨O.ok I hf (Nat.le_succ _) ho,rfl,I.bare,?_,⟨m,hns,fun i y v e1 e2 e3=>?_⟩,fun y c e=>?_,?_,fun y c e=>?_,(fun p hp=>nomatch hp),?_,?_⟩
 ·exact Un.laid hk (Nat.le_refl _) fD
 ·have hi:xs.length<=i:=by
   by_cases h:i < xs.length
   ·rw[List.getElem?_append_left (by simpa using h),List.getElem?_replicate,if_pos h]at e2
    cases e2
   ·omega
  rw[List.getElem?_append_right (by simpa using hi),List.length_replicate]at e2
  have e1:cn[i - xs.length]?=some y:=by
   have e1:(xs++cn)[i]?=some y:=e1
   rw[List.getElem?_append_right hi]at e1
   exact e1
  ·obtain ⟨j,hj,hjN,hvis,hcell,hk2⟩:=O.cap _ y e1
   have e4:(σ[j]?).join=some v:=by
    have z:(js.map fun j=>(σ[j]?).join)[i - xs.length]?=some (some v):=e2
    rw[List.getElem?_map,hj]at z
    simpa using z
   have e5:σ[j]?=some (some v):=by
    cases q:σ[j]? with
    |none=>rw[q]at e4; cases e4
    |some o=>rw[q]at e4; simp at e4; rw[e4]
   obtain ⟨u,r,l⟩:=hl0 j y v hjN e5 hvis
   refine ⟨u,r,.inr ⟨hk2,?_⟩⟩
   rcases l with ⟨kl,_⟩|⟨_,c,ec,z⟩
   ·rcases hcell with q|q
    ·rw[kl]at q; cases q
    ·rw[kl]at q; cases q
   ·have hy:∃c',cl.lookup y=some c':=by
     rcases hk2 with q|q
     ·exact O.has _ (PySem.mem_of_lookup (show (relabel scope X.env).names.lookup y=some .cell from q)) (.inl rfl)
     ·exact O.has _ (PySem.mem_of_lookup (show (relabel scope X.env).names.lookup y=some .free from q)) (.inr rfl)
    obtain ⟨c',hc'⟩:=hy
    have ecc:=O.sub y c' hc'
    rw[ec]at ecc
    cases ecc
    exact ⟨c,hc',z.keeps hk⟩
 ·obtain ⟨v,z⟩:=I.cell y c (O.sub y c e)
  exact ⟨v,z.keeps hk⟩
 ·show upd H₂ s₂.heap.objs.size (.lst []) (s₂.heap.objs.size+1)=none
  rw[Zp neD]; exact fC
 ·obtain ⟨v,o,ho',_⟩:=I.cell y c (O.sub y c e)
  rw[Zp (Nat.ne_of_lt (Heap.lt_size ho'))]
  exact I.freeC y c (O.sub y c e)
 ·exact I.hok.laid hk (Nat.le_refl _) ⟨Nat.zero_le _,[],0,.nil,hD⟩
 ·show (List.replicate xs.length none++Hu js σ).length=(xs++cn).length
  simp[Hu,O.len]
end
section
variable {X:Cx} {scope:Scope} {cl:List (Str × Addr)} {xs cn:List Str} {js:List Nat} {elt iter:Expr} {ifs:List Expr} {tg:Expr} {g:TG} {pos:Pos} {wi:TI} {tc:Addr->Shared->Hp->List Addr->TT} {te:Addr->Shared->Hp->List Addr->TE}
end
open PySem PySem.Spec PyProof.Rows
inductive Wv where
 |non|bl (b:Bool)|int (i:Int)|str (x:Str)|lst (ws:List Wv)|tup (ws:List Wv)|o (h:Nat)|g (a:Addr)
inductive Ob where
 |ins (C:Addr) (fs:List (Str × Wv))|lst (ws:List Wv)|dk (kvs:List (Key × Wv))|dt (kvs:List (List Key × Wv))|exc (C:Addr)|dz (kvs:List (Key × Wv))
section
variable (F:Hp) (β:List Addr)
mutual
inductive RW:Wv->V->Prop
 |non:RW .non .non
 |bl (b:Bool):RW (.bl b) (.bl b)
 |int (i:Int):RW (.int i) (.int i)
 |str (x:Str):RW (.str x) (.str x)
 |lst {a:Addr} {xs:List V} {ws:List Wv} (e:Rd F a (.lst xs)) (r:RWs ws xs):RW (.lst ws) (.ref a)
 |tup {a:Addr} {xs:List V} {ws:List Wv} (e:F a=some (.tup xs)) (r:RWs ws xs):RW (.tup ws) (.ref a)
 |o {h:Nat} {a:Addr} (e:β[h]?=some a):RW (.o h) (.ref a)
 |g (a:Addr):RW (.g a) (.ref a)
inductive RWs:List Wv->List V->Prop
 |nil:RWs [] []
 |cons {w:Wv} {ws:List Wv} {v:V} {vs:List V} (h:RW w v) (r:RWs ws vs):RWs (w::ws) (v::vs)
end
end
structure Gr (F F':Hp) (β β':List Addr):Prop where
 same:Same F F'
 pre:∀(h:Nat) (a:Addr),β[h]?=some a->β'[h]?=some a
theorem Gr.refl (F:Hp) (β:List Addr):Gr F F β β:=⟨Same.refl _,fun _ _ e=>e⟩
theorem Gr.trans {F F1 F2:Hp} {β β1 β2:List Addr} (a:Gr F F1 β β1) (b:Gr F1 F2 β1 β2):Gr F F2 β β2:=⟨a.same.trans b.same,fun h x e=>b.pre h x (a.pre h x e)⟩
theorem Rd.same {H H':Hp} {a:Addr} {u:HO} (s:Same H H') (r:Rd H a u):Rd H' a u:=r.elim (fun e=>.inl (s _ _ e)) fun ⟨o,e⟩=>.inr ⟨o,s _ _ e⟩
mutual
theorem RW.mono {F F':Hp} {β β':List Addr} (g:Gr F F' β β'):∀{w:Wv} {v:V},RW F β w v->RW F' β' w v
 |_,_,.non=>.non
 |_,_,.bl b=>.bl b
 |_,_,.int i=>.int i
 |_,_,.str x=>.str x
 |_,_,.lst e r=>.lst (Rd.same g.same e) (RWs.mono g r)
 |_,_,.tup e r=>.tup (g.same _ _ e) (RWs.mono g r)
 |_,_,.o e=>.o (g.pre _ _ e)
 |_,_,.g a=>.g a
theorem RWs.mono {F F':Hp} {β β':List Addr} (g:Gr F F' β β'):∀{ws:List Wv} {vs:List V},RWs F β ws vs->RWs F' β' ws vs
 |_,_,.nil=>.nil
 |_,_,.cons h r=>.cons (RW.mono g h) (RWs.mono g r)
end
section
variable {F:Hp} {β:List Addr}
theorem RWs.length:∀{ws:List Wv} {vs:List V},RWs F β ws vs->ws.length=vs.length
 |_,_,.nil=>rfl
 |_,_,.cons _ r=>by rw[List.length_cons,List.length_cons,RWs.length r]
theorem RWs.get:∀{ws:List Wv} {vs:List V} {i:Nat} {w:Wv},RWs F β ws vs->ws[i]?=some w->∃v,vs[i]?=some v∧RW F β w v
 |_,_,_,_,.nil,e=>by simp at e
 |_,_,0,_,.cons h _,e=>by simp at e; subst e; exact ⟨_,rfl,h⟩
 |_,_,i+1,w,.cons _ r,e=>by
  obtain ⟨v,h1,h2⟩:=RWs.get (i:=i) (w:=w) r (by simpa using e)
  exact ⟨v,by simpa using h1,h2⟩
theorem RWs.append:∀{ws us:List Wv} {vs xs:List V},RWs F β ws vs->RWs F β us xs->RWs F β (ws++us) (vs++xs)
 |_,_,_,_,.nil,s=>s
 |_,_,_,_,.cons h r,s=>.cons h (RWs.append r s)
theorem RWs.set {w:Wv} {v:V} (h:RW F β w v):∀{ws:List Wv} {vs:List V} (i:Nat),RWs F β ws vs->RWs F β (ws.set i w) (vs.set i v)
 |_,_,_,.nil=>.nil
 |_,_,0,.cons _ r=>.cons h r
 |_,_,i+1,.cons q r=>.cons q (RWs.set h i r)
theorem RWs.take:∀{ws:List Wv} {vs:List V} (n:Nat),RWs F β ws vs->RWs F β (ws.take n) (vs.take n)
 |_,_,0,_=>.nil
 |_,_,_+1,.nil=>.nil
 |_,_,n+1,.cons h r=>.cons h (RWs.take n r)
theorem RWs.drop:∀{ws:List Wv} {vs:List V} (n:Nat),RWs F β ws vs->RWs F β (ws.drop n) (vs.drop n)
 |_,_,0,r=>r
 |_,_,_+1,.nil=>.nil
 |_,_,n+1,.cons _ r=>RWs.drop n r
theorem RWs.rep {ws:List Wv} {vs:List V} (h:RWs F β ws vs):∀k:Nat,RWs F β (List.replicate k ws).flatten (List.replicate k vs).flatten
 |0=>.nil
 |k+1=>by rw[List.replicate_succ,List.replicate_succ,List.flatten_cons,List.flatten_cons]; exact h.append (RWs.rep h k)
end
inductive RK (F:Hp) (β:List Addr) {κ:Type}:List (κ × Wv)->List (κ × V)->Prop
 |nil:RK F β [] []
 |cons {k:κ} {w:Wv} {v:V} {ps:List (κ × Wv)} {qs:List (κ × V)} (h:RW F β w v) (r:RK F β ps qs):RK F β ((k,w)::ps) ((k,v)::qs)
theorem RK.mono {F F':Hp} {β β':List Addr} {κ:Type} (g:Gr F F' β β'):∀{ps:List (κ × Wv)} {qs:List (κ × V)},RK F β ps qs->RK F' β' ps qs
 |_,_,.nil=>.nil
 |_,_,.cons h r=>.cons (h.mono g) (RK.mono g r)
def ObR (F H:Hp) (β:List Addr) (a:Addr):Ob->Prop
 |.ins C fs=>∃dx fs',H a=some (.ins C dx fs')∧RK F β fs fs'
 |.lst ws=>∃xs,H a=some (.lst xs)∧RWs F β ws xs
 |.dk kvs=>∃ks,H a=some (.dK ks)∧RK F β kvs ks
 |.dt kvs=>∃ks,H a=some (.dT ks)∧RK F β kvs ks
 |.exc C=>H a=some (Mo a C)
 |.dz kvs=>∃o ks,H a=some (.frz o (.dK ks))∧RK F β kvs ks
theorem ObR.mono {F F' H H':Hp} {β β':List Addr} {a:Addr} (g:Gr F F' β β') (e:H' a=H a):∀{ob:Ob},ObR F H β a ob->ObR F' H' β' a ob
 |.ins C fs,⟨dx,fs',h,r⟩=>⟨dx,fs',e.trans h,r.mono g⟩
 |.lst ws,⟨xs,h,r⟩=>⟨xs,e.trans h,r.mono g⟩
 |.dk kvs,⟨ks,h,r⟩=>⟨ks,e.trans h,r.mono g⟩
 |.dt kvs,⟨ks,h,r⟩=>⟨ks,e.trans h,r.mono g⟩
 |.exc C,h=>e.trans h
 |.dz kvs,⟨o,ks,h,r⟩=>⟨o,ks,e.trans h,r.mono g⟩
theorem ObR.ex {F H:Hp} {β:List Addr} {a:Addr}:∀{ob:Ob},ObR F H β a ob->∃x,H a=some x
 |.ins C fs,⟨dx,fs',h,r⟩=>⟨_,h⟩
 |.lst ws,⟨xs,h,r⟩=>⟨_,h⟩
 |.dk kvs,⟨ks,h,r⟩=>⟨_,h⟩
 |.dt kvs,⟨ks,h,r⟩=>⟨_,h⟩
 |.exc C,h=>⟨_,h⟩
 |.dz kvs,⟨o,ks,h,r⟩=>⟨_,h⟩
theorem ndx {α:Type} {l:List α} (hN:l.Nodup) {i j:Nat} {x:α} (a:l[i]?=some x) (b:l[j]?=some x):i=j:=by
 obtain ⟨ha,ea⟩:=List.getElem?_eq_some_iff.mp a
 obtain ⟨hb,eb⟩:=List.getElem?_eq_some_iff.mp b
 have hp:=List.pairwise_iff_getElem.mp hN
 rcases Nat.lt_trichotomy i j with h|h|h
 ·exact absurd (ea.trans eb.symm) (hp i j ha hb h)
 ·exact h
 ·exact absurd (eb.trans ea.symm) (hp j i hb ha h)
structure MOk (F H:Hp) (β:List Addr) (om:List Ob):Prop where
 sub:Same F H
 nd:β.Nodup
 len:β.length=om.length
 free:∀(h:Nat) (a:Addr),β[h]?=some a->F a=none
 ob:∀(h:Nat) (a:Addr) (x:Ob),β[h]?=some a->om[h]?=some x->ObR F H β a x
section
variable {F H:Hp} {β:List Addr} {om:List Ob}
theorem MOk.at (M:MOk F H β om) {h:Nat} {x:Ob} (e:om[h]?=some x):∃a,β[h]?=some a∧F a=none∧ObR F H β a x:=by
 have hl:h < β.length:=by rw[M.len]; exact (List.getElem?_eq_some_iff.mp e).1
 have e1:β[h]?=some β[h]:=List.getElem?_eq_getElem hl
 exact ⟨_,e1,M.free h _ e1,M.ob h _ x e1 e⟩
theorem MOk.there (M:MOk F H β om) {h:Nat} {a:Addr} (e:β[h]?=some a):∃x,H a=some x:=by
 have hl:h < om.length:=by rw[← M.len]; exact (List.getElem?_eq_some_iff.mp e).1
 exact (M.ob h a _ e (List.getElem?_eq_getElem hl)).ex
theorem MOk.newF {p:Addr} {o:HO} (M:MOk F H β om) (hp:H p=none):Gr F (upd F p o) β β∧MOk (upd F p o) (upd H p o) β om:=by
 have fp:F p=none:=M.sub.free hp
 have g:Gr F (upd F p o) β β:=⟨fun b u e=>by rw[Zp (Z0 e fp)]; exact e,fun _ _ e=>e⟩
 have ne:∀(h:Nat) (a:Addr),β[h]?=some a->a≠p:=fun h a e z=>by
  obtain ⟨x,hx⟩:=M.there e
  rw[z,hp]at hx; cases hx
 refine ⟨g,fun b u e=>?_,M.nd,M.len,fun h a e=>by rw[Zp (ne h a e)]; exact M.free h a e,fun h a x e1 e2=>(M.ob h a x e1 e2).mono g (Zp (ne h a e1))⟩
 by_cases hb:b=p
 ·subst hb; rw[Zz]at e ⊢; exact e
 ·rw[Zp hb]at e ⊢; exact M.sub b u e
theorem MOk.newO {p:Addr} {o:HO} {x:Ob} (M:MOk F H β om) (hp:H p=none) (hx:∀β',Gr F F β β'->ObR F (upd H p o) β' p x):Gr F F β (β++[p])∧MOk F (upd H p o) (β++[p]) (om++[x])∧(β++[p])[om.length]?=some p:=by
 have fp:F p=none:=M.sub.free hp
 have ne:∀(h:Nat) (a:Addr),β[h]?=some a->a≠p:=fun h a e z=>by
  obtain ⟨y,hy⟩:=M.there e
  rw[z,hp]at hy; cases hy
 have g:Gr F F β (β++[p]):=⟨Same.refl _,fun h a e=>by rw[List.getElem?_append_left (List.getElem?_eq_some_iff.mp e).1]; exact e⟩
 have last:(β++[p])[om.length]?=some p:=by rw[← M.len,List.getElem?_append_right (Nat.le_refl _),Nat.sub_self]; rfl
 have cs:∀(h:Nat) (a:Addr),(β++[p])[h]?=some a->β[h]?=some a∨(h=om.length∧a=p):=fun h a e=>by
  by_cases hl:h < β.length
  ·rw[List.getElem?_append_left hl]at e; exact .inl e
  ·rw[List.getElem?_append_right (by omega)]at e
   have:h - β.length=0:=by
    have:=(List.getElem?_eq_some_iff.mp e).1
    simp at this; omega
   rw[this]at e
   refine .inr ⟨by rw[← M.len]; omega,by simpa using e.symm⟩
 refine ⟨g,⟨fun b u e=>by rw[Zp (Z0 e fp)]; exact M.sub b u e,?_,by simp[M.len],fun h a e=>?_,fun h a y e1 e2=>?_⟩,last⟩
 ·rw[List.nodup_append]
  refine ⟨M.nd,by simp,fun a ha b hb z=>?_⟩
  obtain ⟨i,hi⟩:=List.getElem?_of_mem ha
  exact ne i a hi (z.trans (List.mem_singleton.mp hb))
 ·rcases cs h a e with e|⟨_,rfl⟩
  ·exact M.free h a e
  ·exact fp
 ·rcases cs h a e1 with e|⟨rfl,rfl⟩
  ·have hl:h < om.length:=by rw[← M.len]; exact (List.getElem?_eq_some_iff.mp e).1
   rw[List.getElem?_append_left hl]at e2
   exact (M.ob h a y e e2).mono g (Zp (ne h a e))
  ·rw[List.getElem?_append_right (Nat.le_refl _),Nat.sub_self]at e2
   cases e2
   exact hx _ g
theorem MOk.put {h:Nat} {a:Addr} {o:HO} {x:Ob} (M:MOk F H β om) (e:β[h]?=some a) (hx:ObR F (upd H a o) β a x):MOk F (upd H a o) β (om.set h x):=by
 have fa:=M.free h a e
 refine ⟨fun b u eb=>by rw[Zp (Z0 eb fa)]; exact M.sub b u eb,M.nd,by simp[M.len],M.free,fun j b y e1 e2=>?_⟩
 by_cases hj:j=h
 ·subst hj
  rw[e]at e1; cases e1
  have hl:j < om.length:=by rw[← M.len]; exact (List.getElem?_eq_some_iff.mp e).1
  rw[List.getElem?_set_self hl]at e2
  cases e2
  exact hx
 ·rw[List.getElem?_set_ne (Ne.symm hj)]at e2
  have nb:b≠a:=fun z=>by
   subst z
   exact hj (ndx M.nd e1 e)
  exact (M.ob j b y e1 e2).mono (Gr.refl _ _) (Zp nb)
end
structure Gx (F F' H H':Hp) (β β':List Addr):Prop extends Gr F F' β β' where
 keep:∀b o,H b=some o->b ∉ β->H' b=some o
 there:∀b,H' b=none->H b=none
 new:∀b,b∈β'->b∈β∨H b=none
 fnew:∀b o,F' b=some o->F b=some o∨H b=none
 frz:∀b o u,H b=some (.frz o u)->H' b=some (.frz o u)
theorem Gx.refl (F H:Hp) (β:List Addr):Gx F F H H β β:=⟨Gr.refl _ _,fun _ _ e _=>e,fun _ e=>e,fun _ e=>.inl e,fun _ _ e=>.inl e,fun _ _ _ e=>e⟩
theorem Gx.trans {F F1 F2 H H1 H2:Hp} {β β1 β2:List Addr} (a:Gx F F1 H H1 β β1) (b:Gx F1 F2 H1 H2 β1 β2):Gx F F2 H H2 β β2:=by
 have n1:∀c o,H c=some o->c ∉ β->c ∉ β1:=fun c o e h h1=>(a.new c h1).elim h fun z=>by rw[e]at z; cases z
 refine ⟨a.toGr.trans b.toGr,fun c o e h=>b.keep c o (a.keep c o e h) (n1 c o e h),fun c e=>a.there c (b.there c e),fun c h=>?_,fun c o e=>?_,fun c o u e=>b.frz c o u (a.frz c o u e)⟩
 ·rcases b.new c h with h|h
  ·exact a.new c h
  ·exact .inr (a.there c h)
 ·rcases b.fnew c o e with h|h
  ·exact a.fnew c o h
  ·exact .inr (a.there c h)
section
variable {F H:Hp} {β:List Addr} {om:List Ob} {p:Addr} {o:HO}
theorem MOk.gxF (M:MOk F H β om) (hp:H p=none):Gx F (upd F p o) H (upd H p o) β β :=
 ⟨(M.newF (o:=o) hp).1,fun b u e _=>by rw[Zp (Z0 e hp)]; exact e,fun b e=>by
  by_cases hb:b=p
  ·rw[hb]; exact hp
  ·rw[Zp hb]at e; exact e,fun _ e=>.inl e,fun b u e=>by
  by_cases hb:b=p
  ·rw[hb]; exact .inr hp
  ·rw[Zp hb]at e; exact .inl e,fun b u w e=>by rw[Zp (Z0 e hp)]; exact e⟩
theorem MOk.gxU (M:MOk F H β om) (hp:H p=none):Gx F F H (upd H p o) β β :=
 ⟨Gr.refl _ _,fun b u e _=>by rw[Zp (Z0 e hp)]; exact e,fun b e=>by
  by_cases hb:b=p
  ·rw[hb]; exact hp
  ·rw[Zp hb]at e; exact e,fun _ e=>.inl e,fun b u e=>.inl e,fun b u w e=>by rw[Zp (Z0 e hp)]; exact e⟩
theorem MOk.gxO (M:MOk F H β om) (hp:H p=none) (g:Gr F F β (β++[p])):Gx F F H (upd H p o) β (β++[p]) :=
 ⟨g,(M.gxU (o:=o) hp).keep,(M.gxU (o:=o) hp).there,fun b e=>by
  rcases List.mem_append.mp e with e|e
  ·exact .inl e
  ·rw[List.mem_singleton.mp e]; exact .inr hp,fun b u e=>.inl e,(M.gxU (o:=o) hp).frz⟩
theorem nz {H:Hp} {a:Addr} {x:HO} (h:H a=some x) (hx:∀o u,x≠.frz o u:=by intro _ _ z; cases z):∀o u,H a≠some (.frz o u):=fun o u z=>hx o u (Option.some.inj (h.symm.trans z))
theorem MOk.gxP (M:MOk F H β om) {h:Nat} {a:Addr} (e:β[h]?=some a) (hz:∀u w,H a≠some (.frz u w)):Gx F F H (upd H a o) β β :=
 ⟨Gr.refl _ _,fun b u eb hb=>by
  have hba:b≠a:=fun z=>hb (by rw[z]; exact List.mem_of_getElem? e)
  rw[Zp hba]; exact eb,fun b eb=>by
  by_cases hb:b=a
  ·rw[hb,Zz]at eb; cases eb
  ·rw[Zp hb]at eb; exact eb,fun _ e=>.inl e,fun b u e=>.inl e,fun b u w eb=>by
  have hba:b≠a:=fun z=>hz u w (z ▸ eb)
  rw[Zp hba]; exact eb⟩
theorem MOk.newFx (M:MOk F H β om) (hp:H p=none):Gx F (upd F p o) H (upd H p o) β β∧MOk (upd F p o) (upd H p o) β om:=⟨M.gxF hp,(M.newF hp).2⟩
theorem MOk.newOx {x:Ob} (M:MOk F H β om) (hp:H p=none) (hx:∀β',Gr F F β β'->ObR F (upd H p o) β' p x):Gx F F H (upd H p o) β (β++[p])∧MOk F (upd H p o) (β++[p]) (om++[x])∧(β++[p])[om.length]?=some p :=
 let ⟨g,m,e⟩:=M.newO hp hx; ⟨M.gxO hp g,m,e⟩
end
abbrev Mw (α:Type):=List Ob->Option (Except Addr α × List Ob)
def ret {α:Type} (a:α):Mw α:=fun om=>some (.ok a,om)
def bnd {α γ:Type} (m:Mw α) (k:α->Mw γ):Mw γ:=fun om=>match m om with
 |none=>none
 |some (.ok a,om')=>k a om'
 |some (.error c,om')=>some (.error c,om')
def XA {α:Type}:Mw α:=fun _=>none
def V9 {α:Type} (c:Addr):Mw α:=fun om=>some (.error c,om)
def Yo {α:Type} (m:Mw α):Mw α:=fun om=>match m om with
 |some (.ok a,om')=>some (.ok a,om')
 |_=>none
def Res (E:XK) {α:Type} (r:Option (Except Addr α × List Ob)) (F H:Hp) (β:List Addr) (P:α->Hp->Hp->List Addr->Prop):Prop:=match r with
 |none=>False
 |some (.ok x,om')=>∀F' H' β',Gx F F' H H' β β'->MOk F' H' β' om'->P x F' H' β'
 |some (.error c,om')=>∀F' H' β',Gx F F' H H' β β'->MOk F' H' β' om'->E (.ref c) none H'
section
variable {E:XK} {α γ:Type} {F F1 H H1:Hp} {β β1:List Addr} {om:List Ob} {P:γ->Hp->Hp->List Addr->Prop} {P':α->Hp->Hp->List Addr->Prop}
theorem Res.mono {r:Option (Except Addr γ × List Ob)} (g:Gx F F1 H H1 β β1) (R:Res E r F H β P):Res E r F1 H1 β1 P:=by
 match r,R with
 |some (.ok x,om'),R=>exact fun F' H' β' g' M=>R F' H' β' (g.trans g') M
 |some (.error c,om'),R=>exact fun F' H' β' g' M=>R F' H' β' (g.trans g') M
theorem Res.bind {m:Mw α} {k:α->Mw γ} (R:Res E (bnd m k om) F H β P) (h:∀x om1 F1 H1 β1,Gx F F1 H H1 β β1->MOk F1 H1 β1 om1->Res E (k x om1) F1 H1 β1 P->P' x F1 H1 β1):Res E (m om) F H β P':=by
 unfold bnd at R
 match hm:m om,R with
 |some (.ok x,om'),R=>exact fun F' H' β' g M=>h x om' F' H' β' g M (Res.mono g R)
 |some (.error c,om'),R=>exact R
theorem Res.imp {r:Option (Except Addr γ × List Ob)} {P2:γ->Hp->Hp->List Addr->Prop} (R:Res E r F H β P) (h:∀x F' H' β',Gx F F' H H' β β'->P x F' H' β'->P2 x F' H' β'):Res E r F H β P2:=by
 match r,R with
 |some (.ok x,om'),R=>exact fun F' H' β' g' M=>h x F' H' β' g' (R F' H' β' g' M)
 |some (.error c,om'),R=>exact R
end
structure EnvOk (F:Hp) (β:List Addr) (σ:St) (sl:List (Option Wv)):Prop where
 len:sl.length=σ.length
 get:∀(i:Nat) (w:Wv),sl[i]?=some (some w)->∃v,σ[i]?=some (some v)∧RW F β w v
theorem EnvOk.mono {F F':Hp} {β β':List Addr} {σ:St} {sl:List (Option Wv)} (V:EnvOk F β σ sl) (g:Gr F F' β β'):EnvOk F' β' σ sl :=
 ⟨V.len,fun i w e=>let ⟨v,h,r⟩:=V.get i w e; ⟨v,h,r.mono g⟩⟩
theorem EnvOk.set {F:Hp} {β:List Addr} {σ:St} {sl:List (Option Wv)} {w:Wv} {v:V} (V:EnvOk F β σ sl) (i:Nat) (r:RW F β w v):EnvOk F β (σ.set i (some v)) (sl.set i (some w)):=by
 refine ⟨by simp[V.len],fun j u e=>?_⟩
 by_cases hj:j=i
 ·subst hj
  by_cases hl:j < sl.length
  ·rw[List.getElem?_set_self hl]at e
   cases e
   exact ⟨v,by rw[List.getElem?_set_self (by rw[← V.len]; exact hl)],r⟩
  ·rw[List.getElem?_eq_none (by simp; omega)]at e; cases e
 ·rw[List.getElem?_set_ne (Ne.symm hj)]at e ⊢
  exact V.get j u e
theorem EnvOk.setN {F:Hp} {β:List Addr} {σ:St} {sl:List (Option Wv)} (V:EnvOk F β σ sl) (i:Nat):EnvOk F β (σ.set i none) (sl.set i none):=by
 refine ⟨by simp[V.len],fun j u e=>?_⟩
 by_cases hj:j=i
 ·subst hj
  by_cases hl:j < sl.length
  ·rw[List.getElem?_set_self hl]at e
   cases e
  ·rw[List.getElem?_eq_none (by simp; omega)]at e; cases e
 ·rw[List.getElem?_set_ne (Ne.symm hj)]at e ⊢
  exact V.get j u e
abbrev Sl:=List (Option Wv)
abbrev FE:=Sl->Mw Wv
abbrev FT:=Sl->Mw Bool
abbrev FA:=Sl->Mw (List Wv)
inductive Fl where
 |nx|bk|ct|rt (w:Wv)
abbrev FS:=Sl->Mw (Fl × Sl)
def tE (E:XK) (f:FE):TE:=fun σ H Q=>∃F β om sl,MOk F H β om∧EnvOk F β σ sl∧Res E (f sl om) F H β fun w F' H' β'=>∀v,RW F' β' w v->Q v H'
def tT (E:XK) (f:FT):TT:=fun σ H Q=>∃F β om sl,MOk F H β om∧EnvOk F β σ sl∧Res E (f sl om) F H β fun b F' H' β'=>Q b H'
def tA (E:XK) (f:FA):TA:=fun σ H Q=>∃F β om sl,MOk F H β om∧EnvOk F β σ sl∧Res E (f sl om) F H β fun ws F' H' β'=>∀vs,RWs F' β' ws vs->Q vs H'
def FlP (D:Ends) (x:Fl × Sl) (F' H':Hp) (β':List Addr):Prop:=match x.1 with
 |.nx=>∀σ',EnvOk F' β' σ' x.2->D.nx σ' H'
 |.bk=>∀σ',EnvOk F' β' σ' x.2->D.bk σ' H'
 |.ct=>∀σ',EnvOk F' β' σ' x.2->D.ct σ' H'
 |.rt w=>∀v,RW F' β' w v->D.rt v H'
def tS (E:XK) (f:FS):TS:=fun D σ H=>∃F β om sl,MOk F H β om∧EnvOk F β σ sl∧Res E (f sl om) F H β (FlP D)
open PySem PySem.Spec PyProof.Rows
def PV (Q:VK):Wv->Hp->Hp->List Addr->Prop:=fun w F' H' β'=>∀v,RW F' β' w v->Q v H'
theorem Res.now {E:XK} {α:Type} {x:α} {F H:Hp} {β:List Addr} {om:List Ob} {P:α->Hp->Hp->List Addr->Prop} (R:Res E (ret x om) F H β P) (M:MOk F H β om):P x F H β:=R F H β (Gx.refl _ _ _) M
theorem PE.weak {X:Cx} {e:Expr} {t t':TE} (h:PE X e t) (w:∀σ H Q,t' σ H Q->t σ H Q):PE X e t':=fun pins s σ H Q I q=>h pins s σ H Q I (w σ H Q q)
theorem PT.weak {X:Cx} {e:Expr} {t t':TT} (h:PT X e t) (w:∀σ H Q,t' σ H Q->t σ H Q):PT X e t':=fun pins s σ H Q I q=>h pins s σ H Q I (w σ H Q q)
theorem PW.weak {X:Cx} {e:Expr} {t t':TT} (h:PW X e t) (w:∀σ H Q,t' σ H Q->t σ H Q):PW X e t':=fun wh pins s σ H Q I q=>h wh pins s σ H Q I (w σ H Q q)
theorem PA.weak {X:Cx} {es:List Expr} {t t':TA} (h:PA X es t) (w:∀σ H Q,t' σ H Q->t σ H Q):PA X es t':=fun pos pins s σ H Q I q=>h pos pins s σ H Q I (w σ H Q q)
theorem PS.weak {X:Cx} {e:Stmt} {t t':TS} (h:PS X e t) (w:∀D σ H,t' D σ H->t D σ H):PS X e t':=fun pins s σ H Q I q=>h pins s σ H Q I (w Q σ H q)
theorem PSs.weak {X:Cx} {e:List Stmt} {t t':TS} (h:PSs X e t) (w:∀D σ H,t' D σ H->t D σ H):PSs X e t':=fun pins s σ H Q I q=>h pins s σ H Q I (w Q σ H q)
def Za (i:Nat):FE:=fun sl=>match sl[i]? with
 |some (some w)=>ret w
 |_=>XA
def fC (w:Wv):FE:=fun _=>ret w
section
variable {X:Cx} {E:XK} {e a b:Expr} {es:List Expr} {fa fb:FE} {pos:Pos}
theorem MC {i:Nat} (h:PE X e (G0 i)):PE X e (tE E (Za i)):=h.weak fun σ H Q ⟨F,β,om,sl,M,V,R⟩=>by
 unfold Za at R
 match hw:sl[i]?,R with
 |some (some w),R =>
  obtain ⟨v,e1,r⟩:=V.get i w hw
  exact ⟨v,e1,R.now M v r⟩
 |some none,R=>exact R.elim
 |none,R=>exact R.elim
theorem Mh {v:V} {w:Wv} (h:PE X e (tC v)) (r:∀F β,RW F β w v):PE X e (tE E (fC w)):=h.weak fun σ H Q ⟨F,β,om,sl,M,V,R⟩=>R.now M v (r F β)
theorem Zh {i j pos}:PE X (.Constant (.int i) j pos) (tE E (fC (.int i))):=Mh Gk fun _ _=>.int i
theorem YU {i j pos}:PE X (.Constant (.bool i) j pos) (tE E (fC (.bl i))):=Mh Fi fun _ _=>.bl i
theorem Qq {j pos}:PE X (.Constant .none j pos) (tE E (fC .non)):=Mh HB fun _ _=>.non
theorem XJ {i j pos}:PE X (.Constant (.str i) j pos) (tE E (fC (.str i))):=Mh LG fun _ _=>.str i
theorem Zf (i:Nat) {x:Str} {pos:Pos} (hN:X.N[i]?=some x:=by rfl) (hv:Vis X.env.scope x:=by first|exact Or.inl rfl|exact Or.inr (Or.inl rfl)|exact Or.inr (Or.inr rfl)) (hd:(x == ("__debug__":Str))=false:=by decide) (hcd:(x == ("__classdict__":Str))=false:=by decide) :
    PE X (.Name x pos) (tE E (Za i)):=MC (HD hN hv hd hcd)
def f1 (k:Wv->Mw Wv) (fa:FE):FE:=fun sl=>bnd (fa sl) k
def f2 (k:Wv->Wv->Mw Wv) (fa fb:FE):FE:=fun sl=>bnd (fa sl) fun x=>bnd (fb sl) fun y=>k x y
def Op2 (E:XK) (r:R2) (k:Wv->Wv->Mw Wv):Prop:=∀{F H:Hp} {β:List Addr} {om:List Ob} {x y:Wv} {v u:V} {Q:VK},MOk F H β om->RW F β x v->RW F β y u->Res E (k x y om) F H β (PV Q)->r v u H Q
def Op1 (E:XK) (r:V->Hp->VK->Prop) (k:Wv->Mw Wv):Prop:=∀{F H:Hp} {β:List Addr} {om:List Ob} {x:Wv} {v:V} {Q:VK},MOk F H β om->RW F β x v->Res E (k x om) F H β (PV Q)->r v H Q
theorem P0 {r:R2} {k:Wv->Wv->Mw Wv} (hk:Op2 E r k) {σ:St} {H:Hp} {Q:VK} (h:tE E (f2 k fa fb) σ H Q):tOp r (tE E fa) (tE E fb) σ H Q:=by
 obtain ⟨F,β,om,sl,M,V,R⟩:=h
 refine ⟨F,β,om,sl,M,V,R.bind fun x om1 F1 H1 β1 g1 M1 R1 v rv=>?_⟩
 refine ⟨F1,β1,om1,sl,M1,V.mono g1.toGr,R1.bind fun y om2 F2 H2 β2 g2 M2 R2 u ru=>?_⟩
 exact hk M2 (rv.mono g2.toGr) ru R2
theorem L5 {r:V->Hp->VK->Prop} {k:Wv->Mw Wv} (hk:Op1 E r k) {σ:St} {H:Hp} {Q:VK} (h:tE E (f1 k fa) σ H Q):tE E fa σ H fun x H1=>r x H1 Q:=by
 obtain ⟨F,β,om,sl,M,V,R⟩:=h
 exact ⟨F,β,om,sl,M,V,R.bind fun x om1 F1 H1 β1 g1 M1 R1 v rv=>hk M1 rv R1⟩
theorem Q3 {op:Operator} {r:R2} {k:Wv->Wv->Mw Wv} (ho:OpR X (binaryOp op) r) (hk:Op2 E r k) (ha:PE X a (tE E fa)) (hb:PE X b (tE E fb)):PE X (.BinOp a op b pos) (tE E (f2 k fa fb)):=(IQ ho ha hb).weak fun _ _ _ h=>P0 hk h
theorem Kj {op:CmpOp} {r:R2} {k:Wv->Wv->Mw Wv} (ho:OpR X (compareOp op) r) (hk:Op2 E r k) (ha:PE X a (tE E fa)) (hb:PE X b (tE E fb)) (hm:behindInMarks op b=false):PE X (.Compare a [op] [b] pos) (tE E (f2 k fa fb)):=(JA ho ha hb hm).weak fun _ _ _ h=>P0 hk h
def kI (g:Int->Int->Wv):Wv->Wv->Mw Wv
 |.int i,.int j=>ret (g i j)
 |_,_=>XA
def kIc (c:Int->Int->Bool) (g:Int->Int->Wv):Wv->Wv->Mw Wv
 |.int i,.int j=>if c i j=true then ret (g i j) else XA
 |_,_=>XA
theorem VO {g:Int->Int->V} {g':Int->Int->Wv} (hg:∀F β i j,RW F β (g' i j) (g i j)):Op2 E (rI0 g) (kI g'):=by
 intro F H β om x y v u Q M rx ry R
 cases rx <;> first|exact R.elim|skip
 cases ry <;> first|exact R.elim|skip
 exact ⟨_,_,rfl,rfl,R.now M _ (hg ..)⟩
theorem LB {C:Int->Int->Prop} {c:Int->Int->Bool} {g:Int->Int->V} {g':Int->Int->Wv} (hc:∀i j,c i j=true->C i j) (hg:∀F β i j,RW F β (g' i j) (g i j)):Op2 E (rI C g) (kIc c g'):=by
 intro F H β om x y v u Q M rx ry R
 cases rx <;> first|exact R.elim|skip
 cases ry <;> first|exact R.elim|skip
 rename_i i j
 have R:Res E ((if c i j=true then ret (g' i j) else XA) om) F H β (PV Q):=R
 by_cases h:c i j=true
 ·rw[if_pos h]at R
  exact ⟨_,_,rfl,rfl,hc _ _ h,R.now M _ (hg ..)⟩
 ·rw[if_neg h]at R
  exact R.elim
abbrev YH:=kI fun i j=>.int (i+j)
abbrev Qj:=kI fun i j=>.int (i - j)
abbrev WE:=kIc (fun _ j=>decide (0 < j∧j < 1073741824)) fun i j=>.int (i / j)
abbrev Ym:=kIc (fun _ j=>decide (0 < j)) fun i j=>.int (i % j)
abbrev kLt:=kI fun i j=>.bl (decide (i < j))
abbrev kLe:=kI fun i j=>.bl (decide (i<=j))
abbrev kGt:=kI fun i j=>.bl (decide (j < i))
abbrev kGe:=kI fun i j=>.bl (decide (j<=i))
theorem Yi (ha:PE X a (tE E fa)) (hb:PE X b (tE E fb)):PE X (.BinOp a .Add b pos) (tE E (f2 YH fa fb)):=Q3 HW (VO fun _ _ _ _=>.int _) ha hb
theorem Qp (ha:PE X a (tE E fa)) (hb:PE X b (tE E fb)):PE X (.BinOp a .Sub b pos) (tE E (f2 Qj fa fb)):=Q3 HY (VO fun _ _ _ _=>.int _) ha hb
theorem XG (ha:PE X a (tE E fa)) (hb:PE X b (tE E fb)):PE X (.BinOp a .FloorDiv b pos) (tE E (f2 WE fa fb)):=Q3 Jg (LB (fun i j h=>of_decide_eq_true h) fun _ _ _ _=>.int _) ha hb
theorem Yj (ha:PE X a (tE E fa)) (hb:PE X b (tE E fb)):PE X (.BinOp a .Mod b pos) (tE E (f2 Ym fa fb)):=Q3 Gu (LB (fun i j h=>of_decide_eq_true h) fun _ _ _ _=>.int _) ha hb
end
mutual
def Wj (om:List Ob):Wv->Option PyData
 |.non=>some .none
 |.bl b=>some (.bool b)
 |.int i=>some (.int i)
 |.str x=>some (.str x)
 |.lst ws=>(pysOf om ws).map .list
 |.tup ws=>(pysOf om ws).map .tuple
 |.o _=>none
 |.g _=>none
def pysOf (om:List Ob):List Wv->Option (List PyData)
 |[]=>some []
 |w::r=>match Wj om w,pysOf om r with
  |some d,some ds=>some (d::ds)
  |_,_=>none
end
def YW (om:List Ob):Wv->Option PyData
 |.o h=>match om[h]? with
  |some (.lst ws)=>(pysOf om ws).map .list
  |_=>none
 |w=>Wj om w
section
variable {X:Cx} {pins:List (Addr × Obj)} {σ:St} {F H:Hp} {s:Shared} {β:List Addr} {om:List Ob}
mutual
theorem RW.reads (I:Inv X pins σ H s) (sub:Same F H):∀{w:Wv} {v:V} {d:PyData} {u:Value},RW F β w v->Wj om w=some d->RelV v u->∃as,Reads s.heap u d as
 |_,_,_,_,.non,e,r=>by unfold Wj at e; cases e; cases r; exact ⟨_,.none⟩
 |_,_,_,_,.bl b,e,r=>by unfold Wj at e; cases e; cases r; exact ⟨_,.bool b⟩
 |_,_,_,_,.int i,e,r=>by unfold Wj at e; cases e; obtain ⟨t,rfl⟩:=r; exact ⟨_,.int i t⟩
 |_,_,_,_,.str x,e,r=>by unfold Wj at e; cases e; obtain ⟨t,rfl⟩:=r; exact ⟨_,.str x t⟩
 |_,_,_,_,.lst (a:=a) (ws:=ws) q rs,e,r=>by
  unfold Wj at e
  cases r
  match hp:pysOf om ws,e with
  |some ds,e =>
   cases e
   obtain ⟨_,its,n,rv,eo⟩:=(Rd.same sub q).ok I.hok
   obtain ⟨as,ra⟩:=RWs.reads I sub rs hp rv
   exact ⟨_,.list eo rfl rfl (by simpa using ra)⟩
 |_,_,_,_,.tup (a:=a) (ws:=ws) q rs,e,r=>by
  unfold Wj at e
  cases r
  match hp:pysOf om ws,e with
  |some ds,e =>
   cases e
   obtain ⟨_,its,rv,o,eo,ec,n,ed⟩:=I.hok a _ (sub _ _ q)
   obtain ⟨as,ra⟩:=RWs.reads I sub rs hp rv
   exact ⟨_,.tuple eo ec ed (by simpa using ra)⟩
 |_,_,_,_,.o _,e,r=>by unfold Wj at e; cases e
 |_,_,_,_,.g _,e,r=>by unfold Wj at e; cases e
theorem RWs.reads (I:Inv X pins σ H s) (sub:Same F H):∀{ws:List Wv} {vs:List V} {ds:List PyData} {us:List Value},RWs F β ws vs->pysOf om ws=some ds->Vals vs us->∃as,ReadsAll s.heap us ds as
 |_,_,_,_,.nil,e,r=>by unfold pysOf at e; cases e; cases r; exact ⟨_,.nil⟩
 |_,_,_,_,.cons (w:=w) (ws:=ws) h q,e,r=>by
  unfold pysOf at e
  cases r with
  |cons r1 r2 =>
   match h1:Wj om w,h2:pysOf om ws,e with
   |some d,some ds,e =>
    cases e
    obtain ⟨as,ra⟩:=RW.reads I sub h h1 r1
    obtain ⟨bs,rb⟩:=RWs.reads I sub q h2 r2
    exact ⟨_,.cons ra rb⟩
end
theorem RW.readsTop (I:Inv X pins σ H s) (M:MOk F H β om) {w:Wv} {v:V} {d:PyData} {u:Value} (rw':RW F β w v) (e:YW om w=some d) (r:RelV v u):∃as,Reads s.heap u d as:=by
 match w,e with
 |.non,e=>exact rw'.reads (om:=om) I M.sub e r
 |.bl _,e=>exact rw'.reads (om:=om) I M.sub e r
 |.int _,e=>exact rw'.reads (om:=om) I M.sub e r
 |.str _,e=>exact rw'.reads (om:=om) I M.sub e r
 |.lst _,e=>exact rw'.reads (om:=om) I M.sub e r
 |.tup _,e=>exact rw'.reads (om:=om) I M.sub e r
 |.g _,e=>exact rw'.reads (om:=om) I M.sub e r
 |.o h,e =>
  unfold YW at e
  dsimp only at e
  split at e
  ·rename_i ws hw
   cases rw' with
   |o eb =>
    obtain ⟨a,ea,_,xs,hx,rs⟩:=M.at hw
    rw[eb]at ea; cases ea
    cases r
    match hp:pysOf om ws,e with
    |some ds,e =>
     cases e
     obtain ⟨_,its,n,rv,eo⟩:=I.hok _ _ hx
     obtain ⟨as,ra⟩:=RWs.reads I M.sub rs hp rv
     exact ⟨_,.list eo rfl rfl (by simpa using ra)⟩
  ·cases e
end
def WK (d:PyData):Bool:=d.canLay0&&decide (d.depth<=60)
def Wn (neg:Bool) (x y:Wv):Mw Wv:=fun om=>match YW om x,YW om y with
 |some d,some e=>if (WK d&&WK e)=true then some (.ok (.bl (if neg then !PyData.eqv d e else PyData.eqv d e)),om) else none
 |_,_=>none
abbrev kEq:=Wn false
abbrev kNe:=Wn true
def Eh (E:XK) (neg:Bool):R2:=fun v u H Q=>∃F β om x y,MOk F H β om∧RW F β x v∧RW F β y u∧Res E (Wn neg x y om) F H β (PV Q)
section
variable {X:Cx} {E:XK} {a b:Expr} {fa fb:FE} {pos:Pos}
theorem MX (hu:X.A.units+64 < cLine):OpR X (compareOp .Eq) (Eh E false):=by
 intro pins s σ H v u v' u' Q I rv ru h
 obtain ⟨F,β,om,x,y,M,rx,ry,R⟩:=h
 unfold Wn at R
 match h1:YW om x,h2:YW om y,R with
 |some d,some e,R =>
  dsimp only at R
  by_cases hl:(WK d&&WK e)=true
  ·rw[if_pos hl]at R
   obtain ⟨l1,l2⟩:=Bool.and_eq_true_iff.mp hl
   obtain ⟨c1,d1⟩:=Bool.and_eq_true_iff.mp l1
   obtain ⟨c2,d2⟩:=Bool.and_eq_true_iff.mp l2
   obtain ⟨as,ra⟩:=rx.readsTop I M h1 rv
   obtain ⟨bs,rb⟩:=ry.readsTop I M h2 ru
   have:=of_decide_eq_true d1
   have:=of_decide_eq_true d2
   exact SeqAt.rcAt_reads ra rb c1 c2 (by omega) _ _ _ _ ⟨.bl _,H,I,rfl,R F H β (Gx.refl _ _ _) M _ (.bl _)⟩
  ·rw[if_neg hl]at R; exact R.elim
theorem GJ (hu:X.A.units+64 < cLine):OpR X (compareOp .NotEq) (Eh E true):=by
 intro pins s σ H v u v' u' Q I rv ru h
 obtain ⟨F,β,om,x,y,M,rx,ry,R⟩:=h
 unfold Wn at R
 match h1:YW om x,h2:YW om y,R with
 |some d,some e,R =>
  dsimp only at R
  by_cases hl:(WK d&&WK e)=true
  ·rw[if_pos hl]at R
   obtain ⟨l1,l2⟩:=Bool.and_eq_true_iff.mp hl
   obtain ⟨c1,d1⟩:=Bool.and_eq_true_iff.mp l1
   obtain ⟨c2,d2⟩:=Bool.and_eq_true_iff.mp l2
   obtain ⟨as,ra⟩:=rx.readsTop I M h1 rv
   obtain ⟨bs,rb⟩:=ry.readsTop I M h2 ru
   have:=of_decide_eq_true d1
   have:=of_decide_eq_true d2
   exact SeqAt.compareNe_reads ra rb c1 c2 (by omega) ⟨.bl _,H,I,rfl,R F H β (Gx.refl _ _ _) M _ (.bl _)⟩
  ·rw[if_neg hl]at R; exact R.elim
theorem O3 (hu:X.A.units+64 < cLine) (ha:PE X a (tE E fa)) (hb:PE X b (tE E fb)):PE X (.Compare a [.Eq] [b] pos) (tE E (f2 kEq fa fb)):=Kj (MX (E:=E) hu) (fun M rx ry R=>⟨_,_,_,_,_,M,rx,ry,R⟩) ha hb (VU _)
end
end L2
namespace L2
noncomputable section
open PySem PySem.Spec PyProof.Rows
def kB:Wv->Mw Bool
 |.bl b=>ret b
 |_=>XA
def fB (f:FE):FT:=fun sl=>bnd (f sl) kB
def Vg (f g:FT):FT:=fun sl=>bnd (f sl) fun b=>if b=true then g sl else ret false
def fOr (f g:FT):FT:=fun sl=>bnd (f sl) fun b=>if b=true then ret true else g sl
def Wm (f:FT):FT:=fun sl=>bnd (f sl) fun b=>ret (!b)
def Wq (f g:FE):FE:=fun sl=>bnd (f sl) fun x=>bnd (kB x) fun b=>if b=true then g sl else ret (.bl false)
def Qg (f g:FE):FE:=fun sl=>bnd (f sl) fun x=>bnd (kB x) fun b=>if b=true then ret (.bl true) else g sl
def isNon:Wv->Bool
 |.non=>true
 |_=>false
def VA (x:Wv):Mw Wv:=ret (.bl (isNon x))
def Y9 (x:Wv):Mw Wv:=ret (.bl (!isNon x))
def MS (x:Wv):Mw Wv:=bnd (kB x) fun b=>ret (.bl (!b))
def X8 (k k':Wv->Wv->Mw Wv) (fa fb fc:FE):FE:=fun sl=>bnd (fa sl) fun x=>bnd (fb sl) fun y=>bnd (k x y) fun z=>bnd (kB z) fun b=>if b=true then bnd (fc sl) fun w=>k' y w else ret (.bl false)
theorem RW.isNon {F:Hp} {β:List Addr} {w:Wv} {v:V} (r:RW F β w v):decide (v=.non)=L2.isNon w:=by
 cases r <;> first|rfl|(refine decide_eq_false ?_; intro z; cases z)
section
variable {X:Cx} {E:XK} {e a b c:Expr} {rest:List Expr} {f fa fb fc:FE} {g ga gb:FT} {pos:Pos}
theorem Res.kB {P:Bool->Hp->Hp->List Addr->Prop} {x:Wv} {v:V} {F H:Hp} {β:List Addr} {om:List Ob} (rv:RW F β x v) (M:MOk F H β om) (R:Res E (L2.kB x om) F H β P):∃b,x=.bl b∧v=.bl b∧P b F H β:=by
 cases rv <;> first|exact R.elim|skip
 exact ⟨_,rfl,rfl,R.now M⟩
theorem Lm {σ:St} {H:Hp} {Q:Bool->Hp->Prop} (h:tT E (fB f) σ H Q):tE E f σ H fun x H'=>∃c,x=.bl c∧Q c H':=by
 obtain ⟨F,β,om,sl,M,V,R⟩:=h
 refine ⟨F,β,om,sl,M,V,R.bind fun x om1 F1 H1 β1 g1 M1 R1 v rv=>?_⟩
 obtain ⟨b,rfl,rfl,q⟩:=R1.kB rv M1
 exact ⟨b,rfl,q⟩
theorem Tw {op:CmpOp} {r:R2} {k:Wv->Wv->Mw Wv} (ho:OpR X (compareOp op) r) (hk:Op2 E r k) (ha:PE X a (tE E fa)) (hb:PE X b (tE E fb)) (hm:behindInMarks op b=false):PT X (.Compare a [op] [b] pos) (tT E (fB (f2 k fa fb))) :=
 (JY ho ha hb hm).weak fun _ _ _ h=>P0 hk (Lm h)
theorem NB (ha:PE X a (tE E fa)) (hb:PE X b (tE E fb)):PT X (.Compare a [.Lt] [b] pos) (tT E (fB (f2 kLt fa fb))):=Tw L8 (VO fun _ _ _ _=>.bl _) ha hb (VU _)
theorem IL (ha:PE X a (tE E fa)) (hb:PE X b (tE E fb)):PT X (.Compare a [.Gt] [b] pos) (tT E (fB (f2 kGt fa fb))):=Tw El (VO fun _ _ _ _=>.bl _) ha hb (VU _)
theorem Ex (ha:PE X a (tE E fa)) (hb:PE X b (tE E fb)):PT X (.Compare a [.GtE] [b] pos) (tT E (fB (f2 kGe fa fb))):=Tw FZ (VO fun _ _ _ _=>.bl _) ha hb (VU _)
theorem YT (hu:X.A.units+64 < cLine) (ha:PE X a (tE E fa)) (hb:PE X b (tE E fb)):PT X (.Compare a [.Eq] [b] pos) (tT E (fB (f2 kEq fa fb))):=Tw (MX (E:=E) hu) (fun M rx ry R=>⟨_,_,_,_,_,M,rx,ry,R⟩) ha hb (VU _)
theorem O7 (hu:X.A.units+64 < cLine) (ha:PE X a (tE E fa)) (hb:PE X b (tE E fb)):PT X (.Compare a [.NotEq] [b] pos) (tT E (fB (f2 kNe fa fb))):=Tw (GJ (E:=E) hu) (fun M rx ry R=>⟨_,_,_,_,_,M,rx,ry,R⟩) ha hb (VU _)
theorem JE:Op1 E (fun x H1 Q=>Q (.bl (decide (x=.non))) H1) VA:=fun M rx R=>by show (_:VK) (.bl (decide _)) _; rw[rx.isNon]; exact R.now M _ (.bl _)
theorem PO:Op1 E (fun x H1 Q=>Q (.bl (!decide (x=.non))) H1) Y9:=fun M rx R=>by show (_:VK) (.bl (!decide _)) _; rw[rx.isNon]; exact R.now M _ (.bl _)
theorem Uq {j pos'} (ha:PE X a (tE E fa)):PE X (.Compare a [.IsNot] [.Constant .none j pos'] pos) (tE E (f1 Y9 fa)):=(Kx (ON ha)).weak fun _ _ _ h=>L5 PO h
theorem Oa {j pos'} (ha:PE X a (tE E fa)):PT X (.Compare a [.Is] [.Constant .none j pos'] pos) (tT E (fB (f1 VA fa))):=(Ou (HP ha)).weak fun _ _ _ h=>L5 JE (Lm h)
theorem Vs {j pos'} (ha:PE X a (tE E fa)):PT X (.Compare a [.IsNot] [.Constant .none j pos'] pos) (tT E (fB (f1 Y9 fa))):=(Ou (ON ha)).weak fun _ _ _ h=>L5 PO (Lm h)
theorem GF {σ:St} {H:Hp} {Q:Bool->Hp->Prop} (h:tT E (Vg ga gb) σ H Q):Ei (tT E ga) (tT E gb) σ H Q:=by
 obtain ⟨F,β,om,sl,M,V,R⟩:=h
 refine ⟨F,β,om,sl,M,V,R.bind fun x om1 F1 H1 β1 g1 M1 R1=>?_⟩
 cases x with
 |true=>rw[if_pos rfl]at R1 ⊢; exact ⟨F1,β1,om1,sl,M1,V.mono g1.toGr,R1⟩
 |false=>rw[if_neg Bool.false_ne_true]at R1 ⊢; exact R1.now M1
theorem Fh {σ:St} {H:Hp} {Q:Bool->Hp->Prop} (h:tT E (fOr ga gb) σ H Q):tOr (tT E ga) (tT E gb) σ H Q:=by
 obtain ⟨F,β,om,sl,M,V,R⟩:=h
 refine ⟨F,β,om,sl,M,V,R.bind fun x om1 F1 H1 β1 g1 M1 R1=>?_⟩
 cases x with
 |true=>rw[if_pos rfl]at R1 ⊢; exact R1.now M1
 |false=>rw[if_neg Bool.false_ne_true]at R1 ⊢; exact ⟨F1,β1,om1,sl,M1,V.mono g1.toGr,R1⟩
theorem R7 (ha:PT X a (tT E ga)):PW X (.BoolOp .And [a] pos) (tT E ga):=JX ha
theorem U1 (ha:PT X a (tT E ga)):PW X (.BoolOp .Or [a] pos) (tT E ga):=GQ ha
theorem Qa (ha:PT X a (tT E ga)) (hb:PW X (.BoolOp .And (b::rest) pos) (tT E gb)):PW X (.BoolOp .And (a::b::rest) pos) (tT E (Vg ga gb)):=(HQ ha hb).weak fun _ _ _ h=>GF h
theorem RE (ha:PT X a (tT E ga)) (hb:PW X (.BoolOp .Or (b::rest) pos) (tT E gb)):PW X (.BoolOp .Or (a::b::rest) pos) (tT E (fOr ga gb)):=(Ez ha hb).weak fun _ _ _ h=>Fh h
theorem Vk (ha:PT X a (tT E ga)):PT X (.UnaryOp .Not a pos) (tT E (Wm ga)):=(Gb ha).weak fun σ H Q ⟨F,β,om,sl,M,V,R⟩=>⟨F,β,om,sl,M,V,R.bind fun x om1 F1 H1 β1 g1 M1 R1=>R1.now M1⟩
theorem Qb {op} (h:PE X a (tE E f)):PE X (.BoolOp op [a] pos) (tE E f):=Hz h
theorem QN (ha:PE X a (tE E fa)) (hb:PE X (.BoolOp .And (b::rest) pos) (tE E fb)):PE X (.BoolOp .And (a::b::rest) pos) (tE E (Wq fa fb)):=(HL ha hb).weak fun σ H Q ⟨F,β,om,sl,M,V,R⟩=>by
 refine ⟨F,β,om,sl,M,V,R.bind fun x om1 F1 H1 β1 g1 M1 R1 v rv=>?_⟩
 have R2:Res E (L2.kB x om1) F1 H1 β1 fun y F' H' β'=>(if y=true then tE E fb σ H' Q else Q (.bl false) H'):=R1.bind fun y om2 F2 H2 β2 g2 M2 R2=>by
  cases y with
  |true=>rw[if_pos rfl]at R2 ⊢; exact ⟨F2,β2,om2,sl,M2,V.mono (g1.trans g2).toGr,R2⟩
  |false=>rw[if_neg Bool.false_ne_true]at R2 ⊢; exact R2.now M2 _ (.bl _)
 obtain ⟨c,rfl,rfl,q⟩:=R2.kB rv M1
 exact ⟨c,rfl,q⟩
theorem G3 (ha:PE X a (tE E fa)) (hb:PE X (.BoolOp .Or (b::rest) pos) (tE E fb)):PE X (.BoolOp .Or (a::b::rest) pos) (tE E (Qg fa fb)):=(Ep ha hb).weak fun σ H Q ⟨F,β,om,sl,M,V,R⟩=>by
 refine ⟨F,β,om,sl,M,V,R.bind fun x om1 F1 H1 β1 g1 M1 R1 v rv=>?_⟩
 have R2:Res E (L2.kB x om1) F1 H1 β1 fun y F' H' β'=>(if y=true then Q (.bl true) H' else tE E fb σ H' Q):=R1.bind fun y om2 F2 H2 β2 g2 M2 R2=>by
  cases y with
  |false=>rw[if_neg Bool.false_ne_true]at R2 ⊢; exact ⟨F2,β2,om2,sl,M2,V.mono (g1.trans g2).toGr,R2⟩
  |true=>rw[if_pos rfl]at R2 ⊢; exact R2.now M2 _ (.bl _)
 obtain ⟨c,rfl,rfl,q⟩:=R2.kB rv M1
 exact ⟨c,rfl,q⟩
theorem Lc {r r':R2} {k k':Wv->Wv->Mw Wv} (hk:Op2 E r k) (hk':Op2 E r' k') {σ:St} {H:Hp} {Q:VK} (h:tE E (X8 k k' fa fb fc) σ H Q):KK r r' (tE E fa) (tE E fb) (tE E fc) σ H Q:=by
 obtain ⟨F,β,om,sl,M,V,R⟩:=h
 refine ⟨F,β,om,sl,M,V,R.bind fun x om1 F1 H1 β1 g1 M1 R1 v rv=>?_⟩
 refine ⟨F1,β1,om1,sl,M1,V.mono g1.toGr,R1.bind fun y om2 F2 H2 β2 g2 M2 R2 u ru=>?_⟩
 refine hk M2 (rv.mono g2.toGr) ru (R2.bind fun z om3 F3 H3 β3 g3 M3 R3 zv rz=>?_)
 have R4:Res E (L2.kB z om3) F3 H3 β3 fun y' F' H' β'=>(if y'=true then tE E fc σ H' (fun w' H4=>r' u w' H4 Q) else Q (.bl false) H'):=R3.bind fun y' om4 F4 H4 β4 g4 M4 R4=>by
  cases y' with
  |false=>rw[if_neg Bool.false_ne_true]at R4 ⊢; exact R4.now M4 _ (.bl _)
  |true =>
   rw[if_pos rfl]at R4 ⊢
   exact ⟨F4,β4,om4,sl,M4,V.mono (g1.trans (g2.trans (g3.trans g4))).toGr,R4.bind fun w5 om5 F5 H5 β5 g5 M5 R5 u5 r5=>hk' M5 (ru.mono (g3.trans (g4.trans g5)).toGr) r5 R5⟩
 obtain ⟨b,rfl,rfl,q⟩:=R4.kB rz M3
 exact ⟨b,rfl,q⟩
theorem Q5 {op op':CmpOp} {r r':R2} {k k':Wv->Wv->Mw Wv} (ho:OpR X (compareOp op) r) (ho':OpR X (compareOp op') r') (hk:Op2 E r k) (hk':Op2 E r' k') (ha:PE X a (tE E fa)) (hb:PE X b (tE E fb)) (hc:PE X c (tE E fc))
    (hm:lastMarks [op,op'] [b,c]=false:=by with_unfolding_all rfl):PT X (.Compare a [op,op'] [b,c] pos) (tT E (fB (X8 k k' fa fb fc))):=(LP ho ho' ha hb hc hm).weak fun _ _ _ h=>Lc hk hk' (Lm h)
theorem J4:Op2 E (rI0 fun i j=>.bl (decide (i < j))) kLt:=VO fun _ _ _ _=>.bl _
theorem Iu:Op2 E (rI0 fun i j=>.bl (decide (i<=j))) kLe:=VO fun _ _ _ _=>.bl _
end
def YB (om:List Ob):Wv->Option (List Wv)
 |.lst ws=>some ws
 |.tup ws=>some ws
 |.o h=>match om[h]? with
  |some (.lst ws)=>some ws
  |_=>none
 |_=>none
noncomputable def FN:{ n:Nat // n=100000 }:=Classical.choice ⟨⟨100000,rfl⟩⟩
noncomputable def lim:Nat:=FN.1
theorem Ye:lim=100000:=FN.2
theorem Vm:lim < sizeLine:=by rw[Ye]; decide
theorem RQ {X:Cx} {F H:Hp} {β:List Addr} {om:List Ob} {w:Wv} {v:V} {ws:List Wv} (M:MOk F H β om) (r:RW F β w v) (e:YB om w=some ws) :
    ∃a xs,v=.ref a∧(SqL X.K H a xs∨SqT X.K H a xs)∧RWs F β ws xs:=by
 cases r with
 |lst q rs=>unfold YB at e; cases e; exact ⟨_,_,rfl,.inl (.inl (Rd.same M.sub q)),rs⟩
 |tup q rs=>unfold YB at e; cases e; exact ⟨_,_,rfl,.inr (SqT.of (M.sub _ _ q)),rs⟩
 |o eb =>
  rename_i h a
  have e:(match om[h]? with|some (.lst ws)=>some ws|_=>none)=some ws:=e
  match hx:om[h]?,e with
  |none,e=>exact nomatch e
  |some (.ins _ _),e=>exact nomatch e
  |some (.exc _),e=>exact nomatch e
  |some (.dz _),e=>exact nomatch e
  |some (.dk _),e=>exact nomatch e
  |some (.dt _),e=>exact nomatch e
  |some (.lst us),e =>
   have e:some us=some ws:=e
   cases e
   obtain ⟨a',ea,_,xs,hxs,rs⟩:=M.at hx
   rw[eb]at ea; cases ea
   exact ⟨_,_,rfl,.inl (SqL.of hxs),rs⟩
 |_=>unfold YB at e; cases e
theorem RWs.atI {F:Hp} {β:List Addr} {ws:List Wv} {vs:List V} {i:Int} {w:Wv} (r:RWs F β ws vs) (e:L2.atI ws i=some w):∃v,L2.atI vs i=some v∧RW F β w v:=by
 unfold L2.atI at e ⊢
 rw[← r.length]
 match hx:ixN ws.length i,e with
 |some j,e=>exact r.get e
def kIx (x i:Wv):Mw Wv:=fun om=>match YB om x,i with
 |some ws,.int k=>match atI ws k with
  |some w=>some (.ok w,om)
  |none=>none
 |_,_=>none
section
variable {X:Cx} {E:XK} {e a b c:Expr} {es:List Expr} {f fa fb fc:FE} {fs:FA} {pos:Pos}
theorem Lp:Op2 E (rIx X.K) kIx:=by
 intro F H β om x y v u Q M rx ry R
 unfold kIx at R
 match hx:YB om x,y,ry,R with
 |none,_,_,R=>exact R.elim
 |some ws,.int i,.int _,R =>
  have R:Res E (match L2.atI ws i with|some w=>some (Except.ok w,om)|none=>none) F H β (PV Q):=R
  match ha:L2.atI ws i,R with
  |none,R=>exact R.elim
  |some w,R =>
   have R:Res E (ret w om) F H β (PV Q):=R
   obtain ⟨p,xs,rfl,hs,rs⟩:=RQ (X:=X) M rx hx
   obtain ⟨z,ez,rz⟩:=rs.atI ha
   have q:=R.now M z rz
   rcases hs with hs|hs
   ·exact .inl ⟨p,xs,i,z,rfl,rfl,hs,ez,q⟩
   ·exact .inr (.inl ⟨p,xs,i,z,rfl,rfl,hs,ez,q⟩)
theorem Zu (ha:PE X a (tE E fa)) (hb:PE X b (tE E fb)) (hs:Qn b:=by intro _ _; rfl):PE X (.Subscript a b pos) (tE E (f2 kIx fa fb)):=(Ix Lh ha hb hs).weak fun _ _ _ h=>P0 Lp h
def Zk:FA:=fun _=>ret []
def Zc (f:FE) (r:FA):FA:=fun sl=>bnd (f sl) fun x=>bnd (r sl) fun xs=>ret (x::xs)
theorem Zm:PA X [] (tA E Zk):=Sd.weak fun σ H Q ⟨F,β,om,sl,M,V,R⟩=>R.now M _ .nil
theorem Ze (ha:PE X e (tE E f)) (hr:PA X es (tA E fs)) (hs:starEach (e::es) X.env=(false,eval e X.env)::starEach es X.env:=by rfl):PA X (e::es) (tA E (Zc f fs)):=(Vv ha hr hs).weak fun σ H Q ⟨F,β,om,sl,M,V,R⟩=>by
 refine ⟨F,β,om,sl,M,V,R.bind fun x om1 F1 H1 β1 g1 M1 R1 v rv=>?_⟩
 exact ⟨F1,β1,om1,sl,M1,V.mono g1.toGr,R1.bind fun xs om2 F2 H2 β2 g2 M2 R2 vs rvs=>R2.now M2 _ (.cons (rv.mono g2.toGr) rvs)⟩
def Xu (ws:List Wv):Mw Wv:=if ws.length<=lim then ret (.tup ws) else XA
def ZV (ws:List Wv):Mw Wv:=if ws.length<=lim then ret (.lst ws) else XA
def newO (x:Ob):Mw Wv:=fun om=>some (.ok (.o om.length),om++[x])
def YI (ws:List Wv):Mw Wv:=if ws.length<=lim then newO (.lst ws) else XA
def fA (k:List Wv->Mw Wv) (fs:FA):FE:=fun sl=>bnd (fs sl) k
theorem Res.lay {c:Prop} [Decidable c] {m:Mw Wv} {om:List Ob} {F:Hp} {β:List Addr} {P:Wv->Hp->Hp->List Addr->Prop} (R:Res E ((if c then m else XA) om) F H β P):c∧Res E (m om) F H β P:=by
 by_cases h:c
 ·rw[if_pos h]at R; exact ⟨h,R⟩
 ·rw[if_neg h]at R; exact R.elim
theorem Res.newO {x:Ob} {om:List Ob} {F H:Hp} {β:List Addr} {Q:VK} {p:Addr} {o:HO} (R:Res E (L2.newO x om) F H β (PV Q)) (M:MOk F H β om) (hp:H p=none) (hx:∀β',Gr F F β β'->ObR F (upd H p o) β' p x):Q (.ref p) (upd H p o):=by
 obtain ⟨g,M',e⟩:=M.newOx hp hx
 exact R _ _ _ g M' _ (.o e)
theorem Xv {x1} (h:PA X es (tA E fs)):PE X (.Tuple es x1 pos) (tE E (fA Xu fs)):=(Gq h).weak fun σ H Q ⟨F,β,om,sl,M,V,R⟩=>by
 refine ⟨F,β,om,sl,M,V,R.bind fun ws om1 F1 H1 β1 g1 M1 R1 vs rs=>?_⟩
 obtain ⟨hl,R2⟩:=Res.lay R1
 have hl2:=Vm
 refine ⟨by rw[← rs.length]; omega,fun p hp=>?_⟩
 obtain ⟨g,M'⟩:=M1.newFx (o:=.tup vs) hp
 exact R2 _ _ _ g M' _ (.tup Zz (rs.mono g.toGr))
theorem Xk (h:PA X es (tA E fs)):PE X (.List es pos) (tE E (fA ZV fs)):=(P5 h).weak fun σ H Q ⟨F,β,om,sl,M,V,R⟩=>by
 refine ⟨F,β,om,sl,M,V,R.bind fun ws om1 F1 H1 β1 g1 M1 R1 vs rs=>?_⟩
 obtain ⟨hl,R2⟩:=Res.lay R1
 have hl2:=Vm
 refine ⟨by rw[← rs.length]; omega,fun p hp=>?_⟩
 obtain ⟨g,M'⟩:=M1.newFx (o:=.lst vs) hp
 exact R2 _ _ _ g M' _ (.lst (.inl Zz) (rs.mono g.toGr))
theorem OL (h:PA X es (tA E fs)):PE X (.List es pos) (tE E (fA YI fs)):=(P5 h).weak fun σ H Q ⟨F,β,om,sl,M,V,R⟩=>by
 refine ⟨F,β,om,sl,M,V,R.bind fun ws om1 F1 H1 β1 g1 M1 R1 vs rs=>?_⟩
 obtain ⟨hl,R2⟩:=Res.lay R1
 have hl2:=Vm
 exact ⟨by rw[← rs.length]; omega,fun p hp=>R2.newO M1 hp fun β' g=>⟨vs,Zz,rs.mono g⟩⟩
def chk (c:Bool):Mw Unit:=if c=true then ret () else XA
theorem Res.chk {γ:Type} {c:Bool} {k:Unit->Mw γ} {om:List Ob} {F:Hp} {β:List Addr} {P:γ->Hp->Hp->List Addr->Prop} (R:Res E (bnd (L2.chk c) k om) F H β P):c=true∧Res E (k () om) F H β P:=by
 cases c with
 |true=>exact ⟨rfl,R⟩
 |false=>exact R.elim
theorem Res.chk2 {γ α:Type} {c:Bool} {z:α} {k:α->Mw γ} {om:List Ob} {F:Hp} {β:List Addr} {P:γ->Hp->Hp->List Addr->Prop} (R:Res E (bnd (bnd (L2.chk c) fun _=>ret z) k om) F H β P):c=true∧Res E (k z om) F H β P:=by
 cases c with
 |true=>exact ⟨rfl,R⟩
 |false=>exact R.elim
def RJ (ws:List Wv) (y:Wv):Mw (List Wv):=match y with
 |.int k=>bnd (chk (decide (-(2 ^ 63)<=k∧k < 2 ^ 63∧ws.length * k.toNat<=lim))) fun _=>ret (List.replicate k.toNat ws).flatten
 |_=>XA
def Ol (k:List Wv->Mw Wv) (fs:FA) (fb:FE):FE:=fun sl=>bnd (fs sl) fun ws=>bnd (chk (decide (ws.length<=lim))) fun _=>bnd (fb sl) fun y=>bnd (RJ ws y) k
def SW (E:XK) (k:List Wv->Mw Wv):Prop:=∀{ws:List Wv} {vs:List V} {om:List Ob} {F H:Hp} {β:List Addr} {Q:VK} {p:Addr},MOk F H β om->RWs F β ws vs->Res E (k ws om) F H β (PV Q)->vs.length<=lim∧(H p=none->Q (.ref p) (upd H p (.lst vs)))
theorem Xs:SW E ZV:=fun M rs R=>by
 obtain ⟨hl,R2⟩:=Res.lay R
 refine ⟨by rw[← rs.length]; exact hl,fun hp=>?_⟩
 obtain ⟨g,M'⟩:=M.newFx (o:=.lst _) hp
 exact R2 _ _ _ g M' _ (.lst (.inl Zz) (rs.mono g.toGr))
theorem Vy:SW E YI:=fun M rs R=>by
 obtain ⟨hl,R2⟩:=Res.lay R
 exact ⟨by rw[← rs.length]; exact hl,fun hp=>R2.newO M hp fun β' g=>⟨_,Zz,rs.mono g⟩⟩
theorem GT {k:List Wv->Mw Wv} (hk:SW E k) (h:PA X es (tA E fs)) (hb:PE X b (tE E fb)) {p2:Pos}:PE X (.BinOp (.List es p2) .Mult b pos) (tE E (Ol k fs fb)):=(IQ HS (P5 h) hb).weak fun σ H Q ⟨F,β,om,sl,M,V,R⟩=>by
 refine ⟨F,β,om,sl,M,V,R.bind fun ws om1 F1 H1 β1 g1 M1 R1 vs rs=>?_⟩
 obtain ⟨hl,R1⟩:=R1.chk
 have hl:=of_decide_eq_true hl
 have hlim:=Vm
 have hlen:=rs.length
 refine ⟨by omega,fun l hl=>?_⟩
 obtain ⟨g2,M2⟩:=M1.newFx (o:=.lst vs) hl
 refine ⟨_,β1,om1,sl,M2,V.mono (g1.trans g2).toGr,(Res.mono g2 R1).bind fun y om3 F3 H3 β3 g3 M3 R3 u ru=>?_⟩
 have hH3:H3 l=some (.lst vs):=M3.sub _ _ (g3.same _ _ Zz)
 cases ru with
 |int i =>
  obtain ⟨hc,R4⟩:=Res.chk2 R3
  obtain ⟨h1,h2,h3⟩:=of_decide_eq_true hc
  refine ⟨l,i,vs,rfl,rfl,hH3,h1,h2,by rw[← hlen]; omega,fun p hp=>?_⟩
  exact (hk M3 ((rs.mono (g2.trans g3).toGr).rep i.toNat) R4).2 hp
 |_=>exact R3.elim
end
end
end L2
namespace L2
noncomputable section
open PySem PySem.Spec PyProof.Rows
def TD (om:List Ob):Wv->Option Bool
 |.non=>some false
 |.bl b=>some b
 |.int i=>some (i != 0)
 |.lst ws=>some (!ws.isEmpty)
 |.tup ws=>some (!ws.isEmpty)
 |.o h=>match om[h]? with
  |some (.lst ws)=>some (!ws.isEmpty)
  |some (.dk kvs)=>some (!kvs.isEmpty)
  |_=>none
 |_=>none
def MH (x:Wv):Mw Bool:=fun om=>match TD om x with
 |some b=>some (.ok b,om)
 |none=>none
def XB (f:FE):FT:=fun sl=>bnd (f sl) MH
theorem RWs.isEmpty {F:Hp} {β:List Addr} {ws:List Wv} {vs:List V} (r:RWs F β ws vs):(!ws.isEmpty)=!vs.isEmpty:=by cases r <;> rfl
theorem RK.isEmpty {F:Hp} {β:List Addr} {κ:Type} {ws:List (κ × Wv)} {vs:List (κ × V)} (r:RK F β ws vs):(!ws.isEmpty)=!vs.isEmpty:=by cases r <;> rfl
theorem N4 {K:PySem.W.Frag} {F H:Hp} {β:List Addr} {om:List Ob} {w:Wv} {v:V} {b:Bool} (M:MOk F H β om) (r:RW F β w v) (e:TD om w=some b):Hh K v H b:=by
 cases r with
 |non=>cases e; rfl
 |bl c=>cases e; rfl
 |int i=>cases e; rfl
 |str x=>cases e
 |g _=>cases e
 |lst q rs=>cases e; exact .inl ⟨_,.inl (Rd.same M.sub q),rs.isEmpty⟩
 |tup q rs=>cases e; exact .inr (.inl ⟨_,SqT.of (M.sub _ _ q),rs.isEmpty⟩)
 |o eb =>
  rename_i h a
  have e:(match om[h]? with|some (.lst ws)=>some (!ws.isEmpty)|some (.dk kvs)=>some (!kvs.isEmpty)|_=>none)=some b:=e
  match hx:om[h]?,e with
  |none,e=>exact nomatch e
  |some (.ins _ _),e=>exact nomatch e
  |some (.exc _),e=>exact nomatch e
  |some (.dz _),e=>exact nomatch e
  |some (.dt _),e=>exact nomatch e
  |some (.dk kvs),e =>
   have e:some (!kvs.isEmpty)=some b:=e
   obtain ⟨a',ea,_,ks,hk,rs⟩:=M.at hx
   rw[eb]at ea; cases ea
   cases e
   exact .inr (.inr ⟨ks,hk,rs.isEmpty⟩)
  |some (.lst ws),e =>
   have e:some (!ws.isEmpty)=some b:=e
   obtain ⟨a',ea,_,xs,hxs,rs⟩:=M.at hx
   rw[eb]at ea; cases ea
   cases e
   exact .inl ⟨xs,SqL.of hxs,rs.isEmpty⟩
section
variable {X:Cx} {E:XK} {e a b c o:Expr} {es:List Expr} {f fa fb fc:FE} {fs:FA} {pos p2:Pos}
theorem We (ha:PE X a (tE E fa)) (he:∀whole,isTrue a X.env whole=(do let v ← whole; standAt a.pos; holding [v] (truthy v)):=by intro _; rfl):PT X a (tT E (XB fa)):=(KC ha he).weak fun σ H Q ⟨F,β,om,sl,M,V,R⟩=>by
 refine ⟨F,β,om,sl,M,V,R.bind fun x om1 F1 H1 β1 g1 M1 R1 v rv=>?_⟩
 unfold MH at R1
 match hx:TD om1 x,R1 with
 |none,R1=>exact R1.elim
 |some b,R1=>exact ⟨b,N4 M1 rv hx,(show Res E (ret b om1) F1 H1 β1 _ from R1).now M1⟩
abbrev FO:=Sl->Mw (Option Int)
def Gp:FO:=fun _=>ret none
def Nx:Wv->Mw (Option Int)
 |.int i=>ret (some i)
 |_=>XA
def L9 (f:FE):FO:=fun sl=>bnd (f sl) Nx
def GX (xs:List Wv) (lo hi:Option Int):List Wv:=(xs.drop (HT.sIx xs.length 0 lo)).take (HT.sIx xs.length xs.length hi - HT.sIx xs.length 0 lo)
def kSl (x:Wv) (lo hi:Option Int):Mw Wv:=fun om=>match x with
 |.tup ws=>if HT.sIx ws.length 0 lo=0∧HT.sIx ws.length ws.length hi=ws.length then none else some (.ok (.tup (GX ws lo hi)),om)
 |.lst ws=>some (.ok (.lst (GX ws lo hi)),om)
 |.o h=>match om[h]? with
  |some (.lst ws)=>some (.ok (.lst (GX ws lo hi)),om)
  |_=>none
 |_=>none
def fSl (f:FE) (fl fh:FO):FE:=fun sl=>bnd (f sl) fun x=>bnd (fl sl) fun l=>bnd (fh sl) fun h=>kSl x l h
theorem RK.lookup {F:Hp} {β:List Addr} {k:Str}:∀{ps:List (Str × Wv)} {qs:List (Str × V)},RK F β ps qs->match ps.lookup k with|some w=>∃v,qs.lookup k=some v∧RW F β w v|none=>qs.lookup k=none
 |_,_,.nil=>rfl
 |_,_,.cons (k:=k') h r=>by
  rw[List.lookup_cons,List.lookup_cons]
  cases (k == k') with
  |true=>exact ⟨_,rfl,h⟩
  |false=>exact RK.lookup r
theorem RK.length {F:Hp} {β:List Addr} {κ:Type}:∀{ps:List (κ × Wv)} {qs:List (κ × V)},RK F β ps qs->ps.length=qs.length
 |_,_,.nil=>rfl
 |_,_,.cons _ r=>by rw[List.length_cons,List.length_cons,RK.length r]
def WR (om:List Ob):Wv->Option (Addr × List (Str × Wv))
 |.o h=>match om[h]? with
  |some (.ins C fs)=>some (C,fs)
  |_=>none
 |_=>none
theorem RA {F H:Hp} {β:List Addr} {om:List Ob} {w:Wv} {v:V} {C:Addr} {fs:List (Str × Wv)} (M:MOk F H β om) (r:RW F β w v) (e:WR om w=some (C,fs)) :
    ∃h a dx fs',w=.o h∧om[h]?=some (.ins C fs)∧β[h]?=some a∧v=.ref a∧H a=some (.ins C dx fs')∧RK F β fs fs':=by
 cases r with
 |o eb =>
  rename_i h a
  have e:(match om[h]? with|some (.ins C fs)=>some (C,fs)|_=>none)=some (C,fs):=e
  match hx:om[h]?,e with
  |none,e=>exact nomatch e
  |some (.lst _),e=>exact nomatch e
  |some (.exc _),e=>exact nomatch e
  |some (.dz _),e=>exact nomatch e
  |some (.dt _),e=>exact nomatch e
  |some (.dk kvs),e=>exact nomatch e
  |some (.ins C' fs'),e =>
   have e:some (C',fs')=some (C,fs):=e
   cases e
   obtain ⟨a',ea,_,dx,fs2,hxs,rs⟩:=M.at hx
   have ea2:=ea
   rw[eb]at ea; cases ea
   exact ⟨h,_,dx,fs2,rfl,hx,ea2,rfl,hxs,rs⟩
 |_=>exact nomatch e
def Yb (C:Addr) (n:Str) (x:Wv):Mw Wv:=fun om=>match WR om x with
 |some (C',fs)=>if C'=C then (match fs.lookup n with|some w=>some (.ok w,om)|none=>none) else none
 |none=>none
theorem Yv {C:Addr} {n:Str} (cl:Cls X.K C) (na:NoAttr X.K C n) (he:PE X e (tE E f)) (hb:attributeBase e n X.env (eval e X.env)=eval e X.env:=by rfl):PE X (.Attribute e n pos) (tE E (f1 (Yb C n) f)):=(HX he hb).weak fun σ H Q h=>by
 refine L5 (r:=fun x H1 Q=>∃a C dx fs v,x=.ref a∧H1 a=some (.ins C dx fs)∧Cls X.K C∧NoAttr X.K C n∧fs.lookup n=some v∧Q v H1) ?_ h
 intro F H β om x v Q M rx R
 unfold Yb at R
 match hx:WR om x,R with
 |none,R=>exact R.elim
 |some (C',fs),R =>
  dsimp only at R
  by_cases hc:C'=C
  ·have R1:Res E (match fs.lookup n with|some w=>some (Except.ok w,om)|none=>none) F H β (PV Q):=by
    have:=R
    rw[if_pos hc]at this
    exact this
   clear R
   subst hc
   obtain ⟨h,a,dx,fs',_,_,_,rfl,ha,rs⟩:=RA M rx hx
   have lk:=rs.lookup (k:=n)
   match hl:fs.lookup n,R1,lk with
   |none,R,_=>exact R.elim
   |some w,R,⟨v,ev,rv⟩=>exact ⟨a,C',dx,fs',v,rfl,ha,cl,na,ev,(show Res E (ret w om) F H β (PV Q) from R).now M v rv⟩
  ·rw[if_neg hc]at R; exact R.elim
def Rj (E:XK) (r:List V->Hp->VK->Prop) (k:List Wv->Mw Wv):Prop:=∀{F H:Hp} {β:List Addr} {om:List Ob} {ws:List Wv} {vs:List V} {Q:VK},MOk F H β om->RWs F β ws vs->Res E (k ws om) F H β (PV Q)->r vs H Q
theorem FG {r:List V->Hp->VK->Prop} {k:List Wv->Mw Wv} (hk:Rj E r k) {σ:St} {H:Hp} {Q:VK} (h:tE E (fA k fs) σ H Q):tCB r (tA E fs) σ H Q:=by
 obtain ⟨F,β,om,sl,M,V,R⟩:=h
 exact ⟨F,β,om,sl,M,V,R.bind fun ws om1 F1 H1 β1 g1 M1 R1 vs rs=>hk M1 rs R1⟩
theorem PM {id:String} {x:Str} {p:Pos} {r:List V->Hp->VK->Prop} {k:List Wv->Mw Wv} (hc:CallR X (.builtin id) r) (hk:Rj E r k) (hg:Gl X x) (hm:X.mg x=none) (hv:bootBuiltins x=some (.builtin id)) (ha:PA X (e::es) (tA E fs)) (hn:x≠"__name__":=by decide) (hdb:(x == ("__debug__":Str))=false:=by decide)
    (he:starEach (e::es) X.env=(false,eval e X.env)::starEach es X.env:=by rfl) (hpl:(backTo pos (starEach es X.env)).any (·.1)=false:=by rfl):PE X (.Call (.Name x p) (e::es) [] pos) (tE E (fA k fs)):=(Ph hc hg hm hv ha hn hdb he hpl).weak fun _ _ _ h=>FG hk h
theorem NW {T:String} {x:Str} {p:Pos} {r:List V->Hp->VK->Prop} {k:List Wv->Mw Wv} (hc:CallR X (.type T) r) (hk:Rj E r k) (hg:Gl X x) (hm:X.mg x=none) (hv:bootBuiltins x=some (.type T)) (ha:PA X (e::es) (tA E fs)) (hn:x≠"__name__":=by decide) (hdb:(x == ("__debug__":Str))=false:=by decide)
    (he:starEach (e::es) X.env=(false,eval e X.env)::starEach es X.env:=by rfl) (hpl:(backTo pos (starEach es X.env)).any (·.1)=false:=by rfl):PE X (.Call (.Name x p) (e::es) [] pos) (tE E (fA k fs)):=(Mc hc hg hm hv ha hn hdb he hpl).weak fun _ _ _ h=>FG hk h
def Y7 (ws:List Wv):Mw Wv:=fun om=>match ws with
 |[x]=>match YB om x with
  |some us=>some (.ok (.int us.length),om)
  |none=>match x with
   |.o h=>match om[h]? with
    |some (.dk kvs)=>some (.ok (.int kvs.length),om)
    |_=>none
   |_=>none
 |_=>none
theorem N8:Rj E (fun xs H Q=>(∃p ys,xs=[.ref p]∧(SqL X.K H p ys∨SqT X.K H p ys)∧Q (.int ys.length) H)∨∃a kvs,xs=[V.ref a]∧H a=some (.dK kvs)∧Q (.int kvs.length) H) Y7:=by
 intro F H β om ws vs Q M rs R
 match ws,rs,R with
 |[],_,R=>exact R.elim
 |_::_::_,_,R=>exact R.elim
 |[x],.cons rx .nil,R =>
  unfold Y7 at R
  dsimp only at R
  match hx:YB om x,R with
  |some us,R =>
   obtain ⟨p,xs,rfl,hs,r2⟩:=RQ (X:=X) M rx hx
   refine .inl ⟨p,xs,rfl,hs,?_⟩
   rw[← r2.length]
   exact (show Res E (ret (Wv.int _) om) F H β (PV Q) from R).now M _ (.int _)
  |none,R =>
   cases rx with
   |@o h a eb =>
    have R:Res E (match om[h]? with|some (.dk kvs)=>some (Except.ok (Wv.int kvs.length),om)|_=>none) F H β (PV Q):=R
    match hy:om[h]?,R with
    |none,R=>exact R.elim
    |some (.ins _ _),R=>exact R.elim
    |some (.exc _),R=>exact R.elim
    |some (.dz _),R=>exact R.elim
    |some (.dt _),R=>exact R.elim
    |some (.lst _),R=>exact R.elim
    |some (.dk kvs),R =>
     obtain ⟨a',ea,_,ks,hk,r2⟩:=M.at hy
     rw[eb]at ea; cases ea
     refine .inr ⟨_,ks,rfl,hk,?_⟩
     rw[← r2.length]
     exact (show Res E (ret (Wv.int _) om) F H β (PV Q) from R).now M _ (.int _)
   |_=>exact R.elim
theorem WD {p:Pos} (hg:Gl X "len") (hm:X.mg "len"=none) (ha:PA X [e] (tA E fs)) (he:starEach [e] X.env=(false,eval e X.env)::starEach [] X.env:=by rfl) (hpl:(backTo pos (starEach [] X.env)).any (·.1)=false:=by rfl) :
    PE X (.Call (.Name "len" p) [e] [] pos) (tE E (fA Y7 fs)):=PM (QK.or NO) (N8 (X:=X)) hg hm PySem.boot_len ha (by decide) (by decide) he hpl
end
end
end L2
namespace L2
noncomputable section
open PySem PySem.Spec PyProof.Rows
inductive Kd where
 |non|bl|int|str|lst|tup|dct
 deriving DecidableEq
def Kd.nm:Kd->String
 |.non=>"NoneType"|.bl=>"bool"|.int=>"int"|.str=>"str"|.lst=>"list"|.tup=>"tuple"|.dct=>"dict"
def Kd.isi:Kd->Kd->Bool
 |.non,.non=>true
 |.bl,.bl=>true
 |.bl,.int=>true
 |.int,.int=>true
 |.str,.str=>true
 |.lst,.lst=>true
 |.tup,.tup=>true
 |.dct,.dct=>true
 |_,_=>false
structure KIsi (K:PySem.W.Frag) (T:Kd):Prop where
 non:PySem.W.kitOne K (.type "NoneType") (.type T.nm)=some (Kd.isi .non T)
 bl:PySem.W.kitOne K (.type "bool") (.type T.nm)=some (Kd.isi .bl T)
 int:PySem.W.kitOne K (.type "int") (.type T.nm)=some (Kd.isi .int T)
 str:PySem.W.kitOne K (.type "str") (.type T.nm)=some (Kd.isi .str T)
 lst:PySem.W.kitOne K (.type "list") (.type T.nm)=some (Kd.isi .lst T)
 tup:PySem.W.kitOne K (.type "tuple") (.type T.nm)=some (Kd.isi .tup T)
 dct:PySem.W.kitOne K (.type "dict") (.type T.nm)=some (Kd.isi .dct T)
def J2 (om:List Ob):Wv->Option Kd
 |.non=>some .non
 |.bl _=>some .bl
 |.int _=>some .int
 |.str _=>some .str
 |.lst _=>some .lst
 |.tup _=>some .tup
 |.o h=>match om[h]? with
  |some (.lst _)=>some .lst
  |some (.dk _)=>some .dct
  |some (.dt _)=>some .dct
  |_=>none
 |.g _=>none
def HR (T:Kd) (x:Wv):Mw Wv:=fun om=>match J2 om x with
 |some t=>some (.ok (.bl (Kd.isi t T)),om)
 |none=>none
section
variable {X:Cx} {E:XK} {e a b c o:Expr} {es:List Expr} {f fa fb fc fo:FE} {fs:FA} {pos p2 p p':Pos}
def spM (n:Nat) (g:List Wv->Mw Wv):Sp:=fun vs H Q E=>∃F β om ws,MOk F H β om∧RWs F β ws vs∧ws.length=n∧Res E (g ws om) F H β (PV Q)
def kN (n:Nat) (g:List Wv->Mw Wv) (ws:List Wv):Mw Wv:=bnd (chk (decide (ws.length=n))) fun _=>g ws
theorem R9 {n:Nat} {g:List Wv->Mw Wv} {F H:Hp} {β:List Addr} {om:List Ob} {ws:List Wv} {vs:List V} {Q:VK} (M:MOk F H β om) (rs:RWs F β ws vs) (R:Res E (kN n g ws om) F H β (PV Q)):spM n g vs H Q E:=by
 obtain ⟨hc,R⟩:=Res.chk R
 exact ⟨F,β,om,ws,M,rs,of_decide_eq_true hc,R⟩
variable {CX:CXT} {k n:Nat} {fn C:Addr} {fd:FuncData} {ps:List Str} {g:List Wv->Mw Wv} {x m:Str}
theorem ZF (G:FnOk X.prog X.w X.K X.mg X.base CX k fn fd ps (spM n g)) (hr:Room k X.A) (hg:Gl X x) (hm:X.mg x=some (.ref fn)) (hk:PySem.W.keepIn X.K (.ref fn)=true) (hb:Binds X.K fd ps []) (hx:XW CX X E)
    (ha:PA X (e::es) (tA E fs)) (hdb:(x == ("__debug__":Str))=false:=by decide) (he:starEach (e::es) X.env=(false,eval e X.env)::starEach es X.env:=by rfl) (hpl:(backTo pos (starEach es X.env)).any (·.1)=false:=by rfl) :
    PE X (.Call (.Name x p) (e::es) [] pos) (tE E (fA (kN n g) fs)):=(Jq G hr hg hm hk hb .nil hx ha hdb he hpl).weak fun σ H Q ⟨F,β,om,sl,M,V,R⟩=>by
 refine ⟨F,β,om,sl,M,V,R.bind fun ws om1 F1 H1 β1 g1 M1 R1 vs rs=>?_⟩
 show spM n g (vs++[]) H1 Q E
 rw[List.append_nil]
 exact R9 M1 rs R1
def P1 (C:Addr) (m:Str) (x:Wv):Mw Unit:=fun om=>match WR om x with
 |some (C',fs)=>if C'=C∧fs.lookup m=none then some (.ok (),om) else none
 |none=>none
theorem QS {γ:Type} {k:Unit->Mw γ} {F H:Hp} {β:List Addr} {om:List Ob} {w:Wv} {v:V} {P:γ->Hp->Hp->List Addr->Prop} (M:MOk F H β om) (r:RW F β w v) (R:Res E (bnd (P1 C m w) k om) F H β P) :
    ∃a dx fs',v=.ref a∧H a=some (.ins C dx fs')∧fs'.lookup m=none∧Res E (k () om) F H β P:=by
 unfold bnd P1 at R
 match hx:WR om w,R with
 |none,R=>exact R.elim
 |some (C',fs),R =>
  dsimp only at R
  by_cases hc:C'=C∧fs.lookup m=none
  ·have R1:Res E (k () om) F H β P:=by
    have:=R
    rw[if_pos hc]at this
    exact this
   clear R
   obtain ⟨h,a,dx,fs',_,_,_,rfl,ha,rs⟩:=RA M r hx
   obtain ⟨rfl,hl⟩:=hc
   have lk:=rs.lookup (k:=m)
   rw[hl]at lk
   exact ⟨a,dx,fs',rfl,ha,lk,R1⟩
  ·rw[if_neg hc]at R; exact R.elim
def ZC (C:Addr) (m:Str) (n:Nat) (g:List Wv->Mw Wv) (fo:FE) (fs:FA):FE:=fun sl=>bnd (fo sl) fun x=>bnd (P1 C m x) fun _=>bnd (fs sl) fun ws=>kN n g (x::ws)
theorem OM {dvs:List V} {σ:St} {H:Hp} {Q:VK} (h:tE E (ZC C m n g fo fs) σ H Q):O1 C m (spM n g) [] E (tE E fo) (tA E fs) σ H Q:=by
 obtain ⟨F,β,om,sl,M,V,R⟩:=h
 refine ⟨F,β,om,sl,M,V,R.bind fun x om1 F1 H1 β1 g1 M1 R1 v rv=>?_⟩
 obtain ⟨a,dx,fs',rfl,ha,hl,R2⟩:=QS M1 rv R1
 refine ⟨a,dx,fs',rfl,ha,hl,F1,β1,om1,sl,M1,V.mono g1.toGr,R2.bind fun ws om3 F3 H3 β3 g3 M3 R3 vs rs=>?_⟩
 show spM n g (L2.V.ref a::(vs++[])) H3 Q E
 rw[List.append_nil]
 exact R9 M3 (.cons (rv.mono g3.toGr) rs) R3
theorem Z5 {pl:Sem Bool} {apos:Pos} (ho:PE X o (tE E fo)) (c:Cls X.K C) (hm:Meth X.K C m fn) (G:FnOk X.prog X.w X.K X.mg X.base CX k fn fd ps (spM n g)) (hr:Room k X.A) (hb:Binds X.K fd ps []) (hx:XW CX X E) (ha:PA X (e::es) (tA E fs))
    (hst:starEach (e::es) X.env=(false,eval e X.env)::starEach es X.env:=by rfl) (hpl:(backTo pos (starEach es X.env)).any (·.1)=false:=by rfl)
    (ht:eval (.Call (.Attribute o m apos) (e::es) [] pos) X.env=(do
     let ov ← eval o X.env
     standAt apos.atName
     let (f,first) ← holding [ov] (getMethod ov m pl)
     callWith pos f first (backTo pos (starEach (e::es) X.env)) (backToKw pos (keywordEach [] X.env))):=by rfl) :
    PE X (.Call (.Attribute o m apos) (e::es) [] pos) (tE E (ZC C m n g fo fs)):=(JW ho c hm G hr hb .nil hx ha hst hpl ht).weak fun σ H Q h=>OM (dvs:=[]) h
theorem Ki {pl:Sem Bool} {apos:Pos} (ho:PE X o (tE E fo)) (c:Cls X.K C) (hm:Meth X.K C m fn) (G:FnOk X.prog X.w X.K X.mg X.base CX k fn fd ps (spM n g)) (hr:Room k X.A) (hb:Binds X.K fd ps []) (hx:XW CX X E)
    (ht:eval (.Call (.Attribute o m apos) [] [] pos) X.env=(do
     let ov ← eval o X.env
     standAt apos.atName
     let (f,first) ← holding [ov] (getMethod ov m pl)
     callWith pos f first (backTo pos (starEach [] X.env)) (backToKw pos (keywordEach [] X.env))):=by rfl) :
    PE X (.Call (.Attribute o m apos) [] [] pos) (tE E (ZC C m n g fo Zk)):=(LI ho c hm G hr hb .nil hx (ht:=ht)).weak fun σ H Q ⟨F,β,om,sl,M,V,R⟩=>by
 refine ⟨F,β,om,sl,M,V,R.bind fun x om1 F1 H1 β1 g1 M1 R1 v rv=>?_⟩
 obtain ⟨a,dx,fs',rfl,ha,hl,R2⟩:=QS M1 rv R1
 exact ⟨a,dx,fs',rfl,ha,hl,R9 M1 (.cons rv .nil) R2⟩
def Wt (C:Addr) (n:Nat) (g:List Wv->Mw Wv) (ws:List Wv):Mw Wv:=fun om=>bnd (kN n g (.o om.length::ws)) (fun r=>match r with|.non=>ret (.o om.length)|_=>XA) (om++[.ins C []])
theorem MOk.newU {F H:Hp} {β:List Addr} {om:List Ob} {p:Addr} {o:HO} (M:MOk F H β om) (hp:H p=none):MOk F (upd H p o) β om:=by
 have ne:∀(h:Nat) (a:Addr),β[h]?=some a->a≠p:=fun h a e z=>by
  obtain ⟨y,hy⟩:=M.there e
  rw[z,hp]at hy; cases hy
 exact ⟨fun b u e=>by rw[Zp (Z0 (M.sub _ _ e) hp)]; exact M.sub b u e,M.nd,M.len,M.free,fun h a x e1 e2=>(M.ob h a x e1 e2).mono (Gr.refl _ _) (Zp (ne h a e1))⟩
theorem I0 {F H:Hp} {β:List Addr} {om:List Ob} {ws:List Wv} {vs:List V} {Q:VK} {y dx:Addr} (M:MOk F H β om) (rs:RWs F β ws vs) (R:Res E (Wt C n g ws om) F H β (PV Q)) (hx:H y=none) (hdx:H dx=none) (hne:dx≠y) :
    spM n g (.ref y::(vs++[])) (upd (upd H dx (.own y)) y (.ins C dx [])) (fun v H2=>v=.non∧Q (.ref y) H2) E:=by
 have M1:=M.newU (o:=.own y) hdx
 have g0:=M.gxU (o:=.own y) hdx
 obtain ⟨g2,M2,e2⟩:=M1.newOx (p:=y) (o:=.ins C dx []) (x:=.ins C []) (by rw[Zp hne.symm]; exact hx) fun β' _=>⟨dx,[],Zz,.nil⟩
 rw[List.append_nil]
 refine R9 M2 (.cons (.o e2) (rs.mono g2.toGr)) ((Res.mono (g0.trans g2) R).bind fun r om3 F3 H3 β3 g3 M3 R3 v rv=>?_)
 cases rv with
 |non=>exact ⟨rfl,(show Res E (ret (Wv.o om.length) om3) F3 H3 β3 (PV Q) from R3).now M3 _ (.o (g3.pre _ _ e2))⟩
 |_=>exact R3.elim
theorem Qe (Mk':Mk X.K C fn) (G:FnOk X.prog X.w X.K X.mg X.base CX k fn fd ps (spM n g)) (hr:Room (k+1) X.A) (hg:Gl X x) (hm:X.mg x=some (.ref C)) (hb:Binds X.K fd ps []) (hx:XW CX X E)
    (ha:PA X (e::es) (tA E fs)) (hdb:(x == ("__debug__":Str))=false:=by decide) (he:starEach (e::es) X.env=(false,eval e X.env)::starEach es X.env:=by rfl) (hpl:(backTo pos (starEach es X.env)).any (·.1)=false:=by rfl) :
    PE X (.Call (.Name x p) (e::es) [] pos) (tE E (fA (Wt C n g) fs)):=(J3 Mk' G hr hg hm hb .nil hx ha hdb he hpl).weak fun σ H Q ⟨F,β,om,sl,M,V,R⟩ =>
 ⟨F,β,om,sl,M,V,R.bind fun ws om1 F1 H1 β1 g1 M1 R1 vs rs y dx h1 h2 h3=>I0 M1 rs R1 h1 h2 h3⟩
def Wc (om:List Ob):Wv->Option (Nat × List Wv)
 |.o h=>match om[h]? with
  |some (.lst ws)=>some (h,ws)
  |_=>none
 |_=>none
theorem UW {F H:Hp} {β:List Addr} {om:List Ob} {w:Wv} {v:V} {h:Nat} {ws:List Wv} (M:MOk F H β om) (r:RW F β w v) (e:Wc om w=some (h,ws)) :
    ∃a xs,w=.o h∧om[h]?=some (.lst ws)∧β[h]?=some a∧v=.ref a∧H a=some (.lst xs)∧RWs F β ws xs:=by
 cases r with
 |@o h' a eb =>
  have e:(match om[h']? with|some (.lst ws)=>some (h',ws)|_=>none)=some (h,ws):=e
  match hx:om[h']?,e with
  |none,e=>exact nomatch e
  |some (.ins _ _),e=>exact nomatch e
  |some (.exc _),e=>exact nomatch e
  |some (.dz _),e=>exact nomatch e
  |some (.dt _),e=>exact nomatch e
  |some (.dk kvs),e=>exact nomatch e
  |some (.lst us),e =>
   have e:some (h',us)=some (h,ws):=e
   cases e
   obtain ⟨a',ea,_,xs,hxs,rs⟩:=M.at hx
   have ea2:=ea
   rw[eb]at ea; cases ea
   exact ⟨_,xs,rfl,hx,ea2,rfl,hxs,rs⟩
 |_=>exact nomatch e
def Jv (x:Wv):Mw Unit:=fun om=>match Wc om x with
 |some _=>some (.ok (),om)
 |none=>none
theorem KG {γ:Type} {k:Unit->Mw γ} {F H:Hp} {β:List Addr} {om:List Ob} {w:Wv} {v:V} {P:γ->Hp->Hp->List Addr->Prop} (M:MOk F H β om) (r:RW F β w v) (R:Res E (bnd (Jv w) k om) F H β P) :
    tyV X.K "list" v H∧Res E (k () om) F H β P:=by
 unfold bnd Jv at R
 match hx:Wc om w,R with
 |none,R=>exact R.elim
 |some (h,ws),R =>
  obtain ⟨a,xs,_,_,_,rfl,ha,_⟩:=UW M r hx
  exact ⟨.inl ⟨rfl,xs,SqL.of ha⟩,R⟩
def HK (x y:Wv):Mw Wv:=fun om=>match Wc om x with
 |some (h,ws)=>if ws.length < lim then some (.ok .non,om.set h (.lst (ws++[y]))) else none
 |none=>none
def SX (fo f:FE):FE:=fun sl=>bnd (fo sl) fun x=>bnd (Jv x) fun _=>bnd (f sl) fun y=>HK x y
theorem WP {apos cpos:Pos} (ho:PE X o (tE E fo)) (he:PE X e (tE E f)) (hbase:attributeBase o "append" X.env (eval o X.env)=eval o X.env:=by rfl)
    (hfew:((backTo cpos (starEach [e] X.env)).all (fun x=>!x.1)&&(backToKw cpos (keywordEach [] X.env)).all (fun x=>x.1.isSome)
     && decide (([e]:List Expr).length+([]:List Keyword).length+(if ([]:List Keyword).isEmpty then 0 else 1) < 30))=true:=by rfl)
    (hline:(apos.endLine == cpos.line)=true:=by rfl) (hs:starEach [e] X.env=(false,eval e X.env)::starEach [] X.env:=by rfl) (hplain:(backTo cpos (starEach [] X.env)).any (·.1)=false:=by rfl) :
    PE X (.Call (.Attribute o "append" apos) [e] [] cpos) (tE E (SX fo f)):=(Fq PySem.F.plainAttrs_list PySem.F.slot_list_append PySem.F.type_list_append MA ho (Vv he Sd hs) hbase hfew hline hs hplain).weak fun σ H Q ⟨F,β,om,sl,M,V,R⟩=>by
 refine ⟨F,β,om,sl,M,V,R.bind fun x om1 F1 H1 β1 g1 M1 R1 v rv=>?_⟩
 obtain ⟨ty,R2⟩:=KG (X:=X) M1 rv R1
 refine ⟨ty,F1,β1,om1,sl,M1,V.mono g1.toGr,R2.bind fun y om3 F3 H3 β3 g3 M3 R3 u ru=>?_⟩
 show No v [u] H3 Q
 unfold HK at R3
 match hx:Wc om3 x,R3 with
 |none,R3=>exact R3.elim
 |some (h,ws),R3 =>
  dsimp only at R3
  obtain ⟨a,xs,_,_,eb,rfl,ha,rs⟩:=UW M3 (rv.mono g3.toGr) hx
  by_cases hc:ws.length < lim
  ·rw[if_pos hc]at R3
   have:=Vm
   have:=rs.length
   refine ⟨a,xs,u,rfl,rfl,ha,by omega,?_⟩
   exact R3 F3 _ β3 (M3.gxP eb (nz ha)) (M3.put eb ⟨xs++[u],Zz,rs.append (.cons ru .nil)⟩) _ .non
  ·rw[if_neg hc]at R3; exact R3.elim
def GW (x:Wv):Mw Wv:=fun om=>match Wc om x with
 |some (h,_)=>some (.ok .non,om.set h (.lst []))
 |none=>none
end
end
end L2
namespace L2
noncomputable section
open PySem PySem.Spec PyProof.Rows
def YK:Wv->Option Key
 |.int i=>some (.inl i)
 |.str x=>some (.inr x)
 |_=>none
def Wg:List Wv->Option (List Key)
 |[]=>some []
 |w::r=>match YK w,Wg r with
  |some k,some ks=>some (k::ks)
  |_,_=>none
theorem Vz {F:Hp} {β:List Addr} {w:Wv} {v:V} {k:Key} (r:RW F β w v) (e:YK w=some k):v=kV k:=by
 cases r <;> first|(cases e; rfl)|exact nomatch e
theorem VV {F:Hp} {β:List Addr}:∀{ws:List Wv} {vs:List V} {ks:List Key},RWs F β ws vs->Wg ws=some ks->vs=ks.map kV
 |_,_,_,.nil,e=>by unfold Wg at e; cases e; rfl
 |_,_,_,.cons (w:=w) (ws:=ws) h r,e=>by
  unfold Wg at e
  match h1:YK w,h2:Wg ws,e with
  |some k,some ks,e =>
   have e:some (k::ks)=some _:=e
   cases e
   rw[List.map_cons,← Vz h h1,← VV r h2]
  |some k,none,e=>exact nomatch e
  |none,_,e=>exact nomatch e
section
variable {κ:Type} [DecidableEq κ]
def WT (kvs:List (κ × Wv)) (k:κ):Option Wv:=(kvs.find? fun kv=>decide (kv.1=k)).map (·.2)
def Wl (kvs:List (κ × Wv)) (k:κ) (v:Wv):List (κ × Wv) :=
 if (kvs.any fun kv=>decide (kv.1=k))=true then kvs.map (fun kv=>if kv.1=k then (kv.1,v) else kv) else kvs++[(k,v)]
def LO (kvs:List (κ × Wv)) (k:κ):List (κ × Wv):=kvs.filter fun kv=>decide (kv.1≠k)
variable {F:Hp} {β:List Addr}
def ROp (F:Hp) (β:List Addr) (o:Option Wv) (u:Option V):Prop:=match o with
 |some w=>∃v,u=some v∧RW F β w v
 |none=>u=none
theorem RK.val:∀{ps:List (κ × Wv)} {qs:List (κ × V)},RK F β ps qs->∀k,ROp F β (WT ps k) (Ug qs k)
 |_,_,.nil,_=>rfl
 |_,_,.cons (k:=k') h r,k=>by
  unfold WT Ug
  rw[List.find?_cons,List.find?_cons]
  by_cases hk:k'=k
  ·simp only[hk,decide_true]; exact ⟨_,rfl,h⟩
  ·simp only[hk,decide_false]; exact RK.val r k
theorem RK.any:∀{ps:List (κ × Wv)} {qs:List (κ × V)},RK F β ps qs->∀k,(ps.any fun kv=>decide (kv.1=k))=(qs.any fun kv=>decide (kv.1=k))
 |_,_,.nil,_=>rfl
 |_,_,.cons (k:=k') h r,k=>by rw[List.any_cons,List.any_cons,RK.any r k]
theorem RK.repl {k:κ} {w:Wv} {v:V} (h:RW F β w v):∀{ps:List (κ × Wv)} {qs:List (κ × V)},RK F β ps qs->RK F β (ps.map fun kv=>if kv.1=k then (kv.1,w) else kv) (qs.map fun kv=>if kv.1=k then (kv.1,v) else kv)
 |_,_,.nil=>.nil
 |_,_,.cons (k:=k') h' r=>by
  rw[List.map_cons,List.map_cons]
  by_cases hk:k'=k
  ·simp only[hk,if_true]; exact .cons h (RK.repl h r)
  ·simp only[hk,if_false]; exact .cons h' (RK.repl h r)
theorem RK.append:∀{ps:List (κ × Wv)} {qs:List (κ × V)} {ps':List (κ × Wv)} {qs':List (κ × V)},RK F β ps qs->RK F β ps' qs'->RK F β (ps++ps') (qs++qs')
 |_,_,_,_,.nil,s=>s
 |_,_,_,_,.cons h r,s=>.cons h (RK.append r s)
theorem RK.put {ps:List (κ × Wv)} {qs:List (κ × V)} {k:κ} {w:Wv} {v:V} (r:RK F β ps qs) (h:RW F β w v):RK F β (Wl ps k w) (Ub qs k v):=by
 unfold Wl Ub
 rw[r.any k]
 by_cases hc:(qs.any fun kv=>decide (kv.1=k))=true
 ·rw[if_pos hc,if_pos hc]; exact r.repl h
 ·rw[if_neg hc,if_neg hc]; exact r.append (.cons h .nil)
theorem RK.drop {k:κ}:∀{ps:List (κ × Wv)} {qs:List (κ × V)},RK F β ps qs->RK F β (LO ps k) (OW qs k)
 |_,_,.nil=>.nil
 |_,_,.cons (k:=k') h r=>by
  unfold LO OW
  rw[List.filter_cons,List.filter_cons]
  by_cases hk:k'=k
  ·simp only[hk,ne_eq,not_true_eq_false,decide_false]; exact RK.drop r
  ·simp only[hk,ne_eq,not_false_eq_true,decide_true]; exact .cons h (RK.drop r)
end
def X6 (om:List Ob) (d key:Wv):Option (Option Wv):=match d with
 |.o h=>match om[h]? with
  |some (.dk kvs)=>match YK key with
   |some k=>some (WT kvs k)
   |none=>none
  |some (.dz kvs)=>match YK key with
   |some k=>some (WT kvs k)
   |none=>none
  |some (.dt kvs)=>match key with
   |.tup ws=>match Wg ws with
    |some ks=>some (WT kvs ks)
    |none=>none
   |_=>none
  |_=>none
 |_=>none
theorem V5 {F H:Hp} {β:List Addr} {om:List Ob} {d key:Wv} {vd vk:V} {r:Option Wv} (M:MOk F H β om) (rd:RW F β d vd) (rk:RW F β key vk) (e:X6 om d key=some r):∃a o,vd=.ref a∧DGet H a vk o∧ROp F β r o:=by
 cases rd with
 |@o h a eb =>
  unfold X6 at e
  dsimp only at e
  match hx:om[h]?,e with
  |none,e=>exact nomatch e
  |some (.ins _ _),e=>exact nomatch e
  |some (.exc _),e=>exact nomatch e
  |some (.lst _),e=>exact nomatch e
  |some (.dk kvs),e =>
   obtain ⟨a',ea,_,ks,hk,rs⟩:=M.at hx
   rw[eb]at ea; cases ea
   dsimp only at e
   match h1:YK key,e with
   |none,e=>exact nomatch e
   |some k,e =>
    have e:some (WT kvs k)=some r:=e
    cases e
    rw[Vz rk h1]
    exact ⟨_,_,rfl,DGet.k hk,rs.val k⟩
  |some (.dz kvs),e =>
   obtain ⟨a',ea,_,ob,ks,hk,rs⟩:=M.at hx
   rw[eb]at ea; cases ea
   dsimp only at e
   match h1:YK key,e with
   |none,e=>exact nomatch e
   |some k,e =>
    have e:some (WT kvs k)=some r:=e
    cases e
    rw[Vz rk h1]
    exact ⟨_,_,rfl,.inl ⟨ks,k,.inr ⟨ob,hk⟩,rfl,rfl⟩,rs.val k⟩
  |some (.dt kvs),e =>
   obtain ⟨a',ea,_,ks,hk,rs⟩:=M.at hx
   rw[eb]at ea; cases ea
   dsimp only at e
   cases rk with
   |@tup b xs ws q rw' =>
    dsimp only at e
    match h1:Wg ws,e with
    |none,e=>exact nomatch e
    |some k,e =>
     have e:some (WT kvs k)=some r:=e
     cases e
     have hb:=M.sub _ _ q
     rw[VV rw' h1]at hb
     exact ⟨_,_,rfl,DGet.t hk hb,rs.val k⟩
   |_=>exact nomatch e
 |_=>unfold X6 at e; cases e
def T8 (om:List Ob) (d key w:Wv):Option (List Ob):=match d with
 |.o h=>match om[h]? with
  |some (.dk kvs)=>match YK key with
   |some k=>if kvs.length < lim then some (om.set h (.dk (Wl kvs k w))) else none
   |none=>none
  |some (.dt kvs)=>match key with
   |.tup ws=>match Wg ws with
    |some ks=>if kvs.length < lim then some (om.set h (.dt (Wl kvs ks w))) else none
    |none=>none
   |_=>none
  |_=>none
 |_=>none
theorem KD {F H:Hp} {β:List Addr} {om om':List Ob} {d key w:Wv} {vd vk v:V} (M:MOk F H β om) (rd:RW F β d vd) (rk:RW F β key vk) (rw':RW F β w v) (e:T8 om d key w=some om'):∃a H',vd=.ref a∧DPut H a vk v H'∧Gx F F H H' β β∧MOk F H' β om':=by
 have hlim:=Vm
 cases rd with
 |@o h a eb =>
  unfold T8 at e
  dsimp only at e
  match hx:om[h]?,e with
  |none,e=>exact nomatch e
  |some (.ins _ _),e=>exact nomatch e
  |some (.exc _),e=>exact nomatch e
  |some (.dz _),e=>exact nomatch e
  |some (.lst _),e=>exact nomatch e
  |some (.dk kvs),e =>
   obtain ⟨a',ea,_,ks,hk,rs⟩:=M.at hx
   have eb2:=ea
   rw[eb]at ea; cases ea
   dsimp only at e
   match h1:YK key,e with
   |none,e=>exact nomatch e
   |some k,e =>
    have e:(if kvs.length < lim then some (om.set h (.dk (Wl kvs k w))) else none)=some om':=e
    by_cases hc:kvs.length < lim
    ·rw[if_pos hc]at e
     cases e
     rw[Vz rk h1]
     have:=rs.length
     exact ⟨_,_,rfl,DPut.k hk (by omega),M.gxP eb2 (nz hk),M.put eb2 ⟨_,Zz,rs.put rw'⟩⟩
    ·rw[if_neg hc]at e; exact nomatch e
  |some (.dt kvs),e =>
   obtain ⟨a',ea,_,ks,hk,rs⟩:=M.at hx
   have eb2:=ea
   rw[eb]at ea; cases ea
   dsimp only at e
   cases rk with
   |@tup b xs ws q rw2 =>
    dsimp only at e
    match h1:Wg ws,e with
    |none,e=>exact nomatch e
    |some k,e =>
     have e:(if kvs.length < lim then some (om.set h (.dt (Wl kvs k w))) else none)=some om':=e
     by_cases hc:kvs.length < lim
     ·rw[if_pos hc]at e
      cases e
      have hb:=M.sub _ _ q
      rw[VV rw2 h1]at hb
      have:=rs.length
      exact ⟨_,_,rfl,DPut.t hk hb (by omega),M.gxP eb2 (nz hk),M.put eb2 ⟨_,Zz,rs.put rw'⟩⟩
     ·rw[if_neg hc]at e; exact nomatch e
   |_=>exact nomatch e
 |_=>unfold T8 at e; cases e
def US (neg:Bool) (key d:Wv):Mw Wv:=fun om=>match X6 om d key with
 |some r=>some (.ok (.bl (if neg then !r.isSome else r.isSome)),om)
 |none=>none
def isD (om:List Ob):Wv->Bool
 |.o h=>match om[h]? with
  |some (.dk _)=>true
  |some (.dz _)=>true
  |some (.dt _)=>true
  |_=>false
 |_=>false
def Uv (x:Wv):Mw Unit:=fun om=>if isD om x=true then some (.ok (),om) else none
def SB (d key:Wv):Mw Wv:=fun om=>match X6 om d key with
 |some r=>some (.ok (r.getD .non),om)
 |none=>none
def U5 (d key z:Wv):Mw Wv:=fun om=>match X6 om d key with
 |some r=>some (.ok (r.getD z),om)
 |none=>none
def U9 (fd fk:FE):FE:=fun sl=>bnd (fd sl) fun d=>bnd (Uv d) fun _=>bnd (fk sl) fun k=>SB d k
def TN (fd fk fz:FE):FE:=fun sl=>bnd (fd sl) fun d=>bnd (Uv d) fun _=>bnd (fk sl) fun k=>bnd (fz sl) fun z=>U5 d k z
def Ja (d key:Wv):Mw Wv:=fun om=>match d with
 |.o h=>match om[h]? with
  |some (.dk kvs)=>match YK key with
   |some k=>match WT kvs k with
    |some w=>some (.ok w,om.set h (.dk (LO kvs k)))
    |none=>none
   |none=>none
  |_=>none
 |_=>none
def Hn (fd fk:FE):FE:=fun sl=>bnd (fd sl) fun d=>bnd (Uv d) fun _=>bnd (fk sl) fun k=>Ja d k
section
variable {X:Cx} {E:XK} {e a b c o i:Expr} {fd fk fz:FE} {pos p2 p apos cpos:Pos}
theorem ROp.isSome {F:Hp} {β:List Addr} {r:Option Wv} {o:Option V} (h:ROp F β r o):r.isSome=o.isSome:=by
 match r,h with
 |some w,⟨v,e,_⟩=>rw[e]; rfl
 |none,h=>rw[show o=none from h]; rfl
theorem ROp.getD {F:Hp} {β:List Addr} {r:Option Wv} {o:Option V} {w:Wv} {v:V} (h:ROp F β r o) (q:RW F β w v):RW F β (r.getD w) (o.getD v):=by
 match r,h with
 |some w,⟨v,e,h⟩=>rw[e]; exact h
 |none,h=>rw[show o=none from h]; exact q
theorem Hi (hu:X.A.units+64 < cLine) (hi:PE X i (tE E fk)) (ho:PE X o (tE E fd)) (h1:behindInMarks .In o=false:=by with_unfolding_all rfl):PE X (.Compare i [.In] [o] pos) (tE E (f2 (US false) fk fd)):=(Kx (Ll (by omega) hi ho) h1).weak fun σ H Q h=>by
 refine P0 (r:=fun y x H2 Q=>∃a o,x=.ref a∧DGet H2 a y o∧Q (.bl o.isSome) H2) ?_ h
 intro F H β om y x u v Q M ry rx R
 unfold US at R
 match hx:X6 om x y,R with
 |none,R=>exact R.elim
 |some r,R =>
  obtain ⟨a,o',rfl,hg,ro⟩:=V5 M rx ry hx
  refine ⟨a,o',rfl,hg,?_⟩
  rw[← ro.isSome]
  exact (show Res E (ret (Wv.bl r.isSome) om) F H β (PV Q) from R).now M _ (.bl _)
theorem GL (hu:X.A.units+64 < cLine) (hi:PE X i (tE E fk)) (ho:PE X o (tE E fd)) (h1:behindInMarks .In o=false:=by with_unfolding_all rfl):PT X (.Compare i [.In] [o] pos) (tT E (fB (f2 (US false) fk fd))):=(Ou (Ll (by omega) hi ho) h1).weak fun σ H Q h=>by
 refine P0 (r:=fun y x H2 Q=>∃a o,x=.ref a∧DGet H2 a y o∧Q (.bl o.isSome) H2) ?_ (Lm h)
 intro F H β om y x u v Q M ry rx R
 unfold US at R
 match hx:X6 om x y,R with
 |none,R=>exact R.elim
 |some r,R =>
  obtain ⟨a,o',rfl,hg,ro⟩:=V5 M rx ry hx
  refine ⟨a,o',rfl,hg,?_⟩
  rw[← ro.isSome]
  exact (show Res E (ret (Wv.bl r.isSome) om) F H β (PV Q) from R).now M _ (.bl _)
theorem PN {γ:Type} {k:Unit->Mw γ} {F H:Hp} {β:List Addr} {om:List Ob} {w:Wv} {v:V} {P:γ->Hp->Hp->List Addr->Prop} (M:MOk F H β om) (r:RW F β w v) (R:Res E (bnd (Uv w) k om) F H β P):∃a,v=.ref a∧IsD H a∧Res E (k () om) F H β P:=by
 by_cases hc:isD om w=true
 ·have e1:Uv w om=some (.ok (),om):=if_pos hc
  unfold bnd at R
  rw[e1]at R
  have R1:Res E (k () om) F H β P:=R
  clear R
  cases r with
  |@o h a eb =>
   refine ⟨a,rfl,?_,R1⟩
   have hc:(match om[h]? with|some (.dk _)=>true|some (.dz _)=>true|some (.dt _)=>true|_=>false)=true:=hc
   match hx:om[h]?,hc with
   |none,e=>exact nomatch e
   |some (.ins _ _),e=>exact nomatch e
   |some (.exc _),e=>exact nomatch e
   |some (.lst _),e=>exact nomatch e
   |some (.dk kvs),e =>
    obtain ⟨a',ea,_,ks,hk,rs⟩:=M.at hx
    rw[eb]at ea; cases ea
    exact .inl ⟨ks,.inl hk⟩
   |some (.dz kvs),e =>
    obtain ⟨a',ea,_,ob,ks,hk,rs⟩:=M.at hx
    rw[eb]at ea; cases ea
    exact .inl ⟨ks,.inr ⟨ob,hk⟩⟩
   |some (.dt kvs),e =>
    obtain ⟨a',ea,_,ks,hk,rs⟩:=M.at hx
    rw[eb]at ea; cases ea
    exact .inr ⟨ks,.inl hk⟩
  |_=>exact nomatch hc
 ·have e1:Uv w om=none:=if_neg hc
  unfold bnd at R
  rw[e1]at R
  exact R.elim
theorem K2 (hu:X.A.units+64 < cLine) (ho:PE X o (tE E fd)) (he:PE X e (tE E fk)) (m:M1 X o "get" apos e cpos:=by exact ⟨rfl,rfl,rfl,rfl⟩):PE X (.Call (.Attribute o "get" apos) [e] [] cpos) (tE E (U9 fd fk)):=(LJ (by omega) ho he m).weak fun σ H Q ⟨F,β,om,sl,M,V,R⟩=>by
 refine ⟨F,β,om,sl,M,V,R.bind fun x om1 F1 H1 β1 g1 M1 R1 v rv=>?_⟩
 obtain ⟨a,rfl,hd,R2⟩:=PN M1 rv R1
 refine ⟨a,rfl,hd,F1,β1,om1,sl,M1,V.mono g1.toGr,R2.bind fun y om3 F3 H3 β3 g3 M3 R3 u ru=>?_⟩
 unfold SB at R3
 match hx:X6 om3 x y,R3 with
 |none,R=>exact R.elim
 |some r,R =>
  obtain ⟨a',o',e,hg,ro⟩:=V5 M3 (rv.mono g3.toGr) ru hx
  cases e
  exact ⟨o',hg,(show Res E (ret (r.getD Wv.non) om3) F3 H3 β3 _ from R).now M3 _ (ro.getD .non)⟩
theorem O9 {f':Expr} (hu:X.A.units+64 < cLine) (ho:PE X o (tE E fd)) (he:PE X e (tE E fk)) (hf:PE X f' (tE E fz)) (m:M2 X o "get" apos e f' cpos:=by exact ⟨rfl,rfl,rfl,rfl⟩):PE X (.Call (.Attribute o "get" apos) [e,f'] [] cpos) (tE E (TN fd fk fz)):=(Lz (by omega) ho he hf m).weak fun σ H Q ⟨F,β,om,sl,M,V,R⟩=>by
 refine ⟨F,β,om,sl,M,V,R.bind fun x om1 F1 H1 β1 g1 M1 R1 v rv=>?_⟩
 obtain ⟨a,rfl,hd,R2⟩:=PN M1 rv R1
 refine ⟨a,rfl,hd,F1,β1,om1,sl,M1,V.mono g1.toGr,R2.bind fun y om3 F3 H3 β3 g3 M3 R3 u ru=>?_⟩
 refine ⟨F3,β3,om3,sl,M3,V.mono (g1.trans g3).toGr,R3.bind fun z om4 F4 H4 β4 g4 M4 R4 zv rz=>?_⟩
 unfold U5 at R4
 match hx:X6 om4 x y,R4 with
 |none,R=>exact R.elim
 |some r,R =>
  obtain ⟨a',o',e,hg,ro⟩:=V5 M4 (rv.mono (g3.trans g4).toGr) (ru.mono g4.toGr) hx
  cases e
  exact ⟨o',hg,(show Res E (ret (r.getD z) om4) F4 H4 β4 _ from R).now M4 _ (ro.getD rz)⟩
theorem Pv:PE X (.Dict [] [] pos) (tE E fun _=>newO (.dk [])):=Ks.weak fun σ H Q ⟨F,β,om,sl,M,V,R⟩ p hp=>Res.newO R M hp fun β' _=>⟨[],Zz,.nil⟩
theorem KA:PE X (.Dict [] [] pos) (tE E fun _=>newO (.dt [])):=Lg.weak fun σ H Q ⟨F,β,om,sl,M,V,R⟩ p hp=>Res.newO R M hp fun β' _=>⟨[],Zz,.nil⟩
end
end
end L2
namespace L2
noncomputable section
open PySem PySem.Spec PyProof.Rows
def Yq:FS:=fun sl=>ret (.nx,sl)
def Mi (S:FS):Fl × Sl->Mw (Fl × Sl)
 |(.nx,sl)=>S sl
 |x=>ret x
def ZB (S1 S2:FS):FS:=fun sl=>bnd (S1 sl) (Mi S2)
def ZO (i:Nat) (f:FE):FS:=fun sl=>bnd (f sl) fun w=>ret (.nx,sl.set i (some w))
def ZP (f:FE):FS:=fun sl=>bnd (f sl) fun _=>ret (.nx,sl)
def Yk (f:FE):FS:=fun sl=>bnd (f sl) fun w=>ret (.rt w,sl)
def PK:FS:=fun sl=>ret (.rt .non,sl)
def sIf (c:FT) (S1 S2:FS):FS:=fun sl=>bnd (c sl) fun b=>if b=true then S1 sl else S2 sl
section
variable {X:Cx} {E:XK} {st:Stmt} {rest:List Stmt} {e:Expr} {f fo fi fv:FE} {S S1 S2:FS} {c:FT} {pos:Pos}
theorem ZM:PSs X [] (tS E Yq):=K6.weak fun D σ H ⟨F,β,om,sl,M,V,R⟩=>(show Res E (ret (Fl.nx,sl) om) F H β (FlP D) from R).now M σ V
theorem Zj (h1:PS X st (tS E S1)) (h2:PSs X rest (tS E S2)):PSs X (st::rest) (tS E (ZB S1 S2)):=(Lr h1 h2).weak fun D σ H ⟨F,β,om,sl,M,V,R⟩=>by
 refine ⟨F,β,om,sl,M,V,R.bind fun x om1 F1 H1 β1 g1 M1 R1=>?_⟩
 obtain ⟨fl,sl1⟩:=x
 cases fl with
 |nx=>exact fun σ' V'=>⟨F1,β1,om1,sl1,M1,V',R1⟩
 |bk=>exact (show Res E (ret (Fl.bk,sl1) om1) F1 H1 β1 (FlP D) from R1).now M1
 |ct=>exact (show Res E (ret (Fl.ct,sl1) om1) F1 H1 β1 (FlP D) from R1).now M1
 |rt w=>exact (show Res E (ret (Fl.rt w,sl1) om1) F1 H1 β1 (FlP D) from R1).now M1
theorem Zn (h1:PS X st (tS E S1)):PSs X [st] (tS E S1):=Jn h1
theorem Z8 {i:Nat} {x:Str} {pos':Pos} (hN:X.N.Nodup) (hi:X.N[i]?=some x) (hx:Loc X.env.scope x) (he:PE X e (tE E f)) (hs:swapsWith e (some (.Name x pos')) pos.line X.env=pure false:=by rfl) (hf:X.fn x=true∨X.env.scope.names.lookup x=some .local:=by first|exact .inl rfl|exact .inr rfl|assumption) :
    PS X (.Assign [.Name x pos'] e pos) (tS E (ZO i f)):=(Hk hN hi hx he hs hf).weak fun D σ H ⟨F,β,om,sl,M,V,R⟩ =>
 ⟨F,β,om,sl,M,V,R.bind fun x om1 F1 H1 β1 g1 M1 R1 v rv=>(show Res E (ret (Fl.nx,sl.set i (some x)) om1) F1 H1 β1 (FlP D) from R1).now M1 _ ((V.mono g1.toGr).set i rv)⟩
theorem Z3 (he:PE X e (tE E f)) (hs:swapsWith e none pos.line X.env=pure false:=by rfl):PS X (.Expr e pos) (tS E (ZP f)):=(Jh he hs).weak fun D σ H ⟨F,β,om,sl,M,V,R⟩ =>
 ⟨F,β,om,sl,M,V,R.bind fun x om1 F1 H1 β1 g1 M1 R1 v rv=>(show Res E (ret (Fl.nx,sl) om1) F1 H1 β1 (FlP D) from R1).now M1 _ (V.mono g1.toGr)⟩
theorem ZU (he:PE X e (tE E f)):PS X (.Return (some e) pos) (tS E (Yk f)):=(Ht he).weak fun D σ H ⟨F,β,om,sl,M,V,R⟩ =>
 ⟨F,β,om,sl,M,V,R.bind fun x om1 F1 H1 β1 g1 M1 R1 v rv=>(show Res E (ret (Fl.rt x,sl) om1) F1 H1 β1 (FlP D) from R1).now M1 _ rv⟩
theorem K5:PS X (.Return none pos) (tS E PK):=JP.weak fun D σ H ⟨F,β,om,sl,M,V,R⟩=>(show Res E (ret (Fl.rt .non,sl) om) F H β (FlP D) from R).now M _ .non
theorem J7 {D:Ends} {σ:St} {H:Hp} (h:tS E (sIf c S1 S2) D σ H):Hf (tT E c) (tS E S1) (tS E S2) D σ H:=by
 obtain ⟨F,β,om,sl,M,V,R⟩:=h
 refine ⟨F,β,om,sl,M,V,R.bind fun b om1 F1 H1 β1 g1 M1 R1=>?_⟩
 cases b with
 |true=>rw[if_pos rfl]at R1 ⊢; exact ⟨F1,β1,om1,sl,M1,V.mono g1.toGr,R1⟩
 |false=>rw[if_neg Bool.false_ne_true]at R1 ⊢; exact ⟨F1,β1,om1,sl,M1,V.mono g1.toGr,R1⟩
theorem Z9 {t:Expr} {a b:List Stmt} (hc:PT X t (tT E c)) (ha:PSs X a (tS E S1)) (hb:PSs X b (tS E S2)):PS X (.If t a b pos) (tS E (sIf c S1 S2)):=(Fm hc ha hb).weak fun D σ H h=>J7 h
def Sx (o i v:Wv):Mw Unit:=fun om=>match Wc om o,i with
 |some (h,ws),.int k=>match ixN ws.length k with
  |some j=>some (.ok (),om.set h (.lst (ws.set j v)))
  |none=>none
 |_,_=>none
def YY (fv fo fi:FE):FS:=fun sl=>bnd (fv sl) fun v=>bnd (fo sl) fun o=>bnd (fi sl) fun i=>bnd (Sx o i v) fun _=>ret (.nx,sl)
theorem X1 {o i v:Expr} {p1:Pos} (hv:PE X v (tE E fv)) (ho:PE X o (tE E fo)) (hi:PE X i (tE E fi)) {w} (hg:PG X (.Subscript o i p1) (Fn (tE E fo) (tE E fi) Iw):=by exact Wy ‹_› ‹_› Xh)
    (hs:swapsWithSole [.Subscript o i p1] v pos.line X.env=pure false:=by rfl) (hw:swappedStores [.Subscript o i p1] v X.env=pure w:=by rfl)
    (h1:(assignEach [.Subscript o i p1] X.env).map (·.2)=[assign (.Subscript o i p1) X.env]:=by rfl) (hwn:w=none:=by rfl):PS X (.Assign [.Subscript o i p1] v pos) (tS E (YY fv fo fi)):=by
 subst hwn
 refine (HV hv hg hs hw h1).weak fun D σ H ⟨F,β,om,sl,M,V,R⟩=>?_
 refine ⟨F,β,om,sl,M,V,R.bind fun x om1 F1 H1 β1 g1 M1 R1 xv rx=>?_⟩
 refine ⟨F1,β1,om1,sl,M1,V.mono g1.toGr,R1.bind fun y om2 F2 H2 β2 g2 M2 R2 yv ry=>?_⟩
 refine ⟨F2,β2,om2,sl,M2,V.mono (g1.trans g2).toGr,R2.bind fun z om3 F3 H3 β3 g3 M3 R3 zv rz=>?_⟩
 unfold bnd Sx at R3
 match hx:Wc om3 y,z,rz,R3 with
 |none,_,_,R3=>exact R3.elim
 |some (h,ws),.int k,.int _,R3 =>
  dsimp only at R3
  obtain ⟨a,xs,_,_,eb,rfl,ha,rs⟩:=UW M3 (ry.mono g3.toGr) hx
  match hj:ixN ws.length k,R3 with
  |none,R3=>exact R3.elim
  |some j,R3 =>
   refine ⟨a,xs,k,j,rfl,rfl,ha,by rw[← rs.length]; exact hj,?_⟩
   exact (show Res E (some (Except.ok (Fl.nx,sl),om3.set h (.lst (ws.set j x)))) F3 H3 β3 (FlP D) from R3) F3 _ β3 (M3.gxP eb (nz ha)) (M3.put eb ⟨_,Zz,RWs.set (rx.mono (g2.trans g3).toGr) j rs⟩) σ (V.mono (g1.trans (g2.trans g3)).toGr)
def U8 (v d k:Wv):Mw Unit:=fun om=>match T8 om d k v with
 |some om'=>some (.ok (),om')
 |none=>none
def Xa (fv fd fk:FE):FS:=fun sl=>bnd (fv sl) fun v=>bnd (fd sl) fun d=>bnd (fk sl) fun k=>bnd (U8 v d k) fun _=>ret (.nx,sl)
theorem Vw {o i v:Expr} {p1:Pos} (hu:X.A.units+64 < cLine) (hv:PE X v (tE E fv)) (ho:PE X o (tE E fo)) (hi:PE X i (tE E fi)) (hs:swapsWith v (some (.Subscript o i p1)) pos.line X.env=pure false:=by rfl) :
    PS X (.Assign [.Subscript o i p1] v pos) (tS E (Xa fv fo fi)):=by
 refine (JV (by omega) ho hi hv hs).weak fun D σ H ⟨F,β,om,sl,M,V,R⟩=>?_
 refine ⟨F,β,om,sl,M,V,R.bind fun x om1 F1 H1 β1 g1 M1 R1 xv rx=>?_⟩
 refine ⟨F1,β1,om1,sl,M1,V.mono g1.toGr,R1.bind fun y om2 F2 H2 β2 g2 M2 R2 yv ry=>?_⟩
 refine ⟨F2,β2,om2,sl,M2,V.mono (g1.trans g2).toGr,R2.bind fun z om3 F3 H3 β3 g3 M3 R3 zv rz=>?_⟩
 unfold bnd U8 at R3
 match hx:T8 om3 y z x,R3 with
 |none,R3=>exact R3.elim
 |some om',R3 =>
  obtain ⟨a,H',rfl,hp,gg,MM⟩:=KD M3 (ry.mono g3.toGr) rz (rx.mono (g2.trans g3).toGr) hx
  exact ⟨a,H',rfl,hp,(show Res E (some (Except.ok (Fl.nx,sl),om')) F3 H3 β3 (FlP D) from R3) F3 H' β3 gg MM σ (V.mono (g1.trans (g2.trans g3)).toGr)⟩
def Tc (f:Str) (v:Wv):List (Str × Wv)->List (Str × Wv)
 |[]=>[(f,v)]
 |(g,u)::r=>if g=f then (g,v)::r else (g,u)::Tc f v r
theorem RK.putF {F:Hp} {β:List Addr} {n:Str} {w:Wv} {v:V} (h:RW F β w v):∀{ps:List (Str × Wv)} {qs:List (Str × V)},RK F β ps qs->RK F β (Tc n w ps) (L2.putF n v qs)
 |_,_,.nil=>.cons h .nil
 |_,_,.cons (k:=k') h' r=>by
  unfold Tc L2.putF
  by_cases hk:k'=n
  ·rw[if_pos hk,if_pos hk]; exact .cons h r
  ·rw[if_neg hk,if_neg hk]; exact .cons h' (RK.putF h r)
def Pr (C:Addr) (n:Str) (v x:Wv):Mw Unit:=fun om=>match x with
 |.o h=>match om[h]? with
  |some (.ins C' fs)=>if C'=C∧fs.length < 900 then some (.ok (),om.set h (.ins C' (Tc n v fs))) else none
  |_=>none
 |_=>none
def VI (C:Addr) (n:Str) (fv fo:FE):FS:=fun sl=>bnd (fv sl) fun v=>bnd (fo sl) fun x=>bnd (Pr C n v x) fun _=>ret (.nx,sl)
theorem UQ {o v:Expr} {n:Str} {C:Addr} {p1:Pos} (cl:Cls X.K C) (na:NoAttr X.K C n) (hv:PE X v (tE E fv)) (ho:PE X o (tE E fo)) (hs:swapsWith v (some (.Attribute o n p1)) pos.line X.env=pure false:=by rfl) :
    PS X (.Assign [.Attribute o n p1] v pos) (tS E (VI C n fv fo)):=by
 refine (Gw ho hv hs).weak fun D σ H ⟨F,β,om,sl,M,V,R⟩=>?_
 refine ⟨F,β,om,sl,M,V,R.bind fun x om1 F1 H1 β1 g1 M1 R1 xv rx=>?_⟩
 refine ⟨F1,β1,om1,sl,M1,V.mono g1.toGr,R1.bind fun y om2 F2 H2 β2 g2 M2 R2 yv ry=>?_⟩
 unfold bnd Pr at R2
 cases ry with
 |@o h a eb =>
  dsimp only at R2
  match hx:om2[h]?,R2 with
  |none,R=>exact R.elim
  |some (.exc _),R=>exact R.elim
  |some (.dz _),R=>exact R.elim
  |some (.lst _),R=>exact R.elim
  |some (.dt _),R=>exact R.elim
  |some (.dk _),R=>exact R.elim
  |some (.ins C' fs),R =>
   obtain ⟨a',ea,_,dx,fs',hf,rs⟩:=M2.at hx
   have eb2:=ea
   rw[eb]at ea; cases ea
   dsimp only at R
   by_cases hc:C'=C∧fs.length < 900
   ·have R5:Res E (some (Except.ok (Fl.nx,sl),om2.set h (.ins C' (Tc n x fs)))) F2 H2 β2 (FlP D):=by
     have:=R
     rw[if_pos hc]at this
     exact this
    obtain ⟨rfl,hl⟩:=hc
    have:=rs.length
    refine ⟨a,C',dx,fs',rfl,hf,cl,na,by omega,?_⟩
    exact R5 F2 _ β2 (M2.gxP eb2 (nz hf)) (M2.put eb2 ⟨dx,_,Zz,rs.putF (rx.mono g2.toGr)⟩) σ (V.mono (g1.trans g2).toGr)
   ·rw[if_neg hc]at R; exact R.elim
 |_=>exact R2.elim
end
def ItC (C:Hp->Prop) (J:It) (ws:List Wv) (F:Hp) (β:List Addr):Prop:=∀F' β' H,Gr F F' β β'->Same F' H->C H->(∀(i:Nat) w,ws[i]?=some w->J.go i H∧∀x H',J.yld i H x H'->H'=H∧RW F' β' w x)∧∀i,ws.length<=i->J.stop i H
abbrev Og:=ItC fun _=>True
theorem ItC.mono {C:Hp->Prop} {J:It} {ws:List Wv} {F F':Hp} {β β':List Addr} (h:ItC C J ws F β) (g:Gr F F' β β'):ItC C J ws F' β':=fun F2 β2 H g2 s=>h F2 β2 H (g.trans g2) s
abbrev FI:=Sl->Mw (List Wv)
def tI (E:XK) (f:FI):TI:=fun σ H R=>∃F β om sl,MOk F H β om∧EnvOk F β σ sl∧Res E (f sl om) F H β fun ws F' H' β'=>∀J,Og J ws F' β'->R J H'
theorem PI.weak {X:Cx} {tg e:Expr} {t t':TI} (h:PI X tg e t) (w:∀σ H Q,t' σ H Q->t σ H Q):PI X tg e t':=fun pins s σ H Q I q=>h pins s σ H Q I (w σ H Q q)
def XX:Wv->Mw (List Wv)
 |.lst ws=>ret ws
 |_=>XA
def XD (n:Nat):List Wv:=(List.range n).map fun (i:Nat)=>.int i
def Jp (lo:Int) (n:Nat):List Wv:=(List.range n).map fun (i:Nat)=>.int (lo+i)
def ZZ:Wv->Mw (List Wv)
 |.int j=>bnd (chk (decide (-(2 ^ 62)<=j∧j < 2 ^ 62))) fun _=>ret (XD j.toNat)
 |_=>XA
section
variable {X:Cx} {E:XK} {e a b tg:Expr} {es:List Expr} {f:FE} {fs:FA} {p pos:Pos}
theorem Hj {K:PySem.W.Frag} {F:Hp} {β:List Addr} {a:Addr} {xs:List V} {ws:List Wv} (q:Rd F a (.lst xs)) (rs:RWs F β ws xs):Og (Itl K a) ws F β:=fun F' β' H g s _=>by
 have hS:SqL K H a xs:=.inl (Rd.same s (Rd.same g.same q))
 refine ⟨fun i w e=>?_,fun i hi=>⟨xs,hS,by rw[← rs.length]; exact hi⟩⟩
 obtain ⟨v,ev,rv⟩:=rs.get e
 refine ⟨⟨xs,v,hS,ev⟩,fun x H' ⟨e1,e2⟩=>⟨e1,?_⟩⟩
 have:=e2 xs hS
 rw[ev]at this
 cases this
 exact rv.mono g
theorem IZ {F:Hp} {β:List Addr} (lo:Int) (n:Nat):Og (Itr lo n) (Jp lo n) F β:=fun F' β' H g s _=>by
 unfold Jp
 refine ⟨fun i w e=>?_,fun i hi=>(show n<=i by simpa using hi)⟩
 have hi:i < n:=by have:=(List.getElem?_eq_some_iff.mp e).1; simpa using this
 rw[List.getElem?_map,List.getElem?_range hi]at e
 cases e
 exact ⟨hi,fun x H' ⟨e1,e2⟩=>⟨e1,by rw[e2]; exact .int _⟩⟩
theorem KR (n:Nat):XD n=Jp 0 n:=by
 unfold XD Jp
 exact List.map_congr_left fun i _=>by rw[Int.zero_add]
theorem OQ (hl:PE X e (tE E f)):PI X tg e (tI E fun sl=>bnd (f sl) XX):=(OJ hl).weak fun σ H Q ⟨F,β,om,sl,M,V,R⟩=>by
 refine ⟨F,β,om,sl,M,V,R.bind fun x om1 F1 H1 β1 g1 M1 R1 v rv=>?_⟩
 cases rv with
 |@lst a xs ws q rs=>exact ⟨a,rfl,⟨xs,.inl (Rd.same M1.sub q)⟩,(show Res E (ret ws om1) F1 H1 β1 _ from R1).now M1 _ (Hj q rs)⟩
 |_=>exact R1.elim
theorem Z1 (hg:Gl X "range") (hm:X.mg "range"=none) (ha:PE X a (tE E f)) (h0:starEach [a] X.env=(false,eval a X.env)::starEach [] X.env:=by rfl) (hs:starEach [a] X.env=[(false,eval a X.env)]:=by rfl):PI X tg (.Call (.Name "range" p) [a] [] pos) (tI E fun sl=>bnd (f sl) ZZ):=(Ma hg hm (Vv ha Sd h0) hs).weak fun σ H Q ⟨F,β,om,sl,M,V,R⟩=>by
 refine ⟨F,β,om,sl,M,V,R.bind fun w om1 F1 H1 β1 g1 M1 R1 v rv=>?_⟩
 cases rv with
 |int j =>
  obtain ⟨hc,R2⟩:=Res.chk R1
  obtain ⟨h1,h2⟩:=of_decide_eq_true hc
  refine ⟨j,rfl,h1,h2,?_⟩
  have R3:Res E (ret (XD j.toNat) om1) F1 H1 β1 fun ws F' H' β'=>∀J,Og J ws F' β'->Q J H':=R2
  exact R3.now M1 _ (by rw[KR]; exact IZ 0 _)
 |_=>exact R1.elim
end
abbrev TgW:=Wv->Sl->Option Sl
def JN (g:TG) (T:TgW):Prop:=∀{F H:Hp} {β:List Addr} {om:List Ob} {σ:St} {sl sl':Sl} {w:Wv} {v:V} {Q:St->Hp->Prop},MOk F H β om->EnvOk F β σ sl->RW F β w v->T w sl=some sl'->(∀σ',EnvOk F β σ' sl'->Q σ' H)->g v σ H Q
def tgN (i:Nat):TgW:=fun w sl=>some (sl.set i (some w))
theorem Yx (i:Nat):JN (LY i) (tgN i):=fun M V r e q=>by
 cases e
 exact q _ (V.set i r)
def Um (again:Sl->Mw (Fl × Sl)):Fl × Sl->Mw (Fl × Sl)
 |(.nx,sl)=>again sl
 |(.ct,sl)=>again sl
 |(.bk,sl)=>ret (.nx,sl)
 |(.rt w,sl)=>ret (.rt w,sl)
def Va (T:TgW) (S:FS):List Wv->FS
 |[],sl=>ret (.nx,sl)
 |w::r,sl=>match T w sl with
  |none=>XA
  |some sl1=>bnd (S sl1) (Um fun sl2=>Va T S r sl2)
def Wb (fi:FI) (T:TgW) (S:FS):FS:=fun sl=>bnd (fi sl) fun ws=>Va T S ws sl
section
variable {X:Cx} {E:XK} {tg iter:Expr} {body:List Stmt} {fi:FI} {T:TgW} {g:TG} {S:FS} {pos:Pos}
theorem GO {D:Ends} {J:It} {ws:List Wv} {σ:St} {H F:Hp} {β:List Addr} {om:List Ob} {sl:Sl} (ht:JN g T) (hJ:Og J ws F β) (M:MOk F H β om) (V:EnvOk F β σ sl) (R:Res E (Va T S ws sl om) F H β (FlP D)) :
    ∃W:Nat->Nat->St->Hp->Prop,(∃m,W 0 m σ H)∧∀i m σ H,W i m σ H ->
     (J.stop i H∧D.nx σ H)∨(J.go i H∧∃N:St->Hp->Prop,(∀σ' H',N σ' H'->∃m',m' < m∧W (i+1) m' σ' H')∧∀x H',J.yld i H x H'->g x σ H' fun σ2 H2=>tS E S { D with nx:=N,ct:=N,bk:=D.nx } σ2 H2):=by
 refine ⟨fun i m σ H=>m=ws.length - i∧i<=ws.length∧∃F β om sl,Og J ws F β∧MOk F H β om∧EnvOk F β σ sl∧Res E (Va T S (ws.drop i) sl om) F H β (FlP D),⟨ws.length,by simp,Nat.zero_le _,F,β,om,sl,hJ,M,V,R⟩,?_⟩
 rintro i m σ H ⟨rfl,hi,F,β,om,sl,hJ,M,V,R⟩
 obtain ⟨j1,j2⟩:=hJ F β H (Gr.refl _ _) M.sub True.intro
 by_cases hlt:i < ws.length
 ·obtain ⟨go,yl⟩:=j1 i ws[i] (List.getElem?_eq_getElem hlt)
  refine .inr ⟨go,fun σ' H'=>i+1<=ws.length∧∃F β om sl,Og J ws F β∧MOk F H' β om∧EnvOk F β σ' sl∧Res E (Va T S (ws.drop (i+1)) sl om) F H' β (FlP D),fun σ' H' ⟨h1,h2⟩=>⟨ws.length - (i+1),by omega,rfl,h1,h2⟩,fun x H' hy=>?_⟩
  obtain ⟨rfl,rx⟩:=yl x H' hy
  rw[List.drop_eq_getElem_cons hlt]at R
  have R:Res E ((match T ws[i] sl with|none=>XA|some sl1=>bnd (S sl1) (Um fun sl2=>Va T S (ws.drop (i+1)) sl2)) om) F H' β (FlP D):=R
  match hT:T ws[i] sl,R with
  |none,R=>exact R.elim
  |some sl1,R =>
   refine ht M V rx hT fun σ2 V2=>?_
   refine ⟨F,β,om,sl1,M,V2,Res.bind R fun y om1 F1 H1 β1 g1 M1 R1=>?_⟩
   obtain ⟨fl,sl2⟩:=y
   cases fl with
   |nx=>exact fun σ' V'=>⟨hlt,F1,β1,om1,sl2,hJ.mono g1.toGr,M1,V',R1⟩
   |ct=>exact fun σ' V'=>⟨hlt,F1,β1,om1,sl2,hJ.mono g1.toGr,M1,V',R1⟩
   |bk=>exact (show Res E (ret (Fl.nx,sl2) om1) F1 H1 β1 (FlP D) from R1).now M1
   |rt w=>exact (show Res E (ret (Fl.rt w,sl2) om1) F1 H1 β1 (FlP D) from R1).now M1
 ·have e:i=ws.length:=by omega
  subst e
  rw[List.drop_length]at R
  exact .inl ⟨j2 _ (Nat.le_refl _),(show Res E (ret (Fl.nx,sl) om) F H β (FlP D) from R).now M σ V⟩
theorem X9 (hp:PassesOwn (model X.prog X.w) X.A X.env X.xe) (hc:X.calm=true) (hi:PI X tg iter (tI E fi)) (hg:PG X tg g) (ht:JN g T) (hb:PSs X body (tS E S)) (hs:∀x,foldedSetIterable iter X.env x=pure x:=by intro _; rfl):PS X (.For tg iter body [] pos) (tS E (Wb fi T S)):=(LD hp hc hi hg hb hs).weak fun D σ H ⟨F,β,om,sl,M,V,R⟩=>by
 refine ⟨F,β,om,sl,M,V,R.bind fun ws om1 F1 H1 β1 g1 M1 R1 J hJ=>?_⟩
 exact GO ht hJ M1 (V.mono g1.toGr) R1
end
end
end L2
namespace L2
noncomputable section
open PySem PySem.Spec PyProof.Rows
def Xb (js:List Nat) (w:Wv) (sl:Sl):Sl:=some w::js.map fun j=>(sl[j]?).join
theorem EnvOk.comp {F:Hp} {β:List Addr} {σ:St} {sl:Sl} {w:Wv} {v:V} (V:EnvOk F β σ sl) (js:List Nat) (r:RW F β w v):EnvOk F β (Y2 js (some v) σ) (Xb js w sl):=by
 refine ⟨by simp[Xb,Y2],fun i u e=>?_⟩
 cases i with
 |zero =>
  have e:some (some w)=some (some u):=e
  cases e
  exact ⟨v,rfl,r⟩
 |succ k =>
  have e:(js.map fun j=>(sl[j]?).join)[k]?=some (some u):=e
  rw[List.getElem?_map]at e
  match hj:js[k]?,e with
  |none,e=>exact nomatch e
  |some j,e =>
   have e:some (sl[j]?).join=some (some u):=e
   have e2:sl[j]?=some (some u):=by
    cases q:sl[j]? with
    |none=>rw[q]at e; cases e
    |some o =>
     rw[q]at e
     have e:some o=some (some u):=e
     cases e
     rfl
   obtain ⟨v',h1,h2⟩:=V.get j u e2
   refine ⟨v',?_,h2⟩
   show (js.map fun j=>(σ[j]?).join)[k]?=some (some v')
   rw[List.getElem?_map,hj,Option.map_some,h1]
   rfl
def QO (again:Mw (List Wv)) (f:Mw Wv) (b:Bool):Mw (List Wv):=if b=true then bnd (Yo f) fun x=>bnd again fun xs=>ret (x::xs) else again
def Xz (c:FT) (f:FE) (mk:Wv->Sl):List Wv->Mw (List Wv)
 |[]=>ret []
 |w::r=>bnd (Yo (c (mk w))) (QO (Xz c f mk r) (f (mk w)))
def Yu (k:List Wv->Mw Wv) (js:List Nat) (fi:FI) (c:FT) (f:FE):FE:=fun sl=>bnd (fi sl) fun ws=>bnd (chk (decide (ws.length<=lim))) fun _=>bnd (Xz c f (fun w=>Xb js w sl) ws) k
def Vo:FT:=fun _=>ret true
theorem Sz {X:Cx} {E:XK}:SU X [] (tT E Vo):=fun pins s σ H Q I ⟨F,β,om,sl,M,V,R⟩=>L6 pins s σ H Q I ((show Res E (ret true om) F H β _ from R).now M)
theorem XU {X:Cx} {E:XK} {e:Expr} {c:FT} (h:PT X e (tT E c)):SU X [e] (tT E c):=Kl h
theorem UG {α γ δ:Type} (m:Mw α) (k:α->Mw γ) (l:γ->Mw δ):bnd (bnd m k) l=bnd m fun x=>bnd (k x) l:=by
 funext om
 unfold bnd
 match m om with
 |none=>rfl
 |some (.ok a,om')=>rfl
 |some (.error c,om')=>rfl
theorem Res.calm {E E':XK} {α γ:Type} {m:Mw α} {k:α->Mw γ} {F H:Hp} {β:List Addr} {om:List Ob} {P:γ->Hp->Hp->List Addr->Prop} {P':α->Hp->Hp->List Addr->Prop} (R:Res E (bnd (Yo m) k om) F H β P)
    (h:∀x om1 F1 H1 β1,Gx F F1 H H1 β β1->MOk F1 H1 β1 om1->Res E (k x om1) F1 H1 β1 P->P' x F1 H1 β1):Res E' (m om) F H β P':=by
 unfold bnd Yo at R
 match hm:m om,R with
 |some (.ok x,om'),R=>exact fun F' H' β' g M=>h x om' F' H' β' g M (Res.mono g R)
 |some (.error c,om'),R=>exact R.elim
 |none,R=>exact R.elim
def wo (H:Hp) (D:Addr):Hp:=fun b=>if b=D then none else H b
theorem Qh {H:Hp} {D:Addr} {o:HO} (e:H D=some o):upd (wo H D) D o=H:=by
 funext b
 unfold upd wo
 by_cases h:b=D
 ·rw[if_pos h,h,e]
 ·rw[if_neg h,if_neg h]
theorem QZ {H:Hp} {D b:Addr} (h:b≠D):wo H D b=H b:=if_neg h
theorem Ql {H:Hp} {D:Addr}:wo H D D=none:=if_pos rfl
section
variable {X:Cx} {E:XK} {js:List Nat} {c:FT} {f:FE} {k:List Wv->Mw Wv}
theorem beside {F F' Hm H':Hp} {β β':List Addr} {om om':List Ob} {D:Addr} {ys:List V} (hD:Hm D=none) (M:MOk F Hm β om) (g:Gx F F' (upd Hm D (.lst ys)) H' β β') (M':MOk F' H' β' om') :
    H' D=some (.lst ys)∧Gx F F' Hm (wo H' D) β β'∧MOk F' (wo H' D) β' om':=by
 have nD:D ∉ β:=fun hm=>by
  obtain ⟨i,hi⟩:=List.getElem?_of_mem hm
  obtain ⟨x,hx⟩:=M.there hi
  rw[hD]at hx; cases hx
 have fD:F D=none:=M.sub.free hD
 have e1:H' D=some (.lst ys):=g.keep D _ Zz nD
 have nD':D ∉ β':=fun hm=>(g.new D hm).elim nD fun z=>by rw[Zz]at z; cases z
 have fD':F' D=none:=by
  cases q:F' D with
  |none=>rfl
  |some o =>
   rcases g.fnew D o q with z|z
   ·rw[fD]at z; cases z
   ·rw[Zz]at z; cases z
 refine ⟨e1,⟨g.toGr,fun b o e hb=>?_,fun b e=>?_,fun b hb=>?_,fun b o e=>?_,fun b o u e=>?_⟩,⟨fun b o e=>?_,M'.nd,M'.len,M'.free,fun h a x h1 h2=>(M'.ob h a x h1 h2).mono (Gr.refl _ _) ?_⟩⟩
 ·have hbD:b≠D:=Z0 e hD
  rw[QZ hbD]
  exact g.keep b o (by rw[Zp hbD]; exact e) hb
 ·by_cases hbD:b=D
  ·rw[hbD]; exact hD
  ·rw[QZ hbD]at e
   have:=g.there b e
   rw[Zp hbD]at this
   exact this
 ·rcases g.new b hb with h|h
  ·exact .inl h
  ·have hbD:b≠D:=fun z=>nD' (z ▸ hb)
   rw[Zp hbD]at h
   exact .inr h
 ·rcases g.fnew b o e with h|h
  ·exact .inl h
  ·have hbD:b≠D:=fun z=>by rw[z,fD']at e; cases e
   rw[Zp hbD]at h
   exact .inr h
 ·have hbD:b≠D:=Z0 e hD
  rw[QZ hbD]
  exact g.frz b o u (by rw[Zp hbD]; exact e)
 ·have hbD:b≠D:=fun z=>by rw[z,fD']at e; cases e
  rw[QZ hbD]
  exact M'.sub b o e
 ·exact QZ fun z=>nD' (z ▸ List.mem_of_getElem? h1)
theorem UV {C:Hp->Prop} {J:It} {ws:List Wv} {σ:St} {sl:Sl} {F1 H1 F0 H0:Hp} {β1 β0:List Addr} {om1:List Ob} {P:Wv->Hp->Hp->List Addr->Prop} {Q:VK} {D:Addr} {mk:Wv->Sl} {K:V->Hp->(St->Hp->Prop)->Prop} (okW:Wv->Prop) (GG:Hp->Hp->List Addr->Prop)
    (hK:∀{F H:Hp} {β:List Addr} {om:List Ob} {w:Wv} {x:V} {P:St->Hp->Prop},MOk F H β om->EnvOk F β σ sl->RW F β w x->okW w->(∀σ2,EnvOk F β σ2 (mk w)->P σ2 H)->K x H P) (hwok:∀w∈ws,okW w)
    (hG:∀{F F' H H':Hp} {β β':List Addr} {om:List Ob},MOk F H β om->GG F H β->Gx F F' H H' β β'->GG F' H' β') (hC:∀{F H:Hp} {β:List Addr},GG F H β->C H) (hJ:ItC C J ws F1 β1)
    (hk:∀{us:List Wv} {vs:List V} {om:List Ob} {F H:Hp} {β:List Addr},MOk F H β om->GG F H β->RWs F β us vs->Res E (k us om) F0 H0 β0 P->H D=none->Q (.ref D) (upd H D (.lst vs)))
    (M1:MOk F1 H1 β1 om1) (V0:EnvOk F1 β1 σ sl) (G1:GG F1 H1 β1) (hD:H1 D=none) (hws:ws.length<=lim) (R1:Res E (bnd (Xz c f mk ws) k om1) F0 H0 β0 P) :
    ∃W:Nat->Nat->List V->Hp->Prop,(∃m,W 0 m [] (upd H1 D (.lst [])))∧∀i m ys H2,W i m ys H2->H2 D=some (.lst ys) ∧
     ((J.stop i H2∧Q (.ref D) H2)∨(J.go i H2∧∀x H',J.yld i H2 x H'->K x H' fun σ2 H6=>tT E0 c σ2 H6 fun b H3=>if b=true then tE E0 f σ2 H3 fun v H4=>H4 D=some (.lst ys)∧ys.length < sizeLine∧∃m',m' < m∧W (i+1) m' (ys++[v]) (upd H4 D (.lst (ys++[v])))
      else ∃m',m' < m∧W (i+1) m' ys H3)):=by
 have hlim:=Vm
 refine ⟨fun i m ys H2=>m=ws.length - i∧i<=ws.length∧ys.length<=i∧∃F β om Hm acc,H2=upd Hm D (.lst ys)∧Hm D=none∧ItC C J ws F β∧GG F Hm β∧MOk F Hm β om∧EnvOk F β σ sl∧RWs F β acc ys∧Res E (bnd (Xz c f mk (ws.drop i)) (fun xs=>k (acc++xs)) om) F0 H0 β0 P,
  ⟨ws.length,by simp,Nat.zero_le _,Nat.zero_le _,F1,β1,om1,H1,[],rfl,hD,hJ,G1,M1,V0,.nil,R1⟩,?_⟩
 rintro i m ys H2 ⟨rfl,hi,hys,F,β,om,Hm,acc,rfl,hDm,hJ,G,M,V,ra,R⟩
 refine ⟨Zz,?_⟩
 have MU:MOk F (upd Hm D (.lst ys)) β om:=M.newU hDm
 obtain ⟨j1,j2⟩:=hJ F β _ (Gr.refl _ _) MU.sub (hC (hG M G (M.gxU (o:=.lst ys) hDm)))
 by_cases hlt:i < ws.length
 ·obtain ⟨go,yl⟩:=j1 i ws[i] (List.getElem?_eq_getElem hlt)
  refine .inr ⟨go,fun x H' hy=>?_⟩
  obtain ⟨rfl,rx⟩:=yl x H' hy
  rw[List.drop_eq_getElem_cons hlt]at R
  have R:Res E (bnd (bnd (Yo (c (mk ws[i]))) (QO (Xz c f mk (ws.drop (i+1))) (f (mk ws[i])))) (fun xs=>k (acc++xs)) om) F0 H0 β0 P:=R
  rw[UG]at R
  refine hK MU V rx (hwok _ (List.getElem_mem hlt)) fun σ2 V2=>?_
  refine ⟨F,β,om,_,MU,V2,?_⟩
  have R':=R
  unfold bnd Yo at R'
  match hm:c (mk ws[i]) om,R' with
  |none,R'=>exact R'.elim
  |some (.error _,_),R'=>exact R'.elim
  |some (.ok b,om1),R' =>
   clear R
   intro F1 H1 β1 g1 M1
   obtain ⟨e1,g1',M1'⟩:=beside hDm M g1 M1
   have R1:Res E (bnd (QO (Xz c f mk (ws.drop (i+1))) (f (mk ws[i])) b) (fun xs=>k (acc++xs)) om1) F0 H0 β0 P:=R'
   have G1:=hG M G g1'
   cases b with
   |false =>
    rw[if_neg Bool.false_ne_true]
    refine ⟨ws.length - (i+1),by omega,rfl,hlt,by omega,F1,β1,om1,wo H1 D,acc,(Qh e1).symm,Ql,hJ.mono g1.toGr,G1,M1',V.mono g1.toGr,ra.mono g1.toGr,R1⟩
   |true =>
    rw[if_pos rfl]
    have R2:Res E (bnd (bnd (Yo (f (mk ws[i]))) fun x=>bnd (Xz c f mk (ws.drop (i+1))) fun xs=>ret (x::xs)) (fun xs=>k (acc++xs)) om1) F0 H0 β0 P:=R1
    rw[UG]at R2
    refine ⟨F1,β1,om1,_,M1,V2.mono g1.toGr,?_⟩
    unfold bnd Yo at R2
    match hm2:f (mk ws[i]) om1,R2 with
    |none,R2=>exact R2.elim
    |some (.error _,_),R2=>exact R2.elim
    |some (.ok y,om2),R2 =>
     intro F2 H2 β2 g2 M2 v rv
     obtain ⟨e2,g2',M2'⟩:=beside (Hm:=wo H1 D) (ys:=ys) Ql M1' (by rw[Qh e1]; exact g2) M2
     have R3:Res E (bnd (bnd (Xz c f mk (ws.drop (i+1))) fun xs=>ret (y::xs)) (fun xs=>k (acc++xs)) om2) F0 H0 β0 P:=R2
     rw[UG]at R3
     have R3:Res E (bnd (Xz c f mk (ws.drop (i+1))) (fun xs=>k ((acc++[y])++xs)) om2) F0 H0 β0 P:=by
      have e:(fun xs=>k ((acc++[y])++xs))=fun xs=>k (acc++y::xs):=by funext xs; rw[List.append_assoc]; rfl
      rw[e]
      exact R3
     have ra2:RWs F2 β2 (acc++[y]) (ys++[v]):=(ra.mono (g1.trans g2).toGr).append (.cons rv .nil)
     refine ⟨e2,by omega,ws.length - (i+1),by omega,rfl,hlt,by rw[List.length_append,List.length_singleton]; omega,F2,β2,om2,wo H2 D,acc++[y],?_,Ql,hJ.mono (g1.trans g2).toGr,hG M1' G1 g2',M2',V.mono (g1.trans g2).toGr,ra2,R3⟩
     rw[← Qh e2,O8,Qh e2]
 ·have e:i=ws.length:=by omega
  subst e
  rw[List.drop_length]at R
  have R:Res E (k (acc++[]) om) F0 H0 β0 P:=R
  rw[List.append_nil]at R
  exact .inl ⟨j2 _ (Nat.le_refl _),hk M G ra R hDm⟩
theorem Nw {fi:FI} (hk:SW E k) {σ:St} {H:Hp} {Q:VK} (h:tE E (Yu k js fi c f) σ H Q):OR (tI E fi) js (fun _ _ _ _=>tT E0 c) (fun _ _ _ _=>tE E0 f) σ H Q:=by
 obtain ⟨F,β,om,sl,M,V,R⟩:=h
 refine ⟨F,β,om,sl,M,V,R.bind fun ws om1 F1 H1 β1 g1 M1 R1 J hJ D hD _ _ _ _=>?_⟩
 obtain ⟨hws,R1⟩:=Res.chk R1
 exact UV (C:=fun _=>True) (mk:=fun w=>Xb js w sl) (K:=fun x H' P=>P (Y2 js (some x) σ) H') (fun _=>True) (fun F H β=>Gx F1 F H1 H β1 β) (fun _ V r _ h=>h _ (V.comp js r)) (fun _ _=>True.intro) (fun _ a b=>a.trans b) (fun _=>True.intro) hJ (fun M' G' rs R' hD'=>(hk M' rs (Res.mono G' R')).2 hD') M1 (V.mono g1.toGr) (Gx.refl _ _ _) hD (of_decide_eq_true hws) R1
def SD:Key->Wv
 |.inl i=>.int i
 |.inr x=>.str x
def JO (d:Wv):Mw (Bool × Nat × List Wv):=fun om=>match d with
 |.o h=>match om[h]? with
  |some (.dk kvs)=>if kvs.length<=lim then some (.ok (true,h,kvs.map fun p=>SD p.1),om.set h (.dz kvs)) else none
  |some (.dz kvs)=>if kvs.length<=lim then some (.ok (false,h,kvs.map fun p=>SD p.1),om) else none
  |_=>none
 |_=>none
def Js (b:Bool) (h:Nat):Mw Unit:=fun om=>if b=true then (match om[h]? with
 |some (.dz kvs)=>some (.ok (),om.set h (.dk kvs))
 |_=>none) else some (.ok (),om)
def UU (k:List Wv->Mw Wv) (js:List Nat) (fd:FE) (c:FT) (f:FE):FE:=fun sl=>bnd (fd sl) fun d=>bnd (JO d) fun p=>bnd (Xz c f (fun w=>Xb js w sl) p.2.2) fun xs=>bnd (Js p.1 p.2.1) fun _=>k xs
theorem LF {F:Hp} {β:List Addr} {d:Addr} {ob:Obj} {kvs:List (Key × Wv)} {ks:List (Key × V)} (rs:RK F β kvs ks):ItC (fun H=>H d=some (.frz ob (.dK ks))) (Itd d ob ks) (kvs.map fun p=>SD p.1) F β:=fun F' β' H g s hc=>by
 have hl:=rs.length
 have key:∀{ps:List (Key × Wv)} {qs:List (Key × V)},RK F β ps qs->∀(i:Nat) p,qs[i]?=some p->(ps.map fun p=>SD p.1)[i]?=some (SD p.1):=by
  intro ps qs r
  induction r with
  |nil=>intro i p e; simp at e
  |cons h r ih =>
   intro i p e
   cases i with
   |zero=>simp at e; subst e; rfl
   |succ i=>simpa using ih i p (by simpa using e)
 refine ⟨fun i w e=>?_,fun i hi=>⟨hc,by rw[List.length_map]at hi; omega⟩⟩
 have hi:i < ks.length:=by have:=(List.getElem?_eq_some_iff.mp e).1; rw[List.length_map]at this; omega
 refine ⟨⟨hc,hi⟩,fun x H' ⟨e1,p,e2,e3⟩=>⟨e1,?_⟩⟩
 have:=key rs i p e2
 rw[e]at this
 cases this
 subst e3
 obtain ⟨k',v⟩:=p
 cases k' with
 |inl n=>exact .int n
 |inr y=>exact .str y
theorem Gx.unfrz {F F' H H':Hp} {β β':List Addr} {d:Addr} {u:HO} {ob:Obj} {om:List Ob} {h:Nat} (hb:β[h]?=some d) (M:MOk F H β om) (hz:H d=some (.frz ob u)) (hu:∀o w,u≠.frz o w) (g:Gx F F' H H' β β'):Gx F F' (upd H d u) (upd H' d u) β β':=by
 have nd:∀b,b ∉ β->b≠d:=fun b n z=>n (z ▸ List.mem_of_getElem? hb)
 refine ⟨g.toGr,fun b o e n=>?_,fun b e=>?_,fun b m=>?_,fun b o e=>?_,fun b o w e=>?_⟩
 ·rw[Zp (nd b n)]at e ⊢; exact g.keep b o e n
 ·by_cases z:b=d
  ·rw[z,Zz]at e; cases e
  ·rw[Zp z]at e ⊢; exact g.there b e
 ·by_cases z:b=d
  ·rw[z]; exact .inl (List.mem_of_getElem? hb)
  ·rw[Zp z]; exact g.new b m
 ·by_cases z:b=d
  ·rcases g.fnew b o e with q|q
   ·exact .inl q
   ·rw[z,hz]at q; cases q
  ·rw[Zp z]; exact g.fnew b o e
 ·by_cases z:b=d
  ·rw[z,Zz]at e; cases e; exact absurd rfl (hu o w)
  ·rw[Zp z]at e ⊢; exact g.frz b o w e
def Held (h:Nat) (d:Addr) (ob:Obj) (ks:List (Key × V)) (F1 H1:Hp) (β1:List Addr):Hp->Hp->List Addr->Prop:=fun F H β=>β[h]?=some d∧H d=some (.frz ob (.dK ks))∧Gx F1 F H1 (upd H d (.dK ks)) β1 β
theorem Held.go {h:Nat} {d:Addr} {ob:Obj} {ks:List (Key × V)} {F1 H1 F F' H H':Hp} {β1 β β':List Addr} {om:List Ob} (M:MOk F H β om) (G:Held h d ob ks F1 H1 β1 F H β) (g:Gx F F' H H' β β'):Held h d ob ks F1 H1 β1 F' H' β' :=
 ⟨g.pre h d G.1,g.frz d _ _ G.2.1,G.2.2.trans (g.unfrz G.1 M G.2.1 (fun _ _ z=>by cases z))⟩
theorem Held.start {h:Nat} {d:Addr} {ob:Obj} {ks:List (Key × V)} {F1 H1:Hp} {β1:List Addr} (eb:β1[h]?=some d) (hks:H1 d=some (.dK ks)):Held h d ob ks F1 H1 β1 F1 (upd H1 d (.frz ob (.dK ks))) β1:=by
 have back:upd (upd H1 d (.frz ob (.dK ks))) d (.dK ks)=H1:=by
  rw[O8]
  funext b
  by_cases z:b=d
  ·rw[z,Zz,hks]
  ·rw[Zp z]
 exact ⟨eb,Zz,by rw[back]; exact Gx.refl _ _ _⟩
theorem Held.thw {γ:Type} {k:Unit->Mw γ} {h:Nat} {d:Addr} {ob:Obj} {ks:List (Key × V)} {F1 H1 F H:Hp} {β1 β:List Addr} {om:List Ob} {P:γ->Hp->Hp->List Addr->Prop} (M:MOk F H β om) (G:Held h d ob ks F1 H1 β1 F H β) (R:Res E (bnd (Js true h) k om) F1 H1 β1 P) :
    ∃kvs,MOk F (upd H d (.dK ks)) β (om.set h (.dk kvs))∧Res E (k () (om.set h (.dk kvs))) F1 H1 β1 P:=by
 obtain ⟨hb',hz',gg⟩:=G
 unfold bnd Js at R
 rw[if_pos rfl]at R
 match hy:om[h]?,R with
 |none,R=>exact R.elim
 |some (.ins _ _),R=>exact R.elim
 |some (.exc _),R=>exact R.elim
 |some (.lst _),R=>exact R.elim
 |some (.dt _),R=>exact R.elim
 |some (.dk _),R=>exact R.elim
 |some (.dz kvs'),R =>
  obtain ⟨a',ea,_,ob',ks',hks',rs'⟩:=M.at hy
  rw[hb']at ea; cases ea
  rw[hz']at hks'
  cases hks'
  exact ⟨kvs',M.put hb' ⟨ks,Zz,rs'⟩,R⟩
theorem Res.frz {γ:Type} {k:Bool × Nat × List Wv->Mw γ} {F H:Hp} {β:List Addr} {om:List Ob} {w:Wv} {v:V} {P:γ->Hp->Hp->List Addr->Prop} (M:MOk F H β om) (r:RW F β w v) (R:Res E (bnd (JO w) k om) F H β P) :
    ∃h d ks kvs,v=.ref d∧β[h]?=some d∧RK F β kvs ks∧kvs.length<=lim∧((H d=some (.dK ks)∧(∀ob,MOk F (upd H d (.frz ob (.dK ks))) β (om.set h (.dz kvs)))∧Res E (k (true,h,kvs.map fun p=>SD p.1) (om.set h (.dz kvs))) F H β P)∨∃ob,H d=some (.frz ob (.dK ks))∧Res E (k (false,h,kvs.map fun p=>SD p.1) om) F H β P):=by
 cases r with
 |@o h d eb =>
  unfold bnd JO at R
  dsimp only at R
  match hx:om[h]?,R with
  |none,R=>exact R.elim
  |some (.ins _ _),R=>exact R.elim
  |some (.exc _),R=>exact R.elim
  |some (.lst _),R=>exact R.elim
  |some (.dt _),R=>exact R.elim
  |some (.dk kvs),R =>
   obtain ⟨a',ea,hF,ks,hks,rs⟩:=M.at hx
   have eb2:=ea
   rw[eb]at ea; cases ea
   dsimp only at R
   by_cases hlen:kvs.length<=lim
   ·rw[if_pos hlen]at R
    exact ⟨h,d,ks,kvs,rfl,eb2,rs,hlen,.inl ⟨hks,fun ob=>M.put eb2 ⟨ob,ks,Zz,rs⟩,R⟩⟩
   ·rw[if_neg hlen]at R; exact R.elim
  |some (.dz kvs),R =>
   obtain ⟨a',ea,hF,ob,ks,hks,rs⟩:=M.at hx
   have eb2:=ea
   rw[eb]at ea; cases ea
   dsimp only at R
   by_cases hlen:kvs.length<=lim
   ·rw[if_pos hlen]at R
    exact ⟨h,d,ks,kvs,rfl,eb2,rs,hlen,.inr ⟨ob,hks,R⟩⟩
   ·rw[if_neg hlen]at R; exact R.elim
 |_=>exact R.elim
theorem LV {X:Cx} {fd:FE} (hk:SW E k) {σ:St} {H:Hp} {Q:VK} (h:tE E (UU k js fd c f) σ H Q):OR (IF X (tE E fd)) js (fun _ _ _ _=>tT E0 c) (fun _ _ _ _=>tE E0 f) σ H (fun v=>Thawed X (Q v)):=by
 obtain ⟨F,β,om,sl,M,V,R⟩:=h
 refine ⟨F,β,om,sl,M,V,R.bind fun w om1 F1 H1 β1 g1 M1 R1 v rv=>?_⟩
 obtain ⟨h,d,ks,kvs,rfl,eb,rs,hlen,R1⟩:=R1.frz M1 rv
 rcases R1 with ⟨hks,Mz,R2⟩|⟨ob,hks,R2⟩
 ·refine ⟨d,ks,rfl,.inl ⟨hks,fun ob nf D hD _ _ _ _=>?_⟩⟩
  refine UV (C:=fun H=>H d=some (.frz ob (.dK ks))) (Q:=fun v=>Thawed X (Q v)) (mk:=fun w=>Xb js w sl) (K:=fun x H' P=>P (Y2 js (some x) σ) H') (fun _=>True) (Held h d ob ks F1 H1 β1) (fun _ V r _ h=>h _ (V.comp js r)) (fun _ _=>True.intro)
   (fun M' G' g'=>Held.go M' G' g') (fun G'=>G'.2.1) (LF rs) ?_ (Mz ob) (V.mono g1.toGr) (Held.start eb hks) hD (by rw[List.length_map]; exact hlen) R2
  intro us vs om' F' H' β' M' G' ra R' hD'
  have hz':=G'.2.1
  obtain ⟨kvs',Mt,R'⟩:=Held.thw M' G' R'
  have nDd:D≠d:=fun z=>by rw[z,hz']at hD'; cases hD'
  have q:=(hk (p:=D) Mt ra (Res.mono G'.2.2 R')).2 (by rw[Zp nDd]; exact hD')
  refine .inl ⟨d,ob,ks,nf,by rw[Zp (Ne.symm nDd)]; exact hz',?_⟩
  have e:upd (upd H' D (.lst vs)) d (.dK ks)=upd (upd H' d (.dK ks)) D (.lst vs):=by
   funext b
   by_cases z1:b=d
   ·rw[z1,Zz,Zp (Ne.symm nDd),Zz]
   ·by_cases z2:b=D
    ·rw[z2,Zp nDd,Zz,Zz]
    ·rw[Zp z1,Zp z2,Zp z2,Zp z1]
  show Q (.ref D) _
  rw[e]
  exact q
 ·refine ⟨d,ks,rfl,.inr ⟨ob,hks,fun D hD _ _ _ _=>?_⟩⟩
  refine UV (C:=fun H=>H d=some (.frz ob (.dK ks))) (Q:=fun v=>Thawed X (Q v)) (mk:=fun w=>Xb js w sl) (K:=fun x H' P=>P (Y2 js (some x) σ) H') (fun _=>True) (fun F H β=>Gx F1 F H1 H β1 β) (fun _ V r _ h=>h _ (V.comp js r)) (fun _ _=>True.intro)
   (fun _ a b=>a.trans b) (fun G'=>G'.frz d _ _ hks) (LF rs) ?_ M1 (V.mono g1.toGr) (Gx.refl _ _ _) hD (by rw[List.length_map]; exact hlen) R2
  intro us vs om' F' H' β' M' G' ra R' hD'
  have R':Res E (k us om') F1 H1 β1 (PV Q):=R'
  exact .inr ((hk (p:=D) M' ra (Res.mono G' R')).2 hD')
section
variable {scope:Scope} {cl:List (Str × Addr)} {x:Str} {cn:List Str} {elt iter:Expr} {ifs:List Expr} {px pos:Pos} {fi:FI}
theorem Up (hk:SW E k) (O:CompOk X scope cl x cn js) (hc:X.calm=true) (hi:PI X (.Name x px) iter (tI E fi)) (ht:∀C s₂ H₂ fp,SU (Yw X scope cl x cn C s₂ H₂ fp) ifs (tT E0 c)) (he:∀C s₂ H₂ fp,PE (Yw X scope cl x cn C s₂ H₂ fp) elt (tE E0 f))
    (hs:∀v,foldedSetIterable iter X.env v=pure v:=by intro _; rfl):PE X (.ListComp elt [⟨.Name x px,iter,ifs,0⟩] scope pos) (tE E (Yu k js fi c f)):=(NC O hc hi ht he hs).weak fun σ H Q h=>Nw hk h
theorem Ly {fd:FE} (hk:SW E k) (O:CompOk X scope cl x cn js) (hc:X.calm=true) (hd:PE X iter (tE E fd)) (ht:∀C s₂ H₂ fp,SU (Yw X scope cl x cn C s₂ H₂ fp) ifs (tT E0 c)) (he:∀C s₂ H₂ fp,PE (Yw X scope cl x cn C s₂ H₂ fp) elt (tE E0 f))
    (hs:∀v,foldedSetIterable iter X.env v=pure v:=by intro _; rfl):PE X (.ListComp elt [⟨.Name x px,iter,ifs,0⟩] scope pos) (tE E (UU k js fd c f)):=(K4 (NC O hc (K8 hd) ht he hs)).weak fun σ H Q h=>LV hk h
theorem Wi {j:Nat} {y:Str} {py spos:Pos} (hk:SW E k) (O:CompOk X scope cl x cn js) (hc:X.calm=true) (hi:PI X (.Name x px) iter (tI E fi)) (ht:∀C s₂ H₂ fp,SU (Yw X scope cl x cn C s₂ H₂ fp) ifs (tT E0 c)) (he:∀C s₂ H₂ fp,PE (Yw X scope cl x cn C s₂ H₂ fp) elt (tE E0 f))
    (hN:X.N.Nodup) (hj:X.N[j]?=some y) (hy:Loc X.env.scope y) (hsw:swapsWith (.ListComp elt [⟨.Name x px,iter,ifs,0⟩] scope pos) (some (.Name y py)) spos.line X.env=pure true)
    (hs:∀v,foldedSetIterable iter X.env v=pure v:=by intro _; rfl) (hf:X.fn y=true∨X.env.scope.names.lookup y=some .local:=by first|exact .inl rfl|exact .inr rfl) :
    PS X (.Assign [.Name y py] (.ListComp elt [⟨.Name x px,iter,ifs,0⟩] scope pos) spos) (tS E (ZO j (Yu k js fi c f))):=(Oy O hc hi ht he hN hj hy hsw hs hf).weak fun D σ H ⟨F,β,om,sl,M,V,R⟩=>by
 refine Nw hk ⟨F,β,om,sl,M,V,R.bind fun w om1 F1 H1 β1 g1 M1 R1 v rv=>?_⟩
 exact (show Res E (ret (Fl.nx,sl.set j (some w)) om1) F1 H1 β1 (FlP D) from R1).now M1 _ ((V.mono g1.toGr).set j rv)
end
end
section
variable {X:Cx} {E:XK} {tg iter:Expr} {body:List Stmt} {fd:FE} {T:TgW} {g:TG} {S:FS} {pos:Pos}
end
section
variable {X:Cx} {E:XK} {t:Expr} {body:List Stmt} {c:FT} {S:FS} {pos:Pos}
end
def tM (E:XK) (f:Sl->Mw Unit):TA:=fun σ H Q=>∃F β om sl,MOk F H β om∧EnvOk F β σ sl∧Res E (f sl om) F H β fun _ F' H' β'=>∀vs,Q vs H'
def Pp:Wv->Mw Unit
 |.int i=>chk (decide (i.natAbs < 1000000000000))
 |_=>XA
def WW:Sl->Mw Unit:=fun _=>ret ()
def WH (f:FE) (r:Sl->Mw Unit):Sl->Mw Unit:=fun sl=>bnd (f sl) fun x=>bnd (Pp x) fun _=>r sl
def YL (C:Addr) (m:Sl->Mw Unit):FS:=fun sl=>bnd (m sl) fun _=>V9 C
theorem NS {i:Int} (h:i.natAbs < 1000000000000):i.natAbs.log2 < 1920:=by
 by_cases h0:i.natAbs=0
 ·rw[h0]; decide
 ·exact (Nat.log2_lt h0).mpr (Nat.lt_of_lt_of_le (show i.natAbs < 2 ^ 40 by omega) (Nat.pow_le_pow_right (by decide) (by decide)))
section
variable {X:Cx} {E:XK} {e:Expr} {es:List Expr} {f:FE} {m:Sl->Mw Unit} {pos:Pos}
theorem PJ.weak {n:Nat} {t t':TA} (h:PJ X n es t) (w:∀σ H Q,t' σ H Q->t σ H Q):PJ X n es t':=fun pins s σ H acc Q I hl q=>h pins s σ H acc Q I hl (w σ H _ q)
theorem VZ:PJ X 2000 [] (tM E WW):=Hx.weak fun σ H Q ⟨F,β,om,sl,M,V,R⟩=>(show Res E (ret () om) F H β _ from R).now M []
theorem Ww {x:Str} {j p} (hr:PJ X 2000 es (tM E m)) (hx:x.length<=2000:=by decide) (hs:evalEach (.Constant (.str x) j p::es) X.env=eval (.Constant (.str x) j p) X.env::evalEach es X.env:=by rfl):PJ X 2000 (.Constant (.str x) j p::es) (tM E m):=(Nz LG hr hs).weak fun σ H Q h=>⟨⟨x,rfl,hx⟩,h⟩
theorem Vf {p:Pos} (he:PE X e (tE E f)) (hr:PJ X 2000 es (tM E m)) (hs:evalEach (.FormattedValue e (-1) none p::es) X.env=eval (.FormattedValue e (-1) none p) X.env::evalEach es X.env:=by rfl):PJ X 2000 (.FormattedValue e (-1) none p::es) (tM E (WH f m)):=(Nz (Gg he) hr hs).weak fun σ H Q ⟨F,β,om,sl,M,V,R⟩=>by
 refine ⟨F,β,om,sl,M,V,R.bind fun w om1 F1 H1 β1 g1 M1 R1 v rv=>?_⟩
 cases rv with
 |int i =>
  obtain ⟨hc,R2⟩:=Res.chk R1
  have hl:=NS (of_decide_eq_true hc)
  exact ⟨i,rfl,hl,⟨_,rfl,Mf hl (by decide)⟩,F1,β1,om1,sl,M1,V.mono g1.toGr,R2⟩
 |_=>exact R1.elim
theorem Wk {x:Str} {C:Addr} {bmB:List Value} {B newId initId:String} {v₁ v₂:Expr} {rest:List Expr} {np cpos p2:Pos} (FB:ExcBaseFacts B newId initId bmB) (q:PySem.W.excIn X.K C bmB newId=true) (hg:Gl X x) (hm:X.mg x=some (.ref C)) (hc:X.calm=true) (hE:Oo X E)
    (h:PJ X 2000 (v₁::v₂::rest) (tM E m)) (hn:2000 * (v₁::v₂::rest).length<=16000000:=by decide)
    (hs:evalEach (v₁::v₂::rest) X.env=eval v₁ X.env::eval v₂ X.env::evalEach rest X.env:=by rfl)
    (he:starEach [.JoinedStr (v₁::v₂::rest) p2] X.env=(false,eval (.JoinedStr (v₁::v₂::rest) p2) X.env)::starEach [] X.env:=by rfl) (hpl:(backTo cpos (starEach [] X.env)).any (·.1)=false:=by rfl) (hdb:(x == ("__debug__":Str))=false:=by decide) :
    PS X (.Raise (some (.Call (.Name x np) [.JoinedStr (v₁::v₂::rest) p2] [] cpos)) none pos) (tS E (YL C m)):=(LH (E:=E) FB q hg hm hc hE (Vv (KZ h hn hs) Sd he) he hpl hdb).weak fun D σ H ⟨F,β,om,sl,M,V,R⟩=>by
 refine ⟨F,β,om,sl,M,V,R.bind fun w om1 F1 H1 β1 g1 M1 R1 vs z=>⟨by show 1<=sizeLine; decide,?_⟩⟩
 exact (show Res E (V9 C om1) F1 H1 β1 (FlP D) from R1) F1 H1 β1 (Gx.refl _ _ _) M1
end
def OG:Fl × Sl->Mw Wv
 |(.rt w,_)=>ret w
 |(.nx,_)=>ret .non
 |_=>XA
def XV (n:Nat) (ws:List Wv):Sl:=ws.map some++List.replicate (n - ws.length) none
def Yr (n:Nat) (S:FS) (ws:List Wv):Mw Wv:=bnd (S (XV n ws)) OG
theorem EnvOk.start {F:Hp} {β:List Addr} {ws:List Wv} {vs:List V} (N:List Str) (r:RWs F β ws vs):EnvOk F β (L2.start N vs) (XV N.length ws):=by
 have hl:=r.length
 refine ⟨by simp[L2.start,XV,hl],fun i w e=>?_⟩
 unfold XV at e
 unfold L2.start
 by_cases hi:i < ws.length
 ·rw[List.getElem?_append_left (by simpa using hi),List.getElem?_map]at e
  match hw:ws[i]?,e with
  |none,e=>exact nomatch e
  |some u,e =>
   have e:some (some u)=some (some w):=e
   cases e
   obtain ⟨v,ev,rv⟩:=r.get hw
   refine ⟨v,?_,rv⟩
   rw[List.getElem?_append_left (by rw[List.length_map]; omega),List.getElem?_map,ev]
   rfl
 ·rw[List.getElem?_append_right (by simpa using hi)]at e
  have:=List.mem_of_getElem? e
  rw[List.mem_replicate]at this
  exact nomatch this.2
section
variable {P:Program} {w:World} {K:PySem.W.Frag} {mg:Str->Option Value} {base:Heap}
theorem Yg {x qual:Str} {st:Stmt} {f:Addr} {fd:FuncData} {N ps:List Str} {k:Nat} {S:FS} (F:Fun K x qual st f fd) (Sc:FnScope N ps (Zl st))
    (h:∀(cdv:Value) (A:Around) (outer:List Env) (s:Shared) (H:Hp) (E:XK),Room k (A.deeper (envOfC qual (Zl st) s.heap.objs.size f cdv))->PSs (SI (CXw P w) P w K mg base N qual (Zl st) f cdv A outer s H E) (ZE st) (tS E S)) :
    FnOk P w K mg base (CXw P w) (k+1) f fd ps (spM ps.length (Yr N.length S)):=by
 refine F.okX Sc (fun vs H Q E h=>?_) (fun cdv A outer s H vs Q E hr hsp=>⟨_,h cdv A outer s H E hr,?_⟩)
 ·obtain ⟨F,β,om,ws,M,rs,hl,R⟩:=h
  rw[← rs.length,hl]
 ·obtain ⟨F,β,om,ws,M,rs,hl,R⟩:=hsp
  refine ⟨F,β,om,_,M,EnvOk.start N rs,Res.bind (m:=S (XV N.length ws)) (k:=OG) R fun y om1 F1 H1 β1 g1 M1 R1=>?_⟩
  obtain ⟨fl,sl⟩:=y
  cases fl with
  |nx=>exact fun σ' V'=>(show Res E (ret Wv.non om1) F1 H1 β1 (PV Q) from R1).now M1 _ .non
  |bk=>exact R1.elim
  |ct=>exact R1.elim
  |rt u=>exact (show Res E (ret u om1) F1 H1 β1 (PV Q) from R1).now M1
theorem FnOk.as {k n:Nat} {f:Addr} {fd:FuncData} {ps:List Str} {CX:CXT} {g g':List Wv->Mw Wv} (F:FnOk P w K mg base CX k f fd ps (spM n g)) (h:∀ws om,ws.length=n->g' ws om≠none->g ws om=g' ws om):FnOk P w K mg base CX k f fd ps (spM n g') :=
 F.imp fun vs H Q E ⟨F,β,om,ws,M,rs,hl,R⟩=>⟨F,β,om,ws,M,rs,hl,by
  rw[h ws om hl (fun z=>by rw[z]at R; exact R)]
  exact R⟩
end
end
open PySem PySem.W PyProof.Rows
structure Swo (lt:Nat->Nat->Bool):Prop where
 irr:∀a,lt a a=false
 tr:∀a b c,lt a b=true->lt b c=true->lt a c=true
 neg:∀a b c,lt a c=true->lt a b=true∨lt b c=true
structure Pm (n:Nat) (p:Array Nat):Prop where
 size:p.size=n
 perm:p.toList.Perm (List.range n)
section
variable {lt:Nat->Nat->Bool} (O:Swo lt) {n:Nat}
include O
omit O in
omit O in
omit O in
omit O in
end
end L2
namespace L2
noncomputable section
open PySem PySem.Spec PyProof.Rows
section
variable {X:Cx} {E:XK} {e a b c o:Expr} {es:List Expr} {f fa fb fc fo:FE} {fs:FA} {pos p2 p p':Pos}
theorem Fj {x:Str} {i:Int} (hg:Gl X x) (h:∃t,X.mg x=some (.int i t)) (hd:(x == ("__debug__":Str))=false:=by decide):PE X (.Name x pos) (tE E (fC (.int i))) :=
 let ⟨_,h⟩:=h; Mh (W5 (v:=.int i) hg h ⟨_,rfl⟩ hd) fun _ _=>.int i
def Fo:R2:=fun x y H Q=>∃l b xs zs,x=.ref l∧y=.ref b∧Rd H l (.lst xs)∧Rd H b (.lst zs)∧xs.length+zs.length<=sizeLine∧∀p,H p=none->Q (.ref p) (upd H p (.lst (xs++zs)))
theorem Jc:OpR X (binaryOp .Add) Fo:=by
 intro pins s σ H x y v u Q I rx ry h
 obtain ⟨l,b,xs,zs,rfl,rfl,hl,hb,hz,q⟩:=h
 cases rx
 cases ry
 obtain ⟨_,its,n,r,e1⟩:=hl.ok I.hok
 obtain ⟨_,jts,m,r',e2⟩:=hb.ok I.hok
 have l1:=r.length
 have l2:=r'.length
 refine PySem.P.add_list e1 e2 ?_ (by simp only[List.size_toArray]; omega)
 have ej:its.toArray++jts.toArray=(its++jts).toArray:=by simp
 rw[ej]
 exact ⟨.ref _,_,I.lnew (t':=s.toks) (r.append r') (by rw[List.length_append]; exact hz),rfl,q _ I.fresh⟩
def SC (x y:Wv):Mw Wv:=fun om=>match x,y with
 |.lst ws,.lst us=>if ws.length+us.length<=lim then some (.ok (.lst (ws++us)),om) else none
 |_,_=>none
theorem Ld (ha:PE X a (tE E fa)) (hb:PE X b (tE E fb)):PE X (.BinOp a .Add b pos) (tE E (f2 SC fa fb)):=Q3 Jc (by
 intro F H β om x y v u Q M rx ry R
 cases rx <;> first|exact R.elim|skip
 cases ry <;> first|exact R.elim|skip
 rename_i a xs ws q rs a' zs us q' rs'
 have R:Res E (if ws.length+us.length<=lim then some (Except.ok (Wv.lst (ws++us)),om) else none) F H β (PV Q):=R
 by_cases hc:ws.length+us.length<=lim
 ·rw[if_pos hc]at R
  have:=Vm
  have:=rs.length
  have:=rs'.length
  refine ⟨a,a',xs,zs,rfl,rfl,Rd.same M.sub q,Rd.same M.sub q',by omega,fun p hp=>?_⟩
  obtain ⟨g,M'⟩:=M.newFx (o:=.lst (xs++zs)) hp
  exact R _ _ _ g M' _ (.lst (.inl Zz) ((rs.append rs').mono g.toGr))
 ·rw[if_neg hc]at R; exact R.elim) ha hb
end
def kUn (i:Nat):Fl × Sl->Mw (Fl × Sl):=fun x=>ret (x.1,x.2.set i none)
def Qz (caught:Addr->Bool) (i:Nat) (S suite:FS):FS:=fun sl om=>match S sl om with
 |some (.error C,om')=>if caught C=true then bnd (Yo (suite (sl.set i (some (.o om'.length))))) (kUn i) (om'++[.exc C]) else none
 |r=>r
section
variable {X:Cx} {E:XK} {pins:List (Addr × Obj)} {σ:St} {e o:Expr} {es:List Expr} {st:Stmt} {f fo:FE} {fs:FA} {S S1 S2:FS} {c:FT} {pos:Pos}
theorem PSat.weak {t t':TS} (h:PSat X pins σ st t) (w:∀D H,t' D σ H->t D σ H):PSat X pins σ st t':=fun s H D I q=>h s H D I (w D H q)
theorem PEat.weak {t t':TE} (h:PEat X pins σ e t) (w:∀H Q,t' σ H Q->t σ H Q):PEat X pins σ e t':=fun s H Q I q=>h s H Q I (w H Q q)
theorem OK {t:Expr} {a b:List Stmt} (hc:PT X t (tT E c)) (ha:T4 X pins σ a (tS E S1)) (hb:T4 X pins σ b (tS E S2)):PSat X pins σ (.If t a b pos) (tS E (sIf c S1 S2)):=(JJ hc ha hb).weak fun D H h=>J7 h
theorem UD (he:PEat X pins σ e (tE E f)) (hs:swapsWith e none pos.line X.env=pure false:=by rfl):PSat X pins σ (.Expr e pos) (tS E (ZP f)):=(MD he hs).weak fun D H ⟨F,β,om,sl,M,V,R⟩ =>
 ⟨F,β,om,sl,M,V,R.bind fun x om1 F1 H1 β1 g1 M1 R1 v rv=>(show Res E (ret (Fl.nx,sl) om1) F1 H1 β1 (FlP D) from R1).now M1 _ (V.mono g1.toGr)⟩
variable {CX:CXT} {k n:Nat} {fn C:Addr} {fd:FuncData} {ps:List Str} {g:List Wv->Mw Wv} {x m:Str}
theorem UZ {pl:Sem Bool} {apos:Pos} (ho:PE X o (tE E fo)) (c:Cls X.K C) (hm:Meth X.K C m fn) (G:FnOk X.prog X.w X.K X.mg X.base CX k fn fd ps (spM n g)) (hr:Room k X.A) (hb:Binds X.K fd ps []) (hx:Vl CX X pins σ E) (ha:PA X (e::es) (tA E fs))
    (hst:starEach (e::es) X.env=(false,eval e X.env)::starEach es X.env:=by rfl) (hpl:(backTo pos (starEach es X.env)).any (·.1)=false:=by rfl)
    (ht:eval (.Call (.Attribute o m apos) (e::es) [] pos) X.env=(do
     let ov ← eval o X.env
     standAt apos.atName
     let (f,first) ← holding [ov] (getMethod ov m pl)
     callWith pos f first (backTo pos (starEach (e::es) X.env)) (backToKw pos (keywordEach [] X.env))):=by rfl) :
    PEat X pins σ (.Call (.Attribute o m apos) (e::es) [] pos) (tE E (ZC C m n g fo fs)):=(My ho c hm G hr hb .nil hx ha hst hpl ht).weak fun H Q h=>OM (dvs:=[]) h
theorem Gc {P:Program} {w:World} {body:List Stmt} {n:Str} {np hpos:Pos} {b₀:Stmt} {suite:List Stmt} {CE:Value} {i:Nat} {caught:Addr->Bool} (hX:X.prog=P∧X.w=w) (hex:X.ex=[]) (hstk:X.stack=X.env::X.outer∧X.env.frame=some X.env.locals)
    (hN:X.N.Nodup) (hi:X.N[i]?=some n) (hl:X.env.scope.names.lookup n=some .local) (hg:Gl X x) (hm:X.mg x=some CE) (hct:∀C,caught C=true->PySem.W.exmOne X.K (.ref C) CE=some true)
    (hb:∀(E:XK) (xe:Value->Shared->Prop) (pins:List (Addr × Obj)) (σ:St),Vl (CXw P w) (X.wish xe) pins σ E->T4 (X.wish xe) pins σ body (tS E S))
    (hs:∀a,PSs (X.held a) (b₀::suite) (tS E0 S2)) (hdb:(x == ("__debug__":Str))=false:=by decide) :
    PS X (.Try body [.ExceptHandler (some (.Name x np)) (some n) (b₀::suite) hpos] [] [] pos) (tS E (Qz caught i S S2)):=by
 refine (Gj (tb:=fun E'=>tS E' S) (ts:=fun _=>tS E0 S2) hX hex hstk hN hi hl hg hm hb hs hdb).weak fun D σ H ⟨F,β,om,sl,M,V,R⟩=>?_
 refine ⟨fun cls _ H'=>∃C,cls=.ref C∧caught C=true∧∃F' β' om',MOk F' H' β' om'∧EnvOk F' β' σ sl∧Res E (bnd (Yo (S2 (sl.set i (some (.o om'.length))))) (kUn i) (om'++[.exc C])) F' H' β' (FlP D),⟨F,β,om,sl,M,V,?_⟩,?_⟩
 ·have R:Res E (match S sl om with|some (.error C,om')=>if caught C=true then bnd (Yo (S2 (sl.set i (some (.o om'.length))))) (kUn i) (om'++[.exc C]) else none|r=>r) F H β (FlP D):=R
  match hS:S sl om,R with
  |none,R=>exact R.elim
  |some (.ok y,om'),R=>exact R
  |some (.error C,om'),R =>
   intro F' H' β' g' M'
   by_cases hc:caught C=true
   ·have R2:Res E (bnd (Yo (S2 (sl.set i (some (.o om'.length))))) (kUn i) (om'++[.exc C])) F H β (FlP D):=by
     have:=R
     dsimp only at this
     rw[if_pos hc]at this
     exact this
    exact ⟨C,rfl,hc,F',β',om',M',V.mono g'.toGr,Res.mono g' R2⟩
   ·have:=R
    dsimp only at this
    rw[if_neg hc]at this
    exact this.elim
 ·rintro cls o H' ⟨C,rfl,hc,F',β',om',M',V',R'⟩
  refine ⟨C,rfl,hct C hc,fun a ha=>?_⟩
  obtain ⟨g2,M2,e2⟩:=M'.newOx (p:=a) (o:=Mo a C) (x:=.exc C) ha fun β'' _=>Zz
  refine ⟨F',_,_,sl.set i (some (.o om'.length)),M2,(V'.mono g2.toGr).set i (.o e2),Res.calm (Res.mono g2 R') fun y om3 F3 H3 β3 g3 M3 R3=>?_⟩
  obtain ⟨fl,sl2⟩:=y
  have R3:=(show Res E (ret (fl,sl2.set i none) om3) F3 H3 β3 (FlP D) from R3).now M3
  cases fl with
  |nx=>exact fun σ' V3=>R3 _ (V3.setN i)
  |bk=>exact fun σ' V3=>R3 _ (V3.setN i)
  |ct=>exact fun σ' V3=>R3 _ (V3.setN i)
  |rt w=>exact R3
end
structure ExcAll (K:PySem.W.Frag) (isE:Addr->Bool) (kit:Addr->Value->Bool) (Ds:List Value):Prop where
 k:∀C,isE C=true->ExcK K C
 a:∀C D,isE C=true->D∈Ds->PySem.W.kitOne K (.ref C) D=some (kit C D)
def X0 (isE:Addr->Bool) (kit:Addr->Value->Bool) (D:Value) (x:Wv):Mw Wv:=fun om=>match x with
 |.o h=>match om[h]? with
  |some (.exc C)=>if isE C=true then some (.ok (.bl (kit C D)),om) else none
  |_=>none
 |_=>none
section
variable {X:Cx} {E:XK} {e:Expr} {f:FE} {pos p p2:Pos} {isE:Addr->Bool} {kit:Addr->Value->Bool} {Ds:List Value}
theorem Vx {x:Str} {D:Value} {dv:V} (k:ExcAll X.K isE kit Ds) (hg:Gl X "isinstance") (hm:X.mg "isinstance"=none) (he:PE X e (tE E f)) (hT:PE X (.Name x p2) (tC dv)) (hD:KW dv=some D) (hm2:D∈Ds)
    (h1:starEach [e,.Name x p2] X.env=(false,eval e X.env)::starEach [.Name x p2] X.env:=by rfl) (h2:starEach [.Name x p2] X.env=(false,eval (.Name x p2) X.env)::starEach [] X.env:=by rfl) (hpl:(backTo pos (starEach [.Name x p2] X.env)).any (·.1)=false:=by rfl) :
    PE X (.Call (.Name "isinstance" p) [e,.Name x p2] [] pos) (tE E (f1 (X0 isE kit D) f)):=(Ph Mr hg hm PyProof.Rows.boot_isinstance (Vv he (Vv hT Sd h2) h1) (by decide) (by decide) h1 hpl).weak fun σ H Q h=>by
 refine L5 (r:=fun v H1 Q=>∃a C cv c b,[v,dv]=[.ref a,cv]∧H1 a=some (Mo a C)∧ExcK X.K C∧KW cv=some c∧PySem.W.kitOne X.K (.ref C) c=some b∧Q (.bl b) H1) ?_ h
 intro F H β om x v Q M rx R
 cases rx with
 |@o h a eb =>
  have R:Res E (match om[h]? with|some (.exc C)=>if isE C=true then some (Except.ok (Wv.bl (kit C D)),om) else none|_=>none) F H β (PV Q):=R
  match hx:om[h]?,R with
  |none,R=>exact R.elim
  |some (.ins _ _),R=>exact R.elim
  |some (.lst _),R=>exact R.elim
  |some (.dk _),R=>exact R.elim
  |some (.dt _),R=>exact R.elim
  |some (.dz _),R=>exact R.elim
  |some (.exc C),R =>
   obtain ⟨a',ea,_,ho⟩:=M.at hx
   rw[eb]at ea; cases ea
   dsimp only at R
   by_cases hc:isE C=true
   ·have R2:Res E (ret (Wv.bl (kit C D)) om) F H β (PV Q):=by
     have:=R
     rw[if_pos hc]at this
     exact this
    exact ⟨a,C,dv,D,_,rfl,ho,k.k C hc,hD,k.a C D hc hm2,R2.now M _ (.bl _)⟩
   ·rw[if_neg hc]at R; exact R.elim
 |_=>exact R.elim
end
end
end L2
namespace L2
noncomputable section
open PySem PySem.Spec PyProof.Rows
mutual
def small (n:Nat):Wv->Prop
 |.o h=>h < n
 |.lst ws=>smalls n ws
 |.tup ws=>smalls n ws
 |_=>True
def smalls (n:Nat):List Wv->Prop
 |[]=>True
 |w::r=>small n w∧smalls n r
end
def Vp (n:Nat):Ob->Prop
 |.ins _ fs=>∀p∈fs,small n p.2
 |.lst ws=>smalls n ws
 |.dk kvs=>∀p∈kvs,small n p.2
 |.dt kvs=>∀p∈kvs,small n p.2
 |.exc _=>True
 |.dz kvs=>∀p∈kvs,small n p.2
mutual
theorem RW.small {F:Hp} {β:List Addr}:∀{w:Wv} {v:V},RW F β w v->small β.length w
 |_,_,.non=>trivial
 |_,_,.bl _=>trivial
 |_,_,.int _=>trivial
 |_,_,.str _=>trivial
 |_,_,.lst _ r=>RWs.small r
 |_,_,.tup _ r=>RWs.small r
 |_,_,.o e=>(List.getElem?_eq_some_iff.mp e).1
 |_,_,.g _=>trivial
theorem RWs.small {F:Hp} {β:List Addr}:∀{ws:List Wv} {vs:List V},RWs F β ws vs->smalls β.length ws
 |_,_,.nil=>trivial
 |_,_,.cons h r=>⟨RW.small h,RWs.small r⟩
end
theorem RK.small {F:Hp} {β:List Addr} {κ:Type}:∀{ps:List (κ × Wv)} {qs:List (κ × V)},RK F β ps qs->∀p∈ps,L2.small β.length p.2
 |_,_,.nil,_,hp=>nomatch hp
 |_,_,.cons h r,p,hp=>by
  rcases List.mem_cons.mp hp with rfl|hp
  ·exact h.small
  ·exact RK.small r p hp
theorem MOk.small {F H:Hp} {β:List Addr} {om:List Ob} (M:MOk F H β om):∀x∈om,Vp om.length x:=fun x hx=>by
 obtain ⟨i,hi⟩:=List.getElem?_of_mem hx
 obtain ⟨a,_,_,r⟩:=M.at hi
 rw[← M.len]
 cases x with
 |ins C fs=>obtain ⟨_,_,_,r⟩:=r; exact r.small
 |lst ws=>obtain ⟨_,_,r⟩:=r; exact r.small
 |dk kvs=>obtain ⟨_,_,r⟩:=r; exact r.small
 |dt kvs=>obtain ⟨_,_,r⟩:=r; exact r.small
 |exc C=>trivial
 |dz kvs=>obtain ⟨_,_,_,r⟩:=r; exact r.small
mutual
inductive FzW (om:List Ob) (n:Nat):Wv->Wv->Prop
 |same {w:Wv} (h:small n w):FzW om n w w
 |own {h:Nat} {xs ys:List Wv} (hn:n<=h) (e:om[h]?=some (.lst xs)) (r:FzWs om n xs ys):FzW om n (.o h) (.lst ys)
 |lst {xs ys:List Wv} (r:FzWs om n xs ys):FzW om n (.lst xs) (.lst ys)
 |tup {xs ys:List Wv} (r:FzWs om n xs ys):FzW om n (.tup xs) (.tup ys)
inductive FzWs (om:List Ob) (n:Nat):List Wv->List Wv->Prop
 |nil:FzWs om n [] []
 |cons {x y:Wv} {xs ys:List Wv} (h:FzW om n x y) (r:FzWs om n xs ys):FzWs om n (x::xs) (y::ys)
end
theorem FzWs.of_smalls {om:List Ob} {n:Nat}:∀{ws:List Wv},smalls n ws->FzWs om n ws ws
 |[],_=>.nil
 |_::_,⟨h,r⟩=>.cons (.same h) (FzWs.of_smalls r)
section
variable {F' F'':Hp} {β β':List Addr} {n:Nat} (same':Same F' F'') (ext:∀(h:Nat),h < n->β'[h]?=β[h]?)
mutual
theorem RW.down (same':Same F' F'') (ext:∀(h:Nat),h < n->β'[h]?=β[h]?):∀{w:Wv} {v:V},RW F' β' w v->L2.small n w->RW F'' β w v
 |_,_,.non,_=>.non
 |_,_,.bl b,_=>.bl b
 |_,_,.int i,_=>.int i
 |_,_,.str x,_=>.str x
 |_,_,.lst e r,hs=>.lst (Rd.same same' e) (RWs.down same' ext r hs)
 |_,_,.tup e r,hs=>.tup (same' _ _ e) (RWs.down same' ext r hs)
 |_,_,.o (h:=h) e,hs=>.o ((ext h hs).symm.trans e)
 |_,_,.g a,_=>.g a
theorem RWs.down (same':Same F' F'') (ext:∀(h:Nat),h < n->β'[h]?=β[h]?):∀{ws:List Wv} {vs:List V},RWs F' β' ws vs->smalls n ws->RWs F'' β ws vs
 |_,_,.nil,_=>.nil
 |_,_,.cons h r,hs=>.cons (RW.down same' ext h hs.1) (RWs.down same' ext r hs.2)
end
theorem RK.down (same':Same F' F'') (ext:∀(h:Nat),h < n->β'[h]?=β[h]?) {κ:Type}:∀{ps:List (κ × Wv)} {qs:List (κ × V)},RK F' β' ps qs->(∀p∈ps,L2.small n p.2)->RK F'' β ps qs
 |_,_,.nil,_=>.nil
 |_,_,.cons h r,hs=>.cons (RW.down same' ext h (hs _ (.head _))) (RK.down same' ext r fun q hq=>hs q (.tail _ hq))
variable {om:List Ob}
mutual
theorem FzW.rel (same':Same F' F'') (ext:∀(h:Nat),h < n->β'[h]?=β[h]?) (own:∀h a xs,n<=h->β'[h]?=some a->om[h]?=some (.lst xs)->∃zs,F'' a=some (.lst zs)∧RWs F' β' xs zs):∀{w w':Wv} {v:V},FzW om n w w'->RW F' β' w v->RW F'' β w' v
 |_,_,_,.same h,r=>r.down same' ext h
 |_,_,_,.own hn e r,.o eb=>let ⟨_,h1,h2⟩:=own _ _ _ hn eb e; .lst (.inl h1) (FzWs.rel same' ext own r h2)
 |_,_,_,.lst r,.lst e rs=>.lst (Rd.same same' e) (FzWs.rel same' ext own r rs)
 |_,_,_,.tup r,.tup e rs=>.tup (same' _ _ e) (FzWs.rel same' ext own r rs)
theorem FzWs.rel (same':Same F' F'') (ext:∀(h:Nat),h < n->β'[h]?=β[h]?) (own:∀h a xs,n<=h->β'[h]?=some a->om[h]?=some (.lst xs)->∃zs,F'' a=some (.lst zs)∧RWs F' β' xs zs):∀{ws ws':List Wv} {vs:List V},FzWs om n ws ws'->RWs F' β' ws vs->RWs F'' β ws' vs
 |_,_,_,.nil,.nil=>.nil
 |_,_,_,.cons h r,.cons h' r'=>.cons (FzW.rel same' ext own h h') (FzWs.rel same' ext own r r')
end
end
section
variable {F F' H H':Hp} {β β':List Addr} {om om1 l:List Ob}
def Kq:Option HO->Option HO
 |some (.lst xs)=>some (.lst xs)
 |_=>none
theorem N7 {x:Option HO} {o:HO} (h:Kq x=some o):x=some o:=by
 unfold Kq at h
 split at h
 ·exact h
 ·cases h
def Q4 (F' H':Hp) (new:List Addr):Hp:=fun b=>if b∈new then Kq (H' b) else F' b
theorem RG (M:MOk F H β om) (g:Gx F F' H H' β β') (M':MOk F' H' β' (om1++l)) (hl:om1.length=om.length) (hs:∀x∈om1,Vp om.length x) :
    ∃F'',Gx F F'' H H' β β∧MOk F'' H' β om1∧∀w w' v,FzW (om1++l) om.length w w'->RW F' β' w v->RW F'' β w' v:=by
 have hβ:β.length=om.length:=M.len
 have hβ':β'.length=om.length+l.length:=by rw[M'.len,List.length_append,hl]
 have ext:∀(h:Nat),h < om.length->β'[h]?=β[h]?:=fun h hh=>by
  have e:β[h]?=some β[h]:=List.getElem?_eq_getElem (by omega)
  rw[e]; exact g.pre h _ e
 have inNew:∀(h:Nat) (a:Addr),om.length<=h->β'[h]?=some a->a∈β'.drop om.length:=fun h a hh e=>by
  refine List.mem_of_getElem? (i:=h - om.length) ?_
  rw[List.getElem?_drop]
  rw[show om.length+(h - om.length)=h by omega]
  exact e
 have ofNew:∀a,a∈β'.drop om.length->∃h,om.length<=h∧β'[h]?=some a:=fun a ha=>by
  obtain ⟨i,hi⟩:=List.getElem?_of_mem ha
  rw[List.getElem?_drop]at hi
  exact ⟨_,Nat.le_add_right _ _,hi⟩
 have oldNew:∀(h:Nat) (a:Addr),β[h]?=some a->a ∉ β'.drop om.length:=fun h a e ha=>by
  obtain ⟨j,hj,ej⟩:=ofNew a ha
  have hh:h < om.length:=by rw[← hβ]; exact (List.getElem?_eq_some_iff.mp e).1
  have:=ndx M'.nd ej (g.pre h a e)
  omega
 have newNone:∀a,a∈β'.drop om.length->H a=none:=fun a ha=>by
  rcases g.new a (List.mem_of_mem_drop ha) with h|h
  ·obtain ⟨i,hi⟩:=List.getElem?_of_mem h
   exact absurd ha (oldNew i a hi)
  ·exact h
 have same':Same F' (Q4 F' H' (β'.drop om.length)):=fun b o e=>by
  unfold Q4
  by_cases hb:b∈β'.drop om.length
  ·obtain ⟨j,_,ej⟩:=ofNew b hb
   rw[M'.free j b ej]at e; cases e
  ·rw[if_neg hb]; exact e
 have sub':Same (Q4 F' H' (β'.drop om.length)) H':=fun b o e=>by
  unfold Q4 at e
  by_cases hb:b∈β'.drop om.length
  ·rw[if_pos hb]at e; exact N7 e
  ·rw[if_neg hb]at e; exact M'.sub b o e
 refine ⟨Q4 F' H' (β'.drop om.length),⟨⟨g.same.trans same',fun _ _ e=>e⟩,g.keep,g.there,fun b hb=>.inl hb,fun b o e=>?_,g.frz⟩,⟨sub',M.nd,by rw[hβ,hl],fun h a e=>?_,fun h a x e1 e2=>?_⟩,?_⟩
 ·unfold Q4 at e
  by_cases hb:b∈β'.drop om.length
  ·exact .inr (newNone b hb)
  ·rw[if_neg hb]at e; exact g.fnew b o e
 ·unfold Q4
  rw[if_neg (oldNew h a e)]
  exact M'.free h a (g.pre h a e)
 ·have hh:h < om1.length:=(List.getElem?_eq_some_iff.mp e2).1
  have hx:=M'.ob h a x (g.pre h a e1) (by rw[List.getElem?_append_left hh]; exact e2)
  have sx:=hs x (List.mem_of_getElem? e2)
  cases x with
  |ins C fs=>obtain ⟨dx,fs',h1,r⟩:=hx; exact ⟨dx,fs',h1,r.down same' ext sx⟩
  |lst ws=>obtain ⟨xs,h1,r⟩:=hx; exact ⟨xs,h1,r.down same' ext sx⟩
  |dk kvs=>obtain ⟨ks,h1,r⟩:=hx; exact ⟨ks,h1,r.down same' ext sx⟩
  |dt kvs=>obtain ⟨ks,h1,r⟩:=hx; exact ⟨ks,h1,r.down same' ext sx⟩
  |exc C=>exact hx
  |dz kvs=>obtain ⟨o,ks,h1,r⟩:=hx; exact ⟨o,ks,h1,r.down same' ext sx⟩
 ·intro w w' v fz r
  refine FzW.rel same' ext (fun h a xs hn eb e=>?_) fz r
  obtain ⟨a',ea,_,zs,hz,rs⟩:=M'.at e
  rw[eb]at ea; cases ea
  refine ⟨zs,?_,rs⟩
  unfold Q4
  rw[if_pos (inNew h _ hn eb),hz]
  rfl
end
inductive Tidy (om:List Ob):Option (Except Addr Wv × List Ob)->Option (Except Addr Wv × List Ob)->Prop
 |same (r:Option (Except Addr Wv × List Ob)):Tidy om r r
 |ok {w w':Wv} {om1 l:List Ob} (hl:om1.length=om.length) (hs:∀x∈om1,Vp om.length x) (fz:FzW (om1++l) om.length w w'):Tidy om (some (.ok w,om1++l)) (some (.ok w',om1))
 |err {C:Addr} {om1 l:List Ob} (hl:om1.length=om.length) (hs:∀x∈om1,Vp om.length x):Tidy om (some (.error C,om1++l)) (some (.error C,om1))
theorem FnOk.tidy {P:Program} {w:World} {K:PySem.W.Frag} {mg:Str->Option Value} {base:Heap} {k n:Nat} {f:Addr} {fd:FuncData} {ps:List Str} {CX:CXT} {g g':List Wv->Mw Wv} (F:FnOk P w K mg base CX k f fd ps (spM n g))
    (h:∀ws om,ws.length=n->(∀x∈om,Vp om.length x)->g' ws om≠none->Tidy om (g ws om) (g' ws om)):FnOk P w K mg base CX k f fd ps (spM n g') :=
 F.imp fun vs H Q E ⟨F,β,om,ws,M,rs,hl,R⟩=>⟨F,β,om,ws,M,rs,hl,by
  have t:=h ws om hl M.small (fun z=>by rw[z]at R; exact R)
  generalize g ws om=r at t
  generalize g' ws om=r' at t R
  cases t with
  |same=>exact R
  |ok hl' hs fz =>
   intro F' H' β' g1 M' v rv
   obtain ⟨F'',g2,M2,rel⟩:=RG M g1 M' hl' hs
   exact R F'' H' β g2 M2 v (rel _ _ v fz rv)
  |err hl' hs =>
   intro F' H' β' g1 M'
   obtain ⟨F'',g2,M2,_⟩:=RG M g1 M' hl' hs
   exact R F'' H' β g2 M2⟩
end
end L2
namespace L2
noncomputable section
open PySem PySem.Spec PyProof.Rows PySem.W
def ltP (a b:Int × Int):Bool:=if a.1=b.1 then decide (a.2 < b.2) else decide (a.1 < b.1)
theorem Vu {a b:Int × Int}:ltP a b=true ↔ a.1 < b.1∨(a.1=b.1∧a.2 < b.2):=by
 unfold ltP
 split
 ·rw[decide_eq_true_iff]; omega
 ·rw[decide_eq_true_iff]; omega
section
variable {prog:Program} {w:World} {A:Around} {E:Value->Shared->Prop} {s:Shared}
structure PrsAt (h:Heap) (as:List Addr) (ps:List (Int × Int)):Prop where
 len:as.length=ps.length
 at':∀(i:Nat) (a:Addr) (p:Int × Int),as[i]?=some a->ps[i]?=some p->∃t u,h.get? a=some { cls:=.type "tuple",data:=.seq #[.int p.1 t,.int p.2 u] }
theorem PrsAt.keep {h h':Heap} {as:List Addr} {ps:List (Int × Int)} (x:PrsAt h as ps) (k:∀a∈as,∀o,h.get? a=some o->h'.get? a=some o):PrsAt h' as ps :=
 ⟨x.len,fun i a p e1 e2=>let ⟨t,u,e⟩:=x.at' i a p e1 e2; ⟨t,u,k a (List.mem_of_getElem? e1) _ e⟩⟩
end
end
end L2
namespace L2
noncomputable section
open PySem PySem.Spec PyProof.Rows PySem.W
section
variable {X:Cx} {E:XK}
def NP (p:Int × Int):List (Int × Int)->List (Int × Int)
 |[]=>[p]
 |q::r=>if ltP q p=true then q::NP p r else p::q::r
def TR:List (Int × Int)->List (Int × Int)
 |[]=>[]
 |p::r=>NP p (TR r)
theorem UB (p:Int × Int):∀l,(NP p l).Perm (p::l)
 |[]=>List.Perm.refl _
 |q::r=>by
  unfold NP
  split
  ·exact ((UB p r).cons q).trans (List.Perm.swap p q r)
  ·exact List.Perm.refl _
theorem VN:∀l,(TR l).Perm l
 |[]=>List.Perm.refl _
 |p::r=>(UB p (TR r)).trans ((VN r).cons p)
abbrev Gm (l:List (Int × Int)):Prop:=l.Pairwise fun x y=>ltP y x=false
theorem Q1 (p:Int × Int):∀l,Gm l->Gm (NP p l)
 |[],_=>List.pairwise_singleton _ _
 |q::r,h=>by
  have h':=List.pairwise_cons.mp h
  unfold NP
  by_cases hc:ltP q p=true
  ·rw[if_pos hc]
   refine List.pairwise_cons.mpr ⟨fun y hy=>?_,Q1 p r h'.2⟩
   rcases List.mem_cons.mp ((UB p r).mem_iff.mp hy) with rfl|hy
   ·cases z:ltP y q with
    |false=>rfl
    |true=>have a:=Vu.mp hc; have b:=Vu.mp z; omega
   ·exact h'.1 y hy
  ·rw[if_neg hc]
   refine List.pairwise_cons.mpr ⟨fun y hy=>?_,h⟩
   have hc':ltP q p=false:=by simpa using hc
   rcases List.mem_cons.mp hy with rfl|hy
   ·exact hc'
   ·cases z:ltP y p with
    |false=>rfl
    |true =>
     have e:=h'.1 y hy
     have a:=Vu.mp z
     have b:¬ _:=fun w'=>hc (Vu.mpr w')
     have c:¬ _:=fun w'=>absurd (Vu.mpr w') (by rw[e]; exact Bool.false_ne_true)
     omega
theorem S7:∀l,Gm (TR l)
 |[]=>List.Pairwise.nil
 |p::r=>Q1 p _ (S7 r)
def IG:List (Key × Wv)->Option (List (Int × Int))
 |[]=>some []
 |(.inl k,.int v)::r=>match IG r with
  |some ps=>some ((k,v)::ps)
  |none=>none
 |_=>none
def prW (p:Int × Int):Wv:=.tup [.int p.1,.int p.2]
def Tu (d:Wv):Mw (List Wv):=fun om=>match d with
 |.o h=>match om[h]? with
  |some (.dk kvs)=>match IG kvs with
   |some ps=>if ps.length < 64 then some (.ok ((TR ps).map prW),om) else none
   |none=>none
  |_=>none
 |_=>none
def QM (k:List Wv->Mw Wv) (f:FE):FE:=fun sl=>bnd (f sl) fun d=>bnd (Tu d) k
variable {o:Expr} {f:FE} {k:List Wv->Mw Wv} {p pos apos cpos:Pos}
end
end
end L2
namespace L2
noncomputable section
open PySem
theorem VQ {c:FT} {f:FE} {mk:Wv->Sl} {om:List Ob} (p:Wv->Bool) (g:Wv->Wv):∀{l:List Wv},(∀w∈l,c (mk w) om=some (.ok (p w),om))->(∀w∈l,p w=true->f (mk w) om=some (.ok (g w),om))->Xz c f mk l om=some (.ok ((l.filter p).map g),om)
 |[],_,_=>rfl
 |w::r,hc,hf=>by
  have ih:=VQ p g (l:=r) (fun x hx=>hc x (.tail _ hx)) (fun x hx=>hf x (.tail _ hx))
  have h1:=hc w (.head _)
  show bnd (Yo (c (mk w))) (QO (Xz c f mk r) (f (mk w))) om=_
  cases hp:p w with
  |false=>simp[bnd,Yo,h1,hp,QO,ih,List.filter_cons]
  |true =>
   have h2:=hf w (.head _) hp
   simp[bnd,Yo,h1,hp,QO,ih,h2,List.filter_cons,ret]
theorem Pa (p:Wv->Bool) (n:Nat):(XD n).filter p=((List.range n).filter fun k=>p (.int (k:Nat))).map fun (k:Nat)=>Wv.int k:=by
 unfold XD
 rw[List.filter_map]
 rfl
theorem PU {n:Nat} {w:Wv} (h:w∈XD n):∃k,k < n∧w=.int (k:Nat):=by
 obtain ⟨k,hk,e⟩:=List.mem_map.mp h
 exact ⟨k,List.mem_range.mp hk,e.symm⟩
theorem Y0 (n:Nat):(XD n).length=n:=by simp[XD]
def Xq (us:List (Int × Int)):List (Key × Wv):=us.map fun p=>(.inl p.1,.int p.2)
theorem Tq (us:List (Int × Int)) (k:Int):WT (Xq us) (.inl k)=(us.lookup k).map Wv.int:=by
 induction us with
 |nil=>rfl
 |cons p us ih =>
  unfold WT Xq at ih ⊢
  rw[List.map_cons,List.find?_cons,List.lookup_cons]
  by_cases h:p.1=k
  ·simp[h]
  ·have h':(k == p.1)=false:=beq_eq_false_iff_ne.mpr (Ne.symm h)
   have h2:¬ (Sum.inl p.1:Key)=Sum.inl k:=fun z=>h (Sum.inl.inj z)
   simp only[h2,decide_false,h']
   exact ih
theorem Jr {us:List (Int × Int)} {k:Int} (s:Int) (h:us.lookup k=none):Wl (Xq us) (.inl k) (.int s)=Xq (us++[(k,s)]):=by
 have:((Xq us).any fun kv=>decide (kv.1=(Sum.inl k:Key)))=false:=by
  have hv:=Tq us k
  rw[h]at hv
  unfold WT at hv
  cases hf:(Xq us).find? fun kv=>decide (kv.1=(Sum.inl k:Key)) with
  |some x=>rw[hf]at hv; cases hv
  |none =>
   rw[List.any_eq_false]
   intro x hx
   exact List.find?_eq_none.mp hf x hx
 unfold Wl
 rw[this,if_neg Bool.false_ne_true]
 simp[Xq]
theorem Mp (us:List (Int × Int)):(Xq us).length=us.length:=by simp[Xq]
def Zx:Option Int->Wv
 |none=>.non
 |some s=>.int s
structure UR (us:List (Int × Int)) (f:List (Option Int)):Prop where
 nd:(us.map (·.1)).Nodup
 mem:∀k s,(k,s)∈us ↔ 0<=k∧f[k.toNat]?=some (some s)
def NY (f:List (Option Int)):List (Int × Int):=(List.range f.length).filterMap fun k=>(f.getD k none).map fun s=>((k:Int),s)
theorem Lo {f:List (Option Int)} {k s:Int}:(k,s)∈NY f ↔ 0<=k∧f[k.toNat]?=some (some s):=by
 unfold NY
 rw[List.mem_filterMap]
 constructor
 ·rintro ⟨j,hj,e⟩
  obtain ⟨t,ht,e2⟩:=Option.map_eq_some_iff.mp e
  cases e2
  have hj:=List.mem_range.mp hj
  refine ⟨by omega,?_⟩
  rw[Int.toNat_natCast]
  rw[List.getD_eq_getElem?_getD,List.getElem?_eq_getElem hj]at ht
  rw[List.getElem?_eq_getElem hj]
  simpa using ht
 ·rintro ⟨h0,e⟩
  have hl:=(List.getElem?_eq_some_iff.mp e).1
  refine ⟨k.toNat,List.mem_range.mpr hl,?_⟩
  rw[List.getD_eq_getElem?_getD,e]
  simp; omega
theorem U7:∀{l m:List (Int × Int)},l.Pairwise (fun x y=>x.1 < y.1)->m.Pairwise (fun x y=>x.1 < y.1)->(∀p,p∈l ↔ p∈m)->l=m
 |[],[],_,_,_=>rfl
 |[],y::m,_,_,h=>absurd ((h y).mpr (.head _)) (by simp)
 |x::l,[],_,_,h=>absurd ((h x).mp (.head _)) (by simp)
 |x::l,y::m,h1,h2,h=>by
  have h1':=List.pairwise_cons.mp h1
  have h2':=List.pairwise_cons.mp h2
  have e:x=y:=by
   rcases List.mem_cons.mp ((h x).mp (.head _)) with hx|hx
   ·exact hx
   ·rcases List.mem_cons.mp ((h y).mpr (.head _)) with hy|hy
    ·exact hy.symm
    ·have a:=h1'.1 y hy
     have b:=h2'.1 x hx
     omega
  subst e
  congr 1
  refine U7 h1'.2 h2'.2 fun p=>⟨fun hp=>?_,fun hp=>?_⟩
  ·rcases List.mem_cons.mp ((h p).mp (.tail _ hp)) with rfl|hq
   ·have:=h1'.1 p hp; omega
   ·exact hq
  ·rcases List.mem_cons.mp ((h p).mpr (.tail _ hp)) with rfl|hq
   ·have:=h2'.1 p hp; omega
   ·exact hq
theorem Pd (f:List (Option Int)):(NY f).Pairwise (fun x y=>x.1 < y.1):=by
 unfold NY
 refine List.Pairwise.filterMap (R:=(· < ·)) _ (fun a b hab x hx y hy=>?_) List.pairwise_lt_range
 obtain ⟨s,_,rfl⟩:=Option.map_eq_some_iff.mp hx
 obtain ⟨t,_,rfl⟩:=Option.map_eq_some_iff.mp hy
 show (a:Int) < b
 omega
theorem UR.sort {us:List (Int × Int)} {f:List (Option Int)} (u:UR us f):TR us=NY f:=by
 have hp:=VN us
 have hn:((TR us).map (·.1)).Nodup:=(hp.map _).nodup_iff.mpr u.nd
 refine U7 ?_ (Pd f) fun p=>?_
 ·have hs:=S7 us
  have hn':=List.pairwise_map.mp hn
  refine (hs.and hn').imp fun {x y} h=>?_
  have a:¬ _:=fun w'=>absurd (Vu.mpr w') (by rw[h.1]; exact Bool.false_ne_true)
  have b:=h.2
  omega
 ·obtain ⟨k,s⟩:=p
  rw[hp.mem_iff,u.mem,Lo]
theorem Si {k s:Int}:∀{us:List (Int × Int)},us.lookup k=some s->(k,s)∈us
 |[],e=>by cases e
 |p::us,e=>by
  rw[List.lookup_cons]at e
  cases h:(k == p.1) with
  |true=>rw[h]at e; cases e; rw[eq_of_beq h]; exact .head _
  |false=>rw[h]at e; exact .tail _ (Si e)
theorem UR.lookup {us:List (Int × Int)} {f:List (Option Int)} (u:UR us f) {k:Nat} (hk:k < f.length):us.lookup (k:Int)=f.getD k none:=by
 rw[List.getD_eq_getElem?_getD,List.getElem?_eq_getElem hk]
 show us.lookup (k:Int)=f[k]
 cases h:f[k] with
 |none =>
  cases h2:us.lookup (k:Int) with
  |none=>rfl
  |some s =>
   have:=(u.mem k s).mp (Si h2)
   rw[Int.toNat_natCast,List.getElem?_eq_getElem hk,h]at this
   simp at this
 |some s =>
  have hm:((k:Int),s)∈us:=(u.mem k s).mpr ⟨by omega,by rw[Int.toNat_natCast,List.getElem?_eq_getElem hk,h]⟩
  have nd:=u.nd
  clear u h
  induction us with
  |nil=>simp at hm
  |cons p us ih =>
   rw[List.lookup_cons]
   rcases List.mem_cons.mp hm with rfl|hm
   ·simp
   ·have nd':=List.nodup_cons.mp (show (p.1::us.map (·.1)).Nodup from nd)
    have hne:((k:Int) == p.1)=false:=beq_eq_false_iff_ne.mpr fun z=>nd'.1 (List.mem_map.mpr ⟨_,hm,z⟩)
    rw[hne]
    exact ih hm nd'.2
theorem UR.len {us:List (Int × Int)} {f:List (Option Int)} (u:UR us f):us.length<=f.length:=by
 rw[← (VN us).length_eq,u.sort]
 unfold NY
 exact Nat.le_trans (List.length_filterMap_le _ _) (by simp)
theorem Ue {a b:String}:(Str.ofString a=Str.ofString b)=(a=b):=by
 refine propext ⟨fun h=>?_,fun h=>by rw[h]⟩
 rw[Str.ofString_eq_toList,Str.ofString_eq_toList]at h
 injection h with h
 have h:=congrArg Array.toList h
 simp only at h
 have inj:∀{l m:List Char},l.map Char.toNat=m.map Char.toNat->l=m:=by
  intro l
  induction l with
  |nil=>intro m e; cases m with|nil=>rfl|cons _ _=>simp at e
  |cons x l ih =>
   intro m e
   cases m with
   |nil=>simp at e
   |cons y m =>
    simp only[List.map_cons,List.cons.injEq]at e
    rw[ih e.2,Char.ext (UInt32.toNat_inj.mp e.1)]
 exact String.toList_inj.mp (inj h)
theorem Y3 {a b:String}:(Str.ofString a == Str.ofString b)=decide (a=b):=by
 rw[Bool.eq_iff_iff,beq_iff_eq,decide_eq_true_iff,Ue]
theorem UY:isNon .non=true:=rfl
theorem UO (i:Int):isNon (.int i)=false:=rfl
theorem Ss (b:Bool):isNon (.bl b)=false:=rfl
theorem UK (ws:List Wv):isNon (.tup ws)=false:=rfl
theorem UH (ws:List Wv):isNon (.lst ws)=false:=rfl
theorem Qw (h:Nat):isNon (.o h)=false:=rfl
theorem Yh (n:Nat) (om:List Ob) (h:n<=lim):ZZ (.int n) om=some (.ok (XD n),om):=by
 have hl:n<=100000:=Ye ▸ h
 have hd:decide (-(2 ^ 62)<=(n:Int)∧(n:Int) < 2 ^ 62)=true:=by
  rw[decide_eq_true_iff]
  exact ⟨by omega,by omega⟩
 simp only[ZZ,hd]
 rw[Int.toNat_natCast]
 rfl
theorem UP (a b:Int) (om:List Ob):Wn true (.int a) (.int b) om=some (.ok (.bl (!decide (a=b))),om):=by
 simp[Wn,YW,Wj,WK,PyData.canLay0,PyData.depth,PyData.eqv]
 rfl
theorem YS (a b:Int) (om:List Ob):Wn false (.int a) (.int b) om=some (.ok (.bl (decide (a=b))),om):=by
 simp[Wn,YW,Wj,WK,PyData.canLay0,PyData.depth,PyData.eqv]
 rfl
theorem Zg {S1 S2:FS} {sl sl1:Sl} {om om1:List Ob} (h:S1 sl om=some (.ok (.nx,sl1),om1)):ZB S1 S2 sl om=S2 sl1 om1:=by
 simp[ZB,bnd,h,Mi]
theorem YC {S1 S2:FS} {sl sl1:Sl} {om om1:List Ob} {w:Wv} (h:S1 sl om=some (.ok (.rt w,sl1),om1)):ZB S1 S2 sl om=some (.ok (.rt w,sl1),om1):=by
 simp[ZB,bnd,h,Mi,ret]
theorem Xw {S1 S2:FS} {sl:Sl} {om om1:List Ob} {C:Addr} (h:S1 sl om=some (.error C,om1)):ZB S1 S2 sl om=some (.error C,om1):=by
 simp[ZB,bnd,h]
theorem ZS {N:Nat} {S:FS} {ws:List Wv} {sl1:Sl} {om om1:List Ob} {w:Wv} (h:S (XV N ws) om=some (.ok (.rt w,sl1),om1)):Yr N S ws om=some (.ok w,om1):=by
 simp[Yr,bnd,h,OG,ret]
theorem XM {N:Nat} {S:FS} {ws:List Wv} {sl1:Sl} {om om1:List Ob} (h:S (XV N ws) om=some (.ok (.nx,sl1),om1)):Yr N S ws om=some (.ok .non,om1):=by
 simp[Yr,bnd,h,OG,ret]
theorem YX {N:Nat} {S:FS} {ws:List Wv} {om om1:List Ob} {C:Addr} (h:S (XV N ws) om=some (.error C,om1)):Yr N S ws om=some (.error C,om1):=by
 simp[Yr,bnd,h]
theorem Y6 {fi:FI} {T:TgW} {S:FS} {sl sl1:Sl} {om om1 om2:List Ob} {ws:List Wv} {r:Fl × Sl} (h:fi sl om=some (.ok ws,om1)) (hf:Va T S ws sl om1=some (.ok r,om2)):Wb fi T S sl om=some (.ok r,om2):=by
 simp[Wb,bnd,h,hf]
theorem VF {k:List Wv->Mw Wv} {js:List Nat} {fi:FI} {c:FT} {f:FE} {sl:Sl} {om om1 om2:List Ob} {ws us:List Wv} (h:fi sl om=some (.ok ws,om1)) (hl:ws.length<=lim) (hc:Xz c f (fun w=>Xb js w sl) ws om1=some (.ok us,om2)):Yu k js fi c f sl om=k us om2:=by
 simp[Yu,bnd,h,chk,hl,hc,ret]
theorem ZK {i:Nat} {f:FE} {sl:Sl} {om om1:List Ob} {w:Wv} (h:f sl om=some (.ok w,om1)):ZO i f sl om=some (.ok (.nx,sl.set i (some w)),om1):=by
 simp[ZO,bnd,h,ret]
end
open PySem
theorem Zr {α β:Type} {m:Mw α} {k:α->Mw β} {om om1:List Ob} {a:α} (h:m om=some (.ok a,om1)):bnd m k om=k a om1:=by
 simp[bnd,h]
theorem Xc {α β:Type} {m:Mw α} {k:α->Mw β} {om om1:List Ob} {C:Addr} (h:m om=some (.error C,om1)):bnd m k om=some (.error C,om1):=by
 simp[bnd,h]
section
variable {sl sl1:Sl} {om om1 om2:List Ob} {f fa fb fo:FE} {c c1 c2:FT} {S S1 S2:FS} {fs:FA} {w x y:Wv} {ws:List Wv} {b:Bool} {i j n:Nat}
theorem Z6 (h:c sl om=some (.ok true,om1)):sIf c S1 S2 sl om=S1 sl om1:=by simp[sIf,bnd,h]
theorem WS (h:c sl om=some (.ok false,om1)):sIf c S1 S2 sl om=S2 sl om1:=by simp[sIf,bnd,h]
theorem ZL (h:c sl om=some (.ok false,om1)):sIf c S1 Yq sl om=some (.ok (.nx,sl),om1):=(WS h).trans rfl
theorem Zb (h:sl[i]?=some (some w)):Za i sl om=some (.ok w,om):=by simp[Za,h,ret]
theorem Zo:fC w sl om=some (.ok w,om):=rfl
theorem Zi:Zk sl om=some (.ok [],om):=rfl
theorem Zd (h:f sl om=some (.ok w,om1)) (hr:fs sl om1=some (.ok ws,om2)):Zc f fs sl om=some (.ok (w::ws),om2):=by simp[Zc,bnd,h,hr,ret]
theorem ZG {k:List Wv->Mw Wv} (h:fs sl om=some (.ok ws,om1)):fA k fs sl om=k ws om1:=by simp[fA,bnd,h]
theorem Y8 {k:Wv->Mw Wv} (h:f sl om=some (.ok w,om1)):f1 k f sl om=k w om1:=by simp[f1,bnd,h]
theorem Zq {k:Wv->Wv->Mw Wv} (h:fa sl om=some (.ok x,om1)) (h2:fb sl om1=some (.ok y,om2)):f2 k fa fb sl om=k x y om2:=by simp[f2,bnd,h,h2]
theorem Xe {g:List Wv->Mw Wv} (h:ws.length=n):kN n g ws om=g ws om:=by subst h; simp[kN,chk,bnd,ret]
theorem ZW (h:f sl om=some (.ok (.bl b),om1)):fB f sl om=some (.ok b,om1):=by simp[fB,bnd,h,kB,ret]
theorem X2 (h:f sl om=some (.ok (.bl b),om1)):XB f sl om=some (.ok b,om1):=by simp[XB,bnd,h,MH,TD]
theorem X3 (h:c sl om=some (.ok b,om1)):Wm c sl om=some (.ok (!b),om1):=by simp[Wm,bnd,h,ret]
theorem Qv (h:c1 sl om=some (.ok true,om1)):Vg c1 c2 sl om=c2 sl om1:=by simp[Vg,bnd,h]
theorem OI (h:c1 sl om=some (.ok false,om1)):Vg c1 c2 sl om=some (.ok false,om1):=by simp[Vg,bnd,h,ret]
theorem Nm (h:c1 sl om=some (.ok true,om1)):fOr c1 c2 sl om=some (.ok true,om1):=by simp[fOr,bnd,h,ret]
theorem TU (h:c1 sl om=some (.ok false,om1)):fOr c1 c2 sl om=c2 sl om1:=by simp[fOr,bnd,h]
theorem ZD (h:f sl om=some (.ok w,om1)):Yk f sl om=some (.ok (.rt w,sl),om1):=by simp[Yk,bnd,h,ret]
theorem ZJ (h:f sl om=some (.ok w,om1)):ZP f sl om=some (.ok (.nx,sl),om1):=by simp[ZP,bnd,h,ret]
theorem Zv {C:Addr} {m:Str} {g:List Wv->Mw Wv} {k:List (Str × Wv)} (h:fo sl om=some (.ok w,om1)) (hi:WR om1 w=some (C,k)) (hk:k.lookup m=none) (hs:fs sl om1=some (.ok ws,om2)) (hn:ws.length+1=n):ZC C m n g fo fs sl om=g (w::ws) om2:=by
 subst hn
 simp[ZC,bnd,h,P1,hi,hk,hs,kN,chk,ret]
end
open PySem
theorem Jz {K:PySem.W.Frag} (h:Gh K=true) {a:Addr} {o:Obj} (e:K.lookup a=some o):o.cls≠.type "list":=by
 intro z
 have hm:∃b,(b,o)∈K:=by
  clear h z
  induction K with
  |nil=>cases e
  |cons p K ih =>
   rw[List.lookup_cons]at e
   split at e
   ·cases e; exact ⟨p.1,.head _⟩
   ·obtain ⟨b,hb⟩:=ih e; exact ⟨b,.tail _ hb⟩
 obtain ⟨b,hb⟩:=hm
 have:=List.all_eq_true.mp h _ hb
 rw[show tyL ((b,o):Addr × Obj).2.cls=true by show tyL o.cls=true; rw[z]; rfl]at this
 cases this
def Ie (K:PySem.W.Frag):Sp:=fun vs H Q _=>∃(a:Addr) (ns:List Int),vs=[.ref a]∧SqL K H a (ns.map V.int)∧ns.length<=63∧∀H',Q (.bl true) H'
theorem QX (F:Hp) (β:List Addr):∀ns:List Int,RWs F β (ns.map Wv.int) (ns.map V.int)
 |[]=>.nil
 |i::ns=>.cons (.int i) (QX F β ns)
theorem Jy {P:Program} {w:World} {K:PySem.W.Frag} {mg:Str->Option Value} {base:Heap} {CX:CXT} {k:Nat} {f:Addr} {fd:FuncData} {ps:List Str} {g:List Wv->Mw Wv} (hK:Gh K=true) (G:FnOk P w K mg base CX k f fd ps (spM 1 g))
    (h:∀ns:List Int,∃om,g [.lst (ns.map .int)] []=some (.ok (.bl true),om)):FnOk P w K mg base CX k f fd ps (Ie K):=G.imp fun vs H Q E ⟨a,ns,e,S,_,q⟩=>by
 subst e
 have r:Rd H a (.lst (ns.map V.int)):=S.resolve_right fun ⟨o,its,n,e,hc,_⟩=>Jz hK e hc
 obtain ⟨om,e⟩:=h ns
 refine ⟨fun b=>if b=a then H b else none,[],[],[.lst (ns.map .int)],⟨fun b u z=>?_,.nil,rfl,fun h a z=>(by cases z),fun h a x z _=>(by cases z)⟩,.cons (.lst ?_ (QX _ _ ns)) .nil,rfl,?_⟩
 ·by_cases hb:b=a
  ·exact (if_pos hb).symm.trans z
  ·have:=(if_neg hb).symm.trans z; cases this
 ·rcases r with r|⟨o,r⟩
  ·exact .inl ((if_pos rfl).trans r)
  ·exact .inr ⟨o,(if_pos rfl).trans r⟩
 ·rw[e]
  exact fun F' H' β' _ _ v rv=>by cases rv; exact q H'
theorem KIsi.of {K:PySem.W.Frag} {T:Kd} (h:Lv.map (fun s=>PySem.W.kitOne K (.type s) (.type T.nm))=[Kd.non,.bl,.int,.str,.lst,.tup,.dct].map fun t=>some (Kd.isi t T)):KIsi K T:=by
 simp only[Lv,List.map_cons,List.map_nil,List.cons.injEq]at h
 exact ⟨h.1,h.2.1,h.2.2.1,h.2.2.2.1,h.2.2.2.2.1,h.2.2.2.2.2.1,h.2.2.2.2.2.2.1⟩
theorem Vc {f:Value->Option Bool} {Ds:List Value} {l:List Bool} (q:Ds.map f=l.map some) {D:Value} (h:D∈Ds):f D=some ((f D).getD false):=by
 have:f D∈l.map some:=by rw[← q]; exact List.mem_map_of_mem h
 obtain ⟨b,_,e⟩:=List.mem_map.mp this
 rw[← e]; rfl
theorem Ud {f:Value->Option Bool} {Ds:List Value} {l:List Bool} (q:Ds.map f=l.map some):Ds.map (fun D=>(f D).getD false)=l:=by
 have:=congrArg (List.map (fun o:Option Bool=>o.getD false)) q
 rw[List.map_map,List.map_map]at this
 refine Eq.trans this ?_
 induction l with
 |nil=>rfl
 |cons b l ih=>exact List.map_id _
end L2
namespace L2
noncomputable section
open PySem
def fzW (om:List Ob) (n:Nat):Nat->Wv->Wv
 |0,w=>w
 |k+1,.o h=>if n<=h then (match om[h]? with|some (.lst xs)=>.lst (xs.map (fzW om n k))|_=>.o h) else .o h
 |k+1,.lst xs=>.lst (xs.map (fzW om n k))
 |k+1,.tup xs=>.tup (xs.map (fzW om n k))
 |_+1,w=>w
open Classical in def tidyR (om:List Ob):Option (Except Addr Wv × List Ob)->Option (Except Addr Wv × List Ob)
 |none=>none
 |some (.ok w,om')=>if om'.take om.length=om∧FzW om' om.length w (fzW om' om.length 4 w) then some (.ok (fzW om' om.length 4 w),om) else none
 |some (.error C,om')=>if om'.take om.length=om then some (.error C,om) else none
def tidyG (g:List Wv->Mw Wv):List Wv->Mw Wv:=fun ws om=>tidyR om (g ws om)
open Classical in theorem tidyR_tidy {om:List Ob} (hs:∀x∈om,Vp om.length x) {r:Option (Except Addr Wv × List Ob)} (h:tidyR om r≠none):Tidy om r (tidyR om r):=by
 match r,h with
 |none,h=>exact absurd rfl h
 |some (.ok w,om'),h =>
  have h:¬ ((if om'.take om.length=om∧FzW om' om.length w (fzW om' om.length 4 w) then some (Except.ok (fzW om' om.length 4 w),om) else none)=(none:Option (Except Addr Wv × List Ob))):=h
  by_cases c:om'.take om.length=om∧FzW om' om.length w (fzW om' om.length 4 w)
  ·have e:om'=om++om'.drop om.length:=by
    conv=>lhs; rw[← List.take_append_drop om.length om',c.1]
   show Tidy om (some (.ok w,om')) (if om'.take om.length=om∧FzW om' om.length w (fzW om' om.length 4 w) then some (Except.ok (fzW om' om.length 4 w),om) else none)
   rw[if_pos c]
   have f:=c.2
   generalize fzW om' om.length 4 w=w' at f
   rw[e]at f ⊢
   exact .ok rfl hs f
  ·rw[if_neg c]at h; exact absurd rfl h
 |some (.error C,om'),h =>
  have h:¬ ((if om'.take om.length=om then some (Except.error C,om) else none)=(none:Option (Except Addr Wv × List Ob))):=h
  by_cases c:om'.take om.length=om
  ·have e:om'=om++om'.drop om.length:=by
    conv=>lhs; rw[← List.take_append_drop om.length om',c]
   show Tidy om (some (.error C,om')) (if om'.take om.length=om then some (Except.error C,om) else none)
   rw[if_pos c]
   rw[e]
   exact .err rfl hs
  ·rw[if_neg c]at h; exact absurd rfl h
theorem FnOk.tidyG {P:Program} {w:World} {K:PySem.W.Frag} {mg:Str->Option Value} {base:Heap} {k n:Nat} {f:Addr} {fd:FuncData} {ps:List Str} {CX:CXT} {g:List Wv->Mw Wv} (F:FnOk P w K mg base CX k f fd ps (spM n g)):FnOk P w K mg base CX k f fd ps (spM n (L2.tidyG g)) :=
 FnOk.tidy F fun ws om _ hs h=>tidyR_tidy hs h
open Classical in theorem tidyG_ok {g:List Wv->Mw Wv} {ws:List Wv} {om l:List Ob} {w w':Wv} (h:g ws om=some (.ok w,om++l)) (f:FzW (om++l) om.length w w') (e:fzW (om++l) om.length 4 w=w'):tidyG g ws om=some (.ok w',om):=by
 unfold tidyG
 rw[h]
 show (if (om++l).take om.length=om∧FzW (om++l) om.length w (fzW (om++l) om.length 4 w) then some (Except.ok (fzW (om++l) om.length 4 w),om) else none)=_
 rw[e,if_pos ⟨List.take_left,f⟩]
open Classical in theorem tidyG_er {g:List Wv->Mw Wv} {ws:List Wv} {om l:List Ob} {C:Addr} (h:g ws om=some (.error C,om++l)):tidyG g ws om=some (.error C,om):=by
 unfold tidyG
 rw[h]
 show (if (om++l).take om.length=om then some (Except.error C,om) else none)=_
 rw[if_pos List.take_left]
end
open PySem
theorem Zw {om:List Ob} {w v:Wv} {xs:List Wv} {k:Nat} (h:YB om w=some xs) (e:xs[k]?=some v):kIx w (.int k) om=some (.ok v,om):=by
 simp[kIx,h,KO e]
theorem V7 {om:List Ob} {w:Wv} {xs:List Wv} (h:YB om w=some xs):Y7 [w] om=some (.ok (.int xs.length),om):=by
 simp[Y7,h]
theorem Tp {om:List Ob} {w:Wv} {xs:List Wv} {sl:Sl} {i:Nat} (hv:sl[i]?=some (some w)) (h:YB om w=some xs) (hl:xs.length<=lim):(fun sl=>bnd ((fA Y7 (Zc (Za i) Zk)) sl) ZZ) sl om=some (.ok (XD xs.length),om) :=
 (Zr ((ZG (Zd (Zb hv) Zi)).trans (V7 h))).trans (Yh _ _ hl)
theorem JT {α:Type} {f:α->Wv} {xs:List α} {k:Nat} (h:k < xs.length) (d:α):(xs.map f)[k]?=some (f (xs.getD k d)):=by
 simp[h,List.getD_eq_getElem?_getD]
theorem XT {α:Type} {f:α->Wv} {xs:List α} {om:List Ob} {w:Wv} {k:Nat} (h:YB om w=some (xs.map f)) (hk:k < xs.length) (d:α):kIx w (.int k) om=some (.ok (f (xs.getD k d)),om) :=
 Zw h (JT hk d)
theorem Qr (a b:String) (ha:PyData.strOk (Str.ofString a)=true) (hb:PyData.strOk (Str.ofString b)=true) (om:List Ob):Wn false (.str a) (.str b) om=some (.ok (.bl (decide (a=b))),om):=by
 simp[Wn,YW,Wj,WK,PyData.canLay0,PyData.depth,PyData.eqv,Y3,Ue,ha,hb]
theorem Ri {T:TgW} {S:FS} (J:Nat->Sl->List Ob->Prop):∀(n s:Nat) {sl:Sl} {om:List Ob},(∀m,s<=m->m < s+n->∀sl om,J m sl om->∃sl1 fl sl2 om2,T (.int (m:Nat)) sl=some sl1∧S sl1 om=some (.ok (fl,sl2),om2)∧(fl=.nx∨fl=.ct)∧J (m+1) sl2 om2)->J s sl om->∃sl' om',Va T S ((List.range' s n).map fun (i:Nat)=>Wv.int i) sl om=some (.ok (.nx,sl'),om')∧J (s+n) sl' om'
 |0,s,sl,om,_,j=>⟨sl,om,rfl,j⟩
 |n+1,s,sl,om,h,j=>by
  obtain ⟨sl1,fl,sl2,om2,h1,h2,h3,h4⟩:=h s (Nat.le_refl _) (by omega) sl om j
  obtain ⟨sl',om',e,j'⟩:=Ri J n (s+1) (fun m ha hb=>h m (by omega) (by omega)) h4
  refine ⟨sl',om',?_,by rw[show s+(n+1)=s+1+n by omega]; exact j'⟩
  rw[List.range'_succ,List.map_cons]
  show (match T (.int (s:Nat)) sl with|none=>XA|some sl1=>bnd (S sl1) (Um fun sl2=>Va T S _ sl2)) om=_
  rw[h1]
  rcases h3 with rfl|rfl
  ·simp[bnd,h2,Um,e]
  ·simp[bnd,h2,Um,e]
theorem Xr {T:TgW} {S:FS} {n:Nat} {sl:Sl} {om:List Ob} (J:Nat->Sl->List Ob->Prop) (h:∀m,m < n->∀sl om,J m sl om->∃sl1 fl sl2 om2,T (.int (m:Nat)) sl=some sl1∧S sl1 om=some (.ok (fl,sl2),om2)∧(fl=.nx∨fl=.ct)∧J (m+1) sl2 om2) (j:J 0 sl om):∃sl' om',Va T S (XD n) sl om=some (.ok (.nx,sl'),om')∧J n sl' om':=by
 obtain ⟨sl',om',e,j'⟩:=Ri J n 0 (fun m _ hm=>h m (by omega)) j
 rw[Nat.zero_add]at j'
 refine ⟨sl',om',?_,j'⟩
 unfold XD
 rw[List.range_eq_range']
 exact e
section
variable {sl:Sl} {om:List Ob} {c1 c2:FT} {b1 b2:Bool} {r:Wv}
theorem Kf (h1:c1 sl om=some (.ok b1,om)) (h2:b1=true->c2 sl om=some (.ok b2,om)):Vg c1 c2 sl om=some (.ok (b1&&b2),om):=by
 cases b1 with
 |true=>exact (Qv h1).trans (h2 rfl)
 |false=>exact OI h1
theorem Ib (h1:c1 sl om=some (.ok b1,om)) (h2:b1=false->c2 sl om=some (.ok b2,om)):fOr c1 c2 sl om=some (.ok (b1 || b2),om):=by
 cases b1 with
 |true=>exact Nm h1
 |false=>exact (TU h1).trans (h2 rfl)
theorem v2 {k:Wv->Wv->Mw Wv} {i j:Nat} {x y:Wv} (hi:sl[i]?=some (some x)) (hj:sl[j]?=some (some y)):f2 k (Za i) (Za j) sl om=k x y om:=Zq (Zb hi) (Zb hj)
end
theorem Go (a b:Nat) (om:List Ob):Wn true (.int a) (.int b) om=some (.ok (.bl (!decide (a=b))),om):=by
 rw[UP]; by_cases h:a=b <;> simp[h] <;> omega
theorem Gi (a b:Nat) (om:List Ob):Wn false (.int a) (.int b) om=some (.ok (.bl (decide (a=b))),om):=by
 rw[YS]; by_cases h:a=b <;> simp[h] <;> omega
theorem XH {ws:List Wv} {om:List Ob} (h:ws.length<=8):Xu ws om=some (.ok (.tup ws),om):=by
 have:ws.length<=lim:=by have:=Ye; omega
 simp[Xu,this,L2.ret]
theorem Qi {om:List Ob} {n h k:Nat} {xs:List Wv} (hn:n<=h) (e:om[h]?=some (.lst xs)):fzW om n (k+1) (.o h)=.lst (xs.map (fzW om n k)):=by
 unfold fzW
 rw[if_pos hn,e]
theorem Jd (om:List Ob) (n k:Nat):fzW om n k .non=.non:=by cases k <;> rfl
theorem Gn (om:List Ob) (n k:Nat) (b:Bool):fzW om n k (.bl b)=.bl b:=by cases k <;> rfl
theorem JC (om:List Ob) (n k:Nat) (b:Int):fzW om n k (.int b)=.int b:=by cases k <;> rfl
theorem Lw (om:List Ob) (n k:Nat) (o:Option Int):fzW om n k (Zx o)=Zx o:=by cases o with|none=>exact Jd ..|some _=>exact JC ..
theorem Ji {om l:List Ob} {x:Ob}:(om++x::l)[om.length]?=some x:=by simp
theorem TF:PyData.strOk (Str.ofString "stand")=true:=by decide +kernel
theorem V6:PyData.strOk (Str.ofString "move")=true:=by decide +kernel
theorem O4:PyData.strOk (Str.ofString "help")=true:=by decide +kernel
end L2
namespace L2
noncomputable section
open PySem PySem.Spec PyProof.Rows
def FH:Wv->Mw Wv
 |.int i=>ret (.int i)
 |.bl b=>ret (.int (if b then 1 else 0))
 |_=>XA
def MW:List Wv->Mw Wv
 |[x]=>FH x
 |_=>XA
section
variable {X:Cx} {E:XK} {e a b:Expr} {es:List Expr} {f fa fb:FE} {fs:FA} {pos p:Pos}
theorem P4:Rj E (fun xs H Q=>(∃i,xs=[.int i]∧Q (.int i) H)∨∃k,xs=[.bl k]∧Q (.int (if k then 1 else 0)) H) MW:=by
 intro F H β om ws vs Q M rs R
 match ws,rs,R with
 |[],_,R=>exact R.elim
 |_::_::_,_,R=>exact R.elim
 |[x],.cons rx .nil,R =>
  have R:Res E (FH x om) F H β (PV Q):=R
  cases rx with
  |int i=>exact .inl ⟨i,rfl,(show Res E (ret (Wv.int i) om) F H β (PV Q) from R).now M _ (.int _)⟩
  |bl b=>exact .inr ⟨b,rfl,(show Res E (ret (Wv.int (if b then 1 else 0)) om) F H β (PV Q) from R).now M _ (.int _)⟩
  |_=>exact R.elim
theorem JD (hg:Gl X "int") (hm:X.mg "int"=none) (hb:bootBuiltins "int"=some (.type "int")) (ha:PA X [e] (tA E fs)) (he:starEach [e] X.env=(false,eval e X.env)::starEach [] X.env:=by rfl) (hpl:(backTo pos (starEach [] X.env)).any (·.1)=false:=by rfl) :
    PE X (.Call (.Name "int" p) [e] [] pos) (tE E (fA MW fs)):=NW NQ P4 hg hm hb ha (by decide) (by decide) he hpl
end
end
end L2
namespace L2
noncomputable section
open PySem PySem.Spec PyProof.Rows
end
end L2
namespace L2
noncomputable section
open PySem PySem.Spec PyProof.Rows
abbrev stW:Wv:=.tup [.str "stand"]
def GTup (K:PySem.W.Frag) (a:Addr):Prop:=∃(o:Obj) (its:Array Value) (n:Nat),K.lookup a=some o∧o.cls=.type "tuple"∧o.data=.seq its n∧its.size<=sizeLine∧Vals [V.str "stand"] its.toList
theorem GTup.sq {K:PySem.W.Frag} {a:Addr} (h:GTup K a) (H:Hp):SqT K H a [.str "stand"]:=.inr h
theorem GTup.of {K:PySem.W.Frag} {a:Addr} {od:Option Addr} {n:Nat} {t:Tok} {sl:Array (Option Value)} (h:K.lookup a=some ⟨.type "tuple",od,.seq #[.str "stand" t] n,sl⟩):GTup K a:=⟨_,_,_,h,rfl,rfl,by show 1<=sizeLine; decide,.cons ⟨t,rfl⟩ .nil⟩
def unG (s:Addr):Wv->Wv
 |.g a=>if a=s then stW else .g a
 |w=>w
theorem QV (s:Addr):unG s (.g s)=stW:=if_pos rfl
theorem KI {F:Hp} {β:List Addr} {s:Addr} {x:Wv} {v:V} (r:RW F β x v):unG s x=x∨(x=.g s∧v=.ref s∧unG s x=stW):=by
 cases r with
 |g a =>
  by_cases h:a=s
  ·subst h; exact .inr ⟨rfl,rfl,QV _⟩
  ·exact .inl (if_neg h)
 |_=>exact .inl rfl
def QH (s:Addr) (x i:Wv):Mw Wv:=kIx (unG s x) i
section
variable {X:Cx} {E:XK} {e a b:Expr} {es:List Expr} {f fa fb:FE} {fs:FA} {pos p p2:Pos} {s:Addr}
theorem Qo {x:Str} (hg:Gl X x) (h:X.mg x=some (.ref s)) (hd:(x == ("__debug__":Str))=false:=by decide):PE X (.Name x pos) (tE E (fC (.g s))):=Mh (W5 (v:=.ref s) hg h rfl hd) fun _ _=>.g s
theorem Kc {F:Hp} {β:List Addr}:RWs F β [Wv.str "stand"] [V.str "stand"]:=.cons (.str _) .nil
theorem JK (G:GTup X.K s):Op2 E (rIx X.K) (QH s):=by
 intro F H β om x y v u Q M rx ry R
 unfold QH at R
 rcases KI (s:=s) rx with h|⟨rfl,rfl,h⟩
 ·rw[h]at R; exact Lp M rx ry R
 ·rw[h]at R
  cases ry with
  |int i =>
   have R:Res E (match L2.atI [Wv.str "stand"] i with|some w=>some (Except.ok w,om)|none=>none) F H β (PV Q):=R
   match ha:L2.atI [Wv.str "stand"] i,R with
   |none,R=>exact R.elim
   |some w,R =>
    obtain ⟨z,ez,rz⟩:=(Kc (F:=F) (β:=β)).atI ha
    exact .inr (.inl ⟨s,_,i,z,rfl,rfl,G.sq H,ez,(show Res E (ret w om) F H β (PV Q) from R).now M z rz⟩)
  |_=>exact R.elim
theorem Oi (G:GTup X.K s) (ha:PE X a (tE E fa)) (hb:PE X b (tE E fb)) (hs:Qn b:=by intro _ _; rfl):PE X (.Subscript a b pos) (tE E (f2 (QH s) fa fb)):=(Ix Lh ha hb hs).weak fun _ _ _ h=>P0 (JK G) h
theorem HZ {pins:List (Addr × Obj)} {σ:St} {F H:Hp} {sh:Shared} {β:List Addr} {om:List Ob} (G:GTup X.K s) (I:Inv X pins σ H sh) (M:MOk F H β om) {w:Wv} {v:V} {d:PyData} {u:Value} (r:RW F β w v) (e:YW om (unG s w)=some d) (ru:RelV v u):∃as,Reads sh.heap u d as:=by
 rcases KI (s:=s) r with h|⟨rfl,rfl,h⟩
 ·rw[h]at e; exact r.readsTop I M e ru
 ·rw[h]at e
  have e:some (PyData.tuple [.str "stand"])=some d:=e
  cases e
  cases ru
  obtain ⟨o,its,n,hk,hc,hd,hz,rv⟩:=G
  obtain ⟨as,ra⟩:=RWs.reads (F:=F) (β:=β) (om:=om) I M.sub Kc (ds:=[.str "stand"]) rfl rv
  exact ⟨_,.tuple (I.kIn s o hk) hc hd ra⟩
def WZ:List Wv->Option (List Int)
 |[]=>some []
 |.int i::r=>match WZ r with
  |some is=>some (i::is)
  |none=>none
 |_=>none
theorem Sn {F:Hp} {β:List Addr}:∀{ws:List Wv} {vs:List V} {ns:List Int},RWs F β ws vs->WZ ws=some ns->vs=ns.map V.int
 |_,_,_,.nil,e=>by cases e; rfl
 |_,_,_,.cons (ws:=r) h rr,e=>by
  cases h with
  |int i =>
   have e:(match WZ r with|some is=>some (i::is)|none=>none)=some _:=e
   match hr:WZ r,e with
   |some is,e =>
    have e:some (i::is)=some _:=e
    cases e
    rw[List.map_cons,← Sn rr hr]
   |none,e=>exact nomatch e
  |_=>exact nomatch e
def NF (p:Int):List Int->List Int
 |[]=>[p]
 |q::r=>if q < p then q::NF p r else p::q::r
def W8:List Int->List Int
 |[]=>[]
 |p::r=>NF p (W8 r)
theorem Uz (p:Int):∀l,(NF p l).Perm (p::l)
 |[]=>List.Perm.refl _
 |q::r=>by
  unfold NF
  split
  ·exact ((Uz p r).cons q).trans (List.Perm.swap p q r)
  ·exact List.Perm.refl _
theorem X7:∀l,(W8 l).Perm l
 |[]=>List.Perm.refl _
 |p::r=>(Uz p (W8 r)).trans ((X7 r).cons p)
theorem Pz (p:Int):∀l:List Int,l.Pairwise (·<=·)->(NF p l).Pairwise (·<=·)
 |[],_=>List.pairwise_singleton _ _
 |q::r,h=>by
  have h':=List.pairwise_cons.mp h
  unfold NF
  by_cases hc:q < p
  ·rw[if_pos hc]
   refine List.pairwise_cons.mpr ⟨fun y hy=>?_,Pz p r h'.2⟩
   rcases List.mem_cons.mp ((Uz p r).mem_iff.mp hy) with rfl|hy
   ·omega
   ·exact h'.1 y hy
  ·rw[if_neg hc]
   refine List.pairwise_cons.mpr ⟨fun y hy=>?_,h⟩
   rcases List.mem_cons.mp hy with rfl|hy
   ·omega
   ·have:=h'.1 y hy; omega
theorem UL:∀l,(W8 l).Pairwise (·<=·)
 |[]=>List.Pairwise.nil
 |p::r=>Pz p _ (UL r)
theorem Re:∀{l m:List Int},l.Perm m->l.Pairwise (·<=·)->m.Pairwise (·<=·)->l=m
 |[],m,h,_,_=>(List.nil_perm.mp h).symm
 |x::l,[],h,_,_=>absurd h (by simp)
 |x::l,y::m,h,h1,h2=>by
  have h1':=List.pairwise_cons.mp h1
  have h2':=List.pairwise_cons.mp h2
  have e:x=y:=by
   have hx:=h.mem_iff.mp (List.mem_cons_self (a:=x) (l:=l))
   have hy:=h.mem_iff.mpr (List.mem_cons_self (a:=y) (l:=m))
   rcases List.mem_cons.mp hx with hx|hx
   ·exact hx
   ·rcases List.mem_cons.mp hy with hy|hy
    ·exact hy.symm
    ·have a:=h1'.1 y hy
     have b:=h2'.1 x hx
     omega
  subst e
  rw[Re h.cons_inv h1'.2 h2'.2]
def IX (om:List Ob):Wv->Option (List Wv)
 |.lst ws=>some ws
 |.o h=>match om[h]? with
  |some (.lst ws)=>some ws
  |_=>none
 |_=>none
theorem MZ {F H:Hp} {β:List Addr} {om:List Ob} {w:Wv} {v:V} {ws:List Wv} (M:MOk F H β om) (r:RW F β w v) (e:IX om w=some ws):∃a xs,v=.ref a∧SqL X.K H a xs∧RWs F β ws xs:=by
 cases r with
 |lst q rs=>cases e; exact ⟨_,_,rfl,.inl (Rd.same M.sub q),rs⟩
 |@o h a eb =>
  have e:(match om[h]? with|some (.lst ws)=>some ws|_=>none)=some ws:=e
  match hx:om[h]?,e with
  |none,e=>exact nomatch e
  |some (.ins _ _),e=>exact nomatch e
  |some (.exc _),e=>exact nomatch e
  |some (.dk _),e=>exact nomatch e
  |some (.dt _),e=>exact nomatch e
  |some (.dz _),e=>exact nomatch e
  |some (.lst us),e =>
   have e:some us=some ws:=e
   cases e
   obtain ⟨a',ea,_,xs,hxs,rs⟩:=M.at hx
   rw[eb]at ea; cases ea
   exact ⟨_,_,rfl,SqL.of hxs,rs⟩
 |_=>cases e
def X4 (k:List Wv->Mw Wv) (ws:List Wv):Mw Wv:=fun om=>match ws with
 |[x]=>match IX om x with
  |some us=>match WZ us with
   |some ns=>if ns.length < 64 then k ((W8 ns).map Wv.int) om else none
   |none=>none
  |none=>none
 |_=>none
theorem Pu {F:Hp} {β:List Addr}:∀ns:List Int,RWs F β (ns.map Wv.int) (ns.map V.int)
 |[]=>.nil
 |_::r=>.cons (.int _) (Pu r)
theorem Pn {k:List Wv->Mw Wv} (lk:SW E k):Rj E (MV X.K) (X4 k):=by
 intro F H β om ws vs Q M rs R
 match ws,rs,R with
 |[],_,R=>exact R.elim
 |_::_::_,_,R=>exact R.elim
 |[x],.cons rx .nil,R =>
  unfold X4 at R
  dsimp only at R
  match hx:IX om x,R with
  |none,R=>exact R.elim
  |some us,R =>
   dsimp only at R
   match hn:WZ us,R with
   |none,R=>exact R.elim
   |some ns,R =>
    dsimp only at R
    by_cases hl:ns.length < 64
    ·rw[if_pos hl]at R
     obtain ⟨p,xs,rfl,hs,r2⟩:=MZ (X:=X) M rx hx
     rw[Sn r2 hn]at hs
     refine ⟨p,ns,rfl,hs,hl,fun q ms h1 h2 hq=>?_⟩
     have e:ms=W8 ns:=Re (h1.trans (X7 ns).symm) h2 (UL ns)
     rw[e]
     exact (lk M (Pu _) R).2 hq
    ·rw[if_neg hl]at R; exact R.elim
theorem PQ {k:List Wv->Mw Wv} (lk:SW E k) (hg:Gl X "sorted") (hm:X.mg "sorted"=none) (ha:PA X [e] (tA E fs)) (he:starEach [e] X.env=(false,eval e X.env)::starEach [] X.env:=by rfl) (hpl:(backTo pos (starEach [] X.env)).any (·.1)=false:=by rfl) :
    PE X (.Call (.Name "sorted" p) [e] [] pos) (tE E (fA (X4 k) fs)):=PM P3 (Pn (X:=X) lk) hg hm PyProof.Rows.boot_sorted ha (by decide) (by decide) he hpl
end
section
variable {X:Cx} {E:XK} {e o:Expr} {fo f:FE}
end
def VB (T:TgW) (S:FS) (h n:Nat):Nat->FS
 |0,sl=>fun om=>match om[h]? with
  |some (.lst us)=>if us.length=n then some (.ok (.nx,sl),om) else none
  |_=>none
 |m+1,sl=>fun om=>match om[h]? with
  |some (.lst us)=>if us.length=n then (match us[n - (m+1)]? with
   |some w=>(match T w sl with
    |some sl1=>bnd (S sl1) (Um fun sl2=>VB T S h n m sl2) om
    |none=>none)
   |none=>none) else none
  |_=>none
def F8 (T:TgW) (S:FS) (sl:Sl) (x:Wv):Mw (Fl × Sl):=fun om=>match x with
 |.o h=>match om[h]? with
  |some (.lst us)=>VB T S h us.length us.length sl om
  |_=>none
 |_=>none
def Nk (fo:FE) (T:TgW) (S:FS):FS:=fun sl=>bnd (fo sl) (F8 T S sl)
section
variable {X:Cx} {E:XK} {tg iter:Expr} {body:List Stmt} {fo:FE} {T:TgW} {g:TG} {S:FS} {pos:Pos}
theorem Op {F H:Hp} {β:List Addr} {om:List Ob} {h:Nat} {a:Addr} {γ:Type} {k:List Wv->Option (Except Addr γ × List Ob)} {P:γ->Hp->Hp->List Addr->Prop} {F0 H0:Hp} {β0:List Addr} (M:MOk F H β om) (eb:β[h]?=some a)
    (R:Res E (match om[h]? with|some (.lst us)=>k us|_=>none) F0 H0 β0 P):∃us xs,om[h]?=some (.lst us)∧H a=some (.lst xs)∧RWs F β us xs∧Res E (k us) F0 H0 β0 P:=by
 match hx:om[h]?,R with
 |none,R=>exact R.elim
 |some (.ins _ _),R=>exact R.elim
 |some (.exc _),R=>exact R.elim
 |some (.dk _),R=>exact R.elim
 |some (.dt _),R=>exact R.elim
 |some (.dz _),R=>exact R.elim
 |some (.lst us),R =>
  obtain ⟨a',ea,_,xs,hxs,rs⟩:=M.at hx
  rw[eb]at ea; cases ea
  exact ⟨us,xs,rfl,hxs,rs,R⟩
theorem KU (hp:PassesOwn (model X.prog X.w) X.A X.env X.xe) (hc:X.calm=true) (hi:PE X iter (tE E fo)) (hg:PG X tg g) (ht:JN g T) (hb:PSs X body (tS E S)) (hs:∀x,foldedSetIterable iter X.env x=pure x:=by intro _; rfl):PS X (.For tg iter body [] pos) (tS E (Nk fo T S)):=(LD hp hc (OJ hi) hg hb hs).weak fun D σ H ⟨F,β,om,sl,M,V,R⟩=>by
 refine ⟨F,β,om,sl,M,V,R.bind fun x om1 F1 H1 β1 g1 M1 R1 v rv=>?_⟩
 cases rv with
 |@o h a eb =>
  have R1:Res E (match om1[h]? with|some (.lst us)=>VB T S h us.length us.length sl om1|_=>none) F1 H1 β1 (FlP D):=R1
  obtain ⟨us,xs,hx,hxs,rs,R2⟩:=Op M1 eb R1
  generalize hn:us.length=n at R2
  refine ⟨a,rfl,⟨xs,SqL.of hxs⟩,fun i m σ H=>m=n - i∧i<=n∧∃F β om sl,β[h]?=some a∧MOk F H β om∧EnvOk F β σ sl∧Res E (VB T S h n (n - i) sl om) F H β (FlP D),⟨n,by simp,Nat.zero_le _,F1,β1,om1,sl,eb,M1,V.mono g1.toGr,R2⟩,?_⟩
  rintro i m σ H ⟨rfl,hi,F,β,om,sl,eb,M,V,R⟩
  by_cases hlt:i < n
  ·obtain ⟨j,hj⟩:∃j,n - i=j+1:=⟨n - i - 1,by omega⟩
   rw[hj]at R
   obtain ⟨us,xs,hx,hxs,rs,R⟩:=Op M eb (show Res E (match om[h]? with|some (.lst us)=>(if us.length=n then (match us[n - (j+1)]? with|some w=>(match T w sl with|some sl1=>bnd (S sl1) (Um fun sl2=>VB T S h n j sl2) om|none=>none)|none=>none) else none)|_=>none) F H β (FlP D) from R)
   by_cases hl:us.length=n
   ·rw[if_pos hl,show n - (j+1)=i by omega]at R
    match hw:us[i]?,R with
    |none,R=>exact R.elim
    |some w,R =>
     dsimp only at R
     obtain ⟨z,ez,rz⟩:=rs.get hw
     refine .inr ⟨⟨xs,z,SqL.of hxs,ez⟩,fun σ' H'=>i+1<=n∧∃F β om sl,β[h]?=some a∧MOk F H' β om∧EnvOk F β σ' sl∧Res E (VB T S h n (n - (i+1)) sl om) F H' β (FlP D),fun σ' H' ⟨h1,h2⟩=>⟨n - (i+1),by omega,rfl,h1,h2⟩,fun x H' hy=>?_⟩
     obtain ⟨rfl,hy⟩:=hy
     have hz:=hy xs (SqL.of hxs)
     rw[ez]at hz
     cases hz
     match hT:T w sl,R with
     |none,R=>exact R.elim
     |some sl1,R =>
      refine ht M V rz hT fun σ2 V2=>⟨F,β,om,sl1,M,V2,Res.bind (m:=S sl1) (k:=Um fun sl2=>VB T S h n j sl2) R fun y om1 F1 H1 β1 g1 M1 R1=>?_⟩
      have hj2:j=n - (i+1):=by omega
      rw[hj2]at R1
      obtain ⟨fl,sl2⟩:=y
      cases fl with
      |nx=>exact fun σ' V'=>⟨hlt,F1,β1,om1,sl2,g1.pre h a eb,M1,V',R1⟩
      |ct=>exact fun σ' V'=>⟨hlt,F1,β1,om1,sl2,g1.pre h a eb,M1,V',R1⟩
      |bk=>exact (show Res E (ret (Fl.nx,sl2) om1) F1 H1 β1 (FlP D) from R1).now M1
      |rt w=>exact (show Res E (ret (Fl.rt w,sl2) om1) F1 H1 β1 (FlP D) from R1).now M1
   ·rw[if_neg hl]at R; exact R.elim
  ·have e:i=n:=by omega
   subst e
   rw[Nat.sub_self]at R
   obtain ⟨us,xs,hx,hxs,rs,R⟩:=Op M eb (show Res E (match om[h]? with|some (.lst us)=>(if us.length=i then some (Except.ok (Fl.nx,sl),om) else none)|_=>none) F H β (FlP D) from R)
   by_cases hl:us.length=i
   ·rw[if_pos hl]at R
    exact .inl ⟨⟨xs,SqL.of hxs,by rw[← rs.length]; omega⟩,(show Res E (ret (Fl.nx,sl) om) F H β (FlP D) from R).now M σ V⟩
   ·rw[if_neg hl]at R; exact R.elim
 |_=>exact R1.elim
end
end
end L2
namespace MP
noncomputable section
open PySem L2
structure CA where
 Map:Addr
 Board:Addr
 Orders:Addr
 Turn:Addr
 OrderError:Addr
 NoPlace:Addr
 NoSide:Addr
 Crowded:Addr
 NoUnit:Addr
 OutOfReach:Addr
 STAND:Addr
 kit:Addr->Value->Bool
 caught:Addr->Addr->Bool
def CA.isE (c:CA) (C:Addr):Bool:=C == c.NoPlace || C == c.NoSide || C == c.Crowded || C == c.NoUnit || C == c.OutOfReach
def CA.Ds (c:CA):List Value:=[.ref c.NoPlace,.ref c.NoSide,.ref c.Crowded,.ref c.NoUnit,.ref c.OutOfReach,.type "ValueError"]
def TL (c:CA):FS :=
 (ZB (sIf (fB (f2 kLt (Za 1) (fA Y7 (Zc (Za 0) Zk)))) (Yk (f2 kIx (Za 0) (Za 1))) Yq)
  (Yk (fC (.int 0))))
def g__law_cell_at (c:CA):List Wv->Mw Wv:=Yr 2 (TL c)
def QF (c:CA):FS :=
 (ZB (ZO 1 (f2 YH (fC (.int 2)) (f2 Ym (fA (kN 2 (g__law_cell_at c)) (Zc (Za 0) (Zc (fC (.int 0)) Zk))) (fC (.int 6)))))
  (ZB (sIf (fB (f2 kEq (f2 Ym (f2 WE (fA (kN 2 (g__law_cell_at c)) (Zc (Za 0) (Zc (fC (.int 0)) Zk))) (fC (.int 6))) (fC (.int 5))) (fC (.int 1)))) (Yk (fA Xu (Zc (Za 1) (Zc (f2 Ym (f2 WE (fA (kN 2 (g__law_cell_at c)) (Zc (Za 0) (Zc (fC (.int 0)) Zk))) (fC (.int 30))) (f2 Qj (fC (.int 61)) (Za 1))) (Zc (fC (.int 60)) Zk))))) Yq)
  (Yk (fA Xu (Zc (Za 1) (Zc (fC (.int 0)) (Zc (Za 1) Zk)))))))
def g__law_frame (c:CA):List Wv->Mw Wv:=Yr 2 (QF c)
def VJ (c:CA):FE :=
 (Ol YI (Zc (fC (.bl false)) Zk) (Za 1))
def WA (c:CA):FS :=
 (ZB (YY (f2 kEq (f2 Ym (Za 2) (fC (.int 2))) (fC (.int 1))) (f2 kIx (Za 3) (Za 4)) (Za 5))
  (ZB (YY (f2 kEq (f2 Ym (Za 2) (fC (.int 2))) (fC (.int 1))) (f2 kIx (Za 3) (Za 5)) (Za 4))
  (ZO 2 (f2 WE (Za 2) (fC (.int 2))))))
def WF (c:CA):FS :=
 (Wb (fun sl=>bnd ((Za 4) sl) ZZ) (tgN 5) (WA c))
def Qx (c:CA):FS :=
 (ZB (ZO 2 (f2 Ym (fA (kN 2 (g__law_cell_at c)) (Zc (Za 0) (Zc (fC (.int 1)) Zk))) (fC (.int 2097152))))
  (ZB (sIf (fB (f2 kEq (f2 Ym (fA (kN 2 (g__law_cell_at c)) (Zc (Za 0) (Zc (fC (.int 2)) Zk))) (fC (.int 3))) (fC (.int 0)))) (ZO 2 (fC (.int 2097151))) Yq)
  (ZB (ZO 3 (Yu YI [1] (fun sl=>bnd ((Za 1) sl) ZZ) Vo (VJ c)))
  (ZB (Wb (fun sl=>bnd ((Za 1) sl) ZZ) (tgN 4) (WF c))
  (Yk (Za 3))))))
def g__law_links (c:CA):List Wv->Mw Wv:=Yr 6 (Qx c)
def XQ (c:CA):List Wv->Mw Wv:=tidyG (g__law_links c)
def VG (c:CA):FS :=
 (ZB (ZO 4 (fA (kN 2 (g__law_cell_at c)) (Zc (Za 0) (Zc (f2 YH (fC (.int 3)) (Za 3)) Zk))))
  (sIf (fB (f2 kEq (f2 Ym (Za 4) (fC (.int 4))) (fC (.int 0)))) (ZP (SX (Za 2) (fC .non))) (sIf (fB (f2 kEq (f2 Ym (f2 WE (Za 4) (fC (.int 4))) (fC (.int 3))) (fC (.int 0)))) (ZP (SX (Za 2) (f2 Ym (f2 WE (Za 4) (fC (.int 12))) (fC (.int 8))))) (ZP (SX (Za 2) (f2 Ym (f2 WE (Za 4) (fC (.int 4))) (fC (.int 3))))))))
def QC (c:CA):FS :=
 (ZB (ZO 2 (fA YI Zk))
  (ZB (Wb (fun sl=>bnd ((Za 1) sl) ZZ) (tgN 3) (VG c))
  (Yk (Za 2))))
def g__law_sides (c:CA):List Wv->Mw Wv:=Yr 5 (QC c)
def XO (c:CA):List Wv->Mw Wv:=tidyG (g__law_sides c)
def WL (c:CA):FT :=
 (XB (f2 kIx (f2 kIx (Za 2) (Za 1)) (Za 0)))
def WN (c:CA):FE :=
 (Za 0)
def WM (c:CA):FT :=
 (Vg (fB (f2 kNe (Za 0) (Za 1))) (Vg (fB (f1 Y9 (f2 kIx (Za 3) (Za 0)))) (fOr (fB (f2 kEq (Za 0) (Za 4))) (XB (f2 kIx (f2 kIx (Za 2) (Za 0)) (Za 4))))))
def WJ (c:CA):FE :=
 (Za 0)
def Tl (c:CA):FS :=
 (ZB (ZO 4 (Yu ZV [1,2] (fun sl=>bnd ((fA Y7 (Zc (Za 3) Zk)) sl) ZZ) (WL c) (WN c)))
  (ZB (sIf (fB (f1 VA (f2 kIx (Za 3) (Za 1)))) (Yk (fC .non)) Yq)
  (ZB (sIf (fOr (Wm (XB (Za 4))) (fB (f2 kEq (f2 Ym (Za 0) (fC (.int 4))) (fC (.int 0))))) (Yk (fA Xu (Zc (fC (.str "stand")) Zk))) Yq)
  (ZB (ZO 5 (f2 kIx (Za 4) (f2 Ym (f2 WE (Za 0) (fC (.int 4))) (fA Y7 (Zc (Za 4) Zk)))))
  (ZB (sIf (fB (f2 kLt (f2 Ym (Za 0) (fC (.int 4))) (fC (.int 3)))) (Yk (fA Xu (Zc (fC (.str "move")) (Zc (Za 5) Zk)))) Yq)
  (ZB (ZO 6 (Yu ZV [1,2,3,5] (fun sl=>bnd ((fA Y7 (Zc (Za 3) Zk)) sl) ZZ) (WM c) (WJ c)))
  (ZB (sIf (Wm (XB (Za 6))) (Yk (fA Xu (Zc (fC (.str "stand")) Zk))) Yq)
  (Yk (fA Xu (Zc (fC (.str "help")) (Zc (f2 kIx (Za 6) (f2 Ym (f2 WE (Za 0) (fC (.int 28))) (fA Y7 (Zc (Za 6) Zk)))) (Zc (Za 5) Zk))))))))))))
def g__law_order_by (c:CA):List Wv->Mw Wv:=Yr 7 (Tl c)
def Tv (c:CA):FE :=
 (fA (kN 4 (g__law_order_by c)) (Zc (fA (kN 2 (g__law_cell_at c)) (Zc (Za 1) (Zc (f2 YH (fC (.int 10)) (Za 0)) Zk))) (Zc (Za 0) (Zc (Za 2) (Zc (Za 3) Zk)))))
def SL (c:CA):FS :=
 (Yk (Yu ZV [0,1,2] (fun sl=>bnd ((fA Y7 (Zc (Za 2) Zk)) sl) ZZ) Vo (Tv c)))
def g__law_orders (c:CA):List Wv->Mw Wv:=Yr 3 (SL c)
end
open PySem L2
inductive Od where
 |stand
 |move (g:Nat)
 |help (h g:Nat)
 deriving DecidableEq
def odW:Option Od->Wv
 |none=>.non
 |some .stand=>.tup [.str "stand"]
 |some (.move g)=>.tup [.str "move",.int g]
 |some (.help h g)=>.tup [.str "help",.int h,.int g]
abbrev at' {α:Type} (l:List (Option α)) (k:Nat):Option α:=l.getD k none
structure OkT (told:List (Option Od)) (f:List (Option Int)):Prop where
 len:told.length=f.length
 few:told.length<=60
 both:∀k,k < told.length->((at' told k).isSome=true ↔ (at' f k).isSome=true)
 mv:∀k g,at' told k=some (.move g)->g < told.length∧g≠k
 hl:∀k h g,at' told k=some (.help h g)->h < told.length∧g < told.length∧h≠k∧g≠k∧(at' f h).isSome=true
structure Rows (om:List Ob) (tw sw:Wv) (told:List (Option Od)) (f:List (Option Int)):Prop where
 t:YB om tw=some (told.map odW)
 s:YB om sw=some (f.map Zx)
section
variable (c:CA) {om:List Ob} {tw sw:Wv} {told:List (Option Od)} {f:List (Option Int)}
end
open PySem L2
def odN:Od->String
 |.stand=>"stand"
 |.move _=>"move"
 |.help _ _=>"help"
theorem Nq (o:Od):PyData.strOk (Str.ofString (odN o))=true:=by
 cases o with
 |stand=>exact TF
 |move g=>exact V6
 |help h g=>exact O4
theorem FL (o:Od) (om:List Ob):kIx (odW (some o)) (.int 0) om=some (.ok (.str (odN o)),om):=by
 cases o with
 |stand=>exact Zw (k:=0) rfl rfl
 |move g=>exact Zw (k:=0) rfl rfl
 |help h g=>exact Zw (k:=0) rfl rfl
theorem EM (h g:Nat) (om:List Ob):kIx (odW (some (.help h g))) (.int 2) om=some (.ok (.int g),om):=Zw (k:=2) rfl rfl
theorem ES (h g:Nat) (om:List Ob):kIx (odW (some (.help h g))) (.int 1) om=some (.ok (.int h),om):=Zw (k:=1) rfl rfl
theorem EL (g:Nat) (om:List Ob):kIx (odW (some (.move g))) (.int 1) om=some (.ok (.int g),om):=Zw (k:=1) rfl rfl
def WG:Option Od->Bool
 |some (.move _)=>true
 |_=>false
theorem GR (o:Od):decide (odN o="move")=WG (some o):=by cases o <;> simp[odN,WG]
theorem Hs (o:Option Od) (om:List Ob):VA (odW o) om=some (.ok (.bl o.isNone),om):=by
 match o with
 |none=>rfl
 |some .stand=>rfl
 |some (.move g)=>rfl
 |some (.help h g)=>rfl
theorem TY (o:Option Int) (om:List Ob):VA (Zx o) om=some (.ok (.bl o.isNone),om):=by
 cases o <;> rfl
theorem XI (o:Option Int) (om:List Ob):Y9 (Zx o) om=some (.ok (.bl o.isSome),om):=by
 cases o <;> rfl
section
variable (c:CA) {om:List Ob} {tw sw:Wv} {told:List (Option Od)} {f:List (Option Int)}
end
open PySem L2
abbrev ZT (ns:List Int):Wv:=.lst (ns.map .int)
section
variable (c:CA) {om:List Ob}
theorem JF (ns:List Int) (k:Nat) (om:List Ob):g__law_cell_at c [ZT ns,.int k] om=some (.ok (.int (ns.getD k 0)),om):=by
 have hlen:fA Y7 (Zc (Za 0) Zk) [some (ZT ns),some (.int k)] om=some (.ok (.int ns.length),om):=by
  refine (ZG (Zd (Zb rfl) Zi)).trans ((V7 rfl).trans ?_)
  rw[List.length_map]
 have a1:fB (f2 kLt (Za 1) (fA Y7 (Zc (Za 0) Zk))) [some (ZT ns),some (.int k)] om=some (.ok (decide (k < ns.length)),om):=by
  refine ZW ((Zq (Zb rfl) hlen).trans ?_)
  simp[kI,L2.ret]
 by_cases h:k < ns.length
 ·rw[decide_eq_true h]at a1
  refine ZS (YC ((Z6 a1).trans (ZD ((v2 rfl rfl).trans (XT (xs:=ns) rfl h 0)))))
 ·rw[decide_eq_false h]at a1
  rw[show ns.getD k 0=0 by simp[List.getD_eq_getElem?_getD,List.getElem?_eq_none (Nat.le_of_not_lt h)]]
  exact ZS ((Zg (ZL a1)).trans (ZD Zo))
theorem VY {sl:Sl} {i:Nat} {fe:FE} {ns:List Int} {k:Nat} (h:sl[i]?=some (some (ZT ns))) (hk:fe sl om=some (.ok (.int k),om)):fA (kN 2 (g__law_cell_at c)) (Zc (Za i) (Zc fe Zk)) sl om=some (.ok (.int (ns.getD k 0)),om) :=
 (ZG (Zd (Zb h) (Zd hk Zi))).trans ((Xe rfl).trans (JF c ns k om))
theorem XY {sl:Sl} {fa:FE} {a q:Int} (h:fa sl om=some (.ok (.int a),om)) (hq:0 < q):f2 Ym fa (fC (.int q)) sl om=some (.ok (.int (a % q)),om):=(Zq h Zo).trans (by simp[kIc,L2.ret,hq])
theorem W7 {sl:Sl} {fa:FE} {a q:Int} (h:fa sl om=some (.ok (.int a),om)) (hq:0 < q∧q < 1073741824):f2 WE fa (fC (.int q)) sl om=some (.ok (.int (a / q)),om):=(Zq h Zo).trans (by simp[kIc,L2.ret,hq])
theorem Sr {sl:Sl} {fa:FE} {a q:Int} (h:fa sl om=some (.ok (.int a),om)):f2 YH (fC (.int q)) fa sl om=some (.ok (.int (q+a)),om):=(Zq Zo h).trans (by simp[kI,L2.ret])
theorem Th {sl:Sl} {fa:FE} {a q:Int} (h:fa sl om=some (.ok (.int a),om)):fB (f2 kEq fa (fC (.int q))) sl om=some (.ok (decide (a=q)),om):=ZW ((Zq h Zo).trans (YS _ _ _))
theorem LU (ns:List Int):∃many off size:Nat,2<=many∧many<=7∧off+many<=size∧size<=60∧∀om,g__law_frame c [ZT ns] om=some (.ok (.tup [.int many,.int off,.int size]),om):=by
 generalize hw:ns.getD 0 0=w
 have l1:0<=w % 6:=Int.emod_nonneg _ (by omega)
 have l2:w % 6 < 6:=Int.emod_lt_of_pos _ (by omega)
 obtain ⟨many,hm⟩:∃m:Nat,2+w % 6=m:=⟨(2+w % 6).toNat,by omega⟩
 have l3:0<=(w / 30) % (61 - many):=Int.emod_nonneg _ (by omega)
 have l4:(w / 30) % (61 - many) < 61 - many:=Int.emod_lt_of_pos _ (by omega)
 obtain ⟨off,ho⟩:∃m:Nat,(w / 30) % (61 - (many:Int))=m:=⟨((w / 30) % (61 - many)).toNat,by omega⟩
 have cell:∀(x:Option Wv) om,fA (kN 2 (g__law_cell_at c)) (Zc (Za 0) (Zc (fC (.int 0)) Zk)) [some (ZT ns),x] om=some (.ok (.int w),om):=fun x om=>(VY c (k:=0) rfl Zo).trans (by rw[hw])
 have s1:∀om,ZO 1 (f2 YH (fC (.int 2)) (f2 Ym (fA (kN 2 (g__law_cell_at c)) (Zc (Za 0) (Zc (fC (.int 0)) Zk))) (fC (.int 6)))) [some (ZT ns),none] om=some (.ok (.nx,[some (ZT ns),some (.int many)]),om):=fun om=>(ZK (Sr (XY (cell _ om) (by decide)))).trans (by rw[hm]; rfl)
 have t1:∀om,fB (f2 kEq (f2 Ym (f2 WE (fA (kN 2 (g__law_cell_at c)) (Zc (Za 0) (Zc (fC (.int 0)) Zk))) (fC (.int 6))) (fC (.int 5))) (fC (.int 1))) [some (ZT ns),some (.int many)] om=_:=fun om=>Th (XY (W7 (cell _ om) (by decide)) (by decide))
 by_cases h:w / 6 % 5=1
 ·refine ⟨many,off,60,by omega,by omega,by omega,by omega,fun om=>?_⟩
  have t1:=t1 om
  rw[decide_eq_true h]at t1
  refine ZS ((Zg (s1 om)).trans (YC ((Z6 t1).trans (ZD ((ZG (Zd (Zb rfl) (Zd (w:=.int off) (om1:=om) ?_ (Zd Zo Zi)))).trans (XH (by simp)))))))
  refine (Zq (W7 (cell _ om) (by decide)) (y:=.int (61 - many)) (om2:=om) ((Zq Zo (Zb rfl)).trans (by simp[kI,L2.ret]))).trans ?_
  simp[kIc,L2.ret,ho,show (many:Int) < 61 by omega]
 ·refine ⟨many,0,many,by omega,by omega,by omega,by omega,fun om=>?_⟩
  have t1:=t1 om
  rw[decide_eq_false h]at t1
  exact ZS ((Zg (s1 om)).trans ((Zg (ZL t1)).trans (ZD ((ZG (Zd (Zb rfl) (Zd Zo (Zd (Zb rfl) Zi)))).trans (XH (by simp))))))
def WC (w:Int):Option Int:=if w % 4=0 then none else if w / 4 % 3=0 then some (w / 12 % 8) else some (w / 4 % 3)
def Yn (ns:List Int) (m:Nat):List (Option Int):=(List.range m).map fun k=>WC (ns.getD (3+k) 0)
theorem Vi (ns:List Int) (m:Nat):(Yn ns m).length=m:=by simp[Yn]
theorem MF {w s:Int} (h:WC w=some s):0<=s∧s<=7:=by
 unfold WC at h
 split at h
 ·cases h
 ·split at h
  ·cases h; omega
  ·cases h; omega
theorem QR {sl:Sl} {i:Nat} {fe:FE} {w:Wv} {ws:List Wv} {l:List Ob} (h:sl[i]?=some (some (.o om.length))) (hw:fe sl (om++.lst ws::l)=some (.ok w,om++.lst ws::l)) (hl:ws.length < lim):ZP (SX (Za i) fe) sl (om++.lst ws::l)=some (.ok (.nx,sl),om++.lst (ws++[w])::l):=by
 refine ZJ (w:=.non) ?_
 unfold SX
 rw[Zr (Zb h)]
 refine (Zr (a:=()) (om1:=om++.lst ws::l) ?_).trans ((Zr hw).trans ?_)
 ·simp[Jv,L2.ret,Wc]
 ·simp[HK,Wc,hl]
theorem Ul {sl:Sl} {i m:Nat} (h:sl[i]?=some (some (.int m))) (hm:m<=lim) (om:List Ob):(fun sl=>bnd ((Za i) sl) ZZ) sl om=some (.ok (XD m),om):=(Zr (Zb h)).trans (Yh _ _ hm)
theorem Ku (ns:List Int) {m:Nat} (hm:m<=60) (om:List Ob):XO c [ZT ns,.int m] om=some (.ok (.lst ((Yn ns m).map Zx)),om):=by
 have hlim:=Ye
 have e1:ZO 2 (fA YI Zk) [some (ZT ns),some (.int m),none,none,none] om=some (.ok (.nx,[some (ZT ns),some (.int m),some (.o om.length),none,none]),om++[.lst []]) :=
  ZK (i:=2) ((ZG Zi).trans (by simp[YI,newO]))
 obtain ⟨sl',om',hf,rfl,x,y,rfl⟩:=Xr (T:=tgN 3) (S:=VG c) (n:=m) (fun k sl om'=>om'=om++[.lst ((Yn ns k).map Zx)]∧∃x y,sl=[some (ZT ns),some (.int m),some (.o om.length),x,y])
  (sl:=[some (ZT ns),some (.int m),some (.o om.length),none,none]) (om:=om++[.lst []]) (fun k hk sl om' ⟨ho,x,y,hx⟩=>by
   subst ho hx
   have hl:((Yn ns k).map Zx).length < lim:=by rw[List.length_map,Vi]; omega
   have hs:(Yn ns (k+1)).map Zx=(Yn ns k).map Zx++[Zx (WC (ns.getD (3+k) 0))]:=by
    unfold Yn; rw[List.range_succ,List.map_append,List.map_append]; rfl
   generalize hw:ns.getD (3+k) 0=w at hs
   have s1:ZO 4 (fA (kN 2 (g__law_cell_at c)) (Zc (Za 0) (Zc (f2 YH (fC (.int 3)) (Za 3)) Zk))) [some (ZT ns),some (.int m),some (.o om.length),some (.int k),y] (om++[.lst ((Yn ns k).map Zx)])=some (.ok (.nx,[some (ZT ns),some (.int m),some (.o om.length),some (.int k),some (.int w)]),om++[.lst ((Yn ns k).map Zx)]) :=
    (ZK (VY c (k:=3+k) rfl ((Sr (Zb rfl)).trans (by simp)))).trans (by rw[hw]; rfl)
   have t1:fB (f2 kEq (f2 Ym (Za 4) (fC (.int 4))) (fC (.int 0))) [some (ZT ns),some (.int m),some (.o om.length),some (.int k),some (.int w)] (om++[.lst ((Yn ns k).map Zx)])=_:=Th (XY (Zb rfl) (by decide))
   have t2:fB (f2 kEq (f2 Ym (f2 WE (Za 4) (fC (.int 4))) (fC (.int 3))) (fC (.int 0))) [some (ZT ns),some (.int m),some (.o om.length),some (.int k),some (.int w)] (om++[.lst ((Yn ns k).map Zx)])=_:=Th (XY (W7 (Zb rfl) (by decide)) (by decide))
   refine ⟨[some (ZT ns),some (.int m),some (.o om.length),some (.int k),y],.nx,[some (ZT ns),some (.int m),some (.o om.length),some (.int k),some (.int w)],om++[.lst ((Yn ns (k+1)).map Zx)],rfl,?_,.inl rfl,rfl,_,_,rfl⟩
   refine (Zg s1).trans ?_
   rw[hs]
   by_cases c1:w % 4=0
   ·rw[decide_eq_true c1]at t1
    rw[show WC w=none by simp[WC,c1]]
    exact (Z6 t1).trans (QR rfl Zo hl)
   ·rw[decide_eq_false c1]at t1
    by_cases c2:w / 4 % 3=0
    ·rw[decide_eq_true c2]at t2
     rw[show WC w=some (w / 12 % 8) by simp[WC,c1,c2]]
     exact (WS t1).trans ((Z6 t2).trans (QR rfl (XY (W7 (Zb rfl) (by decide)) (by decide)) hl))
    ·rw[decide_eq_false c2]at t2
     rw[show WC w=some (w / 4 % 3) by simp[WC,c1,c2]]
     exact (WS t1).trans ((WS t2).trans (QR rfl (XY (W7 (Zb rfl) (by decide)) (by decide)) hl))) ⟨rfl,_,_,rfl⟩
 have e2:=Y6 (sl1:=[]) (fi:=fun sl=>bnd ((Za 1) sl) ZZ) (sl:=[some (ZT ns),some (.int m),some (.o om.length),none,none]) (Ul rfl (by omega) _) hf
 have hg:g__law_sides c [ZT ns,.int m] om=some (.ok (.o om.length),om++[.lst ((Yn ns m).map Zx)]):=ZS ((Zg e1).trans ((Zg e2).trans (ZD (Zb rfl))))
 refine tidyG_ok hg (.own (Nat.le_refl _) (by simp) (FzWs.of_smalls ?_)) ?_
 ·generalize Yn ns m=l
  induction l with
  |nil=>trivial
  |cons o l ih=>exact ⟨by cases o <;> trivial,ih⟩
 ·refine (Qi (k:=3) (Nat.le_refl _) Ji).trans ?_
  rw[List.map_map]
  refine congrArg Wv.lst (List.map_congr_left fun o _=>Lw _ _ _ o)
end
open PySem L2
abbrev Mx:=List (List Bool)
def YR (rows:Mx) (a b:Nat):Bool:=(rows.getD a []).getD b false
def WU (rows:Mx) (a b:Nat) (v:Bool):Mx:=rows.set a ((rows.getD a []).set b v)
def UJ (a:Nat) (s:Int × Mx) (b:Nat):Int × Mx:=(s.1 / 2,WU (WU s.2 a b (decide (s.1 % 2=1))) b a (decide (s.1 % 2=1)))
def Nc (s:Int × Mx) (a:Nat):Int × Mx:=(List.range a).foldl (UJ a) s
def Ng (ns:List Int):Int:=if ns.getD 2 0 % 3=0 then 2097151 else ns.getD 1 0 % 2097152
def Wp (ns:List Int) (m a:Nat):Int × Mx:=(List.range a).foldl Nc (Ng ns,List.replicate m (List.replicate m false))
def Uk (ns:List Int) (m:Nat):Mx:=(Wp ns m m).2
structure Lk (m:Nat) (rows:Mx):Prop where
 len:rows.length=m
 row:∀a,a < m->(rows.getD a []).length=m
 sym:∀a b,YR rows a b=YR rows b a
 dg:∀a,YR rows a a=false
theorem QY {rows:Mx} {a b i:Nat} {v:Bool} (ha:a < rows.length):(WU rows a b v).getD i []=if i=a then (rows.getD a []).set b v else rows.getD i []:=by
 unfold WU
 rw[List.getD_eq_getElem?_getD,List.getElem?_set]
 by_cases h:a=i
 ·subst h; simp[ha]
 ·rw[if_neg h,if_neg (Ne.symm h),List.getD_eq_getElem?_getD]
theorem Nj {rows:Mx} {a b i j:Nat} {v:Bool} (ha:a < rows.length) (hb:b < (rows.getD a []).length):YR (WU rows a b v) i j=if i=a∧j=b then v else YR rows i j:=by
 unfold YR
 rw[QY ha]
 by_cases h:i=a
 ·subst h
  rw[if_pos rfl,List.getD_eq_getElem?_getD,List.getElem?_set]
  by_cases h2:b=j
  ·subst h2; simp only[if_pos rfl,if_pos hb]; simp
  ·rw[if_neg h2,if_neg (fun z=>h2 z.2.symm),← List.getD_eq_getElem?_getD]
 ·rw[if_neg h,if_neg (fun z=>h z.1)]
theorem V4 (rows:Mx) (a b:Nat) (v:Bool):(WU rows a b v).length=rows.length:=by simp[WU]
theorem Wr {rows:Mx} {a b i:Nat} {v:Bool} (ha:a < rows.length):((WU rows a b v).getD i []).length=(rows.getD i []).length:=by
 rw[QY ha]
 by_cases h:i=a
 ·subst h; simp
 ·rw[if_neg h]
theorem Lk.step {m:Nat} {rows:Mx} (L:Lk m rows) {a b:Nat} (ha:a < m) (hb:b < a) (v:Bool):Lk m (WU (WU rows a b v) b a v):=by
 have h1:a < rows.length:=L.len ▸ ha
 have h2:b < (rows.getD a []).length:=by rw[L.row a ha]; omega
 have h3:b < (WU rows a b v).length:=by rw[V4,L.len]; omega
 have h4:a < ((WU rows a b v).getD b []).length:=by rw[Wr h1,L.row b (by omega)]; exact ha
 have at2:∀i j,YR (WU (WU rows a b v) b a v) i j=if i=b∧j=a then v else if i=a∧j=b then v else YR rows i j:=fun i j=>by
  rw[Nj h3 h4,Nj h1 h2]
 refine ⟨by rw[V4,V4,L.len],fun i hi=>by rw[Wr h3,Wr h1,L.row i hi],fun i j=>?_,fun i=>?_⟩
 ·rw[at2,at2]
  by_cases e1:i=b∧j=a
  ·rw[if_pos e1,if_neg (by omega),if_pos ⟨e1.2,e1.1⟩]
  ·rw[if_neg e1]
   by_cases e2:i=a∧j=b
   ·rw[if_pos e2,if_pos ⟨e2.2,e2.1⟩]
   ·rw[if_neg e2,if_neg (by omega),if_neg (by omega),L.sym]
 ·rw[at2,if_neg (by omega),if_neg (by omega),L.dg]
theorem Lk.zero (m:Nat):Lk m (List.replicate m (List.replicate m false)):=by
 have z:∀a b,YR (List.replicate m (List.replicate m false)) a b=false:=fun a b=>by
  unfold YR
  rw[List.getD_eq_getElem?_getD,List.getD_eq_getElem?_getD,List.getElem?_replicate]
  by_cases h:a < m
  ·rw[if_pos h]
   show ((List.replicate m false)[b]?).getD false=false
   rw[List.getElem?_replicate]
   by_cases h2:b < m
   ·rw[if_pos h2]; rfl
   ·rw[if_neg h2]; rfl
  ·rw[if_neg h]; rfl
 refine ⟨by simp,fun a ha=>?_,fun a b=>by rw[z,z],fun a=>z a a⟩
 rw[List.getD_eq_getElem?_getD,List.getElem?_replicate,if_pos ha]
 simp
theorem Lk.row_to {m:Nat} {s:Int × Mx} (L:Lk m s.2) {a:Nat} (ha:a < m):∀k,k<=a->Lk m ((List.range k).foldl (UJ a) s).2
 |0,_=>L
 |k+1,h=>by
  rw[List.range_succ,List.foldl_append]
  exact Lk.step (Lk.row_to L ha k (by omega)) ha (by omega) _
theorem Lk.to (ns:List Int) (m:Nat):∀a,a<=m->Lk m (Wp ns m a).2
 |0,_=>Lk.zero m
 |a+1,h=>by
  unfold Wp
  rw[List.range_succ,List.foldl_append]
  exact Lk.row_to (Lk.to ns m a (by omega)) (by omega) a (Nat.le_refl _)
theorem Sa (ns:List Int) (m:Nat):Lk m (Uk ns m):=Lk.to ns m m (Nat.le_refl _)
open PySem L2
section
variable (c:CA) {om:List Ob}
theorem Rz {f:FE} {mk:Wv->Sl} {x:Ob}:∀{l:List Wv} {om:List Ob},(∀w∈l,∀om,f (mk w) om=some (.ok (.o om.length),om++[x]))->Xz Vo f mk l om=some (.ok ((List.range l.length).map fun i=>.o (om.length+i)),om++List.replicate l.length x)
 |[],om,_=>by simp[Xz,L2.ret]
 |w::l,om,h=>by
  have ih:=Rz (l:=l) (om:=om++[x]) (fun y hy=>h y (.tail _ hy))
  have h1:=h w (.head _) om
  show bnd (Yo (Vo (mk w))) (QO (Xz Vo f mk l) (f (mk w))) om=_
  have c1:Yo (f (mk w)) om=some (.ok (.o om.length),om++[x]):=by simp[Yo,h1]
  have c2:bnd (Yo (Vo (mk w))) (QO (Xz Vo f mk l) (f (mk w))) om=bnd (Yo (f (mk w))) (fun x=>bnd (Xz Vo f mk l) fun xs=>L2.ret (x::xs)) om:=rfl
  rw[c2,Zr c1,Zr ih]
  have e1:(List.range l.length).map (fun i=>Wv.o ((om++[x]).length+i))=((List.range l.length).map Nat.succ).map fun i=>Wv.o (om.length+i):=by
   rw[List.map_map]
   refine List.map_congr_left fun i _=>?_
   show Wv.o _=Wv.o _
   rw[List.length_append]
   congr 1
   show om.length+1+i=om.length+(i+1)
   omega
  rw[e1,List.length_cons,List.range_succ_eq_map,List.replicate_succ,List.append_assoc]
  rfl
abbrev MB (r:List Bool):Ob:=.lst (r.map .bl)
abbrev JM (n m:Nat):Ob:=.lst ((List.range m).map fun i=>.o (n+i))
abbrev Xf (om:List Ob) (m:Nat) (rows:Mx):List Ob:=om++(rows.map MB++[JM om.length m])
theorem Q2 {m:Nat} {rows:Mx} (hr:rows.length=m):(Xf om m rows)[om.length+m]?=some (JM om.length m):=by
 subst hr
 rw[List.getElem?_append_right (by omega),List.getElem?_append_right (by simp)]
 simp
theorem Q9 {m i:Nat} {rows:Mx} (hi:i < rows.length):(Xf om m rows)[om.length+i]?=some (MB (rows.getD i [])):=by
 rw[List.getElem?_append_right (by omega),List.getElem?_append_left (by simp; omega)]
 simp[hi]
theorem L4 {m i jx:Nat} {rows:Mx} {v:Bool} (hi:i < rows.length):(Xf om m rows).set (om.length+i) (.lst (((rows.getD i []).map Wv.bl).set jx (.bl v)))=Xf om m (WU rows i jx v):=by
 rw[List.set_append_right _ _ (by omega),List.set_append_left _ _ (by simp; omega)]
 unfold Xf WU
 rw[List.map_set,Nat.add_sub_cancel_left]
 congr 3
 simp[List.map_set]
theorem Q0 {fe:FE} {m i jx p q:Nat} {rows:Mx} {v:Bool} {sl:Sl} (hr:rows.length=m) (hi:i < m) (hj:jx < (rows.getD i []).length) (he:fe sl (Xf om m rows)=some (.ok (.bl v),Xf om m rows)) (h3:sl[3]?=some (some (.o (om.length+m)))) (hp:sl[p]?=some (some (.int i))) (hq:sl[q]?=some (some (.int jx))) :
    YY fe (f2 kIx (Za 3) (Za p)) (Za q) sl (Xf om m rows)=some (.ok (.nx,sl),Xf om m (WU rows i jx v)):=by
 have e1:f2 kIx (Za 3) (Za p) sl (Xf om m rows)=some (.ok (.o (om.length+i)),Xf om m rows):=by
  refine (v2 h3 hp).trans (Zw (xs:=(List.range m).map fun i=>.o (om.length+i)) ?_ (by simp[hi]))
  show (match (Xf om m rows)[om.length+m]? with|some (.lst ws)=>some ws|_=>none)=_
  rw[Q2 hr]
 unfold YY
 rw[Zr he,Zr e1,Zr (Zb hq)]
 refine (Zr (a:=()) (om1:=Xf om m (WU rows i jx v)) ?_).trans rfl
 have e2:Wc (Xf om m rows) (.o (om.length+i))=some (om.length+i,(rows.getD i []).map Wv.bl):=by
  show (match (Xf om m rows)[om.length+i]? with|some (.lst ws)=>some (om.length+i,ws)|_=>none)=_
  rw[Q9 (by omega)]
 have e3:ixN ((rows.getD i []).map Wv.bl).length (jx:Int)=some jx:=by
  rw[List.length_map]
  unfold ixN
  rw[if_pos (by omega),if_pos (by omega),Int.toNat_natCast]
 unfold Sx
 rw[e2]
 show (match ixN ((rows.getD i []).map Wv.bl).length (jx:Int) with|some j=>some (Except.ok (),(Xf om m rows).set (om.length+i) (.lst (((rows.getD i []).map Wv.bl).set j (.bl v))))|none=>none)=_
 rw[e3]
 show some (Except.ok (),(Xf om m rows).set (om.length+i) (.lst (((rows.getD i []).map Wv.bl).set jx (.bl v))))=_
 rw[L4 (by omega)]
end
open PySem L2
section
variable (c:CA) {om:List Ob}
theorem Mu (w:Wv) (n:Nat):(List.replicate n [w]).flatten=List.replicate n w:=by
 induction n with
 |zero=>rfl
 |succ n ih=>rw[List.replicate_succ,List.flatten_cons,ih]; rfl
theorem LR {b:Bool} {om:List Ob} (h:b=true):chk b om=some (.ok (),om):=by subst h; rfl
theorem GP {w:Wv} {n i:Nat} (hn:n<=60) (sl:Sl) (om:List Ob) (h:sl[i]?=some (some (.int n))):Ol YI (Zc (fC w) Zk) (Za i) sl om=some (.ok (.o om.length),om++[.lst (List.replicate n w)]):=by
 have hl:=Ye
 have e:RJ [w] (.int n) om=some (.ok (List.replicate n w),om):=by
  have hd:decide (-(2 ^ 63)<=(n:Int)∧(n:Int) < 2 ^ 63∧[w].length * (n:Int).toNat<=lim)=true:=by
   rw[decide_eq_true_iff]
   exact ⟨by omega,by omega,by show 1 * (n:Int).toNat<=lim; omega⟩
  unfold RJ
  dsimp only
  rw[Zr (LR hd),Int.toNat_natCast,Mu]
  rfl
 unfold Ol
 rw[Zr (Zd Zo Zi),Zr (LR (decide_eq_true (show [w].length<=lim by show 1<=lim; omega))),Zr (Zb h),Zr e]
 have:(List.replicate n w).length<=lim:=by rw[List.length_replicate]; omega
 unfold YI
 rw[if_pos this]
 rfl
abbrev T5 (n m:Nat) (ns:List Int) (bits:Int) (x4 x5:Option Wv):Sl:=[some (ZT ns),some (.int m),some (.int bits),some (.o (n+m)),x4,x5]
theorem KQ {m a b:Nat} {rows:Mx} {bits:Int} (ns:List Int) (L:Lk m rows) (ha:a < m) (hb:b < a):WA c (T5 om.length m ns bits (some (.int a)) (some (.int b))) (Xf om m rows)=some (.ok (.nx,T5 om.length m ns (UJ a (bits,rows) b).1 (some (.int a)) (some (.int b))),Xf om m (UJ a (bits,rows) b).2):=by
 have v1:∀rows:Mx,f2 kEq (f2 Ym (Za 2) (fC (.int 2))) (fC (.int 1)) (T5 om.length m ns bits (some (.int a)) (some (.int b))) (Xf om m rows)=some (.ok (.bl (decide (bits % 2=1))),Xf om m rows):=fun rows=>(Zq (XY (Zb rfl) (by decide)) Zo).trans (YS _ _ _)
 have s1:=Q0 (om:=om) (m:=m) (i:=a) (jx:=b) (p:=4) (q:=5) (rows:=rows) L.len ha (by rw[L.row a ha]; omega) (v1 rows) rfl rfl rfl
 have s2:=Q0 (om:=om) (m:=m) (i:=b) (jx:=a) (p:=5) (q:=4) (rows:=WU rows a b (decide (bits % 2=1))) (by rw[V4,L.len]) (by omega) (by rw[Wr (by rw[L.len]; exact ha),L.row b (by omega)]; exact ha) (v1 _) rfl rfl rfl
 exact (Zg s1).trans ((Zg s2).trans (ZK (i:=2) (W7 (Zb rfl) (by decide))))
theorem GY {m a:Nat} {s:Int × Mx} (ns:List Int) (L:Lk m s.2) (ha:a < m) (hm:m<=60) (x5:Option Wv):∃y5,WF c (T5 om.length m ns s.1 (some (.int a)) x5) (Xf om m s.2)=some (.ok (.nx,T5 om.length m ns (Nc s a).1 (some (.int a)) y5),Xf om m (Nc s a).2):=by
 obtain ⟨sl',om',hf,y,rfl,rfl⟩:=Xr (T:=tgN 5) (S:=WA c) (n:=a) (fun b sl om'=>∃y,sl=T5 om.length m ns ((List.range b).foldl (UJ a) s).1 (some (.int a)) y∧om'=Xf om m ((List.range b).foldl (UJ a) s).2)
  (sl:=T5 om.length m ns s.1 (some (.int a)) x5) (om:=Xf om m s.2) (fun b hb sl om' ⟨y,h1,h2⟩=>by
   subst h1 h2
   refine ⟨_,.nx,_,_,rfl,KQ c ns (Lk.row_to L ha b (by omega)) ha hb,.inl rfl,some (.int b),?_,?_⟩
   ·rw[List.range_succ,List.foldl_append]; rfl
   ·rw[List.range_succ,List.foldl_append]; rfl) ⟨x5,rfl,rfl⟩
 exact ⟨y,Y6 (sl1:=[]) (Ul rfl (by have:=Ye; omega) _) hf⟩
abbrev Z7 (r:List Bool):Wv:=.lst (r.map .bl)
theorem M8 (ns:List Int) {m:Nat} (hm:m<=60) (om:List Ob):XQ c [ZT ns,.int m] om=some (.ok (.lst ((Uk ns m).map Z7)),om):=by
 have hlim:=Ye
 have cell:∀(x:Option Wv) (k:Nat),fA (kN 2 (g__law_cell_at c)) (Zc (Za 0) (Zc (fC (.int k)) Zk)) [some (ZT ns),some (.int m),x,none,none,none] om=some (.ok (.int (ns.getD k 0)),om):=fun x k=>VY c rfl Zo
 have s1:ZO 2 (f2 Ym (fA (kN 2 (g__law_cell_at c)) (Zc (Za 0) (Zc (fC (.int 1)) Zk))) (fC (.int 2097152))) [some (ZT ns),some (.int m),none,none,none,none] om=some (.ok (.nx,[some (ZT ns),some (.int m),some (.int (ns.getD 1 0 % 2097152)),none,none,none]),om):=ZK (i:=2) (XY (cell none 1) (by decide))
 have t1:fB (f2 kEq (f2 Ym (fA (kN 2 (g__law_cell_at c)) (Zc (Za 0) (Zc (fC (.int 2)) Zk))) (fC (.int 3))) (fC (.int 0))) [some (ZT ns),some (.int m),some (.int (ns.getD 1 0 % 2097152)),none,none,none] om=_:=Th (XY (cell _ 2) (by decide))
 have s2:sIf (fB (f2 kEq (f2 Ym (fA (kN 2 (g__law_cell_at c)) (Zc (Za 0) (Zc (fC (.int 2)) Zk))) (fC (.int 3))) (fC (.int 0)))) (ZO 2 (fC (.int 2097151))) Yq [some (ZT ns),some (.int m),some (.int (ns.getD 1 0 % 2097152)),none,none,none] om=some (.ok (.nx,[some (ZT ns),some (.int m),some (.int (Ng ns)),none,none,none]),om):=by
  unfold Ng
  by_cases h:ns.getD 2 0 % 3=0
  ·rw[decide_eq_true h]at t1
   rw[if_pos h]
   exact (Z6 t1).trans (ZK (i:=2) Zo)
  ·rw[decide_eq_false h]at t1
   rw[if_neg h]
   exact ZL t1
 have hz:om++List.replicate m (Ob.lst (List.replicate m (.bl false)))++[JM om.length m]=Xf om m (Wp ns m 0).2:=by
  show _=om++((List.replicate m (List.replicate m false)).map MB++[JM om.length m])
  have e:MB (List.replicate m false)=Ob.lst (List.replicate m (.bl false)):=by unfold MB; rw[List.map_replicate]
  rw[List.append_assoc,List.map_replicate,e]
 have s3:ZO 3 (Yu YI [1] (fun sl=>bnd ((Za 1) sl) ZZ) Vo (VJ c)) [some (ZT ns),some (.int m),some (.int (Ng ns)),none,none,none] om=some (.ok (.nx,T5 om.length m ns (Wp ns m 0).1 none none),Xf om m (Wp ns m 0).2):=by
  refine ZK (i:=3) (w:=.o (om.length+m)) ?_
  refine (VF (ws:=XD m) (om1:=om) (Ul rfl (by omega) om) (by rw[Y0]; omega) (Rz (x:=.lst (List.replicate m (.bl false))) (fun w _ om=>GP (i:=1) hm _ om rfl))).trans ?_
  rw[Y0,← hz]
  unfold YI
  rw[if_pos (by rw[List.length_map,List.length_range]; omega)]
  unfold newO
  rw[List.length_append,List.length_replicate]
 obtain ⟨sl',om',hf,y4,y5,rfl,rfl⟩:=Xr (T:=tgN 4) (S:=WF c) (n:=m) (fun a sl om'=>∃y4 y5,sl=T5 om.length m ns (Wp ns m a).1 y4 y5∧om'=Xf om m (Wp ns m a).2)
  (sl:=T5 om.length m ns (Wp ns m 0).1 none none) (om:=Xf om m (Wp ns m 0).2) (fun a ha sl om' ⟨y4,y5,h1,h2⟩=>by
   subst h1 h2
   obtain ⟨z5,e⟩:=GY c (om:=om) ns (Lk.to ns m a (by omega)) ha hm y5
   have e2:Wp ns m (a+1)=Nc (Wp ns m a) a:=by unfold Wp; rw[List.range_succ,List.foldl_append]; rfl
   exact ⟨_,.nx,_,_,rfl,e,.inl rfl,_,z5,by rw[e2],by rw[e2]⟩) ⟨none,none,rfl,rfl⟩
 have e4:=Y6 (sl1:=[]) (fi:=fun sl=>bnd ((Za 1) sl) ZZ) (sl:=T5 om.length m ns (Wp ns m 0).1 none none) (Ul rfl (by omega) _) hf
 have hg:g__law_links c [ZT ns,.int m] om=some (.ok (.o (om.length+m)),Xf om m (Uk ns m)):=ZS ((Zg s1).trans ((Zg s2).trans ((Zg s3).trans ((Zg e4).trans (ZD (Zb rfl))))))
 have L:=Sa ns m
 generalize Uk ns m=rows at hg L ⊢
 have ho:=Q2 (om:=om) L.len
 have hrow:∀i,i < m->(Xf om m rows)[om.length+i]?=some (MB (rows.getD i [])):=fun i hi=>Q9 (by rw[L.len]; exact hi)
 have hrows:rows.map Z7=(List.range m).map fun i=>Z7 (rows.getD i []):=by
  refine List.ext_getElem? fun i=>?_
  rw[List.getElem?_map,List.getElem?_map]
  by_cases h:i < m
  ·rw[List.getElem?_range h,List.getElem?_eq_getElem (by rw[L.len]; exact h)]
   simp[List.getD_eq_getElem?_getD,List.getElem?_eq_getElem (show i < rows.length by rw[L.len]; exact h)]
  ·rw[List.getElem?_eq_none (by rw[L.len]; omega),List.getElem?_eq_none (by simp; omega)]
   rfl
 have pl:∀r:List Bool,smalls om.length (r.map Wv.bl):=fun r=>by
  induction r with
  |nil=>trivial
  |cons b r ih=>exact ⟨trivial,ih⟩
 refine tidyG_ok hg (.own (Nat.le_add_right _ _) ho ?_) ?_
 ·rw[hrows]
  have key:∀l:List Nat,(∀i∈l,i < m)->FzWs (Xf om m rows) om.length (l.map fun i=>.o (om.length+i)) (l.map fun i=>Z7 (rows.getD i [])):=fun l=>by
   induction l with
   |nil=>exact fun _=>.nil
   |cons i l ih=>exact fun h=>.cons (.own (Nat.le_add_right _ _) (hrow i (h i (.head _))) (FzWs.of_smalls (pl _))) (ih fun j hj=>h j (.tail _ hj))
  exact key _ fun i hi=>List.mem_range.mp hi
 ·refine (Qi (k:=3) (Nat.le_add_right _ _) ho).trans ?_
  rw[List.map_map,hrows]
  refine congrArg Wv.lst (List.map_congr_left fun i hi=>?_)
  refine (Qi (k:=2) (Nat.le_add_right _ _) (hrow i (List.mem_range.mp hi))).trans ?_
  refine congrArg Wv.lst ?_
  rw[List.map_map]
  exact List.map_congr_left fun b _=>Gn _ _ _ b
end
open PySem L2
def Xi (l:List Nat):List Wv:=l.map fun (k:Nat)=>Wv.int k
def WI (rows:Mx) (n k:Nat):List Nat:=(List.range n).filter fun b=>YR rows k b
def Nv (rows:Mx) (f:List (Option Int)) (k goal h:Nat):Bool:=!decide (h=k)&&((at' f h).isSome&&(decide (h=goal) || YR rows h goal))
def Uf (rows:Mx) (f:List (Option Int)) (n k goal:Nat):List Nat:=(List.range n).filter (Nv rows f k goal)
def VS (l:List Nat) (i:Int):Nat:=l.getD (i % l.length).toNat 0
def Ws (w:Int) (k:Nat) (rows:Mx) (f:List (Option Int)):Option Od :=
 bif (at' f k).isNone then none
 else bif (WI rows f.length k).isEmpty || decide (w % 4=0) then some .stand
 else bif decide (w % 4 < 3) then some (.move (VS (WI rows f.length k) (w / 4)))
 else bif (Uf rows f f.length k (VS (WI rows f.length k) (w / 4))).isEmpty then some .stand
 else some (.help (VS (Uf rows f f.length k (VS (WI rows f.length k) (w / 4))) (w / 28)) (VS (WI rows f.length k) (w / 4)))
def NX (rows:Mx) (f:List (Option Int)) (k:Nat):Option Od->Prop
 |none=>at' f k=none
 |some .stand=>(at' f k).isSome=true
 |some (.move g)=>(at' f k).isSome=true∧g < f.length∧YR rows k g=true
 |some (.help h g)=>(at' f k).isSome=true∧h < f.length∧g < f.length∧h≠k∧(at' f h).isSome=true∧YR rows k g=true∧(h=g∨YR rows h g=true)
theorem SA {l:List Nat} (i:Int) (h:l.isEmpty=false):VS l i∈l:=by
 have hl:0 < l.length:=by cases l with|nil=>cases h|cons _ _=>simp
 have h1:0<=i % (l.length:Int):=Int.emod_nonneg _ (by omega)
 have h2:i % (l.length:Int) < l.length:=Int.emod_lt_of_pos _ (by omega)
 have h3:(i % (l.length:Int)).toNat < l.length:=by omega
 unfold VS
 rw[List.getD_eq_getElem?_getD,List.getElem?_eq_getElem h3]
 exact List.getElem_mem _
theorem Om (w:Int) (k:Nat) (rows:Mx) (f:List (Option Int)):NX rows f k (Ws w k rows f):=by
 unfold Ws
 cases h0:(at' f k).isNone with
 |true=>exact Option.isNone_iff_eq_none.mp h0
 |false =>
  have hs:(at' f k).isSome=true:=by cases h:at' f k with|none=>rw[h]at h0; cases h0|some _=>rfl
  show NX rows f k (bif (WI rows f.length k).isEmpty || decide (w % 4=0) then some .stand else _)
  cases h1:((WI rows f.length k).isEmpty || decide (w % 4=0)) with
  |true=>exact hs
  |false =>
   have hn:(WI rows f.length k).isEmpty=false:=(Bool.or_eq_false_iff.mp h1).1
   have hm:VS (WI rows f.length k) (w / 4)∈List.range f.length∧YR rows k (VS (WI rows f.length k) (w / 4))=true:=List.mem_filter.mp (SA (w / 4) hn)
   show NX rows f k (bif decide (w % 4 < 3) then _ else _)
   generalize VS (WI rows f.length k) (w / 4)=g at hm ⊢
   cases h2:decide (w % 4 < 3) with
   |true=>exact ⟨hs,List.mem_range.mp hm.1,hm.2⟩
   |false =>
    show NX rows f k (bif (Uf rows f f.length k g).isEmpty then _ else _)
    cases h3:(Uf rows f f.length k g).isEmpty with
    |true=>exact hs
    |false =>
     have ha:VS (Uf rows f f.length k g) (w / 28)∈List.range f.length∧Nv rows f k g (VS (Uf rows f f.length k g) (w / 28))=true:=List.mem_filter.mp (SA (w / 28) h3)
     generalize VS (Uf rows f f.length k g) (w / 28)=h at ha ⊢
     have hb:=ha.2
     simp only[Nv,Bool.and_eq_true,Bool.not_eq_true',decide_eq_false_iff_not,Bool.or_eq_true,decide_eq_true_eq]at hb
     exact ⟨hs,List.mem_range.mp ha.1,List.mem_range.mp hm.1,hb.1,hb.2.1,hm.2,hb.2.2⟩
section
variable (c:CA) {om:List Ob}
theorem Xy {cT:FT} {f:FE} {mk:Wv->Sl} {om:List Ob} {n:Nat} (p:Nat->Bool) (g:Nat->Wv) (hc:∀k,k < n->cT (mk (.int (k:Nat))) om=some (.ok (p k),om)) (hf:∀k,k < n->p k=true->f (mk (.int (k:Nat))) om=some (.ok (g k),om)):Xz cT f mk (XD n) om=some (.ok (((List.range n).filter p).map g),om):=by
 rw[VQ (fun w=>match w with|.int i=>p i.toNat|_=>false) (fun w=>match w with|.int i=>g i.toNat|_=>.non)]
 ·rw[Pa,List.map_map]
  have e:((List.range n).filter fun k=>(match Wv.int (k:Nat) with|.int i=>p i.toNat|_=>false))=(List.range n).filter p:=List.filter_congr fun k _=>by
   show p ((k:Nat):Int).toNat=_
   rw[Int.toNat_natCast]
  rw[e]
  refine congrArg (fun l=>some (Except.ok l,om)) (List.map_congr_left fun k _=>?_)
  show g ((k:Nat):Int).toNat=_
  rw[Int.toNat_natCast]
 ·intro w hw
  obtain ⟨k,hk,rfl⟩:=PU hw
  show _=some (Except.ok (p ((k:Nat):Int).toNat),om)
  rw[Int.toNat_natCast]
  exact hc k hk
 ·intro w hw hp
  obtain ⟨k,hk,rfl⟩:=PU hw
  have hp:p ((k:Nat):Int).toNat=true:=hp
  rw[Int.toNat_natCast]at hp
  show _=some (Except.ok (g ((k:Nat):Int).toNat),om)
  rw[Int.toNat_natCast]
  exact hf k hk hp
theorem Q7 {sl:Sl} {m a b p q r:Nat} {rows:Mx} (L:Lk m rows) (ha:a < m) (hb:b < m) (hp:sl[p]?=some (some (.lst (rows.map Z7)))) (hq:sl[q]?=some (some (.int a))) (hr:sl[r]?=some (some (.int b))):f2 kIx (f2 kIx (Za p) (Za q)) (Za r) sl om=some (.ok (.bl (YR rows a b)),om) :=
 (Zq ((v2 hp hq).trans (XT (xs:=rows) rfl (by rw[L.len]; exact ha) [])) (Zb hr)).trans (XT (f:=Wv.bl) (xs:=rows.getD a []) rfl (by rw[L.row a ha]; exact hb) false)
theorem Nl {sl:Sl} {i:Nat} {ws:List Wv} (h:sl[i]?=some (some (.lst ws))):XB (Za i) sl om=some (.ok (!ws.isEmpty),om):=by
 unfold XB
 rw[Zr (Zb h)]
 rfl
theorem Ny {sl:Sl} {i:Nat} {l:List Nat} {fa:FE} {q w:Int} (h:sl[i]?=some (some (.lst (Xi l)))) (hl:l.isEmpty=false) (ha:fa sl om=some (.ok (.int w),om)):f2 kIx (Za i) (f2 Ym fa (fA Y7 (Zc (Za i) Zk))) sl om=some (.ok (.int (VS l w)),om):=by
 have h0:0 < l.length:=by cases l with|nil=>cases hl|cons _ _=>simp
 have hlen:fA Y7 (Zc (Za i) Zk) sl om=some (.ok (.int l.length),om):=(ZG (Zd (Zb h) Zi)).trans ((V7 rfl).trans (by simp[Xi]))
 have h1:0<=w % (l.length:Int):=Int.emod_nonneg _ (by omega)
 have h2:w % (l.length:Int) < l.length:=Int.emod_lt_of_pos _ (by omega)
 have hm:f2 Ym fa (fA Y7 (Zc (Za i) Zk)) sl om=some (.ok (.int (((w % l.length).toNat:Nat):Int)),om):=(Zq ha hlen).trans (by rw[Int.toNat_of_nonneg h1]; simp[kIc,L2.ret,show 0 < l.length from h0])
 refine (Zq (Zb h) hm).trans ?_
 exact XT (f:=fun (k:Nat)=>Wv.int k) (xs:=l) (k:=(w % l.length).toNat) rfl (by omega) 0
theorem PY (w:Int) {k:Nat} {rows:Mx} {f:List (Option Int)} (L:Lk f.length rows) (hk:k < f.length) (hn:f.length<=60) (om:List Ob):g__law_order_by c [.int w,.int k,.lst (rows.map Z7),.lst (f.map Zx)] om=some (.ok (odW (Ws w k rows f)),om):=by
 have hlim:=Ye
 have hlen:(f.map Zx).length<=lim:=by rw[List.length_map]; omega
 generalize hNear:WI rows f.length k=near
 have hnl:near.length<=60:=by rw[← hNear]; exact Nat.le_trans (List.length_filter_le _ _) (by simpa using hn)
 have s1:ZO 4 (Yu ZV [1,2] (fun sl=>bnd ((fA Y7 (Zc (Za 3) Zk)) sl) ZZ) (WL c) (WN c)) [some (.int w),some (.int k),some (.lst (rows.map Z7)),some (.lst (f.map Zx)),none,none,none] om=some (.ok (.nx,[some (.int w),some (.int k),some (.lst (rows.map Z7)),some (.lst (f.map Zx)),some (.lst (Xi near)),none,none]),om):=by
  refine ZK (i:=4) (w:=.lst (Xi near)) ?_
  refine (VF (ws:=XD (f.map Zx).length) (om1:=om) (Tp rfl rfl hlen) (by rw[Y0]; exact hlen) (Xy (fun b=>YR rows k b) (fun b=>.int (b:Nat)) (fun b hb=>X2 (Q7 (p:=2) (q:=1) (r:=0) L hk (by rw[List.length_map]at hb; exact hb) rfl rfl rfl)) (fun b hb _=>Zb rfl))).trans ?_
  rw[List.length_map]
  show ZV (Xi (WI rows f.length k)) om=_
  rw[hNear]
  unfold ZV
  rw[if_pos (by simp[Xi]; omega)]
  rfl
 have sk:=XT (k:=k) (w:=.lst (f.map Zx)) (om:=om) rfl hk none
 have t2:fB (f1 VA (f2 kIx (Za 3) (Za 1))) [some (.int w),some (.int k),some (.lst (rows.map Z7)),some (.lst (f.map Zx)),some (.lst (Xi near)),none,none] om=some (.ok (at' f k).isNone,om):=ZW ((Y8 ((v2 rfl rfl).trans sk)).trans (TY _ _))
 unfold Ws
 rw[hNear]
 generalize (at' f k).isNone=b2 at t2 ⊢
 cases b2 with
 |true=>exact ZS ((Zg s1).trans (YC ((Z6 t2).trans (ZD Zo))))
 |false =>
  have t3:fOr (Wm (XB (Za 4))) (fB (f2 kEq (f2 Ym (Za 0) (fC (.int 4))) (fC (.int 0)))) [some (.int w),some (.int k),some (.lst (rows.map Z7)),some (.lst (f.map Zx)),some (.lst (Xi near)),none,none] om=some (.ok (near.isEmpty || decide (w % 4=0)),om):=by
   refine Ib ((X3 (Nl rfl)).trans (by simp[Xi])) fun _=>Th (XY (Zb rfl) (by decide))
  show g__law_order_by c _ om=some (.ok (odW (bif near.isEmpty || decide (w % 4=0) then some .stand else _)),om)
  cases h3:(near.isEmpty || decide (w % 4=0)) with
  |true =>
   rw[h3]at t3
   exact ZS ((Zg s1).trans ((Zg (ZL t2)).trans (YC ((Z6 t3).trans (ZD ((ZG (Zd Zo Zi)).trans (XH (by simp))))))))
  |false =>
   rw[h3]at t3
   have hne:near.isEmpty=false:=(Bool.or_eq_false_iff.mp h3).1
   have hmem:=SA (w / 4) hne
   rw[← hNear]at hmem
   have hgl:=List.mem_range.mp (List.mem_filter.mp hmem).1
   rw[hNear]at hgl
   have s4:ZO 5 (f2 kIx (Za 4) (f2 Ym (f2 WE (Za 0) (fC (.int 4))) (fA Y7 (Zc (Za 4) Zk)))) [some (.int w),some (.int k),some (.lst (rows.map Z7)),some (.lst (f.map Zx)),some (.lst (Xi near)),none,none] om=_:=ZK (i:=5) (Ny (q:=0) rfl hne (W7 (Zb rfl) (by decide)))
   generalize VS near (w / 4)=g at s4 hgl ⊢
   have t5:fB (f2 kLt (f2 Ym (Za 0) (fC (.int 4))) (fC (.int 3))) [some (.int w),some (.int k),some (.lst (rows.map Z7)),some (.lst (f.map Zx)),some (.lst (Xi near)),some (.int g),none] om=some (.ok (decide (w % 4 < 3)),om):=ZW ((Zq (XY (Zb rfl) (by decide)) Zo).trans (by simp[kI,L2.ret]))
   have pre:=fun {r:Option (Except Addr (Fl × Sl) × List Ob)} {S:FS} (h:S [some (.int w),some (.int k),some (.lst (rows.map Z7)),some (.lst (f.map Zx)),some (.lst (Xi near)),some (.int g),none] om=r)=>(Zg s1).trans ((Zg (ZL (S1:=Yk (fC .non)) t2)).trans ((Zg (ZL (S1:=Yk (fA Xu (Zc (fC (.str "stand")) Zk))) t3)).trans ((Zg s4).trans h)))
   show g__law_order_by c _ om=some (.ok (odW (bif decide (w % 4 < 3) then some (.move g) else _)),om)
   cases h5:decide (w % 4 < 3) with
   |true =>
    rw[h5]at t5
    exact ZS (pre (YC ((Z6 t5).trans (ZD ((ZG (Zd Zo (Zd (Zb rfl) Zi))).trans (XH (by simp)))))))
   |false =>
    rw[h5]at t5
    generalize hAble:Uf rows f f.length k g=able
    have hal:able.length<=60:=by rw[← hAble]; exact Nat.le_trans (List.length_filter_le _ _) (by simpa using hn)
    have s6:ZO 6 (Yu ZV [1,2,3,5] (fun sl=>bnd ((fA Y7 (Zc (Za 3) Zk)) sl) ZZ) (WM c) (WJ c)) [some (.int w),some (.int k),some (.lst (rows.map Z7)),some (.lst (f.map Zx)),some (.lst (Xi near)),some (.int g),none] om=some (.ok (.nx,[some (.int w),some (.int k),some (.lst (rows.map Z7)),some (.lst (f.map Zx)),some (.lst (Xi near)),some (.int g),some (.lst (Xi able))]),om):=by
     refine ZK (i:=6) (w:=.lst (Xi able)) ?_
     refine (VF (ws:=XD (f.map Zx).length) (om1:=om) (Tp rfl rfl hlen) (by rw[Y0]; exact hlen) (Xy (Nv rows f k g) (fun b=>.int (b:Nat)) (fun b hb=>?_) (fun b hb _=>Zb rfl))).trans ?_
     ·rw[List.length_map]at hb
      refine Kf (ZW ((v2 rfl rfl).trans (Go _ _ _))) fun _=>Kf (ZW ((Y8 ((v2 (i:=3) (j:=0) rfl rfl).trans (XT (k:=b) rfl hb none))).trans (XI _ _))) fun _=>?_
      exact Ib (ZW ((v2 rfl rfl).trans (Gi _ _ _))) fun _=>X2 (Q7 (p:=2) (q:=0) (r:=4) L hb hgl rfl rfl rfl)
     ·rw[List.length_map]
      show ZV (Xi (Uf rows f f.length k g)) om=_
      rw[hAble]
      unfold ZV
      rw[if_pos (by simp[Xi]; omega)]
      rfl
    have t7:Wm (XB (Za 6)) [some (.int w),some (.int k),some (.lst (rows.map Z7)),some (.lst (f.map Zx)),some (.lst (Xi near)),some (.int g),some (.lst (Xi able))] om=some (.ok able.isEmpty,om):=(X3 (Nl rfl)).trans (by simp[Xi])
    show g__law_order_by c _ om=some (.ok (odW (bif able.isEmpty then some .stand else _)),om)
    cases h7:able.isEmpty with
    |true =>
     rw[h7]at t7
     exact ZS (pre ((Zg (ZL t5)).trans ((Zg s6).trans (YC ((Z6 t7).trans (ZD ((ZG (Zd Zo Zi)).trans (XH (by simp)))))))))
    |false =>
     rw[h7]at t7
     exact ZS (pre ((Zg (ZL t5)).trans ((Zg s6).trans ((Zg (ZL t7)).trans (ZD ((ZG (Zd Zo (Zd (Ny (q:=0) rfl h7 (W7 (Zb rfl) (by decide))) (Zd (Zb rfl) Zi)))).trans (XH (by simp))))))))
end
open PySem L2
structure Givn (rows:Mx) (f:List (Option Int)) (told:List (Option Od)):Prop where
 lk:Lk f.length rows
 len:told.length=f.length
 few:f.length<=60
 ok:∀k,k < f.length->NX rows f k (at' told k)
theorem W0 {α:Type} {l:List (Option α)} {k:Nat} (h:¬ k < l.length):at' l k=none:=by
 unfold at'; rw[List.getD_eq_getElem?_getD,List.getElem?_eq_none (by omega)]; rfl
theorem Givn.okT {rows:Mx} {f:List (Option Int)} {told:List (Option Od)} (G:Givn rows f told):OkT told f:=by
 have dg:∀k g,YR rows k g=true->g≠k:=fun k g h z=>by subst z; rw[G.lk.dg]at h; cases h
 have inr:∀k o,at' told k=some o->k < f.length:=fun k o e=>by
  by_cases h:k < told.length
  ·rw[← G.len]; exact h
  ·rw[W0 h]at e; cases e
 refine ⟨G.len,by rw[G.len]; exact G.few,fun k hk=>?_,fun k g e=>?_,fun k h g e=>?_⟩
 ·have o:=G.ok k (G.len ▸ hk)
  match e:at' told k,o with
  |none,o=>have o:at' f k=none:=o; rw[o]; simp
  |some .stand,o=>exact ⟨fun _=>o,fun _=>rfl⟩
  |some (.move g),o=>exact ⟨fun _=>o.1,fun _=>rfl⟩
  |some (.help h g),o=>exact ⟨fun _=>o.1,fun _=>rfl⟩
 ·have o:=G.ok k (inr k _ e)
  rw[e]at o
  exact ⟨by rw[G.len]; exact o.2.1,dg k g o.2.2⟩
 ·have o:=G.ok k (inr k _ e)
  rw[e]at o
  exact ⟨by rw[G.len]; exact o.2.1,by rw[G.len]; exact o.2.2.1,o.2.2.2.1,dg k g o.2.2.2.2.2.1,o.2.2.2.2.1⟩
def WX (off:Nat) (ns:List Int) (rows:Mx) (f:List (Option Int)):List (Option Od):=(List.range f.length).map fun k=>Ws (ns.getD (off+k) 0) k rows f
theorem Md {off:Nat} {ns:List Int} {rows:Mx} {f:List (Option Int)} {k:Nat} (h:k < f.length):at' (WX off ns rows f) k=Ws (ns.getD (off+k) 0) k rows f:=by
 unfold at' WX
 rw[List.getD_eq_getElem?_getD,List.getElem?_map,List.getElem?_range h]
 rfl
theorem NU (off:Nat) (ns:List Int) {rows:Mx} {f:List (Option Int)} (L:Lk f.length rows) (hf:f.length<=60):Givn rows f (WX off ns rows f) :=
 ⟨L,by simp[WX],hf,fun k hk=>by rw[Md hk]; exact Om ..⟩
theorem Givn.stand {rows:Mx} {f:List (Option Int)} {told:List (Option Od)} (G:Givn rows f told) {k:Nat} (hk:k < f.length) (hs:(at' f k).isSome=true):Givn rows f (told.set k (some .stand)):=by
 refine ⟨G.lk,by rw[List.length_set]; exact G.len,G.few,fun i hi=>?_⟩
 unfold at'
 rw[List.getD_eq_getElem?_getD,List.getElem?_set]
 by_cases h:k=i
 ·subst h; rw[if_pos rfl,if_pos (by rw[G.len]; exact hk)]; exact hs
 ·rw[if_neg h,← List.getD_eq_getElem?_getD]; exact G.ok i hi
section
variable (c:CA) {om:List Ob}
theorem Ml (ns:List Int) {rows:Mx} {f:List (Option Int)} (L:Lk f.length rows) (hn:f.length<=60) (om:List Ob):g__law_orders c [ZT ns,.lst (rows.map Z7),.lst (f.map Zx)] om=some (.ok (.lst ((WX 10 ns rows f).map odW)),om):=by
 have hlim:=Ye
 have hlen:(f.map Zx).length<=lim:=by rw[List.length_map]; omega
 refine ZS (ZD ((VF (ws:=XD (f.map Zx).length) (om1:=om) (Tp (i:=2) rfl rfl hlen) (by rw[Y0]; exact hlen) (Xy (fun _=>true) (fun k=>odW (Ws (ns.getD (10+k) 0) k rows f)) (fun _ _=>rfl) (fun k hk _=>?_))).trans ?_))
 ·rw[List.length_map]at hk
  exact (ZG (Zd (VY c (i:=1) (k:=10+k) rfl ((Sr (Zb rfl)).trans (by simp))) (Zd (Zb (i:=0) rfl) (Zd (Zb (i:=2) rfl) (Zd (Zb (i:=3) rfl) Zi))))).trans ((Xe rfl).trans (PY c _ L hk hn om))
 ·have e:((List.range (f.map Zx).length).filter fun _=>true).map (fun k=>odW (Ws (ns.getD (10+k) 0) k rows f))=(WX 10 ns rows f).map odW:=by
   rw[List.filter_eq_self.mpr (fun _ _=>rfl),List.length_map]
   unfold WX
   rw[List.map_map]
   rfl
  rw[e]
  unfold ZV
  rw[if_pos (by simp[WX]; omega)]
  rfl
end
end MP
namespace MP
noncomputable section
open PySem L2
def Sw (c:CA):FS :=
 (ZB (VI c.Map "size" (Za 1) (Za 0))
  (VI c.Map "links" (fun _=>newO (.dt [])) (Za 0)))
def X5 (c:CA):List Wv->Mw Wv:=Yr 2 (Sw c)
def Uy (c:CA):FS :=
 (sIf (fOr (fB (f2 kLt (Za 1) (fC (.int 0)))) (fB (f2 kGe (Za 1) (f1 (Yb c.Map "size") (Za 0))))) (YL c.NoPlace (WH (Za 1) WW)) Yq)
def Zs (c:CA):List Wv->Mw Wv:=Yr 2 (Uy c)
def Oj (c:CA):FS :=
 (ZB (ZP (ZC c.Map "need_place" 2 (Zs c) (Za 0) (Zc (Za 1) Zk)))
  (ZB (ZP (ZC c.Map "need_place" 2 (Zs c) (Za 0) (Zc (Za 2) Zk)))
  (ZB (sIf (fB (f2 kEq (Za 1) (Za 2))) (YL c.OutOfReach (WH (Za 1) WW)) Yq)
  (ZB (Xa (fC (.bl true)) (f1 (Yb c.Map "links") (Za 0)) (fA Xu (Zc (Za 1) (Zc (Za 2) Zk))))
  (Xa (fC (.bl true)) (f1 (Yb c.Map "links") (Za 0)) (fA Xu (Zc (Za 2) (Zc (Za 1) Zk))))))))
def VR (c:CA):List Wv->Mw Wv:=Yr 3 (Oj c)
def R8 (c:CA):FS :=
 (ZB (ZP (ZC c.Map "need_place" 2 (Zs c) (Za 0) (Zc (Za 1) Zk)))
  (ZB (ZP (ZC c.Map "need_place" 2 (Zs c) (Za 0) (Zc (Za 2) Zk)))
  (Yk (f2 (US false) (fA Xu (Zc (Za 1) (Zc (Za 2) Zk))) (f1 (Yb c.Map "links") (Za 0))))))
def XZ (c:CA):List Wv->Mw Wv:=Yr 3 (R8 c)
def Ut (c:CA):FS :=
 (ZB (VI c.Board "chart" (Za 1) (Za 0))
  (VI c.Board "units" (fun _=>newO (.dk [])) (Za 0)))
def Xn (c:CA):List Wv->Mw Wv:=Yr 2 (Ut c)
def Qd (c:CA):FS :=
 (ZB (ZP (ZC c.Map "need_place" 2 (Zs c) (f1 (Yb c.Board "chart") (Za 0)) (Zc (Za 1) Zk)))
  (ZB (sIf (fOr (fB (f2 kLt (Za 2) (fC (.int 0)))) (fB (f2 kGt (Za 2) (fC (.int 7))))) (YL c.NoSide (WH (Za 2) WW)) Yq)
  (ZB (sIf (fB (f2 (US false) (Za 1) (f1 (Yb c.Board "units") (Za 0)))) (YL c.Crowded (WH (Za 1) WW)) Yq)
  (Xa (Za 2) (f1 (Yb c.Board "units") (Za 0)) (Za 1)))))
def W6 (c:CA):List Wv->Mw Wv:=Yr 3 (Qd c)
def Tn (c:CA):FS :=
 (ZB (ZP (ZC c.Map "need_place" 2 (Zs c) (f1 (Yb c.Board "chart") (Za 0)) (Zc (Za 1) Zk)))
  (Yk (U9 (f1 (Yb c.Board "units") (Za 0)) (Za 1))))
def Z4 (c:CA):List Wv->Mw Wv:=Yr 2 (Tn c)
def Uo (c:CA):FS :=
 (sIf (fB (f1 VA (ZC c.Board "side_at" 2 (Z4 c) (Za 0) (Zc (Za 1) Zk)))) (YL c.NoUnit (WH (Za 1) WW)) Yq)
def ZQ (c:CA):List Wv->Mw Wv:=Yr 2 (Uo c)
def WB (c:CA):FS :=
 (sIf (XB (f2 kIx (f2 kIx (Za 1) (Za 3)) (Za 4))) (ZP (ZC c.Map "link" 3 (VR c) (Za 2) (Zc (f2 YH (f2 kIx (Za 0) (fC (.int 1))) (Za 3)) (Zc (f2 YH (f2 kIx (Za 0) (fC (.int 1))) (Za 4)) Zk)))) Yq)
def VL (c:CA):FS :=
 (Wb (fun sl=>bnd ((Za 3) sl) ZZ) (tgN 4) (WB c))
def QI (c:CA):FS :=
 (ZB (ZO 2 (fA (Wt c.Map 2 (X5 c)) (Zc (f2 kIx (Za 0) (fC (.int 2))) Zk)))
  (ZB (Wb (fun sl=>bnd ((f2 kIx (Za 0) (fC (.int 0))) sl) ZZ) (tgN 3) (VL c))
  (Yk (Za 2))))
def g__law_chart (c:CA):List Wv->Mw Wv:=Yr 5 (QI c)
def VH (c:CA):FS :=
 (sIf (fB (f1 Y9 (f2 kIx (Za 2) (Za 4)))) (ZP (ZC c.Board "post" 3 (W6 c) (Za 3) (Zc (f2 YH (f2 kIx (Za 0) (fC (.int 1))) (Za 4)) (Zc (f2 kIx (Za 2) (Za 4)) Zk)))) Yq)
def RZ (c:CA):FS :=
 (ZB (ZO 3 (fA (Wt c.Board 2 (Xn c)) (Zc (fA (kN 2 (g__law_chart c)) (Zc (Za 0) (Zc (Za 1) Zk))) Zk)))
  (ZB (Wb (fun sl=>bnd ((f2 kIx (Za 0) (fC (.int 0))) sl) ZZ) (tgN 4) (VH c))
  (Yk (Za 3))))
def g__law_board (c:CA):List Wv->Mw Wv:=Yr 5 (RZ c)
end
open PySem L2
def pk (a b:Int):List Key:=[.inl a,.inl b]
theorem Qm {a b x y:Int}:pk a b=pk x y ↔ a=x∧b=y:=by
 unfold pk
 constructor
 ·intro h; injection h with h1 h2; injection h2 with h2 _; exact ⟨Sum.inl.inj h1,Sum.inl.inj h2⟩
 ·rintro ⟨rfl,rfl⟩; rfl
theorem QD {κ:Type} [DecidableEq κ] (kvs:List (κ × Wv)) (k k':κ) (v:Wv):(kvs.map (fun kv=>if kv.1=k then (kv.1,v) else kv)).find? (fun kv=>decide (kv.1=k'))=(kvs.find? fun kv=>decide (kv.1=k')).map (fun kv=>if kv.1=k then (kv.1,v) else kv):=by
 induction kvs with
 |nil=>rfl
 |cons p kvs ih =>
  rw[List.map_cons,List.find?_cons,List.find?_cons]
  have e:(if p.1=k then (p.1,v) else p).1=p.1:=by split <;> rfl
  rw[e]
  cases h:decide (p.1=k') with
  |true=>rfl
  |false=>exact ih
theorem Pe {κ:Type} [DecidableEq κ] (kvs:List (κ × Wv)) (k k':κ) (v:Wv):WT (Wl kvs k v) k'=if k'=k then some v else WT kvs k':=by
 unfold Wl
 by_cases ha:(kvs.any fun kv=>decide (kv.1=k))=true
 ·rw[if_pos ha]
  unfold WT
  rw[QD]
  by_cases h:k'=k
  ·subst h
   rw[if_pos rfl]
   obtain ⟨p,hp,e⟩:=List.any_eq_true.mp ha
   cases hf:kvs.find? fun kv=>decide (kv.1=k') with
   |none=>exact absurd e (List.find?_eq_none.mp hf p hp)
   |some q =>
    have hq:=List.find?_some hf
    have hq:q.1=k':=of_decide_eq_true hq
    simp[hq]
  ·rw[if_neg h]
   cases hf:kvs.find? fun kv=>decide (kv.1=k') with
   |none=>rfl
   |some q =>
    have hq:=List.find?_some hf
    have hq:q.1=k':=of_decide_eq_true hq
    simp[show ¬ q.1=k from fun z=>h (hq ▸ z)]
 ·rw[if_neg ha]
  unfold WT
  rw[List.find?_append]
  have hn:(kvs.find? fun kv=>decide (kv.1=k))=none:=List.find?_eq_none.mpr fun p hp z=>ha (List.any_eq_true.mpr ⟨p,hp,z⟩)
  by_cases h:k'=k
  ·subst h
   rw[if_pos rfl,hn]
   simp
  ·rw[if_neg h]
   cases hf:kvs.find? fun kv=>decide (kv.1=k') with
   |none=>simp[show ¬ k=k' from fun z=>h z.symm]
   |some q=>rfl
theorem Sq {κ:Type} [DecidableEq κ] (kvs:List (κ × Wv)) (k:κ) (v:Wv):(Wl kvs k v).length<=kvs.length+1:=by
 unfold Wl
 split
 ·simp
 ·simp
abbrev Xm (c:CA) (size:Int) (hl:Nat):Ob:=.ins c.Map [("size",.int size),("links",.o hl)]
abbrev XR (c:CA) (hm hu:Nat):Ob:=.ins c.Board [("chart",.o hm),("units",.o hu)]
section
variable (c:CA) {om:List Ob} {h hl:Nat} {size:Int}
theorem Xo {C:Addr} {n:Str} {fs:List (Str × Wv)} {w:Wv} {sl:Sl} {i:Nat} (hv:sl[i]?=some (some (.o h))) (hm:om[h]?=some (.ins C fs)) (hw:fs.lookup n=some w):f1 (Yb C n) (Za i) sl om=some (.ok w,om):=by
 refine (Y8 (Zb hv)).trans ?_
 simp[Yb,WR,hm,hw]
theorem S8 (size:Int) (hl:Nat):List.lookup (Str.ofString "size") [(Str.ofString "size",Wv.int size),(Str.ofString "links",Wv.o hl)]=some (.int size):=by simp[List.lookup_cons,Y3]
theorem Ty (size:Int) (hl:Nat):List.lookup (Str.ofString "links") [(Str.ofString "size",Wv.int size),(Str.ofString "links",Wv.o hl)]=some (.o hl):=by simp[List.lookup_cons,Y3]
theorem YQ (m:String) (size:Int) (hl:Nat) (h1:m≠"size") (h2:m≠"links"):List.lookup (Str.ofString m) [(Str.ofString "size",Wv.int size),(Str.ofString "links",Wv.o hl)]=none:=by simp[List.lookup_cons,Y3,h1,h2]
theorem XN (hm hu:Nat):List.lookup (Str.ofString "chart") [(Str.ofString "chart",Wv.o hm),(Str.ofString "units",Wv.o hu)]=some (.o hm):=by simp[List.lookup_cons,Y3]
theorem VP (hm hu:Nat):List.lookup (Str.ofString "units") [(Str.ofString "chart",Wv.o hm),(Str.ofString "units",Wv.o hu)]=some (.o hu):=by simp[List.lookup_cons,Y3]
theorem Yy (m:String) (hm hu:Nat) (h1:m≠"chart") (h2:m≠"units"):List.lookup (Str.ofString m) [(Str.ofString "chart",Wv.o hm),(Str.ofString "units",Wv.o hu)]=none:=by simp[List.lookup_cons,Y3,h1,h2]
theorem Zt {C:Addr} {fs:List (Str × Wv)} (hm:om[h]?=some (.ins C fs)):WR om (.o h)=some (C,fs):=by simp[WR,hm]
theorem Vr (hm:om[h]?=some (Xm c size hl)) {a:Int} (h0:0<=a) (h1:a < size):Zs c [.o h,.int a] om=some (.ok .non,om):=by
 have t:fOr (fB (f2 kLt (Za 1) (fC (.int 0)))) (fB (f2 kGe (Za 1) (f1 (Yb c.Map "size") (Za 0)))) [some (.o h),some (.int a)] om=some (.ok false,om):=by
  refine (TU (ZW ((Zq (Zb rfl) Zo).trans (show kLt (.int a) (.int 0) om=some (.ok (.bl false),om) by simp[kI,L2.ret,show ¬ a < 0 by omega])))).trans ?_
  exact ZW ((Zq (Zb rfl) (Xo rfl hm (S8 ..))).trans (by simp[kI,L2.ret]; omega))
 exact XM (ZL t)
theorem Px (hm:om[h]?=some (Xm c size hl)) {a:Int} (hn:¬ (0<=a∧a < size)) (hs:a.natAbs < 1000000000000):Zs c [.o h,.int a] om=some (.error c.NoPlace,om):=by
 have r:YL c.NoPlace (WH (Za 1) WW) [some (.o h),some (.int a)] om=some (.error c.NoPlace,om):=by
  simp[YL,WH,WW,Pp,Za,bnd,L2.ret,L2.V9,chk,hs]
 by_cases h0:a < 0
 ·have t:fOr (fB (f2 kLt (Za 1) (fC (.int 0)))) (fB (f2 kGe (Za 1) (f1 (Yb c.Map "size") (Za 0)))) [some (.o h),some (.int a)] om=some (.ok true,om) :=
   Nm (ZW ((Zq (Zb rfl) Zo).trans (by simp[kI,L2.ret,h0])))
  exact YX ((Z6 t).trans r)
 ·have t:fOr (fB (f2 kLt (Za 1) (fC (.int 0)))) (fB (f2 kGe (Za 1) (f1 (Yb c.Map "size") (Za 0)))) [some (.o h),some (.int a)] om=some (.ok true,om):=by
   refine (TU (ZW ((Zq (Zb rfl) Zo).trans (show kLt (.int a) (.int 0) om=some (.ok (.bl false),om) by simp[kI,L2.ret]; omega)))).trans ?_
   exact ZW ((Zq (Zb rfl) (Xo rfl hm (S8 ..))).trans (by simp[kI,L2.ret]; omega))
  exact YX ((Z6 t).trans r)
end
open PySem L2
section
variable (c:CA) {om:List Ob} {h hl:Nat} {size:Int} {kvs:List (List Key × Wv)}
def UM (kvs:List (List Key × Wv)) (a b:Int):List (List Key × Wv):=Wl (Wl kvs (pk a b) (.bl true)) (pk b a) (.bl true)
def Yl (kvs:List (List Key × Wv)) (a b:Int):Bool:=(WT kvs (pk a b)).isSome
theorem Mj (kvs:List (List Key × Wv)) (a b x y:Int):Yl (UM kvs a b) x y=(decide (x=a∧y=b) || (decide (x=b∧y=a) || Yl kvs x y)):=by
 unfold Yl UM
 rw[Pe,Pe]
 by_cases h1:pk x y=pk b a
 ·rw[if_pos h1]; simp[Qm.mp h1]
 ·rw[if_neg h1]
  have h1':¬ (x=b∧y=a):=fun z=>h1 (Qm.mpr z)
  by_cases h2:pk x y=pk a b
  ·rw[if_pos h2]; simp[Qm.mp h2]
  ·rw[if_neg h2]
   have h2':¬ (x=a∧y=b):=fun z=>h2 (Qm.mpr z)
   rw[decide_eq_false h1',decide_eq_false h2']; simp
theorem OB (kvs:List (List Key × Wv)) (a b:Int):(UM kvs a b).length<=kvs.length+2:=by
 unfold UM
 have h1:=Sq kvs (pk a b) (.bl true)
 have h2:=Sq (Wl kvs (pk a b) (.bl true)) (pk b a) (.bl true)
 omega
theorem LE {sl:Sl} {i j k:Nat} {x y:Int} (hh:h≠hl) (hv:sl[i]?=some (some (.o h))) (hm:om[h]?=some (Xm c size hl)) (hk:om[hl]?=some (.dt kvs)) (hx:sl[j]?=some (some (.int x))) (hy:sl[k]?=some (some (.int y))) (hlen:kvs.length < lim) :
    Xa (fC (.bl true)) (f1 (Yb c.Map "links") (Za i)) (fA Xu (Zc (Za j) (Zc (Za k) Zk))) sl om=some (.ok (.nx,sl),om.set hl (.dt (Wl kvs (pk x y) (.bl true)))):=by
 unfold Xa
 rw[Zr Zo,Zr (Xo hv hm (Ty ..)),Zr ((ZG (Zd (Zb hx) (Zd (Zb hy) Zi))).trans (XH (by simp)))]
 refine (Zr (a:=()) (om1:=om.set hl (.dt (Wl kvs (pk x y) (.bl true)))) ?_).trans rfl
 simp[U8,T8,hk,Wg,YK,hlen,pk]
theorem JS (hh:h≠hl) (hm:om[h]?=some (Xm c size hl)) (hk:om[hl]?=some (.dt kvs)) {a b:Int} (ha:0<=a∧a < size) (hb:0<=b∧b < size) (hne:a≠b) (hlen:kvs.length+1 < lim) :
    VR c [.o h,.int a,.int b] om=some (.ok .non,om.set hl (.dt (UM kvs a b))):=by
 have n1:ZP (ZC c.Map "need_place" 2 (Zs c) (Za 0) (Zc (Za 1) Zk)) [some (.o h),some (.int a),some (.int b)] om=_:=ZJ ((Zv (Zb rfl) (Zt hm) (YQ _ _ _ (by decide) (by decide)) (Zd (Zb rfl) Zi) rfl).trans (Vr c hm ha.1 ha.2))
 have n2:ZP (ZC c.Map "need_place" 2 (Zs c) (Za 0) (Zc (Za 2) Zk)) [some (.o h),some (.int a),some (.int b)] om=_:=ZJ ((Zv (Zb rfl) (Zt hm) (YQ _ _ _ (by decide) (by decide)) (Zd (Zb rfl) Zi) rfl).trans (Vr c hm hb.1 hb.2))
 have t:fB (f2 kEq (Za 1) (Za 2)) [some (.o h),some (.int a),some (.int b)] om=some (.ok false,om):=ZW ((v2 rfl rfl).trans ((YS _ _ _).trans (by rw[decide_eq_false hne])))
 have hlt:hl < om.length:=(List.getElem?_eq_some_iff.mp hk).1
 have p1:=LE c (sl:=[some (.o h),some (.int a),some (.int b)]) (i:=0) (j:=1) (k:=2) hh rfl hm hk rfl rfl (by omega)
 have hm2:(om.set hl (.dt (Wl kvs (pk a b) (.bl true))))[h]?=some (Xm c size hl):=by rw[List.getElem?_set_ne (Ne.symm hh)]; exact hm
 have hk2:(om.set hl (.dt (Wl kvs (pk a b) (.bl true))))[hl]?=some (.dt (Wl kvs (pk a b) (.bl true))):=by rw[List.getElem?_set_self hlt]
 have p2:=LE c (sl:=[some (.o h),some (.int a),some (.int b)]) (i:=0) (j:=2) (k:=1) hh rfl hm2 hk2 rfl rfl (by have:=Sq kvs (pk a b) (.bl true); omega)
 rw[List.set_set]at p2
 exact XM ((Zg n1).trans ((Zg n2).trans ((Zg (ZL t)).trans ((Zg p1).trans p2))))
theorem Mb (om:List Ob):Wt c.Map 2 (X5 c) [.int size] om=some (.ok (.o om.length),om++[Xm c size (om.length+1),.dt []]):=by
 simp[X5,Sw,Yr,XV,ZB,Mi,ZO,ZP,Yk,PK,sIf,Yq,Za,fC,f1,f2,fB,kB,fA,Zc,Zk,Y7,YB,bnd,L2.ret,kI,kIc,kIx,OG,Vg,fOr,Wm,Wq,Qg,X8,VA,Y9,UY,UO,Ss,UK,UH,Qw,MS,HR,J2,Kd.isi,XB,MH,TD,Yb,WR,ZC,P1,kN,chk,Wt,VI,Pr,Tc,newO,US,X6,YK,Xa,U8,T8,SB,U9,Uv,isD,Hn,Ja,YL,WH,WW,Pp,L2.V9,Xu,ZV,YI,Ol,RJ,kSl,fSl,Gp,L9,Nx,YY,Sx,Wc,Yu,Wb,XX,Yh,tgN,GW,QM,Tu,Yo,X0,Qz,kUn,Vo,SC,XA,Ue,Y3,L2.UP,L2.YS,List.lookup_cons,List.lookup_nil]
theorem Pi (om:List Ob) (hm:Nat):Wt c.Board 2 (Xn c) [.o hm] om=some (.ok (.o om.length),om++[XR c hm (om.length+1),.dk []]):=by
 simp[Xn,Ut,Yr,XV,ZB,Mi,ZO,ZP,Yk,PK,sIf,Yq,Za,fC,f1,f2,fB,kB,fA,Zc,Zk,Y7,YB,bnd,L2.ret,kI,kIc,kIx,OG,Vg,fOr,Wm,Wq,Qg,X8,VA,Y9,UY,UO,Ss,UK,UH,Qw,MS,HR,J2,Kd.isi,XB,MH,TD,Yb,WR,ZC,P1,kN,chk,Wt,VI,Pr,Tc,newO,US,X6,YK,Xa,U8,T8,SB,U9,Uv,isD,Hn,Ja,YL,WH,WW,Pp,L2.V9,Xu,ZV,YI,Ol,RJ,kSl,fSl,Gp,L9,Nx,YY,Sx,Wc,Yu,Wb,XX,Yh,tgN,GW,QM,Tu,Yo,X0,Qz,kUn,Vo,SC,XA,Ue,Y3,L2.UP,L2.YS,List.lookup_cons,List.lookup_nil]
end
open PySem L2
abbrev Zy (many off size:Nat):Wv:=.tup [.int many,.int off,.int size]
def dn (a b i j:Nat):Prop:=(j < i∧(i < a∨(i=a∧j < b)))∨(i < j∧(j < a∨(j=a∧i < b)))
structure Laid (rows:Mx) (off a b:Nat) (kvs:List (List Key × Wv)):Prop where
 has:∀x y:Int,Yl kvs x y=true ↔ ∃i j:Nat,x=off+i∧y=off+j∧YR rows i j=true∧dn a b i j
 few:kvs.length<=20 * a+2 * b
theorem Laid.zero (rows:Mx) (off:Nat):Laid rows off 0 0 []:=by
 refine ⟨fun x y=>Iff.intro (fun h=>(by cases h)) (fun h=>?_),by simp⟩
 obtain ⟨i,j,_,_,_,h⟩:=h
 unfold dn at h; omega
theorem Laid.on {rows:Mx} {off a b m:Nat} {kvs:List (List Key × Wv)} (L:Laid rows off a b kvs) (lk:Lk m rows) (h:YR rows a b=true) (hb:b < a):Laid rows off a (b+1) (UM kvs ((off:Int)+a) ((off:Int)+b)):=by
 refine ⟨fun x y=>?_,by have:=OB kvs ((off:Int)+a) ((off:Int)+b); have:=L.few; omega⟩
 rw[Mj,Bool.or_eq_true,Bool.or_eq_true,decide_eq_true_iff,decide_eq_true_iff,L.has]
 constructor
 ·rintro (⟨h1,h2⟩|⟨h1,h2⟩|⟨i,j,h1,h2,h3,h4⟩)
  ·exact ⟨a,b,h1,h2,h,by unfold dn; omega⟩
  ·exact ⟨b,a,h1,h2,(lk.sym b a).trans h,by unfold dn; omega⟩
  ·exact ⟨i,j,h1,h2,h3,by unfold dn at *; omega⟩
 ·rintro ⟨i,j,h1,h2,h3,h4⟩
  by_cases e1:i=a∧j=b
  ·exact .inl ⟨by rw[h1,e1.1],by rw[h2,e1.2]⟩
  ·by_cases e2:i=b∧j=a
   ·exact .inr (.inl ⟨by rw[h1,e2.1],by rw[h2,e2.2]⟩)
   ·exact .inr (.inr ⟨i,j,h1,h2,h3,by unfold dn at *; omega⟩)
theorem Laid.off' {rows:Mx} {off a b m:Nat} {kvs:List (List Key × Wv)} (L:Laid rows off a b kvs) (lk:Lk m rows) (h:YR rows a b=false) (hb:b < a):Laid rows off a (b+1) kvs:=by
 refine ⟨fun x y=>?_,by have:=L.few; omega⟩
 rw[L.has]
 constructor
 ·rintro ⟨i,j,h1,h2,h3,h4⟩
  exact ⟨i,j,h1,h2,h3,by unfold dn at *; omega⟩
 ·rintro ⟨i,j,h1,h2,h3,h4⟩
  refine ⟨i,j,h1,h2,h3,?_⟩
  by_cases e1:i=a∧j=b
  ·rw[e1.1,e1.2,h]at h3; cases h3
  ·by_cases e2:i=b∧j=a
   ·rw[e2.1,e2.2,lk.sym,h]at h3; cases h3
   ·unfold dn at *; omega
theorem Laid.next {rows:Mx} {off a:Nat} {kvs:List (List Key × Wv)} (L:Laid rows off a a kvs) (ha:a<=7):Laid rows off (a+1) 0 kvs:=by
 refine ⟨fun x y=>?_,by have:=L.few; omega⟩
 rw[L.has]
 constructor
 ·rintro ⟨i,j,h1,h2,h3,h4⟩
  exact ⟨i,j,h1,h2,h3,by unfold dn at *; omega⟩
 ·rintro ⟨i,j,h1,h2,h3,h4⟩
  exact ⟨i,j,h1,h2,h3,by unfold dn at *; omega⟩
theorem Lk.inr {m:Nat} {rows:Mx} (L:Lk m rows) {i j:Nat} (h:YR rows i j=true):i < m∧j < m∧i≠j:=by
 have hi:i < m:=by
  by_cases hi:i < m
  ·exact hi
  ·unfold YR at h
   rw[List.getD_eq_getElem?_getD (l:=rows),List.getElem?_eq_none (by rw[L.len]; omega)]at h
   simp at h
 refine ⟨hi,?_,fun z=>by subst z; rw[L.dg]at h; cases h⟩
 by_cases hj:j < m
 ·exact hj
 ·unfold YR at h
  rw[List.getD_eq_getElem?_getD,List.getElem?_eq_none (by rw[L.row i hi]; omega)]at h
  cases h
def Wu (rows:Mx) (off:Nat) (kvs:List (List Key × Wv)):Prop:=∀x y:Int,Yl kvs x y=true ↔ ∃i j:Nat,x=off+i∧y=off+j∧YR rows i j=true
theorem Laid.done {rows:Mx} {off m:Nat} {kvs:List (List Key × Wv)} (L:Laid rows off m 0 kvs) (lk:Lk m rows):Wu rows off kvs:=fun x y=>by
 rw[L.has]
 constructor
 ·rintro ⟨i,j,h1,h2,h3,_⟩; exact ⟨i,j,h1,h2,h3⟩
 ·rintro ⟨i,j,h1,h2,h3⟩
  have:=lk.inr h3
  exact ⟨i,j,h1,h2,h3,by unfold dn; omega⟩
section
variable (c:CA) {om:List Ob} {many off size:Nat} {rows:Mx}
abbrev TK (om:List Ob) (size:Nat) (kvs:List (List Key × Wv)):List Ob:=om++[Xm c size (om.length+1),.dt kvs]
abbrev QE (n many off size:Nat) (rows:Mx) (x3 x4:Option Wv):Sl:=[some (Zy many off size),some (.lst (rows.map Z7)),some (.o n),x3,x4]
theorem L1 (kvs kvs':List (List Key × Wv)):(TK c om size kvs).set (om.length+1) (.dt kvs')=TK c om size kvs':=by
 unfold TK
 rw[List.set_append_right _ _ (by omega),show om.length+1 - om.length=1 by omega]
 rfl
theorem JR (lk:Lk many rows) (h1:off+many<=size) (hm:many<=7) {a b:Nat} (ha:a < many) (hb:b < a) {kvs:List (List Key × Wv)} (L:Laid rows off a b kvs) :
    ∃kvs',WB c (QE om.length many off size rows (some (.int a)) (some (.int b))) (TK c om size kvs)=some (.ok (.nx,QE om.length many off size rows (some (.int a)) (some (.int b))),TK c om size kvs')∧Laid rows off a (b+1) kvs':=by
 have hlim:=Ye
 have t:XB (f2 kIx (f2 kIx (Za 1) (Za 3)) (Za 4)) (QE om.length many off size rows (some (.int a)) (some (.int b))) (TK c om size kvs)=_:=X2 (Q7 (p:=1) (q:=3) (r:=4) lk ha (by omega) rfl rfl rfl)
 cases hv:YR rows a b with
 |false =>
  rw[hv]at t
  exact ⟨kvs,ZL t,L.off' lk hv hb⟩
 |true =>
  rw[hv]at t
  refine ⟨_,(Z6 t).trans (ZJ (w:=.non) ((Zv (Zb rfl) (Zt (fs:=[("size",.int (size:Int)),("links",.o (om.length+1))]) (by simp)) (YQ _ _ _ (by decide) (by decide)) (Zd ((Zq ((Zq (Zb rfl) Zo).trans (Zw (k:=1) (v:=.int off) rfl rfl)) (Zb rfl)).trans rfl) (Zd ((Zq ((Zq (Zb rfl) Zo).trans (Zw (k:=1) (v:=.int off) rfl rfl)) (Zb rfl)).trans rfl) Zi)) rfl).trans ((JS c (h:=om.length) (hl:=om.length+1) (size:=size) (kvs:=kvs) (by omega) (by simp) (by simp) ⟨by omega,by omega⟩ ⟨by omega,by omega⟩ (by omega) (by have:=L.few; omega)).trans ?_))),L.on lk hv hb⟩
  rw[L1]
theorem Kh (lk:Lk many rows) (h1:off+many<=size) (hm:many<=7) (om:List Ob):∃kvs,g__law_chart c [Zy many off size,.lst (rows.map Z7)] om=some (.ok (.o om.length),om++[Xm c size (om.length+1),.dt kvs])∧Wu rows off kvs∧kvs.length<=140:=by
 have hlim:=Ye
 have s1:ZO 2 (fA (Wt c.Map 2 (X5 c)) (Zc (f2 kIx (Za 0) (fC (.int 2))) Zk)) [some (Zy many off size),some (.lst (rows.map Z7)),none,none,none] om=some (.ok (.nx,QE om.length many off size rows none none),TK c om size []):=ZK (i:=2) ((ZG (Zd ((Zq (Zb rfl) Zo).trans (Zw (k:=2) (v:=.int size) rfl rfl)) Zi)).trans (Mb c om))
 obtain ⟨sl',om',hf,kvs,x3,x4,rfl,rfl,L⟩:=Xr (T:=tgN 3) (S:=VL c) (n:=many) (fun a sl om'=>∃kvs x3 x4,sl=QE om.length many off size rows x3 x4∧om'=TK c om size kvs∧Laid rows off a 0 kvs)
  (sl:=QE om.length many off size rows none none) (om:=TK c om size []) (fun a ha sl om' ⟨kvs,x3,x4,e1,e2,L⟩=>by
   subst e1 e2
   obtain ⟨sl2,om2,hf2,kvs2,y4,rfl,rfl,L2⟩:=Xr (T:=tgN 4) (S:=WB c) (n:=a) (fun b sl om'=>∃kvs y4,sl=QE om.length many off size rows (some (.int a)) y4∧om'=TK c om size kvs∧Laid rows off a b kvs)
    (sl:=QE om.length many off size rows (some (.int a)) x4) (om:=TK c om size kvs) (fun b hb sl om' ⟨kvs,y4,e1,e2,L⟩=>by
     subst e1 e2
     obtain ⟨kvs',e,L'⟩:=JR c (om:=om) lk h1 hm ha hb L
     exact ⟨_,.nx,_,_,rfl,e,.inl rfl,kvs',_,rfl,rfl,L'⟩) ⟨kvs,x4,rfl,rfl,L⟩
   exact ⟨_,.nx,_,_,rfl,Y6 (sl1:=[]) (Ul (i:=3) (m:=a) rfl (by omega) _) hf2,.inl rfl,kvs2,_,_,rfl,rfl,L2.next (by omega)⟩) ⟨[],none,none,rfl,rfl,Laid.zero rows off⟩
 have e4:=Y6 (sl1:=[]) (fi:=fun sl=>bnd ((f2 kIx (Za 0) (fC (.int 0))) sl) ZZ) (sl:=QE om.length many off size rows none none) ((Zr ((Zq (Zb rfl) Zo).trans (Zw (k:=0) (v:=.int many) rfl rfl))).trans (Yh _ _ (by omega))) hf
 exact ⟨kvs,ZS ((Zg s1).trans ((Zg e4).trans (ZD (Zb rfl)))),L.done lk,by have:=L.few; omega⟩
end
open PySem L2
def Y5 (off:Nat) (f:List (Option Int)) (n:Nat):List (Int × Int):=(List.range n).filterMap fun k=>(at' f k).map fun s=>((off:Int)+k,s)
theorem RF (off:Nat) (f:List (Option Int)) (n:Nat):Y5 off f (n+1)=Y5 off f n++(match at' f n with|some s=>[((off:Int)+n,s)]|none=>[]):=by
 unfold Y5
 rw[List.range_succ,List.filterMap_append]
 congr 1
 rw[List.filterMap_cons,List.filterMap_nil]
 cases at' f n <;> rfl
theorem Lj (off:Nat) (f:List (Option Int)) (n:Nat):(Y5 off f n).length<=n:=by
 unfold Y5
 exact Nat.le_trans (List.length_filterMap_le _ _) (by simp)
theorem Vq (off:Nat) (f:List (Option Int)) (n:Nat) (x:Int):(Y5 off f n).lookup x=if 0<=x - off∧x - off < n then at' f (x - off).toNat else none:=by
 induction n with
 |zero=>rw[if_neg (by omega)]; rfl
 |succ n ih =>
  rw[RF,List.lookup_append,ih]
  by_cases h:0<=x - off∧x - off < n
  ·rw[if_pos h,if_pos (by omega)]
   cases ha:at' f (x - off).toNat with
   |some s=>rfl
   |none =>
    cases hb:at' f n with
    |none=>rfl
    |some s =>
     have:(x == (off:Int)+n)=false:=beq_eq_false_iff_ne.mpr (by omega)
     simp[List.lookup_cons,this]
  ·rw[if_neg h]
   by_cases h2:x=(off:Int)+n
   ·rw[if_pos (by omega),show (x - off).toNat=n by omega]
    cases hb:at' f n with
    |none=>rfl
    |some s=>simp[List.lookup_cons,h2]
   ·rw[if_neg (by omega)]
    cases hb:at' f n with
    |none=>rfl
    |some s =>
     have:(x == (off:Int)+n)=false:=beq_eq_false_iff_ne.mpr h2
     simp[List.lookup_cons,this]
section
variable (c:CA) {om:List Ob} {hb hm hu hl:Nat} {size:Int} {us:List (Int × Int)}
theorem Tt {C:Addr} {n:Str} {fs:List (Str × Wv)} {w:Wv} {sl:Sl} {fe:FE} {h:Nat} (hv:fe sl om=some (.ok (.o h),om)) (hm:om[h]?=some (.ins C fs)) (hw:fs.lookup n=some w):f1 (Yb C n) fe sl om=some (.ok w,om):=by
 refine (Y8 hv).trans ?_
 simp[Yb,WR,hm,hw]
theorem Pf (h1:om[hb]?=some (XR c hm hu)) (h2:om[hm]?=some (Xm c size hl)) {a:Int} (ha:0<=a∧a < size) {sl:Sl} (s0:sl[0]?=some (some (.o hb))) (s1:sl[1]?=some (some (.int a))):ZP (ZC c.Map "need_place" 2 (Zs c) (f1 (Yb c.Board "chart") (Za 0)) (Zc (Za 1) Zk)) sl om=some (.ok (.nx,sl),om) :=
 ZJ ((Zv (Xo s0 h1 (XN ..)) (Zt h2) (YQ _ _ _ (by decide) (by decide)) (Zd (Zb s1) Zi) rfl).trans (Vr c h2 ha.1 ha.2))
theorem JH (h1:om[hb]?=some (XR c hm hu)) (h2:om[hm]?=some (Xm c size hl)) (h3:om[hu]?=some (.dk (Xq us))) {a s:Int} (ha:0<=a∧a < size) (hs:0<=s∧s<=7) (hn:us.lookup a=none) (hlen:us.length < lim) :
    W6 c [.o hb,.int a,.int s] om=some (.ok .non,om.set hu (.dk (Xq (us++[(a,s)])))):=by
 have n1:=Pf c (sl:=[some (.o hb),some (.int a),some (.int s)]) h1 h2 ha rfl rfl
 have t1:fOr (fB (f2 kLt (Za 2) (fC (.int 0)))) (fB (f2 kGt (Za 2) (fC (.int 7)))) [some (.o hb),some (.int a),some (.int s)] om=some (.ok false,om):=by
  refine (TU (ZW ((Zq (Zb rfl) Zo).trans (show kLt (.int s) (.int 0) om=some (.ok (.bl false),om) by simp[kI,L2.ret]; omega)))).trans ?_
  exact ZW ((Zq (Zb rfl) Zo).trans (by simp[kI,L2.ret]; omega))
 have t2:fB (f2 (US false) (Za 1) (f1 (Yb c.Board "units") (Za 0))) [some (.o hb),some (.int a),some (.int s)] om=some (.ok false,om):=by
  refine ZW ((Zq (Zb rfl) (Xo rfl h1 (VP ..))).trans ?_)
  simp[US,X6,h3,YK,Tq,hn]
 have p:Xa (Za 2) (f1 (Yb c.Board "units") (Za 0)) (Za 1) [some (.o hb),some (.int a),some (.int s)] om=some (.ok (.nx,[some (.o hb),some (.int a),some (.int s)]),om.set hu (.dk (Xq (us++[(a,s)])))):=by
  unfold Xa
  rw[Zr (Zb rfl),Zr (Xo rfl h1 (VP ..)),Zr (Zb rfl)]
  refine (Zr (a:=()) (om1:=om.set hu (.dk (Xq (us++[(a,s)])))) ?_).trans rfl
  simp[U8,T8,h3,YK,Mp,hlen,Jr s hn]
 exact XM ((Zg n1).trans ((Zg (ZL t1)).trans ((Zg (ZL t2)).trans p)))
theorem ND (h1:om[hb]?=some (XR c hm hu)) (h2:om[hm]?=some (Xm c size hl)) (h3:om[hu]?=some (.dk (Xq us))) {a:Int} (ha:0<=a∧a < size):Z4 c [.o hb,.int a] om=some (.ok (Zx (us.lookup a)),om):=by
 have n1:=Pf c (sl:=[some (.o hb),some (.int a)]) h1 h2 ha rfl rfl
 have p:U9 (f1 (Yb c.Board "units") (Za 0)) (Za 1) [some (.o hb),some (.int a)] om=some (.ok (Zx (us.lookup a)),om):=by
  have e:=Xo (sl:=[some (.o hb),some (.int a)]) (i:=0) rfl h1 (VP hm hu)
  cases hq:us.lookup a with
  |none=>simp[U9,bnd,e,Uv,isD,h3,Za,SB,X6,YK,Tq,hq,L2.ret,Zx]
  |some s=>simp[U9,bnd,e,Uv,isD,h3,Za,SB,X6,YK,Tq,hq,L2.ret,Zx]
 exact ZS ((Zg n1).trans (ZD p))
abbrev XC (om:List Ob) (size:Nat) (kvs:List (List Key × Wv)) (us:List (Int × Int)):List Ob:=om++[Xm c size (om.length+1),.dt kvs,XR c om.length (om.length+3),.dk (Xq us)]
theorem Lq {many off size:Nat} {rows:Mx} {f:List (Option Int)} (lk:Lk many rows) (hf:f.length=many) (h1:off+many<=size) (hm:many<=7) (hs:∀k s,at' f k=some s->0<=s∧s<=7) (om:List Ob) :
    ∃kvs,g__law_board c [Zy many off size,.lst (rows.map Z7),.lst (f.map Zx)] om=some (.ok (.o (om.length+2)),XC c om size kvs (Y5 off f many))∧Wu rows off kvs∧kvs.length<=140:=by
 have hlim:=Ye
 obtain ⟨kvs,ec,mo,hk⟩:=Kh c lk h1 hm om
 refine ⟨kvs,?_,mo,hk⟩
 have s1:ZO 3 (fA (Wt c.Board 2 (Xn c)) (Zc (fA (kN 2 (g__law_chart c)) (Zc (Za 0) (Zc (Za 1) Zk))) Zk)) [some (Zy many off size),some (.lst (rows.map Z7)),some (.lst (f.map Zx)),none,none] om=some (.ok (.nx,[some (Zy many off size),some (.lst (rows.map Z7)),some (.lst (f.map Zx)),some (.o (om.length+2)),none]),XC c om size kvs (Y5 off f 0)):=by
  refine ZK (i:=3) (w:=.o (om.length+2)) ((ZG (Zd ((ZG (Zd (Zb rfl) (Zd (Zb rfl) Zi))).trans ((Xe rfl).trans ec)) Zi)).trans ((Pi c _ _).trans ?_))
  rw[List.length_append,List.append_assoc]
  rfl
 obtain ⟨sl',om',hfor,x,rfl,rfl⟩:=Xr (T:=tgN 4) (S:=VH c) (n:=many) (fun k sl om'=>∃x,sl=[some (Zy many off size),some (.lst (rows.map Z7)),some (.lst (f.map Zx)),some (.o (om.length+2)),x]∧om'=XC c om size kvs (Y5 off f k))
  (sl:=[some (Zy many off size),some (.lst (rows.map Z7)),some (.lst (f.map Zx)),some (.o (om.length+2)),none]) (om:=XC c om size kvs (Y5 off f 0)) (fun k hk sl om' ⟨x,e1,e2⟩=>by
   subst e1 e2
   have hk2:k < f.length:=by omega
   have sk:f2 kIx (Za 2) (Za 4) [some (Zy many off size),some (.lst (rows.map Z7)),some (.lst (f.map Zx)),some (.o (om.length+2)),some (.int k)] (XC c om size kvs (Y5 off f k))=_:=(v2 rfl rfl).trans (XT (k:=k) rfl hk2 none)
   have t:fB (f1 Y9 (f2 kIx (Za 2) (Za 4))) [some (Zy many off size),some (.lst (rows.map Z7)),some (.lst (f.map Zx)),some (.o (om.length+2)),some (.int k)] (XC c om size kvs (Y5 off f k))=some (.ok (at' f k).isSome,XC c om size kvs (Y5 off f k)):=ZW ((Y8 sk).trans (XI _ _))
   refine ⟨[some (Zy many off size),some (.lst (rows.map Z7)),some (.lst (f.map Zx)),some (.o (om.length+2)),some (.int k)],.nx,_,XC c om size kvs (Y5 off f (k+1)),rfl,?_,.inl rfl,some (.int k),rfl,rfl⟩
   rw[RF]
   cases hq:at' f k with
   |none =>
    rw[hq]at t
    rw[List.append_nil]
    exact ZL t
   |some s =>
    rw[hq]at t
    rw[show f.getD k none=some s from hq]at sk
    refine (Z6 t).trans (ZJ (w:=.non) ((Zv (Zb rfl) (Zt (fs:=[("chart",.o om.length),("units",.o (om.length+3))]) (by simp)) (Yy _ _ _ (by decide) (by decide)) (Zd ((Zq ((Zq (Zb rfl) Zo).trans (Zw (k:=1) (v:=.int off) rfl rfl)) (Zb rfl)).trans rfl) (Zd sk Zi)) rfl).trans ((JH c (hb:=om.length+2) (hm:=om.length) (hu:=om.length+3) (hl:=om.length+1) (size:=size) (us:=Y5 off f k) (by simp) (by simp) (by simp) ⟨by omega,by omega⟩ (hs k s hq) (by rw[Vq,if_neg (by omega)]) (by have:=Lj off f k; omega)).trans ?_)))
    unfold XC
    rw[List.set_append_right _ _ (by omega),show om.length+3 - om.length=3 by omega]
    rfl) ⟨none,rfl,rfl⟩
 have e4:=Y6 (sl1:=[]) (fi:=fun sl=>bnd ((f2 kIx (Za 0) (fC (.int 0))) sl) ZZ) (sl:=[some (Zy many off size),some (.lst (rows.map Z7)),some (.lst (f.map Zx)),some (.o (om.length+2)),none]) ((Zr ((Zq (Zb rfl) Zo).trans (Zw (k:=0) (v:=.int many) rfl rfl))).trans (Yh _ _ (by omega))) hfor
 exact ZS ((Zg s1).trans ((Zg e4).trans (ZD (Zb rfl))))
end
open PySem L2
section
variable (c:CA) {om:List Ob} {hb hm hu hl:Nat} {size:Int} {us:List (Int × Int)} {kvs:List (List Key × Wv)}
theorem KJ (h1:om[hb]?=some (XR c hm hu)) (h2:om[hm]?=some (Xm c size hl)) {a:Int} (ha:¬ (0<=a∧a < size)) (hs:a.natAbs < 1000000000000):Z4 c [.o hb,.int a] om=some (.error c.NoPlace,om):=by
 have e:ZP (ZC c.Map "need_place" 2 (Zs c) (f1 (Yb c.Board "chart") (Za 0)) (Zc (Za 1) Zk)) [some (.o hb),some (.int a)] om=some (.error c.NoPlace,om):=by
  have:=(Zv (Xo (sl:=[some (.o hb),some (.int a)]) (i:=0) rfl h1 (XN hm hu)) (Zt h2) (YQ "need_place" _ _ (by decide) (by decide)) (Zd (Zb (i:=1) rfl) Zi) rfl).trans (Px c h2 ha hs)
  exact Xc this
 exact YX (Xw e)
theorem QT (h2:om[hm]?=some (Xm c size hl)) {a:Int} (ha:0<=a∧a < size) {sl:Sl} {i j:Nat} (s0:sl[i]?=some (some (.o hm))) (s1:sl[j]?=some (some (.int a))):ZP (ZC c.Map "need_place" 2 (Zs c) (Za i) (Zc (Za j) Zk)) sl om=some (.ok (.nx,sl),om) :=
 ZJ ((Zv (Zb s0) (Zt h2) (YQ _ _ _ (by decide) (by decide)) (Zd (Zb s1) Zi) rfl).trans (Vr c h2 ha.1 ha.2))
theorem Fe {sl:Sl} {i j k:Nat} {x y:Int} (h2:om[hm]?=some (Xm c size hl)) (h3:om[hl]?=some (.dt kvs)) (hi:sl[i]?=some (some (.int x))) (hj:sl[j]?=some (some (.int y))) (hk:sl[k]?=some (some (.o hm))):f2 (US false) (fA Xu (Zc (Za i) (Zc (Za j) Zk))) (f1 (Yb c.Map "links") (Za k)) sl om=some (.ok (.bl (Yl kvs x y)),om):=by
 refine (Zq ((ZG (Zd (Zb hi) (Zd (Zb hj) Zi))).trans (XH (by simp))) (Xo hk h2 (Ty ..))).trans ?_
 simp[US,X6,h3,Wg,YK,Yl,pk]
theorem Rc (h2:om[hm]?=some (Xm c size hl)) (h3:om[hl]?=some (.dt kvs)) {a b:Int} (ha:0<=a∧a < size) (hb:0<=b∧b < size):XZ c [.o hm,.int a,.int b] om=some (.ok (.bl (Yl kvs a b)),om):=by
 have n1:=QT c (sl:=[some (.o hm),some (.int a),some (.int b)]) (i:=0) (j:=1) h2 ha rfl rfl
 have n2:=QT c (sl:=[some (.o hm),some (.int a),some (.int b)]) (i:=0) (j:=2) h2 hb rfl rfl
 exact ZS ((Zg n1).trans ((Zg n2).trans (ZD (Fe c (i:=1) (j:=2) (k:=0) h2 h3 rfl rfl rfl))))
end
end MP
namespace MP
noncomputable section
open PySem L2
def VD (c:CA):FS :=
 (ZB (VI c.Orders "board" (Za 1) (Za 0))
  (VI c.Orders "given" (fun _=>newO (.dk [])) (Za 0)))
def Xd (c:CA):List Wv->Mw Wv:=Yr 2 (VD c)
def TV (c:CA):FS :=
 (ZB (ZP (ZC c.Board "need_unit" 2 (ZQ c) (f1 (Yb c.Orders "board") (Za 0)) (Zc (Za 1) Zk)))
  (Xa (fC (.g c.STAND)) (f1 (Yb c.Orders "given") (Za 0)) (Za 1)))
def YD (c:CA):List Wv->Mw Wv:=Yr 2 (TV c)
def Yc (c:CA):FS :=
 (ZP (ZC c.Map "need_place" 2 (Zs c) (f1 (Yb c.Board "chart") (f1 (Yb c.Orders "board") (Za 0))) (Zc (Za 3) Zk)))
def Yd (c:CA):FS :=
 (ZP (ZC c.Board "need_unit" 2 (ZQ c) (f1 (Yb c.Orders "board") (Za 0)) (Zc (Za 3) Zk)))
def Ua (c:CA):FS :=
 (ZB (Wb (fun sl=>bnd ((Za 1) sl) XX) (tgN 3) (Yc c))
  (Wb (fun sl=>bnd ((Za 2) sl) XX) (tgN 3) (Yd c)))
def ZX (c:CA):List Wv->Mw Wv:=Yr 4 (Ua c)
def Vn (c:CA):FS :=
 (sIf (Wm (XB (ZC c.Map "beside" 3 (XZ c) (f1 (Yb c.Board "chart") (f1 (Yb c.Orders "board") (Za 0))) (Zc (Za 1) (Zc (Za 2) Zk))))) (YL c.OutOfReach (WH (Za 2) (WH (Za 1) WW))) Yq)
def ZA (c:CA):List Wv->Mw Wv:=Yr 3 (Vn c)
def SG (c:CA):FS :=
 (ZB (ZP (ZC c.Orders "need_all" 3 (ZX c) (Za 0) (Zc (fA ZV (Zc (Za 1) (Zc (Za 2) Zk))) (Zc (fA ZV (Zc (Za 1) Zk)) Zk))))
  (ZB (ZP (ZC c.Orders "need_beside" 3 (ZA c) (Za 0) (Zc (Za 1) (Zc (Za 2) Zk))))
  (Xa (fA Xu (Zc (fC (.str "move")) (Zc (Za 2) Zk))) (f1 (Yb c.Orders "given") (Za 0)) (Za 1))))
def YO (c:CA):List Wv->Mw Wv:=Yr 3 (SG c)
def QB (c:CA):FS :=
 (ZB (ZP (ZC c.Orders "need_all" 3 (ZX c) (Za 0) (Zc (fA ZV (Zc (Za 1) (Zc (Za 2) (Zc (Za 3) Zk)))) (Zc (fA ZV (Zc (Za 1) (Zc (Za 2) Zk))) Zk))))
  (ZB (sIf (fB (f2 kEq (Za 2) (Za 1))) (YL c.OutOfReach (WH (Za 1) WW)) Yq)
  (ZB (ZP (ZC c.Orders "need_beside" 3 (ZA c) (Za 0) (Zc (Za 1) (Zc (Za 3) Zk))))
  (ZB (sIf (fB (f2 kNe (Za 3) (Za 2))) (ZP (ZC c.Orders "need_beside" 3 (ZA c) (Za 0) (Zc (Za 2) (Zc (Za 3) Zk)))) Yq)
  (Xa (fA Xu (Zc (fC (.str "help")) (Zc (Za 2) (Zc (Za 3) Zk)))) (f1 (Yb c.Orders "given") (Za 0)) (Za 1))))))
def Y4 (c:CA):List Wv->Mw Wv:=Yr 4 (QB c)
def SN (c:CA):FS :=
 (ZB (ZP (ZC c.Board "need_unit" 2 (ZQ c) (f1 (Yb c.Orders "board") (Za 0)) (Zc (Za 1) Zk)))
  (Yk (TN (f1 (Yb c.Orders "given") (Za 0)) (Za 1) (fC (.g c.STAND)))))
def Xg (c:CA):List Wv->Mw Wv:=Yr 2 (SN c)
def U2 (c:CA):FS :=
 (ZB (ZO 2 (TN (f1 (Yb c.Orders "given") (Za 0)) (Za 1) (fC (.g c.STAND))))
  (ZB (sIf (fB (f2 kEq (f2 (QH c.STAND) (Za 2) (fC (.int 0))) (fC (.str "move")))) (Yk (f2 (QH c.STAND) (Za 2) (fC (.int 1)))) Yq)
  (Yk (fC .non))))
def YE (c:CA):List Wv->Mw Wv:=Yr 3 (U2 c)
def UC (c:CA):FT :=
 (fB (f1 Y9 (ZC c.Orders "goal_of" 2 (YE c) (Za 1) (Zc (Za 0) Zk))))
def UE (c:CA):FE :=
 (Za 0)
def Tj (c:CA):FS :=
 (Yk (fA (X4 ZV) (Zc (UU ZV [0] (f1 (Yb c.Orders "given") (Za 0)) (UC c) (UE c)) Zk)))
def YN (c:CA):List Wv->Mw Wv:=Yr 1 (Tj c)
def Ux (c:CA):FT :=
 (fB (f1 Y9 (ZC c.Orders "goal_of" 2 (YE c) (Za 1) (Zc (Za 0) Zk))))
def Ur (c:CA):FE :=
 (Za 0)
def UN (c:CA):FS :=
 (Yk (fA (X4 YI) (Zc (UU ZV [0] (f1 (Yb c.Orders "given") (Za 0)) (Ux c) (Ur c)) Zk)))
def UI (c:CA):List Wv->Mw Wv:=Yr 1 (UN c)
def Pq (c:CA):FS :=
 (ZB (ZO 4 (f2 kIx (Za 2) (Za 3)))
  (ZB (sIf (fB (f1 VA (Za 4))) PK Yq)
  (sIf (fB (f2 kEq (f2 kIx (Za 4) (fC (.int 0))) (fC (.str "stand")))) (ZP (ZC c.Orders "stand" 2 (YD c) (Za 0) (Zc (f2 YH (Za 1) (Za 3)) Zk))) (sIf (fB (f2 kEq (f2 kIx (Za 4) (fC (.int 0))) (fC (.str "move")))) (ZP (ZC c.Orders "move" 3 (YO c) (Za 0) (Zc (f2 YH (Za 1) (Za 3)) (Zc (f2 YH (Za 1) (f2 kIx (Za 4) (fC (.int 1)))) Zk)))) (ZP (ZC c.Orders "aid" 4 (Y4 c) (Za 0) (Zc (f2 YH (Za 1) (Za 3)) (Zc (f2 YH (Za 1) (f2 kIx (Za 4) (fC (.int 1)))) (Zc (f2 YH (Za 1) (f2 kIx (Za 4) (fC (.int 2)))) Zk)))))))))
def g__law_give (c:CA):List Wv->Mw Wv:=Yr 5 (Pq c)
def VE (c:CA):FS :=
 (ZP (fA (kN 4 (g__law_give c)) (Zc (Za 4) (Zc (f2 kIx (Za 0) (fC (.int 1))) (Zc (Za 3) (Zc (Za 5) Zk))))))
def Qc (c:CA):FS :=
 (ZB (ZO 4 (fA (Wt c.Orders 2 (Xd c)) (Zc (fA (kN 3 (g__law_board c)) (Zc (Za 0) (Zc (Za 1) (Zc (Za 2) Zk)))) Zk)))
  (ZB (Wb (fun sl=>bnd ((f2 kIx (Za 0) (fC (.int 0))) sl) ZZ) (tgN 5) (VE c))
  (Yk (Za 4))))
def g__law_given (c:CA):List Wv->Mw Wv:=Yr 6 (Qc c)
end
open PySem L2
abbrev YG (c:CA) (hb hg:Nat):Ob:=.ins c.Orders [("board",.o hb),("given",.o hg)]
theorem JU (hb hg:Nat):List.lookup (Str.ofString "board") [(Str.ofString "board",Wv.o hb),(Str.ofString "given",Wv.o hg)]=some (.o hb):=by simp[List.lookup_cons,Y3]
theorem Ts (hb hg:Nat):List.lookup (Str.ofString "given") [(Str.ofString "board",Wv.o hb),(Str.ofString "given",Wv.o hg)]=some (.o hg):=by simp[List.lookup_cons,Y3]
theorem ZR (m:String) (hb hg:Nat) (h1:m≠"board") (h2:m≠"given"):List.lookup (Str.ofString m) [(Str.ofString "board",Wv.o hb),(Str.ofString "given",Wv.o hg)]=none:=by simp[List.lookup_cons,Y3,h1,h2]
def odG (c:CA) (off:Nat):Od->Wv
 |.stand=>.g c.STAND
 |.move g=>.tup [.str "move",.int ((off:Int)+g)]
 |.help h g=>.tup [.str "help",.int ((off:Int)+h),.int ((off:Int)+g)]
abbrev Gs:=List (Nat × Od)
def Yt (c:CA) (off:Nat) (gs:Gs):List (Key × Wv):=gs.map fun p=>(.inl ((off:Int)+p.1),odG c off p.2)
def Wz (gs:Gs) (k:Nat) (o:Od):Gs:=if (gs.any fun p=>decide (p.1=k))=true then gs.map (fun p=>if p.1=k then (p.1,o) else p) else gs++[(k,o)]
theorem IK {off a k:Nat} (h:a≠k):(Sum.inl ((off:Int)+a):Key)≠Sum.inl ((off:Int)+k):=fun z=>h (by have:=Sum.inl.inj z; omega)
theorem Lu (off a k:Nat):decide ((Sum.inl ((off:Int)+a):Key)=Sum.inl ((off:Int)+k))=decide (a=k):=by
 by_cases h:a=k
 ·subst h; simp
 ·rw[decide_eq_false h,decide_eq_false (IK h)]
theorem Vt (c:CA) (off:Nat) (gs:Gs) (k:Nat):WT (Yt c off gs) (.inl ((off:Int)+k))=(gs.lookup k).map (odG c off):=by
 induction gs with
 |nil=>rfl
 |cons p gs ih =>
  obtain ⟨j,o⟩:=p
  unfold WT Yt at ih ⊢
  rw[List.map_cons,List.find?_cons,List.lookup_cons]
  dsimp only
  rw[Lu]
  by_cases h:j=k
  ·subst h; simp
  ·rw[decide_eq_false h,beq_eq_false_iff_ne.mpr (Ne.symm h)]
   exact ih
theorem Ju (c:CA) (off:Nat) (gs:Gs) (k:Nat) (o:Od):Wl (Yt c off gs) (.inl ((off:Int)+k)) (odG c off o)=Yt c off (Wz gs k o):=by
 unfold Wl Wz Yt
 have e:((gs.map fun p=>((Sum.inl ((off:Int)+p.1):Key),odG c off p.2)).any fun kv=>decide (kv.1=Sum.inl ((off:Int)+k)))=gs.any fun p=>decide (p.1=k):=by
  rw[List.any_map]
  refine congrArg (List.any gs) (funext fun p=>?_)
  exact Lu off p.1 k
 rw[e]
 by_cases h:(gs.any fun p=>decide (p.1=k))=true
 ·rw[if_pos h,if_pos h,List.map_map,List.map_map]
  refine List.map_congr_left fun p _=>?_
  show (if (Sum.inl ((off:Int)+p.1):Key)=Sum.inl ((off:Int)+k) then (Sum.inl ((off:Int)+p.1),odG c off o) else (Sum.inl ((off:Int)+p.1),odG c off p.2))=((Sum.inl ((off:Int)+(if p.1=k then (p.1,o) else p).1):Key),odG c off (if p.1=k then (p.1,o) else p).2)
  by_cases hp:p.1=k
  ·rw[if_pos (by rw[hp]),if_pos hp]
  ·rw[if_neg (IK hp),if_neg hp]
 ·rw[if_neg h,if_neg h,List.map_append]
  rfl
theorem Ps (gs:Gs) (k:Nat):(gs.any fun p=>decide (p.1=k))=(gs.lookup k).isSome:=by
 induction gs with
 |nil=>rfl
 |cons p gs ih =>
  obtain ⟨j,o⟩:=p
  rw[List.any_cons,List.lookup_cons]
  dsimp only
  by_cases h:j=k
  ·subst h; simp
  ·rw[decide_eq_false h,beq_eq_false_iff_ne.mpr (Ne.symm h),Bool.false_or]
   exact ih
theorem NI (gs:Gs) (k j:Nat) (o:Od):(gs.map fun p=>if p.1=k then (p.1,o) else p).lookup j=if j=k then (gs.lookup j).map (fun _=>o) else gs.lookup j:=by
 induction gs with
 |nil=>simp
 |cons p gs ih =>
  obtain ⟨i,q⟩:=p
  rw[List.map_cons]
  dsimp only
  by_cases h:i=k
  ·rw[if_pos h,List.lookup_cons,List.lookup_cons]
   by_cases hj:j=i
   ·subst hj; subst h; simp
   ·rw[beq_eq_false_iff_ne.mpr hj]
    exact ih
  ·rw[if_neg h,List.lookup_cons,List.lookup_cons]
   by_cases hj:j=i
   ·subst hj; simp[h]
   ·rw[beq_eq_false_iff_ne.mpr hj]
    exact ih
theorem Rl (gs:Gs) (k j:Nat) (o:Od):(Wz gs k o).lookup j=if j=k then some o else gs.lookup j:=by
 unfold Wz
 by_cases h:(gs.any fun p=>decide (p.1=k))=true
 ·rw[if_pos h,NI]
  by_cases hj:j=k
  ·subst hj
   rw[if_pos rfl,if_pos rfl]
   rw[Ps]at h
   obtain ⟨x,hx⟩:=Option.isSome_iff_exists.mp h
   rw[hx]; rfl
  ·rw[if_neg hj,if_neg hj]
 ·rw[if_neg h,List.lookup_append]
  rw[Ps]at h
  by_cases hj:j=k
  ·subst hj
   rw[if_pos rfl,Option.not_isSome_iff_eq_none.mp h]
   simp
  ·rw[if_neg hj,List.lookup_cons,beq_eq_false_iff_ne.mpr hj]
   simp
theorem P7 {gs:Gs} (h:(gs.map (·.1)).Nodup) (k:Nat) (o:Od):((Wz gs k o).map (·.1)).Nodup:=by
 unfold Wz
 by_cases ha:(gs.any fun p=>decide (p.1=k))=true
 ·rw[if_pos ha,List.map_map]
  have e:(gs.map ((·.1) ∘ fun p=>if p.1=k then (p.1,o) else p))=gs.map (·.1):=List.map_congr_left fun p _=>by
   show (if p.1=k then (p.1,o) else p).1=p.1
   by_cases hp:p.1=k
   ·rw[if_pos hp]
   ·rw[if_neg hp]
  rw[e]; exact h
 ·rw[if_neg ha,List.map_append,List.nodup_append]
  refine ⟨h,by simp,fun a ha' b hb z=>ha ?_⟩
  have hb:b=k:=by simpa using hb
  obtain ⟨p,hp,rfl⟩:=List.mem_map.mp ha'
  exact List.any_eq_true.mpr ⟨p,hp,decide_eq_true (z.trans hb)⟩
structure Tell (gs:Gs) (T:Nat->Option Od):Prop where
 nd:(gs.map (·.1)).Nodup
 get:∀k o,T k=some o->(gs.lookup k).getD .stand=o
 key:∀k o,gs.lookup k=some o->T k=some o
theorem Tell.put {gs:Gs} {T:Nat->Option Od} (h:Tell gs T) (k:Nat) (o:Od):Tell (Wz gs k o) (fun j=>if j=k then some o else T j):=by
 refine ⟨P7 h.nd k o,fun j q e=>?_,fun j q e=>?_⟩
 ·rw[Rl]
  by_cases hj:j=k
  ·rw[if_pos hj]at e ⊢; cases e; rfl
  ·rw[if_neg hj]at e ⊢; exact h.get j q e
 ·rw[Rl]at e
  by_cases hj:j=k
  ·rw[if_pos hj]at e; cases e; show (if j=k then some o else T j)=some o; rw[if_pos hj]
  ·rw[if_neg hj]at e; show (if j=k then some o else T j)=some q; rw[if_neg hj]; exact h.key j q e
theorem Tell.start0 {T:Nat->Option Od} (h:∀k o,T k=some o->o=.stand):Tell [] T:=⟨by simp,fun k o e=>(h k o e).symm,fun k o e=>by cases e⟩
theorem Ta {k:Nat} {o:Od}:∀{gs:Gs},gs.lookup k=some o->(k,o)∈gs
 |[],e=>by cases e
 |(j,q)::gs,e=>by
  rw[List.lookup_cons]at e
  cases hb:(k == j) with
  |true=>rw[hb]at e; cases e; rw[eq_of_beq hb]; exact .head _
  |false=>rw[hb]at e; exact .tail _ (Ta e)
theorem Wo {k:Nat} {o:Od}:∀{gs:Gs},(gs.map (·.1)).Nodup->(k,o)∈gs->gs.lookup k=some o
 |[],_,e=>nomatch e
 |(j,q)::gs,nd,e=>by
  rw[List.lookup_cons]
  rw[List.map_cons,List.nodup_cons]at nd
  rcases List.mem_cons.mp e with e|e
  ·cases e; simp
  ·have hne:k≠j:=fun z=>nd.1 (List.mem_map.mpr ⟨(k,o),e,z⟩)
   rw[beq_eq_false_iff_ne.mpr hne]
   exact Wo nd.2 e
structure Wd (c:CA) (om:List Ob) (hb hm hu hl size off:Nat) (f:List (Option Int)) (kvs:List (List Key × Wv)):Prop where
 b:om[hb]?=some (XR c hm hu)
 m:om[hm]?=some (Xm c size hl)
 u:om[hu]?=some (.dk (Xq (Y5 off f f.length)))
 l:om[hl]?=some (.dt kvs)
 fit:off+f.length<=size
 few:size<=60
theorem Wa {α:Type} {l:List (Option α)} {k:Nat} {x:α} (h:at' l k=some x):k < l.length:=by
 by_cases hk:k < l.length
 ·exact hk
 ·rw[W0 hk]at h; cases h
section
variable {c:CA} {om:List Ob} {ho hb hm hu hl hg size off:Nat} {f:List (Option Int)} {kvs:List (List Key × Wv)} {gs:Gs}
theorem Wd.set (W:Wd c om hb hm hu hl size off f kvs) {kv:List (Key × Wv)} {x:Ob} (h:om[hg]?=some (.dk kv)) (hn:hg≠hu):Wd c (om.set hg x) hb hm hu hl size off f kvs:=by
 have nb:hg≠hb:=fun z=>by subst z; rw[W.b]at h; cases h
 have nm:hg≠hm:=fun z=>by subst z; rw[W.m]at h; cases h
 have nl:hg≠hl:=fun z=>by subst z; rw[W.l]at h; cases h
 exact ⟨by rw[List.getElem?_set_ne nb]; exact W.b,by rw[List.getElem?_set_ne nm]; exact W.m,by rw[List.getElem?_set_ne hn]; exact W.u,by rw[List.getElem?_set_ne nl]; exact W.l,W.fit,W.few⟩
theorem Wd.grow (W:Wd c om hb hm hu hl size off f kvs) (l:List Ob):Wd c (om++l) hb hm hu hl size off f kvs:=by
 have g:∀{h:Nat} {x:Ob},om[h]?=some x->(om++l)[h]?=some x:=fun e=>by rw[List.getElem?_append_left (List.getElem?_eq_some_iff.mp e).1]; exact e
 exact ⟨g W.b,g W.m,g W.u,g W.l,W.fit,W.few⟩
theorem Wd.look (W:Wd c om hb hm hu hl size off f kvs) (k:Nat):(Y5 off f f.length).lookup ((off:Int)+k)=at' f k:=by
 rw[Vq]
 by_cases h:k < f.length
 ·rw[if_pos (by omega),show ((off:Int)+k - off).toNat=k by omega]
 ·rw[if_neg (by omega),W0 h]
theorem Wd.inn (W:Wd c om hb hm hu hl size off f kvs) {k:Nat} (h:k < f.length):0<=(off:Int)+k∧(off:Int)+k < (size:Nat):=by
 have:=W.fit; omega
theorem Gv (W:Wd c om hb hm hu hl size off f kvs) {k:Nat} (h:k < f.length):Z4 c [.o hb,.int ((off:Int)+k)] om=some (.ok (Zx (at' f k)),om):=by
 rw[ND c W.b W.m W.u (W.inn h),W.look]
theorem OC (W:Wd c om hb hm hu hl size off f kvs) {k:Nat} {s:Int} (h:at' f k=some s):ZQ c [.o hb,.int ((off:Int)+k)] om=some (.ok .non,om):=by
 have e:fB (f1 VA (ZC c.Board "side_at" 2 (Z4 c) (Za 0) (Zc (Za 1) Zk))) [some (.o hb),some (.int ((off:Int)+k))] om=some (.ok false,om):=by
  refine ZW ((Y8 ((Zv (Zb rfl) (Zt W.b) (Yy _ _ _ (by decide) (by decide)) (Zd (Zb rfl) Zi) rfl).trans (Gv W (Wa h)))).trans ((TY _ _).trans ?_))
  rw[h]; rfl
 exact XM (ZL e)
structure Os (c:CA) (om:List Ob) (ho hb hg off:Nat) (gs:Gs):Prop where
 o:om[ho]?=some (YG c hb hg)
 g:om[hg]?=some (.dk (Yt c off gs))
theorem QW (c:CA) (off:Nat) (gs:Gs):(Yt c off gs).length=gs.length:=by simp[Yt]
theorem Os.set (S:Os c om ho hb hg off gs) {h:Nat} {kv:List (Key × Wv)} {x:Ob} (e:om[h]?=some (.dk kv)) (hn:h≠hg):Os c (om.set h x) ho hb hg off gs:=by
 have nb:h≠ho:=fun z=>by subst z; rw[S.o]at e; cases e
 exact ⟨by rw[List.getElem?_set_ne nb]; exact S.o,by rw[List.getElem?_set_ne hn]; exact S.g⟩
theorem Os.grow (S:Os c om ho hb hg off gs) (l:List Ob):Os c (om++l) ho hb hg off gs:=by
 have g:∀{h:Nat} {x:Ob},om[h]?=some x->(om++l)[h]?=some x:=fun e=>by rw[List.getElem?_append_left (List.getElem?_eq_some_iff.mp e).1]; exact e
 exact ⟨g S.o,g S.g⟩
theorem Le (S:Os c om ho hb hg off gs) {k:Nat} {o:Od} {sl:Sl} {fv:FE} {i j:Nat} (hv:fv sl om=some (.ok (odG c off o),om)) (hi:sl[i]?=some (some (.o ho))) (hj:sl[j]?=some (some (.int ((off:Int)+k)))) (hl:gs.length < 100) :
    Xa fv (f1 (Yb c.Orders "given") (Za i)) (Za j) sl om=some (.ok (.nx,sl),om.set hg (.dk (Yt c off (Wz gs k o)))):=by
 have hlim:=Ye
 unfold Xa
 rw[Zr hv,Zr (Xo hi S.o (Ts ..)),Zr (Zb hj)]
 refine (Zr (a:=()) (om1:=om.set hg (.dk (Yt c off (Wz gs k o)))) ?_).trans rfl
 have h1:(Yt c off gs).length < lim:=by rw[QW]; omega
 simp[U8,T8,S.g,YK,h1,Ju]
theorem WY (S:Os c om ho hb hg off gs) {sl:Sl} {i:Nat} (hi:sl[i]?=some (some (.o ho))):f1 (Yb c.Orders "board") (Za i) sl om=some (.ok (.o hb),om):=Xo hi S.o (JU ..)
theorem Q8 (W:Wd c om hb hm hu hl size off f kvs) (S:Os c om ho hb hg off gs) {k:Nat} {s:Int} (h:at' f k=some s) (hl:gs.length < 100):YD c [.o ho,.int ((off:Int)+k)] om=some (.ok .non,om.set hg (.dk (Yt c off (Wz gs k .stand)))):=by
 have e1:ZP (ZC c.Board "need_unit" 2 (ZQ c) (f1 (Yb c.Orders "board") (Za 0)) (Zc (Za 1) Zk)) [some (.o ho),some (.int ((off:Int)+k))] om=some (.ok (.nx,[some (.o ho),some (.int ((off:Int)+k))]),om) :=
  ZJ ((Zv (WY S rfl) (Zt W.b) (Yy _ _ _ (by decide) (by decide)) (Zd (Zb rfl) Zi) rfl).trans (OC W h))
 exact XM ((Zg e1).trans (Le S (o:=.stand) Zo rfl rfl hl))
theorem Jf (W:Wd c om hb hm hu hl size off f kvs) (S:Os c om ho hb hg off gs) {k:Nat} {s:Int} (h:at' f k=some s):Xg c [.o ho,.int ((off:Int)+k)] om=some (.ok (odG c off ((gs.lookup k).getD .stand)),om):=by
 have e1:ZP (ZC c.Board "need_unit" 2 (ZQ c) (f1 (Yb c.Orders "board") (Za 0)) (Zc (Za 1) Zk)) [some (.o ho),some (.int ((off:Int)+k))] om=some (.ok (.nx,[some (.o ho),some (.int ((off:Int)+k))]),om) :=
  ZJ ((Zv (WY S rfl) (Zt W.b) (Yy _ _ _ (by decide) (by decide)) (Zd (Zb rfl) Zi) rfl).trans (OC W h))
 have e2:TN (f1 (Yb c.Orders "given") (Za 0)) (Za 1) (fC (.g c.STAND)) [some (.o ho),some (.int ((off:Int)+k))] om=some (.ok (odG c off ((gs.lookup k).getD .stand)),om):=by
  unfold TN
  rw[Zr (Xo rfl S.o (Ts ..))]
  refine (Zr (a:=()) (om1:=om) (by simp[Uv,isD,S.g])).trans ?_
  rw[Zr (Zb rfl),Zr Zo]
  cases hq:gs.lookup k with
  |none=>simp[U5,X6,S.g,YK,Vt,hq,odG]
  |some o=>simp[U5,X6,S.g,YK,Vt,hq]
 exact ZS ((Zg e1).trans (ZD e2))
def Ii (off:Nat):Od->Wv
 |.move g=>.int ((off:Int)+g)
 |_=>.non
theorem M6 (ho':om[ho]?=some (YG c hb hg)) (hd:om[hg]?=some (.dk (Yt c off gs))∨om[hg]?=some (.dz (Yt c off gs))) (k:Nat):YE c [.o ho,.int ((off:Int)+k)] om=some (.ok (Ii off ((gs.lookup k).getD .stand)),om):=by
 generalize ho2:(gs.lookup k).getD .stand=o
 have e1:ZO 2 (TN (f1 (Yb c.Orders "given") (Za 0)) (Za 1) (fC (.g c.STAND))) [some (.o ho),some (.int ((off:Int)+k)),none] om=some (.ok (.nx,[some (.o ho),some (.int ((off:Int)+k)),some (odG c off o)]),om):=by
  refine ZK (i:=2) (w:=odG c off o) ?_
  unfold TN
  rw[Zr (Xo rfl ho' (Ts ..))]
  rw[← ho2]
  rcases hd with hd|hd
  ·refine (Zr (a:=()) (om1:=om) (by simp[Uv,isD,hd])).trans ?_
   rw[Zr (Zb rfl),Zr Zo]
   cases hq:gs.lookup k with
   |none=>simp[U5,X6,hd,YK,Vt,hq,odG]
   |some o=>simp[U5,X6,hd,YK,Vt,hq]
  ·refine (Zr (a:=()) (om1:=om) (by simp[Uv,isD,hd])).trans ?_
   rw[Zr (Zb rfl),Zr Zo]
   cases hq:gs.lookup k with
   |none=>simp[U5,X6,hd,YK,Vt,hq,odG]
   |some o=>simp[U5,X6,hd,YK,Vt,hq]
 have e2:fB (f2 kEq (f2 (QH c.STAND) (Za 2) (fC (.int 0))) (fC (.str "move"))) [some (.o ho),some (.int ((off:Int)+k)),some (odG c off o)] om=some (.ok (decide (odN o="move")),om):=by
  refine ZW ((Zq (x:=.str (odN o)) (om1:=om) ((Zq (Zb rfl) Zo).trans ?_) Zo).trans (Qr _ _ (Nq o) V6 _))
  unfold QH
  cases o with
  |stand=>rw[show odG c off .stand=.g c.STAND from rfl,QV]; exact Zw (k:=0) rfl rfl
  |move g=>exact Zw (k:=0) rfl rfl
  |help h g=>exact Zw (k:=0) rfl rfl
 refine ZS (sl1:=[some (.o ho),some (.int ((off:Int)+k)),some (odG c off o)]) ((Zg e1).trans ?_)
 cases o with
 |stand=>exact (Zg (ZL e2)).trans (ZD Zo)
 |help h g=>exact (Zg (ZL e2)).trans (ZD Zo)
 |move g=>exact YC ((Z6 e2).trans (ZD ((Zq (Zb rfl) Zo).trans (Zw (k:=1) rfl rfl))))
end
open PySem L2
theorem Vj {S:FS} {i:Nat} {om:List Ob} {sl:Sl} (hi:i < sl.length):∀{l:List Wv} (x:Option Wv),(∀w∈l,S (sl.set i (some w)) om=some (.ok (.nx,sl.set i (some w)),om))->∃y,Va (tgN i) S l (sl.set i x) om=some (.ok (.nx,sl.set i y),om)
 |[],x,_=>⟨x,rfl⟩
 |w::l,x,h=>by
  obtain ⟨y,e⟩:=Vj hi (l:=l) (some w) fun u hu=>h u (.tail _ hu)
  refine ⟨y,?_⟩
  show (match tgN i w (sl.set i x) with|none=>XA|some sl1=>bnd (S sl1) (Um fun sl2=>Va (tgN i) S l sl2)) om=_
  have e1:tgN i w (sl.set i x)=some (sl.set i (some w)):=by unfold tgN; rw[List.set_set]
  rw[e1]
  dsimp only
  rw[Zr (h w (.head _))]
  exact e
section
variable {c:CA} {om:List Ob} {ho hb hm hu hl hg size off:Nat} {f:List (Option Int)} {kvs:List (List Key × Wv)} {gs:Gs}
theorem Te (W:Wd c om hb hm hu hl size off f kvs) (S:Os c om ho hb hg off gs) (ps us:List Nat) (hp:∀k∈ps,k < f.length) (hus:∀k∈us,(at' f k).isSome=true) :
    ZX c [.o ho,.lst (ps.map fun (k:Nat)=>.int ((off:Int)+k)),.lst (us.map fun (k:Nat)=>.int ((off:Int)+k))] om=some (.ok .non,om):=by
 generalize hA:Wv.lst (ps.map fun (k:Nat)=>.int ((off:Int)+k))=A
 generalize hB:Wv.lst (us.map fun (k:Nat)=>.int ((off:Int)+k))=B
 obtain ⟨y,e1⟩:=Vj (S:=Yc c) (i:=3) (om:=om) (sl:=[some (.o ho),some A,some B,none]) (by simp) (l:=ps.map fun (k:Nat)=>.int ((off:Int)+k)) none (fun w hw=>by
  obtain ⟨k,hk,rfl⟩:=List.mem_map.mp hw
  have hk:=W.inn (hp k hk)
  exact ZJ ((Zv (Tt (WY S rfl) W.b (XN ..)) (Zt W.m) (YQ _ _ _ (by decide) (by decide)) (Zd (Zb rfl) Zi) rfl).trans (Vr c W.m hk.1 hk.2)))
 obtain ⟨z,e2⟩:=Vj (S:=Yd c) (i:=3) (om:=om) (sl:=[some (.o ho),some A,some B,y]) (by simp) (l:=us.map fun (k:Nat)=>.int ((off:Int)+k)) y (fun w hw=>by
  obtain ⟨k,hk,rfl⟩:=List.mem_map.mp hw
  obtain ⟨s,hs⟩:=Option.isSome_iff_exists.mp (hus k hk)
  exact ZJ ((Zv (WY S rfl) (Zt W.b) (Yy _ _ _ (by decide) (by decide)) (Zd (Zb rfl) Zi) rfl).trans (OC W hs)))
 have f1:Wb (fun sl=>bnd ((Za 1) sl) XX) (tgN 3) (Yc c) [some (.o ho),some A,some B,none] om=_:=Y6 (sl1:=[]) ((Zr (Zb rfl)).trans (by rw[← hA]; rfl)) e1
 have f2:Wb (fun sl=>bnd ((Za 2) sl) XX) (tgN 3) (Yd c) [some (.o ho),some A,some B,y] om=_:=Y6 (sl1:=[]) ((Zr (Zb rfl)).trans (by rw[← hB]; rfl)) e2
 exact XM ((Zg f1).trans f2)
theorem Wh (W:Wd c om hb hm hu hl size off f kvs) (S:Os c om ho hb hg off gs) {a b:Nat} (ha:a < f.length) (hbb:b < f.length) (hk:Yl kvs ((off:Int)+a) ((off:Int)+b)=true):ZA c [.o ho,.int ((off:Int)+a),.int ((off:Int)+b)] om=some (.ok .non,om):=by
 refine XM (ZL (X3 (b:=true) (X2 ((Zv (Tt (WY S rfl) W.b (XN ..)) (Zt W.m) (YQ _ _ _ (by decide) (by decide)) (Zd (Zb rfl) (Zd (Zb rfl) Zi)) rfl).trans ((Rc c W.m W.l (W.inn ha) (W.inn hbb)).trans ?_)))))
 rw[hk]
theorem Ys {ws:List Wv} {om:List Ob} (h:ws.length<=8):ZV ws om=some (.ok (.lst ws),om):=by
 have:=Ye
 unfold ZV
 rw[if_pos (by omega)]
 rfl
theorem Nd (W:Wd c om hb hm hu hl size off f kvs) (S:Os c om ho hb hg off gs) {k g:Nat} {s:Int} (h:at' f k=some s) (hgl:g < f.length) (hk:Yl kvs ((off:Int)+k) ((off:Int)+g)=true) (hlen:gs.length < 100) :
    YO c [.o ho,.int ((off:Int)+k),.int ((off:Int)+g)] om=some (.ok .non,om.set hg (.dk (Yt c off (Wz gs k (.move g))))):=by
 have e1:ZP (ZC c.Orders "need_all" 3 (ZX c) (Za 0) (Zc (fA ZV (Zc (Za 1) (Zc (Za 2) Zk))) (Zc (fA ZV (Zc (Za 1) Zk)) Zk))) [some (.o ho),some (.int ((off:Int)+k)),some (.int ((off:Int)+g))] om=some (.ok (.nx,[some (.o ho),some (.int ((off:Int)+k)),some (.int ((off:Int)+g))]),om) :=
  ZJ ((Zv (Zb rfl) (Zt S.o) (ZR _ _ _ (by decide) (by decide)) (Zd ((ZG (Zd (Zb rfl) (Zd (Zb rfl) Zi))).trans (Ys (by simp))) (Zd ((ZG (Zd (Zb rfl) Zi)).trans (Ys (by simp))) Zi)) rfl).trans
   (Te W S [k,g] [k] (by intro j hj; simp at hj; rcases hj with rfl|rfl; exact Wa h; exact hgl) (by intro j hj; simp at hj; subst hj; rw[h]; rfl)))
 have e2:ZP (ZC c.Orders "need_beside" 3 (ZA c) (Za 0) (Zc (Za 1) (Zc (Za 2) Zk))) [some (.o ho),some (.int ((off:Int)+k)),some (.int ((off:Int)+g))] om=some (.ok (.nx,[some (.o ho),some (.int ((off:Int)+k)),some (.int ((off:Int)+g))]),om) :=
  ZJ ((Zv (Zb rfl) (Zt S.o) (ZR _ _ _ (by decide) (by decide)) (Zd (Zb rfl) (Zd (Zb rfl) Zi)) rfl).trans (Wh W S (Wa h) hgl hk))
 exact XM ((Zg e1).trans ((Zg e2).trans (Le S (o:=.move g) ((ZG (Zd Zo (Zd (Zb rfl) Zi))).trans (XH (by simp))) rfl rfl hlen)))
theorem L3 (W:Wd c om hb hm hu hl size off f kvs) (S:Os c om ho hb hg off gs) {k h g:Nat} {s t:Int} (hs:at' f k=some s) (ht:at' f h=some t) (hgl:g < f.length) (hne:h≠k) (hk:Yl kvs ((off:Int)+k) ((off:Int)+g)=true) (hh:h=g∨Yl kvs ((off:Int)+h) ((off:Int)+g)=true) (hlen:gs.length < 100) :
    Y4 c [.o ho,.int ((off:Int)+k),.int ((off:Int)+h),.int ((off:Int)+g)] om=some (.ok .non,om.set hg (.dk (Yt c off (Wz gs k (.help h g))))):=by
 generalize hsl:([some (.o ho),some (.int ((off:Int)+k)),some (.int ((off:Int)+h)),some (.int ((off:Int)+g))]:Sl)=sl
 have s0:sl[0]?=some (some (.o ho)):=by rw[← hsl]; rfl
 have s1:sl[1]?=some (some (.int ((off:Int)+k))):=by rw[← hsl]; rfl
 have s2:sl[2]?=some (some (.int ((off:Int)+h))):=by rw[← hsl]; rfl
 have s3:sl[3]?=some (some (.int ((off:Int)+g))):=by rw[← hsl]; rfl
 have e1:ZP (ZC c.Orders "need_all" 3 (ZX c) (Za 0) (Zc (fA ZV (Zc (Za 1) (Zc (Za 2) (Zc (Za 3) Zk)))) (Zc (fA ZV (Zc (Za 1) (Zc (Za 2) Zk))) Zk))) sl om=some (.ok (.nx,sl),om) :=
  ZJ ((Zv (Zb s0) (Zt S.o) (ZR _ _ _ (by decide) (by decide)) (Zd ((ZG (Zd (Zb s1) (Zd (Zb s2) (Zd (Zb s3) Zi)))).trans (Ys (by simp))) (Zd ((ZG (Zd (Zb s1) (Zd (Zb s2) Zi))).trans (Ys (by simp))) Zi)) rfl).trans
   (Te W S [k,h,g] [k,h] (by intro j hj; simp at hj; rcases hj with rfl|rfl|rfl; exact Wa hs; exact Wa ht; exact hgl) (by intro j hj; simp at hj; rcases hj with rfl|rfl; rw[hs]; rfl; rw[ht]; rfl)))
 have e2:fB (f2 kEq (Za 2) (Za 1)) sl om=some (.ok false,om):=ZW ((v2 s2 s1).trans ((YS _ _ _).trans (by rw[decide_eq_false (by omega)])))
 have e3:ZP (ZC c.Orders "need_beside" 3 (ZA c) (Za 0) (Zc (Za 1) (Zc (Za 3) Zk))) sl om=some (.ok (.nx,sl),om) :=
  ZJ ((Zv (Zb s0) (Zt S.o) (ZR _ _ _ (by decide) (by decide)) (Zd (Zb s1) (Zd (Zb s3) Zi)) rfl).trans (Wh W S (Wa hs) hgl hk))
 have e4:sIf (fB (f2 kNe (Za 3) (Za 2))) (ZP (ZC c.Orders "need_beside" 3 (ZA c) (Za 0) (Zc (Za 2) (Zc (Za 3) Zk)))) Yq sl om=some (.ok (.nx,sl),om):=by
  have t:fB (f2 kNe (Za 3) (Za 2)) sl om=some (.ok (!decide ((off:Int)+g=(off:Int)+h)),om):=ZW ((v2 s3 s2).trans (UP _ _ _))
  by_cases hq:h=g
  ·rw[decide_eq_true (by omega)]at t
   exact ZL t
  ·rw[decide_eq_false (by omega)]at t
   refine (Z6 t).trans (ZJ ((Zv (Zb s0) (Zt S.o) (ZR _ _ _ (by decide) (by decide)) (Zd (Zb s2) (Zd (Zb s3) Zi)) rfl).trans (Wh W S (Wa ht) hgl (hh.resolve_left hq))))
 refine XM (sl1:=sl) ?_
 show _=_
 have st:XV 4 [.o ho,.int ((off:Int)+k),.int ((off:Int)+h),.int ((off:Int)+g)]=sl:=by rw[← hsl]; rfl
 rw[st]
 exact (Zg e1).trans ((Zg (ZL e2)).trans ((Zg e3).trans ((Zg e4).trans (Le S (o:=.help h g) ((ZG (Zd Zo (Zd (Zb s2) (Zd (Zb s3) Zi)))).trans (XH (by simp))) s0 s1 hlen))))
def mvG (gs:Gs) (k:Nat):Bool:=WG (some ((gs.lookup k).getD .stand))
theorem Uh:∀{l m:List Int},l.Pairwise (· < ·)->m.Pairwise (· < ·)->(∀p,p∈l ↔ p∈m)->l=m
 |[],[],_,_,_=>rfl
 |[],y::m,_,_,h=>absurd ((h y).mpr (.head _)) (by simp)
 |x::l,[],_,_,h=>absurd ((h x).mp (.head _)) (by simp)
 |x::l,y::m,h1,h2,h=>by
  have h1':=List.pairwise_cons.mp h1
  have h2':=List.pairwise_cons.mp h2
  have e:x=y:=by
   rcases List.mem_cons.mp ((h x).mp (.head _)) with hx|hx
   ·exact hx
   ·rcases List.mem_cons.mp ((h y).mpr (.head _)) with hy|hy
    ·exact hy.symm
    ·have a:=h1'.1 y hy
     have b:=h2'.1 x hx
     omega
  subst e
  rw[Uh h1'.2 h2'.2 fun p=>⟨fun hp=>?_,fun hp=>?_⟩]
  ·rcases List.mem_cons.mp ((h p).mp (.tail _ hp)) with z|z
   ·have:=h1'.1 p hp; omega
   ·exact z
  ·rcases List.mem_cons.mp ((h p).mpr (.tail _ hp)) with z|z
   ·have:=h2'.1 p hp; omega
   ·exact z
theorem R0 {l:List Int} (nd:l.Nodup):(W8 l).Pairwise (· < ·):=by
 have hn:(W8 l).Nodup:=(X7 l).nodup_iff.mpr nd
 exact ((UL l).and hn).imp fun {x y} h=>by
  have:=h.1
  have:=h.2
  omega
def Xp (off:Nat) (T:Nat->Option Od) (n:Nat):List Int:=((List.range n).filter fun k=>WG (T k)).map fun (k:Nat)=>(off:Int)+k
theorem TC (off:Nat) (T:Nat->Option Od) (n:Nat):(Xp off T n).Pairwise (· < ·):=by
 unfold Xp
 refine List.pairwise_map.mpr ((List.Pairwise.filter _ List.pairwise_lt_range).imp fun {a b} h=>?_)
 show (off:Int)+a < off+b
 omega
theorem PZ {gs:Gs} {T:Nat->Option Od} (h:Tell gs T) (off n:Nat) (hn:∀k o,T k=some o->k < n):W8 ((gs.filter fun p=>WG (some p.2)).map fun p=>(off:Int)+p.1)=Xp off T n:=by
 refine Uh (R0 ?_) (TC off T n) fun p=>?_
 ·have nd:((gs.filter fun p=>WG (some p.2)).map (·.1)).Nodup:=h.nd.sublist (List.Sublist.map _ (List.filter_sublist ..))
  refine List.pairwise_map.mpr ((List.pairwise_map.mp nd).imp fun {a b} hab z=>hab ?_)
  have z:(off:Int)+a.1=off+b.1:=z
  omega
 ·rw[(X7 _).mem_iff]
  unfold Xp
  constructor
  ·intro hp
   obtain ⟨q,hq,rfl⟩:=List.mem_map.mp hp
   obtain ⟨hq1,hq2⟩:=List.mem_filter.mp hq
   have hk:=h.key q.1 q.2 (Wo h.nd hq1)
   exact List.mem_map.mpr ⟨q.1,List.mem_filter.mpr ⟨List.mem_range.mpr (hn _ _ hk),by rw[hk]; exact hq2⟩,rfl⟩
  ·intro hp
   obtain ⟨k,hk,rfl⟩:=List.mem_map.mp hp
   obtain ⟨_,hk2⟩:=List.mem_filter.mp hk
   match hT:T k with
   |none=>rw[hT]at hk2; cases hk2
   |some o =>
    rw[hT]at hk2
    have hg:=h.get k o hT
    cases hl:gs.lookup k with
    |none =>
     rw[hl]at hg
     have hg:Od.stand=o:=hg
     subst hg
     cases hk2
    |some q =>
     rw[hl]at hg
     have hg:q=o:=hg
     subst hg
     exact List.mem_map.mpr ⟨(k,q),List.mem_filter.mpr ⟨Ta hl,hk2⟩,rfl⟩
theorem TB:∀ns:List Int,WZ (ns.map Wv.int)=some ns
 |[]=>rfl
 |n::r=>by
  show (match WZ (r.map Wv.int) with|some is=>some (n::is)|none=>none)=_
  rw[TB r]
theorem Kr (off:Nat) (o:Od) (om:List Ob):Y9 (Ii off o) om=some (.ok (.bl (WG (some o))),om):=by
 cases o <;> rfl
theorem O0 (c:CA) (off:Nat) (gs:Gs):((Yt c off gs).map fun p=>SD p.1)=(gs.map fun p=>(off:Int)+p.1).map Wv.int:=by
 unfold Yt
 rw[List.map_map,List.map_map]
 rfl
theorem Td {k:List Wv->Mw Wv} {cT:FT} {fE:FE} (hcT:∀om' (w:Wv),∀j:Nat,w=.int ((off:Int)+j)->om'[ho]?=some (YG c hb hg)->om'[hg]?=some (.dz (Yt c off gs))->cT [some w,some (.o ho)] om'=some (.ok (mvG gs j),om')) (hfE:∀w om',fE [some w,some (.o ho)] om'=some (.ok w,om')) (S:Os c om ho hb hg off gs) (nd:(gs.map (·.1)).Nodup) (hlen:gs.length < 100) :
    UU k [0] (f1 (Yb c.Orders "given") (Za 0)) cT fE [some (.o ho)] om=k (((gs.filter fun p=>WG (some p.2)).map fun p=>(off:Int)+p.1).map Wv.int) om:=by
 have hlim:=Ye
 have nb:hg≠ho:=fun z=>by have h:=S.g; subst z; rw[S.o]at h; cases h
 have hlt:hg < om.length:=(List.getElem?_eq_some_iff.mp S.g).1
 have a1:(om.set hg (.dz (Yt c off gs)))[ho]?=some (YG c hb hg):=by rw[List.getElem?_set_ne nb]; exact S.o
 have a2:(om.set hg (.dz (Yt c off gs)))[hg]?=some (.dz (Yt c off gs)):=by rw[List.getElem?_set_self hlt]
 unfold UU
 rw[Zr (Xo rfl S.o (Ts ..))]
 refine (Zr (a:=(true,hg,(Yt c off gs).map fun p=>SD p.1)) (om1:=om.set hg (.dz (Yt c off gs))) ?_).trans ?_
 ·have h1:(Yt c off gs).length<=lim:=by rw[QW]; omega
  simp[JO,S.g,h1]
 dsimp only
 have pj:∀j:Nat,((off:Int)+j - off).toNat=j:=fun j=>by omega
 have e:=VQ (c:=cT) (f:=fE) (mk:=fun w=>Xb [0] w [some (.o ho)]) (om:=om.set hg (.dz (Yt c off gs))) (fun w=>match w with|.int i=>mvG gs (i - off).toNat|_=>false) (fun w=>w) (l:=(Yt c off gs).map fun p=>SD p.1)
  (fun w hw=>by
   rw[O0]at hw
   obtain ⟨i,hi,rfl⟩:=List.mem_map.mp hw
   obtain ⟨p,hp,rfl⟩:=List.mem_map.mp hi
   show cT [some (.int ((off:Int)+p.1)),some (.o ho)] _=some (.ok (mvG gs ((off:Int)+p.1 - off).toNat),_)
   rw[pj]
   exact hcT _ _ p.1 rfl a1 a2) (fun w hw _=>hfE w _)
 rw[Zr e]
 refine (Zr (a:=()) (om1:=om) ?_).trans ?_
 ·have:(om.set hg (.dz (Yt c off gs))).set hg (.dk (Yt c off gs))=om:=by
   rw[List.set_set]
   exact List.ext_getElem? fun i=>by
    by_cases h:hg=i
    ·subst h; rw[List.getElem?_set_self hlt,S.g]
    ·rw[List.getElem?_set_ne h]
  simp only[Js,a2,this,if_true]
 ·refine congrArg (fun l=>k l om) ?_
  rw[List.map_id',O0,List.map_map]
  clear e a1 a2 hlt nb
  have key:∀l:Gs,(∀p∈l,gs.lookup p.1=some p.2)->(l.map (Wv.int ∘ fun p=>(off:Int)+p.1)).filter (fun w=>match w with|.int i=>mvG gs (i - off).toNat|_=>false)=((l.filter fun p=>WG (some p.2)).map fun p=>(off:Int)+p.1).map Wv.int:=by
   intro l
   induction l with
   |nil=>intro _; rfl
   |cons p l ih =>
    intro hp
    have h1:=hp p (.head _)
    have e1:mvG gs ((off:Int)+p.1 - off).toNat=WG (some p.2):=by
     rw[pj]
     unfold mvG
     rw[h1]
     rfl
    rw[List.map_cons,List.filter_cons,List.filter_cons]
    show (if mvG gs ((off:Int)+p.1 - off).toNat=true then _ else _)=_
    rw[e1,ih fun q hq=>hp q (.tail _ hq)]
    cases WG (some p.2) <;> rfl
  exact key gs fun p hp=>Wo nd hp
theorem Ms {T:Nat->Option Od} {n:Nat} (S:Os c om ho hb hg off gs) (t:Tell gs T) (hn:∀k o,T k=some o->k < n) (hlen:gs.length<=60):YN c [.o ho] om=some (.ok (.lst ((Xp off T n).map Wv.int)),om)∧UI c [.o ho] om=some (.ok (.o om.length),om++[.lst ((Xp off T n).map Wv.int)]):=by
 have hlim:=Ye
 have hE:∀(w:Wv) (om':List Ob),(Za 0) [some w,some (.o ho)] om'=some (.ok w,om'):=fun w om'=>Zb rfl
 have hT:∀(om':List Ob) (w:Wv),∀j:Nat,w=.int ((off:Int)+j)->om'[ho]?=some (YG c hb hg)->om'[hg]?=some (.dz (Yt c off gs))->(fB (f1 Y9 (ZC c.Orders "goal_of" 2 (YE c) (Za 1) (Zc (Za 0) Zk)))) [some w,some (.o ho)] om'=some (.ok (mvG gs j),om'):=fun om' w j hw h1 h2=>by
  subst hw
  exact ZW ((Y8 ((Zv (Zb rfl) (Zt h1) (ZR _ _ _ (by decide) (by decide)) (Zd (Zb rfl) Zi) rfl).trans (M6 h1 (.inr h2) j))).trans (Kr _ _ _))
 generalize hL:((gs.filter fun p=>WG (some p.2)).map fun p=>(off:Int)+p.1)=L
 have hLl:L.length<=gs.length:=by rw[← hL,List.length_map]; exact List.length_filter_le _ _
 have es:W8 L=Xp off T n:=by rw[← hL]; exact PZ t off n hn
 have hml:((Xp off T n).map Wv.int).length<=gs.length:=by rw[List.length_map,← es,(X7 L).length_eq]; exact hLl
 have srt:∀k:List Wv->Mw Wv,X4 k [.lst (L.map Wv.int)] om=k ((Xp off T n).map Wv.int) om:=fun k=>by
  show (match WZ (L.map Wv.int) with|some ns=>if ns.length < 64 then k ((W8 ns).map Wv.int) om else none|none=>none)=_
  rw[TB]
  show (if L.length < 64 then k ((W8 L).map Wv.int) om else none)=_
  rw[if_pos (by omega),es]
 have lay:ZV (L.map Wv.int) om=some (.ok (.lst (L.map Wv.int)),om):=by
  unfold ZV
  rw[if_pos (by rw[List.length_map]; omega)]
  rfl
 refine ⟨ZS (ZD ((ZG (Zd ((Td hT hE S t.nd (by omega)).trans (by rw[hL]; exact lay)) Zi)).trans ((srt ZV).trans ?_))),ZS (ZD ((ZG (Zd ((Td hT hE S t.nd (by omega)).trans (by rw[hL]; exact lay)) Zi)).trans ((srt YI).trans ?_)))⟩
 ·unfold ZV
  rw[if_pos (by omega)]
  rfl
 ·unfold YI
  rw[if_pos (by omega)]
  rfl
end
open PySem L2
theorem LN:∀(n:Nat) (l:List Nat),l.Nodup->(∀x∈l,x < n)->l.length<=n
 |0,[],_,_=>Nat.le_refl _
 |0,x::_,_,h=>absurd (h x (.head _)) (by omega)
 |n+1,l,nd,h=>by
  have h1:=LN n (l.erase n) (nd.erase n) fun x hx=>by
   have q:=(List.Nodup.mem_erase_iff nd).mp hx
   have:=h x q.2
   have:=q.1
   omega
  have h2:l.length<=(l.erase n).length+1:=by rw[List.length_erase]; split <;> omega
  omega
theorem Tell.len {gs:Gs} {T:Nat->Option Od} {n:Nat} (h:Tell gs T) (hn:∀k o,T k=some o->k < n):gs.length<=n:=by
 rw[← List.length_map (f:=(·.1))]
 refine LN n _ h.nd fun x hx=>?_
 obtain ⟨p,hp,rfl⟩:=List.mem_map.mp hx
 exact hn _ _ (h.key p.1 p.2 (Wo h.nd hp))
theorem Pg {om:List Ob} {i:Nat} {x:Ob} (h:om[i]?=some x):om.set i x=om:=List.ext_getElem? fun j=>by
 by_cases e:i=j
 ·subst e; rw[List.getElem?_set_self (List.getElem?_eq_some_iff.mp h).1,h]
 ·rw[List.getElem?_set_ne e]
section
variable {c:CA} {om:List Ob} {ho hb hm hu hl hg size off:Nat} {f:List (Option Int)} {kvs:List (List Key × Wv)} {gs:Gs} {rows:Mx}
theorem Os.at (S:Os c om ho hb hg off gs) (gs':Gs):Os c (om.set hg (.dk (Yt c off gs'))) ho hb hg off gs':=by
 have nb:hg≠ho:=fun z=>by have h:=S.g; subst z; rw[S.o]at h; cases h
 exact ⟨by rw[List.getElem?_set_ne nb]; exact S.o,by rw[List.getElem?_set_self (List.getElem?_eq_some_iff.mp S.g).1]⟩
def gvn (gs:Gs) (k:Nat):Option Od->Gs
 |none=>gs
 |some o=>Wz gs k o
theorem LL (o:Od) (om:List Ob):Wn false (.str (odN o)) (.str "stand") om=some (.ok (.bl (decide (odN o="stand"))),om):=Qr _ _ (Nq o) TF _
theorem K7 {tw:Wv} {told:List (Option Od)} (W:Wd c om hb hm hu hl size off f kvs) (S:Os c om ho hb hg off gs) (mo:Wu rows off kvs) (G:Givn rows f told) (ht:YB om tw=some (told.map odW)) {k:Nat} (hk:k < f.length) (hlen:gs.length < 100) :
    g__law_give c [.o ho,.int off,tw,.int k] om=some (.ok .non,om.set hg (.dk (Yt c off (gvn gs k (at' told k))))):=by
 have hkt:k < told.length:=by rw[G.len]; exact hk
 have ok:=G.ok k hk
 have e0:∀{o:Option Od},at' told k=o->ZO 4 (f2 kIx (Za 2) (Za 3)) [some (.o ho),some (.int off),some tw,some (.int k),none] om=some (.ok (.nx,[some (.o ho),some (.int off),some tw,some (.int k),some (odW o)]),om):=fun {o} ho=>by
  have e:=XT (k:=k) ht hkt none
  rw[show told.getD k none=o from ho]at e
  exact ZK (i:=4) ((v2 rfl rfl).trans e)
 have hl2:∀{i j:Nat},YR rows i j=true->Yl kvs ((off:Int)+i) ((off:Int)+j)=true:=fun {i j} h=>(mo _ _).mpr ⟨i,j,rfl,rfl,h⟩
 match ho2:at' told k,ok with
 |none,ok =>
  have t:fB (f1 VA (Za 4)) [some (.o ho),some (.int off),some tw,some (.int k),some (odW none)] om=some (.ok true,om):=ZW ((Y8 (Zb rfl)).trans rfl)
  rw[show gvn gs k none=gs from rfl,Pg S.g]
  exact ZS ((Zg (e0 ho2)).trans (YC ((Z6 t).trans rfl)))
 |some o,ok =>
  have t:fB (f1 VA (Za 4)) [some (.o ho),some (.int off),some tw,some (.int k),some (odW (some o))] om=some (.ok false,om):=ZW ((Y8 (Zb rfl)).trans (Hs _ _))
  have t1:fB (f2 kEq (f2 kIx (Za 4) (fC (.int 0))) (fC (.str "stand"))) [some (.o ho),some (.int off),some tw,some (.int k),some (odW (some o))] om=some (.ok (decide (odN o="stand")),om):=ZW ((Zq ((Zq (Zb rfl) Zo).trans (FL o _)) Zo).trans (LL _ _))
  have t2:fB (f2 kEq (f2 kIx (Za 4) (fC (.int 0))) (fC (.str "move"))) [some (.o ho),some (.int off),some tw,some (.int k),some (odW (some o))] om=some (.ok (decide (odN o="move")),om):=ZW ((Zq ((Zq (Zb rfl) Zo).trans (FL o _)) Zo).trans (Qr _ _ (Nq o) V6 _))
  have ak:f2 YH (Za 1) (Za 3) [some (.o ho),some (.int off),some tw,some (.int k),some (odW (some o))] om=some (.ok (.int ((off:Int)+k)),om):=(v2 rfl rfl).trans rfl
  refine XM (sl1:=[some (.o ho),some (.int off),some tw,some (.int k),some (odW (some o))]) ((Zg (e0 ho2)).trans ((Zg (ZL t)).trans ?_))
  match o,ok with
  |.stand,ok =>
   obtain ⟨s,hs⟩:=Option.isSome_iff_exists.mp ok
   exact (Z6 t1).trans (ZJ ((Zv (Zb rfl) (Zt S.o) (ZR _ _ _ (by decide) (by decide)) (Zd ak Zi) rfl).trans (Q8 W S hs hlen)))
  |.move g,ok =>
   obtain ⟨s,hs⟩:=Option.isSome_iff_exists.mp ok.1
   have ag:f2 YH (Za 1) (f2 kIx (Za 4) (fC (.int 1))) [some (.o ho),some (.int off),some tw,some (.int k),some (odW (some (.move g)))] om=some (.ok (.int ((off:Int)+g)),om):=(Zq (Zb rfl) ((Zq (Zb rfl) Zo).trans (EL g _))).trans rfl
   exact (WS t1).trans ((Z6 t2).trans (ZJ ((Zv (Zb rfl) (Zt S.o) (ZR _ _ _ (by decide) (by decide)) (Zd ak (Zd ag Zi)) rfl).trans (Nd W S hs ok.2.1 (hl2 ok.2.2) hlen))))
  |.help h g,ok =>
   obtain ⟨s,hs⟩:=Option.isSome_iff_exists.mp ok.1
   obtain ⟨_,hh,hgl,hne,hsome,l1,l2⟩:=ok
   obtain ⟨s2,hs2⟩:=Option.isSome_iff_exists.mp hsome
   have ah:f2 YH (Za 1) (f2 kIx (Za 4) (fC (.int 1))) [some (.o ho),some (.int off),some tw,some (.int k),some (odW (some (.help h g)))] om=some (.ok (.int ((off:Int)+h)),om):=(Zq (Zb rfl) ((Zq (Zb rfl) Zo).trans (ES h g _))).trans rfl
   have ag:f2 YH (Za 1) (f2 kIx (Za 4) (fC (.int 2))) [some (.o ho),some (.int off),some tw,some (.int k),some (odW (some (.help h g)))] om=some (.ok (.int ((off:Int)+g)),om):=(Zq (Zb rfl) ((Zq (Zb rfl) Zo).trans (EM h g _))).trans rfl
   exact (WS t1).trans ((WS t2).trans (ZJ ((Zv (Zb rfl) (Zt S.o) (ZR _ _ _ (by decide) (by decide)) (Zd ak (Zd ah (Zd ag Zi))) rfl).trans (L3 W S hs hs2 hgl hne (hl2 l1) (l2.imp id hl2) hlen))))
def VM (told:List (Option Od)) (T:Nat->Option Od) (k j:Nat):Option Od:=if j < k then at' told j else T j
theorem N9 (told:List (Option Od)) (T:Nat->Option Od):VM told T 0=T:=by funext j; unfold VM; rw[if_neg (by omega)]
theorem NM (told:List (Option Od)) (T:Nat->Option Od) (k:Nat):VM told T (k+1)=fun j=>if j=k then at' told k else VM told T k j:=by
 funext j
 unfold VM
 by_cases h:j=k
 ·subst h; rw[if_pos (by omega),if_pos rfl]
 ·rw[if_neg h]
  by_cases h2:j < k
  ·rw[if_pos h2,if_pos (by omega)]
  ·rw[if_neg h2,if_neg (by omega)]
def Same' (f:List (Option Int)) (T:Nat->Option Od):Prop:=∀j,(T j).isSome=(at' f j).isSome
theorem Givn.same {told:List (Option Od)} (G:Givn rows f told):Same' f (at' told):=fun j=>by
 by_cases h:j < f.length
 ·have:=G.okT.both j (by rw[G.len]; exact h)
  exact Bool.eq_iff_iff.mpr this
 ·rw[W0 h,W0 (by rw[G.len]; exact h)]; rfl
theorem Same'.lt {T:Nat->Option Od} (h:Same' f T):∀k o,T k=some o->k < f.length:=fun k o e=>by
 have q:=h k
 rw[e]at q
 obtain ⟨s,hs⟩:=Option.isSome_iff_exists.mp q.symm
 exact Wa hs
theorem Same'.mix {told:List (Option Od)} {T:Nat->Option Od} (G:Givn rows f told) (h:Same' f T) (k:Nat):Same' f (VM told T k):=fun j=>by
 unfold VM
 by_cases hj:j < k
 ·rw[if_pos hj]; exact G.same j
 ·rw[if_neg hj]; exact h j
theorem Tell.give {told:List (Option Od)} {T:Nat->Option Od} {k:Nat} (G:Givn rows f told) (hs:Same' f T) (t:Tell gs (VM told T k)):Tell (gvn gs k (at' told k)) (VM told T (k+1)):=by
 rw[NM]
 match h:at' told k with
 |none =>
  have e:(fun j=>if j=k then (none:Option Od) else VM told T k j)=VM told T k:=by
   funext j
   by_cases hj:j=k
   ·subst hj
    rw[if_pos rfl]
    have a:=G.same j
    have b:=hs j
    unfold VM
    rw[if_neg (by omega)]
    rw[h]at a
    rw[← a]at b
    cases q:T j with
    |none=>rfl
    |some o=>rw[q]at b; cases b
   ·rw[if_neg hj]
  rw[e]
  exact t
 |some o=>exact t.put k o
theorem MR {tw:Wv} {told:List (Option Od)} {T:Nat->Option Od} {B:FS} {i:Nat} {sl:Sl} (W:Wd c om hb hm hu hl size off f kvs) (S:Os c om ho hb hg off gs) (hne:hg≠hu) (mo:Wu rows off kvs) (G:Givn rows f told) (t:Tell gs T) (hs:Same' f T)
    (ht:∀om',(∀j,j≠hg->om'[j]?=om[j]?)->YB om' tw=some (told.map odW)) (hB:∀(k:Nat) om1 om2,g__law_give c [.o ho,.int off,tw,.int k] om1=some (.ok .non,om2)->(∀j,j≠hg->om1[j]?=om[j]?)->B (sl.set i (some (.int k))) om1=some (.ok (.nx,sl.set i (some (.int k))),om2)) :
    ∃gs' x,Va (tgN i) B (XD f.length) sl om=some (.ok (.nx,sl.set i x),om.set hg (.dk (Yt c off gs')))∧Tell gs' (at' told):=by
 have hsl:∀l:Sl,l=l.set i ((l[i]?).getD none):=fun l=>List.ext_getElem? fun j=>by
  by_cases h:i=j
  ·subst h
   by_cases hlt:i < l.length
   ·rw[List.getElem?_set_self hlt]; simp[hlt]
   ·rw[List.getElem?_eq_none (by omega),List.getElem?_eq_none (by simp; omega)]
  ·rw[List.getElem?_set_ne h]
 obtain ⟨sl',om',hf,gs',x,rfl,rfl,t'⟩:=Xr (T:=tgN i) (S:=B) (n:=f.length) (fun k sl' om'=>∃gs' x,sl'=sl.set i x∧om'=om.set hg (.dk (Yt c off gs'))∧Tell gs' (VM told T k)) (sl:=sl) (om:=om) (fun k hk sl' om' ⟨gs',x,e1,e2,t'⟩=>by
  subst e1 e2
  have hg1:gs'.length<=f.length:=t'.len (Same'.mix G hs k).lt
  have hf:=W.few
  have hf2:=W.fit
  have oth:∀j,j≠hg->(om.set hg (.dk (Yt c off gs')))[j]?=om[j]?:=fun j hj=>by rw[List.getElem?_set_ne (Ne.symm hj)]
  have e:=K7 (W.set (x:=.dk (Yt c off gs')) S.g hne) (S.at gs') mo G (ht _ oth) hk (by omega)
  rw[List.set_set]at e
  refine ⟨sl.set i (some (.int k)),.nx,_,_,?_,hB k _ _ e oth,.inl rfl,_,_,rfl,rfl,t'.give G hs⟩
  unfold tgN
  rw[List.set_set]) ⟨gs,(sl[i]?).getD none,hsl sl,(Pg S.g).symm,by rw[N9]; exact t⟩
 refine ⟨gs',x,hf,?_⟩
 have e:VM told T f.length=at' told:=by
  funext j
  unfold VM
  by_cases h:j < f.length
  ·rw[if_pos h]
  ·rw[if_neg h,W0 (by rw[G.len]; exact h)]
   have:=hs j
   rw[W0 h]at this
   cases q:T j with
   |none=>rfl
   |some o=>rw[q]at this; cases this
 rw[← e]
 exact t'
theorem QJ (c:CA) (om:List Ob) (hb:Nat):Wt c.Orders 2 (Xd c) [.o hb] om=some (.ok (.o om.length),om++[YG c hb (om.length+1),.dk []]):=by
 simp[Xd,VD,Yr,XV,ZB,Mi,ZO,ZP,Yk,PK,sIf,Yq,Za,fC,f1,f2,fB,kB,fA,Zc,Zk,Y7,YB,bnd,L2.ret,kI,kIc,kIx,OG,Vg,fOr,Wm,Wq,Qg,X8,VA,Y9,UY,UO,Ss,UK,UH,Qw,MS,HR,J2,Kd.isi,XB,MH,TD,Yb,WR,ZC,P1,kN,chk,Wt,VI,Pr,Tc,newO,US,X6,YK,Xa,U8,T8,SB,U9,Uv,isD,Hn,Ja,YL,WH,WW,Pp,L2.V9,Xu,ZV,YI,Ol,RJ,kSl,fSl,Gp,L9,Nx,YY,Sx,Wc,Yu,Wb,XX,Yh,tgN,GW,QM,Tu,Yo,X0,Qz,kUn,Vo,SC,XA,Ue,Y3,L2.UP,L2.YS,List.lookup_cons,List.lookup_nil]
theorem IY (c:CA) (om:List Ob) (hb off:Nat):Os c (om++[YG c hb (om.length+1),.dk []]) om.length hb (om.length+1) off []:=⟨by simp,by simp[Yt]⟩
theorem FD {many:Nat} (hf:f.length=many) (h1:off+many<=size) (h2:size<=60):Wd c (XC c om size kvs (Y5 off f many)) (om.length+2) om.length (om.length+3) (om.length+1) size off f kvs:=by
 subst hf
 exact ⟨by simp[XC],by simp[XC],by simp[XC],by simp[XC],h1,h2⟩
end
open PySem L2
theorem To {om:List Ob} {x y:Wv} {d:PyData} (hx:YW om x=some d) (hy:YW om y=some d) (hl:WK d=true) (neg:Bool):Wn neg x y om=some (.ok (.bl (!neg)),om):=by
 have hc:d.canLay0=true:=(Bool.and_eq_true_iff.mp hl).1
 have he:PyData.eqv d d=true:=PySem.SeqAt.eqv_refl d hc
 unfold Wn
 rw[hx,hy]
 dsimp only
 rw[hl]
 cases neg <;> simp[he]
theorem PP (om:List Ob):∀ns:List Int,pysOf om (ns.map Wv.int)=some (ns.map PyData.int)
 |[]=>rfl
 |n::r=>by
  show (match Wj om (.int n),pysOf om (r.map Wv.int) with|some d,some ds=>some (d::ds)|_,_=>none)=_
  rw[PP om r]
  rfl
theorem UT (ns:List Int):WK (.list (ns.map PyData.int))=true:=by
 have a:PyData.canLayAll0 (ns.map PyData.int)=true:=by
  induction ns with
  |nil=>rfl
  |cons n r ih=>simp[PyData.canLayAll0,PyData.canLay0,ih]
 have b:PyData.depthAll (ns.map PyData.int)=0:=by
  induction ns with
  |nil=>rfl
  |cons n r ih =>
   have ih:=ih (by simp[PyData.canLayAll0,PyData.canLay0]at a; simpa using a)
   simp[PyData.depthAll,PyData.depth,ih]
 simp[WK,PyData.canLay0,PyData.depth,a,b]
theorem Hg (om:List Ob) (ns:List Int):YW om (.lst (ns.map Wv.int))=some (.list (ns.map PyData.int)):=by
 show (pysOf om (ns.map Wv.int)).map PyData.list=_
 rw[PP]
 rfl
open PySem L2
section
variable {c:CA} {om:List Ob} {ho hb hm hu hl hg size off:Nat} {f:List (Option Int)} {kvs:List (List Key × Wv)} {gs:Gs} {rows:Mx} {told:List (Option Od)}
theorem Kp {many:Nat} {tw:Wv} (lk:Lk many rows) (hf:f.length=many) (h1:off+many<=size) (h2:size<=60) (hm7:many<=7) (hs:∀k s,at' f k=some s->0<=s∧s<=7) (G:Givn rows f told) (om:List Ob) (ht:∀om',(∀j,j < om.length->om'[j]?=om[j]?)->YB om' tw=some (told.map odW)) :
    ∃kvs gs,g__law_given c [Zy many off size,.lst (rows.map Z7),.lst (f.map Zx),tw] om=some (.ok (.o (om.length+4)),om++[Xm c size (om.length+1),.dt kvs,XR c om.length (om.length+3),.dk (Xq (Y5 off f many)),YG c (om.length+2) (om.length+5),.dk (Yt c off gs)])∧Wu rows off kvs∧Tell gs (at' told):=by
 have hlim:=Ye
 obtain ⟨kvs,eb,mo,hk⟩:=Lq c lk hf h1 hm7 hs om
 have W:=FD (c:=c) (om:=om) (kvs:=kvs) hf h1 h2
 have hl:(XC c om size kvs (Y5 off f many)).length=om.length+4:=by simp[XC]
 have S:=IY c (XC c om size kvs (Y5 off f many)) (om.length+2) off
 have W2:=W.grow [YG c (om.length+2) ((XC c om size kvs (Y5 off f many)).length+1),.dk []]
 have s1:ZO 4 (fA (Wt c.Orders 2 (Xd c)) (Zc (fA (kN 3 (g__law_board c)) (Zc (Za 0) (Zc (Za 1) (Zc (Za 2) Zk)))) Zk)) [some (Zy many off size),some (.lst (rows.map Z7)),some (.lst (f.map Zx)),some tw,none,none] om=some (.ok (.nx,[some (Zy many off size),some (.lst (rows.map Z7)),some (.lst (f.map Zx)),some tw,some (.o (XC c om size kvs (Y5 off f many)).length),none]),XC c om size kvs (Y5 off f many)++[YG c (om.length+2) ((XC c om size kvs (Y5 off f many)).length+1),.dk []]) :=
  ZK (i:=4) ((ZG (Zd ((ZG (Zd (Zb rfl) (Zd (Zb rfl) (Zd (Zb rfl) Zi)))).trans ((Xe rfl).trans eb)) Zi)).trans (QJ c _ _))
 obtain ⟨gs,x,el,t⟩:=MR (tw:=tw) (told:=told) (T:=fun k=>(at' f k).map fun _=>Od.stand) (B:=VE c) (i:=5) (sl:=[some (Zy many off size),some (.lst (rows.map Z7)),some (.lst (f.map Zx)),some tw,some (.o (XC c om size kvs (Y5 off f many)).length),none]) W2 S (by rw[hl]; omega) mo G
  (Tell.start0 fun k o e=>by
   obtain ⟨_,_,rfl⟩:=Option.map_eq_some_iff.mp e
   rfl) (fun j=>by simp) (fun om' h=>ht om' fun j hj=>by
   rw[h j (by rw[hl]; omega),List.getElem?_append_left (by rw[hl]; omega)]
   unfold XC
   rw[List.getElem?_append_left hj]) (fun k om1 om2 e _=>ZJ ((ZG (Zd (Zb rfl) (Zd ((Zq (Zb rfl) Zo).trans (Zw (k:=1) (v:=.int off) rfl rfl)) (Zd (Zb rfl) (Zd (Zb rfl) Zi))))).trans ((Xe rfl).trans e)))
 refine ⟨kvs,gs,?_,mo,t⟩
 rw[hf]at el
 have e4:=Y6 (sl1:=[]) (fi:=fun sl=>bnd ((f2 kIx (Za 0) (fC (.int 0))) sl) ZZ) (sl:=[some (Zy many off size),some (.lst (rows.map Z7)),some (.lst (f.map Zx)),some tw,some (.o (XC c om size kvs (Y5 off f many)).length),none]) ((Zr ((Zq (Zb rfl) Zo).trans (Zw (k:=0) (v:=.int many) rfl rfl))).trans (Yh _ _ (by omega))) el
 have r:g__law_given c [Zy many off size,.lst (rows.map Z7),.lst (f.map Zx),tw] om=_:=ZS ((Zg s1).trans ((Zg e4).trans (ZD (Zb (i:=4) rfl))))
 refine r.trans ?_
 have e:(XC c om size kvs (Y5 off f many)++[YG c (om.length+2) ((XC c om size kvs (Y5 off f many)).length+1),.dk []]).set ((XC c om size kvs (Y5 off f many)).length+1) (.dk (Yt c off gs))=om++[Xm c size (om.length+1),.dt kvs,XR c om.length (om.length+3),.dk (Xq (Y5 off f many)),YG c (om.length+2) (om.length+5),.dk (Yt c off gs)]:=by
  rw[List.set_append_right _ _ (by omega),Nat.add_sub_cancel_left,hl]
  unfold XC
  rw[List.append_assoc]
  rfl
 rw[e,hl]
theorem MT {told:List (Option Od)} {k:Nat} (hk:k < told.length) (o:Od):(fun j=>if j=k then some o else at' told j)=at' (told.set k (some o)):=by
 funext j
 unfold at'
 rw[List.getD_eq_getElem?_getD,List.getD_eq_getElem?_getD,List.getElem?_set]
 by_cases h:k=j
 ·subst h; rw[if_pos rfl,if_pos rfl,if_pos hk]; rfl
 ·rw[if_neg h,if_neg (Ne.symm h)]
end
end MP
namespace L2
noncomputable section
open PySem PySem.Spec PyProof.Rows
def dG (s:Addr) (om:List Ob):Wv->Option (List Wv)
 |.lst ws=>some (ws.map (unG s))
 |.o h=>match om[h]? with
  |some (.lst ws)=>some (ws.map (unG s))
  |_=>none
 |_=>none
def QG (s:Addr) (neg:Bool) (x y:Wv):Mw Wv:=fun om=>match dG s om x,dG s om y with
 |some ws,some us=>Wn neg (.lst ws) (.lst us) om
 |_,_=>none
section
variable {X:Cx} {E:XK} {e a b:Expr} {fa fb:FE} {pos:Pos} {s:Addr}
theorem LQ {om:List Ob} {w:Wv} {d:PyData} (h:Wj om w=some d):YW om w=some d:=by
 cases w with
 |o h'=>unfold Wj at h; cases h
 |_=>exact h
theorem U4 {pins:List (Addr × Obj)} {σ:St} {F H:Hp} {sh:Shared} {β:List Addr} {om:List Ob} (G:GTup X.K s) (I:Inv X pins σ H sh) (M:MOk F H β om):∀{ws:List Wv} {vs:List V} {ds:List PyData} {us:List Value},RWs F β ws vs->pysOf om (ws.map (unG s))=some ds->Vals vs us->∃as,ReadsAll sh.heap us ds as
 |_,_,_,_,.nil,e,r=>by
  have e:some []=some _:=e
  cases e; cases r; exact ⟨_,.nil⟩
 |_,_,_,_,.cons (w:=w) (ws:=ws) h q,e,r=>by
  have e:(match Wj om (unG s w),pysOf om (ws.map (unG s)) with|some d,some ds=>some (d::ds)|_,_=>none)=some _:=e
  cases r with
  |cons r1 r2 =>
   match h1:Wj om (unG s w),h2:pysOf om (ws.map (unG s)),e with
   |some d,some ds,e =>
    cases e
    obtain ⟨as,ra⟩:=HZ G I M h (LQ h1) r1
    obtain ⟨bs,rb⟩:=U4 G I M q h2 r2
    exact ⟨_,.cons ra rb⟩
theorem Np {pins:List (Addr × Obj)} {σ:St} {F H:Hp} {sh:Shared} {β:List Addr} {om:List Ob} (G:GTup X.K s) (I:Inv X pins σ H sh) (M:MOk F H β om) {w:Wv} {v:V} {ws:List Wv} {d:PyData} {u:Value} (r:RW F β w v) (hd:dG s om w=some ws) (e:YW om (.lst ws)=some d) (ru:RelV v u):∃as,Reads sh.heap u d as:=by
 have e:(pysOf om ws).map PyData.list=some d:=e
 match hp:pysOf om ws,e with
 |none,e=>cases e
 |some ds,e =>
  cases e
  cases r with
  |@lst a xs us q rs =>
   have hd:some (us.map (unG s))=some ws:=hd
   cases hd
   cases ru
   obtain ⟨_,its,n,rv,eo⟩:=(Rd.same M.sub q).ok I.hok
   obtain ⟨as,ra⟩:=U4 G I M rs hp rv
   exact ⟨_,.list eo rfl rfl (by simpa using ra)⟩
  |@o h a eb =>
   have hd:(match om[h]? with|some (.lst us)=>some (us.map (unG s))|_=>none)=some ws:=hd
   split at hd
   ·rename_i us hw
    cases hd
    obtain ⟨a',ea,_,xs,hx,rs⟩:=M.at hw
    rw[eb]at ea; cases ea
    cases ru
    obtain ⟨_,its,n,rv,eo⟩:=I.hok _ _ hx
    obtain ⟨as,ra⟩:=U4 G I M rs hp rv
    exact ⟨_,.list eo rfl rfl (by simpa using ra)⟩
   ·cases hd
  |_=>cases hd
def Ej (E:XK) (s:Addr) (neg:Bool):R2:=fun v u H Q=>∃F β om x y,MOk F H β om∧RW F β x v∧RW F β y u∧Res E (QG s neg x y om) F H β (PV Q)
theorem Hy (G:GTup X.K s) (hu:X.A.units+64 < cLine):OpR X (compareOp .Eq) (Ej E s false)∧OpR X (compareOp .NotEq) (Ej E s true):=by
 refine ⟨?_,?_⟩
 all_goals
  intro pins sh σ H v u v' u' Q I rv ru h
  obtain ⟨F,β,om,x,y,M,rx,ry,R⟩:=h
  unfold QG at R
  match g1:dG s om x,g2:dG s om y,R with
  |none,_,R=>exact R.elim
  |some _,none,R=>exact R.elim
  |some ws,some us,R =>
   dsimp only at R
   unfold Wn at R
   match h1:YW om (.lst ws),h2:YW om (.lst us),R with
   |none,_,R=>exact R.elim
   |some _,none,R=>exact R.elim
   |some d,some e,R =>
    dsimp only at R
    by_cases hl:(WK d&&WK e)=true
    ·rw[if_pos hl]at R
     obtain ⟨l1,l2⟩:=Bool.and_eq_true_iff.mp hl
     obtain ⟨c1,d1⟩:=Bool.and_eq_true_iff.mp l1
     obtain ⟨c2,d2⟩:=Bool.and_eq_true_iff.mp l2
     obtain ⟨as,ra⟩:=Np G I M rx g1 h1 rv
     obtain ⟨bs,rb⟩:=Np G I M ry g2 h2 ru
     have:=of_decide_eq_true d1
     have:=of_decide_eq_true d2
     first
      |exact SeqAt.rcAt_reads ra rb c1 c2 (by omega) _ _ _ _ ⟨.bl _,H,I,rfl,R F H β (Gx.refl _ _ _) M _ (.bl _)⟩
      |exact SeqAt.compareNe_reads ra rb c1 c2 (by omega) ⟨.bl _,H,I,rfl,R F H β (Gx.refl _ _ _) M _ (.bl _)⟩
    ·rw[if_neg hl]at R; exact R.elim
theorem Gz (G:GTup X.K s) (hu:X.A.units+64 < cLine) (ha:PE X a (tE E fa)) (hb:PE X b (tE E fb)):PE X (.Compare a [.Eq] [b] pos) (tE E (f2 (QG s false) fa fb)):=Kj (Hy (E:=E) G hu).1 (fun M rx ry R=>⟨_,_,_,_,_,M,rx,ry,R⟩) ha hb (VU _)
end
end
end L2
namespace MP
open PySem L2
theorem OF {S:FS} {i:Nat} {om:List Ob} {sl:Sl} {C:Addr} (hi:i < sl.length):∀{l:List Wv} (x:Option Wv),(∀w∈l,S (sl.set i (some w)) om=some (.ok (.nx,sl.set i (some w)),om)∨S (sl.set i (some w)) om=some (.error C,om))->(∃w∈l,S (sl.set i (some w)) om=some (.error C,om))->Va (tgN i) S l (sl.set i x) om=some (.error C,om)
 |[],_,_,h=>by obtain ⟨w,hw,_⟩:=h; cases hw
 |w::l,x,h,h2=>by
  have e0:Va (tgN i) S (w::l) (sl.set i x) om=bnd (S (sl.set i (some w))) (Um fun sl2=>Va (tgN i) S l sl2) om:=by
   show (match tgN i w (sl.set i x) with|none=>XA|some sl1=>bnd (S sl1) (Um fun sl2=>Va (tgN i) S l sl2)) om=_
   have e1:tgN i w (sl.set i x)=some (sl.set i (some w)):=by unfold tgN; rw[List.set_set]
   rw[e1]
  rw[e0]
  rcases h w (.head _) with q|q
  ·rw[Zr q]
   obtain ⟨u,hu,eu⟩:=h2
   rcases List.mem_cons.mp hu with rfl|hu
   ·rw[q]at eu; cases eu
   ·exact OF hi (some w) (fun v hv=>h v (.tail _ hv)) ⟨u,hu,eu⟩
  ·exact Xc q
theorem O2 {fi:FI} {T:TgW} {S:FS} {sl:Sl} {om om1:List Ob} {ws:List Wv} {C:Addr} (h:fi sl om=some (.ok ws,om)) (e:Va T S ws sl om=some (.error C,om1)):Wb fi T S sl om=some (.error C,om1):=by
 unfold Wb
 rw[Zr h]
 exact e
def inP (size:Nat) (x:Int):Bool:=decide (0<=x)&&decide (x < size)
theorem Pw {size:Nat} {x:Int} (h:inP size x=true):0<=x∧x < (size:Nat):=by
 obtain ⟨a,b⟩:=Bool.and_eq_true_iff.mp h
 exact ⟨of_decide_eq_true a,of_decide_eq_true b⟩
theorem IW {size:Nat} {x:Int} (h:inP size x=false):¬ (0<=x∧x < (size:Nat)):=fun ⟨a,b⟩=>by
 unfold inP at h
 rw[decide_eq_true a,decide_eq_true b]at h
 cases h
def mU (off:Nat) (f:List (Option Int)) (x:Int):Bool:=((Y5 off f f.length).lookup x).isSome
theorem JL {off:Nat} {f:List (Option Int)} {x:Int} (h:mU off f x=true):∃(k:Nat) (s:Int),x=(off:Int)+k∧at' f k=some s:=by
 unfold mU at h
 rw[Vq]at h
 by_cases hx:0<=x - off∧x - off < (f.length:Nat)
 ·rw[if_pos hx]at h
  obtain ⟨s,hs⟩:=Option.isSome_iff_exists.mp h
  exact ⟨(x - off).toNat,s,by omega,hs⟩
 ·rw[if_neg hx]at h; cases h
section
variable {c:CA} {om:List Ob} {ho hb hm hu hl hg size off:Nat} {f:List (Option Int)} {kvs:List (List Key × Wv)} {gs:Gs} {rows:Mx} {told:List (Option Od)}
theorem Ig (W:Wd c om hb hm hu hl size off f kvs) {x:Int} (hx:x.natAbs < 1000):ZQ c [.o hb,.int x] om=if inP size x then (if mU off f x then some (.ok .non,om) else some (.error c.NoUnit,om)) else some (.error c.NoPlace,om):=by
 have r:YL c.NoUnit (WH (Za 1) WW) [some (.o hb),some (.int x)] om=some (.error c.NoUnit,om):=by
  simp[YL,WH,WW,Pp,Za,bnd,L2.ret,L2.V9,chk,show x.natAbs < 1000000000000 by omega]
 cases hp:inP size x with
 |false =>
  rw[if_neg Bool.false_ne_true]
  have e:fB (f1 VA (ZC c.Board "side_at" 2 (Z4 c) (Za 0) (Zc (Za 1) Zk))) [some (.o hb),some (.int x)] om=some (.error c.NoPlace,om):=by
   have e0:ZC c.Board "side_at" 2 (Z4 c) (Za 0) (Zc (Za 1) Zk) [some (.o hb),some (.int x)] om=some (.error c.NoPlace,om):=(Zv (Zb rfl) (Zt W.b) (Yy _ _ _ (by decide) (by decide)) (Zd (Zb rfl) Zi) rfl).trans (KJ c W.b W.m (IW hp) (by omega))
   simp[fB,f1,bnd,e0]
  refine YX ?_
  show sIf _ _ _ _ om=_
  unfold sIf
  exact Xc e
 |true =>
  rw[if_pos rfl]
  have e:fB (f1 VA (ZC c.Board "side_at" 2 (Z4 c) (Za 0) (Zc (Za 1) Zk))) [some (.o hb),some (.int x)] om=some (.ok (!mU off f x),om):=by
   refine ZW ((Y8 ((Zv (Zb rfl) (Zt W.b) (Yy _ _ _ (by decide) (by decide)) (Zd (Zb rfl) Zi) rfl).trans (ND c W.b W.m W.u (Pw hp)))).trans ((TY _ _).trans ?_))
   unfold mU
   cases (Y5 off f f.length).lookup x <;> rfl
  cases hm':mU off f x with
  |false=>rw[hm']at e; rw[if_neg Bool.false_ne_true]; exact YX ((Z6 e).trans r)
  |true=>rw[hm']at e; rw[if_pos rfl]; exact XM (ZL e)
abbrev iL (l:List Int):Wv:=.lst (l.map Wv.int)
theorem QL (W:Wd c om hb hm hu hl size off f kvs) (S:Os c om ho hb hg off gs) {x:Int} (hx:x.natAbs < 1000) {sl:Sl} (s0:sl[0]?=some (some (.o ho))) (s3:sl[3]?=some (some (.int x))):Yc c sl om=if inP size x then some (.ok (.nx,sl),om) else some (.error c.NoPlace,om):=by
 have m:∀{r:Option (Except Addr Wv × List Ob)},Zs c [.o hm,.int x] om=r->ZC c.Map "need_place" 2 (Zs c) (f1 (Yb c.Board "chart") (f1 (Yb c.Orders "board") (Za 0))) (Zc (Za 3) Zk) sl om=r:=fun e=>(Zv (Tt (WY S s0) W.b (XN ..)) (Zt W.m) (YQ _ _ _ (by decide) (by decide)) (Zd (Zb s3) Zi) rfl).trans e
 cases hp:inP size x with
 |true=>rw[if_pos rfl]; exact ZJ (m (Vr c W.m (Pw hp).1 (Pw hp).2))
 |false=>rw[if_neg Bool.false_ne_true]; exact Xc (m (Px c W.m (IW hp) (by omega)))
theorem OH (W:Wd c om hb hm hu hl size off f kvs) (S:Os c om ho hb hg off gs) {x:Int} (hx:x.natAbs < 1000) (hp:inP size x=true) {sl:Sl} (s0:sl[0]?=some (some (.o ho))) (s3:sl[3]?=some (some (.int x))):Yd c sl om=if mU off f x then some (.ok (.nx,sl),om) else some (.error c.NoUnit,om):=by
 have m:=(Zv (WY S s0) (Zt W.b) (Yy _ _ _ (by decide) (by decide)) (Zd (Zb s3) Zi) rfl:ZC c.Board "need_unit" 2 (ZQ c) (f1 (Yb c.Orders "board") (Za 0)) (Zc (Za 3) Zk) sl om=_).trans (Ig W hx)
 rw[hp,if_pos rfl]at m
 cases hm':mU off f x with
 |true=>rw[hm',if_pos rfl]at m; rw[if_pos rfl]; exact ZJ m
 |false=>rw[hm',if_neg Bool.false_ne_true]at m; rw[if_neg Bool.false_ne_true]; exact Xc m
theorem Se (W:Wd c om hb hm hu hl size off f kvs) (S:Os c om ho hb hg off gs) (ps us:List Int) (h1:∀x∈ps,x.natAbs < 1000) (h2:∀x∈us,x∈ps):ZX c [.o ho,iL ps,iL us] om=if ps.all (inP size) then (if us.all (mU off f) then some (.ok .non,om) else some (.error c.NoUnit,om)) else some (.error c.NoPlace,om):=by
 generalize hA:iL ps=A
 generalize hB:iL us=B
 have it1:∀x,(fun sl=>bnd ((Za 1) sl) XX) [some (.o ho),some A,some B,x] om=some (.ok (ps.map Wv.int),om):=fun x=>(Zr (Zb rfl)).trans (by rw[← hA]; rfl)
 have it2:∀x,(fun sl=>bnd ((Za 2) sl) XX) [some (.o ho),some A,some B,x] om=some (.ok (us.map Wv.int),om):=fun x=>(Zr (Zb rfl)).trans (by rw[← hB]; rfl)
 cases ha:ps.all (inP size) with
 |false =>
  rw[if_neg Bool.false_ne_true]
  obtain ⟨y,hy,hn⟩:=List.all_eq_false.mp ha
  have hn:inP size y=false:=by simpa using hn
  have e:=OF (S:=Yc c) (i:=3) (om:=om) (sl:=[some (.o ho),some A,some B,none]) (C:=c.NoPlace) (by simp) (l:=ps.map Wv.int) none (fun w hw=>by
   obtain ⟨x,hx,rfl⟩:=List.mem_map.mp hw
   have:=QL W S (h1 x hx) (sl:=[some (.o ho),some A,some B,none].set 3 (some (.int x))) rfl rfl
   cases hp:inP size x with
   |true=>rw[hp,if_pos rfl]at this; exact .inl this
   |false=>rw[hp,if_neg Bool.false_ne_true]at this; exact .inr this) ⟨.int y,List.mem_map.mpr ⟨y,hy,rfl⟩,by
   have:=QL W S (h1 y hy) (sl:=[some (.o ho),some A,some B,none].set 3 (some (.int y))) rfl rfl
   rw[hn,if_neg Bool.false_ne_true]at this; exact this⟩
  exact YX (Xw (O2 (it1 none) e))
 |true =>
  rw[if_pos rfl]
  have hin:∀x∈ps,inP size x=true:=fun x hx=>List.all_eq_true.mp ha x hx
  obtain ⟨y,ey⟩:=Vj (S:=Yc c) (i:=3) (om:=om) (sl:=[some (.o ho),some A,some B,none]) (by simp) (l:=ps.map Wv.int) none (fun w hw=>by
   obtain ⟨x,hx,rfl⟩:=List.mem_map.mp hw
   have:=QL W S (h1 x hx) (sl:=[some (.o ho),some A,some B,none].set 3 (some (.int x))) rfl rfl
   rw[hin x hx,if_pos rfl]at this; exact this)
  have f1:=Y6 (sl1:=[]) (fi:=fun sl=>bnd ((Za 1) sl) XX) (it1 none) ey
  cases hb':us.all (mU off f) with
  |false =>
   rw[if_neg Bool.false_ne_true]
   obtain ⟨z,hz,hn⟩:=List.all_eq_false.mp hb'
   have hn:mU off f z=false:=by simpa using hn
   have e:=OF (S:=Yd c) (i:=3) (om:=om) (sl:=[some (.o ho),some A,some B,y]) (C:=c.NoUnit) (by simp) (l:=us.map Wv.int) y (fun w hw=>by
    obtain ⟨x,hx,rfl⟩:=List.mem_map.mp hw
    have:=OH W S (h1 x (h2 x hx)) (hin x (h2 x hx)) (sl:=[some (.o ho),some A,some B,y].set 3 (some (.int x))) rfl rfl
    cases hp:mU off f x with
    |true=>rw[hp,if_pos rfl]at this; exact .inl this
    |false=>rw[hp,if_neg Bool.false_ne_true]at this; exact .inr this) ⟨.int z,List.mem_map.mpr ⟨z,hz,rfl⟩,by
    have:=OH W S (h1 z (h2 z hz)) (hin z (h2 z hz)) (sl:=[some (.o ho),some A,some B,y].set 3 (some (.int z))) rfl rfl
    rw[hn,if_neg Bool.false_ne_true]at this; exact this⟩
   exact YX ((Zg f1).trans (O2 (it2 y) e))
  |true =>
   rw[if_pos rfl]
   obtain ⟨z,ez⟩:=Vj (S:=Yd c) (i:=3) (om:=om) (sl:=[some (.o ho),some A,some B,y]) (by simp) (l:=us.map Wv.int) y (fun w hw=>by
    obtain ⟨x,hx,rfl⟩:=List.mem_map.mp hw
    have:=OH W S (h1 x (h2 x hx)) (hin x (h2 x hx)) (sl:=[some (.o ho),some A,some B,y].set 3 (some (.int x))) rfl rfl
    rw[List.all_eq_true.mp hb' x hx,if_pos rfl]at this; exact this)
   exact XM ((Zg f1).trans (Y6 (sl1:=[]) (fi:=fun sl=>bnd ((Za 2) sl) XX) (it2 y) ez))
theorem Wx (W:Wd c om hb hm hu hl size off f kvs) (S:Os c om ho hb hg off gs) {x y:Int} (hx:x.natAbs < 1000) (hy:y.natAbs < 1000) (px:inP size x=true) (py:inP size y=true):ZA c [.o ho,.int x,.int y] om=if Yl kvs x y then some (.ok .non,om) else some (.error c.OutOfReach,om):=by
 have r:YL c.OutOfReach (WH (Za 2) (WH (Za 1) WW)) [some (.o ho),some (.int x),some (.int y)] om=some (.error c.OutOfReach,om):=by
  simp[YL,WH,WW,Pp,Za,bnd,L2.ret,L2.V9,chk,show x.natAbs < 1000000000000 by omega,show y.natAbs < 1000000000000 by omega]
 have t:Wm (XB (ZC c.Map "beside" 3 (XZ c) (f1 (Yb c.Board "chart") (f1 (Yb c.Orders "board") (Za 0))) (Zc (Za 1) (Zc (Za 2) Zk)))) [some (.o ho),some (.int x),some (.int y)] om=some (.ok (!Yl kvs x y),om):=X3 (X2 ((Zv (Tt (WY S rfl) W.b (XN ..)) (Zt W.m) (YQ _ _ _ (by decide) (by decide)) (Zd (Zb rfl) (Zd (Zb rfl) Zi)) rfl).trans (Rc c W.m W.l (Pw px) (Pw py))))
 cases hk:Yl kvs x y with
 |true=>rw[hk]at t; rw[if_pos rfl]; exact XM (ZL t)
 |false=>rw[hk]at t; rw[if_neg Bool.false_ne_true]; exact YX ((Z6 t).trans r)
def vd (off size:Nat) (f:List (Option Int)) (kvs:List (List Key × Wv)) (way:Nat) (x h y:Int):Nat :=
 match way with
 |0=>if inP size x then (if mU off f x then 0 else 2) else 1
 |1=>if [x,y].all (inP size) then (if [x].all (mU off f) then (if Yl kvs x y then 0 else 3) else 2) else 1
 |_=>if [x,h,y].all (inP size) then (if [x,h].all (mU off f) then (if decide (h=x) || !Yl kvs x y || (!decide (y=h)&&!Yl kvs h y) then 3 else 0) else 2) else 1
def exC (c:CA) (v:Nat):Addr:=if v=1 then c.NoPlace else if v=2 then c.NoUnit else c.OutOfReach
end
end MP
namespace MP
noncomputable section
open PySem L2
def Ti (c:CA):FT :=
 (fB (f1 Y9 (f2 kIx (Za 3) (Za 0))))
def Tf (c:CA):FE :=
 (ZC c.Orders "told" 2 (Xg c) (Za 1) (Zc (f2 YH (f2 kIx (Za 2) (fC (.int 1))) (Za 0)) Zk))
def Oq (c:CA):FS :=
 (Yk (Yu ZV [0,1,2] (fun sl=>bnd ((f2 kIx (Za 1) (fC (.int 0))) sl) ZZ) (Ti c) (Tf c)))
def g__law_all (c:CA):List Wv->Mw Wv:=Yr 3 (Oq c)
def V8 (c:CA):FT :=
 (fB (f1 Y9 (f2 kIx (Za 3) (Za 0))))
def Uw (c:CA):FE :=
 (ZC c.Orders "told" 2 (Xg c) (Za 1) (Zc (f2 YH (f2 kIx (Za 2) (fC (.int 1))) (Za 0)) Zk))
def Pc (c:CA):FS :=
 (Yk (Yu YI [0,1,2] (fun sl=>bnd ((f2 kIx (Za 1) (fC (.int 0))) sl) ZZ) (V8 c) (Uw c)))
def XS (c:CA):List Wv->Mw Wv:=Yr 3 (Pc c)
def MO (c:CA):FS :=
 (ZB (sIf (fB (X8 kLe kLt (f2 kIx (Za 0) (fC (.int 1))) (Za 1) (f2 YH (f2 kIx (Za 0) (fC (.int 1))) (f2 kIx (Za 0) (fC (.int 0)))))) (Yk (f2 Qj (Za 1) (f2 kIx (Za 0) (fC (.int 1))))) Yq)
  (Yk (fC .non)))
def g__law_at (c:CA):List Wv->Mw Wv:=Yr 2 (MO c)
def SO (c:CA):FS :=
 (Yk (Wq (f1 Y9 (fA (kN 2 (g__law_at c)) (Zc (Za 0) (Zc (Za 2) Zk)))) (f1 Y9 (f2 kIx (Za 1) (fA (kN 2 (g__law_at c)) (Zc (Za 0) (Zc (Za 2) Zk)))))))
def g__law_manned (c:CA):List Wv->Mw Wv:=Yr 3 (SO c)
def SH (c:CA):FS :=
 (ZB (ZO 4 (fA (kN 2 (g__law_at c)) (Zc (Za 0) (Zc (Za 2) Zk))))
  (ZB (ZO 5 (fA (kN 2 (g__law_at c)) (Zc (Za 0) (Zc (Za 3) Zk))))
  (Yk (Wq (f1 Y9 (Za 4)) (Wq (f1 Y9 (Za 5)) (f2 kIx (f2 kIx (Za 1) (Za 4)) (Za 5)))))))
def g__law_beside (c:CA):List Wv->Mw Wv:=Yr 6 (SH c)
def So (c:CA):FS :=
 (ZB (sIf (fB (f2 kEq (Za 2) (fC (.int 1)))) (Yk (fA (kN 4 (g__law_beside c)) (Zc (Za 0) (Zc (Za 1) (Zc (Za 3) (Zc (Za 5) Zk)))))) Yq)
  (ZB (sIf (fB (f2 kEq (Za 2) (fC (.int 2)))) (ZB (sIf (fOr (fB (f2 kEq (Za 4) (Za 3))) (Wm (XB (fA (kN 4 (g__law_beside c)) (Zc (Za 0) (Zc (Za 1) (Zc (Za 3) (Zc (Za 5) Zk)))))))) (Yk (fC (.bl false))) Yq)
  (Yk (Qg (f2 kEq (Za 5) (Za 4)) (fA (kN 4 (g__law_beside c)) (Zc (Za 0) (Zc (Za 1) (Zc (Za 4) (Zc (Za 5) Zk)))))))) Yq)
  (Yk (fC (.bl true)))))
def g__law_reached (c:CA):List Wv->Mw Wv:=Yr 6 (So c)
def YZ (c:CA):FS :=
 (sIf (Wm (fB (X8 kLe kLt (fC (.int 0)) (Za 6) (f2 kIx (Za 0) (fC (.int 2)))))) (Yk (fA ZV (Zc (fC (.bl true)) (Zc (fC (.bl false)) (Zc (fC (.bl false)) (Zc (fC (.bl false)) (Zc (fC (.bl false)) (Zc (fC (.bl true)) Zk)))))))) Yq)
def P6 (c:CA):FS :=
 (ZB (ZO 5 (fA YI (Zc (f2 kIx (Za 4) (fC (.int 0))) Zk)))
  (ZB (sIf (fB (f2 kGt (Za 3) (fC (.int 0)))) (ZP (SX (Za 5) (f2 kIx (Za 4) (fC (.int 2))))) Yq)
  (ZB (sIf (fB (f2 kEq (Za 3) (fC (.int 2)))) (ZP (SX (Za 5) (f2 kIx (Za 4) (fC (.int 1))))) Yq)
  (ZB (Nk (Za 5) (tgN 6) (YZ c))
  (ZB (sIf (fOr (Wm (XB (fA (kN 3 (g__law_manned c)) (Zc (Za 0) (Zc (Za 2) (Zc (f2 kIx (Za 4) (fC (.int 0))) Zk)))))) (Vg (fB (f2 kEq (Za 3) (fC (.int 2)))) (Wm (XB (fA (kN 3 (g__law_manned c)) (Zc (Za 0) (Zc (Za 2) (Zc (f2 kIx (Za 4) (fC (.int 1))) Zk)))))))) (Yk (fA ZV (Zc (fC (.bl false)) (Zc (fC (.bl true)) (Zc (fC (.bl false)) (Zc (fC (.bl false)) (Zc (fC (.bl false)) (Zc (fC (.bl true)) Zk)))))))) Yq)
  (ZB (sIf (Wm (XB (fA (kN 6 (g__law_reached c)) (Zc (Za 0) (Zc (Za 1) (Zc (Za 3) (Zc (f2 kIx (Za 4) (fC (.int 0))) (Zc (f2 kIx (Za 4) (fC (.int 1))) (Zc (f2 kIx (Za 4) (fC (.int 2))) Zk))))))))) (Yk (fA ZV (Zc (fC (.bl false)) (Zc (fC (.bl false)) (Zc (fC (.bl true)) (Zc (fC (.bl false)) (Zc (fC (.bl false)) (Zc (fC (.bl true)) Zk)))))))) Yq)
  (Yk (fA ZV Zk))))))))
def g__law_due (c:CA):List Wv->Mw Wv:=Yr 7 (P6 c)
def Qy (c:CA):FS :=
 (ZB (ZO 5 (fA ZV Zk))
  (ZB (Qz (c.caught c.OrderError) 6 (sIf (fB (f2 kEq (Za 1) (fC (.int 0)))) (ZP (ZC c.Orders "stand" 2 (YD c) (Za 0) (Zc (Za 2) Zk))) (sIf (fB (f2 kEq (Za 1) (fC (.int 1)))) (ZP (ZC c.Orders "move" 3 (YO c) (Za 0) (Zc (Za 2) (Zc (Za 4) Zk)))) (ZP (ZC c.Orders "aid" 4 (Y4 c) (Za 0) (Zc (Za 2) (Zc (Za 3) (Zc (Za 4) Zk))))))) (ZB (ZO 5 (fA ZV (Zc (f1 (X0 c.isE c.kit (.ref c.NoPlace)) (Za 6)) (Zc (f1 (X0 c.isE c.kit (.ref c.NoUnit)) (Za 6)) (Zc (f1 (X0 c.isE c.kit (.ref c.OutOfReach)) (Za 6)) (Zc (f1 (X0 c.isE c.kit (.ref c.Crowded)) (Za 6)) Zk))))))
  (ZO 5 (f2 SC (Za 5) (fA ZV (Zc (f1 (X0 c.isE c.kit (.ref c.NoSide)) (Za 6)) (Zc (f1 (X0 c.isE c.kit (.type "ValueError")) (Za 6)) Zk)))))))
  (Yk (Za 5))))
def g__law_tried (c:CA):List Wv->Mw Wv:=Yr 7 (Qy c)
def Qt (c:CA):FE :=
 (f2 YH (f2 kIx (Za 2) (fC (.int 1))) (f2 Ym (fA (kN 2 (g__law_cell_at c)) (Zc (Za 1) (Zc (f2 YH (fC (.int 18)) (Za 0)) Zk))) (f2 YH (f2 kIx (Za 2) (fC (.int 0))) (fC (.int 1)))))
def Ot (c:CA):FS :=
 (sIf (fB (f2 kEq (f2 Ym (f2 WE (fA (kN 2 (g__law_cell_at c)) (Zc (Za 0) (Zc (f2 YH (fC (.int 18)) (Za 7)) Zk))) (fC (.int 8))) (fC (.int 5))) (fC (.int 1)))) (YY (f2 Qj (f2 Ym (f2 WE (fA (kN 2 (g__law_cell_at c)) (Zc (Za 0) (Zc (f2 YH (fC (.int 18)) (Za 7)) Zk))) (fC (.int 40))) (fC (.int 200))) (fC (.int 70))) (Za 6) (Za 7)) Yq)
def Ow (c:CA):FT :=
 (fB (f1 Y9 (f2 kIx (Za 1) (Za 0))))
def OA (c:CA):FE :=
 (Za 0)
def Sf (c:CA):FT :=
 (XB (f2 kIx (f2 kIx (Za 1) (Za 2)) (Za 0)))
def TJ (c:CA):FE :=
 (Za 0)
def Oh (c:CA):FS :=
 (ZO 13 (f2 YH (Za 13) (fA MW (Zc (f1 Y9 (f2 kIx (Za 3) (Za 7))) Zk))))
def TH (c:CA):FT :=
 (fB (f2 kEq (f2 (QH c.STAND) (f2 kIx (Za 3) (Za 0)) (fC (.int 0))) (fC (.str "move"))))
def Sk (c:CA):FE :=
 (f2 YH (f2 kIx (Za 1) (fC (.int 1))) (f2 kIx (Za 2) (Za 0)))
def FP (c:CA):FS :=
 (ZB (ZO 1 (fA (kN 1 (g__law_frame c)) (Zc (Za 0) Zk)))
  (ZB (ZO 2 (fA (kN 2 (XQ c)) (Zc (Za 0) (Zc (f2 kIx (Za 1) (fC (.int 0))) Zk))))
  (ZB (ZO 3 (fA (kN 2 (XO c)) (Zc (Za 0) (Zc (f2 kIx (Za 1) (fC (.int 0))) Zk))))
  (ZB (ZO 4 (fA (kN 4 (g__law_given c)) (Zc (Za 1) (Zc (Za 2) (Zc (Za 3) (Zc (fA (kN 3 (g__law_orders c)) (Zc (Za 0) (Zc (Za 2) (Zc (Za 3) Zk)))) Zk))))))
  (ZB (ZO 5 (f2 Ym (fA (kN 2 (g__law_cell_at c)) (Zc (Za 0) (Zc (fC (.int 17)) Zk))) (fC (.int 3))))
  (ZB (ZO 6 (Yu YI [0,1] (fun sl=>bnd ((fC (.int 3)) sl) ZZ) Vo (Qt c)))
  (ZB (Wb (fun sl=>bnd ((fC (.int 3)) sl) ZZ) (tgN 7) (Ot c))
  (ZB (sIf (fB (f2 kEq (f2 Ym (f2 WE (fA (kN 2 (g__law_cell_at c)) (Zc (Za 0) (Zc (fC (.int 17)) Zk))) (fC (.int 3))) (fC (.int 5))) (fC (.int 1)))) (YY (f2 kIx (Za 6) (fC (.int 0))) (Za 6) (fC (.int 1))) Yq)
  (ZB (sIf (fB (f2 kEq (f2 Ym (f2 WE (fA (kN 2 (g__law_cell_at c)) (Zc (Za 0) (Zc (fC (.int 17)) Zk))) (fC (.int 3))) (fC (.int 5))) (fC (.int 2)))) (YY (f2 kIx (Za 6) (fC (.int 0))) (Za 6) (fC (.int 2))) Yq)
  (ZB (ZO 8 (Yu ZV [3] (fun sl=>bnd ((f2 kIx (Za 1) (fC (.int 0))) sl) ZZ) (Ow c) (OA c)))
  (ZB (sIf (Vg (fB (f2 kNe (Za 8) (fA ZV Zk))) (fB (f2 kEq (f2 Ym (f2 WE (fA (kN 2 (g__law_cell_at c)) (Zc (Za 0) (Zc (fC (.int 17)) Zk))) (fC (.int 15))) (fC (.int 2))) (fC (.int 1))))) (ZB (ZO 9 (f2 kIx (Za 8) (f2 Ym (fA (kN 2 (g__law_cell_at c)) (Zc (Za 0) (Zc (fC (.int 18)) Zk))) (fA Y7 (Zc (Za 8) Zk)))))
  (ZB (ZO 10 (f2 SC (Yu ZV [2,9] (fun sl=>bnd ((f2 kIx (Za 1) (fC (.int 0))) sl) ZZ) (Sf c) (TJ c)) (fA ZV (Zc (Za 9) Zk))))
  (ZB (YY (f2 YH (f2 kIx (Za 1) (fC (.int 1))) (Za 9)) (Za 6) (fC (.int 0)))
  (ZB (YY (f2 YH (f2 kIx (Za 1) (fC (.int 1))) (f2 kIx (Za 8) (f2 Ym (fA (kN 2 (g__law_cell_at c)) (Zc (Za 0) (Zc (fC (.int 19)) Zk))) (fA Y7 (Zc (Za 8) Zk))))) (Za 6) (fC (.int 1)))
  (YY (f2 YH (f2 kIx (Za 1) (fC (.int 1))) (f2 kIx (Za 10) (f2 Ym (fA (kN 2 (g__law_cell_at c)) (Zc (Za 0) (Zc (fC (.int 20)) Zk))) (fA Y7 (Zc (Za 10) Zk))))) (Za 6) (fC (.int 2))))))) Yq)
  (ZB (ZO 11 (fA (kN 3 (XS c)) (Zc (Za 4) (Zc (Za 1) (Zc (Za 3) Zk)))))
  (ZB (ZO 12 (fA (kN 5 (g__law_due c)) (Zc (Za 1) (Zc (Za 2) (Zc (Za 3) (Zc (Za 5) (Zc (Za 6) Zk)))))))
  (ZB (sIf (fB (f2 kNe (fA (kN 5 (g__law_tried c)) (Zc (Za 4) (Zc (Za 5) (Zc (f2 kIx (Za 6) (fC (.int 0))) (Zc (f2 kIx (Za 6) (fC (.int 1))) (Zc (f2 kIx (Za 6) (fC (.int 2))) Zk)))))) (Za 12))) (Yk (fC (.bl false))) Yq)
  (ZB (sIf (fB (f2 kEq (Za 12) (fA ZV Zk))) (ZB (ZO 13 (fC (.int 0)))
  (ZB (Wb (fun sl=>bnd ((f2 Qj (f2 kIx (Za 6) (fC (.int 0))) (f2 kIx (Za 1) (fC (.int 1)))) sl) ZZ) (tgN 7) (Oh c))
  (YY (f2 kIx (fA ZV (Zc (fA Xu (Zc (fC (.str "stand")) Zk)) (Zc (fA Xu (Zc (fC (.str "move")) (Zc (f2 kIx (Za 6) (fC (.int 2))) Zk))) (Zc (fA Xu (Zc (fC (.str "help")) (Zc (f2 kIx (Za 6) (fC (.int 1))) (Zc (f2 kIx (Za 6) (fC (.int 2))) Zk)))) Zk)))) (Za 5)) (Za 11) (Za 13)))) Yq)
  (ZB (ZO 14 (Yu ZV [1,8,11] (fun sl=>bnd ((fA Y7 (Zc (Za 11) Zk)) sl) ZZ) (TH c) (Sk c)))
  (Yk (Wq (f2 (QG c.STAND false) (fA (kN 3 (g__law_all c)) (Zc (Za 4) (Zc (Za 1) (Zc (Za 3) Zk)))) (Za 11)) (f2 kEq (ZC c.Orders "movers" 1 (YN c) (Za 4) Zk) (Za 14))))))))))))))))))))
def Lf (c:CA):List Wv->Mw Wv:=Yr 15 (FP c)
end
open PySem L2
section
variable {c:CA} {om:List Ob} {ho hb hm hu hl hg size off:Nat} {f:List (Option Int)} {kvs:List (List Key × Wv)} {gs:Gs} {rows:Mx} {told:List (Option Od)}
theorem Ky (mo:Wu rows off kvs) (lk:Lk f.length rows) {x y:Int} (h:Yl kvs x y=true):∃i j:Nat,x=(off:Int)+i∧y=(off:Int)+j∧YR rows i j=true∧i < f.length∧j < f.length:=by
 obtain ⟨i,j,h1,h2,h3⟩:=(mo x y).mp h
 have:=lk.inr h3
 exact ⟨i,j,h1,h2,h3,this.1,this.2.1⟩
theorem KP (W:Wd c om hb hm hu hl size off f kvs) (S:Os c om ho hb hg off gs) {x:Int} (hx:x.natAbs < 1000) {v:Nat} (hv:vd off size f kvs 0 x x x=v) (h0:v≠0):YD c [.o ho,.int x] om=some (.error (exC c v),om):=by
 have m:=(Zv (WY S rfl) (Zt W.b) (Yy _ _ _ (by decide) (by decide)) (Zd (Zb rfl) Zi) rfl:ZC c.Board "need_unit" 2 (ZQ c) (f1 (Yb c.Orders "board") (Za 0)) (Zc (Za 1) Zk) [some (.o ho),some (.int x)] om=_).trans (Ig W hx)
 refine YX (Xw (Xc (m.trans ?_)))
 have hv:(if inP size x then (if mU off f x then 0 else 2) else 1)=v:=hv
 cases hp:inP size x with
 |false=>rw[hp]at hv; subst hv; rfl
 |true =>
  cases hq:mU off f x with
  |false=>rw[hp,hq]at hv; subst hv; rfl
  |true=>rw[hp,hq]at hv; exact absurd hv.symm h0
theorem HN (W:Wd c om hb hm hu hl size off f kvs) (S:Os c om ho hb hg off gs) {x h y:Int} (hx:x.natAbs < 1000) (hy:y.natAbs < 1000) {v:Nat} (hv:vd off size f kvs 1 x h y=v) (h0:v≠0):YO c [.o ho,.int x,.int y] om=some (.error (exC c v),om):=by
 have hv:(if [x,y].all (inP size) then (if [x].all (mU off f) then (if Yl kvs x y then 0 else 3) else 2) else 1)=v:=hv
 have na:=Se W S [x,y] [x] (by intro z hz; simp at hz; rcases hz with rfl|rfl <;> assumption) (by intro z hz; simp at hz; simp[hz])
 have m:=(Zv (Zb rfl) (Zt S.o) (ZR _ _ _ (by decide) (by decide)) (Zd ((ZG (Zd (Zb rfl) (Zd (Zb rfl) Zi))).trans (Ys (by simp))) (Zd ((ZG (Zd (Zb rfl) Zi)).trans (Ys (by simp))) Zi)) rfl:ZC c.Orders "need_all" 3 (ZX c) (Za 0) (Zc (fA ZV (Zc (Za 1) (Zc (Za 2) Zk))) (Zc (fA ZV (Zc (Za 1) Zk)) Zk)) [some (.o ho),some (.int x),some (.int y)] om=_).trans na
 cases hp:[x,y].all (inP size) with
 |false =>
  rw[hp]at hv m; subst hv
  exact YX (Xw (Xc m))
 |true =>
  cases hq:[x].all (mU off f) with
  |false =>
   rw[hp,hq]at hv m; subst hv
   exact YX (Xw (Xc m))
  |true =>
   rw[hp,hq]at hv m
   have px:inP size x=true:=List.all_eq_true.mp hp x (.head _)
   have py:inP size y=true:=List.all_eq_true.mp hp y (.tail _ (.head _))
   have nb:=Wx W S hx hy px py
   cases hk:Yl kvs x y with
   |true=>rw[hk]at hv; exact absurd hv.symm h0
   |false =>
    rw[hk]at hv nb; subst hv
    have m2:=(Zv (Zb rfl) (Zt S.o) (ZR _ _ _ (by decide) (by decide)) (Zd (Zb rfl) (Zd (Zb rfl) Zi)) rfl:ZC c.Orders "need_beside" 3 (ZA c) (Za 0) (Zc (Za 1) (Zc (Za 2) Zk)) [some (.o ho),some (.int x),some (.int y)] om=_).trans nb
    exact YX ((Zg (ZJ m)).trans (Xw (Xc m2)))
theorem G2 (W:Wd c om hb hm hu hl size off f kvs) (S:Os c om ho hb hg off gs) {x h y:Int} (hx:x.natAbs < 1000) (hh:h.natAbs < 1000) (hy:y.natAbs < 1000) {v:Nat} (hv:vd off size f kvs 2 x h y=v) (h0:v≠0):Y4 c [.o ho,.int x,.int h,.int y] om=some (.error (exC c v),om):=by
 have hv:(if [x,h,y].all (inP size) then (if [x,h].all (mU off f) then (if decide (h=x) || !Yl kvs x y || (!decide (y=h)&&!Yl kvs h y) then 3 else 0) else 2) else 1)=v:=hv
 have na:=Se W S [x,h,y] [x,h] (by intro z hz; simp at hz; rcases hz with rfl|rfl|rfl <;> assumption) (by intro z hz; simp at hz; rcases hz with rfl|rfl <;> simp)
 have m:=(Zv (Zb rfl) (Zt S.o) (ZR _ _ _ (by decide) (by decide)) (Zd ((ZG (Zd (Zb rfl) (Zd (Zb rfl) (Zd (Zb rfl) Zi)))).trans (Ys (by simp))) (Zd ((ZG (Zd (Zb rfl) (Zd (Zb rfl) Zi))).trans (Ys (by simp))) Zi)) rfl:ZC c.Orders "need_all" 3 (ZX c) (Za 0) (Zc (fA ZV (Zc (Za 1) (Zc (Za 2) (Zc (Za 3) Zk)))) (Zc (fA ZV (Zc (Za 1) (Zc (Za 2) Zk))) Zk)) [some (.o ho),some (.int x),some (.int h),some (.int y)] om=_).trans na
 cases hp:[x,h,y].all (inP size) with
 |false =>
  rw[hp]at hv m; subst hv
  exact YX (Xw (Xc m))
 |true =>
  cases hq:[x,h].all (mU off f) with
  |false =>
   rw[hp,hq]at hv m; subst hv
   exact YX (Xw (Xc m))
  |true =>
   rw[hp,hq,if_pos rfl,if_pos rfl]at hv m
   have px:inP size x=true:=List.all_eq_true.mp hp x (.head _)
   have ph:inP size h=true:=List.all_eq_true.mp hp h (.tail _ (.head _))
   have py:inP size y=true:=List.all_eq_true.mp hp y (.tail _ (.tail _ (.head _)))
   have nb:=Wx W S hx hy px py
   have nb2:=Wx W S hh hy ph py
   have r:YL c.OutOfReach (WH (Za 1) WW) [some (.o ho),some (.int x),some (.int h),some (.int y)] om=some (.error c.OutOfReach,om):=by
    simp[YL,WH,WW,Pp,Za,bnd,L2.ret,L2.V9,chk,show x.natAbs < 1000000000000 by omega]
   have t1:fB (f2 kEq (Za 2) (Za 1)) [some (.o ho),some (.int x),some (.int h),some (.int y)] om=some (.ok (decide (h=x)),om):=ZW ((v2 rfl rfl).trans (YS _ _ _))
   have t2:fB (f2 kNe (Za 3) (Za 2)) [some (.o ho),some (.int x),some (.int h),some (.int y)] om=some (.ok (!decide (y=h)),om):=ZW ((v2 rfl rfl).trans (UP _ _ _))
   have m2:=(Zv (Zb rfl) (Zt S.o) (ZR _ _ _ (by decide) (by decide)) (Zd (Zb rfl) (Zd (Zb rfl) Zi)) rfl:ZC c.Orders "need_beside" 3 (ZA c) (Za 0) (Zc (Za 1) (Zc (Za 3) Zk)) [some (.o ho),some (.int x),some (.int h),some (.int y)] om=_).trans nb
   have m3:=(Zv (Zb rfl) (Zt S.o) (ZR _ _ _ (by decide) (by decide)) (Zd (Zb rfl) (Zd (Zb rfl) Zi)) rfl:ZC c.Orders "need_beside" 3 (ZA c) (Za 0) (Zc (Za 2) (Zc (Za 3) Zk)) [some (.o ho),some (.int x),some (.int h),some (.int y)] om=_).trans nb2
   cases hA:decide (h=x) with
   |true =>
    rw[hA]at hv t1; subst hv
    exact YX ((Zg (ZJ m)).trans (Xw ((Z6 t1).trans r)))
   |false =>
    rw[hA]at hv t1
    cases hB:Yl kvs x y with
    |false =>
     rw[hB]at hv m2; subst hv
     exact YX ((Zg (ZJ m)).trans ((Zg (ZL t1)).trans (Xw (Xc m2))))
    |true =>
     rw[hB]at hv m2
     cases hC:decide (y=h) with
     |true=>rw[hC]at hv; exact absurd hv.symm h0
     |false =>
      rw[hC]at hv t2
      cases hD:Yl kvs h y with
      |true=>rw[hD]at hv; exact absurd hv.symm h0
      |false =>
       rw[hD]at hv m3; subst hv
       exact YX ((Zg (ZJ m)).trans ((Zg (ZL t1)).trans ((Zg (ZJ m2)).trans (Xw ((Z6 t2).trans (Xc m3))))))
structure CAok (c:CA):Prop where
 np:[.ref c.NoPlace,.ref c.NoSide,.ref c.Crowded,.ref c.NoUnit,.ref c.OutOfReach,.type "ValueError"].map (c.kit c.NoPlace)=[true,false,false,false,false,true]
 ns:[.ref c.NoPlace,.ref c.NoSide,.ref c.Crowded,.ref c.NoUnit,.ref c.OutOfReach,.type "ValueError"].map (c.kit c.NoSide)=[false,true,false,false,false,true]
 cr:[.ref c.NoPlace,.ref c.NoSide,.ref c.Crowded,.ref c.NoUnit,.ref c.OutOfReach,.type "ValueError"].map (c.kit c.Crowded)=[false,false,true,false,false,true]
 nu:[.ref c.NoPlace,.ref c.NoSide,.ref c.Crowded,.ref c.NoUnit,.ref c.OutOfReach,.type "ValueError"].map (c.kit c.NoUnit)=[false,false,false,true,false,true]
 oo:[.ref c.NoPlace,.ref c.NoSide,.ref c.Crowded,.ref c.NoUnit,.ref c.OutOfReach,.type "ValueError"].map (c.kit c.OutOfReach)=[false,false,false,false,true,true]
 ct:c.caught c.OrderError c.NoPlace=true∧c.caught c.OrderError c.NoSide=true∧c.caught c.OrderError c.Crowded=true∧c.caught c.OrderError c.NoUnit=true∧c.caught c.OrderError c.OutOfReach=true
def Xx:Nat->List Bool
 |0=>[]
 |1=>[true,false,false,false,false,true]
 |2=>[false,true,false,false,false,true]
 |_=>[false,false,true,false,false,true]
abbrev blL (l:List Bool):Wv:=.lst (l.map Wv.bl)
theorem IA (off size:Nat) (f:List (Option Int)) (kvs:List (List Key × Wv)) (way:Nat) (x h y:Int):vd off size f kvs way x h y<=3:=by
 unfold vd
 split <;> (repeat' split) <;> omega
theorem GM (hc:CAok c) {v:Nat} (h0:v≠0) (h3:v<=3):c.caught c.OrderError (exC c v)=true∧c.isE (exC c v)=true∧[.ref c.NoPlace,.ref c.NoUnit,.ref c.OutOfReach,.ref c.Crowded,.ref c.NoSide,.type "ValueError"].map (c.kit (exC c v))=Xx v:=by
 have np:=hc.np; have nu:=hc.nu; have oo:=hc.oo; have ct:=hc.ct
 simp only[List.map_cons,List.map_nil,List.cons.injEq]at np nu oo
 have:v=1∨v=2∨v=3:=by omega
 rcases this with rfl|rfl|rfl
 ·refine ⟨ct.1,by simp[exC,CA.isE],?_⟩
  simp[exC,Xx,np]
 ·refine ⟨ct.2.2.2.1,by simp[exC,CA.isE],?_⟩
  simp[exC,Xx,nu]
 ·refine ⟨ct.2.2.2.2,by simp[exC,CA.isE],?_⟩
  simp[exC,Xx,oo]
end
open PySem L2
section
variable {c:CA} {om:List Ob} {ho hb hm hu hl hg size off:Nat} {f:List (Option Int)} {kvs:List (List Key × Wv)} {gs:Gs} {rows:Mx} {told:List (Option Od)}
noncomputable abbrev opS (c:CA):FS:=sIf (fB (f2 kEq (Za 1) (fC (.int 0)))) (ZP (ZC c.Orders "stand" 2 (YD c) (Za 0) (Zc (Za 2) Zk))) (sIf (fB (f2 kEq (Za 1) (fC (.int 1)))) (ZP (ZC c.Orders "move" 3 (YO c) (Za 0) (Zc (Za 2) (Zc (Za 4) Zk)))) (ZP (ZC c.Orders "aid" 4 (Y4 c) (Za 0) (Zc (Za 2) (Zc (Za 3) (Zc (Za 4) Zk))))))
abbrev slT (ho way:Nat) (x h y:Int) (x5 x6:Option Wv):Sl:=[some (.o ho),some (.int (way:Nat)),some (.int x),some (.int h),some (.int y),x5,x6]
theorem Je {ca:Addr->Bool} {i:Nat} {S T:FS} {sl:Sl} {om om1:List Ob} {r:Fl × Sl} (h:S sl om=some (.ok r,om1)):Qz ca i S T sl om=some (.ok r,om1):=by
 unfold Qz
 rw[h]
theorem Et (W:Wd c om hb hm hu hl size off f kvs) (S:Os c om ho hb hg off gs) {way:Nat} (hw:way<=2) {x h y:Int} (hx:x.natAbs < 1000) (hh:h.natAbs < 1000) (hy:y.natAbs < 1000) (h0:vd off size f kvs way x h y≠0) (x5 x6:Option Wv):opS c (slT ho way x h y x5 x6) om=some (.error (exC c (vd off size f kvs way x h y)),om):=by
 have t0:fB (f2 kEq (Za 1) (fC (.int 0))) (slT ho way x h y x5 x6) om=some (.ok (decide ((way:Int)=0)),om):=ZW ((Zq (Zb rfl) Zo).trans (YS _ _ _))
 have t1:fB (f2 kEq (Za 1) (fC (.int 1))) (slT ho way x h y x5 x6) om=some (.ok (decide ((way:Int)=1)),om):=ZW ((Zq (Zb rfl) Zo).trans (YS _ _ _))
 have:way=0∨way=1∨way=2:=by omega
 rcases this with rfl|rfl|rfl
 ·exact (Z6 t0).trans (Xc ((Zv (Zb rfl) (Zt S.o) (ZR _ _ _ (by decide) (by decide)) (Zd (Zb rfl) Zi) rfl).trans (KP W S hx rfl h0)))
 ·exact (WS t0).trans ((Z6 t1).trans (Xc ((Zv (Zb rfl) (Zt S.o) (ZR _ _ _ (by decide) (by decide)) (Zd (Zb rfl) (Zd (Zb rfl) Zi)) rfl).trans (HN W S hx hy rfl h0))))
 ·exact (WS t0).trans ((WS t1).trans (Xc ((Zv (Zb rfl) (Zt S.o) (ZR _ _ _ (by decide) (by decide)) (Zd (Zb rfl) (Zd (Zb rfl) (Zd (Zb rfl) Zi))) rfl).trans (G2 W S hx hh hy rfl h0))))
structure Kept (off:Nat) (f:List (Option Int)) (rows:Mx) (way:Nat) (x h y:Int) (k:Nat) (o:Od):Prop where
 at_:x=(off:Int)+k
 lt:k < f.length
 ok:NX rows f k (some o)
 is:(way=0∧o=.stand)∨(way=1∧∃g:Nat,o=.move g∧y=(off:Int)+g)∨(way=2∧∃q g:Nat,o=.help q g∧h=(off:Int)+q∧y=(off:Int)+g)
theorem Fg (W:Wd c om hb hm hu hl size off f kvs) (S:Os c om ho hb hg off gs) (mo:Wu rows off kvs) (lk:Lk f.length rows) (hgl:gs.length < 100) {way:Nat} (hw:way<=2) {x h y:Int} (h0:vd off size f kvs way x h y=0) (x5 x6:Option Wv):∃k o,Kept off f rows way x h y k o∧opS c (slT ho way x h y x5 x6) om=some (.ok (.nx,slT ho way x h y x5 x6),om.set hg (.dk (Yt c off (Wz gs k o)))):=by
 have t0:fB (f2 kEq (Za 1) (fC (.int 0))) (slT ho way x h y x5 x6) om=some (.ok (decide ((way:Int)=0)),om):=ZW ((Zq (Zb rfl) Zo).trans (YS _ _ _))
 have t1:fB (f2 kEq (Za 1) (fC (.int 1))) (slT ho way x h y x5 x6) om=some (.ok (decide ((way:Int)=1)),om):=ZW ((Zq (Zb rfl) Zo).trans (YS _ _ _))
 have:way=0∨way=1∨way=2:=by omega
 rcases this with rfl|rfl|rfl
 ·have h0:(if inP size x then (if mU off f x then 0 else 2) else 1)=0:=h0
  cases hp:inP size x with
  |false=>rw[hp]at h0; cases h0
  |true =>
   cases hq:mU off f x with
   |false=>rw[hp,hq]at h0; cases h0
   |true =>
    obtain ⟨k,s,rfl,hs⟩:=JL hq
    exact ⟨k,.stand,⟨rfl,Wa hs,by show (at' f k).isSome=true; rw[hs]; rfl,.inl ⟨rfl,rfl⟩⟩,(Z6 t0).trans (ZJ ((Zv (Zb rfl) (Zt S.o) (ZR _ _ _ (by decide) (by decide)) (Zd (Zb rfl) Zi) rfl).trans (Q8 W S hs hgl)))⟩
 ·have h0:(if [x,y].all (inP size) then (if [x].all (mU off f) then (if Yl kvs x y then 0 else 3) else 2) else 1)=0:=h0
  cases hp:[x,y].all (inP size) with
  |false=>rw[hp]at h0; cases h0
  |true =>
   cases hq:[x].all (mU off f) with
   |false=>rw[hp,hq]at h0; cases h0
   |true =>
    cases hk:Yl kvs x y with
    |false=>rw[hp,hq,hk]at h0; cases h0
    |true =>
     obtain ⟨k,s,hxk,hs⟩:=JL (List.all_eq_true.mp hq x (.head _))
     obtain ⟨i,g,hi,hg',hl',_,hgl'⟩:=Ky (f:=f) mo lk hk
     have:i=k:=by omega
     subst this
     subst hxk hg'
     exact ⟨i,.move g,⟨rfl,Wa hs,⟨by rw[hs]; rfl,hgl',hl'⟩,.inr (.inl ⟨rfl,g,rfl,rfl⟩)⟩,(WS t0).trans ((Z6 t1).trans (ZJ ((Zv (Zb rfl) (Zt S.o) (ZR _ _ _ (by decide) (by decide)) (Zd (Zb rfl) (Zd (Zb rfl) Zi)) rfl).trans (Nd W S hs hgl' hk hgl))))⟩
 ·have h0:(if [x,h,y].all (inP size) then (if [x,h].all (mU off f) then (if decide (h=x) || !Yl kvs x y || (!decide (y=h)&&!Yl kvs h y) then 3 else 0) else 2) else 1)=0:=h0
  cases hp:[x,h,y].all (inP size) with
  |false=>rw[hp]at h0; cases h0
  |true =>
   cases hq:[x,h].all (mU off f) with
   |false=>rw[hp,hq]at h0; cases h0
   |true =>
    rw[hp,hq,if_pos rfl,if_pos rfl]at h0
    cases hA:decide (h=x) with
    |true=>rw[hA]at h0; cases h0
    |false =>
     cases hk:Yl kvs x y with
     |false=>rw[hA,hk]at h0; cases h0
     |true =>
      obtain ⟨k,s,hxk,hs⟩:=JL (List.all_eq_true.mp hq x (.head _))
      obtain ⟨q,s2,hhq,hs2⟩:=JL (List.all_eq_true.mp hq h (.tail _ (.head _)))
      obtain ⟨i,g,hi,hg',hl',_,hgl'⟩:=Ky (f:=f) mo lk hk
      have:i=k:=by omega
      subst this
      have hne:q≠i:=fun z=>by have:=of_decide_eq_false hA; omega
      have hh:q=g∨Yl kvs h y=true:=by
       cases hC:decide (y=h) with
       |true=>have:=of_decide_eq_true hC; exact .inl (by omega)
       |false =>
        cases hD:Yl kvs h y with
        |true=>exact .inr rfl
        |false=>rw[hA,hk,hC,hD]at h0; cases h0
      have hll:q=g∨YR rows q g=true:=hh.imp id fun hd=>by
       obtain ⟨a,b,ha,hb',hab,_,_⟩:=Ky (f:=f) mo lk hd
       have e1:a=q:=by omega
       have e2:b=g:=by omega
       rw[e1,e2]at hab
       exact hab
      subst hxk hg' hhq
      exact ⟨i,.help q g,⟨rfl,Wa hs,⟨by rw[hs]; rfl,Wa hs2,hgl',hne,by rw[hs2]; rfl,hl',hll⟩,.inr (.inr ⟨rfl,q,g,rfl,rfl,rfl⟩)⟩,(WS t0).trans ((WS t1).trans (ZJ ((Zv (Zb rfl) (Zt S.o) (ZR _ _ _ (by decide) (by decide)) (Zd (Zb rfl) (Zd (Zb rfl) (Zd (Zb rfl) Zi))) rfl).trans (L3 W S hs hs2 hgl' hne hk hh hgl))))⟩
theorem MY (hc:CAok c) (W:Wd c om hb hm hu hl size off f kvs) (S:Os c om ho hb hg off gs) {way:Nat} (hw:way<=2) {x h y:Int} (hx:x.natAbs < 1000) (hh:h.natAbs < 1000) (hy:y.natAbs < 1000) (h0:vd off size f kvs way x h y≠0):g__law_tried c [.o ho,.int (way:Nat),.int x,.int h,.int y] om=some (.ok (blL (Xx (vd off size f kvs way x h y))),om++[.exc (exC c (vd off size f kvs way x h y))]):=by
 have hlim:=Ye
 have e:=Et W S hw hx hh hy h0 (some (.lst [])) none
 obtain ⟨c1,c2,c3⟩:=GM hc h0 (IA off size f kvs way x h y)
 generalize vd off size f kvs way x h y=v at *
 generalize exC c v=C at *
 have e1:ZO 5 (fA ZV Zk) [some (.o ho),some (.int (way:Nat)),some (.int x),some (.int h),some (.int y),none,none] om=some (.ok (.nx,slT ho way x h y (some (.lst [])) none),om):=ZK (i:=5) ((ZG Zi).trans (Ys (by simp)))
 have hk:∀(D:Value) (sl:Sl),sl[6]?=some (some (.o om.length))->f1 (X0 c.isE c.kit D) (Za 6) sl (om++[.exc C])=some (.ok (.bl (c.kit C D)),om++[.exc C]):=fun D sl h6=>(Y8 (Zb h6)).trans (by
  have:(om++[Ob.exc C])[om.length]?=some (.exc C):=by simp
  simp[X0,this,c2])
 simp only[List.map_cons,List.map_nil]at c3
 have b1:ZO 5 (fA ZV (Zc (f1 (X0 c.isE c.kit (.ref c.NoPlace)) (Za 6)) (Zc (f1 (X0 c.isE c.kit (.ref c.NoUnit)) (Za 6)) (Zc (f1 (X0 c.isE c.kit (.ref c.OutOfReach)) (Za 6)) (Zc (f1 (X0 c.isE c.kit (.ref c.Crowded)) (Za 6)) Zk))))) (slT ho way x h y (some (.lst [])) (some (.o om.length))) (om++[.exc C])=some (.ok (.nx,slT ho way x h y (some (.lst [.bl (c.kit C (.ref c.NoPlace)),.bl (c.kit C (.ref c.NoUnit)),.bl (c.kit C (.ref c.OutOfReach)),.bl (c.kit C (.ref c.Crowded))])) (some (.o om.length))),om++[.exc C]):=ZK (i:=5) ((ZG (Zd (hk _ _ rfl) (Zd (hk _ _ rfl) (Zd (hk _ _ rfl) (Zd (hk _ _ rfl) Zi))))).trans (Ys (by simp)))
 have b2:ZO 5 (f2 SC (Za 5) (fA ZV (Zc (f1 (X0 c.isE c.kit (.ref c.NoSide)) (Za 6)) (Zc (f1 (X0 c.isE c.kit (.type "ValueError")) (Za 6)) Zk)))) (slT ho way x h y (some (.lst [.bl (c.kit C (.ref c.NoPlace)),.bl (c.kit C (.ref c.NoUnit)),.bl (c.kit C (.ref c.OutOfReach)),.bl (c.kit C (.ref c.Crowded))])) (some (.o om.length))) (om++[.exc C])=some (.ok (.nx,slT ho way x h y (some (blL (Xx v))) (some (.o om.length))),om++[.exc C]):=by
  refine ZK (i:=5) ((Zq (Zb rfl) ((ZG (Zd (hk _ _ rfl) (Zd (hk _ _ rfl) Zi))).trans (Ys (by simp)))).trans ?_)
  rw[← c3]
  show (if _ then _ else _)=_
  rw[if_pos (by show 6<=lim; omega)]
  rfl
 have e2:Qz (c.caught c.OrderError) 6 (opS c) (ZB (ZO 5 (fA ZV (Zc (f1 (X0 c.isE c.kit (.ref c.NoPlace)) (Za 6)) (Zc (f1 (X0 c.isE c.kit (.ref c.NoUnit)) (Za 6)) (Zc (f1 (X0 c.isE c.kit (.ref c.OutOfReach)) (Za 6)) (Zc (f1 (X0 c.isE c.kit (.ref c.Crowded)) (Za 6)) Zk)))))) (ZO 5 (f2 SC (Za 5) (fA ZV (Zc (f1 (X0 c.isE c.kit (.ref c.NoSide)) (Za 6)) (Zc (f1 (X0 c.isE c.kit (.type "ValueError")) (Za 6)) Zk)))))) (slT ho way x h y (some (.lst [])) none) om=some (.ok (.nx,slT ho way x h y (some (blL (Xx v))) none),om++[.exc C]):=by
  unfold Qz
  rw[e]
  dsimp only
  rw[if_pos c1]
  have bb:=(Zg b1).trans b2
  refine (Zr (a:=(.nx,slT ho way x h y (some (blL (Xx v))) (some (.o om.length)))) (om1:=om++[.exc C]) ?_).trans rfl
  unfold Yo
  have hs:(slT ho way x h y (some (.lst [])) none).set 6 (some (.o om.length))=slT ho way x h y (some (.lst [])) (some (.o om.length)):=rfl
  rw[hs,bb]
 exact ZS ((Zg e1).trans ((Zg e2).trans (ZD (Zb rfl))))
theorem M9 (W:Wd c om hb hm hu hl size off f kvs) (S:Os c om ho hb hg off gs) (mo:Wu rows off kvs) (lk:Lk f.length rows) (hgl:gs.length < 100) {way:Nat} (hw:way<=2) {x h y:Int} (h0:vd off size f kvs way x h y=0):∃k o,Kept off f rows way x h y k o∧g__law_tried c [.o ho,.int (way:Nat),.int x,.int h,.int y] om=some (.ok (.lst []),om.set hg (.dk (Yt c off (Wz gs k o)))):=by
 obtain ⟨k,o,K,e⟩:=Fg W S mo lk hgl hw h0 (some (.lst [])) none
 refine ⟨k,o,K,?_⟩
 have e1:ZO 5 (fA ZV Zk) [some (.o ho),some (.int (way:Nat)),some (.int x),some (.int h),some (.int y),none,none] om=some (.ok (.nx,slT ho way x h y (some (.lst [])) none),om):=ZK (i:=5) ((ZG Zi).trans (Ys (by simp)))
 refine ZS ((Zg e1).trans ((Zg (sl1:=slT ho way x h y (some (.lst [])) none) (om1:=om.set hg (.dk (Yt c off (Wz gs k o)))) ?_).trans (ZD (Zb rfl))))
 exact Je e
end
open PySem L2
theorem OP {S:FS} {i h:Nat} {om:List Ob} {sl:Sl} {us:List Wv} {r:Wv} (hu:om[h]?=some (.lst us)) (hS:∀w∈us,S (sl.set i (some w)) om=some (.ok (.nx,sl.set i (some w)),om)∨∃sl2,S (sl.set i (some w)) om=some (.ok (.rt r,sl2),om)):∀(m:Nat) (x:Option Wv),m<=us.length->((∀w∈us.drop (us.length - m),S (sl.set i (some w)) om=some (.ok (.nx,sl.set i (some w)),om))∧∃y,VB (tgN i) S h us.length m (sl.set i x) om=some (.ok (.nx,sl.set i y),om))∨∃sl2,VB (tgN i) S h us.length m (sl.set i x) om=some (.ok (.rt r,sl2),om)
 |0,x,_=>.inl ⟨(fun w hw=>by rw[Nat.sub_zero,List.drop_length]at hw; cases hw),x,by
  show (match om[h]? with|some (.lst vs)=>(if vs.length=us.length then some (Except.ok (Fl.nx,sl.set i x),om) else none)|_=>none)=_
  rw[hu]
  exact if_pos rfl⟩
 |m+1,x,hm=>by
  have hlt:us.length - (m+1) < us.length:=by omega
  have hd:us.drop (us.length - (m+1))=us[us.length - (m+1)]::us.drop (us.length - m):=by rw[List.drop_eq_getElem_cons hlt,show us.length - (m+1)+1=us.length - m by omega]
  have hmem:us[us.length - (m+1)]∈us:=List.getElem_mem hlt
  have hge:us[us.length - (m+1)]?=some us[us.length - (m+1)]:=List.getElem?_eq_getElem hlt
  rw[hd]
  generalize us[us.length - (m+1)]=w at hmem hge
  have e0:VB (tgN i) S h us.length (m+1) (sl.set i x) om=bnd (S (sl.set i (some w))) (Um fun sl2=>VB (tgN i) S h us.length m sl2) om:=by
   show (match om[h]? with|some (.lst vs)=>(if vs.length=us.length then (match vs[us.length - (m+1)]? with|some w=>(match tgN i w (sl.set i x) with|some sl1=>bnd (S sl1) (Um fun sl2=>VB (tgN i) S h us.length m sl2) om|none=>none)|none=>none) else none)|_=>none)=_
   rw[hu]
   dsimp only
   rw[if_pos rfl,hge]
   have e1:tgN i w (sl.set i x)=some (sl.set i (some w)):=by unfold tgN; rw[List.set_set]
   dsimp only
   rw[e1]
  rw[e0]
  rcases hS w hmem with q|⟨sl2,q⟩
  ·rw[Zr q]
   rcases OP hu hS m (some w) (by omega) with ⟨ha,y,e⟩|⟨sl2,e⟩
   ·refine .inl ⟨fun v hv=>?_,y,e⟩
    rcases List.mem_cons.mp hv with rfl|hv
    ·exact q
    ·exact ha v hv
   ·exact .inr ⟨sl2,e⟩
  ·exact .inr ⟨sl2,(Zr q).trans rfl⟩
theorem HF {fa fb:FE} {sl:Sl} {om om1:List Ob} (h:fa sl om=some (.ok (.bl false),om1)):Wq fa fb sl om=some (.ok (.bl false),om1):=by simp[Wq,bnd,h,kB,L2.ret]
theorem J1 {fa fb:FE} {sl:Sl} {om om1:List Ob} (h:fa sl om=some (.ok (.bl true),om1)):Wq fa fb sl om=fb sl om1:=by simp[Wq,bnd,h,kB,L2.ret]
theorem KM {fa fb fc:FE} {sl:Sl} {om:List Ob} {a b d:Int} (h1:fa sl om=some (.ok (.int a),om)) (h2:fb sl om=some (.ok (.int b),om)) (h3:fc sl om=some (.ok (.int d),om)):X8 kLe kLt fa fb fc sl om=some (.ok (.bl (decide (a<=b)&&decide (b < d))),om):=by
 unfold X8
 rw[Zr h1,Zr h2]
 refine (Zr (a:=.bl (decide (a<=b))) (om1:=om) rfl).trans ((Zr (a:=decide (a<=b)) (om1:=om) rfl).trans ?_)
 cases decide (a<=b) with
 |false=>rw[if_neg Bool.false_ne_true]; rfl
 |true=>rw[if_pos rfl,Zr h3]; rfl
section
variable {c:CA} {om:List Ob} {many size off:Nat} {f:List (Option Int)} {kvs:List (List Key × Wv)} {rows:Mx}
theorem fr0 {sl:Sl} (h:sl[0]?=some (some (Zy many off size))):f2 kIx (Za 0) (fC (.int 0)) sl om=some (.ok (.int many),om):=(Zq (Zb h) Zo).trans (Zw (k:=0) rfl rfl)
theorem fr1 {sl:Sl} (h:sl[0]?=some (some (Zy many off size))):f2 kIx (Za 0) (fC (.int 1)) sl om=some (.ok (.int off),om):=(Zq (Zb h) Zo).trans (Zw (k:=1) rfl rfl)
theorem fr2 {sl:Sl} (h:sl[0]?=some (some (Zy many off size))):f2 kIx (Za 0) (fC (.int 2)) sl om=some (.ok (.int size),om):=(Zq (Zb h) Zo).trans (Zw (k:=2) rfl rfl)
def atN (many off:Nat) (x:Int):Option Nat:=if (off:Int)<=x∧x < (off:Int)+many then some (x - off).toNat else none
def atW:Option Nat->Wv
 |none=>.non
 |some k=>.int (k:Int)
theorem Vd {x:Int} {k:Nat} (h:atN many off x=some k):x=(off:Int)+k∧k < many:=by
 unfold atN at h
 split at h
 ·cases h; omega
 ·cases h
theorem Km (x:Int):g__law_at c [Zy many off size,.int x] om=some (.ok (atW (atN many off x)),om):=by
 have t:fB (X8 kLe kLt (f2 kIx (Za 0) (fC (.int 1))) (Za 1) (f2 YH (f2 kIx (Za 0) (fC (.int 1))) (f2 kIx (Za 0) (fC (.int 0))))) [some (Zy many off size),some (.int x)] om=some (.ok (decide ((off:Int)<=x)&&decide (x < (off:Int)+many)),om):=ZW (KM (fr1 rfl) (Zb rfl) ((Zq (fr1 rfl) (fr0 rfl)).trans rfl))
 unfold atN
 by_cases h:(off:Int)<=x∧x < (off:Int)+many
 ·rw[if_pos h]
  rw[decide_eq_true h.1,decide_eq_true h.2]at t
  refine ZS (YC ((Z6 t).trans (ZD ((Zq (Zb rfl) (fr1 rfl)).trans ?_))))
  show some (Except.ok (Wv.int (x - off)),om)=some (.ok (.int (((x - off).toNat:Nat):Int)),om)
  rw[show (((x - off).toNat:Nat):Int)=x - off by omega]
 ·rw[if_neg h]
  have:(decide ((off:Int)<=x)&&decide (x < (off:Int)+many))=false:=by
   rw[Bool.and_eq_false_iff]
   by_cases h1:(off:Int)<=x
   ·exact .inr (decide_eq_false fun z=>h ⟨h1,z⟩)
   ·exact .inl (decide_eq_false h1)
  rw[this]at t
  exact ZS ((Zg (ZL t)).trans (ZD Zo))
theorem Fy (hf:f.length=many) (x:Int):mU off f x=(match atN many off x with|some k=>(at' f k).isSome|none=>false):=by
 unfold mU atN
 rw[Vq]
 by_cases h:(off:Int)<=x∧x < (off:Int)+many
 ·rw[if_pos h,if_pos (by omega)]
 ·rw[if_neg h,if_neg (by omega)]; rfl
theorem ML (hf:f.length=many) (x:Int):g__law_manned c [Zy many off size,.lst (f.map Zx),.int x] om=some (.ok (.bl (mU off f x)),om):=by
 have a:fA (kN 2 (g__law_at c)) (Zc (Za 0) (Zc (Za 2) Zk)) [some (Zy many off size),some (.lst (f.map Zx)),some (.int x)] om=some (.ok (atW (atN many off x)),om):=(ZG (Zd (Zb rfl) (Zd (Zb rfl) Zi))).trans ((Xe rfl).trans (Km x))
 rw[Fy hf]
 cases hn:atN many off x with
 |none=>rw[hn]at a; exact ZS (ZD (HF ((Y8 a).trans rfl)))
 |some k =>
  rw[hn]at a
  have hk:=(Vd hn).2
  refine ZS (ZD ((J1 ((Y8 a).trans rfl)).trans ((Y8 ((Zq (Zb rfl) a).trans (XT (xs:=f) (f:=Zx) rfl (by omega) none))).trans (XI _ _))))
theorem Jw (mo:Wu rows off kvs) (lk:Lk many rows) (a b:Int):Yl kvs a b=(match atN many off a,atN many off b with|some i,some j=>YR rows i j|_,_=>false):=by
 refine Bool.eq_iff_iff.mpr ?_
 rw[mo]
 constructor
 ·rintro ⟨i,j,rfl,rfl,h⟩
  have hl:=lk.inr h
  have e1:atN many off ((off:Int)+i)=some i:=by unfold atN; rw[if_pos (by omega)]; congr 1; omega
  have e2:atN many off ((off:Int)+j)=some j:=by unfold atN; rw[if_pos (by omega)]; congr 1; omega
  rw[e1,e2]
  exact h
 ·intro h
  split at h
  ·rename_i i j h1 h2
   exact ⟨i,j,(Vd h1).1,(Vd h2).1,h⟩
  ·cases h
theorem Sv (mo:Wu rows off kvs) (lk:Lk many rows) (a b:Int):g__law_beside c [Zy many off size,.lst (rows.map Z7),.int a,.int b] om=some (.ok (.bl (Yl kvs a b)),om):=by
 rw[Jw mo lk]
 have e1:ZO 4 (fA (kN 2 (g__law_at c)) (Zc (Za 0) (Zc (Za 2) Zk))) [some (Zy many off size),some (.lst (rows.map Z7)),some (.int a),some (.int b),none,none] om=some (.ok (.nx,[some (Zy many off size),some (.lst (rows.map Z7)),some (.int a),some (.int b),some (atW (atN many off a)),none]),om):=ZK (i:=4) ((ZG (Zd (Zb rfl) (Zd (Zb rfl) Zi))).trans ((Xe rfl).trans (Km a)))
 have e2:ZO 5 (fA (kN 2 (g__law_at c)) (Zc (Za 0) (Zc (Za 3) Zk))) [some (Zy many off size),some (.lst (rows.map Z7)),some (.int a),some (.int b),some (atW (atN many off a)),none] om=some (.ok (.nx,[some (Zy many off size),some (.lst (rows.map Z7)),some (.int a),some (.int b),some (atW (atN many off a)),some (atW (atN many off b))]),om):=ZK (i:=5) ((ZG (Zd (Zb rfl) (Zd (Zb rfl) Zi))).trans ((Xe rfl).trans (Km b)))
 refine ZS ((Zg e1).trans ((Zg e2).trans (ZD ?_)))
 cases h1:atN many off a with
 |none=>exact HF ((Y8 (Zb rfl)).trans rfl)
 |some i =>
  refine (J1 ((Y8 (Zb rfl)).trans rfl)).trans ?_
  cases h2:atN many off b with
  |none=>exact HF ((Y8 (Zb rfl)).trans rfl)
  |some j =>
   refine (J1 ((Y8 (Zb rfl)).trans rfl)).trans ?_
   exact Q7 (p:=1) (q:=4) (r:=5) lk (Vd h1).2 (Vd h2).2 rfl rfl rfl
def rch (kvs:List (List Key × Wv)) (way:Nat) (x h y:Int):Bool:=match way with
 |0=>true
 |1=>Yl kvs x y
 |_=>!(decide (h=x) || !Yl kvs x y || (!decide (y=h)&&!Yl kvs h y))
theorem Jj {fa fb:FE} {sl:Sl} {om om1:List Ob} (h:fa sl om=some (.ok (.bl true),om1)):Qg fa fb sl om=some (.ok (.bl true),om1):=by simp[Qg,bnd,h,kB,L2.ret]
theorem KS {fa fb:FE} {sl:Sl} {om om1:List Ob} (h:fa sl om=some (.ok (.bl false),om1)):Qg fa fb sl om=fb sl om1:=by simp[Qg,bnd,h,kB,L2.ret]
theorem On (mo:Wu rows off kvs) (lk:Lk many rows) {way:Nat} (hw:way<=2) (x h y:Int):g__law_reached c [Zy many off size,.lst (rows.map Z7),.int (way:Nat),.int x,.int h,.int y] om=some (.ok (.bl (rch kvs way x h y)),om):=by
 have t1:fB (f2 kEq (Za 2) (fC (.int 1))) [some (Zy many off size),some (.lst (rows.map Z7)),some (.int (way:Nat)),some (.int x),some (.int h),some (.int y)] om=some (.ok (decide ((way:Int)=1)),om):=ZW ((Zq (Zb rfl) Zo).trans (YS _ _ _))
 have t2:fB (f2 kEq (Za 2) (fC (.int 2))) [some (Zy many off size),some (.lst (rows.map Z7)),some (.int (way:Nat)),some (.int x),some (.int h),some (.int y)] om=some (.ok (decide ((way:Int)=2)),om):=ZW ((Zq (Zb rfl) Zo).trans (YS _ _ _))
 have b1:fA (kN 4 (g__law_beside c)) (Zc (Za 0) (Zc (Za 1) (Zc (Za 3) (Zc (Za 5) Zk)))) [some (Zy many off size),some (.lst (rows.map Z7)),some (.int (way:Nat)),some (.int x),some (.int h),some (.int y)] om=some (.ok (.bl (Yl kvs x y)),om):=(ZG (Zd (Zb rfl) (Zd (Zb rfl) (Zd (Zb rfl) (Zd (Zb rfl) Zi))))).trans ((Xe rfl).trans (Sv mo lk x y))
 have b2:fA (kN 4 (g__law_beside c)) (Zc (Za 0) (Zc (Za 1) (Zc (Za 4) (Zc (Za 5) Zk)))) [some (Zy many off size),some (.lst (rows.map Z7)),some (.int (way:Nat)),some (.int x),some (.int h),some (.int y)] om=some (.ok (.bl (Yl kvs h y)),om):=(ZG (Zd (Zb rfl) (Zd (Zb rfl) (Zd (Zb rfl) (Zd (Zb rfl) Zi))))).trans ((Xe rfl).trans (Sv mo lk h y))
 have:way=0∨way=1∨way=2:=by omega
 rcases this with rfl|rfl|rfl
 ·exact ZS ((Zg (ZL t1)).trans ((Zg (ZL t2)).trans (ZD Zo)))
 ·exact ZS (YC ((Z6 t1).trans (ZD b1)))
 ·have q1:fB (f2 kEq (Za 4) (Za 3)) [some (Zy many off size),some (.lst (rows.map Z7)),some (.int ((2:Nat):Int)),some (.int x),some (.int h),some (.int y)] om=some (.ok (decide (h=x)),om):=ZW ((v2 rfl rfl).trans (YS _ _ _))
  have q2:f2 kEq (Za 5) (Za 4) [some (Zy many off size),some (.lst (rows.map Z7)),some (.int ((2:Nat):Int)),some (.int x),some (.int h),some (.int y)] om=some (.ok (.bl (decide (y=h))),om):=(v2 rfl rfl).trans (YS _ _ _)
  refine ZS ((Zg (ZL t1)).trans (YC ((Z6 t2).trans ?_))) (sl1:=[some (Zy many off size),some (.lst (rows.map Z7)),some (.int ((2:Nat):Int)),some (.int x),some (.int h),some (.int y)])
  unfold rch
  cases hA:decide (h=x) with
  |true=>rw[hA]at q1; exact YC ((Z6 (Nm q1)).trans (ZD Zo))
  |false =>
   rw[hA]at q1
   have q3:=X3 (X2 b1)
   cases hB:Yl kvs x y with
   |false=>rw[hB]at q3; exact YC ((Z6 ((TU q1).trans q3)).trans (ZD Zo))
   |true =>
    rw[hB]at q3
    refine (Zg (ZL ((TU q1).trans q3))).trans (ZD ?_)
    cases hC:decide (y=h) with
    |true=>rw[hC]at q2; exact Jj q2
    |false =>
     rw[hC]at q2
     refine (KS q2).trans (b2.trans ?_)
     cases Yl kvs h y <;> rfl
def QP (way:Nat) (x h y:Int):List Int:=match way with
 |0=>[x]
 |1=>[x,y]
 |_=>[x,y,h]
theorem Ey (way:Nat) (hw:way<=2) (x h y:Int):vd off size f kvs way x h y=if (QP way x h y).all (inP size) then (if !mU off f x || (decide (way=2)&&!mU off f h) then 2 else (if rch kvs way x h y then 0 else 3)) else 1:=by
 have:way=0∨way=1∨way=2:=by omega
 rcases this with rfl|rfl|rfl
 ·show (if inP size x then (if mU off f x then 0 else 2) else 1)=(if (inP size x&&true) then (if !mU off f x || (false&&!mU off f h) then 2 else 0) else 1)
  cases inP size x <;> cases mU off f x <;> rfl
 ·show (if (inP size x&&(inP size y&&true)) then (if (mU off f x&&true) then (if Yl kvs x y then 0 else 3) else 2) else 1)=(if (inP size x&&(inP size y&&true)) then (if !mU off f x || (false&&!mU off f h) then 2 else (if Yl kvs x y then 0 else 3)) else 1)
  cases inP size x <;> cases inP size y <;> cases mU off f x <;> rfl
 ·show (if (inP size x&&(inP size h&&(inP size y&&true))) then (if (mU off f x&&(mU off f h&&true)) then (if decide (h=x) || !Yl kvs x y || (!decide (y=h)&&!Yl kvs h y) then 3 else 0) else 2) else 1)=(if (inP size x&&(inP size y&&(inP size h&&true))) then (if !mU off f x || (true&&!mU off f h) then 2 else (if !(decide (h=x) || !Yl kvs x y || (!decide (y=h)&&!Yl kvs h y)) then 0 else 3)) else 1)
  generalize (decide (h=x) || !Yl kvs x y || (!decide (y=h)&&!Yl kvs h y))=z
  cases inP size x <;> cases inP size y <;> cases inP size h <;> cases mU off f x <;> cases mU off f h <;> cases z <;> rfl
end
open PySem L2
theorem Nf {S:FS} {i h:Nat} {om:List Ob} {sl:Sl} {us:List Wv} (hu:om[h]?=some (.lst us)) (hS:∀w∈us,S (sl.set i (some w)) om=some (.ok (.nx,sl.set i (some w)),om)):∀(m:Nat) (x:Option Wv),m<=us.length->∃y,VB (tgN i) S h us.length m (sl.set i x) om=some (.ok (.nx,sl.set i y),om)
 |0,x,_=>⟨x,by
  show (match om[h]? with|some (.lst vs)=>(if vs.length=us.length then some (Except.ok (Fl.nx,sl.set i x),om) else none)|_=>none)=_
  rw[hu]
  exact if_pos rfl⟩
 |m+1,x,hm=>by
  have hlt:us.length - (m+1) < us.length:=by omega
  obtain ⟨y,e⟩:=Nf hu hS m (some us[us.length - (m+1)]) (by omega)
  refine ⟨y,?_⟩
  show (match om[h]? with|some (.lst vs)=>(if vs.length=us.length then (match vs[us.length - (m+1)]? with|some w=>(match tgN i w (sl.set i x) with|some sl1=>bnd (S sl1) (Um fun sl2=>VB (tgN i) S h us.length m sl2) om|none=>none)|none=>none) else none)|_=>none)=_
  rw[hu]
  dsimp only
  rw[if_pos rfl,List.getElem?_eq_getElem hlt]
  have e1:tgN i us[us.length - (m+1)] (sl.set i x)=some (sl.set i (some us[us.length - (m+1)])):=by unfold tgN; rw[List.set_set]
  dsimp only
  rw[e1]
  dsimp only
  rw[Zr (hS _ (List.getElem_mem hlt))]
  exact e
theorem Qk (l:List Bool) (h:l.length<=8) (om:List Ob):ZV (l.map Wv.bl) om=some (.ok (blL l),om):=Ys (by rw[List.length_map]; exact h)
section
variable {c:CA} {om:List Ob} {ho hb hm hu hl hg many size off:Nat} {f:List (Option Int)} {kvs:List (List Key × Wv)} {gs:Gs} {rows:Mx} {told:List (Option Od)}
theorem Hl (mo:Wu rows off kvs) (lk:Lk many rows) (hf:f.length=many) {way:Nat} (hw:way<=2) {x h y:Int} {hN:Nat} (hn:om[hN]?=some (.lst [.int x,.int h,.int y])):g__law_due c [Zy many off size,.lst (rows.map Z7),.lst (f.map Zx),.int (way:Nat),.o hN] om=some (.ok (blL (Xx (vd off size f kvs way x h y))),om++[.lst ((QP way x h y).map Wv.int)]):=by
 have hlim:=Ye
 have hNl:hN < om.length:=by
  by_cases h:hN < om.length
  ·exact h
  ·rw[List.getElem?_eq_none (by omega)]at hn; cases hn
 have hq:∀l,YB (om++l) (.o hN)=some [.int x,.int h,.int y]:=fun l=>by
  have:(om++l)[hN]?=some (.lst [.int x,.int h,.int y]):=by rw[List.getElem?_append_left hNl]; exact hn
  simp[YB,this]
 have hq0:YB om (.o hN)=some [.int x,.int h,.int y]:=by simp[YB,hn]
 generalize hlw:Wv.lst (rows.map Z7)=lw
 generalize hsw:Wv.lst (f.map Zx)=sw
 let sl (x5 x6:Option Wv):Sl:=[some (Zy many off size),some lw,some sw,some (.int (way:Nat)),some (.o hN),x5,x6]
 have e1:ZO 5 (fA YI (Zc (f2 kIx (Za 4) (fC (.int 0))) Zk)) (sl none none) om=some (.ok (.nx,sl (some (.o om.length)) none),om++[.lst [.int x]]):=ZK (i:=5) ((ZG (Zd ((Zq (Zb rfl) Zo).trans (Zw (k:=0) hq0 rfl)) Zi)).trans (by
  unfold YI
  rw[if_pos (by simp; omega)]
  rfl))
 have t2:∀om',fB (f2 kGt (Za 3) (fC (.int 0))) (sl (some (.o om.length)) none) om'=some (.ok (decide ((way:Int) > 0)),om'):=fun om'=>ZW ((Zq (Zb rfl) Zo).trans rfl)
 have t3:∀x5 x6 om',fB (f2 kEq (Za 3) (fC (.int 2))) (sl x5 x6) om'=some (.ok (decide ((way:Int)=2)),om'):=fun x5 x6 om'=>ZW ((Zq (Zb rfl) Zo).trans (YS _ _ _))
 have e23:∀S3:FS,ZB (sIf (fB (f2 kGt (Za 3) (fC (.int 0)))) (ZP (SX (Za 5) (f2 kIx (Za 4) (fC (.int 2))))) Yq) (ZB (sIf (fB (f2 kEq (Za 3) (fC (.int 2)))) (ZP (SX (Za 5) (f2 kIx (Za 4) (fC (.int 1))))) Yq) S3) (sl (some (.o om.length)) none) (om++[.lst [.int x]])=S3 (sl (some (.o om.length)) none) (om++[.lst ((QP way x h y).map Wv.int)]):=fun S3=>by
  have:way=0∨way=1∨way=2:=by omega
  have a2:=QR (om:=om) (sl:=sl (some (.o om.length)) none) (i:=5) (l:=[]) (ws:=[.int x]) (w:=.int y) (fe:=f2 kIx (Za 4) (fC (.int 2))) rfl ((Zq (Zb rfl) Zo).trans (Zw (k:=2) (hq _) rfl)) (by simp; omega)
  have a3:=QR (om:=om) (sl:=sl (some (.o om.length)) none) (i:=5) (l:=[]) (ws:=[.int x,.int y]) (w:=.int h) (fe:=f2 kIx (Za 4) (fC (.int 1))) rfl ((Zq (Zb rfl) Zo).trans (Zw (k:=1) (hq _) rfl)) (by simp; omega)
  rcases this with rfl|rfl|rfl
  ·exact (Zg (ZL (t2 _))).trans (Zg (ZL (t3 _ _ _)))
  ·exact (Zg ((Z6 (t2 _)).trans a2)).trans (Zg (ZL (t3 _ _ _)))
  ·exact (Zg ((Z6 (t2 _)).trans a2)).trans (Zg ((Z6 (t3 _ _ _)).trans a3))
 have hL:∀u:List Int,(om++[Ob.lst (u.map Wv.int)])[om.length]?=some (.lst (u.map Wv.int)):=fun u=>by simp
 generalize hU:QP way x h y=U at e23
 have bz:∀z:Int,(YZ c) ((sl (some (.o om.length)) none).set 6 (some (.int z))) (om++[.lst (U.map Wv.int)])=if inP size z then some (.ok (.nx,(sl (some (.o om.length)) none).set 6 (some (.int z))),om++[.lst (U.map Wv.int)]) else some (.ok (.rt (blL (Xx 1)),(sl (some (.o om.length)) none).set 6 (some (.int z))),om++[.lst (U.map Wv.int)]):=fun z=>by
  have t:Wm (fB (X8 kLe kLt (fC (.int 0)) (Za 6) (f2 kIx (Za 0) (fC (.int 2))))) ((sl (some (.o om.length)) none).set 6 (some (.int z))) (om++[.lst (U.map Wv.int)])=some (.ok (!inP size z),om++[.lst (U.map Wv.int)]):=X3 (ZW (KM Zo (Zb rfl) (fr2 rfl)))
  cases hz:inP size z with
  |true=>rw[hz]at t; rw[if_pos rfl]; exact ZL t
  |false=>rw[hz]at t; rw[if_neg Bool.false_ne_true]; exact (Z6 t).trans (ZD ((ZG (Zd Zo (Zd Zo (Zd Zo (Zd Zo (Zd Zo (Zd Zo Zi))))))).trans (Qk (Xx 1) (by decide) _)))
 have lp:=OP (S:=YZ c) (i:=6) (h:=om.length) (om:=om++[.lst (U.map Wv.int)]) (sl:=sl (some (.o om.length)) none) (us:=U.map Wv.int) (r:=blL (Xx 1)) (hL U) (fun w hw=>by
  obtain ⟨z,hz,rfl⟩:=List.mem_map.mp hw
  have:=bz z
  cases hp:inP size z with
  |true=>rw[hp,if_pos rfl]at this; exact .inl this
  |false=>rw[hp,if_neg Bool.false_ne_true]at this; exact .inr ⟨_,this⟩) (U.map Wv.int).length none (Nat.le_refl _)
 have e4:∀r,VB (tgN 6) (YZ c) om.length (U.map Wv.int).length (U.map Wv.int).length (sl (some (.o om.length)) none) (om++[.lst (U.map Wv.int)])=r->Nk (Za 5) (tgN 6) (YZ c) (sl (some (.o om.length)) none) (om++[.lst (U.map Wv.int)])=r:=fun r e=>by
  unfold Nk
  rw[Zr (Zb rfl)]
  show (match (om++[Ob.lst (U.map Wv.int)])[om.length]? with|some (.lst us)=>VB (tgN 6) (YZ c) om.length us.length us.length _ _|_=>none)=_
  rw[hL U]
  exact e
 have hset:(sl (some (.o om.length)) none).set 6 none=sl (some (.o om.length)) none:=rfl
 rw[hset]at lp
 rw[Ey way hw]
 rw[hU]
 have mX:∀(j:Nat) (z:Int) (x5 x6:Option Wv),[Wv.int x,.int h,.int y][j]?=some (.int z)->XB (fA (kN 3 (g__law_manned c)) (Zc (Za 0) (Zc (Za 2) (Zc (f2 kIx (Za 4) (fC (.int j))) Zk)))) (sl x5 x6) (om++[.lst (U.map Wv.int)])=some (.ok (mU off f z),om++[.lst (U.map Wv.int)]):=fun j z x5 x6 hj=>X2 ((ZG (Zd (Zb rfl) (Zd (Zb rfl) (Zd ((Zq (Zb rfl) Zo).trans (Zw (k:=j) (hq _) hj)) Zi)))).trans ((Xe rfl).trans (by rw[← hsw]; exact ML hf z)))
 have rX:∀x5 x6,Wm (XB (fA (kN 6 (g__law_reached c)) (Zc (Za 0) (Zc (Za 1) (Zc (Za 3) (Zc (f2 kIx (Za 4) (fC (.int 0))) (Zc (f2 kIx (Za 4) (fC (.int 1))) (Zc (f2 kIx (Za 4) (fC (.int 2))) Zk)))))))) (sl x5 x6) (om++[.lst (U.map Wv.int)])=some (.ok (!rch kvs way x h y),om++[.lst (U.map Wv.int)]):=fun x5 x6=>X3 (X2 ((ZG (Zd (Zb rfl) (Zd (Zb rfl) (Zd (Zb rfl) (Zd ((Zq (Zb rfl) Zo).trans (Zw (k:=0) (hq _) rfl)) (Zd ((Zq (Zb rfl) Zo).trans (Zw (k:=1) (hq _) rfl)) (Zd ((Zq (Zb rfl) Zo).trans (Zw (k:=2) (hq _) rfl)) Zi))))))).trans ((Xe rfl).trans (by rw[← hlw]; exact On mo lk hw x h y))))
 cases hall:U.all (inP size) with
 |false =>
  rw[if_neg Bool.false_ne_true]
  rcases lp with ⟨ha,y',e⟩|⟨sl2,e⟩
  ·exfalso
   obtain ⟨z,hz,hnz⟩:=List.all_eq_false.mp hall
   have hnz:inP size z=false:=by simpa using hnz
   have h1:=ha (.int z) (by rw[Nat.sub_self,List.drop_zero]; exact List.mem_map.mpr ⟨z,hz,rfl⟩)
   have h2:=bz z
   rw[hnz,if_neg Bool.false_ne_true,h1]at h2
   cases h2
  ·exact ZS ((Zg e1).trans ((e23 _).trans (YC (e4 _ e))))
 |true =>
  rw[if_pos rfl]
  rcases lp with ⟨ha,y',e⟩|⟨sl2,e⟩
  ·have e4':=e4 _ e
   have hs6:(sl (some (.o om.length)) none).set 6 y'=sl (some (.o om.length)) y':=rfl
   rw[hs6]at e4'
   have m1:=X3 (mX 0 x (some (.o om.length)) y' rfl)
   have m2:Vg (fB (f2 kEq (Za 3) (fC (.int 2)))) (Wm (XB (fA (kN 3 (g__law_manned c)) (Zc (Za 0) (Zc (Za 2) (Zc (f2 kIx (Za 4) (fC (.int 1))) Zk)))))) (sl (some (.o om.length)) y') (om++[.lst (U.map Wv.int)])=some (.ok (decide (way=2)&&!mU off f h),om++[.lst (U.map Wv.int)]):=by
    have t:=t3 (some (.o om.length)) y' (om++[.lst (U.map Wv.int)])
    by_cases h2:way=2
    ·rw[decide_eq_true (show (way:Int)=2 by omega)]at t
     rw[decide_eq_true h2]
     exact (Qv t).trans (X3 (mX 1 h _ _ rfl))
    ·rw[decide_eq_false (show ¬ (way:Int)=2 by omega)]at t
     rw[decide_eq_false h2]
     exact OI t
   have c5:fOr (Wm (XB (fA (kN 3 (g__law_manned c)) (Zc (Za 0) (Zc (Za 2) (Zc (f2 kIx (Za 4) (fC (.int 0))) Zk)))))) (Vg (fB (f2 kEq (Za 3) (fC (.int 2)))) (Wm (XB (fA (kN 3 (g__law_manned c)) (Zc (Za 0) (Zc (Za 2) (Zc (f2 kIx (Za 4) (fC (.int 1))) Zk))))))) (sl (some (.o om.length)) y') (om++[.lst (U.map Wv.int)])=some (.ok (!mU off f x || (decide (way=2)&&!mU off f h)),om++[.lst (U.map Wv.int)]):=by
    cases hmx:mU off f x with
    |false=>rw[hmx]at m1; exact Nm m1
    |true=>rw[hmx]at m1; exact (TU m1).trans m2
   cases hz:(!mU off f x || (decide (way=2)&&!mU off f h)) with
   |true =>
    rw[hz]at c5
    rw[if_pos rfl]
    exact ZS ((Zg e1).trans ((e23 _).trans ((Zg e4').trans (YC ((Z6 c5).trans (ZD ((ZG (Zd Zo (Zd Zo (Zd Zo (Zd Zo (Zd Zo (Zd Zo Zi))))))).trans (Qk (Xx 2) (by decide) _))))))))
   |false =>
    rw[hz]at c5
    rw[if_neg Bool.false_ne_true]
    have c6:=rX (some (.o om.length)) y'
    cases hr:rch kvs way x h y with
    |false =>
     rw[hr]at c6
     rw[if_neg Bool.false_ne_true]
     exact ZS ((Zg e1).trans ((e23 _).trans ((Zg e4').trans ((Zg (ZL c5)).trans (YC ((Z6 c6).trans (ZD ((ZG (Zd Zo (Zd Zo (Zd Zo (Zd Zo (Zd Zo (Zd Zo Zi))))))).trans (Qk (Xx 3) (by decide) _)))))))))
    |true =>
     rw[hr]at c6
     rw[if_pos rfl]
     exact ZS ((Zg e1).trans ((e23 _).trans ((Zg e4').trans ((Zg (ZL c5)).trans ((Zg (ZL c6)).trans (ZD ((ZG Zi).trans (Ys (by simp)))))))))
  ·exfalso
   have hp:∀w∈U.map Wv.int,(YZ c) ((sl (some (.o om.length)) none).set 6 (some w)) (om++[.lst (U.map Wv.int)])=some (.ok (.nx,(sl (some (.o om.length)) none).set 6 (some w)),om++[.lst (U.map Wv.int)]):=fun w hw=>by
    obtain ⟨z,hz,rfl⟩:=List.mem_map.mp hw
    have:=bz z
    rw[List.all_eq_true.mp hall z hz,if_pos rfl]at this
    exact this
   obtain ⟨y2,e2⟩:=Nf (hL U) hp (U.map Wv.int).length none (Nat.le_refl _)
   rw[hset]at e2
   rw[e2]at e
   cases e
end
open PySem L2
def ZN (f:List (Option Int)):List Nat:=(List.range f.length).filter fun k=>(at' f k).isSome
def tdo (told:List (Option Od)) (k:Nat):Od:=(at' told k).getD .stand
theorem Kv {f:List (Option Int)} {k:Nat}:k∈ZN f ↔ ∃s,at' f k=some s:=by
 unfold ZN
 rw[List.mem_filter,List.mem_range,Option.isSome_iff_exists]
 exact ⟨fun h=>h.2,fun ⟨s,h⟩=>⟨Wa h,s,h⟩⟩
theorem WO (f:List (Option Int)):(ZN f).length<=f.length:=Nat.le_trans (List.length_filter_le _ _) (by simp)
theorem JI (f:List (Option Int)):(ZN f).Nodup:=List.Nodup.sublist List.filter_sublist List.nodup_range
def odP (off:Nat):Od->PyData
 |.stand=>.tuple [.str "stand"]
 |.move g=>.tuple [.str "move",.int ((off:Int)+g)]
 |.help h g=>.tuple [.str "help",.int ((off:Int)+h),.int ((off:Int)+g)]
theorem FJ (c:CA) (off:Nat) (o:Od) (om:List Ob):Wj om (unG c.STAND (odG c off o))=some (odP off o):=by
 cases o with
 |stand =>
  have:unG c.STAND (odG c off .stand)=stW:=QV _
  rw[this]
  rfl
 |move g=>rfl
 |help h g=>rfl
theorem LS {α:Type} (c:CA) (off:Nat) (om:List Ob) (F:α->Od):∀l:List α,pysOf om (l.map fun k=>unG c.STAND (odG c off (F k)))=some (l.map fun k=>odP off (F k))
 |[]=>rfl
 |k::r=>by
  show (match Wj om (unG c.STAND (odG c off (F k))),pysOf om (r.map fun k=>unG c.STAND (odG c off (F k))) with|some d,some ds=>some (d::ds)|_,_=>none)=_
  rw[FJ,LS c off om F r]
  rfl
theorem JZ {α:Type} (off:Nat) (F:α->Od) (l:List α):WK (.list (l.map fun k=>odP off (F k)))=true:=by
 have a:PyData.canLayAll0 (l.map fun k=>odP off (F k))=true∧PyData.depthAll (l.map fun k=>odP off (F k))<=1:=by
  induction l with
  |nil=>exact ⟨rfl,by simp[PyData.depthAll]⟩
  |cons n r ih =>
   have h1:(odP off (F n)).canLay0=true:=by cases F n <;> simp[odP,PyData.canLay0,PyData.canLayAll0,TF,V6,O4]
   have h2:(odP off (F n)).depth<=1:=by cases F n <;> simp[odP,PyData.depth,PyData.depthAll]
   exact ⟨by simp[PyData.canLayAll0,h1]; exact ih.1,by have:=ih.2; simp[PyData.depthAll]; omega⟩
 have:=a.2
 simp[WK,PyData.canLay0,PyData.depth,a.1]
 omega
theorem Ke {α:Type} {c:CA} {off:Nat} {om:List Ob} {x y:Wv} (F:α->Od) {l:List α} (hx:dG c.STAND om x=some (l.map fun k=>unG c.STAND (odG c off (F k)))) (hy:dG c.STAND om y=some (l.map fun k=>unG c.STAND (odG c off (F k)))):QG c.STAND false x y om=some (.ok (.bl true),om):=by
 unfold QG
 rw[hx,hy]
 have e:YW om (.lst (l.map fun k=>unG c.STAND (odG c off (F k))))=some (.list (l.map fun k=>odP off (F k))):=by
  show (pysOf om (l.map fun k=>unG c.STAND (odG c off (F k)))).map PyData.list=_
  rw[LS]
  rfl
 exact To e e (JZ off F l) false
theorem La {β:Type} (q:Nat->Bool) (h:Nat->β) (l:List Nat):((List.range l.length).filter fun j=>q (l.getD j 0)).map (fun j=>h (l.getD j 0))=(l.filter q).map h:=by
 have e:l=(List.range l.length).map fun j=>l.getD j 0:=by
  refine List.ext_getElem (by simp) fun i h1 h2=>?_
  rw[List.getElem_map,List.getElem_range,List.getD_eq_getElem?_getD,List.getElem?_eq_getElem h1]
  rfl
 conv=>rhs; rw[e,List.filter_map,List.map_map]
 rfl
theorem Tr {β:Type} (F:Nat->β) (w:β) (k:Nat):∀{l:List Nat} {p:Nat},l.Nodup->l[p]?=some k->(l.map F).set p w=l.map fun j=>if j=k then w else F j
 |[],_,_,h=>by cases h
 |a::l,0,nd,h=>by
  have e:a=k:=Option.some.inj h
  show w::l.map F=(if a=k then w else F a)::l.map fun j=>if j=k then w else F j
  rw[if_pos e]
  congr 1
  refine List.map_congr_left fun j hj=>?_
  rw[if_neg (fun z:j=k=>(List.nodup_cons.mp nd).1 (by rw[e,← z]; exact hj))]
 |a::l,p+1,nd,h=>by
  have h:l[p]?=some k:=h
  have ih:=Tr F w k (List.nodup_cons.mp nd).2 h
  show F a::(l.map F).set p w=(if a=k then w else F a)::l.map fun j=>if j=k then w else F j
  rw[ih,if_neg (fun z:a=k=>(List.nodup_cons.mp nd).1 (by rw[z]; exact List.mem_of_getElem? h))]
theorem P9 (p:Nat->Bool) {n k:Nat} (hk:k < n) (hp:p k=true):((List.range n).filter p)[((List.range k).filter p).length]?=some k:=by
 obtain ⟨m,rfl⟩:∃m,n=k+(m+1):=⟨n - k - 1,by omega⟩
 have:List.range (k+(m+1))=List.range k++k::(List.range m).map (fun j=>k+(j+1)):=by
  rw[List.range_add]
  congr 1
  rw[List.range_succ_eq_map,List.map_cons,List.map_map]
  rfl
 rw[this,List.filter_append,List.filter_cons,hp]
 simp
section
variable {c:CA} {om:List Ob} {ho hb hm hu hl hg many size off:Nat} {f:List (Option Int)} {kvs:List (List Key × Wv)} {gs:Gs} {rows:Mx} {told:List (Option Od)}
theorem Li (W:Wd c om hb hm hu hl size off f kvs) (S:Os c om ho hb hg off gs) (t:Tell gs (at' told)) (sm:Same' f (at' told)) {k:Nat} (hs:(at' f k).isSome=true) {sl:Sl} {i:Nat} {fe:FE} (s1:sl[i]?=some (some (.o ho))) (he:fe sl om=some (.ok (.int ((off:Int)+k)),om)):ZC c.Orders "told" 2 (Xg c) (Za i) (Zc fe Zk) sl om=some (.ok (odG c off (tdo told k)),om):=by
 obtain ⟨s,hs'⟩:=Option.isSome_iff_exists.mp hs
 have:=Jf W S hs'
 have h2:=sm k
 rw[hs]at h2
 obtain ⟨o,ho'⟩:=Option.isSome_iff_exists.mp h2
 rw[t.get k o ho']at this
 have e:tdo told k=o:=by unfold tdo; rw[ho']; rfl
 rw[e]
 exact (Zv (Zb s1) (Zt S.o) (ZR _ _ _ (by decide) (by decide)) (Zd he Zi) rfl).trans this
theorem Gf (W:Wd c om hb hm hu hl size off f kvs) (S:Os c om ho hb hg off gs) (t:Tell gs (at' told)) (sm:Same' f (at' told)) (hf:f.length=many) (h7:many<=7):g__law_all c [.o ho,Zy many off size,.lst (f.map Zx)] om=some (.ok (.lst ((ZN f).map fun k=>odG c off (tdo told k))),om):=by
 have hlim:=Ye
 have cr:=Xy (cT:=Ti c) (f:=Tf c) (mk:=fun w=>Xb [0,1,2] w [some (.o ho),some (Zy many off size),some (.lst (f.map Zx))]) (om:=om) (n:=many) (fun k=>(at' f k).isSome) (fun k=>odG c off (tdo told k)) (fun k hk=>ZW ((Y8 ((v2 rfl rfl).trans (XT (xs:=f) (f:=Zx) rfl (by omega) none))).trans (XI _ _))) (fun k hk hp=>Li W S t sm hp rfl ((Zq ((Zq (Zb rfl) Zo).trans (Zw (k:=1) rfl rfl)) (Zb rfl)).trans rfl))
 have hml:=WO f
 refine ZS (ZD ((VF (ws:=XD many) (om1:=om) ((Zr ((Zq (Zb rfl) Zo).trans (Zw (k:=0) rfl rfl))).trans (Yh _ _ (by omega))) (by rw[Y0]; omega) cr).trans ?_))
 have e:(List.range many).filter (fun k=>(at' f k).isSome)=ZN f:=by unfold ZN; rw[hf]
 rw[e]
 exact Ys (by rw[List.length_map]; omega)
theorem J0 (W:Wd c om hb hm hu hl size off f kvs) (S:Os c om ho hb hg off gs) (t:Tell gs (at' told)) (sm:Same' f (at' told)) (hf:f.length=many) (h7:many<=7):XS c [.o ho,Zy many off size,.lst (f.map Zx)] om=some (.ok (.o om.length),om++[.lst ((ZN f).map fun k=>odG c off (tdo told k))]):=by
 have hlim:=Ye
 have cr:=Xy (cT:=V8 c) (f:=Uw c) (mk:=fun w=>Xb [0,1,2] w [some (.o ho),some (Zy many off size),some (.lst (f.map Zx))]) (om:=om) (n:=many) (fun k=>(at' f k).isSome) (fun k=>odG c off (tdo told k)) (fun k hk=>ZW ((Y8 ((v2 rfl rfl).trans (XT (xs:=f) (f:=Zx) rfl (by omega) none))).trans (XI _ _))) (fun k hk hp=>Li W S t sm hp rfl ((Zq ((Zq (Zb rfl) Zo).trans (Zw (k:=1) rfl rfl)) (Zb rfl)).trans rfl))
 have hml:=WO f
 refine ZS (ZD ((VF (ws:=XD many) (om1:=om) ((Zr ((Zq (Zb rfl) Zo).trans (Zw (k:=0) rfl rfl))).trans (Yh _ _ (by omega))) (by rw[Y0]; omega) cr).trans ?_))
 have e:(List.range many).filter (fun k=>(at' f k).isSome)=ZN f:=by unfold ZN; rw[hf]
 rw[e]
 unfold YI
 rw[if_pos (by rw[List.length_map]; omega)]
 rfl
abbrev slL (ns:List Int) (many off size:Nat) (rows:Mx) (f:List (Option Int)) (way:Nat) (x7 x8 x9 x10 x11 x12 x13 x14:Option Wv):Sl:=[some (ZT ns),some (Zy many off size),some (.lst (rows.map Z7)),some (.lst (f.map Zx)),some (.o 4),some (.int (way:Nat)),some (.o 6),x7,x8,x9,x10,x11,x12,x13,x14]
theorem IN {ns:List Int} {way:Nat} (W:Wd c om 2 0 3 1 size off f kvs) (S:Os c om 4 2 5 off gs) (t:Tell gs (at' told)) (sm:Same' f (at' told)) (hf:f.length=many) (h7:many<=7) (hgl:gs.length<=60) {wv:Nat->Wv} (hw:∀k,unG c.STAND (wv k)=unG c.STAND (odG c off (tdo told k))) (hx:om[7]?=some (.lst ((ZN f).map wv))) (x7 x9 x10 x12 x13:Option Wv) :
    ∃sl',ZB (ZO 14 (Yu ZV [1,8,11] (fun sl=>bnd ((fA Y7 (Zc (Za 11) Zk)) sl) ZZ) (TH c) (Sk c))) (Yk (Wq (f2 (QG c.STAND false) (fA (kN 3 (g__law_all c)) (Zc (Za 4) (Zc (Za 1) (Zc (Za 3) Zk)))) (Za 11)) (f2 kEq (ZC c.Orders "movers" 1 (YN c) (Za 4) Zk) (Za 14))))
     (slL ns many off size rows f way x7 (some (.lst ((ZN f).map fun (k:Nat)=>Wv.int (k:Int)))) x9 x10 (some (.o 7)) x12 x13 none) om=some (.ok (.rt (.bl true),sl'),om):=by
 have hlim:=Ye
 have hml:=WO f
 have hq:YB om (.o 7)=some ((ZN f).map wv):=by simp[YB,hx]
 have od0:∀o:Od,kIx (unG c.STAND (odG c off o)) (.int 0) om=some (.ok (.str (odN o)),om):=fun o=>by
  cases o with
  |stand =>
   have:unG c.STAND (odG c off .stand)=stW:=QV _
   rw[this]
   exact Zw (k:=0) (xs:=[.str "stand"]) rfl rfl
  |move g=>exact Zw (k:=0) (xs:=[.str "move",.int ((off:Int)+g)]) rfl rfl
  |help h g=>exact Zw (k:=0) (xs:=[.str "help",.int ((off:Int)+h),.int ((off:Int)+g)]) rfl rfl
 have gk:∀j,j < (ZN f).length->kIx (.o 7) (.int (j:Nat)) om=some (.ok (wv ((ZN f).getD j 0)),om):=fun j hj=>XT (xs:=ZN f) (f:=wv) hq hj 0
 have e1:ZO 14 (Yu ZV [1,8,11] (fun sl=>bnd ((fA Y7 (Zc (Za 11) Zk)) sl) ZZ) (TH c) (Sk c)) (slL ns many off size rows f way x7 (some (.lst ((ZN f).map fun (k:Nat)=>Wv.int (k:Int)))) x9 x10 (some (.o 7)) x12 x13 none) om=some (.ok (.nx,slL ns many off size rows f way x7 (some (.lst ((ZN f).map fun (k:Nat)=>Wv.int (k:Int)))) x9 x10 (some (.o 7)) x12 x13 (some (.lst (((ZN f).filter fun k=>WG (some (tdo told k))).map fun (k:Nat)=>Wv.int ((off:Int)+k))))),om):=by
  have cr:=Xy (cT:=TH c) (f:=Sk c) (mk:=fun w=>Xb [1,8,11] w (slL ns many off size rows f way x7 (some (.lst ((ZN f).map fun (k:Nat)=>Wv.int (k:Int)))) x9 x10 (some (.o 7)) x12 x13 none)) (om:=om) (n:=((ZN f).map wv).length) (fun j=>WG (some (tdo told ((ZN f).getD j 0)))) (fun j=>Wv.int ((off:Int)+((ZN f).getD j 0:Nat))) (fun j hj=>by
   rw[List.length_map]at hj
   have e3:f2 (QH c.STAND) (f2 kIx (Za 3) (Za 0)) (fC (.int 0)) (Xb [1,8,11] (.int (j:Nat)) (slL ns many off size rows f way x7 (some (.lst ((ZN f).map fun (k:Nat)=>Wv.int (k:Int)))) x9 x10 (some (.o 7)) x12 x13 none)) om=some (.ok (.str (odN (tdo told ((ZN f).getD j 0)))),om):=(Zq ((v2 rfl rfl).trans (gk j hj)) Zo).trans (by
    show kIx (unG c.STAND (wv ((ZN f).getD j 0))) (.int 0) om=_
    rw[hw]
    exact od0 _)
   refine ZW ((Zq e3 Zo).trans ((Qr _ _ (Nq (tdo told ((ZN f).getD j 0))) V6 om).trans ?_))
   rw[GR]) (fun j hj _=>by
   rw[List.length_map]at hj
   exact (Zq ((Zq (Zb rfl) Zo).trans (Zw (k:=1) rfl rfl)) ((v2 rfl rfl).trans (XT (xs:=ZN f) (f:=fun (k:Nat)=>Wv.int (k:Int)) rfl hj 0))).trans rfl)
  refine ZK (i:=14) ((VF (ws:=XD ((ZN f).map wv).length) (om1:=om) (Tp (i:=11) rfl hq (by rw[List.length_map]; omega)) (by rw[Y0,List.length_map]; omega) cr).trans ?_)
  rw[List.length_map,La (fun k=>WG (some (tdo told k))) (fun k=>Wv.int ((off:Int)+k)) (ZN f)]
  have:=List.length_filter_le (fun k=>WG (some (tdo told k))) (ZN f)
  exact Ys (by rw[List.length_map]; omega)
 have em:((ZN f).filter fun k=>WG (some (tdo told k)))=(List.range f.length).filter fun k=>WG (at' told k):=by
  unfold ZN
  rw[List.filter_filter]
  refine List.filter_congr fun k _=>?_
  have h1:=sm k
  unfold tdo
  cases ho:at' told k with
  |none=>rw[ho]at h1; rw[← h1]; simp[WG]
  |some o=>rw[ho]at h1; rw[← h1]; simp
 rw[em]at e1
 have mv:=(Ms (n:=f.length) S t sm.lt hgl).1
 have c1:f2 (QG c.STAND false) (fA (kN 3 (g__law_all c)) (Zc (Za 4) (Zc (Za 1) (Zc (Za 3) Zk)))) (Za 11) (slL ns many off size rows f way x7 (some (.lst ((ZN f).map fun (k:Nat)=>Wv.int (k:Int)))) x9 x10 (some (.o 7)) x12 x13 (some (.lst (((List.range f.length).filter fun k=>WG (at' told k)).map fun (k:Nat)=>Wv.int ((off:Int)+k))))) om=some (.ok (.bl true),om):=by
  refine (Zq ((ZG (Zd (Zb rfl) (Zd (Zb rfl) (Zd (Zb rfl) Zi)))).trans ((Xe rfl).trans (Gf W S t sm hf h7))) (Zb rfl)).trans (Ke (off:=off) (tdo told) (l:=ZN f) ?_ ?_)
  ·show some (((ZN f).map fun k=>odG c off (tdo told k)).map (unG c.STAND))=_
   rw[List.map_map]
   rfl
  ·show (match om[7]? with|some (.lst ws)=>some (ws.map (unG c.STAND))|_=>none)=_
   rw[hx]
   show some (((ZN f).map wv).map (unG c.STAND))=_
   rw[List.map_map]
   congr 1
   exact List.map_congr_left fun k _=>hw k
 refine ⟨_,(Zg e1).trans (ZD ((J1 c1).trans ((Zq ((Zv (Zb rfl) (Zt S.o) (ZR _ _ _ (by decide) (by decide)) Zi rfl).trans mv) (Zb rfl)).trans ?_)))⟩
 have e2:(((List.range f.length).filter fun k=>WG (at' told k)).map fun (k:Nat)=>Wv.int ((off:Int)+k))=(Xp off (at' told) f.length).map Wv.int:=by unfold Xp; rw[List.map_map]; rfl
 rw[e2]
 exact To (Hg _ _) (Hg _ _) (UT _) false
end
open PySem L2
theorem OV (om:List Ob):∀l:List Bool,pysOf om (l.map Wv.bl)=some (l.map PyData.bool)
 |[]=>rfl
 |b::r=>by
  show (match Wj om (.bl b),pysOf om (r.map Wv.bl) with|some d,some ds=>some (d::ds)|_,_=>none)=_
  rw[OV om r]
  rfl
theorem V1 (l:List Bool):WK (.list (l.map PyData.bool))=true:=by
 have a:PyData.canLayAll0 (l.map PyData.bool)=true∧PyData.depthAll (l.map PyData.bool)=0:=by
  induction l with
  |nil=>exact ⟨rfl,rfl⟩
  |cons n r ih=>exact ⟨by simp[PyData.canLayAll0,PyData.canLay0]; exact ih.1,by simp[PyData.depthAll,PyData.depth]; exact ih.2⟩
 simp[WK,PyData.canLay0,PyData.depth,a.1,a.2]
theorem Sh (om:List Ob) (l:List Bool):YW om (blL l)=some (.list (l.map PyData.bool)):=by
 show (pysOf om (l.map Wv.bl)).map PyData.list=_
 rw[OV]; rfl
theorem Nh (om:List Ob) (l:List Bool):Wn false (blL l) (.lst []) om=some (.ok (.bl l.isEmpty),om):=by
 have h2:YW om (.lst [])=some (.list []):=rfl
 have h3:WK (.list [])=true:=V1 []
 unfold Wn
 rw[Sh,h2]
 dsimp only
 rw[V1 l,h3]
 cases l <;> rfl
theorem LX (om:List Ob) (l:List Int):Wn true (.lst (l.map Wv.int)) (.lst []) om=some (.ok (.bl (!l.isEmpty)),om):=by
 have h2:YW om (.lst [])=some (.list []):=rfl
 have h3:WK (.list [])=true:=UT []
 unfold Wn
 rw[Hg,h2]
 dsimp only
 rw[UT l,h3]
 cases l <;> rfl
theorem KL {om0 l:List Ob} {ws:List Wv} {w:Wv} {k:Nat} {sl:Sl} {fv fo fi:FE} (hv:fv sl (om0++.lst ws::l)=some (.ok w,om0++.lst ws::l)) (ho:fo sl (om0++.lst ws::l)=some (.ok (.o om0.length),om0++.lst ws::l)) (hi:fi sl (om0++.lst ws::l)=some (.ok (.int k),om0++.lst ws::l)) (hk:k < ws.length) :
    YY fv fo fi sl (om0++.lst ws::l)=some (.ok (.nx,sl),om0++.lst (ws.set k w)::l):=by
 unfold YY
 rw[Zr hv,Zr ho,Zr hi]
 refine (Zr (a:=()) (om1:=om0++.lst (ws.set k w)::l) ?_).trans rfl
 have l2:ixN ws.length (k:Int)=some k:=by
  unfold ixN
  rw[if_pos (by omega),if_pos (by omega),Int.toNat_natCast]
 have e:(om0++Ob.lst ws::l)[om0.length]?=some (.lst ws):=by simp
 have e3:(om0++Ob.lst ws::l).set om0.length (.lst (ws.set k w))=om0++.lst (ws.set k w)::l:=by
  rw[List.set_append_right _ _ (Nat.le_refl _),Nat.sub_self]; rfl
 unfold Sx
 simp only[Wc,e]
 rw[l2]
 dsimp only
 rw[e3]
theorem Ik {sl:Sl} {om:List Ob} {fa fb:FE} {a q:Int} (h:fa sl om=some (.ok (.int a),om)) (h2:fb sl om=some (.ok (.int q),om)) (hq:0 < q):f2 Ym fa fb sl om=some (.ok (.int (a % q)),om):=(Zq h h2).trans (by simp[kIc,L2.ret,hq])
structure Num (N:List Int):Prop where
 len:N.length=3
 sm:∀x∈N,x.natAbs < 1000
theorem Num.set {N:List Int} (n:Num N) (j:Nat) {v:Int} (hv:v.natAbs < 1000):Num (N.set j v):=⟨by rw[List.length_set]; exact n.len,fun x hx=>by
 rcases List.mem_or_eq_of_mem_set hx with h|h
 ·exact n.sm x h
 ·rw[h]; exact hv⟩
section
variable {c:CA} {ns:List Int} {many off size:Nat} {rows:Mx} {f:List (Option Int)} {X:List Ob} {way:Nat}
abbrev stN (X:List Ob) (N:List Int):List Ob:=X++[.lst (N.map Wv.int)]
theorem GV (hX:X.length=6) {N:List Int} {k:Nat} (hk:k < N.length) {sl:Sl} (h6:sl[6]?=some (some (.o 6))):f2 kIx (Za 6) (fC (.int k)) sl (stN X N)=some (.ok (.int (N.getD k 0)),stN X N):=(Zq (Zb h6) Zo).trans (by
 have:(stN X N)[6]?=some (.lst (N.map Wv.int)):=by rw[← hX]; simp
 exact XT (xs:=N) (f:=Wv.int) (by simp[YB,this]) hk 0)
theorem Uc (hX:X.length=6) {N:List Int} {k:Nat} (hk:k < N.length) {v:Int} {sl:Sl} {fv fi:FE} (h6:sl[6]?=some (some (.o 6))) (hv:fv sl (stN X N)=some (.ok (.int v),stN X N)) (hi:fi sl (stN X N)=some (.ok (.int (k:Nat)),stN X N)):YY fv (Za 6) fi sl (stN X N)=some (.ok (.nx,sl),stN X (N.set k v)):=by
 have:=KL (om0:=X) (l:=[]) (ws:=N.map Wv.int) (w:=.int v) (k:=k) (sl:=sl) (fv:=fv) (fo:=Za 6) (fi:=fi) hv (by rw[hX]; exact Zb h6) hi (by rw[List.length_map]; exact hk)
 rw[← List.map_set]at this
 exact this
theorem Nt {sl:Sl} {om:List Ob} (h0:sl[0]?=some (some (ZT ns))) (k:Nat):fA (kN 2 (g__law_cell_at c)) (Zc (Za 0) (Zc (fC (.int (k:Nat))) Zk)) sl om=some (.ok (.int (ns.getD k 0)),om):=VY c (ns:=ns) (k:=k) (i:=0) (fe:=fC (.int (k:Nat))) h0 Zo
theorem JB (hX:X.length=6) (hs:off+many<=size) (h60:size<=60):∃N y,Num N∧∀S3:FS,ZB (ZO 6 (Yu YI [0,1] (fun sl=>bnd ((fC (.int 3)) sl) ZZ) Vo (Qt c))) (ZB (Wb (fun sl=>bnd ((fC (.int 3)) sl) ZZ) (tgN 7) (Ot c)) S3) [some (ZT ns),some (Zy many off size),some (.lst (rows.map Z7)),some (.lst (f.map Zx)),some (.o 4),some (.int (way:Nat)),none,none,none,none,none,none,none,none,none] X=S3 (slL ns many off size rows f way y none none none none none none none) (stN X N):=by
 have hlim:=Ye
 have r3:∀sl om,(fun sl=>bnd ((fC (.int 3)) sl) ZZ) sl om=some (.ok (XD 3),om):=fun sl om=>(Zr Zo).trans (Yh 3 om (by omega))
 have cr:=Xy (cT:=Vo) (f:=Qt c) (mk:=fun w=>Xb [0,1] w [some (ZT ns),some (Zy many off size),some (.lst (rows.map Z7)),some (.lst (f.map Zx)),some (.o 4),some (.int (way:Nat)),none,none,none,none,none,none,none,none,none]) (om:=X) (n:=3) (fun _=>true) (fun k=>Wv.int ((off:Int)+ns.getD (18+k) 0 % ((many:Int)+1))) (fun k hk=>rfl) (fun k hk _=>(Zq ((Zq (Zb rfl) Zo).trans (Zw (k:=1) rfl rfl)) (Ik (VY c (ns:=ns) (k:=18+k) (i:=1) rfl ((Sr (a:=k) (Zb (i:=0) rfl)).trans (by simp))) ((Zq ((Zq (Zb rfl) Zo).trans (Zw (k:=0) rfl rfl)) Zo).trans rfl) (by omega))).trans rfl)
 rw[List.filter_eq_self.mpr (fun _ _=>rfl)]at cr
 have e1:ZO 6 (Yu YI [0,1] (fun sl=>bnd ((fC (.int 3)) sl) ZZ) Vo (Qt c)) [some (ZT ns),some (Zy many off size),some (.lst (rows.map Z7)),some (.lst (f.map Zx)),some (.o 4),some (.int (way:Nat)),none,none,none,none,none,none,none,none,none] X=some (.ok (.nx,slL ns many off size rows f way none none none none none none none none),stN X ((List.range 3).map fun k=>(off:Int)+ns.getD (18+k) 0 % ((many:Int)+1))):=by
  refine (ZK (i:=6) (w:=.o 6) (om1:=stN X ((List.range 3).map fun k=>(off:Int)+ns.getD (18+k) 0 % ((many:Int)+1))) ((VF (ws:=XD 3) (om1:=X) (r3 _ _) (by rw[Y0]; omega) cr).trans ?_)).trans rfl
  unfold YI
  rw[if_pos (by simp; omega)]
  show some (Except.ok (Wv.o X.length),_)=_
  rw[hX]
  show _=some (Except.ok (Wv.o 6),X++[Ob.lst (((List.range 3).map fun k=>(off:Int)+ns.getD (18+k) 0 % ((many:Int)+1)).map Wv.int)])
  rw[List.map_map]
  rfl
 obtain ⟨sl',om',hfor,N,y,rfl,rfl,hN⟩:=Xr (T:=tgN 7) (S:=Ot c) (n:=3) (fun m sl om'=>∃N y,sl=slL ns many off size rows f way y none none none none none none none∧om'=stN X N∧Num N) (sl:=slL ns many off size rows f way none none none none none none none none) (om:=stN X ((List.range 3).map fun k=>(off:Int)+ns.getD (18+k) 0 % ((many:Int)+1))) (fun m hm sl om' ⟨N,y,h1,h2,hN⟩=>by
  subst h1 h2
  have ce:fA (kN 2 (g__law_cell_at c)) (Zc (Za 0) (Zc (f2 YH (fC (.int 18)) (Za 7)) Zk)) (slL ns many off size rows f way (some (.int (m:Nat))) none none none none none none none) (stN X N)=some (.ok (.int (ns.getD (18+m) 0)),stN X N):=VY c (ns:=ns) (k:=18+m) (i:=0) rfl ((Sr (a:=m) (Zb (i:=7) rfl)).trans (by simp))
  have t:=Th (q:=1) (XY (q:=5) (W7 (q:=8) ce (by decide)) (by decide))
  by_cases hz:ns.getD (18+m) 0 / 8 % 5=1
  ·rw[decide_eq_true hz]at t
   have v:f2 Qj (f2 Ym (f2 WE (fA (kN 2 (g__law_cell_at c)) (Zc (Za 0) (Zc (f2 YH (fC (.int 18)) (Za 7)) Zk))) (fC (.int 40))) (fC (.int 200))) (fC (.int 70)) (slL ns many off size rows f way (some (.int (m:Nat))) none none none none none none none) (stN X N)=some (.ok (.int (ns.getD (18+m) 0 / 40 % 200 - 70)),stN X N):=(Zq (XY (q:=200) (W7 (q:=40) ce (by decide)) (by decide)) Zo).trans rfl
   exact ⟨_,.nx,_,_,rfl,(Z6 t).trans (Uc hX (k:=m) (by rw[hN.len]; exact hm) rfl v (Zb rfl)),.inl rfl,_,_,rfl,rfl,hN.set m (by omega)⟩
  ·rw[decide_eq_false hz]at t
   exact ⟨_,.nx,_,_,rfl,ZL t,.inl rfl,_,_,rfl,rfl,hN⟩) ⟨_,none,rfl,rfl,⟨by simp,fun x hx=>by
   obtain ⟨k,_,rfl⟩:=List.mem_map.mp hx
   have h1:=Int.emod_nonneg (ns.getD (18+k) 0) (show (many:Int)+1≠0 by omega)
   have h2:=Int.emod_lt_of_pos (ns.getD (18+k) 0) (show 0 < (many:Int)+1 by omega)
   omega⟩⟩
 exact ⟨N,y,hN,fun S3=>(Zg e1).trans (Zg (Y6 (sl1:=[]) (r3 _ _) hfor))⟩
theorem OZ (hX:X.length=6) {N:List Int} (hN:Num N) (y:Option Wv) (j:Nat) (hj:j < 3) (q:Int):∃N',Num N'∧sIf (fB (f2 kEq (f2 Ym (f2 WE (fA (kN 2 (g__law_cell_at c)) (Zc (Za 0) (Zc (fC (.int 17)) Zk))) (fC (.int 3))) (fC (.int 5))) (fC (.int q)))) (YY (f2 kIx (Za 6) (fC (.int 0))) (Za 6) (fC (.int (j:Nat)))) Yq (slL ns many off size rows f way y none none none none none none none) (stN X N)=some (.ok (.nx,slL ns many off size rows f way y none none none none none none none),stN X N'):=by
 have t:=Th (q:=q) (XY (q:=5) (W7 (q:=3) (Nt (c:=c) (ns:=ns) (sl:=slL ns many off size rows f way y none none none none none none none) (om:=stN X N) rfl 17) (by decide)) (by decide))
 by_cases hz:ns.getD 17 0 / 3 % 5=q
 ·rw[decide_eq_true hz]at t
  have h0:0 < N.length:=by rw[hN.len]; omega
  refine ⟨N.set j (N.getD 0 0),hN.set j (hN.sm _ ?_),(Z6 t).trans (Uc hX (by rw[hN.len]; exact hj) rfl (GV hX (k:=0) h0 rfl) Zo)⟩
  rw[List.getD_eq_getElem?_getD,List.getElem?_eq_getElem h0]
  exact List.getElem_mem h0
 ·rw[decide_eq_false hz]at t
  exact ⟨N,hN,ZL t⟩
end
open PySem L2
theorem Ko {l:List Nat} {k:Nat} (h:k < l.length):l.getD k 0∈l:=by
 rw[List.getD_eq_getElem?_getD,List.getElem?_eq_getElem h]
 exact List.getElem_mem h
theorem JG (a:Int) {m:Nat} (h:0 < m):∃k:Nat,a % (m:Int)=k∧k < m:=by
 have h1:=Int.emod_nonneg a (show (m:Int)≠0 by omega)
 have h2:=Int.emod_lt_of_pos a (show 0 < (m:Int) by omega)
 exact ⟨(a % m).toNat,by omega,by omega⟩
abbrev nL (l:List Nat):Wv:=.lst (l.map fun (k:Nat)=>Wv.int (k:Int))
theorem G5 (l:List Nat):nL l=.lst ((l.map fun (k:Nat)=>(k:Int)).map Wv.int):=by rw[List.map_map]; rfl
section
variable {c:CA} {ns:List Int} {many off size:Nat} {rows:Mx} {f:List (Option Int)} {X:List Ob} {way:Nat}
theorem Ov {sl:Sl} {om:List Ob} {i q:Nat} {l:List Nat} (h0:sl[0]?=some (some (ZT ns))) (hl:sl[i]?=some (some (nL l))) (hp:0 < l.length):∃k,k∈l∧f2 kIx (Za i) (f2 Ym (fA (kN 2 (g__law_cell_at c)) (Zc (Za 0) (Zc (fC (.int (q:Nat))) Zk))) (fA Y7 (Zc (Za i) Zk))) sl om=some (.ok (.int (k:Int)),om):=by
 obtain ⟨j,hj,hlt⟩:=JG (ns.getD q 0) hp
 refine ⟨l.getD j 0,Ko hlt,(Zq (Zb hl) ((Ik (Nt (c:=c) h0 q) ((ZG (Zd (Zb hl) Zi)).trans (V7 (xs:=l.map fun (k:Nat)=>Wv.int (k:Int)) rfl)) (by rw[List.length_map]; omega)).trans ?_)).trans (XT (xs:=l) (f:=fun (k:Nat)=>Wv.int (k:Int)) (k:=j) rfl hlt 0)⟩
 rw[List.length_map,hj]
theorem KB (hf:f.length=many) (h7:many<=7) {om:List Ob} (y:Option Wv):ZO 8 (Yu ZV [3] (fun sl=>bnd ((f2 kIx (Za 1) (fC (.int 0))) sl) ZZ) (Ow c) (OA c)) (slL ns many off size rows f way y none none none none none none none) om=some (.ok (.nx,slL ns many off size rows f way y (some (nL (ZN f))) none none none none none none),om):=by
 have hlim:=Ye
 have hml:=WO f
 have cr:=Xy (cT:=Ow c) (f:=OA c) (mk:=fun w=>Xb [3] w (slL ns many off size rows f way y none none none none none none none)) (om:=om) (n:=many) (fun k=>(at' f k).isSome) (fun k=>Wv.int (k:Int)) (fun k hk=>ZW ((Y8 ((v2 rfl rfl).trans (XT (xs:=f) (f:=Zx) rfl (by omega) none))).trans (XI _ _))) (fun k hk _=>Zb rfl)
 refine ZK (i:=8) ((VF (ws:=XD many) (om1:=om) ((Zr ((Zq (Zb rfl) Zo).trans (Zw (k:=0) rfl rfl))).trans (Yh _ _ (by omega))) (by rw[Y0]; omega) cr).trans ?_)
 have e:(List.range many).filter (fun k=>(at' f k).isSome)=ZN f:=by unfold ZN; rw[hf]
 rw[e]
 exact Ys (by rw[List.length_map]; omega)
noncomputable abbrev EA (c : CA) : FS:=(ZB (ZO 9 (f2 kIx (Za 8) (f2 Ym (fA (kN 2 (g__law_cell_at c)) (Zc (Za 0) (Zc (fC (.int 18)) Zk))) (fA Y7 (Zc (Za 8) Zk)))))
    (ZB (ZO 10 (f2 SC (Yu ZV [2,9] (fun sl=>bnd ((f2 kIx (Za 1) (fC (.int 0))) sl) ZZ) (Sf c) (TJ c)) (fA ZV (Zc (Za 9) Zk))))
    (ZB (YY (f2 YH (f2 kIx (Za 1) (fC (.int 1))) (Za 9)) (Za 6) (fC (.int 0)))
    (ZB (YY (f2 YH (f2 kIx (Za 1) (fC (.int 1))) (f2 kIx (Za 8) (f2 Ym (fA (kN 2 (g__law_cell_at c)) (Zc (Za 0) (Zc (fC (.int 19)) Zk))) (fA Y7 (Zc (Za 8) Zk))))) (Za 6) (fC (.int 1)))
    (YY (f2 YH (f2 kIx (Za 1) (fC (.int 1))) (f2 kIx (Za 10) (f2 Ym (fA (kN 2 (g__law_cell_at c)) (Zc (Za 0) (Zc (fC (.int 20)) Zk))) (fA Y7 (Zc (Za 10) Zk))))) (Za 6) (fC (.int 2)))))))
theorem K1 (hX:X.length=6) (lk:Lk many rows) (hf:f.length=many) (hs:off+many<=size) (h60:size<=60) (h7:many<=7) {N:List Int} (hN:Num N) (y:Option Wv):∃N' z9 z10,Num N'∧sIf (Vg (fB (f2 kNe (Za 8) (fA ZV Zk))) (fB (f2 kEq (f2 Ym (f2 WE (fA (kN 2 (g__law_cell_at c)) (Zc (Za 0) (Zc (fC (.int 17)) Zk))) (fC (.int 15))) (fC (.int 2))) (fC (.int 1))))) (EA c) Yq (slL ns many off size rows f way y (some (nL (ZN f))) none none none none none none) (stN X N)=some (.ok (.nx,slL ns many off size rows f way y (some (nL (ZN f))) z9 z10 none none none none),stN X N'):=by
 have hlim:=Ye
 have hml:=WO f
 have t1:fB (f2 kNe (Za 8) (fA ZV Zk)) (slL ns many off size rows f way y (some (nL (ZN f))) none none none none none none) (stN X N)=some (.ok (!((ZN f).map fun (k:Nat)=>(k:Int)).isEmpty),stN X N):=by
  rw[G5]
  exact ZW ((Zq (Zb rfl) ((ZG Zi).trans (Ys (by simp)))).trans (LX _ _))
 have t2:=Th (q:=1) (XY (q:=2) (W7 (q:=15) (Nt (c:=c) (ns:=ns) (sl:=slL ns many off size rows f way y (some (nL (ZN f))) none none none none none none) (om:=stN X N) rfl 17) (by decide)) (by decide))
 cases he:((ZN f).map fun (k:Nat)=>(k:Int)).isEmpty with
 |true=>rw[he]at t1; exact ⟨N,none,none,hN,ZL (OI t1)⟩
 |false =>
  rw[he]at t1
  have hp:0 < (ZN f).length:=by
   cases hq:ZN f with
   |nil=>rw[hq]at he; cases he
   |cons _ _=>simp
  by_cases hz:ns.getD 17 0 / 15 % 2=1
  ·rw[decide_eq_true hz]at t2
   have hin:∀k∈ZN f,k < many:=fun k hk=>by obtain ⟨s,h⟩:=Kv.mp hk; rw[← hf]; exact Wa h
   obtain ⟨p,hpm,ep⟩:=Ov (c:=c) (ns:=ns) (sl:=slL ns many off size rows f way y (some (nL (ZN f))) none none none none none none) (om:=stN X N) (i:=8) (q:=18) rfl rfl hp
   have hpk:=hin p hpm
   have e1:=ZK (i:=9) ep
   have cr:=Xy (cT:=Sf c) (f:=TJ c) (mk:=fun w=>Xb [2,9] w (slL ns many off size rows f way y (some (nL (ZN f))) (some (.int (p:Int))) none none none none none)) (om:=stN X N) (n:=many) (fun k=>YR rows p k) (fun k=>Wv.int (k:Int)) (fun k hk=>X2 (Q7 (p:=1) (q:=2) (r:=0) lk hpk hk rfl rfl rfl)) (fun k hk _=>Zb rfl)
   have hfl:=List.length_filter_le (fun k=>YR rows p k) (List.range many)
   rw[List.length_range]at hfl
   have ec:Yu ZV [2,9] (fun sl=>bnd ((f2 kIx (Za 1) (fC (.int 0))) sl) ZZ) (Sf c) (TJ c) (slL ns many off size rows f way y (some (nL (ZN f))) (some (.int (p:Int))) none none none none none) (stN X N)=some (.ok (nL ((List.range many).filter fun k=>YR rows p k)),stN X N):=(VF (ws:=XD many) (om1:=stN X N) ((Zr ((Zq (Zb rfl) Zo).trans (Zw (k:=0) rfl rfl))).trans (Yh _ _ (by omega))) (by rw[Y0]; omega) cr).trans (Ys (by rw[List.length_map]; omega))
   have e2:ZO 10 (f2 SC (Yu ZV [2,9] (fun sl=>bnd ((f2 kIx (Za 1) (fC (.int 0))) sl) ZZ) (Sf c) (TJ c)) (fA ZV (Zc (Za 9) Zk))) (slL ns many off size rows f way y (some (nL (ZN f))) (some (.int (p:Int))) none none none none none) (stN X N)=some (.ok (.nx,slL ns many off size rows f way y (some (nL (ZN f))) (some (.int (p:Int))) (some (nL (((List.range many).filter fun k=>YR rows p k)++[p]))) none none none none),stN X N):=by
    refine ZK (i:=10) ((Zq ec ((ZG (Zd (Zb rfl) Zi)).trans (Ys (by simp)))).trans ?_)
    show (if _ then some (Except.ok (Wv.lst _),stN X N) else none)=_
    rw[if_pos (by simp only[List.length_map,List.length_cons,List.length_nil]; omega)]
    show _=some (Except.ok (Wv.lst ((((List.range many).filter fun k=>YR rows p k)++[p]).map fun (k:Nat)=>Wv.int (k:Int))),stN X N)
    rw[List.map_append]
    rfl
   generalize hL:((List.range many).filter fun k=>YR rows p k)++[p]=Ln at e2
   have hLp:0 < Ln.length:=by rw[← hL]; simp
   have hLm:∀k∈Ln,k < many:=fun k hk=>by
    rw[← hL]at hk
    rcases List.mem_append.mp hk with h|h
    ·exact List.mem_range.mp (List.mem_filter.mp h).1
    ·simp at h; rw[h]; exact hpk
   have f1':∀{N:List Int} {fe:FE} {v:Nat},fe (slL ns many off size rows f way y (some (nL (ZN f))) (some (.int (p:Int))) (some (nL Ln)) none none none none) (stN X N)=some (.ok (.int (v:Int)),stN X N)->f2 YH (f2 kIx (Za 1) (fC (.int 1))) fe (slL ns many off size rows f way y (some (nL (ZN f))) (some (.int (p:Int))) (some (nL Ln)) none none none none) (stN X N)=some (.ok (.int ((off:Int)+v)),stN X N):=fun h=>(Zq ((Zq (Zb rfl) Zo).trans (Zw (k:=1) rfl rfl)) h).trans rfl
   have e3:=Uc hX (N:=N) (k:=0) (v:=(off:Int)+p) (sl:=slL ns many off size rows f way y (some (nL (ZN f))) (some (.int (p:Int))) (some (nL Ln)) none none none none) (fi:=fC (.int 0)) (by rw[hN.len]; decide) rfl (f1' (Zb (i:=9) rfl)) Zo
   have N1:Num (N.set 0 ((off:Int)+p)):=hN.set 0 (by omega)
   generalize N.set 0 ((off:Int)+p)=Na at e3 N1
   obtain ⟨p2,hpm2,ep2⟩:=Ov (c:=c) (ns:=ns) (sl:=slL ns many off size rows f way y (some (nL (ZN f))) (some (.int (p:Int))) (some (nL Ln)) none none none none) (om:=stN X Na) (i:=8) (q:=19) rfl rfl hp
   have hpk2:=hin p2 hpm2
   have e4:=Uc hX (N:=Na) (k:=1) (v:=(off:Int)+p2) (sl:=slL ns many off size rows f way y (some (nL (ZN f))) (some (.int (p:Int))) (some (nL Ln)) none none none none) (fi:=fC (.int 1)) (by rw[N1.len]; decide) rfl (f1' ep2) Zo
   have N2:Num (Na.set 1 ((off:Int)+p2)):=N1.set 1 (by omega)
   generalize Na.set 1 ((off:Int)+p2)=Nb at e4 N2
   obtain ⟨p3,hpm3,ep3⟩:=Ov (c:=c) (ns:=ns) (sl:=slL ns many off size rows f way y (some (nL (ZN f))) (some (.int (p:Int))) (some (nL Ln)) none none none none) (om:=stN X Nb) (i:=10) (q:=20) rfl rfl hLp
   have hpk3:=hLm p3 hpm3
   have e5:=Uc hX (N:=Nb) (k:=2) (v:=(off:Int)+p3) (sl:=slL ns many off size rows f way y (some (nL (ZN f))) (some (.int (p:Int))) (some (nL Ln)) none none none none) (fi:=fC (.int 2)) (by rw[N2.len]; decide) rfl (f1' ep3) Zo
   exact ⟨_,_,_,N2.set 2 (by omega),(Z6 ((Qv t1).trans t2)).trans ((Zg e1).trans ((Zg e2).trans ((Zg e3).trans ((Zg e4).trans e5))))⟩
  ·rw[decide_eq_false hz]at t2
   exact ⟨N,none,none,hN,ZL ((Qv t1).trans t2)⟩
end
open PySem L2
def SK (way:Nat) (h y:Int):Wv:=match way with
 |0=>.tup [.str "stand"]
 |1=>.tup [.str "move",.int y]
 |_=>.tup [.str "help",.int h,.int y]
theorem Kg (p:Nat->Bool) (m:Nat):((List.range (m+1)).filter p).length=((List.range m).filter p).length+(if p m then 1 else 0):=by
 rw[List.range_succ,List.filter_append,List.length_append]
 cases h:p m <;> simp[List.filter_cons,h]
section
variable {c:CA} {ns:List Int} {many off size:Nat} {rows:Mx} {f:List (Option Int)} {kvs:List (List Key × Wv)} {gs:Gs} {told:List (Option Od)} {X:List Ob} {way:Nat}
noncomputable abbrev ED (c:CA):FS:=ZB (ZO 14 (Yu ZV [1,8,11] (fun sl=>bnd ((fA Y7 (Zc (Za 11) Zk)) sl) ZZ) (TH c) (Sk c))) (Yk (Wq (f2 (QG c.STAND false) (fA (kN 3 (g__law_all c)) (Zc (Za 4) (Zc (Za 1) (Zc (Za 3) Zk)))) (Za 11)) (f2 kEq (ZC c.Orders "movers" 1 (YN c) (Za 4) Zk) (Za 14))))
noncomputable abbrev G7 (c : CA) : FS:=(ZB (ZO 11 (fA (kN 3 (XS c)) (Zc (Za 4) (Zc (Za 1) (Zc (Za 3) Zk)))))
    (ZB (ZO 12 (fA (kN 5 (g__law_due c)) (Zc (Za 1) (Zc (Za 2) (Zc (Za 3) (Zc (Za 5) (Zc (Za 6) Zk)))))))
    (ZB (sIf (fB (f2 kNe (fA (kN 5 (g__law_tried c)) (Zc (Za 4) (Zc (Za 5) (Zc (f2 kIx (Za 6) (fC (.int 0))) (Zc (f2 kIx (Za 6) (fC (.int 1))) (Zc (f2 kIx (Za 6) (fC (.int 2))) Zk)))))) (Za 12))) (Yk (fC (.bl false))) Yq)
    (ZB (sIf (fB (f2 kEq (Za 12) (fA ZV Zk))) (ZB (ZO 13 (fC (.int 0)))
    (ZB (Wb (fun sl=>bnd ((f2 Qj (f2 kIx (Za 6) (fC (.int 0))) (f2 kIx (Za 1) (fC (.int 1)))) sl) ZZ) (tgN 7) (Oh c))
    (YY (f2 kIx (fA ZV (Zc (fA Xu (Zc (fC (.str "stand")) Zk)) (Zc (fA Xu (Zc (fC (.str "move")) (Zc (f2 kIx (Za 6) (fC (.int 2))) Zk))) (Zc (fA Xu (Zc (fC (.str "help")) (Zc (f2 kIx (Za 6) (fC (.int 1))) (Zc (f2 kIx (Za 6) (fC (.int 2))) Zk)))) Zk)))) (Za 5)) (Za 11) (Za 13)))) Yq)
    (ED c)))))
theorem HC (hc:CAok c) (hX:X.length=6) (W:Wd c X 2 0 3 1 size off f kvs) (S:Os c X 4 2 5 off gs) (t:Tell gs (at' told)) (sm:Same' f (at' told)) (htl:told.length=f.length) (mo:Wu rows off kvs) (lk:Lk many rows) (hf:f.length=many) (h7:many<=7) (hw:way<=2) {N:List Int} (hN:Num N) (y9 z9 z10:Option Wv) :
    ∃sl' om',G7 c (slL ns many off size rows f way y9 (some (nL (ZN f))) z9 z10 none none none none) (stN X N)=some (.ok (.rt (.bl true),sl'),om'):=by
 have hlim:=Ye
 have hml:=WO f
 have hgl:gs.length<=f.length:=t.len sm.lt
 obtain ⟨x,h,y,rfl⟩:∃x h y,N=[x,h,y]:=by
  match N,hN.len with
  |[x,h,y],_=>exact ⟨x,h,y,rfl⟩
 have hx:=hN.sm x (.head _)
 have hh:=hN.sm h (.tail _ (.head _))
 have hy:=hN.sm y (.tail _ (.tail _ (.head _)))
 let A:List Wv:=(ZN f).map fun k=>odG c off (tdo told k)
 let U:List Wv:=(QP way x h y).map Wv.int
 have hn6:∀(Y:List Ob) (hY:Y.length=6) (l:List Ob),(stN Y [x,h,y]++l)[6]?=some (.lst [.int x,.int h,.int y]):=fun Y hY l=>by
  have:(Y++Ob.lst [.int x,.int h,.int y]::l)[Y.length]?=some (.lst [.int x,.int h,.int y]):=by simp
  rw[hY]at this
  simpa using this
 have W1:=W.grow [.lst ([x,h,y].map Wv.int)]
 have S1:=S.grow [.lst ([x,h,y].map Wv.int)]
 have hl7:∀(Y:List Ob),Y.length=6->(stN Y [x,h,y]).length=7:=fun Y hY=>by simp[hY]
 have e1:ZO 11 (fA (kN 3 (XS c)) (Zc (Za 4) (Zc (Za 1) (Zc (Za 3) Zk)))) (slL ns many off size rows f way y9 (some (nL (ZN f))) z9 z10 none none none none) (stN X [x,h,y])=some (.ok (.nx,slL ns many off size rows f way y9 (some (nL (ZN f))) z9 z10 (some (.o 7)) none none none),stN X [x,h,y]++[.lst A]):=by
  have:=J0 W1 S1 t sm hf h7
  rw[hl7 X hX]at this
  exact ZK (i:=11) ((ZG (Zd (Zb rfl) (Zd (Zb rfl) (Zd (Zb rfl) Zi)))).trans ((Xe rfl).trans this))
 have e2:ZO 12 (fA (kN 5 (g__law_due c)) (Zc (Za 1) (Zc (Za 2) (Zc (Za 3) (Zc (Za 5) (Zc (Za 6) Zk)))))) (slL ns many off size rows f way y9 (some (nL (ZN f))) z9 z10 (some (.o 7)) none none none) (stN X [x,h,y]++[.lst A])=some (.ok (.nx,slL ns many off size rows f way y9 (some (nL (ZN f))) z9 z10 (some (.o 7)) (some (blL (Xx (vd off size f kvs way x h y)))) none none),stN X [x,h,y]++[.lst A]++[.lst U]):=ZK (i:=12) ((ZG (Zd (Zb rfl) (Zd (Zb rfl) (Zd (Zb rfl) (Zd (Zb rfl) (Zd (Zb rfl) Zi)))))).trans ((Xe rfl).trans (Hl mo lk hf hw (hn6 X hX _))))
 have cA:∀Y:List Ob,stN Y [x,h,y]++[.lst A]++[.lst U]=stN Y [x,h,y]++[.lst A,.lst U]:=fun Y=>by simp
 rw[cA]at e2
 have sq:∀(Y:List Ob) (hY:Y.length=6) (l:List Ob),YB (stN Y [x,h,y]++l) (.o 6)=some [.int x,.int h,.int y]:=fun Y hY l=>by
  show (match (stN Y [x,h,y]++l)[6]? with|some (.lst ws)=>some ws|_=>none)=_
  rw[hn6 Y hY l]
 have nx:∀(Y:List Ob) (hY:Y.length=6) (l:List Ob) (j:Nat) (v:Int) (sl:Sl),sl[6]?=some (some (.o 6))->[Wv.int x,.int h,.int y][j]?=some (.int v)->f2 kIx (Za 6) (fC (.int j)) sl (stN Y [x,h,y]++l)=some (.ok (.int v),stN Y [x,h,y]++l):=fun Y hY l j v sl h6 hj=>(Zq (Zb h6) Zo).trans (Zw (k:=j) (sq Y hY l) hj)
 have tr:∀{r:Wv} {om2:List Ob},g__law_tried c [.o 4,.int (way:Nat),.int x,.int h,.int y] (stN X [x,h,y]++[.lst A,.lst U])=some (.ok r,om2)->fA (kN 5 (g__law_tried c)) (Zc (Za 4) (Zc (Za 5) (Zc (f2 kIx (Za 6) (fC (.int 0))) (Zc (f2 kIx (Za 6) (fC (.int 1))) (Zc (f2 kIx (Za 6) (fC (.int 2))) Zk))))) (slL ns many off size rows f way y9 (some (nL (ZN f))) z9 z10 (some (.o 7)) (some (blL (Xx (vd off size f kvs way x h y)))) none none) (stN X [x,h,y]++[.lst A,.lst U])=some (.ok r,om2):=fun e=>(ZG (Zd (Zb rfl) (Zd (Zb rfl) (Zd (nx X hX _ 0 x _ rfl rfl) (Zd (nx X hX _ 1 h _ rfl rfl) (Zd (nx X hX _ 2 y _ rfl rfl) Zi)))))).trans ((Xe rfl).trans e)
 have W2:=W1.grow [.lst A,.lst U]
 have S2:=S1.grow [.lst A,.lst U]
 by_cases h0:vd off size f kvs way x h y=0
 ·obtain ⟨k,o,K,et⟩:=M9 W2 S2 mo (by rw[hf]; exact lk) (by omega) hw h0
  rw[h0]at e2 tr
  have et:=tr et
  generalize hX':X.set 5 (.dk (Yt c off (Wz gs k o)))=X'
  have hXl':X'.length=6:=by rw[← hX',List.length_set]; exact hX
  have hs5:(stN X [x,h,y]++[Ob.lst A,Ob.lst U]).set 5 (.dk (Yt c off (Wz gs k o)))=stN X' [x,h,y]++[.lst A,.lst U]:=by
   show ((X++[Ob.lst ([x,h,y].map Wv.int)])++[Ob.lst A,Ob.lst U]).set 5 _=(X'++[Ob.lst ([x,h,y].map Wv.int)])++[Ob.lst A,Ob.lst U]
   rw[← hX',List.append_assoc,List.set_append_left _ _ (by omega),← List.append_assoc]
  rw[hs5]at et
  have W3:Wd c X' 2 0 3 1 size off f kvs:=by rw[← hX']; exact W.set S.g (by decide)
  have S3:Os c X' 4 2 5 off (Wz gs k o):=by rw[← hX']; exact S.at _
  have hkf:k < f.length:=K.lt
  have hksome:(at' f k).isSome=true:=by
   have:=K.ok
   cases o with
   |stand=>exact this
   |move g=>exact this.1
   |help a b=>exact this.1
  have t3:Tell (Wz gs k o) (at' (told.set k (some o))):=by rw[← MT (by omega)]; exact t.put k o
  have td:∀j,at' (told.set k (some o)) j=if j=k then some o else at' told j:=fun j=>(congrFun (MT (told:=told) (k:=k) (by omega) o) j).symm
  have sm3:Same' f (at' (told.set k (some o))):=fun j=>by
   rw[td]
   by_cases hj:j=k
   ·rw[if_pos hj,hj,hksome]; rfl
   ·rw[if_neg hj]; exact sm j
  have hgl3:(Wz gs k o).length<=f.length:=t3.len sm3.lt
  have c3:fB (f2 kNe (fA (kN 5 (g__law_tried c)) (Zc (Za 4) (Zc (Za 5) (Zc (f2 kIx (Za 6) (fC (.int 0))) (Zc (f2 kIx (Za 6) (fC (.int 1))) (Zc (f2 kIx (Za 6) (fC (.int 2))) Zk)))))) (Za 12)) (slL ns many off size rows f way y9 (some (nL (ZN f))) z9 z10 (some (.o 7)) (some (blL (Xx 0))) none none) (stN X [x,h,y]++[.lst A,.lst U])=some (.ok false,stN X' [x,h,y]++[.lst A,.lst U]):=ZW ((Zq et (Zb rfl)).trans (To (Sh _ []) (Sh _ []) (V1 []) true))
  have c4:fB (f2 kEq (Za 12) (fA ZV Zk)) (slL ns many off size rows f way y9 (some (nL (ZN f))) z9 z10 (some (.o 7)) (some (blL (Xx 0))) none none) (stN X' [x,h,y]++[.lst A,.lst U])=some (.ok true,stN X' [x,h,y]++[.lst A,.lst U]):=ZW ((Zq (Zb rfl) ((ZG Zi).trans (Ys (by simp)))).trans (Nh _ []))
  have hxk:x=(off:Int)+k:=K.at_
  obtain ⟨sl',om',hfor,rfl,w7,rfl⟩:=Xr (T:=tgN 7) (S:=Oh c) (n:=k) (fun m sl om'=>om'=stN X' [x,h,y]++[.lst A,.lst U]∧∃w7,sl=slL ns many off size rows f way w7 (some (nL (ZN f))) z9 z10 (some (.o 7)) (some (blL (Xx 0))) (some (.int ((((List.range m).filter fun j=>(at' f j).isSome).length:Nat):Int))) none) (sl:=slL ns many off size rows f way y9 (some (nL (ZN f))) z9 z10 (some (.o 7)) (some (blL (Xx 0))) (some (.int 0)) none) (om:=stN X' [x,h,y]++[.lst A,.lst U]) (fun m hm sl om' ⟨h1,w7,h2⟩=>by
   subst h1 h2
   refine ⟨_,.nx,_,_,rfl,ZK (i:=13) ((Zq (Zb rfl) ((ZG (Zd ((Y8 ((v2 rfl rfl).trans (XT (xs:=f) (f:=Zx) rfl (show m < f.length by omega) none))).trans (XI _ _)) Zi)).trans rfl)).trans rfl),.inl rfl,rfl,some (.int (m:Nat)),?_⟩
   have:((((List.range (m+1)).filter fun j=>(at' f j).isSome).length:Nat):Int)=(((List.range m).filter fun j=>(at' f j).isSome).length:Nat)+(if (at' f m).isSome then 1 else 0):=by
    rw[Kg (fun j=>(at' f j).isSome) m]
    cases (at' f m).isSome <;> simp
   rw[this]
   rfl) ⟨rfl,_,rfl⟩
  have rg:(fun sl=>bnd ((f2 Qj (f2 kIx (Za 6) (fC (.int 0))) (f2 kIx (Za 1) (fC (.int 1)))) sl) ZZ) (slL ns many off size rows f way y9 (some (nL (ZN f))) z9 z10 (some (.o 7)) (some (blL (Xx 0))) (some (.int 0)) none) (stN X' [x,h,y]++[.lst A,.lst U])=some (.ok (XD k),stN X' [x,h,y]++[.lst A,.lst U]):=by
   refine (Zr ((Zq (nx X' hXl' _ 0 x _ rfl rfl) ((Zq (Zb rfl) Zo).trans (Zw (k:=1) (v:=.int off) rfl rfl))).trans rfl)).trans ?_
   show ZZ (.int (x - off)) _=_
   rw[hxk,show (off:Int)+k - off=(k:Nat) by omega]
   exact Yh _ _ (by omega)
  have e5:=Y6 (sl1:=[]) (fi:=fun sl=>bnd ((f2 Qj (f2 kIx (Za 6) (fC (.int 0))) (f2 kIx (Za 1) (fC (.int 1)))) sl) ZZ) rg hfor
  have hidx:=P9 (fun j=>(at' f j).isSome) hkf hksome
  have hpl:((List.range k).filter fun j=>(at' f j).isSome).length < (ZN f).length:=by
   by_cases hq:((List.range k).filter fun j=>(at' f j).isSome).length < (ZN f).length
   ·exact hq
   ·rw[show (List.range f.length).filter (fun j=>(at' f j).isSome)=ZN f from rfl,List.getElem?_eq_none (by omega)]at hidx; cases hidx
  generalize hP:((List.range k).filter fun j=>(at' f j).isSome).length=P at e5 hidx hpl
  have vW:f2 kIx (fA ZV (Zc (fA Xu (Zc (fC (.str "stand")) Zk)) (Zc (fA Xu (Zc (fC (.str "move")) (Zc (f2 kIx (Za 6) (fC (.int 2))) Zk))) (Zc (fA Xu (Zc (fC (.str "help")) (Zc (f2 kIx (Za 6) (fC (.int 1))) (Zc (f2 kIx (Za 6) (fC (.int 2))) Zk)))) Zk)))) (Za 5) (slL ns many off size rows f way w7 (some (nL (ZN f))) z9 z10 (some (.o 7)) (some (blL (Xx 0))) (some (.int (P:Nat))) none) (stN X' [x,h,y]++[.lst A,.lst U])=some (.ok (SK way h y),stN X' [x,h,y]++[.lst A,.lst U]):=by
   refine (Zq ((ZG (Zd ((ZG (Zd Zo Zi)).trans (XH (by simp))) (Zd ((ZG (Zd Zo (Zd (nx X' hXl' _ 2 y _ rfl rfl) Zi))).trans (XH (by simp))) (Zd ((ZG (Zd Zo (Zd (nx X' hXl' _ 1 h _ rfl rfl) (Zd (nx X' hXl' _ 2 y _ rfl rfl) Zi)))).trans (XH (by simp))) Zi)))).trans (Ys (by simp))) (Zb rfl)).trans (Zw (k:=way) (xs:=[.tup [.str "stand"],.tup [.str "move",.int y],.tup [.str "help",.int h,.int y]]) rfl ?_)
   have:way=0∨way=1∨way=2:=by omega
   rcases this with rfl|rfl|rfl <;> rfl
  have e6:=KL (om0:=stN X' [x,h,y]) (l:=[.lst U]) (ws:=A) (w:=SK way h y) (k:=P) (sl:=slL ns many off size rows f way w7 (some (nL (ZN f))) z9 z10 (some (.o 7)) (some (blL (Xx 0))) (some (.int (P:Nat))) none) (fo:=Za 11) (fi:=Za 13) vW (by rw[hl7 X' hXl']; exact Zb rfl) (Zb rfl) (by show P < ((ZN f).map fun k=>odG c off (tdo told k)).length; rw[List.length_map]; exact hpl)
  have hset:A.set P (SK way h y)=(ZN f).map fun j=>if j=k then SK way h y else odG c off (tdo told j):=Tr (fun j=>odG c off (tdo told j)) (SK way h y) k (JI f) hidx
  rw[hset]at e6
  have W4:=(W3.grow [.lst ([x,h,y].map Wv.int)]).grow (.lst ((ZN f).map fun j=>if j=k then SK way h y else odG c off (tdo told j))::[.lst U])
  have S4:=(S3.grow [.lst ([x,h,y].map Wv.int)]).grow (.lst ((ZN f).map fun j=>if j=k then SK way h y else odG c off (tdo told j))::[.lst U])
  obtain ⟨slE,eE⟩:=IN (ns:=ns) (rows:=rows) (way:=way) W4 S4 t3 sm3 hf h7 (by omega) (wv:=fun j=>if j=k then SK way h y else odG c off (tdo told j)) (fun j=>by
   have e:tdo (told.set k (some o)) j=if j=k then o else tdo told j:=by
    unfold tdo
    rw[td]
    by_cases hj:j=k
    ·rw[if_pos hj,if_pos hj]; rfl
    ·rw[if_neg hj,if_neg hj]
   rw[e]
   by_cases hj:j=k
   ·simp only[if_pos hj]
    rcases K.is with ⟨h1,h2⟩|⟨h1,g,h2,h3⟩|⟨h1,q,g,h2,h3,h4⟩
    ·subst h1 h2
     exact (QV c.STAND).symm
    ·subst h1 h2 h3
     rfl
    ·subst h1 h2 h3 h4
     rfl
   ·simp only[if_neg hj]) (by
   have:(stN X' [x,h,y]++Ob.lst ((ZN f).map fun j=>if j=k then SK way h y else odG c off (tdo told j))::[.lst U])[(stN X' [x,h,y]).length]?=some (.lst ((ZN f).map fun j=>if j=k then SK way h y else odG c off (tdo told j))):=by simp
   rw[hl7 X' hXl']at this
   exact this) w7 z9 z10 (some (blL (Xx 0))) (some (.int (P:Nat)))
  exact ⟨_,_,(Zg e1).trans ((Zg e2).trans ((Zg (ZL c3)).trans ((Zg ((Z6 c4).trans ((Zg (ZK (i:=13) Zo)).trans ((Zg e5).trans e6)))).trans eE)))⟩
 ·have et:=tr (MY hc W2 S2 hw hx hh hy h0)
  have hle:=IA off size f kvs way x h y
  generalize hv:vd off size f kvs way x h y=v at e2 et h0 hle
  have c3:fB (f2 kNe (fA (kN 5 (g__law_tried c)) (Zc (Za 4) (Zc (Za 5) (Zc (f2 kIx (Za 6) (fC (.int 0))) (Zc (f2 kIx (Za 6) (fC (.int 1))) (Zc (f2 kIx (Za 6) (fC (.int 2))) Zk)))))) (Za 12)) (slL ns many off size rows f way y9 (some (nL (ZN f))) z9 z10 (some (.o 7)) (some (blL (Xx v))) none none) (stN X [x,h,y]++[.lst A,.lst U])=some (.ok false,stN X [x,h,y]++[.lst A,.lst U]++[.exc (exC c v)]):=ZW ((Zq et (Zb rfl)).trans (To (Sh _ _) (Sh _ _) (V1 _) true))
  have c4:fB (f2 kEq (Za 12) (fA ZV Zk)) (slL ns many off size rows f way y9 (some (nL (ZN f))) z9 z10 (some (.o 7)) (some (blL (Xx v))) none none) (stN X [x,h,y]++[.lst A,.lst U]++[.exc (exC c v)])=some (.ok false,stN X [x,h,y]++[.lst A,.lst U]++[.exc (exC c v)]):=by
   have hr:(Xx v).isEmpty=false:=by
    have:v=1∨v=2∨v=3:=by omega
    rcases this with rfl|rfl|rfl <;> rfl
   have:=Nh (stN X [x,h,y]++[.lst A,.lst U]++[.exc (exC c v)]) (Xx v)
   rw[hr]at this
   exact ZW ((Zq (Zb rfl) ((ZG Zi).trans (Ys (by simp)))).trans this)
  obtain ⟨slE,eE⟩:=IN (ns:=ns) (rows:=rows) (way:=way) (W2.grow [.exc (exC c v)]) (S2.grow [.exc (exC c v)]) t sm hf h7 (by omega) (wv:=fun k=>odG c off (tdo told k)) (fun _=>rfl) (by
   have:(stN X [x,h,y]++Ob.lst A::[.lst U,.exc (exC c v)])[(stN X [x,h,y]).length]?=some (.lst A):=by simp
   rw[hl7 X hX]at this
   simpa using this) y9 z9 z10 (some (blL (Xx v))) none
  exact ⟨_,_,(Zg e1).trans ((Zg e2).trans ((Zg (ZL c3)).trans ((Zg (ZL c4)).trans eE)))⟩
end
theorem KH (c:CA) (hc:CAok c) (ns:List Int):∃om,Lf c [ZT ns] []=some (.ok (.bl true),om):=by
 have hlim:=Ye
 obtain ⟨many,off,size,m1,m2,m3,m4,ef⟩:=LU c ns
 have el:=M8 c ns (m:=many) (by omega) []
 have es:=Ku c ns (m:=many) (by omega) []
 have L:=Sa ns many
 generalize Uk ns many=rows at el L
 have hfl:(Yn ns many).length=many:=Vi ..
 have hs7:∀k s,at' (Yn ns many) k=some s->0<=s∧s<=7:=fun k s h=>by
  have hk:=Wa h
  unfold at' Yn at h
  rw[Vi]at hk
  rw[List.getD_eq_getElem?_getD,List.getElem?_map,List.getElem?_range hk]at h
  exact MF h
 generalize Yn ns many=f at es hfl hs7
 have L':Lk f.length rows:=by rw[hfl]; exact L
 have G:=NU 10 ns L' (by omega)
 have eo:=Ml c ns L' (by omega) []
 have a1:ZO 1 (fA (kN 1 (g__law_frame c)) (Zc (Za 0) Zk)) [some (ZT ns),none,none,none,none,none,none,none,none,none,none,none,none,none,none] []=some (.ok (.nx,[some (ZT ns),some (Zy many off size),none,none,none,none,none,none,none,none,none,none,none,none,none]),[]):=ZK (i:=1) ((ZG (Zd (Zb rfl) Zi)).trans ((Xe rfl).trans (ef _)))
 have f0:∀{sl:Sl} {om:List Ob},sl[1]?=some (some (Zy many off size))->f2 kIx (Za 1) (fC (.int 0)) sl om=some (.ok (.int many),om):=fun h=>(Zq (Zb h) Zo).trans (Zw (k:=0) rfl rfl)
 have a2:ZO 2 (fA (kN 2 (XQ c)) (Zc (Za 0) (Zc (f2 kIx (Za 1) (fC (.int 0))) Zk))) [some (ZT ns),some (Zy many off size),none,none,none,none,none,none,none,none,none,none,none,none,none] []=some (.ok (.nx,[some (ZT ns),some (Zy many off size),some (.lst (rows.map Z7)),none,none,none,none,none,none,none,none,none,none,none,none]),[]):=ZK (i:=2) ((ZG (Zd (Zb rfl) (Zd (f0 rfl) Zi))).trans ((Xe rfl).trans el))
 have a3:ZO 3 (fA (kN 2 (XO c)) (Zc (Za 0) (Zc (f2 kIx (Za 1) (fC (.int 0))) Zk))) [some (ZT ns),some (Zy many off size),some (.lst (rows.map Z7)),none,none,none,none,none,none,none,none,none,none,none,none] []=some (.ok (.nx,[some (ZT ns),some (Zy many off size),some (.lst (rows.map Z7)),some (.lst (f.map Zx)),none,none,none,none,none,none,none,none,none,none,none]),[]):=ZK (i:=3) ((ZG (Zd (Zb rfl) (Zd (f0 rfl) Zi))).trans ((Xe rfl).trans es))
 generalize WX 10 ns rows f=told at G eo
 obtain ⟨kvs,gs,eg,mo,t⟩:=Kp (c:=c) (tw:=.lst (told.map odW)) L hfl m3 m4 m2 hs7 G [] (fun _ _=>rfl)
 generalize hX:([]:List Ob)++[Xm c size (([]:List Ob).length+1),.dt kvs,XR c ([]:List Ob).length (([]:List Ob).length+3),.dk (Xq (Y5 off f many)),YG c (([]:List Ob).length+2) (([]:List Ob).length+5),.dk (Yt c off gs)]=X at eg
 have W:Wd c X 2 0 3 1 size off f kvs:=by subst hX; exact ⟨rfl,rfl,by rw[hfl]; rfl,rfl,by omega,m4⟩
 have S:Os c X 4 2 5 off gs:=by subst hX; exact ⟨rfl,rfl⟩
 have hXl:X.length=6:=by subst hX; rfl
 have a4:ZO 4 (fA (kN 4 (g__law_given c)) (Zc (Za 1) (Zc (Za 2) (Zc (Za 3) (Zc (fA (kN 3 (g__law_orders c)) (Zc (Za 0) (Zc (Za 2) (Zc (Za 3) Zk)))) Zk))))) [some (ZT ns),some (Zy many off size),some (.lst (rows.map Z7)),some (.lst (f.map Zx)),none,none,none,none,none,none,none,none,none,none,none] []=some (.ok (.nx,[some (ZT ns),some (Zy many off size),some (.lst (rows.map Z7)),some (.lst (f.map Zx)),some (.o 4),none,none,none,none,none,none,none,none,none,none]),X):=ZK (i:=4) ((ZG (Zd (Zb rfl) (Zd (Zb rfl) (Zd (Zb rfl) (Zd ((ZG (Zd (Zb rfl) (Zd (Zb rfl) (Zd (Zb rfl) Zi)))).trans ((Xe rfl).trans eo)) Zi))))).trans ((Xe rfl).trans eg))
 obtain ⟨way,hway,hw⟩:∃way:Nat,ns.getD 17 0 % 3=way∧way<=2:=⟨(ns.getD 17 0 % 3).toNat,by omega,by omega⟩
 have a5:ZO 5 (f2 Ym (fA (kN 2 (g__law_cell_at c)) (Zc (Za 0) (Zc (fC (.int 17)) Zk))) (fC (.int 3))) [some (ZT ns),some (Zy many off size),some (.lst (rows.map Z7)),some (.lst (f.map Zx)),some (.o 4),none,none,none,none,none,none,none,none,none,none] X=some (.ok (.nx,[some (ZT ns),some (Zy many off size),some (.lst (rows.map Z7)),some (.lst (f.map Zx)),some (.o 4),some (.int (way:Nat)),none,none,none,none,none,none,none,none,none]),X):=by
  have:=XY (q:=3) (Nt (c:=c) (ns:=ns) (sl:=[some (ZT ns),some (Zy many off size),some (.lst (rows.map Z7)),some (.lst (f.map Zx)),some (.o 4),none,none,none,none,none,none,none,none,none,none]) (om:=X) rfl 17) (by decide)
  rw[hway]at this
  exact ZK (i:=5) this
 obtain ⟨N,y,hN,a67⟩:=JB (c:=c) (ns:=ns) (rows:=rows) (f:=f) (way:=way) hXl m3 m4
 obtain ⟨N1,hN1,a8⟩:=OZ (c:=c) (ns:=ns) (many:=many) (off:=off) (size:=size) (rows:=rows) (f:=f) (way:=way) hXl hN y 1 (by decide) 1
 obtain ⟨N2,hN2,a9⟩:=OZ (c:=c) (ns:=ns) (many:=many) (off:=off) (size:=size) (rows:=rows) (f:=f) (way:=way) hXl hN1 y 2 (by decide) 2
 have a10:=KB (c:=c) (ns:=ns) (off:=off) (size:=size) (rows:=rows) (way:=way) hfl m2 (om:=stN X N2) y
 obtain ⟨N3,z9,z10,hN3,a11⟩:=K1 (c:=c) (ns:=ns) (way:=way) hXl L hfl m3 m4 m2 hN2 y
 obtain ⟨sl',om',er⟩:=HC (ns:=ns) hc hXl W S t G.same (by rw[G.len]) mo L hfl m2 hw hN3 y z9 z10
 exact ⟨_,ZS ((Zg a1).trans ((Zg a2).trans ((Zg a3).trans ((Zg a4).trans ((Zg a5).trans ((a67 _).trans ((Zg a8).trans ((Zg a9).trans ((Zg a10).trans ((Zg a11).trans er))))))))))⟩
open PySem L2 PyProof.Rows
theorem Kw:bootBuiltins "int"=some (.type "int"):=by decide +kernel
theorem Jk:bootBuiltins "ValueError"=some (.type "ValueError"):=by decide +kernel
theorem Ew:FnScope ["script","k"] ["script","k"] (Zl NJ):=⟨rfl,rfl,rfl,by decide +kernel,rfl,by decide +kernel,by decide +kernel⟩
theorem Eo:FnScope ["script","many"] ["script"] (Zl Mm):=⟨rfl,rfl,rfl,by decide +kernel,rfl,by decide +kernel,by decide +kernel⟩
theorem FQ:FnScope ["script","many","bits","links","a","b"] ["script","many"] (Zl NL):=⟨rfl,rfl,rfl,by decide +kernel,rfl,by decide +kernel,by decide +kernel⟩
theorem F6:FnScope ["script","many","sides","k","cell"] ["script","many"] (Zl NN):=⟨rfl,rfl,rfl,by decide +kernel,rfl,by decide +kernel,by decide +kernel⟩
theorem FU:FnScope ["cell","k","links","sides","near","goal","able"] ["cell","k","links","sides"] (Zl NR):=⟨rfl,rfl,rfl,by decide +kernel,rfl,by decide +kernel,by decide +kernel⟩
theorem Fr:FnScope ["script","links","sides"] ["script","links","sides"] (Zl MN):=⟨rfl,rfl,rfl,by decide +kernel,rfl,by decide +kernel,by decide +kernel⟩
theorem Fc:FnScope ["self","size"] ["self","size"] (Zl NG):=⟨rfl,rfl,rfl,by decide +kernel,rfl,by decide +kernel,by decide +kernel⟩
theorem Es:FnScope ["self","at"] ["self","at"] (Zl NK):=⟨rfl,rfl,rfl,by decide +kernel,rfl,by decide +kernel,by decide +kernel⟩
theorem FV:FnScope ["self","a","b"] ["self","a","b"] (Zl Mq):=⟨rfl,rfl,rfl,by decide +kernel,rfl,by decide +kernel,by decide +kernel⟩
theorem G9:FnScope ["frame","links","chart","a","b"] ["frame","links"] (Zl N0):=⟨rfl,rfl,rfl,by decide +kernel,rfl,by decide +kernel,by decide +kernel⟩
theorem IE:FnScope ["self","chart"] ["self","chart"] (Zl Rf):=⟨rfl,rfl,rfl,by decide +kernel,rfl,by decide +kernel,by decide +kernel⟩
theorem II:FnScope ["self","at","side"] ["self","at","side"] (Zl Ra):=⟨rfl,rfl,rfl,by decide +kernel,rfl,by decide +kernel,by decide +kernel⟩
theorem IP:FnScope ["frame","links","sides","board","k"] ["frame","links","sides"] (Zl S6):=⟨rfl,rfl,rfl,by decide +kernel,rfl,by decide +kernel,by decide +kernel⟩
theorem J5:FnScope ["self","board"] ["self","board"] (Zl RL):=⟨rfl,rfl,rfl,by decide +kernel,rfl,by decide +kernel,by decide +kernel⟩
theorem Ic:FnScope ["self","at"] ["self","at"] (Zl RB):=⟨rfl,rfl,rfl,by decide +kernel,rfl,by decide +kernel,by decide +kernel⟩
theorem Ia:FnScope ["self","at"] ["self","at"] (Zl S5):=⟨rfl,rfl,rfl,by decide +kernel,rfl,by decide +kernel,by decide +kernel⟩
theorem ID:FnScope ["self","at"] ["self","at"] (Zl RC):=⟨rfl,rfl,rfl,by decide +kernel,rfl,by decide +kernel,by decide +kernel⟩
theorem Iq:FnScope ["self","places","units","at"] ["self","places","units"] (Zl RX):=⟨rfl,rfl,rfl,by decide +kernel,rfl,by decide +kernel,by decide +kernel⟩
theorem IM:FnScope ["self","a","b"] ["self","a","b"] (Zl Rh):=⟨rfl,rfl,rfl,by decide +kernel,rfl,by decide +kernel,by decide +kernel⟩
theorem J6:FnScope ["self","at","goal"] ["self","at","goal"] (Zl Rv):=⟨rfl,rfl,rfl,by decide +kernel,rfl,by decide +kernel,by decide +kernel⟩
theorem IT:FnScope ["self","at","goal"] ["self","at","goal"] (Zl RO):=⟨rfl,rfl,rfl,by decide +kernel,rfl,by decide +kernel,by decide +kernel⟩
theorem J9:FnScope ["self","at","helped","goal"] ["self","at","helped","goal"] (Zl Rg):=⟨rfl,rfl,rfl,by decide +kernel,rfl,by decide +kernel,by decide +kernel⟩
theorem IC:FnScope ["orders","off","told","k","order"] ["orders","off","told","k"] (Zl RD):=⟨rfl,rfl,rfl,by decide +kernel,rfl,by decide +kernel,by decide +kernel⟩
theorem Io:FnScope ["frame","links","sides","told","orders","k"] ["frame","links","sides","told"] (Zl RH):=⟨rfl,rfl,rfl,by decide +kernel,rfl,by decide +kernel,by decide +kernel⟩
theorem Iv:FnScope ["self","at"] ["self","at"] (Zl Rb):=⟨rfl,rfl,rfl,by decide +kernel,rfl,by decide +kernel,by decide +kernel⟩
theorem NE:FnScope ["orders","frame","sides"] ["orders","frame","sides"] (Zl RV):=⟨rfl,rfl,rfl,by decide +kernel,rfl,by decide +kernel,by decide +kernel⟩
theorem IU:FnScope ["frame","number"] ["frame","number"] (Zl Rs):=⟨rfl,rfl,rfl,by decide +kernel,rfl,by decide +kernel,by decide +kernel⟩
theorem Ip:FnScope ["frame","sides","number"] ["frame","sides","number"] (Zl RI):=⟨rfl,rfl,rfl,by decide +kernel,rfl,by decide +kernel,by decide +kernel⟩
theorem Iz:FnScope ["frame","links","a","b","left","right"] ["frame","links","a","b"] (Zl RU):=⟨rfl,rfl,rfl,by decide +kernel,rfl,by decide +kernel,by decide +kernel⟩
theorem Ir:FnScope ["frame","links","way","at","helped","goal"] ["frame","links","way","at","helped","goal"] (Zl RT):=⟨rfl,rfl,rfl,by decide +kernel,rfl,by decide +kernel,by decide +kernel⟩
theorem Im:FnScope ["frame","links","sides","way","numbers","used","number"] ["frame","links","sides","way","numbers"] (Zl Rp):=⟨rfl,rfl,rfl,by decide +kernel,rfl,by decide +kernel,by decide +kernel⟩
theorem IJ:FnScope ["orders","way","at","helped","goal","found","e"] ["orders","way","at","helped","goal"] (Zl Ru):=⟨rfl,rfl,rfl,by decide +kernel,rfl,by decide +kernel,by decide +kernel⟩
theorem Ij:FnScope ["self","at","order"] ["self","at"] (Zl Rk):=⟨rfl,rfl,rfl,by decide +kernel,rfl,by decide +kernel,by decide +kernel⟩
theorem IS:FnScope ["self"] ["self"] (Zl Ry):=⟨rfl,rfl,rfl,by decide +kernel,rfl,by decide +kernel,by decide +kernel⟩
theorem IV:FnScope ["script","frame","links","sides","orders","way","numbers","k","manned","here","near","ahead","due","place","movers"] ["script"] (Zl RM):=⟨rfl,rfl,rfl,by decide +kernel,rfl,by decide +kernel,by decide +kernel⟩
structure Ad where
 f_0:Addr
 d_0:FuncData
 f_1:Addr
 d_1:FuncData
 f_2:Addr
 d_2:FuncData
 f_3:Addr
 d_3:FuncData
 f_4:Addr
 d_4:FuncData
 f_5:Addr
 d_5:FuncData
 f_6:Addr
 d_6:FuncData
 f_7:Addr
 d_7:FuncData
 f_8:Addr
 d_8:FuncData
 f_9:Addr
 d_9:FuncData
 f_10:Addr
 d_10:FuncData
 f_11:Addr
 d_11:FuncData
 f_12:Addr
 d_12:FuncData
 f_13:Addr
 d_13:FuncData
 f_14:Addr
 d_14:FuncData
 f_15:Addr
 d_15:FuncData
 f_16:Addr
 d_16:FuncData
 f_17:Addr
 d_17:FuncData
 f_18:Addr
 d_18:FuncData
 f_19:Addr
 d_19:FuncData
 f_20:Addr
 d_20:FuncData
 f_21:Addr
 d_21:FuncData
 f_22:Addr
 d_22:FuncData
 f_23:Addr
 d_23:FuncData
 f_24:Addr
 d_24:FuncData
 f_25:Addr
 d_25:FuncData
 f_26:Addr
 d_26:FuncData
 f_27:Addr
 d_27:FuncData
 f_28:Addr
 d_28:FuncData
 f_29:Addr
 d_29:FuncData
 f_30:Addr
 d_30:FuncData
 f_31:Addr
 d_31:FuncData
 f_32:Addr
 d_32:FuncData
 f_33:Addr
 d_33:FuncData
 f_34:Addr
 d_34:FuncData
structure All (K:W.Frag) (mg:Str->Option Value) (c:CA) (a:Ad):Prop where
 cl_Board:Cls K c.Board
 cl_Map:Cls K c.Map
 cl_Orders:Cls K c.Orders
 na_Board_chart:NoAttr K c.Board "chart"
 na_Board_units:NoAttr K c.Board "units"
 na_Map_links:NoAttr K c.Map "links"
 na_Map_size:NoAttr K c.Map "size"
 na_Orders_board:NoAttr K c.Orders "board"
 na_Orders_given:NoAttr K c.Orders "given"
 mk_Board:Mk K c.Board a.f_10
 mk_Map:Mk K c.Map a.f_6
 mk_Orders:Mk K c.Orders a.f_13
 c_Board:mg "Board"=some (.ref c.Board)
 c_Crowded:mg "Crowded"=some (.ref c.Crowded)
 c_LAST_SIDE:∃t,mg "LAST_SIDE"=some (.int 7 t)
 c_Map:mg "Map"=some (.ref c.Map)
 c_NoPlace:mg "NoPlace"=some (.ref c.NoPlace)
 c_NoSide:mg "NoSide"=some (.ref c.NoSide)
 c_NoUnit:mg "NoUnit"=some (.ref c.NoUnit)
 c_OrderError:mg "OrderError"=some (.ref c.OrderError)
 c_Orders:mg "Orders"=some (.ref c.Orders)
 c_OutOfReach:mg "OutOfReach"=some (.ref c.OutOfReach)
 c_STAND:mg "STAND"=some (.ref c.STAND)
 gt_STAND:GTup K c.STAND
 x_Crowded:W.excIn K c.Crowded [.type "ValueError",.type "Exception",.type "BaseException",.type "object"] "ValueError.__new__"=true
 x_NoPlace:W.excIn K c.NoPlace [.type "ValueError",.type "Exception",.type "BaseException",.type "object"] "ValueError.__new__"=true
 x_NoSide:W.excIn K c.NoSide [.type "ValueError",.type "Exception",.type "BaseException",.type "object"] "ValueError.__new__"=true
 x_NoUnit:W.excIn K c.NoUnit [.type "ValueError",.type "Exception",.type "BaseException",.type "object"] "ValueError.__new__"=true
 x_OutOfReach:W.excIn K c.OutOfReach [.type "ValueError",.type "Exception",.type "BaseException",.type "object"] "ValueError.__new__"=true
 z_ValueError:mg "ValueError"=none
 z_int:mg "int"=none
 z_isinstance:mg "isinstance"=none
 z_len:mg "len"=none
 z_range:mg "range"=none
 z_sorted:mg "sorted"=none
 F_0:Fun K "_law_cell_at" "_law_cell_at" NJ a.f_0 a.d_0
 b_0:Binds K a.d_0 ["script","k"] []
 g__law_cell_at:mg "_law_cell_at"=some (.ref a.f_0)
 k_0:W.keepIn K (.ref a.f_0)=true
 F_1:Fun K "_law_frame" "_law_frame" Mm a.f_1 a.d_1
 b_1:Binds K a.d_1 ["script"] []
 g__law_frame:mg "_law_frame"=some (.ref a.f_1)
 k_1:W.keepIn K (.ref a.f_1)=true
 F_2:Fun K "_law_links" "_law_links" NL a.f_2 a.d_2
 b_2:Binds K a.d_2 ["script","many"] []
 g__law_links:mg "_law_links"=some (.ref a.f_2)
 k_2:W.keepIn K (.ref a.f_2)=true
 F_3:Fun K "_law_sides" "_law_sides" NN a.f_3 a.d_3
 b_3:Binds K a.d_3 ["script","many"] []
 g__law_sides:mg "_law_sides"=some (.ref a.f_3)
 k_3:W.keepIn K (.ref a.f_3)=true
 F_4:Fun K "_law_order_by" "_law_order_by" NR a.f_4 a.d_4
 b_4:Binds K a.d_4 ["cell","k","links","sides"] []
 g__law_order_by:mg "_law_order_by"=some (.ref a.f_4)
 k_4:W.keepIn K (.ref a.f_4)=true
 F_5:Fun K "_law_orders" "_law_orders" MN a.f_5 a.d_5
 b_5:Binds K a.d_5 ["script","links","sides"] []
 g__law_orders:mg "_law_orders"=some (.ref a.f_5)
 k_5:W.keepIn K (.ref a.f_5)=true
 F_6:Fun K "__init__" "Map.__init__" NG a.f_6 a.d_6
 b_6:Binds K a.d_6 ["self","size"] []
 F_7:Fun K "need_place" "Map.need_place" NK a.f_7 a.d_7
 b_7:Binds K a.d_7 ["self","at"] []
 m_7:Meth K c.Map "need_place" a.f_7
 F_8:Fun K "link" "Map.link" Mq a.f_8 a.d_8
 b_8:Binds K a.d_8 ["self","a","b"] []
 m_8:Meth K c.Map "link" a.f_8
 F_9:Fun K "_law_chart" "_law_chart" N0 a.f_9 a.d_9
 b_9:Binds K a.d_9 ["frame","links"] []
 g__law_chart:mg "_law_chart"=some (.ref a.f_9)
 k_9:W.keepIn K (.ref a.f_9)=true
 F_10:Fun K "__init__" "Board.__init__" Rf a.f_10 a.d_10
 b_10:Binds K a.d_10 ["self","chart"] []
 F_11:Fun K "post" "Board.post" Ra a.f_11 a.d_11
 b_11:Binds K a.d_11 ["self","at","side"] []
 m_11:Meth K c.Board "post" a.f_11
 F_12:Fun K "_law_board" "_law_board" S6 a.f_12 a.d_12
 b_12:Binds K a.d_12 ["frame","links","sides"] []
 g__law_board:mg "_law_board"=some (.ref a.f_12)
 k_12:W.keepIn K (.ref a.f_12)=true
 F_13:Fun K "__init__" "Orders.__init__" RL a.f_13 a.d_13
 b_13:Binds K a.d_13 ["self","board"] []
 F_14:Fun K "side_at" "Board.side_at" RB a.f_14 a.d_14
 b_14:Binds K a.d_14 ["self","at"] []
 m_14:Meth K c.Board "side_at" a.f_14
 F_15:Fun K "need_unit" "Board.need_unit" S5 a.f_15 a.d_15
 b_15:Binds K a.d_15 ["self","at"] []
 m_15:Meth K c.Board "need_unit" a.f_15
 F_16:Fun K "stand" "Orders.stand" RC a.f_16 a.d_16
 b_16:Binds K a.d_16 ["self","at"] []
 m_16:Meth K c.Orders "stand" a.f_16
 F_17:Fun K "need_all" "Orders.need_all" RX a.f_17 a.d_17
 b_17:Binds K a.d_17 ["self","places","units"] []
 m_17:Meth K c.Orders "need_all" a.f_17
 F_18:Fun K "beside" "Map.beside" Rh a.f_18 a.d_18
 b_18:Binds K a.d_18 ["self","a","b"] []
 m_18:Meth K c.Map "beside" a.f_18
 F_19:Fun K "need_beside" "Orders.need_beside" Rv a.f_19 a.d_19
 b_19:Binds K a.d_19 ["self","at","goal"] []
 m_19:Meth K c.Orders "need_beside" a.f_19
 F_20:Fun K "move" "Orders.move" RO a.f_20 a.d_20
 b_20:Binds K a.d_20 ["self","at","goal"] []
 m_20:Meth K c.Orders "move" a.f_20
 F_21:Fun K "aid" "Orders.aid" Rg a.f_21 a.d_21
 b_21:Binds K a.d_21 ["self","at","helped","goal"] []
 m_21:Meth K c.Orders "aid" a.f_21
 F_22:Fun K "_law_give" "_law_give" RD a.f_22 a.d_22
 b_22:Binds K a.d_22 ["orders","off","told","k"] []
 g__law_give:mg "_law_give"=some (.ref a.f_22)
 k_22:W.keepIn K (.ref a.f_22)=true
 F_23:Fun K "_law_given" "_law_given" RH a.f_23 a.d_23
 b_23:Binds K a.d_23 ["frame","links","sides","told"] []
 g__law_given:mg "_law_given"=some (.ref a.f_23)
 k_23:W.keepIn K (.ref a.f_23)=true
 F_24:Fun K "told" "Orders.told" Rb a.f_24 a.d_24
 b_24:Binds K a.d_24 ["self","at"] []
 m_24:Meth K c.Orders "told" a.f_24
 F_25:Fun K "_law_all" "_law_all" RV a.f_25 a.d_25
 b_25:Binds K a.d_25 ["orders","frame","sides"] []
 g__law_all:mg "_law_all"=some (.ref a.f_25)
 k_25:W.keepIn K (.ref a.f_25)=true
 F_26:Fun K "_law_at" "_law_at" Rs a.f_26 a.d_26
 b_26:Binds K a.d_26 ["frame","number"] []
 g__law_at:mg "_law_at"=some (.ref a.f_26)
 k_26:W.keepIn K (.ref a.f_26)=true
 F_27:Fun K "_law_manned" "_law_manned" RI a.f_27 a.d_27
 b_27:Binds K a.d_27 ["frame","sides","number"] []
 g__law_manned:mg "_law_manned"=some (.ref a.f_27)
 k_27:W.keepIn K (.ref a.f_27)=true
 F_28:Fun K "_law_beside" "_law_beside" RU a.f_28 a.d_28
 b_28:Binds K a.d_28 ["frame","links","a","b"] []
 g__law_beside:mg "_law_beside"=some (.ref a.f_28)
 k_28:W.keepIn K (.ref a.f_28)=true
 F_29:Fun K "_law_reached" "_law_reached" RT a.f_29 a.d_29
 b_29:Binds K a.d_29 ["frame","links","way","at","helped","goal"] []
 g__law_reached:mg "_law_reached"=some (.ref a.f_29)
 k_29:W.keepIn K (.ref a.f_29)=true
 F_30:Fun K "_law_due" "_law_due" Rp a.f_30 a.d_30
 b_30:Binds K a.d_30 ["frame","links","sides","way","numbers"] []
 g__law_due:mg "_law_due"=some (.ref a.f_30)
 k_30:W.keepIn K (.ref a.f_30)=true
 F_31:Fun K "_law_tried" "_law_tried" Ru a.f_31 a.d_31
 b_31:Binds K a.d_31 ["orders","way","at","helped","goal"] []
 g__law_tried:mg "_law_tried"=some (.ref a.f_31)
 k_31:W.keepIn K (.ref a.f_31)=true
 F_32:Fun K "goal_of" "Orders.goal_of" Rk a.f_32 a.d_32
 b_32:Binds K a.d_32 ["self","at"] []
 m_32:Meth K c.Orders "goal_of" a.f_32
 F_33:Fun K "movers" "Orders.movers" Ry a.f_33 a.d_33
 b_33:Binds K a.d_33 ["self"] []
 m_33:Meth K c.Orders "movers" a.f_33
 F_34:Fun K "law" "law" RM a.f_34 a.d_34
 b_34:Binds K a.d_34 ["script"] []
 Lf:mg "law"=some (.ref a.f_34)
 k_34:W.keepIn K (.ref a.f_34)=true
 ek:ExcAll K c.isE c.kit c.Ds
 ct_OrderError:∀C,c.caught c.OrderError C=true->W.exmOne K (.ref C) (.ref c.OrderError)=some true
section
variable {P:Program} {w:World} {K:W.Frag} {mg:Str->Option Value} {base:Heap} {c:CA} {a:Ad}
theorem YM (T:All K mg c a):FnOk P w K mg base (CXw P w) 1 a.f_0 a.d_0 ["script","k"] (spM 2 (g__law_cell_at c)):=by
 refine Yg T.F_0 Ew fun cdv A outer s H E hr=>?_
 have Sc:=Ew
 exact (Zj (Z9 (NB (Zf 1) (WD rfl T.z_len (Ze (Zf 0) Zm))) (Zn (ZU (Zu (Zf 0) (Zf 1)))) ZM)
     (Zn (ZU Zh)))
theorem SS (T:All K mg c a):FnOk P w K mg base (CXw P w) 2 a.f_1 a.d_1 ["script"] (spM 1 (g__law_frame c)):=by
 have G_0:=YM (P:=P) (w:=w) (base:=base) T
 have b_0:=T.b_0
 refine Yg T.F_1 Eo fun cdv A outer s H E hr=>?_
 have Sc:=Eo
 exact (Zj (Z8 (i:=1) Sc.nd rfl (Or.inl rfl) (Yi Zh (Yj (ZF G_0 (hr.mono (by decide)) rfl T.g__law_cell_at T.k_0 b_0 ZI (Ze (Zf 0) (Ze Zh Zm))) Zh)))
     (Zj (Z9 (YT hr.units (Yj (XG (ZF G_0 (hr.mono (by decide)) rfl T.g__law_cell_at T.k_0 b_0 ZI (Ze (Zf 0) (Ze Zh Zm))) Zh) Zh) Zh) (Zn (ZU (Xv (Ze (Zf 1) (Ze (Yj (XG (ZF G_0 (hr.mono (by decide)) rfl T.g__law_cell_at T.k_0 b_0 ZI (Ze (Zf 0) (Ze Zh Zm))) Zh) (Qp Zh (Zf 1))) (Ze Zh Zm)))))) ZM)
     (Zn (ZU (Xv (Ze (Zf 1) (Ze Zh (Ze (Zf 1) Zm))))))))
theorem SV (T:All K mg c a):FnOk P w K mg base (CXw P w) 2 a.f_2 a.d_2 ["script","many"] (spM 2 (g__law_links c)):=by
 have G_0:=YM (P:=P) (w:=w) (base:=base) T
 have b_0:=T.b_0
 refine Yg T.F_2 FQ fun cdv A outer s H E hr=>?_
 have Sc:=FQ
 exact (Zj (Z8 (i:=2) Sc.nd rfl (Or.inl rfl) (Yj (ZF G_0 (hr.mono (by decide)) rfl T.g__law_cell_at T.k_0 b_0 ZI (Ze (Zf 0) (Ze Zh Zm))) Zh))
     (Zj (Z9 (YT hr.units (Yj (ZF G_0 (hr.mono (by decide)) rfl T.g__law_cell_at T.k_0 b_0 ZI (Ze (Zf 0) (Ze Zh Zm))) Zh) Zh) (Zn (Z8 (i:=2) Sc.nd rfl (Or.inl rfl) Zh)) ZM)
     (Zj (Wi (j:=3) Vy (YF (js:=[1]) (cn:=["many"]) (by with_unfolding_all rfl) (by decide +kernel) rfl (by decide +kernel) rfl (by with_unfolding_all rfl) rfl (by with_unfolding_all rfl) (by decide +kernel)) rfl (Z1 rfl T.z_range (Zf 1)) (fun _ _ _ _=>Sz) (fun _ _ _ _=>(GT Vy (Ze YU Zm) (Zf 1))) Sc.nd rfl (Or.inl rfl) (by with_unfolding_all rfl))
     (Zj (X9 PassesOwn.leaving rfl (Z1 rfl T.z_range (Zf 1)) (Xj (i:=4) Sc.nd rfl (Or.inl rfl)) (Yx 4) (Zn (X9 PassesOwn.leaving rfl (Z1 rfl T.z_range (Zf 4)) (Xj (i:=5) Sc.nd rfl (Or.inl rfl)) (Yx 5) (Zj (X1 (O3 hr.units (Yj (Zf 2) Zh) Zh) (Zu (Zf 3) (Zf 4)) (Zf 5) (hg:=Wy (Zu (Zf 3) (Zf 4)) (Zf 5) Xh))
     (Zj (X1 (O3 hr.units (Yj (Zf 2) Zh) Zh) (Zu (Zf 3) (Zf 5)) (Zf 4) (hg:=Wy (Zu (Zf 3) (Zf 5)) (Zf 4) Xh))
     (Zn (Z8 (i:=2) Sc.nd rfl (Or.inl rfl) (XG (Zf 2) Zh))))))))
     (Zn (ZU (Zf 3)))))))
theorem Tx (T:All K mg c a):FnOk P w K mg base (CXw P w) 2 a.f_2 a.d_2 ["script","many"] (spM 2 (XQ c)):=FnOk.tidyG (SV T)
theorem SE (T:All K mg c a):FnOk P w K mg base (CXw P w) 2 a.f_3 a.d_3 ["script","many"] (spM 2 (g__law_sides c)):=by
 have G_0:=YM (P:=P) (w:=w) (base:=base) T
 have b_0:=T.b_0
 refine Yg T.F_3 F6 fun cdv A outer s H E hr=>?_
 have Sc:=F6
 exact (Zj (Z8 (i:=2) Sc.nd rfl (Or.inl rfl) (OL Zm))
     (Zj (X9 PassesOwn.leaving rfl (Z1 rfl T.z_range (Zf 1)) (Xj (i:=3) Sc.nd rfl (Or.inl rfl)) (Yx 3) (Zj (Z8 (i:=4) Sc.nd rfl (Or.inl rfl) (ZF G_0 (hr.mono (by decide)) rfl T.g__law_cell_at T.k_0 b_0 ZI (Ze (Zf 0) (Ze (Yi Zh (Zf 3)) Zm))))
     (Zn (Z9 (YT hr.units (Yj (Zf 4) Zh) Zh) (Zn (Z3 (WP (Zf 2) Qq))) (Zn (Z9 (YT hr.units (Yj (XG (Zf 4) Zh) Zh) Zh) (Zn (Z3 (WP (Zf 2) (Yj (XG (Zf 4) Zh) Zh)))) (Zn (Z3 (WP (Zf 2) (Yj (XG (Zf 4) Zh) Zh))))))))))
     (Zn (ZU (Zf 2)))))
theorem TQ (T:All K mg c a):FnOk P w K mg base (CXw P w) 2 a.f_3 a.d_3 ["script","many"] (spM 2 (XO c)):=FnOk.tidyG (SE T)
theorem UF (T:All K mg c a):FnOk P w K mg base (CXw P w) 1 a.f_4 a.d_4 ["cell","k","links","sides"] (spM 4 (g__law_order_by c)):=by
 refine Yg T.F_4 FU fun cdv A outer s H E hr=>?_
 have Sc:=FU
 exact (Zj (Wi (j := 4) Xs (YF (js := [1,2]) (cn := ["k","links"]) (by with_unfolding_all rfl) (by decide +kernel) rfl (by decide +kernel) rfl (by with_unfolding_all rfl) rfl (by with_unfolding_all rfl) (by decide +kernel)) rfl (Z1 rfl T.z_range (WD rfl T.z_len (Ze (Zf 3) Zm))) (fun _ _ _ _ => (XU (We (Zu (Zu (Zf 2) (Zf 1)) (Zf 0))))) (fun _ _ _ _ => (Zf 0)) Sc.nd rfl (Or.inl rfl) (by with_unfolding_all rfl))
     (Zj (Z9 (Oa (Zu (Zf 3) (Zf 1))) (Zn (ZU Qq)) ZM)
     (Zj (Z9 (PW.pt (RE (Vk (We (Zf 4))) (U1 (YT hr.units (Yj (Zf 0) Zh) Zh)))) (Zn (ZU (Xv (Ze XJ Zm)))) ZM)
     (Zj (Z8 (i:=5) Sc.nd rfl (Or.inr rfl) (Zu (Zf 4) (Yj (XG (Zf 0) Zh) (WD rfl T.z_len (Ze (Zf 4) Zm)))))
     (Zj (Z9 (NB (Yj (Zf 0) Zh) Zh) (Zn (ZU (Xv (Ze XJ (Ze (Zf 5) Zm))))) ZM)
     (Zj (Wi (j:=6) Xs (YF (js:=[1,2,3,5]) (cn:=["k","links","sides","goal"]) (by with_unfolding_all rfl) (by decide +kernel) rfl (by decide +kernel) rfl (by with_unfolding_all rfl) rfl (by with_unfolding_all rfl) (by decide +kernel)) rfl (Z1 rfl T.z_range (WD rfl T.z_len (Ze (Zf 3) Zm))) (fun _ _ _ _=>(XU (PW.pt (Qa (O7 hr.units (Zf 0) (Zf 1)) (Qa (Vs (Zu (Zf 3) (Zf 0))) (R7 (PW.pt (RE (YT hr.units (Zf 0) (Zf 4)) (U1 (We (Zu (Zu (Zf 2) (Zf 0)) (Zf 4)))))))))))) (fun _ _ _ _=>(Zf 0)) Sc.nd rfl (Or.inl rfl) (by with_unfolding_all rfl))
     (Zj (Z9 (Vk (We (Zf 6))) (Zn (ZU (Xv (Ze XJ Zm)))) ZM)
     (Zn (ZU (Xv (Ze XJ (Ze (Zu (Zf 6) (Yj (XG (Zf 0) Zh) (WD rfl T.z_len (Ze (Zf 6) Zm)))) (Ze (Zf 5) Zm)))))))))))))
theorem TX (T:All K mg c a):FnOk P w K mg base (CXw P w) 2 a.f_5 a.d_5 ["script","links","sides"] (spM 3 (g__law_orders c)):=by
 have G_0:=YM (P:=P) (w:=w) (base:=base) T
 have b_0:=T.b_0
 have G_4:=UF (P:=P) (w:=w) (base:=base) T
 have b_4:=T.b_4
 refine Yg T.F_5 Fr fun cdv A outer s H E hr=>?_
 have Sc:=Fr
 exact (Zn (ZU (Up Xs (YF (js:=[0,1,2]) (cn:=["script","links","sides"]) (by with_unfolding_all rfl) (by decide +kernel) rfl (by decide +kernel) rfl (by with_unfolding_all rfl) rfl (by with_unfolding_all rfl) (by decide +kernel)) rfl (Z1 rfl T.z_range (WD rfl T.z_len (Ze (Zf 2) Zm))) (fun _ _ _ _=>Sz) (fun _ _ _ _=>(ZF G_4 (hr.mono (by decide)) rfl T.g__law_order_by T.k_4 b_4 Rw (Ze (ZF G_0 (hr.mono (by decide)) rfl T.g__law_cell_at T.k_0 b_0 Rw (Ze (Zf 1) (Ze (Yi Zh (Zf 0)) Zm))) (Ze (Zf 0) (Ze (Zf 2) (Ze (Zf 3) Zm)))))))))
theorem Pl (T:All K mg c a):FnOk P w K mg base (CXw P w) 1 a.f_6 a.d_6 ["self","size"] (spM 2 (X5 c)):=by
 refine Yg T.F_6 Fc fun cdv A outer s H E hr=>?_
 have Sc:=Fc
 exact (Zj (UQ T.cl_Map T.na_Map_size (Zf 1) (Zf 0))
     (Zn (UQ T.cl_Map T.na_Map_links KA (Zf 0))))
theorem YA (T:All K mg c a):FnOk P w K mg base (CXw P w) 1 a.f_7 a.d_7 ["self","at"] (spM 2 (Zs c)):=by
 refine Yg T.F_7 Es fun cdv A outer s H E hr=>?_
 have Sc:=Es
 exact (Zn (Z9 (PW.pt (RE (NB (Zf 1) Zh) (U1 (Ex (Zf 1) (Yv T.cl_Map T.na_Map_size (Zf 0)))))) (Zn (Wk PySem.F.excBase_ValueError T.x_NoPlace rfl T.c_NoPlace rfl VW (Vf (Zf 1) (Ww VZ)))) ZM))
theorem PB (T:All K mg c a):FnOk P w K mg base (CXw P w) 2 a.f_8 a.d_8 ["self","a","b"] (spM 3 (VR c)):=by
 have G_7:=YA (P:=P) (w:=w) (base:=base) T
 have b_7:=T.b_7
 refine Yg T.F_8 FV fun cdv A outer s H E hr=>?_
 have Sc:=FV
 exact (Zj (Z3 (Z5 (Zf 0) T.cl_Map T.m_7 G_7 (hr.mono (by decide)) b_7 ZI (Ze (Zf 1) Zm)))
     (Zj (Z3 (Z5 (Zf 0) T.cl_Map T.m_7 G_7 (hr.mono (by decide)) b_7 ZI (Ze (Zf 2) Zm)))
     (Zj (Z9 (YT hr.units (Zf 1) (Zf 2)) (Zn (Wk PySem.F.excBase_ValueError T.x_OutOfReach rfl T.c_OutOfReach rfl VW (Ww (Vf (Zf 1) (Ww VZ))))) ZM)
     (Zj (Vw hr.units YU (Yv T.cl_Map T.na_Map_links (Zf 0)) (Xv (Ze (Zf 1) (Ze (Zf 2) Zm))))
     (Zn (Vw hr.units YU (Yv T.cl_Map T.na_Map_links (Zf 0)) (Xv (Ze (Zf 2) (Ze (Zf 1) Zm)))))))))
theorem SF (T:All K mg c a):FnOk P w K mg base (CXw P w) 3 a.f_9 a.d_9 ["frame","links"] (spM 2 (g__law_chart c)):=by
 have G_6:=Pl (P:=P) (w:=w) (base:=base) T
 have b_6:=T.b_6
 have G_8:=PB (P:=P) (w:=w) (base:=base) T
 have b_8:=T.b_8
 refine Yg T.F_9 G9 fun cdv A outer s H E hr=>?_
 have Sc:=G9
 exact (Zj (Z8 (i:=2) Sc.nd rfl (Or.inl rfl) (Qe T.mk_Map G_6 (hr.mono (by decide)) rfl T.c_Map b_6 ZI (Ze (Zu (Zf 0) Zh) Zm)))
     (Zj (X9 PassesOwn.leaving rfl (Z1 rfl T.z_range (Zu (Zf 0) Zh)) (Xj (i:=3) Sc.nd rfl (Or.inl rfl)) (Yx 3) (Zn (X9 PassesOwn.leaving rfl (Z1 rfl T.z_range (Zf 3)) (Xj (i:=4) Sc.nd rfl (Or.inl rfl)) (Yx 4) (Zn (Z9 (We (Zu (Zu (Zf 1) (Zf 3)) (Zf 4))) (Zn (Z3 (Z5 (Zf 2) T.cl_Map T.m_8 G_8 (hr.mono (by decide)) b_8 ZI (Ze (Yi (Zu (Zf 0) Zh) (Zf 3)) (Ze (Yi (Zu (Zf 0) Zh) (Zf 4)) Zm))))) ZM)))))
     (Zn (ZU (Zf 2)))))
theorem SY (T:All K mg c a):FnOk P w K mg base (CXw P w) 1 a.f_10 a.d_10 ["self","chart"] (spM 2 (Xn c)):=by
 refine Yg T.F_10 IE fun cdv A outer s H E hr=>?_
 have Sc:=IE
 exact (Zj (UQ T.cl_Board T.na_Board_chart (Zf 1) (Zf 0))
     (Zn (UQ T.cl_Board T.na_Board_units Pv (Zf 0))))
theorem SZ (T:All K mg c a):FnOk P w K mg base (CXw P w) 2 a.f_11 a.d_11 ["self","at","side"] (spM 3 (W6 c)):=by
 have G_7:=YA (P:=P) (w:=w) (base:=base) T
 have b_7:=T.b_7
 refine Yg T.F_11 II fun cdv A outer s H E hr=>?_
 have Sc:=II
 exact (Zj (Z3 (Z5 (Yv T.cl_Board T.na_Board_chart (Zf 0)) T.cl_Map T.m_7 G_7 (hr.mono (by decide)) b_7 ZI (Ze (Zf 1) Zm)))
     (Zj (Z9 (PW.pt (RE (NB (Zf 2) Zh) (U1 (IL (Zf 2) (Fj rfl T.c_LAST_SIDE))))) (Zn (Wk PySem.F.excBase_ValueError T.x_NoSide rfl T.c_NoSide rfl VW (Vf (Zf 2) (Ww VZ)))) ZM)
     (Zj (Z9 (GL hr.units (Zf 1) (Yv T.cl_Board T.na_Board_units (Zf 0))) (Zn (Wk PySem.F.excBase_ValueError T.x_Crowded rfl T.c_Crowded rfl VW (Ww (Vf (Zf 1) VZ)))) ZM)
     (Zn (Vw hr.units (Zf 2) (Yv T.cl_Board T.na_Board_units (Zf 0)) (Zf 1))))))
theorem SJ (T:All K mg c a):FnOk P w K mg base (CXw P w) 4 a.f_12 a.d_12 ["frame","links","sides"] (spM 3 (g__law_board c)):=by
 have G_10:=SY (P:=P) (w:=w) (base:=base) T
 have b_10:=T.b_10
 have G_11:=SZ (P:=P) (w:=w) (base:=base) T
 have b_11:=T.b_11
 have G_9:=SF (P:=P) (w:=w) (base:=base) T
 have b_9:=T.b_9
 refine Yg T.F_12 IP fun cdv A outer s H E hr=>?_
 have Sc:=IP
 exact (Zj (Z8 (i:=3) Sc.nd rfl (Or.inl rfl) (Qe T.mk_Board G_10 (hr.mono (by decide)) rfl T.c_Board b_10 ZI (Ze (ZF G_9 (hr.mono (by decide)) rfl T.g__law_chart T.k_9 b_9 ZI (Ze (Zf 0) (Ze (Zf 1) Zm))) Zm)))
     (Zj (X9 PassesOwn.leaving rfl (Z1 rfl T.z_range (Zu (Zf 0) Zh)) (Xj (i:=4) Sc.nd rfl (Or.inl rfl)) (Yx 4) (Zn (Z9 (Vs (Zu (Zf 2) (Zf 4))) (Zn (Z3 (Z5 (Zf 3) T.cl_Board T.m_11 G_11 (hr.mono (by decide)) b_11 ZI (Ze (Yi (Zu (Zf 0) Zh) (Zf 4)) (Ze (Zu (Zf 2) (Zf 4)) Zm))))) ZM)))
     (Zn (ZU (Zf 3)))))
theorem Sm (T:All K mg c a):FnOk P w K mg base (CXw P w) 1 a.f_13 a.d_13 ["self","board"] (spM 2 (Xd c)):=by
 refine Yg T.F_13 J5 fun cdv A outer s H E hr=>?_
 have Sc:=J5
 exact (Zj (UQ T.cl_Orders T.na_Orders_board (Zf 1) (Zf 0))
     (Zn (UQ T.cl_Orders T.na_Orders_given Pv (Zf 0))))
theorem UA (T:All K mg c a):FnOk P w K mg base (CXw P w) 2 a.f_14 a.d_14 ["self","at"] (spM 2 (Z4 c)):=by
 have G_7:=YA (P:=P) (w:=w) (base:=base) T
 have b_7:=T.b_7
 refine Yg T.F_14 Ic fun cdv A outer s H E hr=>?_
 have Sc:=Ic
 exact (Zj (Z3 (Z5 (Yv T.cl_Board T.na_Board_chart (Zf 0)) T.cl_Map T.m_7 G_7 (hr.mono (by decide)) b_7 ZI (Ze (Zf 1) Zm)))
     (Zn (ZU (K2 hr.units (Yv T.cl_Board T.na_Board_units (Zf 0)) (Zf 1)))))
theorem Xl (T:All K mg c a):FnOk P w K mg base (CXw P w) 3 a.f_15 a.d_15 ["self","at"] (spM 2 (ZQ c)):=by
 have G_14:=UA (P:=P) (w:=w) (base:=base) T
 have b_14:=T.b_14
 refine Yg T.F_15 Ia fun cdv A outer s H E hr=>?_
 have Sc:=Ia
 exact (Zn (Z9 (Oa (Z5 (Zf 0) T.cl_Board T.m_14 G_14 (hr.mono (by decide)) b_14 ZI (Ze (Zf 1) Zm))) (Zn (Wk PySem.F.excBase_ValueError T.x_NoUnit rfl T.c_NoUnit rfl VW (Ww (Vf (Zf 1) VZ)))) ZM))
theorem W9 (T:All K mg c a):FnOk P w K mg base (CXw P w) 4 a.f_16 a.d_16 ["self","at"] (spM 2 (YD c)):=by
 have G_15:=Xl (P:=P) (w:=w) (base:=base) T
 have b_15:=T.b_15
 refine Yg T.F_16 ID fun cdv A outer s H E hr=>?_
 have Sc:=ID
 exact (Zj (Z3 (Z5 (Yv T.cl_Orders T.na_Orders_board (Zf 0)) T.cl_Board T.m_15 G_15 (hr.mono (by decide)) b_15 ZI (Ze (Zf 1) Zm)))
     (Zn (Vw hr.units (Qo rfl T.c_STAND) (Yv T.cl_Orders T.na_Orders_given (Zf 0)) (Zf 1))))
theorem Wf (T:All K mg c a):FnOk P w K mg base (CXw P w) 4 a.f_17 a.d_17 ["self","places","units"] (spM 3 (ZX c)):=by
 have G_15:=Xl (P:=P) (w:=w) (base:=base) T
 have b_15:=T.b_15
 have G_7:=YA (P:=P) (w:=w) (base:=base) T
 have b_7:=T.b_7
 refine Yg T.F_17 Iq fun cdv A outer s H E hr=>?_
 have Sc:=Iq
 exact (Zj (X9 PassesOwn.leaving rfl (OQ (Zf 1)) (Xj (i:=3) Sc.nd rfl (Or.inl rfl)) (Yx 3) (Zn (Z3 (Z5 (Yv T.cl_Board T.na_Board_chart (Yv T.cl_Orders T.na_Orders_board (Zf 0))) T.cl_Map T.m_7 G_7 (hr.mono (by decide)) b_7 ZI (Ze (Zf 3) Zm)))))
     (Zn (X9 PassesOwn.leaving rfl (OQ (Zf 2)) (Xj (i:=3) Sc.nd rfl (Or.inl rfl)) (Yx 3) (Zn (Z3 (Z5 (Yv T.cl_Orders T.na_Orders_board (Zf 0)) T.cl_Board T.m_15 G_15 (hr.mono (by decide)) b_15 ZI (Ze (Zf 3) Zm)))))))
theorem SQ (T:All K mg c a):FnOk P w K mg base (CXw P w) 2 a.f_18 a.d_18 ["self","a","b"] (spM 3 (XZ c)):=by
 have G_7:=YA (P:=P) (w:=w) (base:=base) T
 have b_7:=T.b_7
 refine Yg T.F_18 IM fun cdv A outer s H E hr=>?_
 have Sc:=IM
 exact (Zj (Z3 (Z5 (Zf 0) T.cl_Map T.m_7 G_7 (hr.mono (by decide)) b_7 ZI (Ze (Zf 1) Zm)))
     (Zj (Z3 (Z5 (Zf 0) T.cl_Map T.m_7 G_7 (hr.mono (by decide)) b_7 ZI (Ze (Zf 2) Zm)))
     (Zn (ZU (Hi hr.units (Xv (Ze (Zf 1) (Ze (Zf 2) Zm))) (Yv T.cl_Map T.na_Map_links (Zf 0)))))))
theorem XE (T:All K mg c a):FnOk P w K mg base (CXw P w) 3 a.f_19 a.d_19 ["self","at","goal"] (spM 3 (ZA c)):=by
 have G_18:=SQ (P:=P) (w:=w) (base:=base) T
 have b_18:=T.b_18
 refine Yg T.F_19 J6 fun cdv A outer s H E hr=>?_
 have Sc:=J6
 exact (Zn (Z9 (Vk (We (Z5 (Yv T.cl_Board T.na_Board_chart (Yv T.cl_Orders T.na_Orders_board (Zf 0))) T.cl_Map T.m_18 G_18 (hr.mono (by decide)) b_18 ZI (Ze (Zf 1) (Ze (Zf 2) Zm))))) (Zn (Wk PySem.F.excBase_ValueError T.x_OutOfReach rfl T.c_OutOfReach rfl VW (Ww (Vf (Zf 2) (Ww (Vf (Zf 1) VZ)))))) ZM))
theorem Vh (T:All K mg c a):FnOk P w K mg base (CXw P w) 5 a.f_20 a.d_20 ["self","at","goal"] (spM 3 (YO c)):=by
 have G_17:=Wf (P:=P) (w:=w) (base:=base) T
 have b_17:=T.b_17
 have G_19:=XE (P:=P) (w:=w) (base:=base) T
 have b_19:=T.b_19
 refine Yg T.F_20 IT fun cdv A outer s H E hr=>?_
 have Sc:=IT
 exact (Zj (Z3 (Z5 (Zf 0) T.cl_Orders T.m_17 G_17 (hr.mono (by decide)) b_17 ZI (Ze (Xk (Ze (Zf 1) (Ze (Zf 2) Zm))) (Ze (Xk (Ze (Zf 1) Zm)) Zm))))
     (Zj (Z3 (Z5 (Zf 0) T.cl_Orders T.m_19 G_19 (hr.mono (by decide)) b_19 ZI (Ze (Zf 1) (Ze (Zf 2) Zm))))
     (Zn (Vw hr.units (Xv (Ze XJ (Ze (Zf 2) Zm))) (Yv T.cl_Orders T.na_Orders_given (Zf 0)) (Zf 1)))))
theorem VC (T:All K mg c a):FnOk P w K mg base (CXw P w) 5 a.f_21 a.d_21 ["self","at","helped","goal"] (spM 4 (Y4 c)):=by
 have G_17:=Wf (P:=P) (w:=w) (base:=base) T
 have b_17:=T.b_17
 have G_19:=XE (P:=P) (w:=w) (base:=base) T
 have b_19:=T.b_19
 refine Yg T.F_21 J9 fun cdv A outer s H E hr=>?_
 have Sc:=J9
 exact (Zj (Z3 (Z5 (Zf 0) T.cl_Orders T.m_17 G_17 (hr.mono (by decide)) b_17 ZI (Ze (Xk (Ze (Zf 1) (Ze (Zf 2) (Ze (Zf 3) Zm)))) (Ze (Xk (Ze (Zf 1) (Ze (Zf 2) Zm))) Zm))))
     (Zj (Z9 (YT hr.units (Zf 2) (Zf 1)) (Zn (Wk PySem.F.excBase_ValueError T.x_OutOfReach rfl T.c_OutOfReach rfl VW (Ww (Vf (Zf 1) (Ww VZ))))) ZM)
     (Zj (Z3 (Z5 (Zf 0) T.cl_Orders T.m_19 G_19 (hr.mono (by decide)) b_19 ZI (Ze (Zf 1) (Ze (Zf 3) Zm))))
     (Zj (Z9 (O7 hr.units (Zf 3) (Zf 2)) (Zn (Z3 (Z5 (Zf 0) T.cl_Orders T.m_19 G_19 (hr.mono (by decide)) b_19 ZI (Ze (Zf 2) (Ze (Zf 3) Zm))))) ZM)
     (Zn (Vw hr.units (Xv (Ze XJ (Ze (Zf 2) (Ze (Zf 3) Zm)))) (Yv T.cl_Orders T.na_Orders_given (Zf 0)) (Zf 1)))))))
theorem Qs (T:All K mg c a):FnOk P w K mg base (CXw P w) 6 a.f_22 a.d_22 ["orders","off","told","k"] (spM 4 (g__law_give c)):=by
 have G_21:=VC (P:=P) (w:=w) (base:=base) T
 have b_21:=T.b_21
 have G_20:=Vh (P:=P) (w:=w) (base:=base) T
 have b_20:=T.b_20
 have G_16:=W9 (P:=P) (w:=w) (base:=base) T
 have b_16:=T.b_16
 refine Yg T.F_22 IC fun cdv A outer s H E hr=>?_
 have Sc:=IC
 exact (Zj (Z8 (i:=4) Sc.nd rfl (Or.inl rfl) (Zu (Zf 2) (Zf 3)))
     (Zj (Z9 (Oa (Zf 4)) (Zn K5) ZM)
     (Zn (Z9 (YT hr.units (Zu (Zf 4) Zh) XJ) (Zn (Z3 (Z5 (Zf 0) T.cl_Orders T.m_16 G_16 (hr.mono (by decide)) b_16 ZI (Ze (Yi (Zf 1) (Zf 3)) Zm)))) (Zn (Z9 (YT hr.units (Zu (Zf 4) Zh) XJ) (Zn (Z3 (Z5 (Zf 0) T.cl_Orders T.m_20 G_20 (hr.mono (by decide)) b_20 ZI (Ze (Yi (Zf 1) (Zf 3)) (Ze (Yi (Zf 1) (Zu (Zf 4) Zh)) Zm))))) (Zn (Z3 (Z5 (Zf 0) T.cl_Orders T.m_21 G_21 (hr.mono (by decide)) b_21 ZI (Ze (Yi (Zf 1) (Zf 3)) (Ze (Yi (Zf 1) (Zu (Zf 4) Zh)) (Ze (Yi (Zf 1) (Zu (Zf 4) Zh)) Zm))))))))))))
theorem SR (T:All K mg c a):FnOk P w K mg base (CXw P w) 7 a.f_23 a.d_23 ["frame","links","sides","told"] (spM 4 (g__law_given c)):=by
 have G_13:=Sm (P:=P) (w:=w) (base:=base) T
 have b_13:=T.b_13
 have G_12:=SJ (P:=P) (w:=w) (base:=base) T
 have b_12:=T.b_12
 have G_22:=Qs (P:=P) (w:=w) (base:=base) T
 have b_22:=T.b_22
 refine Yg T.F_23 Io fun cdv A outer s H E hr=>?_
 have Sc:=Io
 exact (Zj (Z8 (i:=4) Sc.nd rfl (Or.inl rfl) (Qe T.mk_Orders G_13 (hr.mono (by decide)) rfl T.c_Orders b_13 ZI (Ze (ZF G_12 (hr.mono (by decide)) rfl T.g__law_board T.k_12 b_12 ZI (Ze (Zf 0) (Ze (Zf 1) (Ze (Zf 2) Zm)))) Zm)))
     (Zj (X9 PassesOwn.leaving rfl (Z1 rfl T.z_range (Zu (Zf 0) Zh)) (Xj (i:=5) Sc.nd rfl (Or.inl rfl)) (Yx 5) (Zn (Z3 (ZF G_22 (hr.mono (by decide)) rfl T.g__law_give T.k_22 b_22 ZI (Ze (Zf 4) (Ze (Zu (Zf 0) Zh) (Ze (Zf 3) (Ze (Zf 5) Zm))))))))
     (Zn (ZU (Zf 4)))))
theorem Ve (T:All K mg c a):FnOk P w K mg base (CXw P w) 4 a.f_24 a.d_24 ["self","at"] (spM 2 (Xg c)):=by
 have G_15:=Xl (P:=P) (w:=w) (base:=base) T
 have b_15:=T.b_15
 refine Yg T.F_24 Iv fun cdv A outer s H E hr=>?_
 have Sc:=Iv
 exact (Zj (Z3 (Z5 (Yv T.cl_Orders T.na_Orders_board (Zf 0)) T.cl_Board T.m_15 G_15 (hr.mono (by decide)) b_15 ZI (Ze (Zf 1) Zm)))
     (Zn (ZU (O9 hr.units (Yv T.cl_Orders T.na_Orders_given (Zf 0)) (Zf 1) (Qo rfl T.c_STAND)))))
theorem Po (T:All K mg c a):FnOk P w K mg base (CXw P w) 5 a.f_25 a.d_25 ["orders","frame","sides"] (spM 3 (g__law_all c)):=by
 have G_24:=Ve (P:=P) (w:=w) (base:=base) T
 have b_24:=T.b_24
 refine Yg T.F_25 NE fun cdv A outer s H E hr=>?_
 have Sc:=NE
 exact (Zn (ZU (Up Xs (YF (js:=[0,1,2]) (cn:=["orders","frame","sides"]) (by with_unfolding_all rfl) (by decide +kernel) rfl (by decide +kernel) rfl (by with_unfolding_all rfl) rfl (by with_unfolding_all rfl) (by decide +kernel)) rfl (Z1 rfl T.z_range (Zu (Zf 1) Zh)) (fun _ _ _ _=>(XU (Vs (Zu (Zf 3) (Zf 0))))) (fun _ _ _ _=>(Z5 (Zf 1) T.cl_Orders T.m_24 G_24 (hr.mono (by decide)) b_24 Rw (Ze (Yi (Zu (Zf 2) Zh) (Zf 0)) Zm))))))
theorem Qf (T:All K mg c a):FnOk P w K mg base (CXw P w) 5 a.f_25 a.d_25 ["orders","frame","sides"] (spM 3 (XS c)):=by
 have G_24:=Ve (P:=P) (w:=w) (base:=base) T
 have b_24:=T.b_24
 refine Yg T.F_25 NE fun cdv A outer s H E hr=>?_
 have Sc:=NE
 exact (Zn (ZU (Up Vy (YF (js:=[0,1,2]) (cn:=["orders","frame","sides"]) (by with_unfolding_all rfl) (by decide +kernel) rfl (by decide +kernel) rfl (by with_unfolding_all rfl) rfl (by with_unfolding_all rfl) (by decide +kernel)) rfl (Z1 rfl T.z_range (Zu (Zf 1) Zh)) (fun _ _ _ _=>(XU (Vs (Zu (Zf 3) (Zf 0))))) (fun _ _ _ _=>(Z5 (Zf 1) T.cl_Orders T.m_24 G_24 (hr.mono (by decide)) b_24 Rw (Ze (Yi (Zu (Zf 2) Zh) (Zf 0)) Zm))))))
theorem Su (T:All K mg c a):FnOk P w K mg base (CXw P w) 1 a.f_26 a.d_26 ["frame","number"] (spM 2 (g__law_at c)):=by
 refine Yg T.F_26 IU fun cdv A outer s H E hr=>?_
 have Sc:=IU
 exact (Zj (Z9 (Q5 Ih L8 Iu J4 (Zu (Zf 0) Zh) (Zf 1) (Yi (Zu (Zf 0) Zh) (Zu (Zf 0) Zh))) (Zn (ZU (Qp (Zf 1) (Zu (Zf 0) Zh)))) ZM)
     (Zn (ZU Qq)))
theorem T9 (T:All K mg c a):FnOk P w K mg base (CXw P w) 2 a.f_27 a.d_27 ["frame","sides","number"] (spM 3 (g__law_manned c)):=by
 have G_26:=Su (P:=P) (w:=w) (base:=base) T
 have b_26:=T.b_26
 refine Yg T.F_27 Ip fun cdv A outer s H E hr=>?_
 have Sc:=Ip
 exact (Zn (ZU (QN (Uq (ZF G_26 (hr.mono (by decide)) rfl T.g__law_at T.k_26 b_26 ZI (Ze (Zf 0) (Ze (Zf 2) Zm)))) (Qb (Uq (Zu (Zf 1) (ZF G_26 (hr.mono (by decide)) rfl T.g__law_at T.k_26 b_26 ZI (Ze (Zf 0) (Ze (Zf 2) Zm)))))))))
theorem Sg (T:All K mg c a):FnOk P w K mg base (CXw P w) 2 a.f_28 a.d_28 ["frame","links","a","b"] (spM 4 (g__law_beside c)):=by
 have G_26:=Su (P:=P) (w:=w) (base:=base) T
 have b_26:=T.b_26
 refine Yg T.F_28 Iz fun cdv A outer s H E hr=>?_
 have Sc:=Iz
 exact (Zj (Z8 (i:=4) Sc.nd rfl (Or.inl rfl) (ZF G_26 (hr.mono (by decide)) rfl T.g__law_at T.k_26 b_26 ZI (Ze (Zf 0) (Ze (Zf 2) Zm))))
     (Zj (Z8 (i:=5) Sc.nd rfl (Or.inl rfl) (ZF G_26 (hr.mono (by decide)) rfl T.g__law_at T.k_26 b_26 ZI (Ze (Zf 0) (Ze (Zf 3) Zm))))
     (Zn (ZU (QN (Uq (Zf 4)) (QN (Uq (Zf 5)) (Qb (Zu (Zu (Zf 1) (Zf 4)) (Zf 5)))))))))
theorem Tm (T:All K mg c a):FnOk P w K mg base (CXw P w) 3 a.f_29 a.d_29 ["frame","links","way","at","helped","goal"] (spM 6 (g__law_reached c)):=by
 have G_28:=Sg (P:=P) (w:=w) (base:=base) T
 have b_28:=T.b_28
 refine Yg T.F_29 Ir fun cdv A outer s H E hr=>?_
 have Sc:=Ir
 exact (Zj (Z9 (YT hr.units (Zf 2) Zh) (Zn (ZU (ZF G_28 (hr.mono (by decide)) rfl T.g__law_beside T.k_28 b_28 ZI (Ze (Zf 0) (Ze (Zf 1) (Ze (Zf 3) (Ze (Zf 5) Zm))))))) ZM)
     (Zj (Z9 (YT hr.units (Zf 2) Zh) (Zj (Z9 (PW.pt (RE (YT hr.units (Zf 4) (Zf 3)) (U1 (Vk (We (ZF G_28 (hr.mono (by decide)) rfl T.g__law_beside T.k_28 b_28 ZI (Ze (Zf 0) (Ze (Zf 1) (Ze (Zf 3) (Ze (Zf 5) Zm)))))))))) (Zn (ZU YU)) ZM)
     (Zn (ZU (G3 (O3 hr.units (Zf 5) (Zf 4)) (Qb (ZF G_28 (hr.mono (by decide)) rfl T.g__law_beside T.k_28 b_28 ZI (Ze (Zf 0) (Ze (Zf 1) (Ze (Zf 4) (Ze (Zf 5) Zm)))))))))) ZM)
     (Zn (ZU YU))))
theorem PD (T:All K mg c a):FnOk P w K mg base (CXw P w) 4 a.f_30 a.d_30 ["frame","links","sides","way","numbers"] (spM 5 (g__law_due c)):=by
 have G_27:=T9 (P:=P) (w:=w) (base:=base) T
 have b_27:=T.b_27
 have G_29:=Tm (P:=P) (w:=w) (base:=base) T
 have b_29:=T.b_29
 refine Yg T.F_30 Im fun cdv A outer s H E hr=>?_
 have Sc:=Im
 exact (Zj (Z8 (i:=5) Sc.nd rfl (Or.inl rfl) (OL (Ze (Zu (Zf 4) Zh) Zm)))
     (Zj (Z9 (IL (Zf 3) Zh) (Zn (Z3 (WP (Zf 5) (Zu (Zf 4) Zh)))) ZM)
     (Zj (Z9 (YT hr.units (Zf 3) Zh) (Zn (Z3 (WP (Zf 5) (Zu (Zf 4) Zh)))) ZM)
     (Zj (KU PassesOwn.leaving rfl (Zf 5) (Xj (i:=6) Sc.nd rfl (Or.inl rfl)) (Yx 6) (Zn (Z9 (Vk (Q5 Ih L8 Iu J4 Zh (Zf 6) (Zu (Zf 0) Zh))) (Zn (ZU (Xk (Ze YU (Ze YU (Ze YU (Ze YU (Ze YU (Ze YU Zm))))))))) ZM)))
     (Zj (Z9 (PW.pt (RE (Vk (We (ZF G_27 (hr.mono (by decide)) rfl T.g__law_manned T.k_27 b_27 ZI (Ze (Zf 0) (Ze (Zf 2) (Ze (Zu (Zf 4) Zh) Zm)))))) (U1 (PW.pt (Qa (YT hr.units (Zf 3) Zh) (R7 (Vk (We (ZF G_27 (hr.mono (by decide)) rfl T.g__law_manned T.k_27 b_27 ZI (Ze (Zf 0) (Ze (Zf 2) (Ze (Zu (Zf 4) Zh) Zm)))))))))))) (Zn (ZU (Xk (Ze YU (Ze YU (Ze YU (Ze YU (Ze YU (Ze YU Zm))))))))) ZM)
     (Zj (Z9 (Vk (We (ZF G_29 (hr.mono (by decide)) rfl T.g__law_reached T.k_29 b_29 ZI (Ze (Zf 0) (Ze (Zf 1) (Ze (Zf 3) (Ze (Zu (Zf 4) Zh) (Ze (Zu (Zf 4) Zh) (Ze (Zu (Zf 4) Zh) Zm))))))))) (Zn (ZU (Xk (Ze YU (Ze YU (Ze YU (Ze YU (Ze YU (Ze YU Zm))))))))) ZM)
     (Zn (ZU (Xk Zm)))))))))
theorem SM (T:All K mg c a):FnOk P w K mg base (CXw P w) 6 a.f_31 a.d_31 ["orders","way","at","helped","goal"] (spM 5 (g__law_tried c)):=by
 have G_21:=VC (P:=P) (w:=w) (base:=base) T
 have b_21:=T.b_21
 have G_20:=Vh (P:=P) (w:=w) (base:=base) T
 have b_20:=T.b_20
 have G_16:=W9 (P:=P) (w:=w) (base:=base) T
 have b_16:=T.b_16
 refine Yg T.F_31 IJ fun cdv A outer s H E hr=>?_
 have Sc:=IJ
 exact (Zj (Z8 (i:=5) Sc.nd rfl (Or.inl rfl) (Xk Zm))
     (Zj (Gc (i:=6) ⟨rfl,rfl⟩ rfl ⟨rfl,rfl⟩ Sc.nd rfl rfl rfl T.c_OrderError T.ct_OrderError (fun _ xe pins σ hp=>(WQ (OK (YT hr.units (Zf 1) Zh) (WQ (UD (UZ (Zf 0) T.cl_Orders T.m_16 G_16 (hr.mono (by decide)) b_16 hp (Ze (Zf 2) Zm)))) (WQ (OK (YT hr.units (Zf 1) Zh) (WQ (UD (UZ (Zf 0) T.cl_Orders T.m_20 G_20 (hr.mono (by decide)) b_20 hp (Ze (Zf 2) (Ze (Zf 4) Zm))))) (WQ (UD (UZ (Zf 0) T.cl_Orders T.m_21 G_21 (hr.mono (by decide)) b_21 hp (Ze (Zf 2) (Ze (Zf 3) (Ze (Zf 4) Zm))))))))))) (fun _=>(Zj (Z8 (i:=5) Sc.nd rfl (Or.inl rfl) (Xk (Ze (Vx T.ek rfl T.z_isinstance (Zf 6) (W5 (v:=.ref c.NoPlace) rfl T.c_NoPlace rfl) rfl (.head _)) (Ze (Vx T.ek rfl T.z_isinstance (Zf 6) (W5 (v:=.ref c.NoUnit) rfl T.c_NoUnit rfl) rfl (.tail _ (.tail _ (.tail _ (.head _))))) (Ze (Vx T.ek rfl T.z_isinstance (Zf 6) (W5 (v:=.ref c.OutOfReach) rfl T.c_OutOfReach rfl) rfl (.tail _ (.tail _ (.tail _ (.tail _ (.head _)))))) (Ze (Vx T.ek rfl T.z_isinstance (Zf 6) (W5 (v:=.ref c.Crowded) rfl T.c_Crowded rfl) rfl (.tail _ (.tail _ (.head _)))) Zm))))))
     (Zn (Z8 (i:=5) Sc.nd rfl (Or.inl rfl) (Ld (Zf 5) (Xk (Ze (Vx T.ek rfl T.z_isinstance (Zf 6) (W5 (v:=.ref c.NoSide) rfl T.c_NoSide rfl) rfl (.tail _ (.head _))) (Ze (Vx T.ek rfl T.z_isinstance (Zf 6) (Jt (v:=.ty "ValueError") rfl T.z_ValueError Jk rfl) rfl (.tail _ (.tail _ (.tail _ (.tail _ (.tail _ (.head _))))))) Zm)))))))))
     (Zn (ZU (Zf 5)))))
theorem Ui (T:All K mg c a):FnOk P w K mg base (CXw P w) 1 a.f_32 a.d_32 ["self","at"] (spM 2 (YE c)):=by
 refine Yg T.F_32 Ij fun cdv A outer s H E hr=>?_
 have Sc:=Ij
 exact (Zj (Z8 (i:=2) Sc.nd rfl (Or.inl rfl) (O9 hr.units (Yv T.cl_Orders T.na_Orders_given (Zf 0)) (Zf 1) (Qo rfl T.c_STAND)))
     (Zj (Z9 (YT hr.units (Oi T.gt_STAND (Zf 2) Zh) XJ) (Zn (ZU (Oi T.gt_STAND (Zf 2) Zh))) ZM)
     (Zn (ZU Qq))))
theorem UX (T:All K mg c a):FnOk P w K mg base (CXw P w) 2 a.f_33 a.d_33 ["self"] (spM 1 (YN c)):=by
 have G_32:=Ui (P:=P) (w:=w) (base:=base) T
 have b_32:=T.b_32
 refine Yg T.F_33 IS fun cdv A outer s H E hr=>?_
 have Sc:=IS
 exact (Zn (ZU (PQ Xs rfl T.z_sorted (Ze (Ly Xs (YF (js:=[0]) (cn:=["self"]) (by with_unfolding_all rfl) (by decide +kernel) rfl (by decide +kernel) rfl (by with_unfolding_all rfl) rfl (by with_unfolding_all rfl) (by decide +kernel)) rfl (Yv T.cl_Orders T.na_Orders_given (Zf 0)) (fun _ _ _ _=>(XU (Vs (Z5 (Zf 1) T.cl_Orders T.m_32 G_32 (hr.mono (by decide)) b_32 Rw (Ze (Zf 0) Zm))))) (fun _ _ _ _=>(Zf 0))) Zm))))
theorem Hd (T:All K mg c a):FnOk P w K mg base (CXw P w) 8 a.f_34 a.d_34 ["script"] (spM 1 (Lf c)):=by
 have G_33:=UX (P:=P) (w:=w) (base:=base) T
 have b_33:=T.b_33
 have G__law_allM:=Qf (P:=P) (w:=w) (base:=base) T
 have G_25:=Po (P:=P) (w:=w) (base:=base) T
 have b_25:=T.b_25
 have G_0:=YM (P:=P) (w:=w) (base:=base) T
 have b_0:=T.b_0
 have G_30:=PD (P:=P) (w:=w) (base:=base) T
 have b_30:=T.b_30
 have G_1:=SS (P:=P) (w:=w) (base:=base) T
 have b_1:=T.b_1
 have G_23:=SR (P:=P) (w:=w) (base:=base) T
 have b_23:=T.b_23
 have G_2:=Tx (P:=P) (w:=w) (base:=base) T
 have b_2:=T.b_2
 have G_5:=TX (P:=P) (w:=w) (base:=base) T
 have b_5:=T.b_5
 have G_3:=TQ (P:=P) (w:=w) (base:=base) T
 have b_3:=T.b_3
 have G_31:=SM (P:=P) (w:=w) (base:=base) T
 have b_31:=T.b_31
 refine Yg T.F_34 IV fun cdv A outer s H E hr=>?_
 have Sc:=IV
 exact (Zj (Z8 (i:=1) Sc.nd rfl (Or.inr rfl) (ZF G_1 (hr.mono (by decide)) rfl T.g__law_frame T.k_1 b_1 ZI (Ze (Zf 0) Zm)))
     (Zj (Z8 (i:=2) Sc.nd rfl (Or.inr rfl) (ZF G_2 (hr.mono (by decide)) rfl T.g__law_links T.k_2 b_2 ZI (Ze (Zf 0) (Ze (Zu (Zf 1) Zh) Zm))))
     (Zj (Z8 (i:=3) Sc.nd rfl (Or.inr rfl) (ZF G_3 (hr.mono (by decide)) rfl T.g__law_sides T.k_3 b_3 ZI (Ze (Zf 0) (Ze (Zu (Zf 1) Zh) Zm))))
     (Zj (Z8 (i:=4) Sc.nd rfl (Or.inl rfl) (ZF G_23 (hr.mono (by decide)) rfl T.g__law_given T.k_23 b_23 ZI (Ze (Zf 1) (Ze (Zf 2) (Ze (Zf 3) (Ze (ZF G_5 (hr.mono (by decide)) rfl T.g__law_orders T.k_5 b_5 ZI (Ze (Zf 0) (Ze (Zf 2) (Ze (Zf 3) Zm)))) Zm))))))
     (Zj (Z8 (i:=5) Sc.nd rfl (Or.inl rfl) (Yj (ZF G_0 (hr.mono (by decide)) rfl T.g__law_cell_at T.k_0 b_0 ZI (Ze (Zf 0) (Ze Zh Zm))) Zh))
     (Zj (Wi (j:=6) Vy (YF (js:=[0,1]) (cn:=["script","frame"]) (by with_unfolding_all rfl) (by decide +kernel) rfl (by decide +kernel) rfl (by with_unfolding_all rfl) rfl (by with_unfolding_all rfl) (by decide +kernel)) rfl (Z1 rfl T.z_range Zh) (fun _ _ _ _=>Sz) (fun _ _ _ _=>(Yi (Zu (Zf 2) Zh) (Yj (ZF G_0 (hr.mono (by decide)) rfl T.g__law_cell_at T.k_0 b_0 Rw (Ze (Zf 1) (Ze (Yi Zh (Zf 0)) Zm))) (Yi (Zu (Zf 2) Zh) Zh)))) Sc.nd rfl (Or.inl rfl) (by with_unfolding_all rfl))
     (Zj (X9 PassesOwn.leaving rfl (Z1 rfl T.z_range Zh) (Xj (i:=7) Sc.nd rfl (Or.inl rfl)) (Yx 7) (Zn (Z9 (YT hr.units (Yj (XG (ZF G_0 (hr.mono (by decide)) rfl T.g__law_cell_at T.k_0 b_0 ZI (Ze (Zf 0) (Ze (Yi Zh (Zf 7)) Zm))) Zh) Zh) Zh) (Zn (X1 (Qp (Yj (XG (ZF G_0 (hr.mono (by decide)) rfl T.g__law_cell_at T.k_0 b_0 ZI (Ze (Zf 0) (Ze (Yi Zh (Zf 7)) Zm))) Zh) Zh) Zh) (Zf 6) (Zf 7) (hg:=Wy (Zf 6) (Zf 7) Xh))) ZM)))
     (Zj (Z9 (YT hr.units (Yj (XG (ZF G_0 (hr.mono (by decide)) rfl T.g__law_cell_at T.k_0 b_0 ZI (Ze (Zf 0) (Ze Zh Zm))) Zh) Zh) Zh) (Zn (X1 (Zu (Zf 6) Zh) (Zf 6) Zh (hg:=Wy (Zf 6) Zh Xh))) ZM)
     (Zj (Z9 (YT hr.units (Yj (XG (ZF G_0 (hr.mono (by decide)) rfl T.g__law_cell_at T.k_0 b_0 ZI (Ze (Zf 0) (Ze Zh Zm))) Zh) Zh) Zh) (Zn (X1 (Zu (Zf 6) Zh) (Zf 6) Zh (hg:=Wy (Zf 6) Zh Xh))) ZM)
     (Zj (Z8 (i:=8) Sc.nd rfl (Or.inr rfl) (Up Xs (YF (js:=[3]) (cn:=["sides"]) (by with_unfolding_all rfl) (by decide +kernel) rfl (by decide +kernel) rfl (by with_unfolding_all rfl) rfl (by with_unfolding_all rfl) (by decide +kernel)) rfl (Z1 rfl T.z_range (Zu (Zf 1) Zh)) (fun _ _ _ _=>(XU (Vs (Zu (Zf 1) (Zf 0))))) (fun _ _ _ _=>(Zf 0))))
     (Zj (Z9 (PW.pt (Qa (O7 hr.units (Zf 8) (Xk Zm)) (R7 (YT hr.units (Yj (XG (ZF G_0 (hr.mono (by decide)) rfl T.g__law_cell_at T.k_0 b_0 ZI (Ze (Zf 0) (Ze Zh Zm))) Zh) Zh) Zh)))) (Zj (Z8 (i:=9) Sc.nd rfl (Or.inr rfl) (Zu (Zf 8) (Yj (ZF G_0 (hr.mono (by decide)) rfl T.g__law_cell_at T.k_0 b_0 ZI (Ze (Zf 0) (Ze Zh Zm))) (WD rfl T.z_len (Ze (Zf 8) Zm)))))
     (Zj (Z8 (i:=10) Sc.nd rfl (Or.inl rfl) (Ld (Up Xs (YF (js:=[2,9]) (cn:=["links","here"]) (by with_unfolding_all rfl) (by decide +kernel) rfl (by decide +kernel) rfl (by with_unfolding_all rfl) rfl (by with_unfolding_all rfl) (by decide +kernel)) rfl (Z1 rfl T.z_range (Zu (Zf 1) Zh)) (fun _ _ _ _=>(XU (We (Zu (Zu (Zf 1) (Zf 2)) (Zf 0))))) (fun _ _ _ _=>(Zf 0))) (Xk (Ze (Zf 9) Zm))))
     (Zj (X1 (Yi (Zu (Zf 1) Zh) (Zf 9)) (Zf 6) Zh (hg:=Wy (Zf 6) Zh Xh))
     (Zj (X1 (Yi (Zu (Zf 1) Zh) (Zu (Zf 8) (Yj (ZF G_0 (hr.mono (by decide)) rfl T.g__law_cell_at T.k_0 b_0 ZI (Ze (Zf 0) (Ze Zh Zm))) (WD rfl T.z_len (Ze (Zf 8) Zm))))) (Zf 6) Zh (hg:=Wy (Zf 6) Zh Xh))
     (Zn (X1 (Yi (Zu (Zf 1) Zh) (Zu (Zf 10) (Yj (ZF G_0 (hr.mono (by decide)) rfl T.g__law_cell_at T.k_0 b_0 ZI (Ze (Zf 0) (Ze Zh Zm))) (WD rfl T.z_len (Ze (Zf 10) Zm))))) (Zf 6) Zh (hg:=Wy (Zf 6) Zh Xh))))))) ZM)
     (Zj (Z8 (i:=11) Sc.nd rfl (Or.inr rfl) (ZF G__law_allM (hr.mono (by decide)) rfl T.g__law_all T.k_25 b_25 ZI (Ze (Zf 4) (Ze (Zf 1) (Ze (Zf 3) Zm)))))
     (Zj (Z8 (i:=12) Sc.nd rfl (Or.inl rfl) (ZF G_30 (hr.mono (by decide)) rfl T.g__law_due T.k_30 b_30 ZI (Ze (Zf 1) (Ze (Zf 2) (Ze (Zf 3) (Ze (Zf 5) (Ze (Zf 6) Zm)))))))
     (Zj (Z9 (O7 hr.units (ZF G_31 (hr.mono (by decide)) rfl T.g__law_tried T.k_31 b_31 ZI (Ze (Zf 4) (Ze (Zf 5) (Ze (Zu (Zf 6) Zh) (Ze (Zu (Zf 6) Zh) (Ze (Zu (Zf 6) Zh) Zm)))))) (Zf 12)) (Zn (ZU YU)) ZM)
     (Zj (Z9 (YT hr.units (Zf 12) (Xk Zm)) (Zj (Z8 (i:=13) Sc.nd rfl (Or.inl rfl) Zh)
     (Zj (X9 PassesOwn.leaving rfl (Z1 rfl T.z_range (Qp (Zu (Zf 6) Zh) (Zu (Zf 1) Zh))) (Xj (i:=7) Sc.nd rfl (Or.inl rfl)) (Yx 7) (Zn (Z8 (i:=13) Sc.nd rfl (Or.inl rfl) (Yi (Zf 13) (JD rfl T.z_int Kw (Ze (Uq (Zu (Zf 3) (Zf 7))) Zm))))))
     (Zn (X1 (Zu (Xk (Ze (Xv (Ze XJ Zm)) (Ze (Xv (Ze XJ (Ze (Zu (Zf 6) Zh) Zm))) (Ze (Xv (Ze XJ (Ze (Zu (Zf 6) Zh) (Ze (Zu (Zf 6) Zh) Zm)))) Zm)))) (Zf 5)) (Zf 11) (Zf 13) (hg:=Wy (Zf 11) (Zf 13) Xh))))) ZM)
     (Zj (Wi (j:=14) Xs (YF (js:=[1,8,11]) (cn:=["frame","manned","ahead"]) (by with_unfolding_all rfl) (by decide +kernel) rfl (by decide +kernel) rfl (by with_unfolding_all rfl) rfl (by with_unfolding_all rfl) (by decide +kernel)) rfl (Z1 rfl T.z_range (WD rfl T.z_len (Ze (Zf 11) Zm))) (fun _ _ _ _=>(XU (YT hr.units (Oi T.gt_STAND (Zu (Zf 3) (Zf 0)) Zh) XJ))) (fun _ _ _ _=>(Yi (Zu (Zf 1) Zh) (Zu (Zf 2) (Zf 0)))) Sc.nd rfl (Or.inl rfl) (by with_unfolding_all rfl))
     (Zn (ZU (QN (Gz T.gt_STAND hr.units (ZF G_25 (hr.mono (by decide)) rfl T.g__law_all T.k_25 b_25 ZI (Ze (Zf 4) (Ze (Zf 1) (Ze (Zf 3) Zm)))) (Zf 11)) (Qb (O3 hr.units (Ki (Zf 4) T.cl_Orders T.m_33 G_33 (hr.mono (by decide)) b_33 ZI) (Zf 14))))))))))))))))))))))
end
open PySem L2
theorem OY {c:CA} {p:Addr->Prop} (h1:p c.NoPlace) (h2:p c.NoSide) (h3:p c.Crowded) (h4:p c.NoUnit) (h5:p c.OutOfReach) (C:Addr) (h:c.isE C=true):p C:=by
 simp only[CA.isE,Bool.or_eq_true,beq_iff_eq]at h
 rcases h with (((h|h)|h)|h)|h <;> subst h <;> assumption
theorem Mg {K:W.Frag} {c:CA} {l1 l2 l3 l4 l5:List Bool} (hk:c.kit=fun C D=>(W.kitOne K (.ref C) D).getD false) (hD:c.Ds=[.ref c.NoPlace,.ref c.NoSide,.ref c.Crowded,.ref c.NoUnit,.ref c.OutOfReach,.type "ValueError"])
    (h1:ExcK K c.NoPlace) (q1:c.Ds.map (W.kitOne K (.ref c.NoPlace))=l1.map some) (h2:ExcK K c.NoSide) (q2:c.Ds.map (W.kitOne K (.ref c.NoSide))=l2.map some) (h3:ExcK K c.Crowded) (q3:c.Ds.map (W.kitOne K (.ref c.Crowded))=l3.map some)
    (h4:ExcK K c.NoUnit) (q4:c.Ds.map (W.kitOne K (.ref c.NoUnit))=l4.map some) (h5:ExcK K c.OutOfReach) (q5:c.Ds.map (W.kitOne K (.ref c.OutOfReach))=l5.map some):ExcAll K c.isE c.kit c.Ds :=
 ⟨OY h1 h2 h3 h4 h5,fun C D hC hd=>by
  rw[hk]
  exact OY (p:=fun C=>W.kitOne K (.ref C) D=some ((W.kitOne K (.ref C) D).getD false)) (Vc q1 hd) (Vc q2 hd) (Vc q3 hd) (Vc q4 hd) (Vc q5 hd) C hC⟩
theorem p1 {K:W.Frag} {x y:Option (Option Value)} (g:GK K) (i:Nat) (h1:nth (Ge K) i=some x) (h2:nth GS i=some y):x=y:=YJ g.1 i h1 h2
theorem p2 {K:W.Frag} {x y:Bool} (g:GK K) (i:Nat) (h1:nth (Ho K) i=some x) (h2:nth Gd i=some y):x=y:=YJ g.2.1 i h1 h2
theorem p3 {K:W.Frag} {x y:Option (FuncData × Bool)} (g:GK K) (i:Nat) (h1:nth (HE K) i=some x) (h2:nth GU i=some y):x=y:=YJ g.2.2.1 i h1 h2
theorem ER {l:W.OpenLaw} {w:World} {K:W.Frag} {h:Heap} {mg:Str->Option Value} {fa:Addr} (g:GK K) (X:K.In h) (G:h.Ns mainGlobals mg) (hfa:mg "law"=some (.ref fa)) :
    ∃fd:FuncData,(∀(s:Shared) (v:Value),BindsTo s fd ⟨[v],[]⟩ [("script",v)])∧∀base:Heap,K.In base->base.Ns mainGlobals mg->FnOk l.prog w K mg base (CXw l.prog w) 8 fa fd ["script"] (Ie K):=by
 obtain ⟨_,v_LAST_SIDE⟩:=Eg (YJ g.2.2.2.1 0 rfl rfl)
 obtain ⟨_,_,_,_,l_STAND⟩:=Er (YJ g.2.2.2.2.1 0 rfl rfl)
 have a_Map:=(p1 g 0 rfl rfl)
 have a_Board:=(p1 g 1 rfl rfl)
 have a_Orders:=(p1 g 2 rfl rfl)
 have a_OrderError:=(p1 g 3 rfl rfl)
 have a_NoPlace:=(p1 g 4 rfl rfl)
 have a_NoSide:=(p1 g 5 rfl rfl)
 have a_Crowded:=(p1 g 6 rfl rfl)
 have a_NoUnit:=(p1 g 7 rfl rfl)
 have a_OutOfReach:=(p1 g 8 rfl rfl)
 have a_STAND:=(p1 g 9 rfl rfl)
 have a_0:=(p1 g 10 rfl rfl)
 have l_0:=(Y1 (p3 g 0 rfl rfl))
 have c_0:=(YV (p3 g 0 rfl rfl))
 have k_0:=(p2 g 0 rfl rfl)
 have a_1:=(p1 g 11 rfl rfl)
 have l_1:=(Y1 (p3 g 1 rfl rfl))
 have c_1:=(YV (p3 g 1 rfl rfl))
 have k_1:=(p2 g 1 rfl rfl)
 have a_2:=(p1 g 12 rfl rfl)
 have l_2:=(Y1 (p3 g 2 rfl rfl))
 have c_2:=(YV (p3 g 2 rfl rfl))
 have k_2:=(p2 g 2 rfl rfl)
 have a_3:=(p1 g 13 rfl rfl)
 have l_3:=(Y1 (p3 g 3 rfl rfl))
 have c_3:=(YV (p3 g 3 rfl rfl))
 have k_3:=(p2 g 3 rfl rfl)
 have a_4:=(p1 g 14 rfl rfl)
 have l_4:=(Y1 (p3 g 4 rfl rfl))
 have c_4:=(YV (p3 g 4 rfl rfl))
 have k_4:=(p2 g 4 rfl rfl)
 have a_5:=(p1 g 15 rfl rfl)
 have l_5:=(Y1 (p3 g 5 rfl rfl))
 have c_5:=(YV (p3 g 5 rfl rfl))
 have k_5:=(p2 g 5 rfl rfl)
 have a_6:=(p1 g 16 rfl rfl)
 have i_6:=(p2 g 6 rfl rfl)
 have l_6:=(Y1 (p3 g 6 rfl rfl))
 have c_6:=(YV (p3 g 6 rfl rfl))
 have k_6:=(p2 g 7 rfl rfl)
 have a_7:=(p1 g 17 rfl rfl)
 have i_7:=(p2 g 8 rfl rfl)
 have l_7:=(Y1 (p3 g 7 rfl rfl))
 have c_7:=(YV (p3 g 7 rfl rfl))
 have k_7:=(p2 g 9 rfl rfl)
 have a_8:=(p1 g 18 rfl rfl)
 have i_8:=(p2 g 10 rfl rfl)
 have l_8:=(Y1 (p3 g 8 rfl rfl))
 have c_8:=(YV (p3 g 8 rfl rfl))
 have k_8:=(p2 g 11 rfl rfl)
 have a_9:=(p1 g 19 rfl rfl)
 have l_9:=(Y1 (p3 g 9 rfl rfl))
 have c_9:=(YV (p3 g 9 rfl rfl))
 have k_9:=(p2 g 12 rfl rfl)
 have a_10:=(p1 g 20 rfl rfl)
 have i_10:=(p2 g 13 rfl rfl)
 have l_10:=(Y1 (p3 g 10 rfl rfl))
 have c_10:=(YV (p3 g 10 rfl rfl))
 have k_10:=(p2 g 14 rfl rfl)
 have a_11:=(p1 g 21 rfl rfl)
 have i_11:=(p2 g 15 rfl rfl)
 have l_11:=(Y1 (p3 g 11 rfl rfl))
 have c_11:=(YV (p3 g 11 rfl rfl))
 have k_11:=(p2 g 16 rfl rfl)
 have a_12:=(p1 g 22 rfl rfl)
 have l_12:=(Y1 (p3 g 12 rfl rfl))
 have c_12:=(YV (p3 g 12 rfl rfl))
 have k_12:=(p2 g 17 rfl rfl)
 have a_13:=(p1 g 23 rfl rfl)
 have i_13:=(p2 g 18 rfl rfl)
 have l_13:=(Y1 (p3 g 13 rfl rfl))
 have c_13:=(YV (p3 g 13 rfl rfl))
 have k_13:=(p2 g 19 rfl rfl)
 have a_14:=(p1 g 24 rfl rfl)
 have i_14:=(p2 g 20 rfl rfl)
 have l_14:=(Y1 (p3 g 14 rfl rfl))
 have c_14:=(YV (p3 g 14 rfl rfl))
 have k_14:=(p2 g 21 rfl rfl)
 have a_15:=(p1 g 25 rfl rfl)
 have i_15:=(p2 g 22 rfl rfl)
 have l_15:=(Y1 (p3 g 15 rfl rfl))
 have c_15:=(YV (p3 g 15 rfl rfl))
 have k_15:=(p2 g 23 rfl rfl)
 have a_16:=(p1 g 26 rfl rfl)
 have i_16:=(p2 g 24 rfl rfl)
 have l_16:=(Y1 (p3 g 16 rfl rfl))
 have c_16:=(YV (p3 g 16 rfl rfl))
 have k_16:=(p2 g 25 rfl rfl)
 have a_17:=(p1 g 27 rfl rfl)
 have i_17:=(p2 g 26 rfl rfl)
 have l_17:=(Y1 (p3 g 17 rfl rfl))
 have c_17:=(YV (p3 g 17 rfl rfl))
 have k_17:=(p2 g 27 rfl rfl)
 have a_18:=(p1 g 28 rfl rfl)
 have i_18:=(p2 g 28 rfl rfl)
 have l_18:=(Y1 (p3 g 18 rfl rfl))
 have c_18:=(YV (p3 g 18 rfl rfl))
 have k_18:=(p2 g 29 rfl rfl)
 have a_19:=(p1 g 29 rfl rfl)
 have i_19:=(p2 g 30 rfl rfl)
 have l_19:=(Y1 (p3 g 19 rfl rfl))
 have c_19:=(YV (p3 g 19 rfl rfl))
 have k_19:=(p2 g 31 rfl rfl)
 have a_20:=(p1 g 30 rfl rfl)
 have i_20:=(p2 g 32 rfl rfl)
 have l_20:=(Y1 (p3 g 20 rfl rfl))
 have c_20:=(YV (p3 g 20 rfl rfl))
 have k_20:=(p2 g 33 rfl rfl)
 have a_21:=(p1 g 31 rfl rfl)
 have i_21:=(p2 g 34 rfl rfl)
 have l_21:=(Y1 (p3 g 21 rfl rfl))
 have c_21:=(YV (p3 g 21 rfl rfl))
 have k_21:=(p2 g 35 rfl rfl)
 have a_22:=(p1 g 32 rfl rfl)
 have l_22:=(Y1 (p3 g 22 rfl rfl))
 have c_22:=(YV (p3 g 22 rfl rfl))
 have k_22:=(p2 g 36 rfl rfl)
 have a_23:=(p1 g 33 rfl rfl)
 have l_23:=(Y1 (p3 g 23 rfl rfl))
 have c_23:=(YV (p3 g 23 rfl rfl))
 have k_23:=(p2 g 37 rfl rfl)
 have a_24:=(p1 g 34 rfl rfl)
 have i_24:=(p2 g 38 rfl rfl)
 have l_24:=(Y1 (p3 g 24 rfl rfl))
 have c_24:=(YV (p3 g 24 rfl rfl))
 have k_24:=(p2 g 39 rfl rfl)
 have a_25:=(p1 g 35 rfl rfl)
 have l_25:=(Y1 (p3 g 25 rfl rfl))
 have c_25:=(YV (p3 g 25 rfl rfl))
 have k_25:=(p2 g 40 rfl rfl)
 have a_26:=(p1 g 36 rfl rfl)
 have l_26:=(Y1 (p3 g 26 rfl rfl))
 have c_26:=(YV (p3 g 26 rfl rfl))
 have k_26:=(p2 g 41 rfl rfl)
 have a_27:=(p1 g 37 rfl rfl)
 have l_27:=(Y1 (p3 g 27 rfl rfl))
 have c_27:=(YV (p3 g 27 rfl rfl))
 have k_27:=(p2 g 42 rfl rfl)
 have a_28:=(p1 g 38 rfl rfl)
 have l_28:=(Y1 (p3 g 28 rfl rfl))
 have c_28:=(YV (p3 g 28 rfl rfl))
 have k_28:=(p2 g 43 rfl rfl)
 have a_29:=(p1 g 39 rfl rfl)
 have l_29:=(Y1 (p3 g 29 rfl rfl))
 have c_29:=(YV (p3 g 29 rfl rfl))
 have k_29:=(p2 g 44 rfl rfl)
 have a_30:=(p1 g 40 rfl rfl)
 have l_30:=(Y1 (p3 g 30 rfl rfl))
 have c_30:=(YV (p3 g 30 rfl rfl))
 have k_30:=(p2 g 45 rfl rfl)
 have a_31:=(p1 g 41 rfl rfl)
 have l_31:=(Y1 (p3 g 31 rfl rfl))
 have c_31:=(YV (p3 g 31 rfl rfl))
 have k_31:=(p2 g 46 rfl rfl)
 have a_32:=(p1 g 42 rfl rfl)
 have i_32:=(p2 g 47 rfl rfl)
 have l_32:=(Y1 (p3 g 32 rfl rfl))
 have c_32:=(YV (p3 g 32 rfl rfl))
 have k_32:=(p2 g 48 rfl rfl)
 have a_33:=(p1 g 43 rfl rfl)
 have i_33:=(p2 g 49 rfl rfl)
 have l_33:=(Y1 (p3 g 33 rfl rfl))
 have c_33:=(YV (p3 g 33 rfl rfl))
 have k_33:=(p2 g 50 rfl rfl)
 have a_34:=(p1 g 44 rfl rfl)
 have l_34:=(Y1 (p3 g 34 rfl rfl))
 have c_34:=(YV (p3 g 34 rfl rfl))
 have k_34:=(p2 g 51 rfl rfl)
 have pg_Board:=(p2 g 52 rfl rfl)
 have hd_Board:=(p2 g 53 rfl rfl)
 have po_Board:=(p2 g 54 rfl rfl)
 have sa_Board:=(p1 g 45 rfl rfl)
 have pg_Map:=(p2 g 55 rfl rfl)
 have hd_Map:=(p2 g 56 rfl rfl)
 have po_Map:=(p2 g 57 rfl rfl)
 have sa_Map:=(p1 g 46 rfl rfl)
 have pg_Orders:=(p2 g 58 rfl rfl)
 have hd_Orders:=(p2 g 59 rfl rfl)
 have po_Orders:=(p2 g 60 rfl rfl)
 have sa_Orders:=(p1 g 47 rfl rfl)
 have n_Board_chart:=(p1 g 48 rfl rfl)
 have n_Board_units:=(p1 g 49 rfl rfl)
 have n_Map_links:=(p1 g 50 rfl rfl)
 have n_Map_size:=(p1 g 51 rfl rfl)
 have n_Orders_board:=(p1 g 52 rfl rfl)
 have n_Orders_given:=(p1 g 53 rfl rfl)
 have mm_Board:=(p2 g 61 rfl rfl)
 have kp_Board:=(p2 g 62 rfl rfl)
 have mm_Map:=(p2 g 63 rfl rfl)
 have kp_Map:=(p2 g 64 rfl rfl)
 have mm_Orders:=(p2 g 65 rfl rfl)
 have kp_Orders:=(p2 g 66 rfl rfl)
 have x_Crowded:=(p2 g 67 rfl rfl)
 have x_NoPlace:=(p2 g 68 rfl rfl)
 have x_NoSide:=(p2 g 69 rfl rfl)
 have x_NoUnit:=(p2 g 70 rfl rfl)
 have x_OutOfReach:=(p2 g 71 rfl rfl)
 have z_ValueError:=(p1 g 54 rfl rfl)
 have z_int:=(p1 g 55 rfl rfl)
 have z_isinstance:=(p1 g 56 rfl rfl)
 have z_len:=(p1 g 57 rfl rfl)
 have z_range:=(p1 g 58 rfl rfl)
 have z_sorted:=(p1 g 59 rfl rfl)
 have sp:=(p1 g 60 rfl rfl)
 have tk:=(YJ g.2.2.2.2.2.2 0 rfl rfl)
 have ga_NoPlace:=(p1 g 61 rfl rfl)
 have gt_NoPlace:=(p1 g 62 rfl rfl)
 have gc_NoPlace:=(p1 g 63 rfl rfl)
 have ob_NoPlace:=(YJ g.2.2.2.2.2.2 1 rfl rfl)
 have be_NoPlace:=(YJ g.2.2.2.2.2.2 2 rfl rfl)
 have is_NoPlace:=(p2 g 72 rfl rfl)
 have q_NoPlace:=(YJ g.2.2.2.2.2.1 0 rfl rfl)
 have e_NoPlace:=(YJ g.2.2.2.2.2.2 3 rfl rfl)
 have ga_NoSide:=(p1 g 64 rfl rfl)
 have gt_NoSide:=(p1 g 65 rfl rfl)
 have gc_NoSide:=(p1 g 66 rfl rfl)
 have ob_NoSide:=(YJ g.2.2.2.2.2.2 4 rfl rfl)
 have be_NoSide:=(YJ g.2.2.2.2.2.2 5 rfl rfl)
 have is_NoSide:=(p2 g 73 rfl rfl)
 have q_NoSide:=(YJ g.2.2.2.2.2.1 1 rfl rfl)
 have e_NoSide:=(YJ g.2.2.2.2.2.2 6 rfl rfl)
 have ga_Crowded:=(p1 g 67 rfl rfl)
 have gt_Crowded:=(p1 g 68 rfl rfl)
 have gc_Crowded:=(p1 g 69 rfl rfl)
 have ob_Crowded:=(YJ g.2.2.2.2.2.2 7 rfl rfl)
 have be_Crowded:=(YJ g.2.2.2.2.2.2 8 rfl rfl)
 have is_Crowded:=(p2 g 74 rfl rfl)
 have q_Crowded:=(YJ g.2.2.2.2.2.1 2 rfl rfl)
 have e_Crowded:=(YJ g.2.2.2.2.2.2 9 rfl rfl)
 have ga_NoUnit:=(p1 g 70 rfl rfl)
 have gt_NoUnit:=(p1 g 71 rfl rfl)
 have gc_NoUnit:=(p1 g 72 rfl rfl)
 have ob_NoUnit:=(YJ g.2.2.2.2.2.2 10 rfl rfl)
 have be_NoUnit:=(YJ g.2.2.2.2.2.2 11 rfl rfl)
 have is_NoUnit:=(p2 g 75 rfl rfl)
 have q_NoUnit:=(YJ g.2.2.2.2.2.1 3 rfl rfl)
 have e_NoUnit:=(YJ g.2.2.2.2.2.2 12 rfl rfl)
 have ga_OutOfReach:=(p1 g 73 rfl rfl)
 have gt_OutOfReach:=(p1 g 74 rfl rfl)
 have gc_OutOfReach:=(p1 g 75 rfl rfl)
 have ob_OutOfReach:=(YJ g.2.2.2.2.2.2 13 rfl rfl)
 have be_OutOfReach:=(YJ g.2.2.2.2.2.2 14 rfl rfl)
 have is_OutOfReach:=(p2 g 76 rfl rfl)
 have q_OutOfReach:=(YJ g.2.2.2.2.2.1 4 rfl rfl)
 have e_OutOfReach:=(YJ g.2.2.2.2.2.2 15 rfl rfl)
 have noL:=(p2 g 77 rfl rfl)
 have e:=hfa.symm.trans (W.mg_of X G a_34)
 cases e
 have F_0:=ZY (st:=NJ) l_0 c_0 k_0
 have b_0:=F_0.binds (ps:=["script","k"]) fun _ _ _ _ _ _ us hl=>match us,hl with|[_,_],_=>rfl
 have F_1:=ZY (st:=Mm) l_1 c_1 k_1
 have b_1:=F_1.binds (ps:=["script"]) fun _ _ _ _ _ _ us hl=>match us,hl with|[_],_=>rfl
 have F_2:=ZY (st:=NL) l_2 c_2 k_2
 have b_2:=F_2.binds (ps:=["script","many"]) fun _ _ _ _ _ _ us hl=>match us,hl with|[_,_],_=>rfl
 have F_3:=ZY (st:=NN) l_3 c_3 k_3
 have b_3:=F_3.binds (ps:=["script","many"]) fun _ _ _ _ _ _ us hl=>match us,hl with|[_,_],_=>rfl
 have F_4:=ZY (st:=NR) l_4 c_4 k_4
 have b_4:=F_4.binds (ps:=["cell","k","links","sides"]) fun _ _ _ _ _ _ us hl=>match us,hl with|[_,_,_,_],_=>rfl
 have F_5:=ZY (st:=MN) l_5 c_5 k_5
 have b_5:=F_5.binds (ps:=["script","links","sides"]) fun _ _ _ _ _ _ us hl=>match us,hl with|[_,_,_],_=>rfl
 have F_6:=ZY (st:=NG) l_6 c_6 k_6
 have b_6:=F_6.binds (ps:=["self","size"]) fun _ _ _ _ _ _ us hl=>match us,hl with|[_,_],_=>rfl
 have F_7:=ZY (st:=NK) l_7 c_7 k_7
 have b_7:=F_7.binds (ps:=["self","at"]) fun _ _ _ _ _ _ us hl=>match us,hl with|[_,_],_=>rfl
 have F_8:=ZY (st:=Mq) l_8 c_8 k_8
 have b_8:=F_8.binds (ps:=["self","a","b"]) fun _ _ _ _ _ _ us hl=>match us,hl with|[_,_,_],_=>rfl
 have F_9:=ZY (st:=N0) l_9 c_9 k_9
 have b_9:=F_9.binds (ps:=["frame","links"]) fun _ _ _ _ _ _ us hl=>match us,hl with|[_,_],_=>rfl
 have F_10:=ZY (st:=Rf) l_10 c_10 k_10
 have b_10:=F_10.binds (ps:=["self","chart"]) fun _ _ _ _ _ _ us hl=>match us,hl with|[_,_],_=>rfl
 have F_11:=ZY (st:=Ra) l_11 c_11 k_11
 have b_11:=F_11.binds (ps:=["self","at","side"]) fun _ _ _ _ _ _ us hl=>match us,hl with|[_,_,_],_=>rfl
 have F_12:=ZY (st:=S6) l_12 c_12 k_12
 have b_12:=F_12.binds (ps:=["frame","links","sides"]) fun _ _ _ _ _ _ us hl=>match us,hl with|[_,_,_],_=>rfl
 have F_13:=ZY (st:=RL) l_13 c_13 k_13
 have b_13:=F_13.binds (ps:=["self","board"]) fun _ _ _ _ _ _ us hl=>match us,hl with|[_,_],_=>rfl
 have F_14:=ZY (st:=RB) l_14 c_14 k_14
 have b_14:=F_14.binds (ps:=["self","at"]) fun _ _ _ _ _ _ us hl=>match us,hl with|[_,_],_=>rfl
 have F_15:=ZY (st:=S5) l_15 c_15 k_15
 have b_15:=F_15.binds (ps:=["self","at"]) fun _ _ _ _ _ _ us hl=>match us,hl with|[_,_],_=>rfl
 have F_16:=ZY (st:=RC) l_16 c_16 k_16
 have b_16:=F_16.binds (ps:=["self","at"]) fun _ _ _ _ _ _ us hl=>match us,hl with|[_,_],_=>rfl
 have F_17:=ZY (st:=RX) l_17 c_17 k_17
 have b_17:=F_17.binds (ps:=["self","places","units"]) fun _ _ _ _ _ _ us hl=>match us,hl with|[_,_,_],_=>rfl
 have F_18:=ZY (st:=Rh) l_18 c_18 k_18
 have b_18:=F_18.binds (ps:=["self","a","b"]) fun _ _ _ _ _ _ us hl=>match us,hl with|[_,_,_],_=>rfl
 have F_19:=ZY (st:=Rv) l_19 c_19 k_19
 have b_19:=F_19.binds (ps:=["self","at","goal"]) fun _ _ _ _ _ _ us hl=>match us,hl with|[_,_,_],_=>rfl
 have F_20:=ZY (st:=RO) l_20 c_20 k_20
 have b_20:=F_20.binds (ps:=["self","at","goal"]) fun _ _ _ _ _ _ us hl=>match us,hl with|[_,_,_],_=>rfl
 have F_21:=ZY (st:=Rg) l_21 c_21 k_21
 have b_21:=F_21.binds (ps:=["self","at","helped","goal"]) fun _ _ _ _ _ _ us hl=>match us,hl with|[_,_,_,_],_=>rfl
 have F_22:=ZY (st:=RD) l_22 c_22 k_22
 have b_22:=F_22.binds (ps:=["orders","off","told","k"]) fun _ _ _ _ _ _ us hl=>match us,hl with|[_,_,_,_],_=>rfl
 have F_23:=ZY (st:=RH) l_23 c_23 k_23
 have b_23:=F_23.binds (ps:=["frame","links","sides","told"]) fun _ _ _ _ _ _ us hl=>match us,hl with|[_,_,_,_],_=>rfl
 have F_24:=ZY (st:=Rb) l_24 c_24 k_24
 have b_24:=F_24.binds (ps:=["self","at"]) fun _ _ _ _ _ _ us hl=>match us,hl with|[_,_],_=>rfl
 have F_25:=ZY (st:=RV) l_25 c_25 k_25
 have b_25:=F_25.binds (ps:=["orders","frame","sides"]) fun _ _ _ _ _ _ us hl=>match us,hl with|[_,_,_],_=>rfl
 have F_26:=ZY (st:=Rs) l_26 c_26 k_26
 have b_26:=F_26.binds (ps:=["frame","number"]) fun _ _ _ _ _ _ us hl=>match us,hl with|[_,_],_=>rfl
 have F_27:=ZY (st:=RI) l_27 c_27 k_27
 have b_27:=F_27.binds (ps:=["frame","sides","number"]) fun _ _ _ _ _ _ us hl=>match us,hl with|[_,_,_],_=>rfl
 have F_28:=ZY (st:=RU) l_28 c_28 k_28
 have b_28:=F_28.binds (ps:=["frame","links","a","b"]) fun _ _ _ _ _ _ us hl=>match us,hl with|[_,_,_,_],_=>rfl
 have F_29:=ZY (st:=RT) l_29 c_29 k_29
 have b_29:=F_29.binds (ps:=["frame","links","way","at","helped","goal"]) fun _ _ _ _ _ _ us hl=>match us,hl with|[_,_,_,_,_,_],_=>rfl
 have F_30:=ZY (st:=Rp) l_30 c_30 k_30
 have b_30:=F_30.binds (ps:=["frame","links","sides","way","numbers"]) fun _ _ _ _ _ _ us hl=>match us,hl with|[_,_,_,_,_],_=>rfl
 have F_31:=ZY (st:=Ru) l_31 c_31 k_31
 have b_31:=F_31.binds (ps:=["orders","way","at","helped","goal"]) fun _ _ _ _ _ _ us hl=>match us,hl with|[_,_,_,_,_],_=>rfl
 have F_32:=ZY (st:=Rk) l_32 c_32 k_32
 have b_32:=F_32.binds (ps:=["self","at"]) fun _ _ _ _ _ _ us hl=>match us,hl with|[_,_],_=>rfl
 have F_33:=ZY (st:=Ry) l_33 c_33 k_33
 have b_33:=F_33.binds (ps:=["self"]) fun _ _ _ _ _ _ us hl=>match us,hl with|[_],_=>rfl
 have F_34:=ZY (st:=RM) l_34 c_34 k_34
 have b_34:=F_34.binds (ps:=["script"]) fun _ _ _ _ _ _ us hl=>match us,hl with|[_],_=>rfl
 have T:All K mg ⟨269,222,166,269,31,44,56,68,80,92,95,fun C D=>(W.kitOne K (.ref C) D).getD false,fun O C=>decide (W.exmOne K (.ref C) (.ref O)=some true)⟩ ⟨280,_,294,_,299,_,306,_,311,_,316,_,240,_,247,_,254,_,323,_,184,_,191,_,330,_,109,_,198,_,205,_,116,_,156,_,261,_,163,_,123,_,130,_,337,_,344,_,137,_,391,_,358,_,372,_,365,_,379,_,386,_,351,_,149,_,142,_,396,_⟩:=⟨⟨pg_Board,hd_Board,po_Board,sa_Board⟩,
  ⟨pg_Map,hd_Map,po_Map,sa_Map⟩,
  ⟨pg_Orders,hd_Orders,po_Orders,sa_Orders⟩,
  n_Board_chart,
  n_Board_units,
  n_Map_links,
  n_Map_size,
  n_Orders_board,
  n_Orders_given,
  ⟨mm_Board,a_10,i_10,kp_Board⟩,
  ⟨mm_Map,a_6,i_6,kp_Map⟩,
  ⟨mm_Orders,a_13,i_13,kp_Orders⟩,
  W.mg_of X G a_Board,
  W.mg_of X G a_Crowded,
  ⟨_,W.mg_of X G v_LAST_SIDE⟩,
  W.mg_of X G a_Map,
  W.mg_of X G a_NoPlace,
  W.mg_of X G a_NoSide,
  W.mg_of X G a_NoUnit,
  W.mg_of X G a_OrderError,
  W.mg_of X G a_Orders,
  W.mg_of X G a_OutOfReach,
  W.mg_of X G a_STAND,
  GTup.of l_STAND,
  x_Crowded,
  x_NoPlace,
  x_NoSide,
  x_NoUnit,
  x_OutOfReach,
  W.mg_none_of X G z_ValueError,
  W.mg_none_of X G z_int,
  W.mg_none_of X G z_isinstance,
  W.mg_none_of X G z_len,
  W.mg_none_of X G z_range,
  W.mg_none_of X G z_sorted,
  F_0,
  b_0,
  W.mg_of X G a_0,
  k_0,
  F_1,
  b_1,
  W.mg_of X G a_1,
  k_1,
  F_2,
  b_2,
  W.mg_of X G a_2,
  k_2,
  F_3,
  b_3,
  W.mg_of X G a_3,
  k_3,
  F_4,
  b_4,
  W.mg_of X G a_4,
  k_4,
  F_5,
  b_5,
  W.mg_of X G a_5,
  k_5,
  F_6,
  b_6,
  F_7,
  b_7,
  ⟨a_7,i_7,k_7⟩,
  F_8,
  b_8,
  ⟨a_8,i_8,k_8⟩,
  F_9,
  b_9,
  W.mg_of X G a_9,
  k_9,
  F_10,
  b_10,
  F_11,
  b_11,
  ⟨a_11,i_11,k_11⟩,
  F_12,
  b_12,
  W.mg_of X G a_12,
  k_12,
  F_13,
  b_13,
  F_14,
  b_14,
  ⟨a_14,i_14,k_14⟩,
  F_15,
  b_15,
  ⟨a_15,i_15,k_15⟩,
  F_16,
  b_16,
  ⟨a_16,i_16,k_16⟩,
  F_17,
  b_17,
  ⟨a_17,i_17,k_17⟩,
  F_18,
  b_18,
  ⟨a_18,i_18,k_18⟩,
  F_19,
  b_19,
  ⟨a_19,i_19,k_19⟩,
  F_20,
  b_20,
  ⟨a_20,i_20,k_20⟩,
  F_21,
  b_21,
  ⟨a_21,i_21,k_21⟩,
  F_22,
  b_22,
  W.mg_of X G a_22,
  k_22,
  F_23,
  b_23,
  W.mg_of X G a_23,
  k_23,
  F_24,
  b_24,
  ⟨a_24,i_24,k_24⟩,
  F_25,
  b_25,
  W.mg_of X G a_25,
  k_25,
  F_26,
  b_26,
  W.mg_of X G a_26,
  k_26,
  F_27,
  b_27,
  W.mg_of X G a_27,
  k_27,
  F_28,
  b_28,
  W.mg_of X G a_28,
  k_28,
  F_29,
  b_29,
  W.mg_of X G a_29,
  k_29,
  F_30,
  b_30,
  W.mg_of X G a_30,
  k_30,
  F_31,
  b_31,
  W.mg_of X G a_31,
  k_31,
  F_32,
  b_32,
  ⟨a_32,i_32,k_32⟩,
  F_33,
  b_33,
  ⟨a_33,i_33,k_33⟩,
  F_34,
  b_34,
  W.mg_of X G a_34,
  k_34,
  Mg rfl rfl ⟨ga_NoPlace,gt_NoPlace,gc_NoPlace,ob_NoPlace,be_NoPlace,sp,tk,is_NoPlace⟩ q_NoPlace ⟨ga_NoSide,gt_NoSide,gc_NoSide,ob_NoSide,be_NoSide,sp,tk,is_NoSide⟩ q_NoSide ⟨ga_Crowded,gt_Crowded,gc_Crowded,ob_Crowded,be_Crowded,sp,tk,is_Crowded⟩ q_Crowded ⟨ga_NoUnit,gt_NoUnit,gc_NoUnit,ob_NoUnit,be_NoUnit,sp,tk,is_NoUnit⟩ q_NoUnit ⟨ga_OutOfReach,gt_OutOfReach,gc_OutOfReach,ob_OutOfReach,be_OutOfReach,sp,tk,is_OutOfReach⟩ q_OutOfReach,
  fun C h=>of_decide_eq_true h⟩
 have A:CAok ⟨269,222,166,269,31,44,56,68,80,92,95,fun C D=>(W.kitOne K (.ref C) D).getD false,fun O C=>decide (W.exmOne K (.ref C) (.ref O)=some true)⟩:=⟨Ud q_NoPlace,Ud q_NoSide,Ud q_Crowded,Ud q_NoUnit,Ud q_OutOfReach,⟨decide_eq_true e_NoPlace,decide_eq_true e_NoSide,decide_eq_true e_Crowded,decide_eq_true e_NoUnit,decide_eq_true e_OutOfReach⟩⟩
 refine ⟨_,?_,fun base _ _=>Jy noL (Hd T) (KH _ A)⟩
 exact fun s v=>.of_eq rfl
theorem walk {l:W.OpenLaw} {q:Program} {loose:List Str} {XP:(Str->Option Value)->Heap->Prop} {d:DefRec} (hn:l.most=some 63) (hdf:d.params.defaults=[]) (hd:d.name="law") :
    W.WalkO q loose XP (W.Hook.says hook) l.row.toRowW d [] (fun f vs=>PySem.call f vs):=by
 refine Att.attach_call hn hdf fun w s₀ s₁ mg mb fa o pm cd doc a vs ns G Y ho hd' hcd hmg hobj hints hlen hg=>?_
 obtain ⟨K,KX,g⟩:=Y
 rw[hd]at hmg
 obtain ⟨fd,hb,hF⟩:=ER (l:=l) (w:=w) g KX G.T.g hmg
 exact L7 KX G.T.g G.T.b G.T.builtins G.T.nolimit hg hobj hints (Nat.le_trans hlen (by decide)) ⟨rfl,by decide,by decide⟩ hF hb (fun H hO hS=>⟨a,ns,rfl,hS,hlen,fun _=>rfl⟩) fun H e s' ⟨_,_,_,_,_,z⟩=>z
end MP
open PySem PySem.W PyProof.Rows
set_option maxRecDepth 100000 in
set_option maxHeartbeats 0 in
theorem PySem.Challenge.cw_atonce_k05_orders_refused_holds : PySem.Challenge.rw_atonce_k05_orders_refused.Holds := by
 w_on; o_law
 refine PySem.W.holds_open (q:=MP.view) (loose:=[]) (XP:=PySem.W.XL MP.view []) MP.run (PySem.W.Hook.of MP.hook) (PySem.W.Hook.keeps MP.hook) (fun s e=>PySem.W.xl_of s (Bool.and_eq_true_iff.mp e).1) PySem.W.XL.keeps (by rfl) (by rfl) (by rfl) (fun s e=>PySem.W.recFacts_of (Bool.and_eq_true_iff.mp e).2) (by rfl) (by first|assumption|decide +kernel) (by decide +kernel) ⟨rfl,rfl,rfl,rfl,rfl,by decide +kernel⟩ ?hw ?hc
 case hw=>w_witness2
 case hc=>exact MP.walk (l:=PySem.Challenge.rw_atonce_k05_orders_refused) rfl rfl rfl
