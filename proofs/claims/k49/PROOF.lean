import PyProof.Rows.All
import Wide.All
import OpenK.AllK
import Wide.FinOn
import PyProof.EqAt
import PyProof.EqKinds
import PyProof.TupleCall
import OpenK.KOwn
import PyProof.CompUse
import PyProof.NeKinds
import PyProof.StrOps2
import KE.KDictOf
import PyProof.AttrMissHeap
import PyProof.ListRange
import PyProof.TupleOfGen
import PyProof.CollectStr
import KE.KRevIter
import KE.KRevSl
import PyProof.StrLawsTight
import PyProof.StrLawsChain
import PyProof.StrLawsIn
import PyProof.StrLawsIdx
import PyProof.Rows.CatFin
import PyProof.Rows.StrItems
import KE.IntTextLaws
import PyProof.Rows.ReprOcc
import PyProof.FitsInt
import KE.KIntText
import Lean
import PySem.Challenge.RW_glyphhall_k49_pieces_kept
set_option genSizeOf false
set_option Elab.async false
set_option linter.all false
set_option maxRecDepth 100000
set_option maxHeartbeats 0
def aa:=@List.length_map
def ac:=@List.getElem?_eq_some_iff
def ae:=@Bool.and_eq_true
def ai:=@List.getElem?_eq_getElem
def aj:=@Nat.le_refl
def ak:=@List.getElem?_map
def al:=@List.mem_map
def ao:=@List.map_append
def aq:=@List.length_append
def au:=@List.getElem?_append_right
def av:=@List.getElem?_append_left
def aw:=@of_decide_eq_true
def ax:=@Option.some.inj
def ay:=@if_pos
def az:=@if_neg
def aA:=@List.append_assoc
def aB:=@Nat.zero_add
def aC:=@Nat.lt_of_lt_of_le
def aE:=@List.mem_cons_of_mem
def aF:=@List.mem_cons
def aH:=@List.mem_of_getElem?
def aI:=@List.map_map
def aK:=@List.length_range
def aL:=@List.mem_append
def aM:=@List.length_take
def aN:=@List.mem_range
def aO:=@List.mem_singleton
def aQ:=@Nat.lt_irrefl
def aR:=@Nat.le_trans
def aT:=@Nat.lt_succ_self
def aU:=@Nat.le_of_not_lt
def aV:=@List.nodup_cons
def aW:=@List.getElem?_eq_none
def aX:=@List.map_congr_left
def aY:=@List.mem_cons_self
def aZ:=@List.append_nil
def ba:=@decide_eq_true
def bc:=@Nat.min_eq_left
def bf:=@List.take_length
def bg:=@List.take_of_length_le
def bh:=@List.mem_filter
def bj:=@List.length_replicate
def bm:=@List.all_eq_true
def bn:=@List.any_eq_true
def bp:=@Bool.or_eq_true
def bq:=@Bool.false_ne_true
def br:=@List.getElem_mem
def bt:=@Int.natCast_add
def bu:=@List.length_filter_le
def bv:=@List.getD_eq_getElem?_getD
def bw:=@decide_eq_true_eq
def bx:=@decide_eq_false
def bz:=@List.length_drop
def bA:=@List.getElem?_take_of_lt
def bB:=@List.getElem?_replicate
def fv:=@PySem.wpAny_bind
def fF:=@PySem.Heap.get?_push_of_some
def fG:=@PySem.wpAny_pure
def fH:=@PySem.Heap.lt_size
def fI:=@PySem.Heap.get?_push_size
def fJ:=@Nat.mod_lt
def fK:=@decide_false
def fL:=@Bool.not_true
def fM:=@congrArg
def fN:=@Nat.ne_of_lt
def fO:=@decide_true
def fP:=@List.getElem?_set_ne
def fQ:=@PySem.wpAny_field
def fR:=@Ne.symm
def fS:=@Nat.le_of_ble_eq_true
def fT:=@PySem.Heap.SameBut.update
def fU:=@Bool.false_eq_true
def fV:=@if_true
def fW:=@List.getElem?_set_self
def fX:=@PySem.wpAny_seqItems
def fY:=@Nat.le_add_right
def fZ:=@PyProof.Rows.callWith_type1
def ga:=@Nat.zero_le
def gb:=@PySem.wpAny_truthy_bool
def gd:=@Bool.false_and
def gf:=@of_decide_eq_false
def gh:=@PySem.wpAny_callSpecial?_slot
def gi:=@Bool.true_and
def gj:=@PySem.wpAny_nextOf_list_item
def gm:=@Nat.mul_le_mul_right
def gq:=@PySem.wpAny_holding
def gr:=@PySem.Heap.size_push
def gu:=@PySem.wpAny_setField_rec
def gv:=@PySem.wpAny_mono
def gw:=@if_false
def gx:=@or_false
def gy:=@PySem.wpAny_updateSeq_pair
def gz:=@PySem.wpAny_onRaise
def gA:=@Bool.and_self
def gB:=@PySem.wpAny_setField
def gC:=@Bool.not_false
def gD:=@Nat.ne_of_gt
def gE:=@decide_eq_true_iff
def gF:=@PySem.wpAny_passesOwn
def gG:=@Bool.eq_iff_iff
def gH:=@PySem.wpAny_nextOf_list_end
def gI:=@PySem.StrLaws.glued_eq_join
def gJ:=@PySem.wpAny_getItem_str_slice
def gK:=@PySem.tupleKind_room_in1
def gL:=@List.drop_of_length_le
def gM:=@PySem.wpAny_newObj_type
def gO:=@PySem.Heap.get?_update_self
def gP:=@PySem.wpAny_pyIter_zip
def gQ:=@PySem.codeAny_call_builtin
def gR:=@PySem.strKind_is
def gS:=@PySem.sizeLine_eq
def gT:=@List.mem_of_find?_eq_some
def gU:=@PySem.Calls.spliced_cons
def gV:=@PySem.wpAny_Call_Name_kw
def gX:=@PySem.Txt.slice_le
def gY:=@PySem.wpAny_pyIter_list
def gZ:=@Option.isSome_map
def hU:=@PySem.wpAny_letGo
def hV:=@Bool.false_or
open PySem.W (instObj methodObj Frag lookIn plainGet hasDictIn handedIn plainOver takerIn makesIn emptyDict isFn fnOf mg_of ns_none_of)
open PySem.F (slot_tuple_add entry_tuple_add args_tuple_add_2 slot_dict_get slot_str_split entry_str_split args_str_split_2 plainAttrs_str)
open PySem.Builtin.SmallTypes (ownedTupleIsFree nextOf ownedTupleHandOut stopIteration)
open PySem.Builtin.Str (occurrences strKind partsBetween tooLong glued)
open PySem.Builtin.Slice (sliceAdjust slicePlaces sliceApplied sliceFields)
open List (mem_append_left getElem_inj mem_append_right size_toArray length_cons map_cons of_mem_zip map_nil all_cons any_cons length_singleton length_nil lookup_cons forIn_cons all_map not_mem_nil replicate_succ foldl_cons drop_eq_getElem_cons drop_zero forIn_nil nodup_append ext_getElem? length_eq_zero_iff nil_append nodup_nil isEmpty_iff drop_length cons_ne_nil cons_append map_id filter_map all_nil drop_succ_cons mem_of_mem_drop sum_cons length_zip take_succ_eq_append_getElem take_append_drop map_drop map_take mem_reverse)
local macro_rules
  | `(↥$x) => `(($x).length)
local macro_rules
  | `(~~~$x) => `(some (.ref $x))
local macro_rules
  | `($x⁻¹) => `(some (.int ($x : Int)))
local macro_rules
  | `(∅) => `(by decide)
local macro_rules
  | `(nofun) => `(by ac_nf)
local macro_rules
  | `(⇑($x)) => `(.int (($x : Nat) : Int))
  | `(⇑$x) => `(.int ($x : Int))
local macro_rules
  | `(tactic| ac_nf) => `(tactic| first | assumption | exact Nat.le_trans (by assumption) (by decide) | exact Nat.lt_of_le_of_lt (by assumption) (by decide) | exact (Int.natCast_add _ _).symm | exact Nat.le_of_lt (by assumption) | omega)
local macro_rules
  | `($a >=> $b) => `(.cons $a $b)
local macro_rules
  | `(⋯) => `(by simp)
noncomputable section
set_option compiler.extract_closed false
namespace L2
open PySem PySem.Spec PyProof.Rows
abbrev Key:=Sum Int Str
def a4B:Key->Value->Bool
 |.inl k,v=>Value.isInt k v
 |.inr x,v=>Value.isStrOf x v
def c2E(w:World):Key->Int
 |.inl k=>hashInt k
 |.inr x=>hashStr w x
theorem D3:∀{k:Key} {v:Value},a4B k v=true->(∃i t,k=Sum.inl i/\v=Value.int i t)∨(∃x t,k=Sum.inr x/\v=Value.str x t)
 |.inl i,v,h=>by obtain⟨t,e⟩:=Value.isInt_shape (k:=i) (v:=v) h;exact .inl ⟨i,t,rfl,e⟩
 |.inr x,v,h=>by obtain⟨t,e⟩:=Value.isStrOf_shape (x:=x) (v:=v) h;exact .inr ⟨x,t,rfl,e⟩
theorem b0d(i:Int)(t:Tok):a4B (.inl i) (.int i t)=true:=by simp[a4B,Value.isInt]
theorem b0c(x:Str)(t:Tok):a4B (.inr x) (.str x t)=true:=by simp[a4B,Value.isStrOf]
theorem b8i(a b:Int):decide ((Sum.inl a:Key)=Sum.inl b)=(a==b):=by
 by_cases e:a=b
 · subst e;simp
 · have h:¬(Sum.inl a:Key)=Sum.inl b:=λq=>e (Sum.inl.inj q);rw[bx h];exact(beq_eq_false_iff_ne.mpr e).symm
theorem b8f(a b:Str):decide ((Sum.inr a:Key)=Sum.inr b)=decide (a=b):=by
 by_cases e:a=b
 · subst e;simp
 · have h:¬(Sum.inr a:Key)=Sum.inr b:=λq=>e (Sum.inr.inj q);rw[bx h,bx e]
theorem b8h(a:Int)(b:Str):decide ((Sum.inl a:Key)=Sum.inr b)=false:=bx (λq=>nomatch q)
theorem b8g(a:Str)(b:Int):decide ((Sum.inr a:Key)=Sum.inl b)=false:=bx (λq=>nomatch q)
noncomputable def z9 (prog:Program) (w:World):PySem.KeyKind prog w Key where
 is:=a4B
 hash:=c2E w
 inj:=λv a b ha hb=>by
  rcases D3 ha with⟨i,t,rfl,rfl⟩|⟨x,t,rfl,rfl⟩
  · rcases D3 hb with⟨j,u,rfl,e⟩|⟨y,u,rfl,e⟩
    · injection e with e1 _;rw[e1]
    · exact nomatch e
  · rcases D3 hb with⟨j,u,rfl,e⟩|⟨y,u,rfl,e⟩
    · exact nomatch e
    · injection e with e1 _;rw[e1]
 byValue:=λk v h=>by rcases D3 h with⟨i,t,rfl,rfl⟩|⟨x,t,rfl,rfl⟩<;>rfl
 pyHash:=λhv h=>by
  rcases D3 hv with⟨i,t,rfl,rfl⟩|⟨x,t,rfl,rfl⟩
  · exact wpAny_pyHash_int h
  · exact wpAny_pyHash_str h
 eqBool:=λhu hv h=>by
  rcases D3 hu with⟨i,t,rfl,rfl⟩|⟨x,t,rfl,rfl⟩
  · rcases D3 hv with⟨j,u,rfl,rfl⟩|⟨y,u,rfl,rfl⟩
    · rw[b8i] at h;exact wpAny_eqBool_int h
    · rw[b8h] at h;exact SeqAt.EqAt.int_str i t y u _ _ _ _ h
  · rcases D3 hv with⟨j,u,rfl,rfl⟩|⟨y,u,rfl,rfl⟩
    · rw[b8g] at h;exact SeqAt.EqAt.str_int x t j u _ _ _ _ h
    · rw[b8f] at h;exact wpAny_eqBool_str h
 «strs»:=λk x t v h=>by
  rcases D3 h with⟨i,u,rfl,e⟩|⟨y,u,rfl,e⟩
  · exact nomatch e
  · injection e with e1 _;subst e1;cases v<;>rfl
theorem a6F(prog:Program)(w:World)(i:Int)(t:Tok):(z9 prog w).is (.inl i) (.int i t)=true:=b0d i t
theorem a6E(prog:Program)(w:World)(x:Str)(t:Tok):(z9 prog w).is (.inr x) (.str x t)=true:=b0c x t
inductive V where
 |non|bl (b:Bool)|int (i:Int)|str (x:Str)|byt (b:Array UInt8)|flt (b:UInt64)|ref (a:Addr)|ty (n:String)
 deriving DecidableEq
def k8:V->Value->Prop
 |.non,u=>u=Value.none
 |.bl b,u=>u=Value.bool b
 |.int i,u=>∃t,u=Value.int i t
 |.str x,u=>∃t,u=Value.str x t
 |.byt b,u=>∃t,u=Value.bytes b t
 |.flt b,u=>∃t,u=Value.float b t
 |.ref a,u=>u=Value.ref a
 |.ty n,u=>u=Value.type n
abbrev p7:List V->List Value->Prop:=Paired k8
variable{us:List Value}
theorem p7.length{xs:List V}(r:p7 xs us):↥xs=↥us:=Paired.length r
theorem p7.get:∀{xs:List V} {us:List Value} {i:Nat} {x:V},p7 xs us->xs[i]? =some x->∃u,us[i]? =some u/\k8 x u
 |_,_,_,_,.nil,e=>by simp at e
 |_,_,0,_,.cons r _,e=>by simp at e;subst e;exact⟨_,rfl,r⟩
 |_,_,i+1,x,.cons _ t,e=>by obtain⟨u,h1,h2⟩:=p7.get (i:=i) (x:=x) t (by simpa using e);exact⟨u,by simpa using h1,h2⟩
theorem p7.set{x:V}{u:Value}(r:k8 x u):∀{xs:List V} {us:List Value} (i:Nat),p7 xs us->p7 (xs.set i x) (us.set i u)
 |_,_,_,.nil=>.nil
 |_,_,0,.cons _ t=>.cons r t
 |_,_,i+1,.cons q t=>.cons q (p7.set r i t)
theorem p7.append:∀{xs ys:List V} {us ws:List Value},p7 xs us->p7 ys ws->p7 (xs++ys) (us++ws)
 |_,_,_,_,.nil,s=>s
 |_,_,_,_,.cons r t,s=>.cons r (p7.append t s)
theorem p7.take:∀{xs:List V} {us:List Value} (n:Nat),p7 xs us->p7 (xs.take n) (us.take n)
 |_,_,0,_=>.nil
 |_,_,_+1,.nil=>.nil
 |_,_,n+1,.cons r t=>.cons r (p7.take n t)
theorem p7.drop:∀{xs:List V} {us:List Value} (n:Nat),p7 xs us->p7 (xs.drop n) (us.drop n)
 |_,_,0,r=>r
 |_,_,_+1,.nil=>.nil
 |_,_,n+1,.cons _ t=>p7.drop n t
def a0M:Option V->Option Value->Prop
 |some v,some u=>k8 v u
 |none,none=>True
 |_,_=>False
def KV{κ:Type}:List (κ×V)->List (κ×Value)->Prop:=Paired fun(p:κ×V) (q:κ×Value)=>p.1=q.1/\k8 p.2 q.2
def kV:Key->V
 |.inl i=>.int i
 |.inr x=>.str x
inductive HO where
 /-- a list -/
 |lst (xs:List V)
 /-- a tuple (never changes) -/
 |tup (xs:List V)
 /-- a dict whose dA are ints and texts; one whose dA are tuples of ints and texts (the empty one is both) -/
 |dK (bD:List (Key×V))|dT (bD:List (List Key×V))
 /-- a set of ints: bF members, bF size -/
 |set (S:Int->Bool) (n:Nat)
 /-- an instance of the class at C, bF dict at dx, bF attributes -/
 |ins (C dx:Addr) (fs:List (Str×V))
 /-- the dict of the instance at x -/
 |own (x:Addr)
 /-- the dict of an exception -/
 |xd (fs:List (Str×V))
 /-- a bound method, f of x -/
 |met (f x:Addr)
 /-- a range object lo, lo + 1, .. below hi -/
 |rng (lo hi:Int)
 /-- a thing that is known to the object (the script; a dict while a loop walks it): read, never written while it is so -/
 |frz (o:Obj) (u:HO)
 /-- a code object's table -/
 |tbl (ps:Array Value)
 /-- any other thing, by what is true of bF one object (a def of one's own: SetO a S n := HO.ext λh => ..) -/
 |ext (φ:Heap->Prop)
abbrev Hp:=Addr->Option HO
def upd(H:Hp)(a:Addr)(o:HO):Hp:=λb=>if b=a then some o else H b
variable{H:Hp}{a:Addr}
theorem g9{o:HO}:upd H a o a=some o:=by unfold upd;rw[ay rfl]
variable{b:Addr}
theorem j9{o:HO}(h:b≠a):upd H a o b=H b:=by unfold upd;rw[az h]
theorem c0s{o u:HO}(h:H a=some o)(h':H b=some u)(d:o≠u):a≠b:=by intro e;subst e;rw[h] at h';exact d (ax h')
theorem y0{o:HO}(h:H a=some o)(h':H b=none):a≠b:=by intro e;subst e;rw[h] at h';cases h'
def a0B(h:Heap)(a:Addr)(items:Array Value):Prop:=∃o,h.get? a=some o/\o.cls=.type "tuple"/\o.dict=none/\∃n,o.data=.seq items n
theorem a0B.tup{h:Heap}{a:Addr}{items:Array Value}(x:a0B h a items):IsTup h a items:=let⟨o,e,c,_,n⟩:=x;⟨o,e,c,n⟩
theorem a0B.new(h:Heap)(items:Array Value):a0B (h.push {cls:=.type "tuple",data:=.seq items}) h.objs.size items:=⟨_,fI _ rfl,rfl,rfl,_,rfl⟩
section
variable(P:Program)(w:World)
def J4(H:Hp)(h:Heap)(a:Addr):HO->Prop
 |.lst xs=>↥xs<=sizeLine/\∃(bF:List Value) (n:Nat),p7 xs bF/\h.get? a=some {cls:=.type "list",data:=.seq bF.toArray n}
 |.tup xs=>↥xs<=sizeLine/\∃bF:List Value,p7 xs bF/\a0B h a bF.toArray
 |.dK bD=>↥bD<=sizeLine/\(a==sysModules)=false/\∃vs,KV bD vs/\h.DictOf (z9 P w) a vs
 |.dT bD=>↥bD<=sizeLine/\(a==sysModules)=false/\∃xs:List (List Key×Addr×Value),
  Paired (fun(p:List Key×V) (q:List Key×Addr×Value)=>p.1=q.1/\H q.2.1=some (.tup (p.1.map kV))/\k8 p.2 q.2.2) bD xs∧
  ∃o es ep,h.get? a=some o/\o.ExactDict/\o.data=.dict es ep/\es.toList=xs.map (entryOfKey (tupleKind (z9 P w)))/\(xs.map (·.1)).Nodup
 |.set S n=>h.SetOf (intKind P w) a S n
 |.ins C dx fs=>H dx=some (.own a)/\↥fs<=1000/\dx≠a/\h.get? a=some (instObj C dx)∧
  ∃mA,h.Ns1 dx mA/\(∀f,a0M (fs.lookup f) (mA f))/\PySem.Within mA (fs.map (·.1))
 |.own _=>∃o,h.get? a=some o
 |.xd fs=>∃mA,h.Ns1 a mA/\∀f,a0M (fs.lookup f) (mA f)
 |.rng lo hi=>∃t u v,h.get? a=some {cls:=.type "range",data:=.fields #[.int lo t,.int hi u,.int 1 v]}
 |.frz o u=>h.get? a=some o/\J4 H h a u
 |.tbl ps=>h.get? a=some {cls:=.none,data:=.fields ps}
 |.met f x=>h.get? a=some (methodObj (.ref f) (.ref x))
 |.ext φ=>φ h/\(∃o,h.get? a=some o)/\∀h1 h2:Heap,φ h1->(∀o,h1.get? a=some o->h2.get? a=some o)->φ h2
def HOk(H:Hp)(h:Heap):Prop:=∀a o,H a=some o->J4 P w H h a o
end
variable{α:Type}
section
variable{P:Program}{w:World}{H':Hp}{h h':Heap}{o:HO}
theorem J4.lt(x:J4 P w H h a o):a<h.objs.size:=by
 cases o with
 |lst xs=>obtain⟨_,_,_,_,e⟩:=x;exact fH e
 |tup xs=>obtain⟨_,_,_,p⟩:=x;exact p.tup.lt
 |dK bD=>obtain⟨_,_,_,_,o,_,_,e,_⟩:=x;exact fH e
 |dT bD=>obtain⟨_,_,_,_,o,_,_,e,_⟩:=x;exact fH e
 |set S n=>obtain⟨o,_,_,_,e,_⟩:=x;exact fH e
 |ins C dx fs=>obtain⟨_,_,_,e,_⟩:=x;exact fH e
 |own y=>obtain⟨_,e⟩:=x;exact fH e
 |xd fs=>obtain⟨_,⟨_,_,_,e,_⟩,_⟩:=x;exact fH e
 |rng lo hi=>obtain⟨_,_,_,e⟩:=x;exact fH e
 |frz ob u=>obtain⟨e,_⟩:=x;exact fH e
 |tbl ps=>exact fH (show h.get? a=some _ from x)
 |met f y=>exact fH (show h.get? a=some _ from x)
 |ext φ=>obtain⟨_,⟨_,e⟩,_⟩:=x;exact fH e
theorem Paired.mapP{α β:Type}{F G:α->β->Prop}:∀{l₁:List α} {l₂:List β},Paired F l₁ l₂->(∀a b,F a b->G a b)->Paired G l₁ l₂
 |_,_,.nil,_=>.nil
 |_,_,.cons r t,f=>.cons (f _ _ r) (Paired.mapP t f)
theorem J4.stay(x:J4 P w H h a o)(k:∀b u,(b=a∨H b=some (.own a))->h.get? b=some u->h'.get? b=some u)
 (ho:∀b,H b=some (.own a)->H' b=some (.own a)) (ht:∀b xs,H b=some (.tup xs)->H' b=some (.tup xs)):J4 P w H' h' a o:=by
 induction o with
 |lst xs=>obtain⟨z,bF,n,r,e⟩:=x;exact⟨z,bF,n,r,k _ _ (.inl rfl) e⟩
 |tup xs=>obtain⟨z,bF,r,ob,e,c⟩:=x;exact⟨z,bF,r,ob,k _ _ (.inl rfl) e,c⟩
 |dK bD=>obtain⟨z,y,vs,r,ob,es,ep,e,c⟩:=x;exact⟨z,y,vs,r,ob,es,ep,k _ _ (.inl rfl) e,c⟩
 |dT bD=>
  obtain⟨z,y,xs,r,ob,es,ep,e,c⟩:=x;exact⟨z,y,xs,Paired.mapP r λp q z=>⟨z.1,ht _ _ z.2.1,z.2.2⟩,ob,es,ep,k _ _ (.inl rfl) e,c⟩
 |set S n=>obtain⟨ob,es,ep,t,e,c⟩:=x;exact⟨ob,es,ep,t,k _ _ (.inl rfl) e,c⟩
 |ins C dx fs=>
  obtain⟨d,z,ne,e,mA,⟨od,es,ep,e2,c⟩,r⟩:=x;exact⟨ho _ d,z,ne,k _ _ (.inl rfl) e,mA,⟨od,es,ep,k _ _ (.inr d) e2,c⟩,r⟩
 |own y=>obtain⟨ob,e⟩:=x;exact⟨ob,k _ _ (.inl rfl) e⟩
 |xd fs=>obtain⟨mA,⟨od,es,ep,e,c⟩,r⟩:=x;exact⟨mA,⟨od,es,ep,k _ _ (.inl rfl) e,c⟩,r⟩
 |rng lo hi=>obtain⟨t,u,v,e⟩:=x;exact⟨t,u,v,k _ _ (.inl rfl) e⟩
 |frz ob u ih=>obtain⟨e,q⟩:=x;exact⟨k _ _ (.inl rfl) e,ih q⟩
 |tbl ps=>
  have e:h.get? a=some {cls:=.none,data:=.fields ps}:=x;show h'.get? a=some {cls:=.none,data:=.fields ps};exact k a _ (.inl rfl) e
 |met f y=>
  have e:h.get? a=some (methodObj (.ref f) (.ref y)):=x;show h'.get? a=some (methodObj (.ref f) (.ref y));exact k a _ (.inl rfl) e
 |ext φ=>obtain⟨p,⟨o,e⟩,st⟩:=x;exact⟨st _ _ p λo q=>k _ _ (.inl rfl) q,⟨o,k _ _ (.inl rfl) e⟩,st⟩
theorem HOk.lt(x:HOk P w H h)(e:H a=some o):a<h.objs.size:=(x a o e).lt
theorem HOk.fresh(x:HOk P w H h)(e:h.objs.size<=a):H a=none:=by
 cases q:H a with
 |none=>rfl
 |some u=>exact absurd (aC (x.lt q) e) (aQ _)
theorem HOk.kept(x:HOk P w H h)(k:∀b u,h.get? b=some u->h'.get? b=some u):HOk P w H h':=λa o e=>
 (x a o e).stay (λb u _ q=>k b u q) (λ_ q=>q) λ_ _ q=>q
theorem HOk.laid(x:HOk P w H h)(k:∀b u,h.get? b=some u->h'.get? b=some u)(hp:h.objs.size<=a)(new:J4 P w (upd H a o) h' a o):HOk P w (upd H a o) h':=λb u e=>by
 have hn:=x.fresh hp
 by_cases hb:b=a
 · subst hb;rw[g9] at e;cases e;exact new
 · rw[j9 hb] at e;exact(x b u e).stay (λc v _ q=>k c v q) (λc q=>by rw[j9 (y0 q hn)];exact q) λc xs q=>by rw[j9 (y0 q hn)];exact q
end
def Rd(H:Hp)(a:Addr)(u:HO):Prop:=H a=some u∨∃o,H a=some (.frz o u)
variable{P:Program}{w:World}{h:Heap}
theorem Rd.ok{u:HO}(r:Rd H a u)(x:HOk P w H h):J4 P w H h a u:=by
 rcases r with r|⟨o,r⟩
 · exact x a u r
 · obtain⟨_,q⟩:=x a _ r;exact q
def Mut:Option HO->Prop
 |some (.lst _)=>True
 |some (.dK _)=>True
 |some (.dT _)=>True
 |some (.set _ _)=>True
 |some (.ins _ _ _)=>True
 |some (.ext _)=>True
 |_=>False
section
variable{h':Heap}{x e:Addr}{o':HO}
theorem HOk.write(ok:HOk P w H h)(mu:Mut (H x))(he:e=x∨H e=some (.own x))(k:∀b u,b≠e->h.get? b=some u->h'.get? b=some u)(heo:∃u,h'.get? e=some u)
 (new:J4 P w (upd H x o') h' x o'):HOk P w (upd H x o') h':=λb u q=>by
 have nown:∀c y,H c=some (.own y)->c≠x:=λc y r z=>by subst z;rw[r] at mu;exact mu
 have ntup:∀c xs,H c=some (.tup xs)->c≠x:=λc xs r z=>by subst z;rw[r] at mu;exact mu
 by_cases hb:b=x
 · subst hb;rw[g9] at q;cases q;exact new
 · rw [j9 hb] at q
   by_cases hbe:b=e
   · have q':H b=some (.own x):=by
      rcases he with z|z
      · exact absurd (hbe.trans z) hb
      · rw[hbe];exact z
     rw[q] at q';cases q';obtain⟨v,hv⟩:=heo;exact⟨v,by rw[hbe];exact hv⟩
   · refine(ok b u q).stay (λc v hc r=>k c v ?_ r) (λc r=>by rw[j9 (nown c b r)];exact r) λc xs r=>by rw[j9 (ntup c xs r)];exact r
     rcases hc with rfl|hc
     · exact hbe
     · rintro rfl;rcases he with z|z
       · exact nown c b hc z
       · rw[hc] at z;cases z;exact hb rfl
end
structure Un(fs ex:List Addr)(H H':Hp)(h h':Heap):Prop where
 keep:∀b o,h.get? b=some o->H b=none->b∉fs->b∉ex->h'.get? b=some o
 slot:∀b o,h.get? b=some o->H b=none->b∈fs->b∉ex->∃sl,h'.get? b=some {o with slots:=sl}
 free:∀b o,h.get? b=some o->H b=none->b∉ex->H' b=none
 there:∀b o,h.get? b=some o->b∉ex->∃o',h'.get? b=some o'
 tups:∀b xs,H b=some (.tup xs)->H' b=some (.tup xs)
 frzs:∀b o u,H b=some (.frz o u)->H' b=some (.frz o u)
 tbls:∀b ps,H b=some (.tbl ps)->∃dh,H' b=some (.tbl (ps++dh))
section
variable{fs fs' ex ex':List Addr}{H1 H2:Hp}{h1 h2 h':Heap}{x e:Addr}{o:HO}
theorem Un.any(u:Un fs ex H H1 h h1){ob:Obj}(q:h.get? b=some ob)(n:H b=none)(hx:b∉ex):∃sl,h1.get? b=some {ob with slots:=sl}:=by
 by_cases hb:b∈fs
 · exact u.slot b ob q n hb hx
 · exact⟨ob.slots,u.keep b ob q n hb hx⟩
theorem Un.kept(k:∀b u,h.get? b=some u->h'.get? b=some u):Un fs ex H H h h':=
 ⟨λb ob q _ _ _=>k b ob q,λb ob q _ _ _=>⟨ob.slots,k b ob q⟩,λ_ _ _ n _=>n,λb ob q _=>⟨ob,k b ob q⟩,λ_ _ q=>q,λ_ _ _ q=>q,λ_ ps q=>⟨#[],by rw[q];simp⟩⟩
theorem Un.refl:Un fs ex H H h h:=Un.kept λ_ _ q=>q
theorem Un.laid(k:∀b u,h.get? b=some u->h'.get? b=some u)(hp:h.objs.size<=a)(hn:H a=none):Un fs ex H (upd H a o) h h' where
 keep:=λb u q _ _ _=>k b u q
 slot:=λb u q _ _ _=>⟨u.slots,k b u q⟩
 free:=λb u q n _=>by rw[j9 (fN (aC (fH q) hp))];exact n
 there:=λb u q _=>⟨u,k b u q⟩
 tups:=λb xs q=>by rw[j9 (y0 q hn)];exact q
 frzs:=λb u xs q=>by rw[j9 (y0 q hn)];exact q
 tbls:=λb ps q=>⟨#[],by rw[j9 (y0 q hn),q];simp⟩
theorem Un.write(mu:Mut (H x))(he:e=x∨H e=some (.own x))(k:∀b u,b≠e->h.get? b=some u->h'.get? b=some u)(heo:∃u,h'.get? e=some u):Un fs ex H (upd H x o) h h':=by
 have hx:∀b,H b=none->b≠x:=λb n z=>by subst z;rw[n] at mu;exact mu
 have hb:∀b,H b=none->b≠e:=λb n z=>by
  subst z;rcases he with r|r
  · exact hx b n r
  · rw[n] at r;cases r
 have hm:∀b u,H b=some u->¬Mut (some u)->b≠x:=λb u q nm z=>by subst z;rw[q] at mu;exact nm mu
 refine⟨λb u q n _ _=>k b u (hb b n) q,λb u q n _ _=>⟨u.slots,k b u (hb b n) q⟩,λb u q n _=>by rw[j9 (hx b n)];exact n,λb u q _=>?_,
  λb xs q=>by rw[j9 (hm b _ q λz=>z)];exact q,λb u xs q=>by rw[j9 (hm b _ q λz=>z)];exact q,λb ps q=>⟨#[],by rw[j9 (hm b _ q λz=>z),q];simp⟩⟩
 by_cases hbe:b=e
 · subst hbe;exact heo
 · exact⟨u,k b u hbe q⟩
end
def trk(h:Heap)(H:Hp):List Addr:=(List.range h.objs.size).filter λa=>(H a).isSome
def a5C(h:Heap)(H:Hp):Heap:=PySem.W.hideAll h (trk h H)
theorem b0g(h:Heap)(H:Hp):(a5C h H).objs.size=h.objs.size:=PySem.W.hideAll_size _ _
theorem b2z{o:Obj}(e:h.get? b=some o)(n:H b=none):(a5C h H).get? b=some o:=
 PySem.W.hideAll_get _ e λhm=>by have q:(H b).isSome=true:=(bh.mp hm).2;rw[n] at q;simp at q
theorem b5f{o:Obj}(e:(a5C h H).get? b=some o):h.get? b=some o/\H b=none:=by
 have e':h.get? b=some o:=PySem.W.of_hideAll (trk h H) e;refine⟨e',?_⟩;cases q:H b with
 |none=>rfl
 |some x=>
  have hm:b∈trk h H:=bh.mpr ⟨aN.mpr (fH e'),by simp[q]⟩;have z:(a5C h H).get? b=none:=PySem.W.hideAll_none (trk h H) hm;rw[z] at e;cases e
noncomputable def b6w(g h:Heap)(L:Addr):List (Addr×Obj):=(List.range h.objs.size).filterMap λa=>if a=L∨(g.get? a).isSome=true then none else(h.get? a).map λo=>(a,o)
variable{g:Heap}{L:Addr}
def d9(g h:Heap)(L d:Addr):List (Addr×Obj):=(b6w g h L).filter λp=>decide (p.1≠d)
variable{d:Addr}{h':Heap}{m:Str->Option Value}
structure Mod(K:Frag)(mg:Str->Option Value)(base:Heap):Prop where
 kin:K.In base
 glob:base.Ns mainGlobals mg
 blt:∃mb,base.Ns builtinsNs mb/\∀x:Str,x≠"__name__"->mb x=bootBuiltins x
 nolimit:base.NoLimit
structure Cx where
 prog:Program
 w:World
 K:Frag
 mg:Str->Option Value
 base:Heap
 A:Around
 N:List Str
 s₀:Shared
 H₀:Hp
 env:Env
 outer:List Env
 stack:List Env
 ex:List Addr
 fn:Str->Bool
 calm:Bool
 pn:List (Addr×Obj)
 xe:Value->Shared->Prop
def frs(l:List Env):List Addr:=l.filterMap (·.frame)
abbrev Cx.fs(X:Cx):List Addr:=frs X.outer
def Vis(sc:Scope)(x:Str):Prop:=sc.names.lookup x=some .local∨sc.names.lookup x=some .cell∨sc.names.lookup x=some .free
def Loc(sc:Scope)(x:Str):Prop:=sc.names.lookup x=some .local∨sc.names.lookup x=some .cell
def c3m(env:Env)(h:Heap)(m:Str->Option Value)(x:Str)(u:Value):Prop:=
 (env.kindOf x=some .local/\m x=some u)∨((env.kindOf x=some .cell∨env.kindOf x=some .free)/\∃c,env.cells.lookup x=some c/\h.IsCell c (some u))
structure Cx.Ok(X:Cx):Prop where
 mod:Mod X.K X.mg X.base
 kind:X.env.scope.kind=.function
 glob:X.env.globals=mainGlobals
 blt:X.env.builtins=builtinsNs
 above:X.s₀.heap.objs.size<=X.env.locals
 inj:∀x y c,X.env.cells.lookup x=some c->X.env.cells.lookup y=some c->x=y
 has:∀x,(X.env.kindOf x=some .cell∨X.env.kindOf x=some .free)->∃c,X.env.cells.lookup x=some c
 cab:∀x c,X.fn x=true->X.env.cells.lookup x=some c->X.s₀.heap.objs.size<=c
 hd:X.calm=true->X.A.handled=none
 frames:X.A.frames=some X.stack
 stk:X.stack=X.outer∨(X.stack=X.env::X.outer/\X.env.frame=some X.env.locals)
 exf:∀b∈X.ex,b≠X.env.locals/\∀x c,X.env.cells.lookup x=some c->c≠b
 bs:∀b o,X.base.get? b=some o->X.s₀.heap.get? b=some o/\X.H₀ b=none
 bsz:X.base.objs.size<=X.s₀.heap.objs.size
 noex:∀b o,X.base.get? b=some o->b∉X.ex
 exfs:∀b∈X.ex,b∉X.fs
 funs:X.s₀.heap.FunFrames X.base X.outer
 frf:∀b∈X.fs,X.H₀ b=none
structure Inv(X:Cx)(bC:List (Addr×Obj))(σ:List (Option V))(H:Hp)(s:Shared):Prop where
 ok:X.Ok
 os:s.os=X.s₀.os
 bare:AllBare s.gens
 base:Un X.fs X.ex X.H₀ H X.s₀.heap s.heap
 loc:∃m,s.heap.Ns X.env.locals m/\∀(i:Nat) (x:Str) (v:V),X.N[i]? =some x->σ[i]? =some (some v)->Vis X.env.scope x->∃u,k8 v u/\c3m X.env s.heap m x u
 cell:∀x c,X.env.cells.lookup x=some c->∃v,s.heap.IsCell c v
 free:H X.env.locals=none
 freeC:∀x c,X.env.cells.lookup x=some c->H c=none
 pin:∀p∈X.pn++bC,s.heap.get? p.1=some p.2/\H p.1=none/\p.1≠X.env.locals/\p.1∉X.fs/\∀v,p.2.data≠.cell v
 hok:HOk X.prog X.w H s.heap
 len:↥σ=↥X.N
variable{g':Array GenState}{ch:List Addr}{it:Addr}{N:List Str}{j:Nat}{x:Str}{M:Model}{A:Around}{v:V}{u:Value}{s':Shared}
section
variable{X:Cx}{bC:List (Addr×Obj)}{σ:List (Option V)}{H':Hp}{s:Shared}
theorem Cx.Ok.nofr(ok:X.Ok){o:Obj}(e:X.base.get? b=some o):b∉X.fs:=λhb=>by have:=(ok.funs.mem hb).1;rw[e] at this;cases this
theorem Inv.bs(I:Inv X bC σ H s):∀b o,X.base.get? b=some o->s.heap.get? b=some o/\H b=none:=λb o e=>
 ⟨I.base.keep b o (I.ok.bs b o e).1 (I.ok.bs b o e).2 (I.ok.nofr e) (I.ok.noex b o e),I.base.free b o (I.ok.bs b o e).1 (I.ok.bs b o e).2 (I.ok.noex b o e)⟩
theorem Inv.bk(I:Inv X bC σ H s):∀b o,X.base.get? b=some o->s.heap.get? b=some o:=λb o e=>(I.bs b o e).1
theorem Inv.mod(I:Inv X bC σ H s):Mod X.K X.mg X.base:=I.ok.mod
theorem Inv.kIn(I:Inv X bC σ H s):X.K.In s.heap:=I.ok.mod.kin.keeps I.bk
theorem Inv.lt(I:Inv X bC σ H s):X.env.locals<s.heap.objs.size:=let⟨_,hn,_⟩:=I.loc;hn.lt
theorem Inv.sz(I:Inv X bC σ H s):X.s₀.heap.objs.size<=s.heap.objs.size:=aR I.ok.above (Nat.le_of_lt I.lt)
theorem Inv.nofs(I:Inv X bC σ H s)(h:s.heap.objs.size<=a):a∉X.fs:=λhb=>by obtain⟨_,o,ho,_⟩:=I.ok.funs.mem hb;exact absurd (aC (fH ho) (aR I.sz h)) (aQ _)
theorem Inv.cne(I:Inv X bC σ H s):∀x c,X.env.cells.lookup x=some c->c≠X.env.locals:=λx c e z=>by obtain⟨v,o,ho,hd⟩:=I.cell x c e;obtain⟨m,⟨o',es,ep,dG,hd',_⟩,_⟩:=I.loc;rw[z,dG] at ho;cases ho;rw[hd'] at hd;cases hd
theorem Inv.funs(I:Inv X bC σ H s):s.heap.FunFrames X.base X.outer:=by
 have all:∀(l:List Env),(∀b∈frs l,b∈X.fs)->X.s₀.heap.FunFrames X.base l->s.heap.FunFrames X.base l:=by
  intro l
  induction l with
  |nil=>intro _ _;trivial
  |cons env r ih=>
   intro hs hl;obtain⟨hk,⟨L,o,hf,hn,ho,hd⟩,hr⟩:=hl;have hL:L∈X.fs:=hs L (by unfold frs;rw[List.filterMap_cons,hf];exact aY);obtain⟨sl,e⟩:=I.base.slot L o ho (I.ok.frf L hL) hL λz=>I.ok.exfs L z hL;exact⟨hk,⟨L,_,hf,hn,e,hd⟩,ih (λb hb=>hs b (by unfold frs;rw[List.filterMap_cons,hf];exact aE _ hb)) hr⟩
 exact all X.outer (λ_ hb=>hb) I.ok.funs
theorem Inv.stack(I:Inv X bC σ H s):s.heap.FunFrames X.base X.stack:=by
 rcases I.ok.stk with e|⟨e,hf⟩
 · rw[e];exact I.funs
 · rw[e];obtain⟨m,hn,_⟩:=I.loc;refine .cons (by rw[I.ok.kind];decide) hf hn ?_ I.funs;exact Heap.get?_none_of_le (aR I.ok.bsz I.ok.above)
theorem Inv.stkSub(I:Inv X bC σ H s):∀b∈frs X.stack,b∈X.env.locals::X.fs:=λb hb=>by
 rcases I.ok.stk with e|⟨e,hf⟩
 · rw[e] at hb;exact aE _ hb
 · rw[e] at hb;unfold frs at hb;rw[List.filterMap_cons,hf] at hb;exact hb
theorem Inv.stkFree(I:Inv X bC σ H s):∀b∈frs X.stack,H b=none:=λb hb=>by
 rcases aF.mp (I.stkSub b hb) with e|hb
 · rw[e];exact I.free
 · obtain⟨_,o,ho,_⟩:=I.ok.funs.mem hb;exact I.base.free b o ho (I.ok.frf b hb) λz=>I.ok.exfs b z hb
theorem Inv.step{t':Nat}{d':Drawn}(I:Inv X bC σ H s)
 (ed:∀b∈ch,(b∈X.ex∨X.s₀.heap.objs.size<=b)/\b≠X.env.locals/\(∀x c,X.env.cells.lookup x=some c->c≠b)/\∀p∈X.pn++bC,p.1≠b)
 (keep:∀b o,b≠X.env.locals->b∉X.fs->b∉ch->s.heap.get? b=some o->H b=none->h'.get? b=some o)
 (slot:∀b o,b≠X.env.locals->b∈X.fs->b∉ch->s.heap.get? b=some o->H b=none->∃sl,h'.get? b=some {o with slots:=sl}) (free:∀b o,b∉ch->s.heap.get? b=some o->H b=none->H' b=none)
 (there:∀b o,b∉ch->s.heap.get? b=some o->∃o',h'.get? b=some o')
 (tups:∀b xs,H b=some (.tup xs)->H' b=some (.tup xs)) (frzs:∀b o u,H b=some (.frz o u)->H' b=some (.frz o u)) (tbls:∀b ps,H b=some (.tbl ps)->∃dh,H' b=some (.tbl (ps++dh)))
 (ns:∀m,s.heap.Ns X.env.locals m->h'.Ns X.env.locals m) (hok:HOk X.prog X.w H' h') (hg:AllBare g'):
 Inv X bC σ H' {s with heap:=h',gens:=g',drawn:=d',toks:=t'}:=by
 have neL:∀b o,X.s₀.heap.get? b=some o->b≠X.env.locals:=λb o e=>fN (aC (fH e) I.ok.above);have neC:∀b o,X.s₀.heap.get? b=some o->b∉X.ex->b∉ch:=λb o e hx hb=>by
  rcases(ed b hb).1 with z|z
  · exact hx z
  · exact absurd (aC (fH e) z) (aQ _)
 have cellK:∀x c,X.env.cells.lookup x=some c->∀v,s.heap.IsCell c v->h'.IsCell c v:=λx c e v ⟨o,ho,hd⟩=>by
  have nch:c∉ch:=λz=>(ed c z).2.2.1 x c e rfl
  by_cases hc:c∈X.fs
  · obtain⟨sl,q⟩:=slot c o (I.cne x c e) hc nch ho (I.freeC x c e);exact⟨_,q,hd⟩
  · exact⟨o,keep c o (I.cne x c e) hc nch ho (I.freeC x c e),hd⟩
 refine⟨I.ok,I.os,hg,⟨λb o e n hb hx=>?_,λb o e n hb hx=>?_,λb o e n hx=>?_,λb o e hx=>?_,λb xs e=>tups b xs (I.base.tups b xs e),λb o xs e=>frzs b o xs (I.base.frzs b o xs e),λb ps e=>?_⟩,?_,λx c e=>?_,?_,λx c e=>?_,λp hp=>?_,hok,I.len⟩
 · exact keep b o (neL b o e) hb (neC b o e hx) (I.base.keep b o e n hb hx) (I.base.free b o e n hx)
 · obtain⟨sl,e1⟩:=I.base.slot b o e n hb hx;obtain⟨sl',e2⟩:=slot b _ (neL b o e) hb (neC b o e hx) e1 (I.base.free b o e n hx);exact⟨sl',e2⟩
 · obtain⟨o',e1⟩:=I.base.there b o e hx;exact free b o' (neC b o e hx) e1 (I.base.free b o e n hx)
 · obtain⟨o',e1⟩:=I.base.there b o e hx;exact there b o' (neC b o e hx) e1
 · obtain⟨m1,e1⟩:=I.base.tbls b ps e;obtain⟨m2,e2⟩:=tbls b _ e1;exact⟨m1++m2,by rw[e2,Array.append_assoc]⟩
 · obtain⟨m,hn,hl⟩:=I.loc;refine⟨m,ns m hn,λi x v e1 e2 e3=>?_⟩;obtain⟨u,r,l⟩:=hl i x v e1 e2 e3;refine⟨u,r,?_⟩;rcases l with l|⟨k,c,e,z⟩
   · exact .inl l
   · exact .inr ⟨k,c,e,cellK x c e _ z⟩
 · obtain⟨v,z⟩:=I.cell x c e;exact⟨v,cellK x c e v z⟩
 · obtain⟨m,⟨o,_,_,ho,_⟩,_⟩:=I.loc;exact free _ o (λz=>(ed _ z).2.1 rfl) ho I.free
 · obtain⟨v,o,ho,hd⟩:=I.cell x c e;exact free c o (λz=>(ed c z).2.2.1 x c e rfl) ho (I.freeC x c e)
 · obtain⟨e,n,ne,nf,d⟩:=I.pin p hp;have nch:p.1∉ch:=λz=>(ed p.1 z).2.2.2 p hp rfl;exact⟨keep p.1 p.2 ne nf nch e n,free p.1 p.2 nch e n,ne,nf,d⟩
theorem Inv.un{t':Nat}(I:Inv X bC σ H s)(u:Un X.fs [] H H' s.heap h')(hok:HOk X.prog X.w H' h'):Inv X bC σ H' {s with heap:=h',toks:=t'}:=by
 obtain⟨m,⟨o,es,ep,ho,r⟩,_⟩:=id I.loc;obtain⟨sl,hL⟩:=u.any ho I.free ⋯;exact I.step (g':=s.gens) (d':=s.drawn) (ch:=[]) (λ_ z=>nomatch z) (λb o _ hb _ e n=>u.keep b o e n hb ⋯) (λb o _ hb _ e n=>u.slot b o e n hb ⋯) (λb o _ e n=>u.free b o e n ⋯) (λb o _ e=>u.there b o e ⋯) u.tups u.frzs u.tbls (λm' hm=>by obtain⟨o',es',ep',dG,r'⟩:=hm;rw[ho] at dG;cases dG;exact⟨_,es',ep',hL,r'⟩) hok I.bare
theorem Inv.call{t':Nat}{d':Drawn}(I:Inv X bC σ H s)(u:Un (frs X.stack) ch H H' s.heap h')(hok:HOk X.prog X.w H' h')(hg:AllBare g')
 (ed:∀b∈ch,(b∈X.ex∨X.s₀.heap.objs.size<=b)/\b≠X.env.locals/\(∀x c,X.env.cells.lookup x=some c->c≠b)/\∀p∈X.pn++bC,p.1≠b):
 Inv X bC σ H' {s with heap:=h',gens:=g',drawn:=d',toks:=t'}:=by
 obtain⟨m,⟨o,es,ep,ho,r⟩,_⟩:=id I.loc;obtain⟨sl,hL⟩:=u.any ho I.free λz=>(ed _ z).2.1 rfl;exact I.step (ch:=ch) ed (λb o hL hb hc e n=>u.keep b o e n (λz=>(aF.mp (I.stkSub b z)).elim hL hb) hc) (λb o _ _ hc e n=>u.any e n hc) (λb o hc e n=>u.free b o e n hc) (λb o hc e=>u.there b o e hc) u.tups u.frzs u.tbls (λm' hm=>by obtain⟨o',es',ep',dG,r'⟩:=hm;rw[ho] at dG;cases dG;exact⟨_,es',ep',hL,r'⟩) hok hg
theorem Inv.turned{t':Nat}(I:Inv X bC σ H s)(k:∀b o,b≠it->s.heap.get? b=some o->h'.get? b=some o)(hn:H it=none)(hL:it≠X.env.locals)
 (h1:it∈X.ex∨X.s₀.heap.objs.size<=it) (h2:∀x c,X.env.cells.lookup x=some c->c≠it) (h3:∀p∈X.pn++bC,p.1≠it):Inv X bC σ H {s with heap:=h',toks:=t'}:=by
 have nit:∀b u,H b=some u->b≠it:=λb u e z=>by rw[z,hn] at e;cases e
 refine I.step (g':=s.gens) (d':=s.drawn) (ch:=[it]) (λb hb=>?_) (λb o _ _ hc e _=>k b o (λz=>hc (by simp[z])) e) (λb o _ _ hc e _=>⟨o.slots,k b o (λz=>hc (by simp[z])) e⟩) (λ_ _ _ _ n=>n)
  (λb o hc e=>⟨o,k b o (λz=>hc (by simp[z])) e⟩) (λ_ _ e=>e) (λ_ _ _ e=>e) (λb ps e=>⟨#[],by rw[e];simp⟩) (λm hm=>?_) (λb u e=>?_) I.bare
 · have e:b=it:=by simpa using hb
   subst e;exact⟨h1,hL,h2,h3⟩
 · obtain⟨o,es,ep,ho,r⟩:=hm;exact⟨o,es,ep,k _ o (fR hL) ho,r⟩
 · refine(I.hok b u e).stay (λc v hc q=>k c v ?_ q) (λ_ q=>q) λ_ _ q=>q;rcases hc with z|z
   · rw[z];exact nit b u e
   · exact nit c _ z
theorem Inv.tok(I:Inv X bC σ H s)(t:Nat):Inv X bC σ H {s with toks:=t}:=I.un (h':=s.heap) (t':=t) Un.refl I.hok
theorem Inv.kept{t':Nat}(I:Inv X bC σ H s)(k:∀b u,s.heap.get? b=some u->h'.get? b=some u):Inv X bC σ H {s with heap:=h',toks:=t'}:=I.un (Un.kept k) (I.hok.kept k)
theorem Inv.laid{o:HO}{t':Nat}(I:Inv X bC σ H s)(k:∀b u,s.heap.get? b=some u->h'.get? b=some u)(hp:s.heap.objs.size<=a)(new:J4 X.prog X.w (upd H a o) h' a o):
 Inv X bC σ (upd H a o) {s with heap:=h',toks:=t'}:=I.un (Un.laid k hp (I.hok.fresh hp)) (I.hok.laid k hp new)
theorem Inv.write{x e:Addr}{o:HO}{t':Nat}(I:Inv X bC σ H s)(mu:Mut (H x))(he:e=x∨H e=some (.own x))(k:∀b u,b≠e->s.heap.get? b=some u->h'.get? b=some u)(heo:∃u,h'.get? e=some u)
 (new:J4 X.prog X.w (upd H x o) h' x o):Inv X bC σ (upd H x o) {s with heap:=h',toks:=t'}:=I.un (Un.write mu he k heo) (I.hok.write mu he k heo new)
theorem Inv.weak{bQ:List (Option V)}(I:Inv X bC σ H s)(hl:↥bQ=↥σ)(w:∀(i:Nat) v,bQ[i]? =some (some v)->σ[i]? =some (some v)):Inv X bC bQ H s:=
 ⟨I.ok,I.os,I.bare,I.base,let⟨m,hn,hl'⟩:=I.loc;⟨m,hn,λi x v e1 e2 e3=>hl' i x v e1 (w i v e2) e3⟩,I.cell,I.free,I.freeC,I.pin,I.hok,hl.trans I.len⟩
theorem Inv.pins_of{pins':List (Addr×Obj)}(I:Inv X bC σ H s)(h:∀p∈pins',s.heap.get? p.1=some p.2/\H p.1=none/\p.1≠X.env.locals/\p.1∉X.fs/\∀v,p.2.data≠.cell v):Inv X pins' σ H s:=
 ⟨I.ok,I.os,I.bare,I.base,I.loc,I.cell,I.free,I.freeC,λp hp=>(aL.mp hp).elim (λz=>I.pin p (mem_append_left _ z)) (h p),I.hok,I.len⟩
theorem a6C(hN:N.Nodup){i:Nat}(a:N[i]? =some x)(b:N[j]? =some x):i=j:=by obtain⟨h1,e1⟩:=ac.mp a;obtain⟨h2,e2⟩:=ac.mp b;exact(getElem_inj hN).mp (e1.trans e2.symm)
theorem a4o{E:Value->Shared->Prop}{i:Nat}{Q:Unit->Shared->Prop}(I:Inv X bC σ H s)(hN:X.N.Nodup)(hi:X.N[i]? =some x)(hx:Loc X.env.scope x)(r:k8 v u)
 (h:∀s',Inv X bC (σ.set i (some v)) H s'->(∃a,Heap.SameBut a s.heap s'.heap/\(a=X.env.locals∨X.env.cells.lookup x=some a))->Q () s') (hf:X.fn x=true∨X.env.scope.names.lookup x=some .local:=by first|exact .inl rfl|exact .inr rfl|assumption):wpAny M A (storeName X.env x u) Q E s:=by
 obtain⟨m,hn,hl⟩:=id I.loc;have hcls:(X.env.scope.kind==.class||(X.env.scope.kind==.module&&X.env.locals !=X.env.globals))=false:=by rw[I.ok.kind];rfl
 have hiσ:i<↥σ:=by rw[I.len];exact(ac.mp hi).1
 have cne:=I.cne;have tracked:∀{a:Addr} {h':Heap},(∃o,s.heap.get? a=some o/\H a=none)->Heap.SameBut a s.heap h'->HOk X.prog X.w H h':=fun{a h'} ha hs b ob e=>by
  obtain⟨_,_,hfree⟩:=ha;refine(I.hok b ob e).stay (λc w' hc q=>(hs.2 c ?_).trans q) (λ_ q=>q) λ_ _ q=>q;rintro rfl;rcases hc with rfl|hc
  · rw[hfree] at e;cases e
  · rw[hfree] at hc;cases hc
 rcases hx with hk|hk
 · refine wpAny_storeName_local hk hn (λh' hn' hs=>?_) hcls;obtain⟨oL,_,_,hoL,_⟩:=id hn;refine h _ ⟨I.ok,I.os,I.bare,⟨λb o e n hb hx=>?_,λb o e n hb hx=>?_,I.base.free,λb o e hx=>?_,I.base.tups,I.base.frzs,I.base.tbls⟩,⟨_,hn',λj y v' e1 e2 e3=>?_⟩,λy c e=>?_,I.free,I.freeC,λp hp=>?_,tracked ⟨oL,hoL,I.free⟩ hs,by simpa using I.len⟩ ⟨_,hs,.inl rfl⟩
   · exact(hs.2 b (fN (aC (fH e) I.ok.above))).trans (I.base.keep b o e n hb hx)
   · obtain⟨sl,e1⟩:=I.base.slot b o e n hb hx;exact⟨sl,(hs.2 b (fN (aC (fH e) I.ok.above))).trans e1⟩
   · obtain⟨o',e1⟩:=I.base.there b o e hx;exact⟨o',(hs.2 b (fN (aC (fH e) I.ok.above))).trans e1⟩
   · by_cases hj:j=i
     · subst hj;rw[hi] at e1;cases e1;rw[fW hiσ] at e2;cases e2;exact⟨u,r,.inl ⟨hk,by simp⟩⟩
     · rw[fP (fR hj)] at e2;obtain⟨u',r',q⟩:=hl j y v' e1 e2 e3;refine⟨u',r',?_⟩;rcases q with⟨k,e⟩|⟨k,c,e,z⟩
       · refine .inl ⟨k,?_⟩;have:y≠x:=λe=>hj (a6C hN e1 (e▸hi));simp[this,e]
       · exact .inr ⟨k,c,e,z.sameBut hs (cne y c e)⟩
   · obtain⟨w',z⟩:=I.cell y c e;exact⟨w',z.sameBut hs (cne y c e)⟩
   · obtain⟨e,n,ne,nf,d⟩:=I.pin p hp;exact⟨(hs.2 p.1 ne).trans e,n,ne,nf,d⟩
 · have hfn:X.fn x=true:=by
    rcases hf with z|z
    · exact z
    · rw[z] at hk;cases hk
   obtain⟨c,hc⟩:=I.ok.has x (.inl hk);obtain⟨w',z⟩:=I.cell x c hc;refine wpAny_storeName_cell I.ok.kind hk hc z (λh' eM hs=>?_);obtain⟨oc,hoc,hocd⟩:=id z;refine h {s with heap:=h'} ⟨I.ok,I.os,I.bare,⟨λb o e n hb hx=>?_,λb o e n hb hx=>?_,I.base.free,λb o e hx=>?_,I.base.tups,I.base.frzs,I.base.tbls⟩,⟨m,hn.sameBut hs (fR (cne x c hc)),λj y v' e1 e2 e3=>?_⟩,λy c' e=>?_,I.free,I.freeC,λp hp=>?_,tracked ⟨oc,hoc,I.freeC x c hc⟩ hs,by simpa using I.len⟩ ⟨c,hs,.inr hc⟩
   · exact(hs.2 b (fN (aC (fH e) (I.ok.cab x c hfn hc)))).trans (I.base.keep b o e n hb hx)
   · obtain⟨sl,e1⟩:=I.base.slot b o e n hb hx;exact⟨sl,(hs.2 b (fN (aC (fH e) (I.ok.cab x c hfn hc)))).trans e1⟩
   · obtain⟨o',e1⟩:=I.base.there b o e hx;exact⟨o',(hs.2 b (fN (aC (fH e) (I.ok.cab x c hfn hc)))).trans e1⟩
   · by_cases hj:j=i
     · subst hj;rw[hi] at e1;cases e1;rw[fW hiσ] at e2;cases e2;exact⟨u,r,.inr ⟨.inl hk,c,hc,eM⟩⟩
     · rw[fP (fR hj)] at e2;obtain⟨u',r',q⟩:=hl j y v' e1 e2 e3;refine⟨u',r',?_⟩;rcases q with q|⟨k,c',e,z'⟩
       · exact .inl q
       · refine .inr ⟨k,c',e,z'.sameBut hs ?_⟩;rintro rfl;exact hj (a6C hN e1 (I.ok.inj _ _ _ e hc▸hi))
   · by_cases dD:c'=c
     · subst dD;exact⟨_,eM⟩
     · obtain⟨w2,z2⟩:=I.cell y c' e;exact⟨w2,z2.sameBut hs dD⟩
   · obtain⟨e,n,ne,nf,d⟩:=I.pin p hp;refine⟨(hs.2 p.1 ?_).trans e,n,ne,nf,d⟩;intro q;rw[q,hoc] at e;have q':oc=p.2:=ax e;exact d w' (by rw[←q'];exact hocd)
theorem a6k{E:Value->Shared->Prop}{i:Nat}{Q:Unit->Shared->Prop}(I:Inv X bC σ H s)(hN:X.N.Nodup)(hi:X.N[i]? =some x)(hx:Loc X.env.scope x)(r:k8 v u)
 (h:∀s',Inv X bC (σ.set i (some v)) H s'->Q () s') (hf:X.fn x=true∨X.env.scope.names.lookup x=some .local:=by first|exact .inl rfl|exact .inr rfl|assumption):wpAny M A (storeName X.env x u) Q E s:=
 a4o I hN hi hx r (λs' I' _=>h s' I') hf
theorem Inv.call'(I:Inv X bC σ H s)(ho:s'.os=s.os)(u:Un (frs X.stack) ch H H' s.heap s'.heap)(hok:HOk X.prog X.w H' s'.heap)(hg:AllBare s'.gens)
 (ed:∀b∈ch,(b∈X.ex∨X.s₀.heap.objs.size<=b)/\b≠X.env.locals/\(∀x c,X.env.cells.lookup x=some c->c≠b)/\∀p∈X.pn++bC,p.1≠b):Inv X bC σ H' s':=by
 obtain⟨h',g',d',t',o'⟩:=s';have e:o'=s.os:=ho;subst e;exact I.call (g':=g') (t':=t') (d':=d') u hok hg ed
end
abbrev XK:=Value->Option Addr->Hp->Prop
abbrev St:=List (Option V)
abbrev VK:=V->Hp->Prop
abbrev TE:=St->Hp->VK->Prop
abbrev TT:=St->Hp->(Bool->Hp->Prop)->Prop
abbrev TA:=St->Hp->(List V->Hp->Prop)->Prop
structure Ends where
 nx:St->Hp->Prop
 rt:VK
 bk:St->Hp->Prop:=λ_ _=>False
 ct:St->Hp->Prop:=λ_ _=>False
abbrev TS:=Ends->St->Hp->Prop
def EP(X:Cx)(bC:List (Addr×Obj))(σ:St)(Q:VK)(u:Value)(s':Shared):Prop:=∃v H',Inv X bC σ H' s'/\k8 v u/\Q v H'
def TP(X:Cx)(bC:List (Addr×Obj))(σ:St)(Q:Bool->Hp->Prop)(b:Bool)(s':Shared):Prop:=∃H',Inv X bC σ H' s'/\Q b H'
def AP(X:Cx)(bC:List (Addr×Obj))(σ:St)(Q:List V->Hp->Prop)(us:List Value)(s':Shared):Prop:=∃vs H',Inv X bC σ H' s'/\p7 vs us/\Q vs H'
def SP(X:Cx)(bC:List (Addr×Obj))(D:Ends)(f:Flow)(s':Shared):Prop:=
 match f with
 |.next=>∃bQ H',Inv X bC bQ H' s'/\D.nx bQ H'
 |.brk=>∃bQ H',Inv X bC bQ H' s'/\D.bk bQ H'
 |.cont=>∃bQ H',Inv X bC bQ H' s'/\D.ct bQ H'
 |.ret u=>∃v bQ H',Inv X bC bQ H' s'/\k8 v u/\D.rt v H'
def PE(X:Cx)(e:Expr)(t:TE):Prop:=
 ∀(bC:List (Addr×Obj)) (s:Shared) (σ:St) (H:Hp) (Q:VK),Inv X bC σ H s->t σ H Q->wpAny (model X.prog X.w) X.A (eval e X.env) (EP X bC σ Q) X.xe s
def PT(X:Cx)(e:Expr)(t:TT):Prop:=
 ∀(bC:List (Addr×Obj)) (s:Shared) (σ:St) (H:Hp) (Q:Bool->Hp->Prop),Inv X bC σ H s->t σ H Q->wpAny (model X.prog X.w) X.A (isTrue e X.env (eval e X.env)) (TP X bC σ Q) X.xe s
def PW(X:Cx)(e:Expr)(t:TT):Prop:=
 ∀(da:Sem Value) (bC:List (Addr×Obj)) (s:Shared) (σ:St) (H:Hp) (Q:Bool->Hp->Prop),Inv X bC σ H s->t σ H Q->wpAny (model X.prog X.w) X.A (isTrue e X.env da) (TP X bC σ Q) X.xe s
variable{X:Cx}{e:Expr}
theorem PW.pt{t:TT}(h:PW X e t):PT X e t:=h _
def PA(X:Cx)(es:List Expr)(t:TA):Prop:=
 ∀(pos:Pos) (bC:List (Addr×Obj)) (s:Shared) (σ:St) (H:Hp) (Q:List V->Hp->Prop),Inv X bC σ H s->t σ H Q->wpAny (model X.prog X.w) X.A (spliced (backTo pos (starEach es X.env))) (AP X bC σ Q) X.xe s
def PS(X:Cx)(st:Stmt)(t:TS):Prop:=
 ∀(bC:List (Addr×Obj)) (s:Shared) (σ:St) (H:Hp) (D:Ends),Inv X bC σ H s->t D σ H->wpAny (model X.prog X.w) X.A (exec st X.env) (SP X bC D) X.xe s
def PSs(X:Cx)(st:List Stmt)(t:TS):Prop:=
 ∀(bC:List (Addr×Obj)) (s:Shared) (σ:St) (H:Hp) (D:Ends),Inv X bC σ H s->t D σ H->wpAny (model X.prog X.w) X.A (execs st X.env) (SP X bC D) X.xe s
theorem thn{t:Sem α}{Q Q':α->Shared->Prop}{E:Value->Shared->Prop}{s:Shared}(h:wpAny M A t Q E s)(hQ:∀a s,Q a s->Q' a s):wpAny M A t Q' E s:=gv h hQ λ_ _ x=>x
variable{bC:List (Addr×Obj)}{σ:St}{pos:Pos}{Q:Value->Shared->Prop}{op:CmpOp}{c:Expr}
section
theorem bin{a b:Expr}{ta tb:TE}(ha:PE X a ta)(hb:PE X b tb){s:Shared}{R:V->V->Hp->Prop}(I:Inv X bC σ H s)(h:ta σ H λx H1=>tb σ H1 λy H2=>R x y H2)
 {Q :α->Shared->Prop} {f:Value->Value->Sem α}
    (hf:∀v u s2 x y H2,Inv X bC σ H2 s2->k8 x v->k8 y u->R x y H2->wpAny (model X.prog X.w) X.A (f v u) Q X.xe s2):
    wpAny (model X.prog X.w) X.A (eval a X.env) (λv bK=>wpAny (model X.prog X.w) X.A (eval b X.env) (λu df=>wpAny (model X.prog X.w) X.A (f v u) Q X.xe df) X.xe bK) X.xe s:=by
  refine thn (ha bC s σ H _ I h) λv s1 zz=>?_;obtain⟨x,H1,I1,r1,q1⟩:=zz;refine thn (hb bC s1 σ H1 _ I1 q1) λu s2 zz=>?_;obtain⟨y,H2,I2,r2,q2⟩:=zz;exact hf v u s2 x y H2 I2 r1 r2 q2
def c2f(i:Nat):TE:=λσ H Q=>∃v,σ[i]? =some (some v)/\Q v H
def tC(v:V):TE:=λ_ H Q=>Q v H
theorem b7H{i:Nat}(hN:X.N[i]? =some x)(hv:Vis X.env.scope x)(hd:(x==("__debug__":Str))=false:=by decide)(eZ:(x==("__classdict__":Str))=false:=by decide):PE X (.Name x pos) (c2f i):=by
 intro bC s σ H Q I h;obtain⟨v,e,h⟩:=h;obtain⟨m,hn,hl⟩:=I.loc;obtain⟨u,r,l⟩:=hl i x v hN e hv;have cJ:EP X bC σ Q u s:=⟨v,H,I,r,h⟩;rcases l with⟨hk,hm⟩|⟨hk,c,hc,hcell⟩
 · exact wpAny_Name (wpAny_loadName_local I.ok.kind hk hn hm cJ) hd
 · rcases hk with hk|hk
   · exact wpAny_Name (wpAny_loadName_cell I.ok.kind hk hc hcell cJ) hd
   · exact wpAny_Name (wpAny_loadName_free I.ok.kind hk hc hcell cJ eZ) hd
theorem b1D{i j pos}:PE X (.Constant (.int i) j pos) (tC (.int i)):=λ_ _ _ H _ I h=>wpAny_Constant_int ⟨.int i,H,I.tok _,⟨_,rfl⟩,h⟩
theorem c0j{b j pos}:PE X (.Constant (.bool b) j pos) (tC (.bl b)):=λ_ _ _ H _ I h=>Constant_bool ⟨.bl b,H,I,rfl,h⟩
theorem b7L{j pos}:PE X (.Constant .none j pos) (tC .non):=λ_ _ _ H _ I h=>Constant_none ⟨.non,H,I,rfl,h⟩
theorem b1A{x j pos}:PE X (.Constant (.str x) j pos) (tC (.str x)):=λ_ _ _ H _ I h=>Calls.Constant_str ⟨.str x,H,I.tok _,⟨_,rfl⟩,h⟩
def Gl(X:Cx)(x:Str):Prop:=X.env.kindOf x=some .globalImplicit
theorem a5w{E:Value->Shared->Prop}{s:Shared}(I:Inv X bC σ H s)(hg:Gl X x)(hm:X.mg x=some u)(h:Q u s)
 (hd:(x==("__debug__":Str))=false:=by decide):wpAny (model X.prog X.w) X.A (eval (.Name x pos) X.env) Q E s:=
 Calls.Name_function_global I.ok.kind hg (Calls.loadGlobal_global (by rw[I.ok.glob];exact I.mod.glob.keeps I.bk) hm h) hd
theorem a0g{E:Value->Shared->Prop}{s:Shared}(I:Inv X bC σ H s)(hg:Gl X x)(hm:X.mg x=none)(hv:bootBuiltins x=some u)(h:Q u s)
 (hn:x≠"__name__":=by decide) (hd:(x==("__debug__":Str))=false:=by decide):wpAny (model X.prog X.w) X.A (eval (.Name x pos) X.env) Q E s:=by
 obtain⟨mb,h1,h2⟩:=I.mod.blt;exact Calls.Name_function_global I.ok.kind hg (Calls.loadGlobal_builtin (by rw[I.ok.glob];exact I.mod.glob.keeps I.bk) hm (by rw[I.ok.blt];exact h1.keeps I.bk) ((h2 x hn).trans hv) h) hd
theorem a2R(hg:Gl X x)(hm:X.mg x=some u)(r:k8 v u)(hd:(x==("__debug__":Str))=false:=by decide):PE X (.Name x pos) (tC v):=
 λ_ _ _ H _ I h=>a5w I hg hm ⟨v,H,I,r,h⟩ hd
variable{a b:Expr}{ta tb:TE}
def PC(X:Cx)(op:CmpOp)(a b:Expr)(t:TE):Prop:=
 ∀(bC:List (Addr×Obj)) (s:Shared) (σ:St) (H:Hp) (Q:VK),Inv X bC σ H s->t σ H Q→
  wpAny (model X.prog X.w) X.A (eval a X.env) (λv bK=>wpAny (model X.prog X.w) X.A (eval b X.env) (λu df=>wpAny (model X.prog X.w) X.A (compareOp op v u) (EP X bC σ Q) X.xe df) X.xe bK) X.xe s
theorem a6D(b:Expr)(h:op≠.In)(h2:op≠.NotIn):behindInMarks op b=false:=by
 have e1:(op==CmpOp.In)=false:=by cases op<;>first|rfl|exact absurd rfl h
 have e2:(op==CmpOp.NotIn)=false:=by cases op<;>first|rfl|exact absurd rfl h2
 cases b<;>simp[behindInMarks,e1,e2]
def c2m(ta:TE):TE:=λσ H Q=>ta σ H λx H1=>Q (.bl (decide (x=.non))) H1
def b9H(ta:TE):TE:=λσ H Q=>ta σ H λx H1=>Q (.bl (!decide (x=.non))) H1
theorem k8.none_iff{x:V}{v:Value}(r:k8 x v):(v==Value.none)=decide (x=.non):=by
 cases x with
 |non=>cases r;rfl
 |bl _=>cases r;rfl
 |int _=>obtain⟨t,rfl⟩:=r;rfl
 |str _=>obtain⟨t,rfl⟩:=r;rfl
 |byt _=>obtain⟨t,rfl⟩:=r;rfl
 |flt _=>obtain⟨t,rfl⟩:=r;rfl
 |ref _=>cases r;rfl
 |ty _=>cases r;rfl
theorem b1I{j cU}(ha:PE X a ta):PC X .Is a (.Constant .none j cU) (c2m ta):=by intro bC s σ H Q I h;refine thn (ha bC s σ H _ I h) λv s1 zz=>?_;obtain⟨x,H1,I1,r1,q1⟩:=zz;exact Constant_none (is_none_gen ⟨.bl _,H1,I1,by rw[r1.none_iff];rfl,q1⟩)
theorem a8H{j cU}(ha:PE X a ta):PC X .IsNot a (.Constant .none j cU) (b9H ta):=by intro bC s σ H Q I h;refine thn (ha bC s σ H _ I h) λv s1 zz=>?_;obtain⟨x,H1,I1,r1,q1⟩:=zz;exact Constant_none (isnot_none_gen ⟨.bl _,H1,I1,by rw[r1.none_iff];rfl,q1⟩)
def tB(t:TE):TT:=λσ H Q=>t σ H λx H1=>∃c,x=.bl c/\Q c H1
theorem b1G{t:TE}(h:PC X op a b t)(h1:behindInMarks op b=false:=by first|exact a6D _ ∅ ∅|rfl):PE X (.Compare a [op] [b] pos) t:=λbC s σ H Q I hw=>wpAny_Compare1 (h bC s σ H Q I hw) h1
theorem b1n{t:TE}(h:PC X op a b t)(h1:behindInMarks op b=false:=by first|exact a6D _ ∅ ∅|rfl):PT X (.Compare a [op] [b] pos) (tB t):=by intro bC s σ H Q I hw;refine wpAny_isTrue_Compare1 (thn (h bC s σ H _ I hw) λv s1 h1=>thn h1 λu s2 h2=>thn h2 λc s3 zz=>?_) h1;obtain⟨x,H1,I1,r1,q1⟩:=zz;obtain⟨d,rfl,q⟩:=q1;cases r1;exact gb ⟨H1,I1,q⟩
variable{tA tB':TT}{d9:List Expr}
def c2q(t u:TT):TT:=λσ H Q=>t σ H λc H1=>if c=true then u σ H1 Q else Q false H1
def tOr(t u:TT):TT:=λσ H Q=>t σ H λc H1=>if c=true then Q true H1 else u σ H1 Q
def c2k(t:TT):TT:=λσ H Q=>t σ H λc H1=>Q (!c) H1
theorem b4G(ha:PT X a tA):PW X (.BoolOp .And [a] pos) tA:=by
 intro wh bC s σ H Q I h;refine isTrue_and (thn (ha bC s σ H Q I h) λc s1 e=>?_);cases c with
 |true=>exact isTrue_and_nil e
 |false=>exact e
theorem b7r(ha:PT X a tA):PW X (.BoolOp .Or [a] pos) tA:=by
 intro wh bC s σ H Q I h;refine isTrue_or (thn (ha bC s σ H Q I h) λc s1 e=>?_);cases c with
 |false=>exact isTrue_or_nil e
 |true=>exact e
theorem b7s(ha:PT X a tA)(hb:PW X (.BoolOp .And (b::d9) pos) tB'):PW X (.BoolOp .And (a::b::d9) pos) (c2q tA tB'):=by
 intro wh bC s σ H Q I h;refine isTrue_and (thn (ha bC s σ H _ I h) λc s1 zz=>?_);obtain⟨H1,I1,q1⟩:=zz;cases c with
 |true=>exact hb wh bC s1 σ H1 Q I1 q1
 |false=>exact⟨H1,I1,q1⟩
theorem c0e(ha:PT X a tA)(hb:PW X (.BoolOp .Or (b::d9) pos) tB'):PW X (.BoolOp .Or (a::b::d9) pos) (tOr tA tB'):=by
 intro wh bC s σ H Q I h;refine isTrue_or (thn (ha bC s σ H _ I h) λc s1 zz=>?_);obtain⟨H1,I1,q1⟩:=zz;cases c with
 |true=>exact⟨H1,I1,q1⟩
 |false=>exact hb wh bC s1 σ H1 Q I1 q1
theorem b7v(ha:PT X a tA):PT X (.UnaryOp .Not a pos) (c2k tA):=by intro bC s σ H Q I h;exact isTrue_not (ha bC s σ H (λc H1=>Q (!c) H1) I h)
noncomputable def b9P(ta tb:TE):TE:=λσ H Q=>ta σ H λx H1=>∃c,x=.bl c/\if c=true then tb σ H1 Q else Q (.bl false) H1
noncomputable def c2j(ta tb:TE):TE:=λσ H Q=>ta σ H λx H1=>∃c,x=.bl c/\if c=true then Q (.bl true) H1 else tb σ H1 Q
def b9G(ta:TE):TE:=λσ H Q=>ta σ H λx H1=>∃c,x=.bl c/\Q (.bl (!c)) H1
theorem b7J{op}{t:TE}(h:PE X a t):PE X (.BoolOp op [a] pos) t:=λbC s σ H Q I hw=>BoolOp_one (h bC s σ H Q I hw)
theorem b7O(ha:PE X a ta)(hb:PE X (.BoolOp .And (b::d9) pos) tb):PE X (.BoolOp .And (a::b::d9) pos) (b9P ta tb):=by
 intro bC s σ H Q I h;refine BoolOp_and (thn (ha bC s σ H _ I h) λv s1 zz=>?_);obtain⟨x,H1,I1,r1,q1⟩:=zz;obtain⟨c,rfl,q1⟩:=q1;cases r1;refine gb ?_;cases c with
 |true=>exact hb bC s1 σ H1 Q I1 q1
 |false=>exact⟨.bl false,H1,I1,rfl,q1⟩
theorem c0h(ha:PE X a ta)(hb:PE X (.BoolOp .Or (b::d9) pos) tb):PE X (.BoolOp .Or (a::b::d9) pos) (c2j ta tb):=by
 intro bC s σ H Q I h;refine BoolOp_or (thn (ha bC s σ H _ I h) λv s1 zz=>?_);obtain⟨x,H1,I1,r1,q1⟩:=zz;obtain⟨c,rfl,q1⟩:=q1;cases r1;refine gb ?_;cases c with
 |false=>exact hb bC s1 σ H1 Q I1 q1
 |true=>exact⟨.bl true,H1,I1,rfl,q1⟩
theorem b7K(ha:PE X a ta):PE X (.UnaryOp .Not a pos) (b9G ta):=by intro bC s σ H Q I h;refine UnaryOp_ (thn (ha bC s σ H _ I h) λv s1 zz=>?_);obtain⟨x,H1,I1,r1,q1⟩:=zz;obtain⟨c,rfl,q1⟩:=q1;cases r1;exact not_of (gb ⟨.bl (!c),H1,I1,rfl,q1⟩)
end
def SqL(K:Frag)(H:Hp)(a:Addr)(xs:List V):Prop:=
 Rd H a (.lst xs)∨
  ∃(o:Obj) (bF:Array Value) (n:Nat),K.lookup a=some o/\o.cls=.type "list"/\o.dict=none/\o.data=.seq bF n/\bF.size<=sizeLine/\p7 xs bF.toList
def SqT(K:Frag)(H:Hp)(a:Addr)(xs:List V):Prop:=
 Rd H a (.tup xs)∨
  ∃(o:Obj) (bF:Array Value) (n:Nat),K.lookup a=some o/\o.cls=.type "tuple"/\o.data=.seq bF n/\bF.size<=sizeLine/\p7 xs bF.toList
noncomputable def c2Z:Value->Option V
 |.none=>some .non
 |.bool b=>some (.bl b)
 |.int i _=>some (.int i)
 |.str x _=>some (.str x)
 |.bytes b _=>some (.byt b)
 |.float b _=>some (.flt b)
 |.ref a=>~~~a
 |.type n=>some (.ty n)
 |_=>none
theorem k8.abs{x:V}(r:k8 x u):c2Z u=some x:=by
 cases x with
 |non=>cases r;rfl
 |bl _=>cases r;rfl
 |int _=>obtain⟨t,rfl⟩:=r;rfl
 |str _=>obtain⟨t,rfl⟩:=r;rfl
 |byt _=>obtain⟨t,rfl⟩:=r;rfl
 |flt _=>obtain⟨t,rfl⟩:=r;rfl
 |ref _=>cases r;rfl
 |ty _=>cases r;rfl
variable{y:V}
theorem k8.inj{x:V}(r:k8 x u)(q:k8 y u):x=y:=ax (r.abs.symm.trans q.abs)
theorem p7.inj:∀{xs ys:List V} {us:List Value},p7 xs us->p7 ys us->xs=ys
 |_,_,_,.nil,.nil=>rfl
 |_,_,_,.cons r t,.cons r' t'=>by rw[r.inj r',p7.inj t t']
variable{K:Frag}
section
variable{s:Shared}{xs ys:List V}
theorem Inv.list(I:Inv X bC σ H s)(h:SqL X.K H a xs):∃bF:List Value,p7 xs bF/\PlainL s.heap a bF.toArray/\↥xs<=sizeLine:=by
 rcases h with h|⟨o,bF,n,hk,hc,hd,hs,hz,r⟩
 · obtain⟨z,bF,n,r,e⟩:=h.ok I.hok;exact⟨bF,r,⟨_,n,e,rfl,rfl,rfl⟩,z⟩
 · refine⟨bF.toList,r,⟨o,n,I.kIn a o hk,hc,hd,by simpa using hs⟩,?_⟩;have e:=↥r;simp only[Array.length_toList] at e;ac_nf
theorem Inv.tuple(I:Inv X bC σ H s)(h:SqT X.K H a xs):∃bF:List Value,p7 xs bF/\IsTup s.heap a bF.toArray/\↥xs<=sizeLine:=by
 rcases h with h|⟨o,bF,n,hk,hc,hs,hz,r⟩
 · obtain⟨z,bF,r,p⟩:=h.ok I.hok;exact⟨bF,r,p.tup,z⟩
 · refine⟨bF.toList,r,⟨o,I.kIn a o hk,hc,n,by simpa using hs⟩,?_⟩;have e:=↥r;simp only[Array.length_toList] at e;ac_nf
theorem Inv.list_inj(I:Inv X bC σ H s)(h:SqL X.K H a xs)(h':SqL X.K H a ys):xs=ys:=by
 obtain⟨bF,r,⟨o,n,e,_,_,d⟩,_⟩:=I.list h;obtain⟨its',r',⟨o',n',e',_,_,d'⟩,_⟩:=I.list h';rw[e] at e';cases e';rw[d] at d';injection d' with d1 _;have:bF=its':=by simpa using fM Array.toList d1
 subst this;exact r.inj r'
theorem Inv.tuple_inj(I:Inv X bC σ H s)(h:SqT X.K H a xs)(h':SqT X.K H a ys):xs=ys:=by
 obtain⟨bF,r,⟨o,e,_,n,d⟩,_⟩:=I.tuple h;obtain⟨its',r',⟨o',e',_,n',d'⟩,_⟩:=I.tuple h';rw[e] at e';cases e';rw[d] at d';injection d' with d1 _;have:bF=its':=by simpa using fM Array.toList d1
 subst this;exact r.inj r'
end
variable{tc:TT}
section
variable{st:Stmt}{d9:List Stmt}{t u:TS}{te:TE}
def b9J:TS:=λD σ H=>D.nx σ H
def c2h(t u:TS):TS:=λD σ H=>t {D with nx:=u D} σ H
theorem b4H:PSs X [] b9J:=λ_ _ σ H _ I h=>wpAny_execs_nil ⟨σ,H,I,h⟩
theorem b1q(h1:PS X st t)(h2:PSs X d9 u):PSs X (st::d9) (c2h t u):=by
 intro bC s σ H D I h;refine wpAny_execs_cons (thn (h1 bC s σ H {D with nx:=u D} I h) λf s1 q=>?_);cases f with
 |next=>
  obtain⟨bQ,H',I',q⟩:=q;exact h2 bC s1 bQ H' D I' q
 |ret v=>exact q
 |brk=>exact q
 |cont=>exact q
theorem Inv.quiet{s:Shared}(I:Inv X bC σ H s):interactive X.env=false:=by simp[interactive,I.ok.kind]
def b9L(te:TE):TS:=λD σ H=>te σ H λ_ H1=>D.nx σ H1
theorem b4I(he:PE X e te)(hs:swapsWith e none pos.line X.env=pure false:=by rfl):PS X (.Expr e pos) (b9L te):=by intro bC s σ H D I h;exact wpAny_Expr_any (thn (he bC s σ H _ I h) λv s1 ⟨x,H1,I1,r1,q1⟩=>⟨σ,H1,I1,q1⟩) I.quiet hs
def c2i(te:TE):TS:=λD σ H=>te σ H D.rt
theorem b7w(he:PE X e te):PS X (.Return (some e) pos) (c2i te):=by intro bC s σ H D I h;exact wpAny_Return_some (thn (he bC s σ H _ I h) λv s1 ⟨x,H1,I1,r1,q1⟩=>⟨x,σ,H1,I1,r1,q1⟩)
def c2n(c:TT)(t u:TS):TS:=λD σ H=>c σ H λb H1=>if b=true then t D σ H1 else u D σ H1
theorem c0f{a b:List Stmt}(hc:PT X c tc)(ha:PSs X a t)(hb:PSs X b u):PS X (.If c a b pos) (c2n tc t u):=by
 intro bC s σ H D I h;refine wpAny_If (thn (hc bC s σ H _ I h) λd s1 zz=>?_);obtain⟨H1,I1,q1⟩:=zz;cases d with
 |true=>exact ha bC s1 σ H1 D I1 q1
 |false=>exact hb bC s1 σ H1 D I1 q1
end
abbrev TG:=V->St->Hp->(St->Hp->Prop)->Prop
abbrev TGs:=List V->St->Hp->(St->Hp->Prop)->Prop
def PG(X:Cx)(target:Expr)(t:TG):Prop:=
 ∀(bC:List (Addr×Obj)) (s:Shared) (σ:St) (H:Hp) (v:V) (u:Value) (Q:St->Hp->Prop),Inv X bC σ H s->k8 v u->t v σ H Q→
  wpAny (model X.prog X.w) X.A (assign target X.env u) (λ_ s'=>∃bQ H',Inv X bC bQ H' s'/\Q bQ H') X.xe s
def PGs(X:Cx)(ts:List Expr)(t:TGs):Prop:=
 ∀(bC:List (Addr×Obj)) (s:Shared) (σ:St) (H:Hp) (vs:List V) (us:List Value) (Q:St->Hp->Prop),Inv X bC σ H s->p7 vs us->t vs σ H Q→
  wpAny (model X.prog X.w) X.A (assignInOrder ((assignEach ts X.env).map (·.2)) us) (λ_ s'=>∃bQ H',Inv X bC bQ H' s'/\Q bQ H') X.xe s
abbrev b9u:=V->V->V->Hp->(Hp->Prop)->Prop
def b9v(X:Cx)(t:b9u):Prop:=
 ∀(bC:List (Addr×Obj)) (s:Shared) (σ:St) (H:Hp) (o i v:V) (ov iv u:Value) (Q:Hp->Prop),Inv X bC σ H s->k8 o ov->k8 i iv->k8 v u->t o i v H Q→
  wpAny (model X.prog X.w) X.A (setItem ov iv u) (λ_ s'=>∃H',Inv X bC σ H' s'/\Q H') X.xe s
variable{es:List Expr}{n:Nat}{to:TE}{ti:TE}{tg:Expr}{te:TE}{cU:Pos}{ta:TA}
section
def b2O(i:Nat):TG:=λv σ H Q=>Q (σ.set i (some v)) H
theorem b4V{i:Nat}(hN:X.N.Nodup)(hi:X.N[i]? =some x)(hx:Loc X.env.scope x)(hf:X.fn x=true∨X.env.scope.names.lookup x=some .local:=by first|exact .inl rfl|exact .inr rfl|assumption):PG X (.Name x pos) (b2O i):=by intro bC s σ H v u Q I r h;exact wpAny_assign_Name (a6k I hN hi hx r (λs' I'=>⟨_,H,I',h⟩) hf)
def c2O:TGs:=λvs σ H Q=>vs=[]/\Q σ H
def c0R(t:TG)(u:TGs):TGs:=λvs σ H Q=>∃v r,vs=v::r/\t v σ H λbQ H'=>u r bQ H' Q
theorem b4U:PGs X [] c2O:=by intro bC s σ H vs us Q I r h;obtain⟨e,h⟩:=h;subst e;cases r;exact assignInOrder_nil ⟨σ,H,I,h⟩
theorem b1z{t:TG}{u:TGs}(h1:PG X e t)(h2:PGs X es u)
 (hs:(assignEach (e::es) X.env).map (·.2)=assign e X.env::(assignEach es X.env).map (·.2):=by rfl):PGs X (e::es) (c0R t u):=by
 intro bC s σ H vs us Q I r h;obtain⟨v,vr,e1,h⟩:=h;subst e1;cases r with
 |cons r rr=>
  rw[hs];refine assignInOrder_cons (thn (h1 bC s σ H _ _ _ I r h) λ_ s1 zz=>?_);obtain⟨σ1,H1,I1,q1⟩:=zz;exact h2 bC s1 σ1 H1 _ _ Q I1 rr q1
def c2M(K:Frag)(n:Nat)(t:TGs):TG:=λv σ H Q=>∃a xs,v=.ref a/\SqT K H a xs/\↥xs=n/\t xs σ H Q
theorem b7F{k:Nat}{t:TGs}(hc:X.calm=true)(h:PGs X es t)
 (hn:↥(assignEach es X.env)=n:=by rfl) (dN:(assignEach es X.env).findIdx? (·.1)=none:=by rfl):PG X (.Tuple es k pos) (c2M X.K n t):=by
 intro bC s σ H v u Q I r hw;obtain⟨a,xs,e1,hq,hl,hw⟩:=hw;subst e1;cases r;obtain⟨bF,rv,ht,hz⟩:=I.tuple hq;refine assign_Tuple_tuple (I.ok.hd hc) ht (by simp[hn,←hl,rv.length]) dN λh' hx=>?_;have I1:Inv X bC σ H {s with heap:=h'}:=I.kept (t':=s.toks) λb o e=>hx b o (fN (fH e)) e;exact h bC _ σ H xs _ Q I1 (by simpa using rv) hw
def c0Q(to ti:TE)(t:b9u):TG:=λv σ H Q=>to σ H λo H1=>ti σ H1 λi H2=>t o i v H2 λH3=>Q σ H3
theorem b7G{o i:Expr}{t:b9u}(ho:PE X o to)(hi:PE X i ti)(hs:b9v X t)
 (ha:∀v,assign (.Subscript o i pos) X.env v=(do
  let ov←holding [v] (eval o X.env)
  let iv←holding [v,ov] (eval i X.env)
  standAt pos
  holding [v,ov,iv] (setItem ov iv v)
  release [v,ov,iv] []):=by intro _;rfl):PG X (.Subscript o i pos) (c0Q to ti t):=by
 intro bC s σ H v u Q I r h;rw[ha];refine fv (gq (thn (ho bC s σ H _ I h) λov s1 zz=>?_));obtain⟨x,H1,I1,r1,q1⟩:=zz;refine fv (gq (thn (hi bC s1 σ H1 _ I1 q1) λiv s2 zz=>?_));obtain⟨y,H2,I2,r2,q2⟩:=zz;refine fv (wpAny_standAt (fv (gq (thn (hs bC s2 σ H2 x y v ov iv u _ I2 r1 r2 r q2) λ_ s3 zz=>?_))));obtain⟨H3,I3,q3⟩:=zz;exact wpAny_release ⟨σ,H3,I3,q3⟩
def b7f(te:TE)(g:TG):TS:=λD σ H=>te σ H λx H1=>g x σ H1 D.nx
theorem b1t{g:TG}(he:PE X e te)(hg:PG X tg g)(hs:swapsWithSole [tg] e pos.line X.env=pure false:=by rfl)(hw:swappedStores [tg] e X.env=pure none:=by rfl)
 (h1:(assignEach [tg] X.env).map (·.2)=[assign tg X.env]:=by rfl):PS X (.Assign [tg] e pos) (b7f te g):=by
 intro bC s σ H D I h;refine wpAny_Assign_stores (thn (he bC s σ H _ I h) λv s1 zz=>?_) hs hw;obtain⟨x,H1,I1,r1,q1⟩:=zz;rw[h1];exact thn (hg bC s1 σ H1 x v _ I1 r1 q1) λ_ s2 q=>q
theorem b1s{i:Nat}(hN:X.N.Nodup)(hi:X.N[i]? =some x)(hx:Loc X.env.scope x)(he:PE X e te)(hs:swapsWith e (some (.Name x cU)) pos.line X.env=pure false:=by rfl)(hf:X.fn x=true∨X.env.scope.names.lookup x=some .local:=by first|exact .inl rfl|exact .inr rfl|assumption):
 PS X (.Assign [.Name x cU] e pos) (b7f te (b2O i)):=by
 intro bC s σ H D I h;refine wpAny_Assign_Name (thn (he bC s σ H _ I h) λv s1 zz=>?_) hs;obtain⟨y,H1,I1,r1,q1⟩:=zz;exact a6k I1 hN hi hx r1 (λs2 I2=>⟨_,H1,I2,q1⟩) hf
end
variable{body:List Stmt}{tb:TS}
section
noncomputable def b7c(c:TT)(tb:TS):TS:=λD σ H=>∃W:Nat->St->Hp->Prop,(∃m,W m σ H)/\∀m σ H,W m σ H→
 c σ H λb H1=>if b=true then∃N:St->Hp->Prop,(∀bQ H',N bQ H'->∃m',m'<m/\W m' bQ H')/\tb {D with nx:=N,ct:=N,bk:=D.nx} σ H1 else D.nx σ H1
theorem b1r(hp:PassesOwn (model X.prog X.w) X.A X.env X.xe)(hc:PT X c tc)(hb:PSs X body tb):PS X (.While c body [] pos) (b7c tc tb):=by
 intro bC s σ H D I h;obtain⟨W,⟨m0,w0⟩,ee⟩:=h;refine wpAny_While (codeAny_whileLoop (λn s'=>∃bQ H',Inv X bC bQ H' s'/\W n bQ H') ?_ m0 ⟨σ,H,I,w0⟩);rintro n s1 ⟨σ1,H1,I1,w1⟩;refine gF hp (thn (hc bC s1 σ1 H1 _ I1 (ee n σ1 H1 w1)) λb s2 zz=>?_);obtain⟨H2,I2,q2⟩:=zz;cases b with
 | true=>
  obtain⟨N,hN,q2⟩:=q2;rw[ay rfl];refine gF hp (thn (hb bC s2 σ1 H2 _ I2 q2) λf s3 q3=>?_);cases f with
  |next=>
   obtain⟨σ3,H3,I3,n3⟩:=q3;obtain⟨m',hm,w3⟩:=hN σ3 H3 n3;exact⟨m',hm,σ3,H3,I3,w3⟩
  |cont=>
   obtain⟨σ3,H3,I3,n3⟩:=q3;obtain⟨m',hm,w3⟩:=hN σ3 H3 n3;exact⟨m',hm,σ3,H3,I3,w3⟩
  |brk=>exact q3
  |ret v=>exact q3
 |false=>
  rw[az bq];exact wpAny_execs_nil ⟨σ1,H2,I2,q2⟩
end
structure It where
 go:Nat->Hp->Prop
 yld:Nat->Hp->V->Hp->Prop
 stop:Nat->Hp->Prop
def a2L(X:Cx)(bC:List (Addr×Obj))(H:Hp)(b:Addr):Prop:=
 H b=none/\b≠X.env.locals/\b∉X.fs/\(b∈X.ex∨X.s₀.heap.objs.size<=b)/\(∀x c,X.env.cells.lookup x=some c->c≠b)/\∀p∈X.pn++bC,p.1≠b
variable{H':Hp}
theorem Inv.fpOk{s:Shared}(I:Inv X bC σ H s)(hb:s.heap.objs.size<=b)(hn:H' b=none):a2L X bC H' b:=by
 refine⟨hn,gD (aC I.lt hb),I.nofs hb,.inr (aR I.sz hb),λx c e z=>?_,λp hp z=>?_⟩
 · obtain⟨v,q⟩:=I.cell x c e;exact absurd (aC q.lt (by rw[z];exact hb)) (aQ _)
 · exact absurd (aC (fH (I.pin p hp).1) (by rw[z];exact hb)) (aQ _)
structure Turn(P:Program)(w:World)(K:Frag)(tg:Expr)(J:It)(fp:List Addr)(it:Addr)(tn:Nat->Heap->Prop):Prop where
 mem:it∈fp
 obj:∀i h,tn i h->∀b∈fp,∃o,h.get? b=some o/\∀v,o.data≠.cell v
 keep:∀i h h',tn i h->(∀b∈fp,∀o,h.get? b=some o->h'.get? b=some o)->tn i h'
 item:∀(X:Cx),X.prog=P->X.w=w->X.K=K->X.calm=true->∀(i:Nat) (bC:List (Addr×Obj)) (s:Shared) (σ:St) (H:Hp) (E:Value->Shared->Prop),Inv X bC σ H s->(∀b∈fp,a2L X bC H b)->tn i s.heap->J.go i H→
  wpAny (model P w) X.A (pyNext (.ref it)) (λr s1=>∃u,r=some u∧
   wpAny (model P w) X.A (letOwnedTupleGo tg (.ref it) u) (λ_ s2=>∃x H',Inv X bC σ H' s2/\k8 x u/\J.yld i H x H'/\tn (i+1) s2.heap/\∀b∈fp,H' b=none) E s1) E s
 done:∀(X:Cx),X.prog=P->X.w=w->X.K=K->X.calm=true->∀(i:Nat) (bC:List (Addr×Obj)) (s:Shared) (σ:St) (H:Hp) (E:Value->Shared->Prop),Inv X bC σ H s->(∀b∈fp,a2L X bC H b)->tn i s.heap->J.stop i H→
  wpAny (model P w) X.A (pyNext (.ref it)) (λr s1=>r=none/\Inv X bC σ H s1) E s
 self:∀(A:Around) (i:Nat) (s:Shared) (Q:Value->Shared->Prop) (E:Value->Shared->Prop),tn i s.heap->Q (.ref it) s->wpAny (model P w) A (pyIter (.ref it)) Q E s
abbrev TI:=St->Hp->(It->Hp->Prop)->Prop
def PIE(X:Cx)(bC:List (Addr×Obj))(σ:St)(tg:Expr)(R:It->Hp->Prop)(itv:Value)(s2:Shared):Prop:=
 ∃(it:Addr) (fp:List Addr) (tn:Nat->Heap->Prop) (J:It) (H':Hp),itv=.ref it/\Inv X bC σ H' s2/\Turn X.prog X.w X.K tg J fp it tn/\tn 0 s2.heap/\(∀b∈fp,a2L X bC H' b)/\R J H'
def PI(X:Cx)(tg iter:Expr)(wi:TI):Prop:=
 ∀(bC:List (Addr×Obj)) (s:Shared) (σ:St) (H:Hp) (R:It->Hp->Prop),Inv X bC σ H s->wi σ H R→
  wpAny (model X.prog X.w) X.A (eval iter X.env) (λv s1=>wpAny (model X.prog X.w) X.A (pyIter v) (PIE X bC σ tg R) X.xe s1) X.xe s
theorem a6S{E:Value->Shared->Prop}{s:Shared}{o:Obj}{n:String}{vs:Array Value}{Q:Unit->Shared->Prop}(ho:s.heap.get? it=some o)(hc:o.cls=.type n)(hd:o.data=.fields vs)
   (hn:["enumerate","zip","dict_itemiterator","dict_reverseitemiterator","odict_iterator","itertools.zip_longest","itertools.pairwise"].contains n=false) (hQ:Q () s):wpAny M A (letOwnedTupleGo tg (.ref it) u) Q E s:=by
 unfold letOwnedTupleGo;cases tg <;>first
   |exact fG hQ
   |(cases u<;>first
       |exact fG hQ
       | (refine fv (wpAny_load ho ?_)
          rw[hc,hd];show wpAny M A (if(["enumerate","zip","dict_itemiterator","dict_reverseitemiterator","odict_iterator","itertools.zip_longest","itertools.pairwise"].contains n&&vs[0]? ==some (rawInt _))=true then _ else _) Q E s;rw[az (by intro h;rw[hn,gd] at h;cases h)];exact fG hQ))
noncomputable def Itl(K:Frag)(a:Addr):It:=
 ⟨λi H=>∃xs x,SqL K H a xs/\xs[i]? =some x,λi H x H'=>H'=H/\∀xs,SqL K H a xs->xs[i]? =some x,λi H=>∃xs,SqL K H a xs/\↥xs<=i⟩
noncomputable def Itt(K:Frag)(a:Addr):It:=
 ⟨λi H=>∃xs x,SqT K H a xs/\xs[i]? =some x,λi H x H'=>H'=H/\∀xs,SqT K H a xs->xs[i]? =some x,λi H=>∃xs,SqT K H a xs/\↥xs<=i⟩
def Itr(lo:Int)(n:Nat):It:=⟨λi _=>i<n,λi H x H'=>H'=H/\x=.int (lo+i),λi _=>n<=i⟩
theorem a9A(a it:Addr):Turn P w K tg (Itl K a) [it] it (λi h=>h.IsListIter it a i) where
 mem:=by simp
 obj:=λi h st b hb=>by
  have e:b=it:=by simpa using hb
  subst e;obtain⟨o,e,c,d⟩:=st;exact⟨o,e,λv z=>by rw[d] at z;cases z⟩
 keep:=λi h h' st k=>st.at λo e=>k it ⋯ o e
 item:=by intro X hP hw hK hc i bC s σ H E I hf st hg;subst hP hw hK;obtain⟨xs,x,hq,hx⟩:=hg;obtain⟨bF,rv,p,hz⟩:=I.list hq;obtain⟨u,hu,ru⟩:=rv.get hx;obtain⟨f0,f1,f2,f3,f4,f5⟩:=hf it ⋯;refine wpAny_pyNext_list_item st p.isList (x:=u) (by simpa using hu) λh' eh sb=>?_;have I1:Inv X bC σ H {s with heap:=h'}:=I.turned (t':=s.toks) (λb o hb e=>(sb.2 b hb).trans e) f0 f1 f3 f4 f5;obtain⟨o,e,c,d⟩:=id eh;exact⟨u,rfl,a6S (s:={s with heap:=h'}) e c d ∅ ⟨x,H,I1,ru,⟨rfl,λys hy=>by rw[I.list_inj hy hq];exact hx⟩,eh,λb hb=>(hf b hb).1⟩⟩
 done:=by intro X hP hw hK hc i bC s σ H E I hf st hg;subst hP hw hK;obtain⟨xs,hq,hx⟩:=hg;obtain⟨bF,rv,p,hz⟩:=I.list hq;obtain⟨f0,f1,f2,f3,f4,f5⟩:=hf it ⋯;have hl:=↥rv;exact wpAny_pyNext_list_end (I.ok.hd hc) st p.isList (by simp;ac_nf) λh' eb=>⟨rfl,I.turned (t':=s.toks) (λb o hb e=>eb b o hb e) f0 f1 f3 f4 f5⟩
 self:=λ_ _ _ _ _ st h=>wpAny_pyIter_listiter st h
theorem a7u(a it:Addr):Turn P w K tg (Itt K a) [it] it (λi h=>h.IsTupleIter it a i) where
 mem:=by simp
 obj:=λi h st b hb=>by
  have e:b=it:=by simpa using hb
  subst e;obtain⟨o,e,c,d⟩:=st;exact⟨o,e,λv z=>by rw[d] at z;cases z⟩
 keep:=λi h h' st k=>st.at λo e=>k it ⋯ o e
 item:=by intro X hP hw hK hc i bC s σ H E I hf st hg;subst hP hw hK;obtain⟨xs,x,hq,hx⟩:=hg;obtain⟨bF,rv,p,hz⟩:=I.tuple hq;obtain⟨u,hu,ru⟩:=rv.get hx;obtain⟨f0,f1,f2,f3,f4,f5⟩:=hf it ⋯;refine wpAny_pyNext_tuple_item st (show s.heap.IsTuple a bF.toArray from p) (x:=u) (by simpa using hu) λh' eh sb=>?_;have I1:Inv X bC σ H {s with heap:=h'}:=I.turned (t':=s.toks) (λb o hb e=>(sb.2 b hb).trans e) f0 f1 f3 f4 f5;obtain⟨o,e,c,d⟩:=id eh;exact⟨u,rfl,a6S (s:={s with heap:=h'}) e c d ∅ ⟨x,H,I1,ru,⟨rfl,λys hy=>by rw[I.tuple_inj hy hq];exact hx⟩,eh,λb hb=>(hf b hb).1⟩⟩
 done:=by intro X hP hw hK hc i bC s σ H E I hf st hg;subst hP hw hK;obtain⟨xs,hq,hx⟩:=hg;obtain⟨bF,rv,p,hz⟩:=I.tuple hq;obtain⟨f0,f1,f2,f3,f4,f5⟩:=hf it ⋯;have hl:=↥rv;exact wpAny_pyNext_tuple_end (I.ok.hd hc) st (show s.heap.IsTuple a bF.toArray from p) (by simp;ac_nf) λh' eb=>⟨rfl,I.turned (t':=s.toks) (λb o hb e=>eb b o hb e) f0 f1 f3 f4 f5⟩
 self:=λ_ _ _ _ _ st h=>wpAny_pyIter_tupleiter st h
theorem a7v(it:Addr)(lo:Int)(n:Nat):Turn P w K tg (Itr lo n) [it] it (λi h=>IsRangeIter h it (lo+(i:Nat)*1) ((n:Int)-(i:Nat)) 1) where
 mem:=by simp
 obj:=λi h st b hb=>by
  have e:b=it:=by simpa using hb
  subst e;exact⟨_,st,λv z=>by have z':Data.fields _=Data.cell v:=z;cases z'⟩
 keep:=λi h h' st k=>k it ⋯ _ st
 item:=by intro X hP hw hK hc i bC s σ H E I hf st hg;subst hP hw hK;obtain⟨f0,f1,f2,f3,f4,f5⟩:=hf it ⋯;have W:=Walks.range (prog:=X.prog) (w:=X.w) (I.ok.hd hc) it lo 1 n;refine W.item i s _ _ hg st λv h' tk hv eh kk=>?_;obtain⟨t,rfl⟩:=hv;have I1:Inv X bC σ H {s with heap:=h',toks:=tk}:=I.turned (λb o hb e=>kk b o (by simpa using hb) e) f0 f1 f3 f4 f5;refine⟨_,rfl,a6S (s:={s with heap:=h',toks:=tk}) (n:="range_iterator") eh rfl rfl ∅ ⟨.int (lo+i),H,I1,⟨t,?_⟩,⟨rfl,rfl⟩,eh,λb hb=>(hf b hb).1⟩⟩;rw[Int.mul_one]
 done:=by intro X hP hw hK hc i bC s σ H E I hf st hg;subst hP hw hK;obtain⟨f0,f1,f2,f3,f4,f5⟩:=hf it ⋯;exact wpAny_pyNext_range_end (I.ok.hd hc) st (by have:n<=i:=hg;ac_nf) λh' eb=>⟨rfl,I.turned (t':=s.toks) (λb o hb e=>eb b o hb e) f0 f1 f3 f4 f5⟩
 self:=λ_ _ _ _ _ st h=>wpAny_pyIter_rangeiter st h
variable{lo:Int}{p:Pos}{fp:List Addr}{iter:Expr}
section
def c0F(K:Frag)(tl:TE):TI:=λσ H R=>tl σ H λx H1=>∃a,x=.ref a/\(∃xs,SqL K H1 a xs)/\R (Itl K a) H1
def c2J(K:Frag)(tl:TE):TI:=λσ H R=>tl σ H λx H1=>∃a,x=.ref a/\(∃xs,SqT K H1 a xs)/\R (Itt K a) H1
theorem b4S{l:Expr}{tl:TE}(hl:PE X l tl):PI X tg l (c0F X.K tl):=by
 intro bC s σ H R I h;refine thn (hl bC s σ H _ I h) λv s1 zz=>?_;obtain⟨x,H1,I1,r1,q1⟩:=zz;obtain⟨a,e,⟨xs,hq⟩,q⟩:=q1;subst e;cases r1;obtain⟨bF,rv,p,hz⟩:=I1.list hq;refine gY p.isList ?_;refine⟨s1.heap.objs.size,[s1.heap.objs.size],_,_,H1,rfl,I1.kept (t':=s1.toks) λb o e=>fF _ e,a9A a _,⟨_,fI _ rfl,rfl,rfl⟩,λb hb=>?_,q⟩;have e:b=s1.heap.objs.size:=by simpa using hb
 subst e;exact I1.fpOk (aj _) (I1.hok.fresh (aj _))
theorem b7C{l:Expr}{tl:TE}(hl:PE X l tl):PI X tg l (c2J X.K tl):=by
 intro bC s σ H R I h;refine thn (hl bC s σ H _ I h) λv s1 zz=>?_;obtain⟨x,H1,I1,r1,q1⟩:=zz;obtain⟨a,e,⟨xs,hq⟩,q⟩:=q1;subst e;cases r1;obtain⟨bF,rv,p,hz⟩:=I1.tuple hq;refine wpAny_pyIter_tuple (show s1.heap.IsTuple a bF.toArray from p) ?_;refine⟨s1.heap.objs.size,[s1.heap.objs.size],_,_,H1,rfl,I1.kept (t':=s1.toks) λb o e=>fF _ e,a7u a _,⟨_,fI _ rfl,rfl,rfl⟩,λb hb=>?_,q⟩;have e:b=s1.heap.objs.size:=by simpa using hb
 subst e;exact I1.fpOk (aj _) (I1.hok.fresh (aj _))
theorem a6v{s:Shared}{R:It->Hp->Prop}{E:Value->Shared->Prop}{hi:Int}{t u v:Tok}{tk:Nat}(I:Inv X bC σ H s)(h1: -(2^62)<=lo)(h2:lo<2^62)(h3: -(2^62)<=hi)(h4:hi<2^62)
 (q:R (Itr lo (hi-lo).toNat) H):wpAny (model X.prog X.w) X.A (pyIter (.ref s.heap.objs.size)) (PIE X bC σ tg R) E {s with heap:=s.heap.push {cls:=.type "range",data:=.fields #[.int lo t,.int hi u,.int 1 v]},toks:=tk}:=by
 refine wpAny_pyIter_range (IsRange.new ..) (small_one h1 h2 h3 h4) ?_;have I1:Inv X bC σ H {s with heap:=s.heap.push {cls:=.type "range",data:=.fields #[.int lo t,.int hi u,.int 1 v]},toks:=tk}:=I.kept λb o e=>fF _ e;refine⟨(s.heap.push {cls:=.type "range",data:=.fields #[.int lo t,.int hi u,.int 1 v]}).objs.size,[(s.heap.push {cls:=.type "range",data:=.fields #[.int lo t,.int hi u,.int 1 v]}).objs.size],_,_,H,rfl,
  I1.kept (t':=tk) λb o e=>fF _ e,a7v _ lo (hi-lo).toNat,?_,λb hb=>?_,q⟩
 · have e1:lo+((0:Nat):Int)*1=lo:=by simp
   have e2:(((hi-lo).toNat:Nat):Int)-((0:Nat):Int)=Builtin.Range.rangeSize lo hi 1:=by rw[rangeSize_one];split<;>ac_nf
   show IsRangeIter _ _ (lo+((0:Nat):Int)*1) ((((hi-lo).toNat:Nat):Int)-((0:Nat):Int)) 1;rw[e1,e2];exact fI _ rfl
 · have e:b=(s.heap.push {cls:=.type "range",data:=.fields #[.int lo t,.int hi u,.int 1 v]}).objs.size:=by simpa using hb
   subst e;exact I1.fpOk (aj _) (I1.hok.fresh (aj _))
noncomputable def c0E(ta:TA):TI:=λσ H R=>ta σ H λvs H1=>∃j:Int,vs=[.int j]/\ -(2^62)<=j/\j<2^62/\R (Itr 0 j.toNat) H1
noncomputable def c0D(ta:TA):TI:=λσ H R=>ta σ H λvs H1=>∃i j:Int,vs=[.int i,.int j]/\(-(2^62)<=i/\i<2^62/\ -(2^62)<=j/\j<2^62)/\R (Itr i (j-i).toNat) H1
theorem a9R{a:Expr}(hg:Gl X "range")(hm:X.mg "range"=none)(ha:PA X [a] ta)(hs:starEach [a] X.env=[(false,eval a X.env)]:=by rfl):PI X tg (.Call (.Name "range" p) [a] [] pos) (c0E ta):=by
 intro bC s σ H R I h;refine Call_ (a0g I hg hm boot_range (fZ (thn (ha pos bC s σ H _ I h) λus s1 zz=>?_) hs rfl));obtain⟨vs,H1,I1,r1,q1⟩:=zz;obtain⟨j,e,q1,q2,q⟩:=q1;subst e;cases r1 with
 |cons r rr=>
  cases rr;obtain⟨t,rfl⟩:=r;exact call_range_1 (a6v I1 nofun nofun q1 q2 (by simpa using q))
theorem a9Q{a b:Expr}(hg:Gl X "range")(hm:X.mg "range"=none)(ha:PA X [a,b] ta)(hs:starEach [a,b] X.env=[(false,eval a X.env),(false,eval b X.env)]:=by rfl)(hs2:starEach [b] X.env=[(false,eval b X.env)]:=by rfl):
 PI X tg (.Call (.Name "range" p) [a,b] [] pos) (c0D ta):=by
 intro bC s σ H R I h;refine Call_ (a0g I hg hm boot_range (fZ (thn (ha pos bC s σ H _ I h) λus s1 zz=>?_) (by rw[hs,hs2]) (by rw[hs2];rfl)));obtain⟨vs,H1,I1,r1,q1⟩:=zz;obtain⟨i,j,e,⟨q1,q2,q3,q4⟩,q⟩:=q1;subst e;cases r1 with
 | cons r rr=>
  cases rr with
  |cons r' rr=>
   cases rr;obtain⟨t,rfl⟩:=r;obtain⟨t',rfl⟩:=r';exact call_range_2 (a6v I1 q1 q2 q3 q4 q)
noncomputable def c2o(wi:TI)(g:TG)(tb:TS):TS:=λD σ H=>wi σ H λJ H1=>∃W:Nat->Nat->St->Hp->Prop,(∃m,W 0 m σ H1)/\∀i m σ H,W i m σ H→
 (J.stop i H/\D.nx σ H)∨(J.go i H/\∃N:St->Hp->Prop,(∀bQ H',N bQ H'->∃m',m'<m/\W (i+1) m' bQ H')/\∀x H',J.yld i H x H'->g x σ H' λσ2 H2=>tb {D with nx:=N,ct:=N,bk:=D.nx} σ2 H2)
def a3s(fp:List Addr)(h:Heap):List (Addr×Obj):=fp.filterMap λb=>(h.get? b).map λo=>(b,o)
theorem X2{o:Obj}(hb:b∈fp)(e:h.get? b=some o):(b,o)∈a3s fp h:=List.mem_filterMap.mpr ⟨b,hb,by rw[e];rfl⟩
theorem a9V{p:Addr×Obj}(hp:p∈a3s fp h):p.1∈fp/\h.get? p.1=some p.2:=by
 obtain⟨b,hb,e⟩:=List.mem_filterMap.mp hp;cases q:h.get? b with
 |none=>rw[q] at e;cases e
 |some o=>
  rw[q] at e;have e':(b,o)=p:=ax e;subst e';exact⟨hb,q⟩
theorem Inv.pinned{s:Shared}(I:Inv X bC σ H s)(hf:∀b∈fp,a2L X bC H b)(ho:∀b∈fp,∃o,s.heap.get? b=some o/\∀v,o.data≠.cell v):Inv X (bC++a3s fp s.heap) σ H s:=
 I.pins_of λp hp=>(aL.mp hp).elim (λz=>I.pin p (mem_append_right _ z)) λz=>by obtain⟨hb,e⟩:=a9V z;obtain⟨f0,f1,f2,_⟩:=hf p.1 hb;obtain⟨o,e',d⟩:=ho p.1 hb;rw[e] at e';cases e';exact⟨e,f0,f1,f2,d⟩
theorem Inv.unpinned{pl:List (Addr×Obj)}{s:Shared}(I:Inv X (bC++pl) σ H s):Inv X bC σ H s:=I.pins_of λp hp=>I.pin p (mem_append_right _ (mem_append_left _ hp))
theorem b7x{wi:TI}{g:TG}(hp:PassesOwn (model X.prog X.w) X.A X.env X.xe)(hc:X.calm=true)(hi:PI X tg iter wi)(hg:PG X tg g)(hb:PSs X body tb)
 (hs:∀x,foldedSetIterable iter X.env x=pure x:=by intro _;rfl):PS X (.For tg iter body [] pos) (c2o wi g tb):=by
 intro bC s σ H D I h;refine wpAny_For (thn (hi bC s σ H _ I h) λv s1 h1=>thn h1 λitv s2 h2=>?_) hs;obtain⟨it,fp,tn,J,H2,e,I2,T,st2,f2,W,⟨m0,w0⟩,ee⟩:=h2;subst e
 -- what stays true of the iterator's objects through the loop
 have stat:∀{H':Hp},(∀b∈fp,H' b=none)->∀b∈fp,a2L X bC H' b:=λhn b hb=>⟨hn b hb,(f2 b hb).2⟩;refine codeAny_forLoop_any (λn s'=>∃i bQ H',Inv X bC bQ H' s'/\tn i s'.heap/\(∀b∈fp,H' b=none)/\W i n bQ H') ?_ m0 ⟨0,σ,H2,I2,st2,λb hb=>(f2 b hb).1,w0⟩;rintro n s3 ⟨i,σ3,H3,I3,st3,fr3,w3⟩;rcases ee i n σ3 H3 w3 with⟨stop,qn⟩|⟨go,N,hN,step⟩
 · refine gF hp (thn (T.done X rfl rfl rfl hc i bC s3 σ3 H3 X.xe I3 (stat fr3) st3 stop) λr s4 zz=>?_);obtain⟨hr,I4⟩:=zz;subst hr;exact wpAny_execs_nil ⟨σ3,H3,I4,qn⟩
 · refine gF hp (thn (T.item X rfl rfl rfl hc i bC s3 σ3 H3 X.xe I3 (stat fr3) st3 go) λr s4 zz=>?_);obtain⟨u,hr,h4⟩:=zz;subst hr;refine gF hp (thn h4 λ_ s5 zz=>?_);obtain⟨x,H5,I5,r5,y5,st5,fr5⟩:=zz;have I5':=I5.pinned (stat fr5) (T.obj _ _ st5);refine gF hp (thn (hg _ s5 σ3 H5 x u _ I5' r5 (step x H5 y5)) λ_ s6 zz=>?_);obtain⟨σ6,H6,I6,q6⟩:=zz;refine gF hp (thn (hb _ s6 σ6 H6 _ I6 q6) λf s7 q7=>?_);have again:∀{dX:St} {H7:Hp},Inv X (bC++a3s fp s5.heap) dX H7 s7->N dX H7->∃m,m<n/\∃i bQ H',Inv X bC bQ H' s7/\tn i s7.heap/\(∀b∈fp,H' b=none)/\W i m bQ H':=fun{dX H7} I7 n7=>by obtain⟨m',hm,w7⟩:=hN dX H7 n7;refine⟨m',hm,i+1,dX,H7,I7.unpinned,T.keep _ _ _ st5 λb hb o e=>(I7.pin (b,o) (mem_append_right _ (mem_append_right _ (X2 hb e)))).1,λb hb=>?_,w7⟩;obtain⟨o,e,d⟩:=T.obj _ _ st5 b hb;exact(I7.pin (b,o) (mem_append_right _ (mem_append_right _ (X2 hb e)))).2.1
   cases f with
   |next=>obtain⟨dX,H7,I7,n7⟩:=q7;exact again I7 n7
   |cont=>obtain⟨dX,H7,I7,n7⟩:=q7;exact again I7 n7
   |brk=>obtain⟨dX,H7,I7,q7⟩:=q7;exact⟨dX,H7,I7.unpinned,q7⟩
   |ret v=>obtain⟨x7,dX,H7,I7,r7,q7⟩:=q7;exact⟨x7,dX,H7,I7.unpinned,r7,q7⟩
end
abbrev R2:=V->V->Hp->VK->Prop
def OpR(X:Cx)(f:Value->Value->Sem Value)(r:R2):Prop:=
 ∀(bC:List (Addr×Obj)) (s:Shared) (σ:St) (H:Hp) (x y:V) (v u:Value) (Q:VK),Inv X bC σ H s->k8 x v->k8 y u->r x y H Q→
  wpAny (model X.prog X.w) X.A (f v u) (EP X bC σ Q) X.xe s
def UnR(X:Cx)(f:Value->Sem Value)(r:V->Hp->VK->Prop):Prop:=
 ∀(bC:List (Addr×Obj)) (s:Shared) (σ:St) (H:Hp) (x:V) (v:Value) (Q:VK),Inv X bC σ H s->k8 x v->r x H Q→
  wpAny (model X.prog X.w) X.A (f v) (EP X bC σ Q) X.xe s
def G5(X:Cx)(f:Value)(r:List V->Hp->VK->Prop):Prop:=
 ∀(bC:List (Addr×Obj)) (s:Shared) (σ:St) (H:Hp) (xs:List V) (us:List Value) (Q:VK),Inv X bC σ H s->p7 xs us->r xs H Q→
  wpAny (model X.prog X.w) X.A (call f us) (EP X bC σ Q) X.xe s
def c3j(X:Cx)(r:V->Hp->(Bool->Hp->Prop)->Prop):Prop:=
 ∀(bC:List (Addr×Obj)) (s:Shared) (σ:St) (H:Hp) (x:V) (v:Value) (Q:Bool->Hp->Prop),Inv X bC σ H s->k8 x v->r x H Q→
  wpAny (model X.prog X.w) X.A (truthy v) (TP X bC σ Q) X.xe s
def tOp(r:R2)(ta tb:TE):TE:=λσ H Q=>ta σ H λx H1=>tb σ H1 λy H2=>r x y H2 Q
def tUn(r:V->Hp->VK->Prop)(ta:TE):TE:=λσ H Q=>ta σ H λx H1=>r x H1 Q
def rI(C:Int->Int->Prop)(g:Int->Int->V):R2:=λx y H Q=>∃i j,x=.int i/\y=.int j/\C i j/\Q (g i j) H
def rI0(g:Int->Int->V):R2:=λx y H Q=>∃i j,x=.int i/\y=.int j/\Q (g i j) H
def rU(g:Int->V):V->Hp->VK->Prop:=λx H Q=>∃i,x=.int i/\Q (g i) H
variable{f:Value->Value->Sem Value}
section
variable{a b:Expr}{ta tb tc:TE}
theorem b8Y(ha:PE X a ta)(hb:PE X b tb){s:Shared}{R:V->V->Hp->Prop}(I:Inv X bC σ H s)
 (h:ta σ H λx H1=>tb σ H1 λy H2=>R x y H2)
 (hf:∀v u s2 x y H2,Inv X bC σ H2 s2->k8 x v->k8 y u->R x y H2->wpAny (model X.prog X.w) X.A (f v u) Q X.xe s2):
 wpAny (model X.prog X.w) X.A (eval a X.env) (λv bK=>wpAny (model X.prog X.w) X.A (eval b X.env) (λu df=>wpAny (model X.prog X.w) X.A (f v u) Q X.xe df) X.xe bK) X.xe s:=by
 refine thn (ha bC s σ H _ I h) λv s1 zz=>?_;obtain⟨x,H1,I1,r1,q1⟩:=zz;refine thn (hb bC s1 σ H1 _ I1 q1) λu s2 zz=>?_;obtain⟨y,H2,I2,r2,q2⟩:=zz;exact hf v u s2 x y H2 I2 r1 r2 q2
theorem c0i{op:Operator}{r:R2}(ho:OpR X (binaryOp op) r)(ha:PE X a ta)(hb:PE X b tb):PE X (.BinOp a op b pos) (tOp r ta tb):=by intro bC s σ H Q I h;exact wpAny_BinOp (b8Y ha hb I h λv u s2 x y H2 I2 rx ry q=>ho bC s2 σ H2 x y v u Q I2 rx ry q)
theorem c0g{op:UnaryOp}{r:V->Hp->VK->Prop}(ho:UnR X (unaryOp op) r)(ha:PE X a ta):PE X (.UnaryOp op a pos) (tUn r ta):=by intro bC s σ H Q I h;exact UnaryOp_ (thn (ha bC s σ H _ I h) λv s1 ⟨x,H1,I1,r1,q1⟩=>ho bC s1 σ H1 x v Q I1 r1 q1)
theorem opI{C:Int->Int->Prop}{g:Int->Int->Int}
 (rule:∀(i j:Int) (t u:Tok) (s:Shared) (Q:Value->Shared->Prop) (E:Value->Shared->Prop),C i j->Q (.int (g i j) s.toks) {s with toks:=s.toks+1}->wpAny (model X.prog X.w) X.A (f (.int i t) (.int j u)) Q E s):
 OpR X f (rI C λi j=>.int (g i j)):=by
 intro bC s σ H x y v u Q I rx ry h;obtain⟨i,j,rfl,rfl,hc,q⟩:=h;obtain⟨t,rfl⟩:=rx;obtain⟨t',rfl⟩:=ry;exact rule i j t t' s _ _ hc ⟨.int (g i j),H,I.tok _,⟨_,rfl⟩,q⟩
theorem c0r{g:Int->Int->Int}
 (rule:∀(i j:Int) (t u:Tok) (s:Shared) (Q:Value->Shared->Prop) (E:Value->Shared->Prop),Q (.int (g i j) s.toks) {s with toks:=s.toks+1}->wpAny (model X.prog X.w) X.A (f (.int i t) (.int j u)) Q E s):
 OpR X f (rI0 λi j=>.int (g i j)):=by
 intro bC s σ H x y v u Q I rx ry h;obtain⟨i,j,rfl,rfl,q⟩:=h;obtain⟨t,rfl⟩:=rx;obtain⟨t',rfl⟩:=ry;exact rule i j t t' s _ _ ⟨.int (g i j),H,I.tok _,⟨_,rfl⟩,q⟩
theorem b5e{g:Int->Int->Bool}
 (rule:∀(i j:Int) (t u:Tok) (s:Shared) (Q:Value->Shared->Prop) (E:Value->Shared->Prop),Q (.bool (g i j)) s->wpAny (model X.prog X.w) X.A (f (.int i t) (.int j u)) Q E s):
 OpR X f (rI0 λi j=>.bl (g i j)):=by
 intro bC s σ H x y v u Q I rx ry h;obtain⟨i,j,rfl,rfl,q⟩:=h;obtain⟨t,rfl⟩:=rx;obtain⟨t',rfl⟩:=ry;exact rule i j t t' s _ _ ⟨.bl (g i j),H,I,rfl,q⟩
def c3p(i j:Int):Prop:=0<j/\j<1073741824
def c3o(i j:Int):Prop:=0<=j/\j<=1000000/\i.natAbs<2^64
def b9x(i j:Int):Prop:=(-(2^64)<i/\i<2^64)∨(-(2^64)<j/\j<2^64)
theorem b9x.ok{i j:Int}(h:b9x i j):IntMulOk i j:=by
 rcases h with⟨h1,h2⟩|⟨h1,h2⟩
 · exact .of_left (intBits_le_64 h1 h2)
 · exact .of_right (intBits_le_64 h1 h2)
theorem b7V:OpR X (binaryOp .Add) (rI0 λi j=>.int (i+j)):=c0r λ_ _ _ _ _ _ _ q=>add_int q
theorem b7P:OpR X (binaryOp .Sub) (rI0 λi j=>.int (i-j)):=c0r λ_ _ _ _ _ _ _ q=>sub_int q
theorem b7R:OpR X (binaryOp .Mult) (rI b9x λi j=>.int (i*j)):=opI λ_ _ _ _ _ _ _ hc q=>mul_int q hc.ok
theorem b5c:OpR X (binaryOp .FloorDiv) (rI c3p λi j=>.int (i/j)):=opI λi j _ _ _ _ _ hc q=>by have h1:(0:Int)<j:=hc.1;have h2:j<1073741824:=hc.2;exact floordiv_int nofun (by rw[Int.fdiv_eq_ediv_of_nonneg i nofun];exact q) (.inl (PyProof.noPylong_small nofun))
theorem b7S:OpR X (binaryOp .Mod) (rI (λ_ j=>0<j) λi j=>.int (i%j)):=opI λi j _ _ _ _ _ hc q=>by have h1:(0:Int)<j:=hc;exact mod_int' nofun (by rw[Int.fmod_eq_emod_of_nonneg i nofun];exact q)
theorem b7Q:OpR X (binaryOp .Pow) (rI c3o λi j=>.int (i^j.toNat)):=opI λ_ _ _ _ _ _ _ hc q=>pow_int_small hc.1 hc.2.1 hc.2.2 q
theorem unI{f:Value->Sem Value}{g:Int->Int}
 (rule:∀(i:Int) (t:Tok) (s:Shared) (Q:Value->Shared->Prop) (E:Value->Shared->Prop),Q (.int (g i) s.toks) {s with toks:=s.toks+1}->wpAny (model X.prog X.w) X.A (f (.int i t)) Q E s):
 UnR X f (rU λi=>.int (g i)):=by
 intro bC s σ H x v Q I rx h;obtain⟨i,rfl,q⟩:=h;obtain⟨t,rfl⟩:=rx;exact rule i t s _ _ ⟨.int (g i),H,I.tok _,⟨_,rfl⟩,q⟩
theorem b6S:UnR X (unaryOp .USub) (rU λi=>.int (-i)):=unI λ_ _ _ _ _ q=>neg_int q
end
noncomputable def scal:V->V->Bool
 |.non,.non=>true|.non,.int _=>true|.int _,.non=>true|.non,.bl _=>true|.bl _,.non=>true|.non,.str _=>true|.str _,.non=>true
 |.int _,.int _=>true|.bl _,.bl _=>true|.str _,.str _=>true|.byt _,.byt _=>true
 |.int _,.str _=>true|.str _,.int _=>true|.bl _,.str _=>true|.str _,.bl _=>true
 |_,_=>false
def rEq:R2:=λx y H Q=>scal x y=true/\Q (.bl (decide (x=y))) H
def rNe:R2:=λx y H Q=>scal x y=true/\Q (.bl (!decide (x=y))) H
theorem a9l{i j:Int}:decide (V.int i=V.int j)=(i==j):=by rw[gG];simp
theorem b3z{i j:Bool}:decide (V.bl i=V.bl j)=(i==j):=by rw[gG];simp
theorem a9k{i j:Str}:decide (V.str i=V.str j)=(i==j):=by rw[gG];simp
theorem a9m{i j:Array UInt8}:decide (V.byt i=V.byt j)=(i.toList==j.toList):=by rw[gG];cases i;cases j;simp
variable{op':CmpOp}{bF:List Value}
section
variable{a b:Expr}{ta tb tc:TE}
theorem u8{s:Shared}{Q:VK}{k k':Bool}(I:Inv X bC σ H s)(q:Q (.bl k) H)(e:k=k'):EP X bC σ Q (.bool k') s:=by subst e;exact⟨.bl k,H,I,rfl,q⟩
theorem c0q:OpR X (compareOp .Eq) rEq:=by
 intro bC s σ H x y v u Q I rx ry h;obtain⟨hs,q⟩:=h;cases x with
 |non=>
  cases rx;cases y with
  |non=>cases ry;exact PySem.EqNone.eq_none_none (u8 I q ⋯)
  |bl j=>cases ry;exact PySem.EqNone.eq_none_bool (u8 I q ⋯)
  |int j=>obtain⟨t',rfl⟩:=ry;exact PySem.EqNone.eq_none_int (u8 I q ⋯)
  |str j=>obtain⟨t',rfl⟩:=ry;exact PySem.EqNone.eq_none_str (u8 I q ⋯)
  |_=>exact absurd (show false=true from hs) bq
 |bl i=>
  cases rx;cases y with
  |non=>cases ry;exact PySem.EqNone.eq_bool_none (u8 I q ⋯)
  |bl j=>cases ry;exact eq_bool (u8 I q b3z)
  |str j=>obtain⟨t',rfl⟩:=ry;exact PySem.EqMixed.eq_bool_str (u8 I q ⋯)
  |_=>exact absurd (show false=true from hs) bq
 |int i=>
  obtain⟨t,rfl⟩:=rx;cases y with
  |non=>cases ry;exact PySem.EqNone.eq_int_none (u8 I q ⋯)
  |int j=>obtain⟨t',rfl⟩:=ry;exact eq_int (u8 I q a9l)
  |str j=>obtain⟨t',rfl⟩:=ry;exact PySem.EqMixed.eq_int_str (u8 I q ⋯)
  |_=>exact absurd (show false=true from hs) bq
 |str i=>
  obtain⟨t,rfl⟩:=rx;cases y with
  |non=>cases ry;exact PySem.EqNone.eq_str_none (u8 I q ⋯)
  |bl j=>cases ry;exact PySem.EqMixed.eq_str_bool (u8 I q ⋯)
  |int j=>obtain⟨t',rfl⟩:=ry;exact PySem.EqMixed.eq_str_int (u8 I q ⋯)
  |str j=>obtain⟨t',rfl⟩:=ry;exact eq_str (u8 I q a9k)
  |_=>exact absurd (show false=true from hs) bq
 |byt i=>
  obtain⟨t,rfl⟩:=rx;cases y with
  |byt j=>obtain⟨t',rfl⟩:=ry;exact PySem.W.eq_bytes (u8 I q a9m)
  |_=>exact absurd (show false=true from hs) bq
 |_=>cases y<;>exact absurd (show false=true from hs) bq
theorem c0l:OpR X (compareOp .NotEq) rNe:=by
 intro bC s σ H x y v u Q I rx ry h;obtain⟨hs,q⟩:=h;cases x with
 |non=>
  cases rx;cases y with
  |non=>cases ry;exact PySem.EqNone.ne_none_none (u8 I q ⋯)
  |bl j=>cases ry;exact PySem.EqNone.ne_none_bool (u8 I q ⋯)
  |int j=>obtain⟨t',rfl⟩:=ry;exact PySem.EqNone.ne_none_int (u8 I q ⋯)
  |str j=>obtain⟨t',rfl⟩:=ry;exact PySem.EqNone.ne_none_str (u8 I q ⋯)
  |_=>exact absurd (show false=true from hs) bq
 |bl i=>
  cases rx;cases y with
  |non=>cases ry;exact PySem.EqNone.ne_bool_none (u8 I q ⋯)
  |bl j=>cases ry;exact ne_bool (u8 I q (fM not b3z))
  |str j=>obtain⟨t',rfl⟩:=ry;exact PySem.EqMixed.ne_bool_str (u8 I q ⋯)
  |_=>exact absurd (show false=true from hs) bq
 |int i=>
  obtain⟨t,rfl⟩:=rx;cases y with
  |non=>cases ry;exact PySem.EqNone.ne_int_none (u8 I q ⋯)
  |int j=>obtain⟨t',rfl⟩:=ry;exact ne_int (u8 I q (fM not a9l))
  |str j=>obtain⟨t',rfl⟩:=ry;exact PySem.EqMixed.ne_int_str (u8 I q ⋯)
  |_=>exact absurd (show false=true from hs) bq
 |str i=>
  obtain⟨t,rfl⟩:=rx;cases y with
  |non=>cases ry;exact PySem.EqNone.ne_str_none (u8 I q ⋯)
  |bl j=>cases ry;exact PySem.EqMixed.ne_str_bool (u8 I q ⋯)
  |int j=>obtain⟨t',rfl⟩:=ry;exact PySem.EqMixed.ne_str_int (u8 I q ⋯)
  |str j=>obtain⟨t',rfl⟩:=ry;exact ne_str (u8 I q (fM not a9k))
  |_=>exact absurd (show false=true from hs) bq
 |byt i=>
  obtain⟨t,rfl⟩:=rx;cases y with
  |byt j=>obtain⟨t',rfl⟩:=ry;exact PySem.W.ne_bytes (u8 I q (fM not a9m))
  |_=>exact absurd (show false=true from hs) bq
 |_=>cases y<;>exact absurd (show false=true from hs) bq
theorem c0m:OpR X (compareOp .Lt) (rI0 λi j=>.bl (decide (i<j))):=b5e λ_ _ _ _ _ _ _ q=>lt_int q
theorem c0n:OpR X (compareOp .LtE) (rI0 λi j=>.bl (decide (i<=j))):=b5e λ_ _ _ _ _ _ _ q=>le_int q
theorem c0o:OpR X (compareOp .Gt) (rI0 λi j=>.bl (decide (j<i))):=b5e λ_ _ _ _ _ _ _ q=>gt_int q
theorem c0p:OpR X (compareOp .GtE) (rI0 λi j=>.bl (decide (j<=i))):=b5e λ_ _ _ _ _ _ _ q=>ge_int q
theorem a9T:OpR X (compareOp .In) (λx y H Q=>∃i j,x=.str i/\y=.str j/\Q (.bl (!(occurrences j i 0 ↥j 1).isEmpty)) H):=by intro bC s σ H x y v u Q I rx ry h;obtain⟨i,j,rfl,rfl,q⟩:=h;obtain⟨t,rfl⟩:=rx;obtain⟨t',rfl⟩:=ry;exact in_str (u8 I q rfl)
theorem OpR.or{r r':R2}(h:OpR X f r)(h':OpR X f r'):OpR X f (λx y H Q=>r x y H Q∨r' x y H Q):=by
 intro bC s σ H x y v u Q I rx ry q;rcases q with q|q
 · exact h bC s σ H x y v u Q I rx ry q
 · exact h' bC s σ H x y v u Q I rx ry q
theorem a5k{r:R2}(ho:OpR X (compareOp op) r)(ha:PE X a ta)(hb:PE X b tb)(hm:behindInMarks op b=false):PE X (.Compare a [op] [b] pos) (tOp r ta tb):=by intro bC s σ H Q I h;exact wpAny_Compare1 (b8Y ha hb I h λv u s2 x y H2 I2 rx ry q=>ho bC s2 σ H2 x y v u Q I2 rx ry q) hm
def b0S(t:TE):TT:=λσ H Q=>t σ H λx H'=>∃k,x=.bl k/\Q k H'
theorem a5j{r:R2}(ho:OpR X (compareOp op) r)(ha:PE X a ta)(hb:PE X b tb)(hm:behindInMarks op b=false):PT X (.Compare a [op] [b] pos) (b0S (tOp r ta tb)):=by
 intro bC s σ H Q I h;refine wpAny_isTrue_Compare1 (thn (ha bC s σ H _ I h) λv s1 ⟨x,H1,I1,r1,q1⟩=>thn (hb bC s1 σ H1 _ I1 q1) λu s2 ⟨y,H2,I2,r2,q2⟩=>
  thn (ho bC s2 σ H2 x y v u _ I2 r1 r2 q2) λc s3 ⟨z,H3,I3,r3,k,e,q3⟩=>?_) hm
 subst e;cases r3;exact gb ⟨H3,I3,q3⟩
noncomputable def a7y(r r':R2)(ta tb tc:TE):TE:=λσ H Q=>ta σ H λx H1=>tb σ H1 λy H2=>r x y H2 λz H3=>∃k,z=.bl k∧
 (if k=true then tc σ H3 λw' H4=>r' y w' H4 Q else Q (.bl false) H3)
theorem b1H{r r':R2}(ho:OpR X (compareOp op) r)(dG:OpR X (compareOp op') r')(ha:PE X a ta)(hb:PE X b tb)(hc:PE X c tc)
 (hm:lastMarks [op,op'] [b,c]=false:=by with_unfolding_all rfl):PE X (.Compare a [op,op'] [b,c] pos) (a7y r r' ta tb tc):=by
 intro bC s σ H Q I h;refine Compare_chain (thn (ha bC s σ H _ I h) λv s1 ⟨x,H1,I1,r1,q1⟩=>chain_link (thn (hb bC s1 σ H1 _ I1 q1) λu s2 ⟨y,H2,I2,r2,q2⟩=>
  thn (ho bC s2 σ H2 x y v u _ I2 r1 r2 q2) λd s3 ⟨z,H3,I3,r3,k,e,q3⟩=>?_)) hm
 subst e;cases r3;refine gb ?_;cases k with
 |false=>exact ite_ff ⟨.bl false,H3,I3,rfl,q3⟩
 |true=>exact ite_tt (chain_last (thn (hc bC s3 σ H3 _ I3 q3) λw' s4 ⟨z',H4,I4,r4,q4⟩=>dG bC s4 σ H4 y z' u w' Q I4 r2 r4 q4))
theorem b1o{r r':R2}(ho:OpR X (compareOp op) r)(dG:OpR X (compareOp op') r')(ha:PE X a ta)(hb:PE X b tb)(hc:PE X c tc)
 (hm:lastMarks [op,op'] [b,c]=false:=by with_unfolding_all rfl):PT X (.Compare a [op,op'] [b,c] pos) (b0S (a7y r r' ta tb tc)):=by
 intro bC s σ H Q I h;refine isTrue_chain (thn (ha bC s σ H _ I h) λv s1 ⟨x,H1,I1,r1,q1⟩=>test_link (thn (hb bC s1 σ H1 _ I1 q1) λu s2 ⟨y,H2,I2,r2,q2⟩=>
  thn (ho bC s2 σ H2 x y v u _ I2 r1 r2 q2) λd s3 ⟨z,H3,I3,r3,k,e,q3⟩=>?_)) hm
 subst e;cases r3;refine gb ?_;cases k with
 |false=>
  obtain⟨k',e',q'⟩:=q3;cases e';exact ite_ff ⟨H3,I3,q'⟩
 |true=>
  refine ite_tt (test_last (thn (hc bC s3 σ H3 _ I3 q3) λw' s4 ⟨z',H4,I4,r4,q4⟩=>thn (dG bC s4 σ H4 y z' u w' _ I4 r2 r4 q4) λd' s5 zz=>?_));obtain⟨z2,H5,I5,r5,k2,e2,q5⟩:=zz;subst e2;cases r5;exact gb ⟨H5,I5,q5⟩
def c2e(K:Frag)(x:V)(H:Hp)(k:Bool):Prop:=
 match x with
 |.non=>k=false
 |.bl b=>k=b
 |.int i=>k=(i !=0)
 |.str y=>↥y<=sizeLine/\k=((↥y:Int) !=0)
 |.byt y=>y.size<=sizeLine/\k=((y.size:Int) !=0)
 |.ref p=>(∃xs,SqL K H p xs/\k=!xs.isEmpty)∨(∃xs,SqT K H p xs/\k=!xs.isEmpty)∨∃bD,H p=some (.dK bD)/\k=!bD.isEmpty
 |_=>False
theorem a7S{κ:Type}{bD:List (κ×V)}{vs:List (κ×Value)}(r:KV bD vs):(!vs.isEmpty)=!bD.isEmpty:=by cases r<;>rfl
theorem a3I{xs:List V}(r:p7 xs bF):(!bF.toArray.isEmpty)=!xs.isEmpty:=by cases r<;>simp
theorem a1a:(sizeLine:Nat)<2^63:=by rw[gS];decide
theorem b6Y:c3j X (λx H Q=>∃k,c2e X.K x H k/\Q k H):=by
 intro bC s σ H x v Q I rx h;obtain⟨k,e,q⟩:=h;have hl:=a1a;have hs:sizeLine=16777216:=gS;cases x with
 |non=>
  cases rx;have e':k=false:=e;subst e';exact truthy_none ⟨H,I,q⟩
 |bl b=>
  cases rx;have e':k=b:=e;subst e';exact gb ⟨H,I,q⟩
 |int i=>
  obtain⟨t,rfl⟩:=rx;have e':k=(i !=0):=e;subst e';exact PySem.P.truthy_int ⟨H,I,q⟩
 |str y=>
  obtain⟨t,rfl⟩:=rx;obtain⟨hy,e'⟩:↥y<=sizeLine/\k=((↥y:Int) !=0):=e;subst e';exact PySem.P.truthy_str nofun ⟨H,I.tok _,q⟩
 |byt y=>
  obtain⟨t,rfl⟩:=rx;obtain⟨hy,e'⟩:y.size<=sizeLine/\k=((y.size:Int) !=0):=e;subst e';exact PySem.W.truthy_bytes nofun ⟨H,I.tok _,q⟩
 |ref p=>
  cases rx;have e':(∃xs,SqL X.K H p xs/\k=!xs.isEmpty)∨(∃xs,SqT X.K H p xs/\k=!xs.isEmpty)∨∃bD,H p=some (.dK bD)/\k=!bD.isEmpty:=e;rcases e' with⟨xs,hx,e'⟩|⟨xs,hx,e'⟩|⟨bD,hx,e'⟩
  · subst e';obtain⟨bF,r,pl,hz⟩:=I.list hx;have bR:=↥r;exact wpAny_truthy_list pl.isList (by simp only[size_toArray];ac_nf) ⟨H,I.tok _,by rw[a3I r];exact q⟩
  · subst e';obtain⟨bF,r,pl,hz⟩:=I.tuple hx;have bR:=↥r;exact truthy_tuple pl (by simp only[size_toArray];ac_nf) ⟨H,I.tok _,by rw[a3I r];exact q⟩
  · subst e';obtain⟨hz,hS,vs,r,m⟩:↥bD<=sizeLine/\(p==sysModules)=false/\∃vs,KV bD vs/\s.heap.DictOf (z9 X.prog X.w) p vs:=I.hok p _ hx;have bR:↥bD=↥vs:=Paired.length r;exact wpAny_truthy_dict hS m nofun ⟨H,I.tok _,by rw[a7S r];exact q⟩
 |_=>exact(show False from e).elim
theorem b1l(ha:PE X a ta)(he:∀da,isTrue a X.env da=(do let v←da;standAt a.pos;holding [v] (truthy v))):
 PT X a (λσ H Q=>ta σ H λx H'=>∃k,c2e X.K x H' k/\Q k H'):=by
 intro bC s σ H Q I h;exact isTrue_plain (thn (ha bC s σ H _ I h) λv s1 ⟨x,H1,I1,r1,q1⟩=>b6Y bC s1 σ H1 x v Q I1 r1 q1) (he _)
theorem a7G:OpR X (binaryOp .Add) (λx y H Q=>∃i j,x=.str i/\y=.str j/\↥i+↥j<=sizeLine/\Q (.str (i++j)) H):=by intro bC s σ H x y v u Q I rx ry h;obtain⟨i,j,rfl,rfl,hz,q⟩:=h;obtain⟨t,rfl⟩:=rx;obtain⟨t',rfl⟩:=ry;exact add_str (λt' tk=>⟨.str (i++j),H,I.tok _,⟨_,rfl⟩,q⟩) hz
theorem T7{x:V}(r:p7 [x] us):∃u,us=[u]/\k8 x u:=by
 cases r with
 |cons r1 r2=>cases r2;exact⟨_,rfl,r1⟩
theorem a6d{x:V}(r:p7 [x,y] us):∃u w',us=[u,w']/\k8 x u/\k8 y w':=by
 cases r with
 |cons r1 r2=>
  cases r2 with
  |cons r3 r4=>cases r4;exact⟨_,_,rfl,r1,r3⟩
theorem b0w(hc:X.calm=true):G5 X (.builtin "max") (λxs H Q=>∃i j,xs=[.int i,.int j]/\Q (.int (if j>i then j else i)) H):=by
 intro bC s σ H xs us Q I r h;obtain⟨i,j,rfl,q⟩:=h;obtain⟨u,w',rfl,⟨t,rfl⟩,⟨t',rfl⟩⟩:=a6d r;refine max_two_ints (I.ok.hd hc) λh' tk k=>⟨_,H,I.kept k,?_,q⟩
 by_cases hj:j>i
 · rw[ay hj,ay hj];exact⟨_,rfl⟩
 · rw[az hj,az hj];exact⟨_,rfl⟩
theorem a4N:G5 X (.type "int") (λxs H Q=>(∃i,xs=[.int i]/\Q (.int i) H)∨∃k,xs=[.bl k]/\Q (.int (if k then 1 else 0)) H):=by
 intro bC s σ H xs us Q I r h;rcases h with⟨i,rfl,q⟩|⟨k,rfl,q⟩
 · obtain⟨u,rfl,t,rfl⟩:=T7 r;exact call_int_int ⟨.int i,H,I,⟨_,rfl⟩,q⟩
 · obtain⟨u,rfl,r1⟩:=T7 r;cases r1;exact call_int_bool ⟨.int (if k then 1 else 0),H,I.tok _,⟨_,rfl⟩,q⟩
theorem a5R:G5 X (.type "str") (λxs H Q=>∃i,xs=[.int i]/\i.natAbs.log2<1920/\Q (.str (toString i)) H):=by intro bC s σ H xs us Q I r h;obtain⟨i,rfl,hz,q⟩:=h;obtain⟨u,rfl,t,rfl⟩:=T7 r;exact PySem.P.str_of_int hz ⟨.str _,H,I.tok _,⟨_,rfl⟩,q⟩
end
structure ObjM(h:Heap)(x dx C:Addr)(mA:Str->Option Value):Prop where
 obj:h.get? x=some (instObj C dx)
 ns:h.Ns1 dx mA
 ne:dx≠x
variable{dx:Addr}{mA:Str->Option Value}
theorem b0a(n:h.Ns1 dx mA):∃od,h.get? dx=some od/\∀name,lookIn name od=some (mA name):=by
 obtain⟨o,es,ep,ho,hd,hk,_,hm⟩:=n;refine⟨o,ho,λname=>?_⟩;have e:=hm name;unfold nsFind findBy at e;rw[←Array.find?_toList] at e;unfold lookIn;rw[hd]
 dsimp only
 split
 · rename_i y q;rw[q] at e;exact fM some e
 · rename_i q;rw[q] at e;have a:es.toList.any (·.refKey)=false:=by rw[List.any_eq_false];intro y hy;obtain⟨z,t,hkey⟩:=hk y (Array.mem_toList_iff.mp hy);simp[DictEntry.refKey,hkey]
   have a':¬es.toList.any (·.refKey)=true:=by rw[a];exact bq
   rw[az a'];exact fM some e
variable{C:Addr}
theorem ObjM.look{x:Addr}(I:ObjM h x dx C mA):∃od,PySem.W.InstAt h x (instObj C dx) C (some od)/\∀name,lookIn name od=some (mA name):=
 let⟨od,ho,hl⟩:=b0a I.ns
 ⟨od,⟨I.obj,rfl,rfl,ho⟩,hl⟩
variable{expr:Bool}{vs:List Value}{kw:List (Str×Value)}
section
variable{prog:Program}{E:Value->Shared->Prop}{s:Shared}{x f:Addr}{name:Str}{v:Value}
theorem b5H(X:K.In s.heap)(I:ObjM s.heap x dx C mA)(hg:plainGet K C name=true)(hh:hasDictIn K C=true)
 (ha:PySem.W.findIn K (.ref C) name=some none) (hv:mA name=some v) (hv':handedIn v=true) (h:Q v {s with toks:=s.toks+1}):
 wpAny (model prog w) A (getAttr (.ref x) name expr) Q E s:=by
 obtain⟨od,J,hl⟩:=I.look;exact PySem.W.get_value X J (PySem.W.plainGet_of hg).1 (PySem.W.findObj_own hh ha rfl (by rw[hl,hv])) hv' h
theorem b4z{ns:List Str}{Q:Unit->Shared->Prop}(X:K.In s.heap)(I:ObjM s.heap x dx C mA)
 (hs:PySem.W.findIn K (.ref C) "__setattr__"=some (some (.builtin "object.__setattr__"))) (hp:plainOver K C=true) (ht:takerIn K C name=some none) (hh:hasDictIn K C=true)
 (hw:PySem.Within mA ns) (hsz:↥ns<=sizeLine)
 (h:∀h',ObjM h' x dx C (λy=>if y=name then some v else mA y)->Heap.SameBut dx s.heap h'->Q () {s with heap:=h',toks:=s.toks+2}):
 wpAny (model prog w) A (setAttr (.ref x) name v) Q E s:=by
 obtain⟨od,J,hl⟩:=I.look;refine PySem.W.set_plain X J hs (PySem.W.osa_open (s:={s with toks:=s.toks+1}) (r:=none) X J hp ht λb=>?_);obtain⟨cd,hc,hd'⟩:=PySem.W.any_some hh;have hx:s.heap.get? x=some ⟨.ref C,some dx,.plain,#[]⟩:=I.obj;refine fv (fG (fv (fv (wpAny_loadPart hx (fv (PySem.W.Looks.here (s:={s with toks:=s.toks+1}) (PySem.W.looks_clsIn X hc) ?_))))));rw[hd'];refine fG (a:=some dx) (fv (fG (fv ?_)));refine wpAny_nsSet1 (s:={s with toks:=s.toks+1}) I.ns λh' hn2 hs2=>?_;obtain⟨oD,esD,epD,hoD,hdD,hcD⟩:=hn2.count (PySem.Within.cons name v hw);refine fv (wpAny_lookBehind hoD (by rw[hdD];exact pastItsLine_dict (aR hcD (by rw[length_cons];ac_nf))) ?_);exact fG (h _ ⟨(hs2.2 _ (fR I.ne)).trans I.obj,hn2,I.ne⟩ hs2)
theorem b1W{R:Result->Shared->Prop}(X:K.In s.heap)(hm:makesIn K C=true)
 (hi:PySem.W.findIn K (.ref C) "__init__"=some (~~~f)) (hf:PySem.W.typeIn K (.ref f)=some (.type "function"))
 (h:codeAny (model prog w) (A.under (.builtin "type.__call__" ⟨.ref C::vs,kw⟩)) (.call (.ref f) ⟨.ref (s.heap.objs.size+1)::vs,kw⟩) (PySem.W.InitBack (s.heap.objs.size+1) R)
  {s with heap:=(s.heap.push emptyDict).push (instObj C s.heap.objs.size)}):
 codeAny (model prog w) A (.call (.ref C) ⟨vs,kw⟩) R s:=by
 obtain⟨hh,g,d,t,os⟩:=s;exact PySem.W.make_core (PySem.W.makes_of X hm) (PySem.W.looks_findIn X hi) (λself=>PySem.W.bind_fn X self hf) (.inl rfl) h
end
noncomputable def X0(f:Str)(v:V):List (Str×V)->List (Str×V)
 |[]=>[(f,v)]
 |(g,x)::r=>if g=f then(g,v)::r else(g,x)::X0 f v r
theorem a2y(f g:Str)(v:V):∀fs:List (Str×V),(X0 f v fs).lookup g=if g=f then some v else fs.lookup g
 |[]=>by
  show List.lookup g [(f,v)]=_
  by_cases h:g=f
  · have hb:(g==f)=true:=beq_iff_eq.mpr h;simp only[List.lookup,hb,ay h]
  · have hb:(g==f)=false:=beq_eq_false_iff_ne.mpr h;simp only[List.lookup,hb,az h]
 | (k,x)::r=>by
  have ih:=a2y f g v r;rw[show X0 f v ((k,x)::r)=(if k=f then(k,v)::r else(k,x)::X0 f v r) from rfl]
  by_cases hk:k=f
  · rw[ay hk]
    by_cases h:g=k
    · have hb:(g==k)=true:=beq_iff_eq.mpr h;simp only[List.lookup,hb,ay (h.trans hk)]
    · have hb:(g==k)=false:=beq_eq_false_iff_ne.mpr h;simp only[List.lookup,hb,az (λe:g=f=>h (e.trans hk.symm))]
  · rw[az hk]
    by_cases h:g=k
    · have hb:(g==k)=true:=beq_iff_eq.mpr h;simp only[List.lookup,hb,az (λe:g=f=>hk (h.symm.trans e))]
    · have hb:(g==k)=false:=beq_eq_false_iff_ne.mpr h;simp only[List.lookup,hb];exact ih
theorem a2d(f:Str)(v:V):∀fs:List (Str×V),f∈(X0 f v fs).map (·.1)/\∀g,g∈fs.map (·.1)->g∈(X0 f v fs).map (·.1)
 |[]=>⟨by simp[X0],λg h=>by simp at h⟩
 | (k,x)::r=>by
  obtain⟨i1,i2⟩:=a2d f v r;rw[show X0 f v ((k,x)::r)=(if k=f then(k,v)::r else(k,x)::X0 f v r) from rfl]
  by_cases hk:k=f
  · rw[ay hk];subst hk;exact⟨by simp,λg h=>by simpa using h⟩
  · rw[az hk];refine⟨?_,λg h=>?_⟩
    · rw[map_cons];exact aE _ i1
    · rw[map_cons] at h⊢;rcases aF.mp h with e|e
      · exact aF.mpr (.inl e)
      · exact aE _ (i2 g e)
theorem a2z(f:Str)(v:V):∀fs:List (Str×V),↥(X0 f v fs)<=↥fs+1
 |[]=>by simp[X0]
 |(k,x)::r=>by
  have ih:=a2z f v r;rw[show X0 f v ((k,x)::r)=(if k=f then(k,v)::r else(k,x)::X0 f v r) from rfl]
  by_cases hk:k=f
  · rw[ay hk,length_cons,length_cons];ac_nf
  · rw[az hk,length_cons,length_cons];ac_nf
theorem a0M.some_of{o:Option Value}(r:a0M (some v) o):∃u,o=some u/\k8 v u:=by
 cases o with
 |none=>exact(show False from r).elim
 |some u=>exact⟨u,rfl,r⟩
theorem b0h(r:k8 v u):handedIn u=true:=by
 cases v with
 |non=>cases (show u=Value.none from r);rfl
 |bl b=>cases (show u=Value.bool b from r);rfl
 |int i=>obtain⟨t,e⟩:=(show∃t,u=Value.int i t from r);cases e;rfl
 |str x=>obtain⟨t,e⟩:=(show∃t,u=Value.str x t from r);cases e;rfl
 |byt b=>obtain⟨t,e⟩:=(show∃t,u=Value.bytes b t from r);cases e;rfl
 |flt b=>obtain⟨t,e⟩:=(show∃t,u=Value.float b t from r);cases e;rfl
 |ref a=>cases (show u=Value.ref a from r);rfl
 |ty n=>cases (show u=Value.type n from r);rfl
section
variable{fs fs':List (Str×V)}
theorem a8Y(hok:HOk P w H h)(e:H a=some (.ins C dx fs)):∃mA,ObjM h a dx C mA/\(∀f,a0M (fs.lookup f) (mA f))/\PySem.Within mA (fs.map (·.1))/\↥fs<=1000/\H dx=some (.own a):=by obtain⟨d,z,ne,ob,mA,n,r,q⟩:=(show J4 P w H h a (.ins C dx fs) from hok a _ e);exact⟨mA,⟨ob,n,ne⟩,r,q,z,d⟩
end
structure Cls(K:Frag)(C:Addr):Prop where
 pg:plainGet K C Str.empty=true
 hd:hasDictIn K C=true
 po:plainOver K C=true
 sa:PySem.W.findIn K (.ref C) "__setattr__"=some (some (.builtin "object.__setattr__"))
theorem Cls.get(c:Cls K C)(f:Str):plainGet K C f=true:=c.pg
def a0A(K:Frag)(C:Addr)(f:Str):Prop:=PySem.W.findIn K (.ref C) f=some none
theorem a0A.taker{f:Str}(n:a0A K C f):takerIn K C f=some none:=by unfold takerIn;rw[show PySem.W.findIn K (.ref C) f=some none from n];rfl
variable{prog:Program}{env:Env}
section
variable{s:Shared}{fs:List (Str×V)}{f:Str}{E:Value->Shared->Prop}
theorem a7V{b:Bool}(I:Inv X bC σ H s)(e:H a=some (.ins C dx fs))(c:Cls X.K C)(n:a0A X.K C f)(l:fs.lookup f=some v)
 (h:∀u s',Inv X bC σ H s'->k8 v u->Q u s'):wpAny (model X.prog X.w) A (getAttr (.ref a) f b) Q E s:=by
 obtain⟨mA,O,r,_,_,_⟩:=a8Y I.hok e;obtain⟨u,hu,ru⟩:=a0M.some_of (v:=v) (o:=mA f) (by rw[←l];exact r f);exact b5H I.kIn O (c.get f) c.hd n hu (b0h ru) (h u _ (I.tok _) ru)
theorem a7D{Q:Unit->Shared->Prop}(I:Inv X bC σ H s)(e:H a=some (.ins C dx fs))(c:Cls X.K C)(n:a0A X.K C f)(hl:↥fs<1000)(ry:k8 y u)
 (h:∀s',Inv X bC σ (upd H a (.ins C dx (X0 f y fs))) s'->Q () s'):wpAny (model X.prog X.w) A (setAttr (.ref a) f u) Q E s:=by
 obtain⟨mA,O,r,wi,_,ho⟩:=a8Y I.hok e;have hz:↥(fs.map (·.1))<=sizeLine:=by rw[aa,gS];ac_nf
 refine b4z I.kIn O c.sa c.po n.taker c.hd wi hz λh' O' sb=>h _ ?_;have hd:∃o,h'.get? dx=some o:=let⟨o,_,_,e',_⟩:=O'.ns;⟨o,e'⟩;refine I.write (x:=a) (e:=dx) (by rw[e];exact True.intro) (.inr ho) (λb q hb z=>(sb.2 b hb).trans z) hd ?_;refine⟨by rw[j9 O.ne];exact ho,?_,O.ne,O'.obj,_,O'.ns,λg=>?_,λg hg=>?_⟩
 · have:=a2z f y fs;ac_nf
 · show a0M ((X0 f y fs).lookup g) (if g=f then some u else mA g);rw[a2y]
   by_cases q:g=f
   · rw[ay q,ay q];exact ry
   · rw[az q,az q];exact r g
 · by_cases q:g=f
   · rw[q];exact(a2d f y fs).1
   · refine(a2d f y fs).2 g (wi g λz=>hg ?_);show(if g=f then some u else mA g)=none;rw[az q];exact z
theorem Inv.made(I:Inv X bC σ H s):Inv X bC σ (upd (upd H s.heap.objs.size (.own (s.heap.objs.size+1))) (s.heap.objs.size+1) (.ins C s.heap.objs.size []))
 {s with heap:=(s.heap.push emptyDict).push (instObj C s.heap.objs.size)}:=by
 have e1:(s.heap.push emptyDict).get? s.heap.objs.size=some emptyDict:=fI s.heap rfl;have e2:((s.heap.push emptyDict).push (instObj C s.heap.objs.size)).get? (s.heap.objs.size+1)=some (instObj C s.heap.objs.size):=by
  have:=fI (s.heap.push emptyDict) (o:=instObj C s.heap.objs.size) rfl
  rwa [gr] at this
 have e3:(s.heap.push emptyDict).Ns s.heap.objs.size (λ_=>none):=⟨emptyDict,#[],_,e1,rfl,(λe he=>absurd he ⋯),λ_=>rfl⟩;have I1:=I.laid (a:=s.heap.objs.size) (o:=.own (s.heap.objs.size+1)) (h':=s.heap.push emptyDict) (t':=s.toks) (λb u q=>fF _ q) (aj _) ⟨_,e1⟩;refine I1.laid (a:=s.heap.objs.size+1) (o:=.ins C s.heap.objs.size []) (t':=s.toks) (λb u q=>fF _ q) (Nat.le_of_eq (gr _ _)) ?_;have ne:s.heap.objs.size≠s.heap.objs.size+1:=fN (aT _);refine⟨by rw[j9 ne,g9],ga _,ne,e2,λ_=>none,(Heap.Ns1.of_empty e3).at λo q=>fF _ q,λ_=>True.intro,λy hy=>absurd rfl hy⟩
theorem b6t{f:Str}{s:Shared}(hb:attributeBase e f env (eval e env)=eval e env)
 (h:wpAny (model prog w) A (eval e env) (λo bK=>wpAny (model prog w) A (getAttr o f true) Q E bK) E s):wpAny (model prog w) A (eval (.Attribute e f pos) env) Q E s:=
 Attribute_any_ h (by rw[arm_eval_Attribute,hb])
end
noncomputable def c2p(K:Frag)(ta:TE)(f:Str):TE:=λσ H Q=>ta σ H λx H1=>∃a C dx fs v,x=.ref a/\H1 a=some (.ins C dx fs)/\Cls K C/\a0A K C f/\fs.lookup f=some v/\Q v H1
def c2s(K:Frag)(ta tv:TE)(f:Str):TS:=λD σ H=>tv σ H λy H1=>ta σ H1 λx H2=>∃a C dx fs,x=.ref a/\H2 a=some (.ins C dx fs)/\Cls K C/\a0A K C f/\↥fs<1000∧
 D.nx σ (upd H2 a (.ins C dx (X0 f y fs)))
variable{cu:Pos}
section
variable{o value:Expr}{f:Str}{ef:Pos}{ta tv:TE}
theorem b7N(he:PE X e ta)(hb:attributeBase e f X.env (eval e X.env)=eval e X.env):PE X (.Attribute e f pos) (c2p X.K ta f):=by intro bC s σ H Q I h;refine b6t hb (thn (he bC s σ H _ I h) λu s1 zz=>?_);obtain⟨x,H1,I1,rx,a,C,dx,fs,v,ex,ea,c,n,l,q⟩:=zz;subst ex;obtain rfl:u=Value.ref a:=rx;exact a7V I1 ea c n l λu' s2 I2 ru=>⟨v,H1,I2,ru,q⟩
theorem b7y(ha:PE X o ta)(hv:PE X value tv)(hs:swapsWith value (some (.Attribute o f cU)) pos.line X.env=pure false):PS X (.Assign [.Attribute o f cU] value pos) (c2s X.K ta tv f):=by intro bC s σ H D I h;refine plainObj_wpAny_Assign_Attribute (thn (hv bC s σ H _ I h) λu s1 ⟨y,H1,I1,ry,q⟩=>thn (ha bC s1 σ H1 _ I1 q) λov s2 zz=>?_) hs;obtain⟨x,H2,I2,rx,a,C,dx,fs,ex,ea,c,n,l,q2⟩:=zz;subst ex;obtain rfl:ov=Value.ref a:=rx;exact a7D I2 ea c n l ry λs3 I3=>⟨σ,_,I3,q2⟩
end
structure Room(k:Nat)(A:Around):Prop where
 hd:A.handled=none
 dp:A.depth+3*k+5<recursionLimit
 un:A.units+16*k+200<cLine
theorem Room.mono{k:Nat}(r:Room k A)(h:j<=k):Room j A:=⟨r.hd,by have:=r.dp;ac_nf,by have:=r.un;ac_nf⟩
theorem Room.deeper{k:Nat}(r:Room (k+1) A)(env:Env):Room k (A.deeper env):=
 ⟨r.hd,by have:=r.dp;show A.depth+1+3*k+5<_;ac_nf,by have:=r.un;show A.units+3+16*k+200<_;ac_nf⟩
theorem a7M:(A.under (.builtin "type.__call__" ⟨.ref C::us,kw⟩)).depth=A.depth+1:=by first|rfl|simp[Around.under,Code.weight,Code.isCreation,Code.isGuard,Code.isCaller,Code.frames,Code.isFrame,guardIds]
theorem a7L:(A.under (.builtin "type.__call__" ⟨.ref C::us,kw⟩)).units=A.units+1:=by first|rfl|simp[Around.under,Code.cUnits,Code.frames,Code.isFrame]
theorem Room.make{k:Nat}(r:Room (k+1) A)(C:Addr)(us:List Value)(kw:List (Str×Value)):Room k (A.under (.builtin "type.__call__" ⟨.ref C::us,kw⟩)):=
 ⟨r.hd,by have:=r.dp;rw[a7M];ac_nf,by have:=r.un;rw[a7L];ac_nf⟩
theorem Room.depth{k:Nat}(r:Room k A):A.depth<recursionLimit:=by have:=r.dp;ac_nf
theorem Room.units{k:Nat}(r:Room k A):A.units+64<cLine:=by have:=r.un;ac_nf
def b9I:TA:=λ_ H Q=>Q [] H
def b9N(ta:TE)(tr:TA):TA:=λσ H Q=>ta σ H λx H1=>tr σ H1 λxs H2=>Q (x::xs) H2
section
variable{t:TA}
theorem a2b:PA X [] b9I:=λ_ _ _ _ H Q I h=>Calls.spliced_nil ⟨[],H,I,.nil,h⟩
theorem Q7(ha:PE X e te)(hr:PA X es t)(hs:starEach (e::es) X.env=(false,eval e X.env)::starEach es X.env:=by rfl):PA X (e::es) (b9N te t):=by intro pos bC s σ H Q I h;rw[hs];show wpAny _ _ (spliced ((false,eval e X.env)::backTo pos (starEach es X.env))) _ _ s;refine gU (thn (ha bC s σ H _ I h) λu s1 zz=>?_);obtain⟨x,H1,I1,r1,q1⟩:=zz;exact thn (hr pos bC s1 σ H1 _ I1 q1) λus s2 ⟨xs,H2,I2,r2,q2⟩=>⟨x::xs,H2,I2,.cons r1 r2,q2⟩
def c2g(t:TA):TE:=λσ H Q=>t σ H λxs H1=>↥xs<=sizeLine/\∀p,H1 p=none->Q (.ref p) (upd H1 p (.tup xs))
def c2l(t:TA):TE:=λσ H Q=>t σ H λxs H1=>↥xs<=sizeLine/\∀p,H1 p=none->Q (.ref p) (upd H1 p (.lst xs))
theorem b7I{x1}(h:PA X es t):PE X (.Tuple es x1 pos) (c2g t):=by intro bC s σ H Q I hq;refine wpAny_Tuple_spliced (thn (h pos bC s σ H _ I hq) λus s1 ⟨xs,H1,I1,r,z,q⟩=>⟨by rw[←r.length];exact z,?_⟩);have hf:H1 s1.heap.objs.size=none:=I1.hok.fresh (aj _);refine⟨.ref s1.heap.objs.size,upd H1 s1.heap.objs.size (.tup xs),I1.laid (t':=s1.toks) (λb u e=>fF _ e) (aj _) ?_,rfl,q _ hf⟩;exact⟨z,us,r,⟨_,fI _ rfl,rfl,rfl,_,rfl⟩⟩
theorem b7M(h:PA X es t):PE X (.List es pos) (c2l t):=by intro bC s σ H Q I hq;refine wpAny_List_spliced (thn (h pos bC s σ H _ I hq) λus s1 ⟨xs,H1,I1,r,z,q⟩=>⟨by rw[←r.length];exact z,?_⟩);have hf:H1 s1.heap.objs.size=none:=I1.hok.fresh (aj _);refine⟨.ref s1.heap.objs.size,upd H1 s1.heap.objs.size (.lst xs),I1.laid (t':=s1.toks) (λb u e=>fF _ e) (aj _) ?_,rfl,q _ hf⟩;exact⟨z,us,0,r,fI _ rfl⟩
end
abbrev Sp:=List V->Hp->VK->XK->Prop
abbrev CXT:=List Env->Hp->Shared->XK->Value->Shared->Prop
structure Env0(P:Program)(w:World)(K:Frag)(mg:Str->Option Value)(base:Heap)(A:Around)(outer:List Env)(s:Shared)(H:Hp):Prop where
 frames:A.frames=some outer
 mod:Mod K mg base
 bs:∀b o,base.get? b=some o->s.heap.get? b=some o/\H b=none
 bsz:base.objs.size<=s.heap.objs.size
 funs:s.heap.FunFrames base outer
 frf:∀b∈frs outer,H b=none
 hok:HOk P w H s.heap
 bare:AllBare s.gens
def CE(outer:List Env)(P:Program)(w:World)(H:Hp)(s:Shared)(Q:VK)(u:Value)(s':Shared):Prop:=
 ∃v H',s'.os=s.os/\AllBare s'.gens/\Un (frs outer) [] H H' s.heap s'.heap/\HOk P w H' s'.heap/\k8 v u/\Q v H'
def CR(CX:CXT)(outer:List Env)(P:Program)(w:World)(H:Hp)(s:Shared)(Q:VK)(E:XK)(r:Result)(s':Shared):Prop:=
 match r with
 |.ok (.ret u)=>CE outer P w H s Q u s'
 |.ok _=>False
 |.error e=>CX outer H s E e s'
structure FnOk(P:Program)(w:World)(K:Frag)(mg:Str->Option Value)(base:Heap)(CX:CXT)(k:Nat)(f:Addr)(fd:FuncData)(ps:List Str)(sp:Sp):Prop where
 len:∀vs H Q E,sp vs H Q E->↥vs=↥ps
 run:∀(A:Around) (outer:List Env) (s:Shared) (H:Hp) (args:Args) (us:List Value) (vs:List V) (Q:VK) (E:XK),Room k A->Env0 P w K mg base A outer s H->BindsTo s fd args (ps.zip us)->p7 vs us->sp vs H Q E→
  codeAny (model P w) A (.call (.ref f) args) (CR CX outer P w H s Q E) s
variable{mg:Str->Option Value}{base:Heap}{CX:CXT}{fd:FuncData}{ps:List Str}{sp:Sp}{outer:List Env}
theorem Env0.make{s:Shared}(e:Env0 P w K mg base A outer s H)(C:Addr)(us:List Value)(kw:List (Str×Value)):
 Env0 P w K mg base (A.under (.builtin "type.__call__" ⟨.ref C::us,kw⟩)) outer s H:=⟨by first|exact e.frames|(simpa [Around.under,Code.envs,Code.isFrame,pushEnvs] using e.frames),e.mod,e.bs,e.bsz,e.funs,e.frf,e.hok,e.bare⟩
section
variable{s:Shared}
theorem Inv.env0(I:Inv X bC σ H s):Env0 X.prog X.w X.K X.mg X.base X.A X.stack s H:=
 ⟨I.ok.frames,I.ok.mod,I.bs,aR I.ok.bsz I.sz,I.stack,I.stkFree,I.hok,I.bare⟩
theorem Inv.after{Q:VK}(I:Inv X bC σ H s)(h:CE X.stack X.prog X.w H s Q u s'):EP X bC σ Q u s':=by obtain⟨v,H',os,bare,un,hok,r,q⟩:=h;obtain⟨hh,g,d,t,os'⟩:=s';obtain rfl:os'=s.os:=os;exact⟨v,H',I.call (h':=hh) (g':=g) (d':=d) (t':=t) (ch:=[]) un hok bare (λb z=>absurd z ⋯),r,q⟩
end
def b9O(sp:Sp)(eA:List V)(E:XK)(t:TA):TE:=λσ H Q=>t σ H λvs H1=>sp (vs++eA) H1 Q E
noncomputable def b9K(C:Addr)(sp:Sp)(eA:List V)(E:XK)(t:TA):TE:=λσ H Q=>t σ H λvs H1=>∀x dx,H1 x=none->H1 dx=none->dx≠x→
 sp (.ref x::(vs++eA)) (upd (upd H1 dx (.own x)) x (.ins C dx [])) (λv H2=>v=.non/\Q (.ref x) H2) E
def U5(K:Frag)(fd:FuncData)(ps:List Str)(ds:List Value):Prop:=
 ∀(s:Shared) (us:List Value),K.In s.heap->↥(us++ds)=↥ps->BindsTo s fd ⟨us,[]⟩ (ps.zip (us++ds))
theorem U5.all(h:∀us:List Value,↥us=↥ps->bindArgs fd ⟨us,[]⟩=pure (ps.zip us)):U5 K fd ps []:=λs us _ hl=>by rw[aZ] at hl⊢;exact .of_eq (h us hl)
def a4a(CX:CXT)(X:Cx)(E:XK):Prop:=∀(bC:List (Addr×Obj)) (σ:St) (H:Hp) (s:Shared) (e:Value) (s':Shared),Inv X bC σ H s->CX X.stack H s E e s'->X.xe e s'
section
variable{k:Nat}{f:Addr}{eA:List V}{ds:List Value}{E:XK}{m:Str}{o:Expr}{ta:TE}{t:TA}
theorem b7m{s:Shared}{Q:VK}{vs:List V}(F:FnOk X.prog X.w X.K X.mg X.base CX k f fd ps sp)(hr:Room k X.A)(hb:U5 X.K fd ps ds)(hd:p7 eA ds)(hx:a4a CX X E)
 (I:Inv X bC σ H s) (r:p7 vs us) (h:sp (vs++eA) H Q E):wpAny (model X.prog X.w) X.A (call (.ref f) us) (EP X bC σ Q) X.xe s:=by
 have r2:p7 (vs++eA) (us++ds):=r.append hd;have hl:↥(us++ds)=↥ps:=by rw[←r2.length];exact F.len _ _ _ _ h
 refine wpAny_call (codeAny_mono (F.run X.A X.stack s H ⟨us,[]⟩ (us++ds) (vs++eA) Q E hr I.env0 (hb s us I.kIn hl) r2 h) λr s' hq=>?_);cases r with
 |error e=>exact hx bC σ H s e s' I hq
 |ok fl=>
  cases fl with
  |ret u=>exact I.after hq
  |next=>exact False.elim hq
  |brk=>exact False.elim hq
  |cont=>exact False.elim hq
theorem b4X(F:FnOk X.prog X.w X.K X.mg X.base CX k f fd ps sp)(hr:Room k X.A)(hg:Gl X x)(hm:X.mg x= ~~~f)(hk:PySem.W.keepIn X.K (.ref f)=true)(hb:U5 X.K fd ps ds)(hd:p7 eA ds)(hx:a4a CX X E)
 (ha:PA X (e::es) t) (hdb:(x==("__debug__":Str))=false:=by decide) (he:starEach (e::es) X.env=(false,eval e X.env)::starEach es X.env:=by rfl) (hpl:(backTo pos (starEach es X.env)).any (·.1)=false:=by rfl):
 PE X (.Call (.Name x p) (e::es) [] pos) (b9O sp eA E t):=by
 intro bC s σ H Q I h;refine gV (a5w I hg hm ?_ hdb);refine PySem.W.callWith_K (h₀:=X.base) I.ok.mod.kin hk (thn (ha pos bC s σ H _ I h) λus s1 ⟨vs,H1,I1,r,q⟩=>⟨I1.kIn,?_⟩) he hpl;exact b7m F hr hb hd hx I1 r q
structure Mk(K:Frag)(C f:Addr):Prop where
 makes:makesIn K C=true
 init:PySem.W.findIn K (.ref C) "__init__"=some (~~~f)
 fn:isFn K (.ref f)=true
 kp:PySem.W.keepIn K (.ref C)=true
theorem b1d{s:Shared}{Q:VK}{vs:List V}(M:Mk X.K C f)(F:FnOk X.prog X.w X.K X.mg X.base CX k f fd ps sp)(hr:Room (k+1) X.A)(hb:U5 X.K fd ps ds)(hd:p7 eA ds)
 (hx:a4a CX X E) (I:Inv X bC σ H s) (r:p7 vs us)
 (h:∀x dx,H x=none->H dx=none->dx≠x->sp (.ref x::(vs++eA)) (upd (upd H dx (.own x)) x (.ins C dx [])) (λv H2=>v=.non/\Q (.ref x) H2) E):
 wpAny (model X.prog X.w) X.A (call (.ref C) us) (EP X bC σ Q) X.xe s:=by
 have hq:=h (s.heap.objs.size+1) s.heap.objs.size (I.hok.fresh (Nat.le_succ _)) (I.hok.fresh (aj _)) (fN (aT _));have I2:=Inv.made (C:=C) I;have r2:p7 (V.ref (s.heap.objs.size+1)::(vs++eA)) (Value.ref (s.heap.objs.size+1)::(us++ds)):=.cons rfl (r.append hd);have hl:↥(Value.ref (s.heap.objs.size+1)::us++ds)=↥ps:=by have e:=↥r2;rw[F.len _ _ _ _ hq] at e;exact e.symm
 refine wpAny_call (b1W (f:=f) I.kIn M.makes M.init (beq_iff_eq.mp M.fn) (codeAny_mono (F.run _ X.stack _ _ ⟨Value.ref (s.heap.objs.size+1)::us,[]⟩ (Value.ref (s.heap.objs.size+1)::(us++ds)) _ _ E (hr.make C us [])
  (I2.env0.make C us []) (hb _ (Value.ref (s.heap.objs.size+1)::us) I2.kIn hl) r2 hq) λr s' hq'=>?_))
 cases r with
 |error e=>exact hx bC σ _ _ e s' I2 hq'
 | ok fl=>
  cases fl with
  |ret u=>
   obtain⟨v,H',I3,rv,ev,q3⟩:=I2.after hq';subst ev;exact⟨rv,⟨V.ref (s.heap.objs.size+1),H',I3,rfl,q3⟩⟩
  |next=>exact False.elim hq'
  |brk=>exact False.elim hq'
  |cont=>exact False.elim hq'
theorem b1C(M:Mk X.K C f)(F:FnOk X.prog X.w X.K X.mg X.base CX k f fd ps sp)(hr:Room (k+1) X.A)(hg:Gl X x)(hm:X.mg x= ~~~C)(hb:U5 X.K fd ps ds)(hd:p7 eA ds)(hx:a4a CX X E)
 (hdb:(x==("__debug__":Str))=false:=by decide):PE X (.Call (.Name x p) [] [] pos) (b9K C sp eA E b9I):=by
 intro bC s σ H Q I h;refine gV (a5w I hg hm ?_ hdb);exact PySem.W.callWith_K0 I.kIn M.kp (b1d (us:=[]) M F hr hb hd hx I .nil h)
end
structure FnScope(N P:List Str)(sc:Scope):Prop where
 kind:sc.kind=.function
 co:sc.isCoroutine=false
 gen:sc.isGenerator=false
 nd:N.Nodup
 pre:N.take ↥P=P
 par:∀x∈P,sc.names.lookup x=some .local∨sc.names.lookup x=some .cell
 nofree:∀y∈sc.names,y.2≠.free
theorem a4P{kindOf:Str->Option NameKind}{x:Str}:∀{binds:List (Str×Value)} {m:Str->Option Value},(∀v,(x,v)∉binds)->bindL kindOf binds m x=m x
 |[],_,_=>rfl
 | (n,v)::r,m,h=>by
  unfold bindL;rw[a4P λw hw=>h w (aE _ hw)];split
  · have:x≠n:=by rintro rfl;exact h v aY
    simp[this]
  · rfl
theorem a4R{kindOf:Str->Option NameKind}{x:Str}:∀{binds:List (Str×Value)} {m:Str->Option Value},(∀v,(x,v)∉binds)->bindC kindOf binds m x=m x
 |[],_,_=>rfl
 | (n,v)::r,m,h=>by
  unfold bindC;rw[a4R λw hw=>h w (aE _ hw)];split
  · rfl
  · have:x≠n:=by rintro rfl;exact h v aY
    simp[this]
theorem a4Q{kindOf:Str->Option NameKind}{x:Str}{v:Value}:∀{P:List Str} {vs:List Value} {i:Nat} {m:Str->Option Value},P.Nodup->P[i]? =some x->vs[i]? =some v->kindOf x=some .local→
 bindL kindOf (P.zip vs) m x=some v
 |[],_,_,_,_,h,_,_=>by simp at h
 |_::_,[],_,_,_,_,h,_=>by simp at h
 |p::P,w::vs,0,m,nd,h1,h2,hk=>by simp at h1 h2;subst h1;subst h2;show bindL kindOf ((p,w)::P.zip vs) m p=_;unfold bindL;rw[a4P λv hv=>(aV.mp nd).1 (of_mem_zip hv).1,ay hk];simp
 |p::P,w::vs,i+1,m,nd,h1,h2,hk=>by show bindL kindOf ((p,w)::P.zip vs) m x=_;unfold bindL;exact a4Q (i:=i) (aV.mp nd).2 (by simpa using h1) (by simpa using h2) hk
theorem a4S{kindOf:Str->Option NameKind}{x:Str}{v:Value}:∀{P:List Str} {vs:List Value} {i:Nat} {m:Str->Option Value},P.Nodup->P[i]? =some x->vs[i]? =some v->kindOf x≠some .local→
 bindC kindOf (P.zip vs) m x=some v
 |[],_,_,_,_,h,_,_=>by simp at h
 |_::_,[],_,_,_,_,h,_=>by simp at h
 |p::P,w::vs,0,m,nd,h1,h2,hk=>by simp at h1 h2;subst h1;subst h2;show bindC kindOf ((p,w)::P.zip vs) m p=_;unfold bindC;rw[a4R λv hv=>(aV.mp nd).1 (of_mem_zip hv).1,az hk];simp
 |p::P,w::vs,i+1,m,nd,h1,h2,hk=>by show bindC kindOf ((p,w)::P.zip vs) m x=_;unfold bindC;exact a4S (i:=i) (aV.mp nd).2 (by simpa using h1) (by simpa using h2) hk
def a1s(N:List Str)(vs:List V):St:=vs.map some++List.replicate (↥N-↥vs) none
noncomputable def a8j(CX:CXT)(P:Program)(w:World)(K:Frag)(mg:Str->Option Value)(base:Heap)(N:List Str)(qual:Str)(scope:Scope)(f:Addr)(cd:Value)(A:Around)(outer:List Env)(s:Shared)(H:Hp)(E:XK):Cx where
 prog:=P
 w:=w
 K:=K
 mg:=mg
 base:=base
 A:=A.deeper (envOfC qual scope s.heap.objs.size f cd)
 N:=N
 s₀:=s
 H₀:=H
 env:=envOfC qual scope s.heap.objs.size f cd
 outer:=outer
 stack:=envOfC qual scope s.heap.objs.size f cd::outer
 ex:=[]
 calm:=true
 fn:=λ_=>true
 pn:=[]
 xe:=λe s'=>wpAny (model P w) (A.deeper (envOfC qual scope s.heap.objs.size f cd)) (leaving (envOfC qual scope s.heap.objs.size f cd) e) (λ_ s''=>CX outer H s E e s'') (λe' s''=>CX outer H s E e' s'') s'
variable{sc:Scope}
theorem a7m(h:sc.names.lookup x=some .cell):∃c,(cellsFrom n sc.names []).lookup x=some c:=by have q:=PySem.W.cellsFrom_some sc.names n [] (.inl h);exact Option.isSome_iff_exists.mp q
variable{qual:Str}{scope:Scope}
theorem b0f{f:Addr}{cd:Value}{s s1:Shared}{E:XK}{vs:List V}
 (S:FnScope N ps scope) (hd:A.handled=none) (e0:Env0 P w K mg base A outer s H) (hl:↥vs=↥ps) (r:p7 vs us)
 (x:InCallC s s.heap.objs.size (bindL (envOfC qual scope s.heap.objs.size f cd).kindOf (ps.zip us) λ_=>none) (cellsFrom (s.heap.objs.size+1) scope.names []) (bindC (envOfC qual scope s.heap.objs.size f cd).kindOf (ps.zip us) λ_=>none) s1):
 Inv (a8j CX P w K mg base N qual scope f cd A outer s H E) [] (a1s N vs) H s1:=by
 have hpl:↥ps<=↥N:=by have:=fM List.length S.pre;rw[aM] at this;ac_nf
 obtain⟨h1,tk,rfl,hk⟩:=x.done;have noA:∀b:Addr,b∉(a8j CX P w K mg base N qual scope f cd A outer s H E).ex:=λb z=>absurd (show b∈([]:List Addr) from z) ⋯;refine⟨⟨e0.mod,S.kind,rfl,rfl,aj _,λy z c h1 h2=>?_,λy hy=>?_,λy c _ h=>?_,λ_=>hd,Around.frames_deeper e0.frames,.inr ⟨rfl,rfl⟩,λb z=>absurd z (noA b),e0.bs,e0.bsz,λb _ _=>noA b,λb z=>absurd z (noA b),e0.funs,e0.frf⟩,
  rfl,e0.bare,Un.kept hk,⟨_,x.toInCall.ns,λi y v h1 h2 h3=>?_⟩,λy c h=>⟨_,x.cell y c h⟩,e0.hok.fresh (aj _),λy c h=>?_,λp hp=>absurd (show p∈([]:List (Addr×Obj)) from hp) ⋯,e0.hok.kept hk,?_⟩
 · exact name_of_addr x.apart (PySem.mem_of_lookup h1) (PySem.mem_of_lookup h2)
 · have hy:scope.names.lookup y=some .cell∨scope.names.lookup y=some .free:=hy;rcases hy with hy|hy
   · exact a7m hy
   · exact absurd rfl (S.nofree _ (PySem.mem_of_lookup hy))
 · exact Nat.le_of_lt (x.above y c (PySem.mem_of_lookup h))
 · have hi:i<↥vs:=by
    unfold a1s at h2
    by_cases hi:i<↥vs
    · exact hi
    · rw[au (by simpa using hi)] at h2;rw[bB] at h2;split at h2<;>cases h2
   have ha:vs[i]? =some v:=by
    unfold a1s at h2;rw[av (by simpa using hi),ak] at h2;cases e:vs[i]? with
    |none=>rw[e] at h2;cases h2
    |some a=>rw[e] at h2;cases h2;rfl
   obtain⟨u,hu,rv⟩:=r.get ha;have hp:ps[i]? =some y:=by rw[←S.pre,bA nofun];exact h1
   have ndP:ps.Nodup:=by rw[←S.pre];exact S.nd.sublist (List.take_sublist _ _)
   refine⟨u,rv,?_⟩;rcases S.par y (aH hp) with k|k
   · exact .inl ⟨k,a4Q ndP hp hu k⟩
   · obtain⟨c,e⟩:=a7m (n:=s.heap.objs.size+1) k;refine .inr ⟨.inl k,c,e,?_⟩;have q:=x.cell y c e;rw[a4S ndP hp hu (by show scope.names.lookup y≠_;rw[k];decide)] at q;exact q
 · exact e0.hok.fresh (Nat.le_of_lt (x.above y c (PySem.mem_of_lookup h)))
 · unfold a1s;show _=↥N;rw[aq,aa,bj];ac_nf
variable{de:Value}{pm:Value}{cL:Value}{ct:Value}{oc:Value}{an:Option Addr}{od:Option Addr}{eI:Array (Option Value)}
theorem c0S{k:Nat}{f:Addr}{name:Str}{params:Arguments}{dV kV:Value}
 (lk:K.lookup f=some ⟨oc,od,.func (fnOf name qual params body scope dV kV de pm an cL ct),eI⟩) (eZ:PySem.W.codeIn K cL qual=true) (S:FnScope N ps scope)
    (len:∀vs H Q E,sp vs H Q E->↥vs=↥ps)
    (hbody:∀(A:Around) (outer:List Env) (s:Shared) (H:Hp) (vs:List V) (Q:VK) (E:XK),Room k (A.deeper (envOfC qual scope s.heap.objs.size f cL))->sp vs H Q E→
      ∃t,PSs (a8j CX P w K mg base N qual scope f cL A outer s H E) body t/\t {nx:=λ_ H'=>Q .non H',rt:=Q} (a1s N vs) H):
    FnOk P w K mg base CX (k+1) f (fnOf name qual params body scope dV kV de pm an cL ct) ps sp:=by
  refine⟨len,λA outer s H args us vs Q E hr e0 hb r eX=>?_⟩;have hl:=len _ _ _ _ eX;have KX:K.In s.heap:=e0.mod.kin.keeps λb o e=>(e0.bs b o e).1;have lim:s.heap.NoLimit:=e0.mod.nolimit.keeps λb o e=>(e0.bs b o e).1;have hkind:∀y∈ps.zip us,scope.names.lookup y.1=some .local∨(scope.names.lookup y.1=some .cell/\((cellsFrom (s.heap.objs.size+1) scope.names []).lookup y.1).isSome=true):=λ⟨n,v⟩ hy=>by
    rcases S.par n (of_mem_zip hy).1 with q|q
    · exact .inl q
    · exact .inr ⟨q,PySem.W.cellsFrom_some _ _ _ (.inl q)⟩
  refine codeAny_call_function hr.depth (KX _ _ lk) rfl S.co S.gen rfl (PySem.W.codeRec_of KX eZ) (hb _ _ _ _ ?_);refine wpAny_newFunctionEnv_cells S.kind hkind λenv he s1 x=>?_;subst he;refine⟨lim.keeps x.toInCall.keep,codeAny_func ?_⟩;obtain⟨t,ht,hq⟩:=hbody A outer s H vs Q E (hr.deeper _) eX;have I:Inv (a8j CX P w K mg base N qual scope f cL A outer s H E) [] (a1s N vs) H s1:=b0f S hr.hd e0 hl r x;refine gv (ht [] s1 (a1s N vs) H _ I hq) (λfl s' hs=>?_) λe s' hs=>hs;have cJ:∀{bQ:St} {H':Hp} {v:V} {u:Value},Inv (a8j CX P w K mg base N qual scope f cL A outer s H E) [] bQ H' s'->k8 v u->Q v H'->CE outer P w H s Q u s':=
    fun{bQ H' v u} J rv q=>⟨v,H',J.os,J.bare,J.base,J.hok,rv,q⟩
  cases fl with
  | ret u=>
    obtain⟨v,bQ,H',J,rv,q⟩:=hs;exact cJ J rv q
  | next=>
    obtain⟨bQ,H',J,q⟩:=hs;exact cJ (v:=V.non) (u:=Value.none) J rfl q
  | brk=>
    obtain⟨_,_,_,q⟩:=hs;exact False.elim q
  | cont=>
    obtain⟨_,_,_,q⟩:=hs;exact False.elim q
section
variable{t:TA}{id T:String}{r:List V->Hp->VK->Prop}
def tCB(r:List V->Hp->VK->Prop)(t:TA):TE:=λσ H Q=>t σ H λvs H1=>r vs H1 Q
theorem Z9(hc:G5 X (.builtin id) r)(hg:Gl X x)(hm:X.mg x=none)(hv:bootBuiltins x=some (.builtin id))(ha:PA X (e::es) t)(hn:x≠"__name__":=by decide)(hdb:(x==("__debug__":Str))=false:=by decide)
 (he:starEach (e::es) X.env=(false,eval e X.env)::starEach es X.env:=by rfl) (hpl:(backTo pos (starEach es X.env)).any (·.1)=false:=by rfl):PE X (.Call (.Name x p) (e::es) [] pos) (tCB r t):=by
 intro bC s σ H Q I h;refine gV (a0g I hg hm hv ?_ hn hdb);exact PyProof.Rows.callWith_builtin1 (thn (ha pos bC s σ H _ I h) λus s1 ⟨vs,H1,I1,r1,q1⟩=>hc bC s1 σ H1 vs us Q I1 r1 q1) he hpl
theorem V9(hc:G5 X (.type T) r)(hg:Gl X x)(hm:X.mg x=none)(hv:bootBuiltins x=some (.type T))(ha:PA X (e::es) t)(hn:x≠"__name__":=by decide)(hdb:(x==("__debug__":Str))=false:=by decide)
 (he:starEach (e::es) X.env=(false,eval e X.env)::starEach es X.env:=by rfl) (hpl:(backTo pos (starEach es X.env)).any (·.1)=false:=by rfl):PE X (.Call (.Name x p) (e::es) [] pos) (tCB r t):=by
 intro bC s σ H Q I h;refine gV (a0g I hg hm hv ?_ hn hdb);exact fZ (thn (ha pos bC s σ H _ I h) λus s1 ⟨vs,H1,I1,r1,q1⟩=>hc bC s1 σ H1 vs us Q I1 r1 q1) he hpl
end
end L2
namespace HT
open PySem PyProof.Rows
variable{b:Addr}{items:Array Value}{Q:Value->Shared->Prop}{sl:Addr}{vl:Value}{vu:Value}{lo:Option Int}{hi:Option Int}
section
variable{prog:Program}{w:World}{A:Around}{E:Value->Shared->Prop}{s:Shared}
theorem b6l{t:Addr}{vs ws:List Value}(ht:IsTup s.heap t vs.toArray)(hb:IsTup s.heap b ws.toArray)(hv:vs≠[])
 (h1:ws=[]->Q (.ref t) s) (h2:ws≠[]->Q (.ref s.heap.objs.size) {s with heap:=s.heap.push {cls:=.type "tuple",data:=.seq (vs++ws).toArray}})
 (hsz:↥vs+↥ws<=sizeLine):wpAny (model prog w) A (binaryOp .Add (.ref t) (.ref b)) Q E s:=by
 obtain⟨⟨cls,dd,data,sl⟩,ho,hc,n,hd⟩:=id ht;obtain⟨⟨cls2,dd2,data2,sl2⟩,ho2,hc2,n2,hd2⟩:=id hb;simp only at hc hd hc2 hd2;subst hc hd hc2 hd2;have e:vs.toArray++ws.toArray=(vs++ws).toArray:=by simp
 by_cases hw:ws=[]
 · exact concat_meets ⟨_,ho,rfl⟩ ⟨_,ho2,rfl⟩ noFill_tuple_add seq_tuple_add slot_tuple_add entry_tuple_add (args_tuple_add_2 _ _)
    (tuple_addW1 t b vs.toArray ws.toArray n n2 dd dd2 sl sl2 (by simpa using hv) (by simp[hw])) ⟨ho,ho2,h1 hw⟩
 · refine concat_meets ⟨_,ho,rfl⟩ ⟨_,ho2,rfl⟩ noFill_tuple_add seq_tuple_add slot_tuple_add entry_tuple_add (args_tuple_add_2 _ _)
    (tuple_addW2 t b vs.toArray ws.toArray n n2 dd dd2 sl sl2 (by simpa using hv) (by simpa using hw) (by rw[size_toArray,size_toArray];exact hsz)) ⟨ho,ho2,?_⟩
   rw[e];exact h2 hw
def sIx(n d:Nat):Option Int->Nat
 |none=>d
 |some v=>if v<0 then(v+(n:Int)).toNat else min v.toNat n
theorem b1c(n d:Nat):sIx n d none=d:=rfl
theorem b4C(n d k:Nat):sIx n d (some (k:Int))=min k n:=by show(if(k:Int)<0 then((k:Int)+(n:Int)).toNat else min (k:Int).toNat n)=min k n;rw[az nofun,Int.toNat_natCast]
theorem b7l(n d:Nat)(hd:d<=n)(o:Option Int):sIx n d o<=n:=by
 cases o with
 |none=>exact hd
 |some v=>
  show(if v<0 then(v+(n:Int)).toNat else min v.toNat n)<=n
  by_cases hv:v<0
  · rw[ay hv];ac_nf
  · rw[az hv];exact Nat.min_le_right _ _
theorem a9o(v:Int)(n d:Nat):(if v<0 then max (v+(n:Int)) 0 else min v (n:Int))=((sIx n d (some v):Nat):Int):=by
 show(if v<0 then max (v+(n:Int)) 0 else min v (n:Int))=(((if v<0 then(v+(n:Int)).toNat else min v.toNat n):Nat):Int)
 by_cases hv:v<0
 · simp only[ay hv];ac_nf
 · simp only[az hv];ac_nf
theorem a8p(lo hi:Option Int)(n:Nat):sliceAdjust lo hi 1 (n:Int)=(((sIx n 0 lo:Nat):Int),((sIx n n hi:Nat):Int)):=by
 have h1:¬((1:Int)<0):=by ac_nf
 unfold sliceAdjust;simp only[h1,gw];refine Prod.ext ?_ ?_
 · cases lo with
   |none=>rfl
   |some v=>exact a9o v n 0
 · cases hi with
   |none=>rfl
   |some v=>exact a9o v n n
theorem a7E(i j:Nat):slicePlaces (i:Int) (j:Int) 1=j-i:=by
 unfold slicePlaces;have h1:(1:Int)>0:=by ac_nf
 simp only[h1,fV,Int.ediv_one];split<;>ac_nf
theorem a3m{v:Value}{o:Option Int}{Q:Option Int->Shared->Prop}(p:IsPart v o)(h:Q o s):wpAny (model prog w) A (Builtin.Slice.slicePartIndex v) Q E s:=by
 cases p with
 |none=>exact slicePart_none h
 |int i t=>exact slicePart_int h
theorem a1W{n:Nat}{Q:Int×Int×Nat->Shared->Prop}(hs:s.heap.IsSliceOf sl vl vu .none)(pl:IsPart vl lo)(pu:IsPart vu hi)
 (h:Q (((sIx n 0 lo:Nat):Int),1,sIx n n hi-sIx n 0 lo) s):wpAny (model prog w) A (sliceApplied (.ref sl) (pure (n:Int))) Q E s:=by
 obtain⟨os,hos,hcs,hds⟩:=id hs;unfold sliceApplied sliceFields;refine fv (fv (fQ hos hds (x:=vl) rfl (fv (fQ hos hds (x:=vu) rfl (fv (fQ hos hds (x:=.none) rfl (fG ?_)))))));refine fv (slicePart_none ?_);show wpAny _ _ (if((1:Int)==0)=true then _ else _) _ _ s;rw[az ∅];refine fv (a3m pl (fv (a3m pu (fv (fG ?_)))));show wpAny _ _ (match sliceAdjust lo hi 1 (n:Int) with|(lo,hi)=>pure (lo,(1:Int),slicePlaces lo hi 1)) _ _ s;rw[a8p lo hi n];show wpAny _ _ (pure (((sIx n 0 lo:Nat):Int),(1:Int),slicePlaces ((sIx n 0 lo:Nat):Int) ((sIx n n hi:Nat):Int) 1)) _ _ s;rw[a7E];exact fG h
theorem b1y(xs:Array Value)(i k:Nat):((List.range k).filterMap fun(m:Nat)=>xs[((i:Int)+(m:Int)*1).toNat]?).toArray=((xs.toList.drop i).take k).toArray:=by
 have e:(fun(m:Nat)=>xs[((i:Int)+(m:Int)*1).toNat]?)=λm=>xs[i+m]? :=by
  funext m
  have:((i:Int)+(m:Int)*1).toNat=i+m:=by ac_nf
  rw[this]
 rw[e];have:=pick_run xs i k;rw[List.filterMap_map] at this;have e2:((λx=>xs[x]?)∘λx=>i+x)=λm=>xs[i+m]? :=rfl;rw[e2] at this;rw[this]
theorem a1G{t:Addr}(ht:IsTup s.heap t items)(hs:s.heap.IsSliceOf sl vl vu .none)(pl:IsPart vl lo)(pu:IsPart vu hi)
 (hw:¬(sIx items.size 0 lo=0/\sIx items.size items.size hi=items.size))
 (h:Q (.ref s.heap.objs.size) {s with heap:=s.heap.push {cls:=.type "tuple",data:=.seq ((items.toList.drop (sIx items.size 0 lo)).take (sIx items.size items.size hi-sIx items.size 0 lo)).toArray}})
 (hsz:items.size<=sizeLine):wpAny (model prog w) A (getItem (.ref t) (.ref sl)) Q E s:=by
 have htake:sizeOk (.seq ((items.toList.drop (sIx items.size 0 lo)).take (sIx items.size items.size hi-sIx items.size 0 lo)).toArray):=by show((items.toList.drop (sIx items.size 0 lo)).take (sIx items.size items.size hi-sIx items.size 0 lo)).toArray.size<=sizeLine;rw[size_toArray,aM,bz,Array.length_toList];ac_nf
 have hj:sIx items.size items.size hi<=items.size:=b7l _ _ (aj _) hi;obtain⟨os,hos,hcs,hds⟩:=id hs;have hTs:s.TypeIs (.ref sl) "slice":=⟨os,hos,hcs⟩;unfold getItem
 try with_reducible refine gq ?_
 first|refine fv (fG ?_)|skip
 refine fv (wpAny_sequenceKey ht.typeIs ∅ ?_);refine fv (gh (name:=Str.ofString "__getitem__") ht.typeIs PyProof.Rows.slot_tuple_getitem
  (wpAny_call_entry PyProof.Rows.slot_tuple_getitem ht.typeIs entry_tuple_getitem ?_ (args_tuple_getitem _ _)))
 show wpAny _ _ (Builtin.Tuple.tupleItemsOf (.ref t)>>=_) _ _ s;refine fv (tupleItemsOf_ ht ?_);refine fv (wpAny_typeOf hTs ?_);rw[ay ∅];refine fv (a1W hs pl pu ?_);have hno:¬((((sIx items.size 0 lo:Nat):Int)==0&&(1:Int)==1&&(sIx items.size items.size hi-sIx items.size 0 lo)==items.size)=true):=by intro q;rw[ae,ae] at q;have q1:((sIx items.size 0 lo:Nat):Int)=0:=eq_of_beq q.1.1;have q2:sIx items.size items.size hi-sIx items.size 0 lo=items.size:=eq_of_beq q.2;exact hw ⟨by ac_nf,by ac_nf⟩
 show wpAny _ _ (if(((sIx items.size 0 lo:Nat):Int)==0&&(1:Int)==1&&(sIx items.size items.size hi-sIx items.size 0 lo)==items.size)=true then _ else _) _ _ s;rw[az hno,b1y]
 first
  |exact fv (m:=Builtin.Tuple.tupleExact _) (gM (fG ⟨_,rfl,fG h⟩) htake)
  |exact fv (m:=Builtin.Tuple.tupleExact _) (gM (fv (fG (fG ⟨_,rfl,fG h⟩))) htake)
  |exact fv (fv (m:=Builtin.Tuple.tupleExact _) (gM (fG (fG ⟨_,rfl,fG h⟩)) htake))
  |exact fv (fv (m:=Builtin.Tuple.tupleExact _) (gM (fG ⟨_,rfl,fG h⟩) htake))
end
end HT
namespace L2
open PySem PySem.Spec PyProof.Rows
abbrev TO:=St->Hp->(Option Int->Hp->Prop)->Prop
def PO(X:Cx)(e:Option Expr)(t:TO):Prop:=
 ∀(bC:List (Addr×Obj)) (s:Shared) (σ:St) (H:Hp) (Q:Option Int->Hp->Prop),Inv X bC σ H s->t σ H Q→
  wpAny (model X.prog X.w) X.A (evalPart e X.env) (λu s'=>∃o H',Inv X bC σ H' s'/\IsPart u o/\Q o H') X.xe s
def b4m:TO:=λ_ H Q=>Q none H
def b9F(t:TE):TO:=λσ H Q=>t σ H λx H1=>∃i,x=.int i/\Q (some i) H1
variable{ns:List Int}
theorem a7T:∀{us:List Value},p7 (ns.map V.int) us->IntsAre us ns:=by
 induction ns with
 |nil=>intro us r;rw[map_nil] at r;cases r;exact .nil
 | cons n ns ih=>
  intro us r;rw[map_cons] at r;cases r with
  |cons r1 r2=>
   obtain⟨t,e⟩:=r1;subst e;exact .cons n t (ih r2)
variable{r:V->Option Int->Option Int->Hp->VK->Prop}{us:List Value}
section
variable{X:Cx}{e:Expr}{te:TE}{lo hi:Option Expr}{tl th:TO}{pos p2:Pos}
theorem b4N:PO X none b4m:=by intro bC s σ H Q I h;rw[evalPart_none];exact fG ⟨none,H,I,.none,h⟩
theorem b4M(h:PE X e te):PO X (some e) (b9F te):=by intro bC s σ H Q I hw;rw[evalPart_some];refine thn (h bC s σ H _ I hw) λu s1 zz=>?_;obtain⟨x,H1,I1,r1,q1⟩:=zz;obtain⟨i,rfl,q⟩:=q1;obtain⟨t,rfl⟩:=r1;exact⟨some i,H1,I1,.int i t,q⟩
def SlR(X:Cx)(r:V->Option Int->Option Int->Hp->VK->Prop):Prop:=
 ∀(bC:List (Addr×Obj)) (s:Shared) (σ:St) (H:Hp) (x:V) (v vl vu:Value) (lo hi:Option Int) (sl:Addr) (Q:VK),Inv X bC σ H s->k8 x v->s.heap.IsSliceOf sl vl vu .none->IsPart vl lo->IsPart vu hi->r x lo hi H Q→
  ∃T id,typeLookup (.type T) "__getitem__"=pure (some (.builtin id))/\s.TypeIs v T/\wpAny (model X.prog X.w) X.A (getItem v (.ref sl)) (EP X bC σ Q) X.xe s
def tSl(r:V->Option Int->Option Int->Hp->VK->Prop)(te:TE)(tl th:TO):TE:=λσ H Q=>te σ H λx H1=>tl σ H1 λl H2=>th σ H2 λu H3=>r x l u H3 Q
theorem b1B(hr:SlR X r)(he:PE X e te)(hl:PO X lo tl)(hu:PO X hi th):PE X (.Subscript e (.Slice lo hi none p2) pos) (tSl r te tl th):=by intro bC s σ H Q I h;refine Subscript_ (thn (he bC s σ H _ I h) λv s1 zz=>?_);obtain⟨x,H1,I1,r1,q1⟩:=zz;refine wpAny_Slice (thn (hl bC s1 σ H1 _ I1 q1) λvl s2 ⟨l,H2,I2,pl,q2⟩=>thn (hu bC s2 σ H2 _ I2 q2) λvu s3 zz=>?_);obtain⟨u,H3,I3,pu,q3⟩:=zz;rw[evalPart_none];refine fG ?_;have I4:Inv X bC σ H3 {s3 with heap:=s3.heap.push {cls:=.type "slice",data:=.fields #[vl,vu,.none]}}:=I3.kept (t':=s3.toks) λb ob q=>fF _ q;obtain⟨T,id,hT,ht,hg⟩:=hr bC {s3 with heap:=s3.heap.push {cls:=.type "slice",data:=.fields #[vl,vu,.none]}} σ H3 x v vl vu l u s3.heap.objs.size Q I4 r1 (Heap.IsSliceOf.new ..) pl pu q3;show wpAny (model X.prog X.w) X.A (subscriptTail e (.Slice lo hi none p2) v (.ref s3.heap.objs.size)) (EP X bC σ Q) X.xe {s3 with heap:=s3.heap.push {cls:=.type "slice",data:=.fields #[vl,vu,.none]}};exact tail_any (ops:=[.ref s3.heap.objs.size,v]) ht hT hg (by with_unfolding_all rfl)
noncomputable def a7g(xs:List V)(lo hi:Option Int):List V:=(xs.drop (HT.sIx ↥xs 0 lo)).take (HT.sIx ↥xs ↥xs hi-HT.sIx ↥xs 0 lo)
theorem a2E(xs:List V)(lo hi:Option Int):↥(a7g xs lo hi)<=↥xs:=by unfold a7g;rw[aM,bz];ac_nf
def c2t(K:Frag):V->Option Int->Option Int->Hp->VK->Prop:=λx lo hi H Q=>∃a xs,x=.ref a/\SqT K H a xs∧
 ¬(HT.sIx ↥xs 0 lo=0/\HT.sIx ↥xs ↥xs hi=↥xs)/\∀p,H p=none->Q (.ref p) (upd H p (.tup (a7g xs lo hi)))
theorem b7h:SlR X (c2t X.K):=by
 intro bC s σ H x v vl vu lo hi sl Q I rx hs pl pu h;obtain⟨a,xs,rfl,hx,hw,q⟩:=h;cases rx;obtain⟨bF,r,ht,hz⟩:=I.tuple hx;have bR:bF.toArray.size=↥xs:=by rw[size_toArray];exact r.length.symm
 refine⟨"tuple",_,PyProof.Rows.slot_tuple_getitem.lookup,ht.typeIs,?_⟩;refine HT.a1G ht hs pl pu (by rw[bR];exact hw) ?_ (by rw[bR];exact hz);rw[bR];refine⟨.ref s.heap.objs.size,_,I.laid (t':=s.toks) (o:=.tup (a7g xs lo hi)) (λb ob q=>fF _ q) (aj _) ?_,rfl,q _ (I.hok.fresh (aj _))⟩;exact⟨aR (a2E xs lo hi) hz,_,(r.drop (HT.sIx ↥xs 0 lo)).take (HT.sIx ↥xs ↥xs hi-HT.sIx ↥xs 0 lo),a0B.new _ _⟩
noncomputable def c0d(K:Frag):R2:=λx y H Q=>∃a b xs ys,x=.ref a/\y=.ref b/\SqT K H a xs/\SqT K H b ys/\xs≠[]/\↥xs+↥ys<=sizeLine∧
 (ys=[]->Q (.ref a) H)/\(ys≠[]->∀p,H p=none->Q (.ref p) (upd H p (.tup (xs++ys))))
theorem p7.nil_iff{xs:List V}(r:p7 xs us):us=[]↔xs=[]:=by
 cases r with
 |nil=>simp
 |cons _ _=>simp
theorem b5d:OpR X (binaryOp .Add) (c0d X.K):=by intro bC s σ H x y v u Q I rx ry h;obtain⟨a,b,xs,ys,rfl,rfl,ha,hb,hx,hz,q1,q2⟩:=h;cases rx;cases ry;obtain⟨bF,r1,p1,_⟩:=I.tuple ha;obtain⟨bU,r2,p2,_⟩:=I.tuple hb;refine HT.b6l p1 p2 (λz=>hx (r1.nil_iff.mp z)) (λz=>⟨.ref a,H,I,rfl,q1 (r2.nil_iff.mp z)⟩) (λz=>?_) (by rw[←r1.length,←r2.length];exact hz);refine⟨.ref s.heap.objs.size,_,I.laid (t':=s.toks) (o:=.tup (xs++ys)) (λb ob q=>fF _ q) (aj _) ?_,rfl,q2 (λw=>z (r2.nil_iff.mpr w)) _ (I.hok.fresh (aj _))⟩;exact⟨by rw[aq];exact hz,_,r1.append r2,a0B.new _ _⟩
end
noncomputable def ixN(n:Nat)(i:Int):Option Nat:=if 0<=i then(if i<n then some i.toNat else none) else if-(n:Int)<=i then some (i+n).toNat else none
def atI{α:Type}(xs:List α)(i:Int):Option α:=(ixN ↥xs i).bind λj=>xs[j]?
variable{n:Nat}{j:Nat}
theorem a8T{i:Int}(h:ixN n i=some j):seqIndex? i n=some j/\j<n/\ -(n:Int)<=i/\i<n:=by
 unfold ixN at h
 by_cases h0:0<=i
 · rw[ay h0] at h
   by_cases h1:i<n
   · rw[ay h1] at h;have e:i.toNat=j:=ax h;exact⟨by rw[seqIndex_of h0 h1,e],by ac_nf,by ac_nf,h1⟩
   · rw[az h1] at h;cases h
 · rw[az h0] at h
   by_cases h1: -(n:Int)<=i
   · rw[ay h1] at h;have e:(i+n).toNat=j:=ax h;exact⟨by rw[seqIndex_neg nofun h1,e],by ac_nf,h1,by ac_nf⟩
   · rw[az h1] at h;cases h
variable{α:Type}
theorem a5V{xs:List α}{i:Int}{v:α}(h:atI xs i=some v):∃j,seqIndex? i ↥xs=some j/\xs[j]? =some v/\j<↥xs/\ -(↥xs:Int)<=i/\i<↥xs:=by
 unfold atI at h;cases e:ixN ↥xs i with
 |none=>rw[e] at h;cases h
 |some j=>
  rw[e] at h;obtain⟨h1,h2,h3,h4⟩:=a8T e;exact⟨j,h1,h,h2,h3,h4⟩
def a3a(b:Expr):Prop:=∀o i,subscripted b false o i=operate [o,i] (getItem o i)
def IxR(X:Cx)(r:R2):Prop:=
 ∀(value slice:Expr) (bC:List (Addr×Obj)) (s:Shared) (σ:St) (H:Hp) (x y:V) (v u:Value) (Q:VK),Inv X bC σ H s->k8 x v->k8 y u->r x y H Q→
  subscripted slice false v u=operate [v,u] (getItem v u)->wpAny (model X.prog X.w) X.A (subscriptTail value slice v u) (EP X bC σ Q) X.xe s
def MtR(X:Cx)(id:String)(r:V->List V->Hp->VK->Prop):Prop:=
 ∀(bC:List (Addr×Obj)) (s:Shared) (σ:St) (H:Hp) (x:V) (xs:List V) (v:Value) (us:List Value) (Q:VK),Inv X bC σ H s->k8 x v->p7 xs us->r x xs H Q→
  wpAny (model X.prog X.w) X.A (call (.builtin id) (v::us)) (EP X bC σ Q) X.xe s
variable{id:String}{bC:List (Addr×Obj)}{σ:St}{H:Hp}{bF:List Value}{its':List Value}{A:Around}{y:V}{u:Value}
section
variable{X:Cx}{a b:Expr}{ta tb:TE}{pos:Pos}
theorem b6A{r:R2}(hr:IxR X r)(ha:PE X a ta)(hb:PE X b tb)(hs:a3a b):PE X (.Subscript a b pos) (tOp r ta tb):=by intro bC s σ H Q I h;exact Subscript_ (b8Y ha hb I h λv u s2 x y H2 I2 rx ry q=>hr a b bC s2 σ H2 x y v u Q I2 rx ry q (hs _ _))
def c2y(K:Frag):R2:=λx y H Q=>∃p xs i v,x=.ref p/\y=.int i/\SqL K H p xs/\atI xs i=some v/\Q v H
def c2w(K:Frag):R2:=λx y H Q=>∃p xs i v,x=.ref p/\y=.int i/\SqT K H p xs/\atI xs i=some v/\Q v H
noncomputable def c2x:R2:=λx y H Q=>∃z i c,x=.str z/\y=.int i/\↥z<=sizeLine/\atI z.cps.toList i=some c/\Q (.str ⟨#[c]⟩) H
theorem a8S:IxR X (c2y X.K):=by
 intro value slice bC s σ H x y v u Q I rx ry h hs;obtain⟨p,xs,i,z,rfl,rfl,hq,he,q⟩:=h;cases rx;obtain⟨t,rfl⟩:=ry;obtain⟨bF,r,pl,hz⟩:=I.list hq;obtain⟨j,h1,h2,h3,h4,h5⟩:=a5V he;obtain⟨w,ew,dn⟩:=r.get h2;have hl:=↥r;have hn:=a1a;have cJ:EP X bC σ Q w s:=⟨z,H,I,dn,q⟩
 by_cases h0:0<=i
 · have hj:i.toNat=j:=by rw[seqIndex_of h0 h5] at h1;exact ax h1
   exact item_listR pl.isList h0 nofun (by rw[hj];simpa using ew) cJ hs
 · have hj:(i+(bF.toArray.size:Int)).toNat=j:=by rw[seqIndex_neg nofun h4] at h1;rw[size_toArray,←hl];exact ax h1
   exact subscriptTail_builtinR (x:=w) pl.isList.typeIs slot_list_getitem.lookup
    (wpAny_getItem_list_neg (Q:=λr s'=>r=w/\EP X bC σ Q r s') pl.isList nofun (by rw[size_toArray]<;>ac_nf) nofun (by rw[hj];simpa using ew) ⟨rfl,cJ⟩) hs
theorem ix_tup:IxR X (c2w X.K):=by
 intro value slice bC s σ H x y v u Q I rx ry h hs;obtain⟨p,xs,i,z,rfl,rfl,hq,he,q⟩:=h;cases rx;obtain⟨t,rfl⟩:=ry;obtain⟨bF,r,pl,hz⟩:=I.tuple hq;obtain⟨j,h1,h2,h3,h4,h5⟩:=a5V he;obtain⟨w,ew,dn⟩:=r.get h2;have hl:=↥r;have hn:=a1a;have cJ:EP X bC σ Q w s:=⟨z,H,I,dn,q⟩;exact subscriptTail_builtinR (x:=w) pl.typeIs slot_tuple_getitem.lookup
  (getItem_tuple (j:=j) (Q:=λr s'=>r=w/\EP X bC σ Q r s') pl nofun nofun (by rw[size_toArray,←hl];exact h1) (by simpa using ew) ⟨rfl,cJ⟩) hs
theorem ix_str:IxR X c2x:=by
 intro value slice bC s σ H x y v u Q I rx ry h hs;obtain⟨z,i,c,rfl,rfl,hz,he,q⟩:=h;obtain⟨t,rfl⟩:=rx;obtain⟨t',rfl⟩:=ry;obtain⟨j,h1,h2,h3,h4,h5⟩:=a5V he;have hl:↥z.cps.toList=↥z:=by simp[Str.length]
 rw[hl] at h1 h4 h5;have hn:=a1a;exact tail_any (typeIs_str s z t) slot_str_getitem.lookup (getItem_str (c:=c) (by have e1:decide (i< -(2^63:Int))=false:=bx nofun;have e2:decide (i≥2^63)=false:=bx nofun;rw[e1,e2,Bool.or_false]) (by rw[h1];simpa using h2) ⟨.str ⟨#[c]⟩,H,I.tok _,⟨_,rfl⟩,q⟩) hs
theorem a7K(bF:List Value)(n j:Nat)(u:Value):Obj.mapSeq (·.setIfInBounds j u) {cls:=.type "list",data:=.seq bF.toArray n}={cls:=.type "list",data:=.seq (bF.set j u).toArray n}:=by simp[Obj.mapSeq]
theorem Inv.lst{bC:List (Addr×Obj)}{σ:St}{H:Hp}{s:Shared}{p:Addr}{xs:List V}(I:Inv X bC σ H s)(h:H p=some (.lst xs)):
 ∃(bF:List Value) (n:Nat),p7 xs bF/\s.heap.get? p=some {cls:=.type "list",data:=.seq bF.toArray n}/\↥xs<=sizeLine:=by
 obtain⟨z,bF,n,r,e⟩:=I.hok p _ h;exact⟨bF,n,r,e,z⟩
theorem Inv.lstUpd{s:Shared}{p:Addr}{xs ys:List V}{n':Nat}{f:Obj->Obj}(I:Inv X bC σ H s)(h:H p=some (.lst xs))
 (ho:s.heap.get? p=some {cls:=.type "list",data:=.seq bF.toArray n}) (hf:f {cls:=.type "list",data:=.seq bF.toArray n}={cls:=.type "list",data:=.seq its'.toArray n'}) (r:p7 ys its') (hz:↥ys<=sizeLine) (t:Nat):
 Inv X bC σ (upd H p (.lst ys)) {s with heap:=s.heap.update p f,toks:=t}:=by
 have e:(s.heap.update p f).get? p=some {cls:=.type "list",data:=.seq its'.toArray n'}:=by rw[gO f ho (by rw[hf]<;>rfl),hf]
 refine I.write (x:=p) (e:=p) (by rw[h];trivial) (.inl rfl) (λb u hb q=>(Heap.get?_update_other _ _ (fR hb)).trans q) ⟨_,e⟩ ?_;exact⟨hz,its',n',r,e⟩
def c0a:V->V->V->Hp->(Hp->Prop)->Prop:=λo i v H Q=>∃p xs k j,o=.ref p/\i=.int k/\H p=some (.lst xs)/\ixN ↥xs k=some j/\Q (upd H p (.lst (xs.set j v)))
theorem b0Z:b9v X c0a:=by
 intro bC s σ H o i v ov iv u Q I ro ri rv h;obtain⟨p,xs,k,j,rfl,rfl,hp,hj,q⟩:=h;cases ro;obtain⟨t,rfl⟩:=ri;obtain⟨bF,n,r,ho,hz⟩:=I.lst hp;obtain⟨h1,h2,h3,h4⟩:=a8T hj;have hl:=↥r;have hn:=a1a;have I':Inv X bC σ (upd H p (.lst (xs.set j v))) {s with heap:=s.heap.update p (Obj.mapSeq (·.setIfInBounds j u))}:=
  I.lstUpd hp ho (a7K bF n j u) (r.set rv j) (by rw[List.length_set];exact hz) s.toks
 by_cases h0:0<=k
 · have hk:k.toNat=j:=by rw[seqIndex_of h0 h4] at h1;exact ax h1
   exact PySem.W.ki_setAt ho h0 nofun (by rw[size_toArray,←hl];exact h4) (by rw[hk];exact⟨_,I',q⟩)
 · have hk:(k+(bF.toArray.size:Int)).toNat=j:=by rw[seqIndex_neg nofun h3] at h1;rw[size_toArray,←hl];exact ax h1
   exact PySem.W.ki_setBack ho nofun (by rw[size_toArray,←hl];exact h3) nofun (by rw[hk];exact⟨_,I',q⟩)
theorem a5c(lo hi:Option Int)(n:Nat):(sliceBounds lo hi none n).1=((HT.sIx n 0 lo:Nat):Int)/\(sliceBounds lo hi none n).2.1=((HT.sIx n n hi:Nat):Int)/\(sliceBounds lo hi none n).2.2=1:=by
 refine⟨?_,?_,rfl⟩
 · cases lo with
   |none=>simp[sliceBounds,HT.sIx]
   |some i=>
    simp only[sliceBounds,HT.sIx,Option.getD_none,show(1:Int)>0 by decide,fV]
    by_cases h:i<0
    · simp only[h,fV]<;>ac_nf
    · simp only[h,gw]<;>ac_nf
 · cases hi with
   |none=>simp[sliceBounds,HT.sIx]
   |some i=>
    simp only[sliceBounds,HT.sIx,Option.getD_none,show(1:Int)>0 by decide,fV]
    by_cases h:i<0
    · simp only[h,fV]<;>ac_nf
    · simp only[h,gw]<;>ac_nf
theorem a4f(bF:List Value)(lo hi:Option Int):slicePick bF.toArray lo hi none=((bF.drop (HT.sIx ↥bF 0 lo)).take (HT.sIx ↥bF ↥bF hi-HT.sIx ↥bF 0 lo)).toArray:=by obtain⟨h1,h2,h3⟩:=a5c lo hi bF.toArray.size;unfold slicePick;rw[h1,h2,h3];simp only[sliceRange_one,pick_run,size_toArray]<;>rfl
def c2v(K:Frag):V->Option Int->Option Int->Hp->VK->Prop:=λx lo hi H Q=>∃a xs,x=.ref a/\SqL K H a xs/\∀p,H p=none->Q (.ref p) (upd H p (.lst (a7g xs lo hi)))
theorem b4s:SlR X (c2v X.K):=by intro bC s σ H x v vl vu lo hi sl Q I rx hs pl pu h;obtain⟨a,xs,rfl,hx,q⟩:=h;cases rx;obtain⟨bF,r,ht,hz⟩:=I.list hx;have bR:=↥r;refine⟨"list",_,slot_list_getitem.lookup,ht.isList.typeIs,?_⟩;refine wpAny_getItem_list_slice ht.isList hs pl pu .none ⋯ ?_ (by rw[size_toArray]<;>ac_nf);rw[a4f,←bR];refine⟨.ref s.heap.objs.size,_,I.laid (t':=s.toks) (o:=.lst (a7g xs lo hi)) (λb ob q=>fF _ q) (aj _) ?_,rfl,q _ (I.hok.fresh (aj _))⟩;exact⟨aR (a2E xs lo hi) hz,_,0,(r.drop (HT.sIx ↥xs 0 lo)).take (HT.sIx ↥xs ↥xs hi-HT.sIx ↥xs 0 lo),fI _ rfl⟩
def a0Q:V->Bool
 |.non=>true
 |.bl _=>true
 |.int _=>true
 |.str _=>true
 |_=>false
noncomputable def eqV:V->V->Bool
 |.non,.non=>true
 |.bl a,.bl b=>a==b
 |.bl a,.int b=>(if a then 1 else 0)==b
 |.int a,.bl b=>a==(if b then 1 else 0)
 |.int a,.int b=>a==b
 |.str a,.str b=>a==b
 |_,_=>false
theorem b3u{s:Shared}{x:V}{v:Value}(ry:k8 y u)(rx:k8 x v)(fy:a0Q y=true)(fx:a0Q x=true):SeqAt.EqAt A s u v (eqV y x):=by
 cases y with
 |non=>
  cases ry;cases x with
  |non=>cases rx;exact SeqAt.EqAt.same _
  |bl b=>cases rx;exact SeqAt.EqAt.none_bool b
  |int b=>obtain⟨t,rfl⟩:=rx;exact SeqAt.EqAt.none_int b t
  |str b=>obtain⟨t,rfl⟩:=rx;exact SeqAt.EqAt.none_str b t
  |_=>exact absurd (show false=true from fx) bq
 |bl a=>
  cases ry;cases x with
  |non=>cases rx;exact SeqAt.EqAt.bool_none a
  |bl b=>cases rx;exact SeqAt.EqAt.bool_bool a b
  |int b=>obtain⟨t,rfl⟩:=rx;exact SeqAt.EqAt.bool_int a b t
  |str b=>obtain⟨t,rfl⟩:=rx;exact SeqAt.EqAt.bool_str a b t
  |_=>exact absurd (show false=true from fx) bq
 |int a=>
  obtain⟨t',rfl⟩:=ry;cases x with
  |non=>cases rx;exact SeqAt.EqAt.int_none a t'
  |bl b=>cases rx;exact SeqAt.EqAt.int_bool a t' b
  |int b=>obtain⟨t,rfl⟩:=rx;exact SeqAt.EqAt.int_int a t' b t
  |str b=>obtain⟨t,rfl⟩:=rx;exact SeqAt.EqAt.int_str a t' b t
  |_=>exact absurd (show false=true from fx) bq
 |str a=>
  obtain⟨t',rfl⟩:=ry;cases x with
  |non=>cases rx;exact SeqAt.EqAt.str_none a t'
  |bl b=>cases rx;exact SeqAt.EqAt.str_bool a t' b
  |int b=>obtain⟨t,rfl⟩:=rx;exact SeqAt.EqAt.str_int a t' b t
  |str b=>obtain⟨t,rfl⟩:=rx;exact SeqAt.EqAt.str_str a t' b t
  |_=>exact absurd (show false=true from fx) bq
 |_=>exact absurd (show false=true from fy) bq
def eqU(x:V)(u:Value):Bool:=match u with
 |.none=>eqV .non x
 |.bool b=>eqV (.bl b) x
 |.int i _=>eqV (.int i) x
 |.str z _=>eqV (.str z) x
 |_=>false
theorem b3q{x:V}(r:k8 y u)(f:a0Q y=true):eqU x u=eqV y x:=by
 cases y with
 |non=>cases r;rfl
 |bl b=>cases r;rfl
 |int i=>obtain⟨t,rfl⟩:=r;rfl
 |str z=>obtain⟨t,rfl⟩:=r;rfl
 |_=>exact absurd (show false=true from f) bq
theorem a1Q{x:V}:∀{xs:List V} {us:List Value},p7 xs us->xs.all a0Q=true->us.any (eqU x)=xs.any λy=>eqV y x
 |_,_,.nil,_=>rfl
 |y::xs,u::us,.cons r t,f=>by rw[all_cons,ae] at f;rw[any_cons,any_cons,b3q r f.1,a1Q t f.2]
theorem a0d{A:Around}{s:Shared}{x:V}{v:Value}(rx:k8 x v)(fx:a0Q x=true):∀{xs:List V} {us:List Value},p7 xs us->xs.all a0Q=true->∀u∈us,SeqAt.EqAt A s u v (eqU x u)
 |_,_,.nil,_=>λu hu=>by cases hu
 |y::xs,u::us,.cons r t,f=>λu' hu=>by
  rw[all_cons,ae] at f;rcases aF.mp hu with rfl|hu
  · rw[b3q r f.1];exact b3u r rx f.1 fx
  · exact a0d rx fx t f.2 u' hu
def inV(x:V)(xs:List V):Bool:=xs.any λy=>eqV y x
def rIn(K:Frag)(neg:Bool):R2:=λx y H Q=>∃p xs,y=.ref p/\(SqL K H p xs∨SqT K H p xs)/\a0Q x=true/\xs.all a0Q=true/\Q (.bl (if neg then !inV x xs else inV x xs)) H
theorem a0F:OpR X (compareOp .In) (rIn X.K false):=by
 intro bC s σ H x y v u Q I rx ry h;obtain⟨p,xs,rfl,hq,fx,fs,q⟩:=h;cases ry;rcases hq with hq|hq
 · obtain⟨bF,r,pl,hz⟩:=I.list hq;refine SeqAt.in_listAt (eqU x) pl.isList (λw hw=>a0d rx fx r fs w (by simpa using hw)) ⟨.bl _,H,I,rfl,?_⟩;rw[show bF.toArray.any (eqU x)=bF.any (eqU x) by simp,a1Q r fs];exact q
 · obtain⟨bF,r,pl,hz⟩:=I.tuple hq;refine SeqAt.in_tupleAt (eqU x) pl (λw hw=>a0d rx fx r fs w (by simpa using hw)) ⟨.bl _,H,I,rfl,?_⟩;rw[show bF.toArray.any (eqU x)=bF.any (eqU x) by simp,a1Q r fs];exact q
theorem Q8:OpR X (compareOp .NotIn) (rIn X.K true):=by
 intro bC s σ H x y v u Q I rx ry h;obtain⟨p,xs,rfl,hq,fx,fs,q⟩:=h;cases ry;rcases hq with hq|hq
 · obtain⟨bF,r,pl,hz⟩:=I.list hq;refine SeqAt.notIn_listAt (eqU x) pl.isList (λw hw=>a0d rx fx r fs w (by simpa using hw)) ⟨.bl _,H,I,rfl,?_⟩;rw[show bF.toArray.any (eqU x)=bF.any (eqU x) by simp,a1Q r fs];exact q
 · obtain⟨bF,r,pl,hz⟩:=I.tuple hq;refine SeqAt.notIn_tupleAt (eqU x) pl (λw hw=>a0d rx fx r fs w (by simpa using hw)) ⟨.bl _,H,I,rfl,?_⟩;rw[show bF.toArray.any (eqU x)=bF.any (eqU x) by simp,a1Q r fs];exact q
theorem a5m:OpR X (compareOp .NotIn) (λx y H Q=>∃i j,x=.str i/\y=.str j/\Q (.bl (!(!(occurrences j i 0 ↥j 1).isEmpty))) H):=by intro bC s σ H x y v u Q I rx ry h;obtain⟨i,j,rfl,rfl,q⟩:=h;obtain⟨t,rfl⟩:=rx;obtain⟨t',rfl⟩:=ry;exact notIn_str ⟨.bl _,H,I,rfl,q⟩
theorem a1P:G5 X (.builtin "len") (λxs H Q=>∃p ys,xs=[.ref p]/\(SqL X.K H p ys∨SqT X.K H p ys)/\Q (.int ↥ys) H):=by
 intro bC s σ H xs us Q I r h;obtain⟨p,ys,rfl,hq,q⟩:=h;obtain⟨u,rfl,rx⟩:=T7 r;cases rx;have hn:=a1a;rcases hq with hq|hq
 · obtain⟨bF,r',pl,hz⟩:=I.list hq;have bR:=↥r';exact Calls.call_len_list pl.isList (by simp only[size_toArray]<;>ac_nf) ⟨.int ↥ys,H,I.tok _,⟨s.toks+1,by rw[size_toArray,bR]⟩,q⟩
 · obtain⟨bF,r',pl,hz⟩:=I.tuple hq;have bR:=↥r';exact len_tuple pl (by simp only[size_toArray]<;>ac_nf) ⟨.int ↥ys,H,I.tok _,⟨s.toks+1,by rw[size_toArray,bR]⟩,q⟩
theorem a5S:G5 X (.builtin "len") (λxs H Q=>∃z,xs=[.str z]/\↥z<=sizeLine/\Q (.int ↥z) H):=by intro bC s σ H xs us Q I r h;obtain⟨z,rfl,hz,q⟩:=h;obtain⟨u,rfl,t,rfl⟩:=T7 r;have hn:=a1a;exact len_str nofun ⟨.int ↥z,H,I.tok _,⟨_,rfl⟩,q⟩
theorem a1O:G5 X (.type "list") (λxs H Q=>∃p ys,xs=[.ref p]/\(SqL X.K H p ys∨SqT X.K H p ys)/\∀l,H l=none->Q (.ref l) (upd H l (.lst ys))):=by
 intro bC s σ H xs us Q I r h;obtain⟨p,ys,rfl,hq,q⟩:=h;obtain⟨u,rfl,rx⟩:=T7 r;cases rx;have cJ:∀(bF:List Value),p7 ys bF->↥ys<=sizeLine->∀(h':Heap) (c':Nat),(∀b o',s.heap.get? b=some o'->h'.get? b=some o')→
  h'.get? s.heap.objs.size=some {cls:=.type "list",dict:=none,data:=.seq bF.toArray c',slots:= #[]}->EP X bC σ Q (.ref s.heap.objs.size) {s with heap:=h'}:=λbF r' hz h' c' kp e=>
  ⟨.ref s.heap.objs.size,_,I.laid (t':=s.toks) kp (aj _) (show J4 X.prog X.w _ h' _ (.lst ys) from⟨hz,bF,c',r',e⟩),rfl,q _ (I.hok.fresh (aj _))⟩
 rcases hq with hq|hq
 · obtain⟨bF,r',pl,hz⟩:=I.list hq;have bR:=↥r';obtain⟨o,ho,hc,n,hd⟩:=pl.isList;exact call_list_seq p (.inl rfl) ho hc hd (λh' c' kp e=>cJ bF r' hz h' c' kp e) (by simp only[size_toArray]<;>ac_nf)
 · obtain⟨bF,r',pl,hz⟩:=I.tuple hq;have bR:=↥r';obtain⟨o,ho,hc,n,hd⟩:=pl;exact call_list_seq p (.inr rfl) ho hc hd (λh' c' kp e=>cJ bF r' hz h' c' kp e) (by simp only[size_toArray]<;>ac_nf)
theorem a0T:G5 X (.type "tuple") (λxs H Q=>∃p ys,xs=[.ref p]/\((SqL X.K H p ys/\∀l,H l=none->Q (.ref l) (upd H l (.tup ys)))∨(SqT X.K H p ys/\Q (.ref p) H))):=by
 intro bC s σ H xs us Q I r h;obtain⟨p,ys,rfl,h⟩:=h;obtain⟨u,rfl,rx⟩:=T7 r;cases rx;rcases h with⟨hq,q⟩|⟨hq,q⟩
 · obtain⟨bF,r',pl,hz⟩:=I.list hq;have bR:=↥r';refine call_tuple_list pl.isList (λh' kp=>?_) (by simp only[size_toArray]<;>ac_nf);have I1:Inv X bC σ H {s with heap:=h'}:=I.kept (t':=s.toks) kp;have I2:Inv X bC σ (upd H h'.objs.size (.tup ys)) {s with heap:=h'.push {cls:=.type "tuple",data:=.seq bF.toArray}}:=
    I1.laid (t':=s.toks) (λb o e=>fF _ e) (aj _) (show J4 X.prog X.w _ _ _ (.tup ys) from⟨hz,bF,r',a0B.new _ _⟩)
   exact⟨.ref h'.objs.size,_,I2,rfl,q _ (I1.hok.fresh (aj _))⟩
 · obtain⟨bF,r',pl,hz⟩:=I.tuple hq;exact call_tuple_same pl ⟨.ref p,H,I,rfl,q⟩
def tyV(K:Frag)(T:String)(x:V)(H:Hp):Prop:=match x with
 |.str _=>T="str"
 |.int _=>T="int"
 |.ref p=>(T="list"/\∃xs,SqL K H p xs)∨(T="tuple"/\∃o,K.lookup p=some o/\o.cls=.type "tuple"/\o.dict=none)∨
  (T="dict"/\((∃bD,H p=some (.dK bD))∨∃bD,H p=some (.dT bD)))∨(T="set"/\∃S n,H p=some (.set S n))
 |_=>False
theorem b6T{s:Shared}{T:String}{x:V}{v:Value}(I:Inv X bC σ H s)(r:k8 x v)(ty:tyV X.K T x H):
 s.TypeIs v T/\∀a,v=.ref a->∃ob,s.heap.get? a=some ob/\ob.dict=none:=by
 cases x with
 |str z=>
  obtain⟨t,rfl⟩:=r;cases (show T="str" from ty);exact⟨typeIs_str s z t,λ_ e=>nomatch e⟩
 |int i=>
  obtain⟨t,rfl⟩:=r;cases (show T="int" from ty);exact⟨typeIs_int s i t,λ_ e=>nomatch e⟩
 |ref p=>
  cases r;rcases ty with⟨rfl,xs,hq⟩|⟨rfl,o,hk,hc,hd⟩|⟨rfl,hk⟩|⟨rfl,S,n,hk⟩
  · obtain⟨bF,_,pl,_⟩:=I.list hq;refine⟨pl.isList.typeIs,λa e=>?_⟩;cases e;obtain⟨o,n,e,c,hd,_⟩:=pl;exact⟨o,e,hd⟩
  · refine⟨⟨o,I.kIn p o hk,hc⟩,λa e=>?_⟩;cases e;exact⟨o,I.kIn _ o hk,hd⟩
  · have z:∃o,s.heap.get? p=some o/\o.ExactDict:=by
     rcases hk with⟨bD,hk⟩|⟨bD,hk⟩
     · obtain⟨_,_,_,_,o,_,_,e,ex,_⟩:=I.hok p _ hk;exact⟨o,e,ex⟩
     · obtain⟨_,_,_,_,o,_,_,e,ex,_⟩:=I.hok p _ hk;exact⟨o,e,ex⟩
    obtain⟨o,e,ex⟩:=z;refine⟨⟨o,e,ex.1⟩,λa e2=>?_⟩;cases e2;exact⟨o,e,ex.2.1⟩
  · obtain⟨o,_,_,_,e,ex,_⟩:=I.hok p _ hk;refine⟨⟨o,e,ex.1⟩,λa e2=>?_⟩;cases e2;exact⟨o,e,ex.2.1⟩
 |_=>exact False.elim ty
def tBM(K:Frag)(T:String)(r:V->List V->Hp->VK->Prop)(to:TE)(t:TA):TE:=λσ H Q=>to σ H λx H1=>tyV K T x H1/\t σ H1 λxs H2=>r x xs H2 Q
variable{o e:Expr}{es:List Expr}{to:TE}{t:TA}{name:Str}{cu ca:Pos}{T:String}{r:V->List V->Hp->VK->Prop}
theorem a6z(pa:PlainAttrs T)(slot:Slot T name id)(hty:typeOf (.builtin id)=pure (.type "method_descriptor"))(hm:MtR X id r)(ho:PE X o to)(ha:PA X (e::es) t)
 (dy:attributeBase o name X.env (eval o X.env)=eval o X.env:=by rfl)
 (et:((backTo ca (starEach (e::es) X.env)).all (λx=>!x.1)&&(backToKw ca (keywordEach [] X.env)).all (λx=>x.1.isSome)
  &&decide (↥(e::es)+↥([]:List Keyword)+(if([]:List Keyword).isEmpty then 0 else 1)<30))=true:=by rfl)
 (cV:(cu.endLine==ca.line)=true:=by rfl) (hs:starEach (e::es) X.env=(false,eval e X.env)::starEach es X.env:=by rfl) (hplain:(backTo ca (starEach es X.env)).any (·.1)=false:=by rfl):
 PE X (.Call (.Attribute o name cu) (e::es) [] ca) (tBM X.K T r to t):=by
 intro bC s σ H Q I h;refine wpAny_Call_method_late dy et cV rfl (thn (ho bC s σ H _ I h) λv s1 zz=>?_);obtain⟨x,H1,I1,r1,ty,q1⟩:=zz;obtain⟨h1,h2⟩:=b6T I1 r1 ty;refine⟨T,id,pa,slot,hty,h1,h2,?_⟩;have hA:=ha ca bC s1 σ H1 _ I1 q1;rw[hs] at hA⊢;refine Calls.callWith_builtin (by show(false||(backTo ca (starEach es X.env)).any (·.1))=false;rw[hplain]<;>rfl) (Calls.evalArgs_plain ?_);exact thn hA λus s2 ⟨vs,H2,I2,r2,q2⟩=>hm bC s2 σ H2 x vs v us Q I2 r1 r2 q2
end
def MtM(X:Cx)(id:String)(r:V->List V->Hp->VK->Prop):Prop:=
 ∀(bC:List (Addr×Obj)) (s:Shared) (σ:St) (H:Hp) (x:V) (xs:List V) (v:Value) (us:List Value) (Q:VK),Inv X bC σ H s->k8 x v->p7 xs us->r x xs H Q→
  wpAny (model X.prog X.w) X.A (call (.builtin id) (v::us)) (EP X bC σ Q) X.xe s
theorem p7.one{x:V}(h:p7 [x] us):∃u,us=[u]/\k8 x u:=by obtain- |⟨r,q⟩:=h;cases q;exact⟨_,rfl,r⟩
section
variable{X:Cx}{s:Shared}{l b:Addr}{xs ys zs:List V}
theorem Inv.lset{f:Array Value->Array Value}{t':Nat}(I:Inv X bC σ H s)(hH:H l=some (.lst xs))
 (e:s.heap.get? l=some {cls:=.type "list",data:=.seq bF.toArray n}) (hf:f bF.toArray=its'.toArray) (hv:p7 ys its') (hz:↥ys<=sizeLine):
 Inv X bC σ (upd H l (.lst ys)) {s with heap:=s.heap.update l (Obj.mapSeq f),toks:=t'}:=by
 have q:=PySem.IsL.update e f;rw[hf] at q;refine I.write (x:=l) (e:=l) (by rw[hH];exact trivial) (.inl rfl) (λb' u hb hu=>(Heap.get?_update_other s.heap (Obj.mapSeq f) (fR hb)).trans hu) ⟨_,q⟩ ?_;exact⟨hz,its',_,hv,q⟩
theorem Inv.lnew{t':Nat}(I:Inv X bC σ H s)(hv:p7 ys bF)(hz:↥ys<=sizeLine):
 Inv X bC σ (upd H s.heap.objs.size (.lst ys)) {s with heap:=s.heap.push {cls:=.type "list",data:=.seq bF.toArray},toks:=t'}:=
 I.laid (λ_ _ q=>fF _ q) (aj _) ⟨hz,bF,0,hv,fI _ rfl⟩
theorem Inv.fresh(I:Inv X bC σ H s):H s.heap.objs.size=none:=I.hok.fresh (aj _)
theorem Inv.lstM(I:Inv X bC σ H s)(hH:H l=some (.lst xs)):↥xs<=sizeLine/\∃(bF:List Value) (n:Nat),p7 xs bF/\↥xs=↥bF/\s.heap.get? l=some {cls:=.type "list",data:=.seq bF.toArray n}:=by obtain⟨z,bF,n,r,e⟩:=I.hok l _ hH;exact⟨z,bF,n,r,↥r,e⟩
theorem b1P(h:n<=sizeLine):Builtin.List.listTooLong n=false:=by unfold Builtin.List.listTooLong;exact bx nofun
end
section
variable{X:Cx}
def b4F:V->List V->Hp->VK->Prop:=λx vs H Q=>∃l xs y,x=.ref l/\vs=[y]/\H l=some (.lst xs)/\↥xs<sizeLine/\Q .non (upd H l (.lst (xs++[y])))
theorem a4z:MtM X "list.append" b4F:=by intro bC s σ H x vs v us Q I rx rv h;obtain⟨l,xs,y,rfl,rfl,hH,hz,q⟩:=h;cases rx;obtain⟨u,rfl,ru⟩:=rv.one;obtain⟨z,bF,n,r,hl,e⟩:=I.lstM hH;refine call_meets F.slot_list_append ⟨_,e,rfl⟩ F.entry_list_append (F.args_list_append_2 _ _) (PySem.list_append l bF.toArray n u (by rw[size_toArray];ac_nf)) ⟨e,?_⟩;refine⟨.non,_,I.lset (its':=bF++[u]) hH e ⋯ (r.append (.cons ru .nil)) ?_,rfl,q⟩;rw[aq,length_singleton];ac_nf
def b4E:V->List V->Hp->VK->Prop:=λx vs H Q=>∃l b xs zs,x=.ref l/\vs=[.ref b]/\H l=some (.lst xs)/\H b=some (.lst zs)/\↥xs+↥zs<=sizeLine/\Q .non (upd H l (.lst (xs++zs)))
theorem a9Y:MtM X "list.extend" b4E:=by
 intro bC s σ H x vs v us Q I rx rv h;obtain⟨l,b,xs,zs,rfl,rfl,hH,hB,hz,q⟩:=h;cases rx;obtain⟨u,rfl,ru⟩:=rv.one;cases ru;obtain⟨z,bF,n,r,hl,e⟩:=I.lstM hH;obtain⟨z2,bU,n2,r2,fh,e2⟩:=I.lstM hB;have hsz:bF.toArray.size+bU.toArray.size<=sizeLine:=by rw[size_toArray,size_toArray];ac_nf
 have hlong:¬(!bF.toArray.isEmpty&&Builtin.List.listTooLong (bF.toArray.size+bU.toArray.size))=true:=by rw[b1P hsz,Bool.and_false];exact bq
 refine call_meets F.slot_list_extend ⟨_,e,rfl⟩ F.entry_list_extend (F.args_list_extend_2 _ _)
  (AutoSeq1.list_extend_list_list_0 l bF.toArray n b bU.toArray n2 hlong (by rw[size_toArray];ac_nf) nofun) ⟨e,e2,?_⟩
 refine⟨.non,_,I.lset (its':=bF++bU) hH e ⋯ (r.append r2) ?_,rfl,q⟩;rw[aq];ac_nf
noncomputable def c2z:R2:=λx y H Q=>∃l b xs zs,x=.ref l/\y=.ref b/\H l=some (.lst xs)/\H b=some (.lst zs)/\↥xs+↥zs<=sizeLine/\∀p,H p=none->Q (.ref p) (upd H p (.lst (xs++zs)))
theorem b7U:OpR X (binaryOp .Add) c2z:=by
 intro bC s σ H x y v u Q I rx ry h;obtain⟨l,b,xs,zs,rfl,rfl,hH,hB,hz,q⟩:=h;cases rx;cases ry;obtain⟨z,bF,n,r,hl,e⟩:=I.lstM hH;obtain⟨z2,bU,n2,r2,fh,e2⟩:=I.lstM hB;refine PySem.P.add_list e e2 ?_ (by rw[size_toArray,size_toArray];ac_nf);have ea:bF.toArray++bU.toArray=(bF++bU).toArray:=by simp
 rw[ea];exact⟨.ref _,_,I.lnew (t':=s.toks) (r.append r2) (by rw[aq];ac_nf),rfl,q _ I.fresh⟩
end
variable{b:Addr}{sl:Addr}{items:Array Value}{vl:Value}{vu:Value}
section
variable{κ:Type}[DecidableEq κ]
def V7(bD:List (κ×V))(k:κ):Option V:=(bD.find? λkv=>decide (kv.1=k)).map (·.2)
noncomputable def P9(bD:List (κ×V))(k:κ)(v:V):List (κ×V):=
 if(bD.any λkv=>decide (kv.1=k))=true then bD.map (λkv=>if kv.1=k then(kv.1,v) else kv) else bD++[(k,v)]
theorem Z5{p:κ×V}{r:List (κ×V)}{k:κ}(e:p.1=k):V7 (p::r) k=some p.2:=by simp[V7,List.find?_cons,e]
theorem Z6{p:κ×V}{r:List (κ×V)}{k:κ}(e:¬p.1=k):V7 (p::r) k=V7 r k:=by simp[V7,List.find?_cons,e]
theorem a6e(k:κ):∀bD:List (κ×V),(bD.any λkv=>decide (kv.1=k))=(V7 bD k).isSome
 |[]=>rfl
 |p::r=>by
  rw[any_cons]
  by_cases e:p.1=k
  · simp only[Z5 e,ba e,Bool.true_or,Option.isSome_some]
  · rw[Z6 e,bx e,hV];exact a6e k r
theorem a0e(bD:List (κ×V))(k:κ)(v:V):↥(P9 bD k v)<=↥bD+1:=by
 unfold P9;split
 · rw[aa];ac_nf
 · rw[aq,length_cons,length_nil];ac_nf
theorem a0M.isSome_eq{o:Option V}{u:Option Value}(r:a0M o u):o.isSome=u.isSome:=by
 cases o with
 |none=>cases u with
  |none=>rfl
  |some _=>exact(show False from r).elim
 |some _=>cases u with
  |none=>exact(show False from r).elim
  |some _=>rfl
theorem a0M.getD{o:Option V}{u:Option Value}{d:V}{d':Value}(r:a0M o u)(rd:k8 d d'):k8 (o.getD d) (u.getD d'):=by
 cases o with
 |none=>cases u with
  |none=>exact rd
  |some _=>exact(show False from r).elim
 |some _=>cases u with
  |none=>exact(show False from r).elim
  |some _=>exact r
theorem KV.val{bD:List (κ×V)}{vs:List (κ×Value)}(r:KV bD vs)(k:κ):a0M (V7 bD k) (valueAt vs k):=by
 unfold KV at r
 induction r with
 |nil=>exact True.intro
 | @cons p q ps qs h t ih=>
  obtain⟨h1,h2⟩:=h
  by_cases e:p.1=k
  · have e':q.1=k:=h1.symm.trans e;have b:valueAt (q::qs) k=some q.2:=by simp[valueAt,List.find?_cons,e']
    rw[Z5 e,b];exact h2
  · have e':¬q.1=k:=λz=>e (h1.trans z);have b:valueAt (q::qs) k=valueAt qs k:=by simp[valueAt,List.find?_cons,e']
    rw[Z6 e,b];exact ih
theorem KV.any{bD:List (κ×V)}{vs:List (κ×Value)}(r:KV bD vs)(k:κ):(bD.any λkv=>decide (kv.1=k))=vs.any λkv=>decide (kv.1=k):=by
 unfold KV at r
 induction r with
 |nil=>rfl
 |cons h t ih=>rw[any_cons,any_cons,ih,h.1]
theorem KV.repl{bD:List (κ×V)}{vs:List (κ×Value)}(r:KV bD vs)(k:κ)(ry:k8 y u):
 KV (bD.map λkv=>if kv.1=k then(kv.1,y) else kv) (vs.map λkv=>if kv.1=k then(kv.1,u) else kv):=by
 unfold KV at r⊢
 induction r with
 |nil=>exact .nil
 | @cons p q ps qs h t ih=>
  rw[map_cons,map_cons];refine .cons ?_ ih;obtain⟨h1,h2⟩:=h
  by_cases e:p.1=k
  · rw[ay e,ay (h1.symm.trans e)];exact⟨h1,ry⟩
  · rw[az e,az (λz=>e (h1.trans z))];exact⟨h1,h2⟩
theorem KV.put{bD:List (κ×V)}{vs:List (κ×Value)}(r:KV bD vs)(k:κ)(ry:k8 y u):KV (P9 bD k y) (stored vs k u):=by
 unfold P9 stored;rw[r.any k]
 by_cases e:(vs.any λkv=>decide (kv.1=k))=true
 · rw[ay e,ay e];exact r.repl k ry
 · rw[az e,az e];exact Paired.snoc r ⟨rfl,ry⟩
theorem KV.length{bD:List (κ×V)}{vs:List (κ×Value)}(r:KV bD vs):↥bD=↥vs:=Paired.length r
end
variable{P:Program}{w:World}
theorem a0i{k:Key}(r:k8 (kV k) u):(z9 P w).is k u=true:=by
 cases k with
 |inl i=>obtain⟨t,e⟩:=(show∃t,u=Value.int i t from r);subst e;exact a6F P w i t
 |inr x=>obtain⟨t,e⟩:=(show∃t,u=Value.str x t from r);subst e;exact a6E P w x t
theorem a4D{P:Program}{w:World}:∀{ks:List Key} {us:List Value},p7 (ks.map kV) us->ItemsAre (z9 P w) ks us
 |[],_,r=>by rw[map_nil] at r;cases r;exact .nil
 |k::ks,_,r=>by
  rw[map_cons] at r;cases r with
  |cons h t=>exact .cons (a0i h) (a4D t)
abbrev KT(H:Hp):List (List Key×V)->List (List Key×Addr×Value)->Prop:=Paired λp q=>p.1=q.1/\H q.2.1=some (.tup (p.1.map kV))/\k8 p.2 q.2.2
variable{bD:List (List Key×V)}{xs:List (List Key×Addr×Value)}
theorem KT.val(r:KT H bD xs)(k:List Key):a0M (V7 bD k) ((atKey xs k).map (·.2)):=by
 induction r with
 |nil=>exact True.intro
 | @cons p q ps qs h t ih=>
  obtain⟨h1,_,h2⟩:=h
  by_cases e:p.1=k
  · have e':q.1=k:=h1.symm.trans e;have b:atKey (q::qs) k=some q.2:=by simp[atKey,List.find?_cons,e']
    rw[Z5 e,b];exact h2
  · have e':¬q.1=k:=λz=>e (h1.trans z);have b:atKey (q::qs) k=atKey qs k:=by simp[atKey,List.find?_cons,e']
    rw[Z6 e,b];exact ih
theorem KT.repl(r:KT H bD xs)(k:List Key)(ry:k8 y u):
 KT H (bD.map λkv=>if kv.1=k then(kv.1,y) else kv) (xs.map (putAt k u)):=by
 induction r with
 |nil=>exact .nil
 | @cons p q ps qs h t ih=>
  rw[map_cons,map_cons];refine .cons ?_ ih;obtain⟨h1,h2,h3⟩:=h;unfold putAt
  by_cases e:p.1=k
  · rw[ay e,ay (h1.symm.trans e)];exact⟨h1,h2,ry⟩
  · rw[az e,az (λz=>e (h1.trans z))];exact⟨h1,h2,h3⟩
theorem KT.put(r:KT H bD xs)(k:List Key)(hb:H b=some (.tup (k.map kV)))(ry:k8 y u):
 KT H (P9 bD k y) (storedH xs k b u):=by
 have e:(bD.any λkv=>decide (kv.1=k))=(atKey xs k).isSome:=by rw[a6e,(r.val k).isSome_eq,gZ]
 unfold P9 storedH;rw[e]
 by_cases q:(atKey xs k).isSome=true
 · rw[ay q,ay q];exact r.repl k ry
 · rw[az q,az q];exact Paired.snoc r ⟨rfl,hb,ry⟩
variable{H':Hp}
theorem KT.keeps(r:KT H bD xs)(ht:∀b ys,H b=some (.tup ys)->H' b=some (.tup ys)):KT H' bD xs:=
 Paired.mapP r λ_ _ z=>⟨z.1,ht _ _ z.2.1,z.2.2⟩
section
variable{h:Heap}{a:Addr}
theorem rd_of{u:HO}(ok:HOk P w H h)(e:Rd H a u):J4 P w H h a u:=e.ok ok
theorem a2D{bD:List (Key×V)}(ok:HOk P w H h)(e:Rd H a (.dK bD)):↥bD<=sizeLine/\(a==sysModules)=false/\∃vs,KV bD vs/\h.DictOf (z9 P w) a vs:=
 show J4 P w H h a (.dK bD) from rd_of ok e
theorem b6L{bD:List (Key×V)}(ok:HOk P w H h)(e:H a=some (.dK bD)):↥bD<=sizeLine/\(a==sysModules)=false/\∃vs,KV bD vs/\h.DictOf (z9 P w) a vs:=a2D ok (.inl e)
theorem a2f{ks:List Key}(ok:HOk P w H h)(e:H a=some (.tup (ks.map kV))):(tupleKind (z9 P w)).is h ks a:=by obtain⟨_,bF,r,o,h1,h2,_,n,h3⟩:=(show J4 P w H h a (.tup (ks.map kV)) from ok a _ e);exact⟨o,bF.toArray,n,h1,h2,h3,by simpa using a4D r⟩
theorem a3N(ok:HOk P w H h)(e:Rd H a (.dT bD)):↥bD<=sizeLine/\(a==sysModules)=false∧
 ∃xs,KT H bD xs/\h.DictOfH (tupleKind (z9 P w)) a xs:=by
 obtain⟨z,y,xs,r,o,es,ep,h1,h2,h3,h4,h5⟩:=(show J4 P w H h a (.dT bD) from rd_of ok e);refine⟨z,y,xs,r,o,es,ep,h1,h2,h3,h4,λx hx=>?_,h5⟩;have all:∀{l:List (List Key×V)} {m:List (List Key×Addr×Value)},KT H l m->∀x∈m,(tupleKind (z9 P w)).is h x.1 x.2.1:=by
  intro l m q
  induction q with
  |nil=>intro x hx;exact nomatch hx
  | @cons p q ps qs hq t ih=>
   intro x hx;rcases aF.mp hx with e|hx
   · subst e;exact a2f ok (by rw[←hq.1];exact hq.2.1)
   · exact ih x hx
 exact all r x hx
theorem c1o(ok:HOk P w H h)(e:H a=some (.dT bD)):↥bD<=sizeLine/\(a==sysModules)=false∧
 ∃xs,KT H bD xs/\h.DictOfH (tupleKind (z9 P w)) a xs:=a3N ok (.inl e)
end
def a8r(H:Hp)(a:Addr)(y:V)(r:Option V):Prop:=
 (∃bD k,Rd H a (.dK bD)/\y=kV k/\r=V7 bD k)∨∃bD k b,Rd H a (.dT bD)/\y=.ref b/\H b=some (.tup (k.map kV))/\r=V7 bD k
def c3n(H:Hp)(a:Addr)(y v:V)(H':Hp):Prop:=
 (∃bD k,H a=some (.dK bD)/\y=kV k/\↥bD<sizeLine/\H'=upd H a (.dK (P9 bD k v)))∨
 ∃bD k b,H a=some (.dT bD)/\y=.ref b/\H b=some (.tup (k.map kV))/\↥bD<sizeLine/\H'=upd H a (.dT (P9 bD k v))
variable{a:Addr}{v:V}{Q:Value->Shared->Prop}{h':Heap}
section
variable{X:Cx}{s:Shared}{r:Value}{o:Option V}{E:Value->Shared->Prop}
theorem Inv.big(I:Inv X bC σ H s):sysModules<s.heap.objs.size:=by have h:mainGlobals<s.heap.objs.size:=(I.mod.glob.keeps I.bk).lt;exact Nat.lt_trans ∅ h
theorem b0t(hu:A.units+1<cLine)(I:Inv X bC σ H s)(g:a8r H a y (some v))(ry:k8 y u)(h:∀w' s',Inv X bC σ H s'->k8 v w'->Q w' s'):
 wpAny (model X.prog X.w) A (getItem (.ref a) u) Q E s:=by
 rcases g with⟨bD,k,e,ey,l⟩|⟨bD,k,b,e,ey,eb,l⟩
 · subst ey;obtain⟨z,hd,vs,cv,dd⟩:=a2D I.hok e;obtain⟨w',hw,dn⟩:=a0M.some_of (v:=v) (o:=valueAt vs k) (by rw[l];exact cv.val k);exact wpAny_getItem_of (a0i ry) dd.mapOf hw (h w' _ (I.tok _) dn)
 · subst ey;cases (show u=Value.ref b from ry);obtain⟨z,hd,xs,cv,dd⟩:=a3N I.hok e;obtain⟨w',hw,dn⟩:=a0M.some_of (v:=v) (o:=(atKey xs k).map (·.2)) (by rw[l];exact cv.val k);obtain⟨p,hp,hp2⟩:=Option.map_eq_some_iff.mp hw;refine wpAny_getItem_heap (gK hu) (a2f I.hok eb) dd hp ?_;rw[hp2];exact h w' _ (I.tok _) dn
theorem c2W(hu:A.units+1<cLine)(I:Inv X bC σ H s)(g:a8r H a y o)(ry:k8 y u)(h:∀s',Inv X bC σ H s'->Q (.bool o.isSome) s'):
 wpAny (model X.prog X.w) A (compareOp .In u (.ref a)) Q E s:=by
 rcases g with⟨bD,k,e,ey,l⟩|⟨bD,k,b,e,ey,eb,l⟩
 · subst ey;obtain⟨z,hd,vs,cv,dd⟩:=a2D I.hok e;refine wpAny_in_of (a0i ry) hd dd.mapOf ?_;rw[←(cv.val k).isSome_eq,←l];exact h _ (I.tok _)
 · subst ey;cases (show u=Value.ref b from ry);obtain⟨z,hd,xs,cv,dd⟩:=a3N I.hok e;refine wpAny_in_heap (gK hu) (a2f I.hok eb) hd dd ?_;have q:=(cv.val k).isSome_eq;rw[gZ] at q;rw[←q,←l];exact h _ (I.tok _)
theorem b6e(hu:A.units+1<cLine)(I:Inv X bC σ H s)(g:a8r H a y o)(ry:k8 y u)(h:∀s',Inv X bC σ H s'->Q (.bool (!o.isSome)) s'):
 wpAny (model X.prog X.w) A (compareOp .NotIn u (.ref a)) Q E s:=by
 rcases g with⟨bD,k,e,ey,l⟩|⟨bD,k,b,e,ey,eb,l⟩
 · subst ey;obtain⟨z,hd,vs,cv,dd⟩:=a2D I.hok e;refine wpAny_notIn_of (a0i ry) hd dd.mapOf ?_;rw[←(cv.val k).isSome_eq,←l];exact h _ (I.tok _)
 · subst ey;cases (show u=Value.ref b from ry);obtain⟨z,hd,xs,cv,dd⟩:=a3N I.hok e;refine wpAny_notIn_heap (gK hu) (a2f I.hok eb) hd dd ?_;have q:=(cv.val k).isSome_eq;rw[gZ] at q;rw[←q,←l];exact h _ (I.tok _)
theorem a5L{t':Nat}{ob:HO}(I:Inv X bC σ H s)(mu:Mut (H a))(hs:Heap.SameBut a s.heap h')(he:∃q,h'.get? a=some q)(new:J4 X.prog X.w (upd H a ob) h' a ob):
 Inv X bC σ (upd H a ob) {s with heap:=h',toks:=t'}:=
 I.write (x:=a) (e:=a) mu (.inl rfl) (λb q hb z=>(hs.2 b hb).trans z) he new
theorem a8h{bD:List (Key×V)}{vs:List (Key×Value)}(z:↥bD<=sizeLine)(hd:(a==sysModules)=false)(cv:KV bD vs)(dd:h'.DictOf (z9 P w) a vs):
 J4 P w H' h' a (.dK bD):=⟨z,hd,vs,cv,dd⟩
theorem a4K{Q:Unit->Shared->Prop}(hu:A.units+1<cLine)(I:Inv X bC σ H s)(g:c3n H a y v H')(ry:k8 y u)(rv:k8 v r)(h:∀s',Inv X bC σ H' s'->Q () s'):
 wpAny (model X.prog X.w) A (setItem (.ref a) u r) Q E s:=by
 rcases g with⟨bD,k,e,ey,l,eH⟩|⟨bD,k,b,e,ey,eb,l,eH⟩
 · subst ey eH;obtain⟨z,hd,vs,cv,dd⟩:=b6L I.hok e;have hz:↥vs<=sizeLine:=by rw[←cv.length];exact z
   have hl:↥(P9 bD k v)<=sizeLine:=by have:=a0e bD k v;ac_nf
   refine wpAny_setItem_pairs (hsz:=hz) (a0i ry) dd λh' dd' hs=>h _ ?_;have he:∃q,h'.get? a=some q:=let⟨q,_,_,hq,_⟩:=dd';⟨q,hq⟩;exact a5L I (by rw[e];exact True.intro) hs he (a8h hl hd (cv.put k rv) dd')
 · subst ey eH;cases (show u=Value.ref b from ry);obtain⟨z,hd,xs,cv,dd⟩:=c1o I.hok e;have hz:↥xs<=sizeLine:=by rw[←Paired.length cv];exact z
   have hl:↥(P9 bD k v)<=sizeLine:=by have:=a0e bD k v;ac_nf
   refine wpAny_setItem_heap (hsz:=hz) (gK hu) (a2f I.hok eb) dd λh' dd' hs=>h _ ?_;obtain⟨q,es,ep,hq,h2,h3,h4,_,h5⟩:=dd';refine a5L I (by rw[e];exact True.intro) hs ⟨q,hq⟩ ⟨hl,hd,_,(cv.put k eb rv).keeps λc ys ec=>?_,q,es,ep,hq,h2,h3,h4,h5⟩;rw[j9 (c0s ec e (λz=>nomatch z))];exact ec
end
section
variable{X:Cx}{s:Shared}{bD:List (Key×V)}{k:Key}{E:Value->Shared->Prop}
theorem c1q(I:Inv X bC σ H s)(e:Rd H a (.dK bD))(h:∀t s',Inv X bC σ H s'->Q (.int ↥bD t) s'):wpAny (model X.prog X.w) A (call (.builtin "len") [.ref a]) Q E s:=by obtain⟨z,hd,vs,cv,dd⟩:=a2D I.hok e;refine call_len_dict hd dd (by rw[←cv.length];rw[gS] at z;ac_nf) ?_;rw[←cv.length];exact h _ _ (I.tok _)
end
variable{prog:Program}{env:Env}{pos:Pos}{X:Cx}
theorem a7e{s:Shared}{o:Option V}(I:Inv X bC σ H s)(g:a8r H a y o):s.TypeIs (.ref a) "dict":=by
 rcases g with⟨bD,k,e,_,_⟩|⟨bD,k,b,e,_,_,_⟩
 · obtain⟨_,_,vs,_,dd⟩:=a2D I.hok e;exact dd.typeIs
 · obtain⟨_,_,xs,_,dd⟩:=a3N I.hok e;exact dd.typeIs
theorem a7d(h:Heap)(hb:sysModules<h.objs.size):J4 P w H (h.push {cls:=.type "dict",data:=.dict #[]}) h.objs.size (.dK []):=
 ⟨ga _,beq_eq_false_iff_ne.mpr (fR (fN hb)),[],.nil,Heap.DictOf.new h⟩
def b7d:TE:=λ_ H Q=>∀p,H p=none->Q (.ref p) (upd H p (.dK []))
section
theorem b1E:PE X (.Dict [] [] pos) b7d:=λbC s σ H Q I h=>
 wpAny_Dict_empty ⟨.ref s.heap.objs.size,_,I.laid (a:=s.heap.objs.size) (o:=.dK []) (t':=s.toks) (λ_ _ q=>fF _ q) (aj _) (a7d s.heap I.big),rfl,h _ (I.hok.fresh (aj _))⟩
end
def a4X:List (TE×TE)->St->Hp->(List (V×V)->Hp->Prop)->Prop
 |[],_,H,Q=>Q [] H
 |(tk,tv)::r,σ,H,Q=>tk σ H λx H1=>tv σ H1 λy H2=>a4X r σ H2 λps H3=>Q ((x,y)::ps) H3
abbrev VV:List (V×V)->List (Value×Value)->Prop:=Paired λp q=>k8 p.1 q.1/\k8 p.2 q.2
def PPs(X:Cx)(pos:Pos)(dA:List (Option Expr))(dm:List Expr)(eE:List (TE×TE)):Prop:=
 ∀(bC:List (Addr×Obj)) (s:Shared) (σ:St) (H:Hp) (Q:List (V×V)->Hp->Prop),Inv X bC σ H s->a4X eE σ H Q→
  wpAny (model X.prog X.w) X.A (evalPairs (pairTrees dA dm X.env pos)) (λvs s'=>∃ps H',Inv X bC σ H' s'/\VV ps vs/\Q ps H') X.xe s
theorem b4L:PPs X pos [] [] []:=λbC s σ H Q I h=>pairTrees_nil_walk ⟨[],H,I,.nil,h⟩
variable{eE:List (TE×TE)}
theorem b1w{k v:Expr}{ks:List (Option Expr)}{vs:List Expr}{tk tv:TE}(hk:PE X k tk)(hv:PE X v tv)(hr:PPs X pos ks vs eE):
 PPs X pos (some k::ks) (v::vs) ((tk,tv)::eE):=λbC s σ H Q I h=>
 pairTrees_cons_walk (thn (hk bC s σ H _ I h) λu s1 ⟨x,H1,I1,rx,q1⟩=>thn (hv bC s1 σ H1 _ I1 q1) λw2 s2 ⟨y,H2,I2,ry,q2⟩=>
  thn (hr bC s2 σ H2 _ I2 q2) λws s3 ⟨ps,H3,I3,cv,q3⟩=>⟨(x,y)::ps,H3,I3,.cons ⟨rx,ry⟩ cv,q3⟩)
def X1(bD dh:List (Key×V)):List (Key×V):=dh.foldl (λbP kv=>P9 bP kv.1 kv.2) bD
theorem KV.merge:∀{dh:List (Key×V)} {rs:List (Key×Value)} {bD:List (Key×V)} {vs:List (Key×Value)},KV dh rs->KV bD vs->KV (X1 bD dh) (merged vs rs):=by
 intro dh rs bD vs r;unfold KV at r
 induction r generalizing bD vs with
 |nil=>intro q;exact q
 | @cons p q ps qs h t ih=>
  intro r0;have e:KV (P9 bD p.1 p.2) (stored vs q.1 q.2):=by have:=r0.put p.1 h.2;rw[←h.1];exact this
  exact ih e
theorem V0:∀(dh bD:List (Key×V)),↥(X1 bD dh)<=↥bD+↥dh
 |[],bD=>by show ↥bD<=↥bD+0;ac_nf
 |p::r,bD=>by have h1:=V0 r (P9 bD p.1 p.2);have h2:=a0e bD p.1 p.2;show(X1 (P9 bD p.1 p.2) r).length<=_;rw[length_cons];ac_nf
theorem a3R{P:Program}{w:World}:∀{bD:List (Key×V)} {ws:List (Value×Value)},VV (bD.map λkv=>(kV kv.1,kv.2)) ws->∃rs,Carries (z9 P w) ws rs/\KV bD rs
 |[],_,r=>by rw[map_nil] at r;cases r;exact⟨[],True.intro,.nil⟩
 | p::bD,_,r=>by
  rw[map_cons] at r;cases r with
  | @cons a b as bs h t=>
   obtain⟨rs,c,q⟩:=a3R (P:=P) (w:=w) t;obtain⟨b1,b2⟩:=b;exact⟨(p.1,b2)::rs,⟨a0i h.1,rfl,c⟩,.cons ⟨rfl,h.2⟩ q⟩
def b9M(eE:List (TE×TE)):TE:=λσ H Q=>∀p,H p=none->a4X eE σ (upd H p (.dK [])) λps H2=>H2 p=some (.dK [])/\∃bD:List (Key×V),ps=bD.map (λkv=>(kV kv.1,kv.2))/\↥bD<=15/\Q (.ref p) (upd H2 p (.dK (X1 [] bD)))
theorem b4W{dA:List (Option Expr)}{dm:List Expr}(h:PPs X pos dA dm eE)(hall:dA.all (·.isSome)=true)(hl:↥dA=↥dm)(h0:dA≠[])
 (h15:↥dA<=15):PE X (.Dict dA dm pos) (b9M eE):=by
 intro bC s σ H Q I q;have hn:=I.hok.fresh (aj s.heap.objs.size);have I1:=I.laid (a:=s.heap.objs.size) (o:=.dK []) (h':=s.heap.push {cls:=.type "dict",data:=.dict #[]}) (t':=s.toks) (λ_ _ q=>fF _ q) (aj _) (a7d s.heap I.big);refine wpAny_Dict_walk (knd:=z9 X.prog X.w) hall hl h0 h15 (thn (h bC _ σ _ _ I1 (q _ hn)) λws s2 zz=>?_);obtain⟨ps,H2,I2,cv,e,bD,ep,lk,q2⟩:=zz;subst ep;obtain⟨rs,c,rk⟩:=a3R (P:=X.prog) (w:=X.w) cv;obtain⟨z,hd,vs0,r0,dd⟩:=b6L I2.hok e;cases r0;refine⟨rs,c,dd,λh' dd' hs=>⟨.ref s.heap.objs.size,_,?_,rfl,q2⟩⟩;have hz:↥(X1 [] bD)<=sizeLine:=by have h1:=V0 bD [];rw[length_nil] at h1;rw[gS];ac_nf
 have he:∃q,h'.get? s.heap.objs.size=some q:=let⟨q,_,_,hq,_⟩:=dd';⟨q,hq⟩;exact a5L I2 (by rw[e];exact True.intro) hs he (a8h hz hd (rk.merge .nil) dd')
structure M2(X:Cx)(o:Expr)(m:Str)(cu:Pos)(e f:Expr)(ca:Pos):Prop where
 base:attributeBase o m X.env (eval o X.env)=eval o X.env
 few:((backTo ca (starEach [e,f] X.env)).all (λx=>!x.1)&&(backToKw ca (keywordEach [] X.env)).all (λx=>x.1.isSome)
  &&decide (↥([e,f]:List Expr)+↥([]:List Keyword)+(if([]:List Keyword).isEmpty then 0 else 1)<30))=true
 line:(cu.endLine==ca.line)=true
 trees:backTo ca (starEach [e,f] X.env)=[(false,eval e X.env),(false,eval f X.env)]
def IsD(H:Hp)(a:Addr):Prop:=(∃bD,Rd H a (.dK bD))∨∃bD,Rd H a (.dT bD)
theorem b8p{s:Shared}(I:Inv X bC σ H s)(d:IsD H a):
 s.TypeIs (.ref a) "dict"/\(∀b,Value.ref a=.ref b->∃ob,s.heap.get? b=some ob/\ob.dict=none)/\(a==sysModules)=false:=by
 rcases d with⟨bD,e⟩|⟨bD,e⟩
 · obtain⟨_,hd,vs,_,dd⟩:=a2D I.hok e;refine⟨dd.typeIs,λb q=>?_,hd⟩;cases q;obtain⟨ob,_,_,h1,h2,_⟩:=dd;exact⟨ob,h1,h2.2.1⟩
 · obtain⟨_,hd,xs,_,dd⟩:=a3N I.hok e;refine⟨dd.typeIs,λb q=>?_,hd⟩;cases q;obtain⟨ob,_,_,h1,h2,_⟩:=dd;exact⟨ob,h1,h2.2.1⟩
section
variable{s:Shared}{d:V}{r:Value}{o:Option V}{E:Value->Shared->Prop}
theorem b8P(hu:A.units+1<cLine)(I:Inv X bC σ H s)(g:a8r H a y o)(ry:k8 y u)(rd:k8 d r)(h:∀w' s',Inv X bC σ H s'->k8 (o.getD d) w'->Q w' s'):
 wpAny (model X.prog X.w) A (call (.builtin "dict.get") [.ref a,u,r]) Q E s:=by
 rcases g with⟨bD,k,e,ey,l⟩|⟨bD,k,b,e,ey,eb,l⟩
 · subst ey;obtain⟨z,hd,vs,cv,dd⟩:=a2D I.hok e;refine call_meetsIn slot_dict_get dd.typeIs PySem.F.entry_dict_get (PySem.F.args_dict_get_3 _ _ _) (meets_dict_get_default (z9 X.prog X.w) a (a0i ry) hd r) ⟨_,dd.mapOf,h _ _ (I.tok _) ?_⟩;rw[l];exact(cv.val k).getD rd
 · subst ey;cases (show u=Value.ref b from ry);obtain⟨z,hd,xs,cv,dd⟩:=a3N I.hok e;refine call_meetsIn slot_dict_get dd.typeIs PySem.F.entry_dict_get (PySem.F.args_dict_get_3 _ _ _) (meetsH_dict_get_default (tupleKind (z9 X.prog X.w)) a b hd r) ⟨gK hu,k,xs,a2f I.hok eb,dd,h _ _ (I.tok _) ?_⟩;rw[l];exact(cv.val k).getD rd
end
end L2
namespace Att
open PySem PySem.W PySem.Calls PyProof.Rows
variable{P:Params}{h:Heap}
theorem a2J:∀(ns:List Int) (vs:List Value),WellAll P h vs (ns.map WData.int)->IntsAre vs ns:=by
 intro ns
 induction ns with
 |nil=>
  intro vs w;rw[map_nil] at w;cases w;exact .nil
 | cons n ns ih=>
  intro vs w;rw[map_cons] at w;cases w with
  |cons a b=>
   cases a;exact .cons _ _ (ih _ b)
variable{l:OpenLaw}{n:Nat}
theorem a9I(hn:l.most=some n){args:List WData}{vals:List Value}
 (hpre:l.row.toRowW.claim.pre args=true) (hwl:WellAll P h vals args):
 ∃a vs ns,vals=[Value.ref a]/\args=[WData.list (ns.map WData.int)]/\h.get? a=some {cls:=.type "list",data:=.seq vs.toArray}/\IntsAre vs ns/\↥ns<=n:=by
 have hsh:WShape.hasAll [] args [.list .int]=true:=(pre_splitW hpre).1;have hc:l.pre.holds [] {args:=args}=true:=(pre_splitW hpre).2;obtain⟨d,r,rfl,h1,h2⟩:=hasAllW_cons hsh;obtain rfl:=hasAllW_nil h2;obtain⟨xs,rfl,h3⟩:=hasW_list h1;obtain⟨ns,rfl⟩:=items_int h3;have bR:↥ns<=n:=by
  unfold OpenLaw.pre at hc;have h4:(WTm.not (.lt (.lit ⇑n) (.len (.arg 0)))).holds [] {args:=[.list (ns.map .int)]}=true:=by have h4:=(holds_andW hc).1;rw[hn] at h4;exact h4
  have h5:=condW_of h4 (w_not (w_lt w_lit (w_len_list (w_arg rfl))));rw[aa] at h5;refine aU λq=>?_;have q':(n:Int)<((↥ns:Nat):Int):=by ac_nf
  first
   |(rw[ba q'] at h5;exact absurd h5 ∅)
   |(simp at h5;ac_nf)
 cases hwl with
 |cons w1 w2=>
  cases w2;cases w1 with
  |list ho hall=>exact⟨_,_,ns,rfl,rfl,ho,a2J ns _ hall,bR⟩
theorem a9O(l:OpenLaw)(args:List WData):l.row.toRowW.claim.post args (.bool true) args=true:=
 postW_of (r:=l.row.toRowW) (X:=(true==true))
  (show WShape.has [] (.bool true) .bool=true by first|rfl|decide|simp[WShape.has,WShape.arms,WShape.armsAll])
  (show(WTm.eq .res (.lit (.bool true))).value [] {args:=args,res:=some (.bool true),after:=args}=some (.bool (true==true)) from w_eq_bool (w_res rfl) w_lit) rfl
variable{q:Program}{dF:List Str}{XP:(Str->Option Value)->Heap->Prop}{YP:World->Heap->Prop}{d:DefRec}
theorem a7r
 (hn:l.most=some n) (hdf:d.params.defaults=[])
 (call:∀(w:World) (s₀ bK:Shared) (mg mb:Str->Option Value) (fa:Addr) (o:Obj) (pm cd de:Value) (a:Addr) (vs:List Value) (ns:List Int),
  Ground q dF [] XP w s₀ mg mb bK.heap->YP w bK.heap→
  bK.heap.get? fa=some o->o.data=.func (docDef d.name d.params d.body d.scope pm cd de)->bK.heap.CodeRec cd d.name->mg d.name= ~~~fa→
  bK.heap.get? a=some {cls:=.type "list",data:=.seq vs.toArray}->IntsAre vs ns->↥ns<=n->bK.gens= #[]→
  codeAny (model l.prog w) callerA (.call (.ref fa) ⟨[.ref a],[]⟩) (λr s'=>r=.ok (.ret (.bool true))/\OldK bK.heap s'.heap/\s'.os=bK.os/\AllBare s'.gens) bK):
 WalkO q dF XP YP l.row.toRowW d [] (λf vs=>PySem.call f vs):=by
 intro w s₀ bK mg mb G Y fa o pm cd de dV kV ho hd eZ hD hmg hg args vals as hpre hlay hrd hwl hlo;obtain rfl:dV=.none:=Dflts.none hD hdf;obtain rfl:kV=.none:=Dflts.noKw hD;obtain⟨a,vs,ns,rfl,rfl,hobj,fj,bR⟩:=a9I hn hpre hwl;refine enter_call (codeAny_mono (call w s₀ bK mg mb fa o pm cd de a vs ns G Y ho (fd_plain hd) eZ hmg hobj fj bR hg) λr s' hq=>?_);obtain⟨rfl,h2,h3,h4⟩:=hq;exact⟨.inl ⟨.bool true,.bool true,[],rfl,λ_=>rfl,.bool true,a9O l _,λ_=>⟨List.Pairwise.nil,λ_ hm=>(nomatch hm)⟩⟩,h2,h3,h4⟩
variable{f:Addr}{C:Addr}{x:Addr}{ox:Obj}{es:List DictEntry}{v:Value}{L:Addr}{m:Str->Option Value}
end Att
namespace L2
open PySem PySem.Spec PyProof.Rows
theorem a4m:∀{vs:List Value} {ns:List Int},IntsAre vs ns->p7 (ns.map V.int) vs
 |_,_,.nil=>.nil
 |_,_,.cons n t h=>.cons ⟨t,rfl⟩ (a4m h)
def b3V(H:Hp):Prop:=∀b,H b=none∨∃o xs,H b=some (.frz o (.lst xs))
variable{P:Program}{w:World}{K:Frag}{mg:Str->Option Value}{CX:CXT}{a:Addr}{fd:FuncData}{x:Str}{sp:Sp}{vs:List Value}{ns:List Int}
theorem b2i{mb:Str->Option Value}{k:Nat}{fa:Addr}{bK:Shared}
 (KX:K.In bK.heap) (hns:bK.heap.Ns mainGlobals mg) (hb:bK.heap.Ns builtinsNs mb) (hbb:∀x:Str,x≠"__name__"->mb x=bootBuiltins x) (hlim:bK.heap.NoLimit) (hg:bK.gens= #[])
 (ha:bK.heap.get? a=some {cls:=.type "list",data:=.seq vs.toArray}) (hi:IntsAre vs ns) (hl:↥ns<=sizeLine) (hr:Room k callerA)
 (F:∀base:Heap,K.In base->base.Ns mainGlobals mg->FnOk P w K mg base CX k fa fd [x] sp) (hbind:∀(s:Shared) (u:Value),BindsTo s fd ⟨[u],[]⟩ [(x,u)])
 (eX:∀H:Hp,b3V H->SqL K H a (ns.map V.int)->sp [.ref a] H (λv _=>v=.bl true) λ_ _ _=>False)
 (hCX:∀H e s',CX [] H bK (λ_ _ _=>False) e s'->False):
 codeAny (model P w) callerA (.call (.ref fa) ⟨[.ref a],[]⟩) (λr s'=>r=.ok (.ret (.bool true))/\OldK bK.heap s'.heap/\s'.os=bK.os/\AllBare s'.gens) bK:=by
 have rv:=a4m hi;have lenV:=↥hi
 -- from an abstract heap in which nothing but the script may be tracked
 have bE:∀H:Hp,b3V H->SqL K H a (ns.map V.int)->HOk P w H bK.heap->(∀b,H b≠none->b=a)->(H a≠none->K.lookup a=none)→
  codeAny (model P w) callerA (.call (.ref fa) ⟨[.ref a],[]⟩) (λr s'=>r=.ok (.ret (.bool true))/\OldK bK.heap s'.heap/\s'.os=bK.os/\AllBare s'.gens) bK:=by
  intro H hO hS hok hA hK;have base_of:∀{b:Addr} {o:Obj},bK.heap.get? b=some o->H b=none->(a5C bK.heap H).get? b=some o:=λe n=>b2z e n;have noA:∀{b:Addr} {o:Obj} {es:Array DictEntry} {ep:Nat},bK.heap.get? b=some o->o.data=.dict es ep->H b=none:=fun{b o es ep} e d=>by
   cases q:H b with
   |none=>rfl
   |some u=>
    have e':b=a:=hA b (by rw[q];simp);subst e';rw[ha] at e;cases e;have d':Data.seq vs.toArray _=Data.dict es ep:=d;cases d'
  have nsK:∀{b:Addr} {m:Str->Option Value},bK.heap.Ns b m->(a5C bK.heap H).Ns b m:=fun{b m} ⟨o,es,ep,e,d,r⟩=>⟨o,es,ep,base_of e (noA e d),d,r⟩;have hKb:K.In (a5C bK.heap H):=λb o e=>base_of (KX b o e) (by
   cases q:H b with
   |none=>rfl
   |some u=>
    have e':b=a:=hA b (by rw[q];simp);subst e';rw[hK (by rw[q];simp)] at e;cases e)
  have hM:Mod K mg (a5C bK.heap H):=⟨hKb,nsK hns,⟨mb,nsK hb,hbb⟩,let⟨mc,h1,h2⟩:=hlim;⟨mc,nsK h1,h2⟩⟩;have e0:Env0 P w K mg (a5C bK.heap H) callerA [] bK H:=⟨rfl,hM,λb o e=>b5f e,Nat.le_of_eq (b0g _ _),trivial,λb hb=>absurd (show b∈([]:List Addr) from hb) ⋯,hok,.of_eq hg⟩;refine codeAny_mono ((F _ hKb (nsK hns)).run callerA [] bK H ⟨[.ref a],[]⟩ [.ref a] [.ref a] _ _ hr e0 (hbind bK (.ref a)) (.cons rfl .nil) (eX H hO hS)) λr s' h=>?_;cases r with
  |error e=>exact(hCX H e s' h).elim
  | ok fl=>
   cases fl with
   |next=>exact False.elim h
   |brk=>exact False.elim h
   |cont=>exact False.elim h
   | ret u=>
    obtain⟨v,H',os,bare,un,hok',r',q⟩:=h;have q':v=.bl true:=q;subst q';obtain rfl:u=Value.bool true:=r';refine⟨rfl,OldK.of_keep λb o e=>?_,os,bare⟩;cases q:H b with
    |none=>exact un.keep b o e q (by intro z;exact absurd (show b∈([]:List Addr) from z) ⋯) ⋯
    |some u=>
     rcases hO b with z|⟨ob,xs,z⟩
     · rw[q] at z;cases z
     · have z2:=un.frzs b ob _ z;obtain⟨e1,_⟩:=hok b _ z;obtain⟨e2,_⟩:=hok' b _ z2;rw[e] at e1;cases e1;exact e2
 cases hk:K.lookup a with
 |some o=>
  -- the script is one of the module's own objects
  have e:=KX a o hk;rw[ha] at e;cases e;refine bE (λ_=>none) (λ_=>.inl rfl) (.inr ⟨_,vs.toArray,_,hk,rfl,rfl,rfl,by rw[size_toArray,lenV];exact hl,by simpa using rv⟩) (λb u z=>by have z':(none:Option HO)=some u:=z;cases z') (λb z=>absurd rfl z) λz=>absurd rfl z
 |none=>
  refine bE (λb=>if b=a then some (.frz {cls:=.type "list",data:=.seq vs.toArray} (.lst (ns.map V.int))) else none) (λb=>?_) (.inl (.inr ⟨{cls:=.type "list",data:=.seq vs.toArray},ay rfl⟩)) (λb u z=>?_) (λb z=>?_) λ_=>hk
  · by_cases hb:b=a
    · exact .inr ⟨_,_,ay hb⟩
    · exact .inl (az hb)
  · by_cases hb:b=a
    · have z':=(ay hb).symm.trans z;cases z';subst hb;exact⟨ha,by rw[aa];exact hl,vs,_,rv,ha⟩
    · have z':=(az hb).symm.trans z;cases z'
  · by_cases hb:b=a
    · exact hb
    · exact absurd (az hb) z
abbrev KOf{K:Frag}{h:Heap}(_:K.In h):Frag:=K
variable{n:Nat}{q:Program}{dF:List Str}{XP:(Str->Option Value)->Heap->Prop}{YP:World->Heap->Prop}
theorem b3Y{l:PySem.W.OpenLaw}{k:Nat}{d:DefRec}{K:Params->Frag}{CX:World->CXT}{sp:World->Sp}
 (hn:l.most=some n) (hn2:n<=sizeLine) (hdf:d.params.defaults=[]) (hr:Room k callerA)
 (hY:∀(w:World) (h:Heap),YP w h->(K w.params).In h)
 (F:∀(w:World) (mg:Str->Option Value) (fa:Addr) (h:Heap),(K w.params).In h->h.Ns mainGlobals mg->mg d.name= ~~~fa→
  ∃fd:FuncData,(∀(s:Shared) (u:Value),BindsTo s fd ⟨[u],[]⟩ [(x,u)])∧
   ∀base:Heap,(K w.params).In base->base.Ns mainGlobals mg->FnOk l.prog w (K w.params) mg base (CX w) k fa fd [x] (sp w))
 (eX:∀(w:World) (H:Hp) (a:Addr) (ns:List Int),↥ns<=n->b3V H->SqL (K w.params) H a (ns.map V.int)->sp w [.ref a] H (λv _=>v=.bl true) λ_ _ _=>False)
 (hCX:∀(w:World) (H:Hp) (s:Shared) (e:Value) (s':Shared),CX w [] H s (λ_ _ _=>False) e s'->False):
 PySem.W.WalkO q dF XP YP l.row.toRowW d [] (λf vs=>PySem.call f vs):=by
 refine Att.a7r hn hdf λw s₀ bK mg mb fa o pm cd de a vs ns G Y ho hd eZ hmg hobj fj bR hg=>?_;have KX:=hY w _ Y;obtain⟨fd,hb,hF⟩:=F w mg fa _ KX G.T.g hmg;exact b2i KX G.T.g G.T.b G.T.builtins G.T.nolimit hg hobj fj (aR bR hn2) hr hF hb (λH hO hS=>eX w H a ns bR hO hS) λH e s'=>hCX w H bK e s'
noncomputable def b5x(s:Stmt)(j:Nat):Stmt:=match s with
 |.ClassDef _ _ _ body _ _ _ _ _ _ _=>body.getD j (.Pass ⟨0,0,0,0⟩)
 |_=>.Pass ⟨0,0,0,0⟩
noncomputable def U3(s:Stmt):Arguments:=match s with
 |.FunctionDef _ a _ _ _ _ _ _ _ _=>a
 |_=>{posonlyargs:=[],args:=[],vararg:=none,kwonlyargs:=[],kw_defaults:=[],kwarg:=none,defaults:=[]}
def O0(s:Stmt):List Stmt:=match s with
 |.FunctionDef _ _ b _ _ _ _ _ _ _=>b
 |_=>[]
noncomputable def x5(s:Stmt):Scope:=match s with
 |.FunctionDef _ _ _ _ _ _ sc _ _ _=>sc
 |_=>{kind:=.function,names:=[],isGenerator:=false,isCoroutine:=false}
abbrev CX0:CXT:=λ_ _ _ _ _ _=>False
abbrev E0:XK:=λ_ _ _=>False
variable{X:Cx}
theorem b6B:a4a CX0 X E0:=λ_ _ _ _ _ _ _ h=>h.elim
structure Fun(K:Frag)(x qual:Str)(st:Stmt)(f:Addr)(fd:FuncData):Prop where
 ex:∃(oc:Value) (od:Option Addr) (kV de pm:Value) (an:Option Addr) (cL ct:Value) (eI:Array (Option Value)),
  fd=fnOf x qual (U3 st) (O0 st) (x5 st) .none kV de pm an cL ct/\K.lookup f=some ⟨oc,od,.func fd,eI⟩/\PySem.W.codeIn K cL qual=true
 kp:PySem.W.keepIn K (.ref f)=true
variable{qual:Str}{st:Stmt}{N:List Str}{ps:List Str}{oc:Value}{od:Option Addr}{an:Option Addr}{eI:Array (Option Value)}{de:Value}{pm:Value}{cL:Value}{ct:Value}
section
variable{base:Heap}
theorem Fun.binds{f:Addr}(F:Fun K x qual st f fd)
 (h:∀(kV de pm:Value) (an:Option Addr) (cL ct:Value) (us:List Value),↥us=↥ps->bindArgs (fnOf x qual (U3 st) (O0 st) (x5 st) .none kV de pm an cL ct) ⟨us,[]⟩=pure (ps.zip us)):U5 K fd ps []:=by
 obtain⟨oc,od,kV,de,pm,an,cL,ct,eI,rfl,lk,eZ⟩:=F.ex;exact .all (h kV de pm an cL ct)
theorem b2P{f:Addr}{kV:Value}(l:K.lookup f=some ⟨oc,od,.func (fnOf x qual (U3 st) (O0 st) (x5 st) .none kV de pm an cL ct),eI⟩)
 (c:PySem.W.codeIn K cL qual=true) (k:PySem.W.keepIn K (.ref f)=true):Fun K x qual st f (fnOf x qual (U3 st) (O0 st) (x5 st) .none kV de pm an cL ct):=⟨⟨oc,od,kV,de,pm,an,cL,ct,eI,rfl,l,c⟩,k⟩
end
variable{A:Around}{pos:Pos}
theorem b8k{A B:Prop}(h:B):if false=true then A else B:=by rw[az bq];exact h
theorem b8j{A B:Prop}(h:A):if true=true then A else B:=by rw[ay rfl];exact h
def c3l(H H':Hp):Prop:=∀b o,H b=some o->H' b=some o
variable{H:Hp}{H':Hp}
noncomputable def L5(cells:List (Str×Addr)):List (Str×NameKind)->List (Str×Addr)->List (Str×Addr)
 |[],bP=>bP
 |(n,k)::r,bP=>if k=NameKind.free then(match cells.lookup n with|some c=>L5 cells r ((n,c)::bP)|none=>L5 cells r bP) else L5 cells r bP
theorem W1{cells:List (Str×Addr)}{x:Str}{c:Addr}:∀{l:List (Str×NameKind)} {bP:List (Str×Addr)},(x,c)∈L5 cells l bP->(x,c)∈bP∨((x,NameKind.free)∈l/\cells.lookup x=some c)
 |[],_,h=>.inl h
 | (n, k)::r,bP,h=>by
  unfold L5 at h
  by_cases hk:k=NameKind.free
  · rw [ay hk] at h;cases e:cells.lookup n with
    |none=>
     rw[e] at h;rcases W1 h with q|⟨q,z⟩
     · exact .inl q
     · exact .inr ⟨aE _ q,z⟩
    |some d=>
     rw[e] at h;rcases W1 h with q|⟨q,z⟩
     · rcases aF.mp q with q|q
       · cases q;exact .inr ⟨by rw[hk];exact aY,e⟩
       · exact .inl q
     · exact .inr ⟨aE _ q,z⟩
  · rw[az hk] at h;rcases W1 h with q|⟨q,z⟩
    · exact .inl q
    · exact .inr ⟨aE _ q,z⟩
theorem a0K{cells:List (Str×Addr)}{p:Str×Addr}:∀{l:List (Str×NameKind)} {bP:List (Str×Addr)},p∈bP->p∈L5 cells l bP
 |[],_,h=>h
 | (n,k)::r,bP,h=>by
  unfold L5
  by_cases hk:k=NameKind.free
  · rw[ay hk];cases e:cells.lookup n with
    |none=>exact a0K h
    |some d=>exact a0K (aE _ h)
  · rw[az hk];exact a0K h
theorem a1E{cells:List (Str×Addr)}{x:Str}{c:Addr}(hc:cells.lookup x=some c):∀{l:List (Str×NameKind)} {bP:List (Str×Addr)},(x,NameKind.free)∈l->(x,c)∈L5 cells l bP
 | (n,k)::r,bP,h=>by
  unfold L5;rcases aF.mp h with q|q
  · cases q;rw[ay rfl,hc];exact a0K aY
  · by_cases hk:k=NameKind.free
    · rw[ay hk];cases e:cells.lookup n with
      |none=>exact a1E hc q
      |some d=>exact a1E hc q
    · rw[az hk];exact a1E hc q
theorem a4i{cl:List (Str×Addr)}{c:Addr}:(∀d,(x,d)∈cl->d=c)->(x,c)∈cl->cl.lookup x=some c:=by
 induction cl with
 |nil=>intro _ h;cases h
 |cons p r ih=>
  intro ha h;obtain⟨n,d⟩:=p;rw[lookup_cons]
  by_cases e:x=n
  · subst e;rw[beq_self_eq_true];rw[ha d aY]
  · rw[show(x==n)=false from beq_eq_false_iff_ne.mpr e];refine ih (λd' hd'=>ha d' (aE _ hd')) ?_;rcases aF.mp h with q|q
    · cases q;exact absurd rfl e
    · exact q
variable{cells:List (Str×Addr)}{l:List (Str×NameKind)}
theorem a1B{c:Addr}(hl:(x,NameKind.free)∈l)(hc:cells.lookup x=some c):(L5 cells l []).lookup x=some c:=
 a4i (λd hd=>by
  rcases W1 hd with q|⟨_,z⟩
  · cases q
  · rw[hc] at z;exact(ax z).symm) (a1E hc hl)
theorem R9{c:Addr}(h:(L5 cells l []).lookup x=some c):cells.lookup x=some c:=by
 rcases W1 (PySem.mem_of_lookup h) with q|⟨_,z⟩
 · cases q
 · exact z
theorem a1b{env:Env}{f:Str×NameKind->List (Str×Addr)->Sem (ForInStep (List (Str×Addr)))}
 (hf:∀n k r,f (n,k) r=if(k==NameKind.free)=true then(cellOf env n>>=λa=>pure (ForInStep.yield ((n,a)::r))) else pure (ForInStep.yield r)):
 ∀(l:List (Str×NameKind)) (bP:List (Str×Addr)),(∀y∈l,y.2=NameKind.free->∃c,env.cells.lookup y.1=some c)->(forIn l bP f:Sem (List (Str×Addr)))=pure (L5 env.cells l bP)
 |[],bP,_=>rfl
 | (n,k)::r,bP,h=>by
  rw[forIn_cons,hf];unfold L5
  by_cases hk:k=NameKind.free
  · subst hk;obtain⟨c,hc⟩:=h (n,.free) aY rfl;have eM:env.cells.lookup n=some c:=hc;have e1:cellOf env n=pure c:=by unfold cellOf;rw[eM]
    rw[ay (beq_self_eq_true _),ay rfl,e1,eM];simp only[pure_bind];exact a1b hf r _ λy hy=>h y (aE _ hy)
  · have hb:¬(k==NameKind.free)=true:=λz=>hk (by simpa using z);rw[az hb,az hk];simp only[pure_bind];exact a1b hf r _ λy hy=>h y (aE _ hy)
variable{scope:Scope}{env:Env}
theorem a0S(h:∀y∈scope.names,y.2=NameKind.free->∃c,env.cells.lookup y.1=some c):closureFor scope env=pure (L5 env.cells scope.names []):=by
 unfold closureFor
 dsimp only
 rw[a1b (env:=env) (λn k r=>by rfl) scope.names [] h];rfl
theorem a2v{k:NameKind}(h:(relabel scope env).names.lookup x=some k):(x,k)∈scope.names∨((x,NameKind.free)∈scope.names/\k=.cell):=by
 obtain⟨⟨n,k'⟩,hm,e⟩:=al.mp (PySem.mem_of_lookup h)
 dsimp only at e
 split at e
 · rename_i hc;cases e;have hk:k'=NameKind.free:=by simp only[ae,beq_iff_eq] at hc;exact hc.1.1
   exact .inr ⟨hk▸hm,rfl⟩
 · cases e;exact .inl hm
theorem a1x{env:Env}:∀{names:List (Str×NameKind)} {x:Str},names.lookup x=some .free→
 (names.map fun(n,k)=>if(k==NameKind.free&&env.scope.kind==.function&&env.kindOf n==some .cell) then(n,NameKind.cell) else(n,k)).lookup x=some .cell∨
 (names.map fun(n,k)=>if(k==NameKind.free&&env.scope.kind==.function&&env.kindOf n==some .cell) then(n,NameKind.cell) else(n,k)).lookup x=some .free
 |[],_,h=>by simp at h
 | (n,k)::r,x,h=>by
  have ih:= @a1x env r x;rw[map_cons];cases hx:x==n with
  |true=>
   simp only[lookup_cons,hx] at h;cases h
   by_cases hc:(NameKind.free==NameKind.free&&env.scope.kind==.function&&env.kindOf n==some .cell)=true
   · refine .inl ?_;simp only[ay hc,lookup_cons,hx]
   · refine .inr ?_;simp only[az hc,lookup_cons,hx]
  |false=>
   simp only[lookup_cons,hx] at h
   by_cases hc:(k==NameKind.free&&env.scope.kind==.function&&env.kindOf n==some .cell)=true
   · simp only[ay hc,lookup_cons,hx];exact ih h
   · simp only[az hc,lookup_cons,hx];exact ih h
structure CompScope(sc scope:Scope)(own frees:List Str):Prop where
 kind:scope.kind=.function
 nocell:∀y∈scope.names,y.2≠.cell
 locs:∀y∈scope.names,y.2=.local->scope.names.lookup y.1=some .local
 out:∀y∈scope.names,y.2=.free->sc.names.lookup y.1=some .cell
 nd:(own++frees).Nodup
 ownL:∀x∈own,scope.names.lookup x=some .local
 fr:∀x∈frees,scope.names.lookup x=some .free
def w6(X:Cx)(own frees:List Str)(scope:Scope)(C:Addr)(s₀:Shared)(H₀:Hp)(ex:List Addr):Cx:=
 { prog:=X.prog,w:=X.w,K:=X.K,mg:=X.mg,base:=X.base,A:=X.A,N:=own++frees,s₀:=s₀,H₀:=H₀,env:=compEnvC scope (L5 X.env.cells scope.names []) C X.env,
   outer:=X.stack,stack:=X.stack,ex:=ex,fn:=λ_=>false,calm:=X.calm,pn:=[],xe:=λ_ _=>False}
def F8(own:List Str)(js:List Nat)(σ:St):St:=own.map (λ_=>none)++js.map (λj=>(σ[j]?).join)
def Wk(σ bQ:St):Prop:=↥σ=↥bQ/\∀(i:Nat) (v:V),σ[i]? =some (some v)->bQ[i]? =some (some v)
variable{σ:St}{v:V}
def a7s(X:Cx)(ifs:List Expr)(t:TT):Prop:=
 ∀(bC:List (Addr×Obj)) (s:Shared) (σ:St) (H:Hp) (Q:Bool->Hp->Prop),Inv X bC σ H s->t σ H Q→
  wpAny (model X.prog X.w) X.A (forIn ifs true λc r=>if r=true then do let ok←isTrue c X.env (eval c X.env);pure (ForInStep.yield ok) else pure (ForInStep.yield r)) (TP X bC σ Q) X.xe s
theorem b4P:a7s X [] (λ_ H Q=>Q true H):=λ_ _ _ H _ I h=>wpAny_tests_nil ⟨H,I,h⟩
variable{c:Expr}
theorem b4O{t:TT}(h:PT X c t):a7s X [c] t:=λbC s σ H Q I q=>wpAny_tests_one (h bC s σ H Q I q)
variable{iter:Expr}
section
variable{prog:Program}{R:Result->Shared->Prop}{s:Shared}
theorem a5O{cK target:Expr}{ifs:List Expr}{it bP:Value}(I:Nat->Shared->Prop)
 (ee:∀n s,I n s->wpAny (model prog w) A (pyNext it) (λr bK=>match r with
  |none=>R (.ok .next) bK
  | some v=>wpAny (model prog w) A (letOwnedTupleGo target it v) (λ_ s₁'=>wpAny (model prog w) A (assign target env v) (λ_ df=>
   wpAny (model prog w) A (forIn ifs true λc r=>if r=true then do let ok←isTrue c env (eval c env);pure (ForInStep.yield ok) else pure (ForInStep.yield r)) (λok eG=>
    if ok=true then wpAny (model prog w) A (eval cK env) (λx s₄=>
     wpAny (model prog w) A (call (.builtin "list.append") [bP,x]) (λ_ s₅=>∃m,m<n/\I m s₅) (λ_ _=>False) s₄) (λ_ _=>False) eG
    else∃m,m<n/\I m eG) (λ_ _=>False) df) (λ_ _=>False) s₁') (λ_ _=>False) bK) (λ_ _=>False) s)
 (n:Nat) (h:I n s):codeAny (model prog w) A (.compLoop (.ListComp cK [⟨target,iter,ifs,0⟩] scope pos) 0 it bP env) R s:=by
 have no:∀{α:Type} {t:Sem α} {Q:α->Shared->Prop} {E:Value->Shared->Prop} {s:Shared},wpAny (model prog w) A t Q (λ_ _=>False) s->wpAny (model prog w) A t Q E s:=
  λh=>gv h (λ_ _ q=>q) λ_ _ z=>z.elim
 refine codeAny_loop rfl I (λn s hI=>?_) n h;show wpAny _ A ((compTurn (.ListComp cK [⟨target,iter,ifs,0⟩] scope pos) 0 it bP env).onRaise (λx=>do noteFrame x env;theTreesLotGoes x)) _ _ s;refine wpAny_noted ?_;rw[compTurn_list];refine fv (wpAny_standAt (fv (no (gv (ee n s hI) (λr bK dS=>?_) λ_ _ h'=>h'))));cases r with
 |none=>exact fG dS
 | some v=>
  refine fv (no (gv dS (λ_ s₁' h₁'=>?_) λ_ _ h'=>h'));refine fv (no (gv h₁' (λ_ df h₂=>fv (no (gv h₂ (λok eG h₃=>?_) λ_ _ h'=>h'))) λ_ _ h'=>h'));cases ok with
  |false=>exact fG ⟨rfl,h₃⟩
  |true=>
   exact fv (fv (no (gv h₃ (λx s₄ h₄=>fv (no (gv h₄ (λ_ s₅ h₅=>fG (fG ⟨rfl,h₅⟩)) λ_ _ h'=>h'))) λ_ _ h'=>h')))
end
variable{h:Heap}{h':Heap}
noncomputable def a8t(own:List Str)(js:List Nat)(wi:TI)(g:TG)(tc:TT)(te:TE):TE:=λσ H Q=>wi σ H λJ H1=>∀D,H1 D=none→
 ∃ W:Nat->Nat->List V->Hp->Prop,(∃m,W 0 m [] (upd H1 D (.lst [])))/\∀i m ys H2,W i m ys H2→
  (J.stop i H2/\Q (.ref D) H2)∨(J.go i H2/\∀x H3,J.yld i H2 x H3->g x (F8 own js σ) H3 λσ4 H4=>Wk (F8 own js σ) σ4/\tc σ4 H4 λb H5=>
   if b=true then te σ4 H5 λy H6=>H6 D=some (.lst ys)/\↥ys<sizeLine/\∃m',m'<m/\W (i+1) m' (ys++[y]) (upd H6 D (.lst (ys++[y])))
   else∃m',m'<m/\W (i+1) m' ys H5)
variable{bC:List (Addr×Obj)}{C:Addr}{fp:List Addr}{s':Shared}{m:Str->Option Value}
section
variable{cK tg:Expr}{ifs:List Expr}{own frees:List Str}{js:List Nat}{wi:TI}{g:TG}{tc:TT}{te:TE}
theorem b6k{s:Shared}(I:Inv X bC σ H s)(S:CompScope X.env.scope scope own frees)(hC:s.heap.objs.size<=C)
 (hf:∀b∈fp,a2L X bC H b) (ho:∀b∈fp,∃o,s.heap.get? b=some o):(w6 X own frees scope C s H fp).Ok:=by
 have cellX:∀x c,(L5 X.env.cells scope.names []).lookup x=some c->X.env.cells.lookup x=some c:=λx c e=>R9 e;refine⟨I.ok.mod,S.kind,I.ok.glob,I.ok.blt,hC,λx y c h1 h2=>I.ok.inj x y c (cellX x c h1) (cellX y c h2),λx hx=>?_,λx c h=>(bq h).elim,I.ok.hd,I.ok.frames,.inl rfl,λb hb=>⟨?_,λx c e=>(hf b hb).2.2.2.2.1 x c (cellX x c e)⟩,
  I.bs,aR I.ok.bsz I.sz,λb o e hb=>?_,λb hb hm=>?_,I.stack,I.stkFree⟩
 · have dY:(relabel scope X.env).names.lookup x=some .cell∨(relabel scope X.env).names.lookup x=some .free:=hx;have hm:(x,NameKind.free)∈scope.names:=by
    rcases dY with q|q
    · rcases a2v q with z|z
      · exact absurd rfl (S.nocell _ z)
      · exact z.1
    · rcases a2v q with z|z
      · exact z
      · exact z.1
   obtain⟨c,hc⟩:=I.ok.has x (.inl (S.out _ hm rfl));exact⟨c,a1B hm hc⟩
 · intro e;obtain⟨o,q⟩:=ho b hb;have e':b=C:=e;have:=fH q;rw[e'] at this;exact absurd (aC this hC) (aQ _)
 · rcases(hf b hb).2.2.2.1 with z|z
   · exact I.ok.noex b o e z
   · exact absurd (aC (aC (fH e) I.ok.bsz) z) (aQ _)
 · rcases aF.mp (I.stkSub b hm) with z|z
   · exact(hf b hb).2.1 z
   · exact(hf b hb).2.2.1 z
theorem b3C {s:Shared} (I:Inv X bC σ H s) (S:CompScope X.env.scope scope own frees) (hj:frees.map some=js.map (X.N[·]?)) (hC:s.heap.objs.size<=C)
 (hf:∀b∈fp,a2L X bC H b) (ho:∀b∈fp,∃o,s.heap.get? b=some o) (os:s'.os=s.os) (bare:AllBare s'.gens) (k:∀b o,s.heap.get? b=some o->s'.heap.get? b=some o) (un:Un (frs X.stack) fp H H' s.heap s'.heap)
 (hn:s'.heap.Ns C m) (hCn:H' C=none) (hok:HOk X.prog X.w H' s'.heap) (hcl:∀x c,X.env.cells.lookup x=some c->H' c=none):
 Inv (w6 X own frees scope C s H fp) [] (F8 own js σ) H' s':=by
 have bR:↥frees=↥js:=by have:=fM List.length hj;simpa using this
 refine⟨b6k I S hC hf ho,os,bare,un,⟨m,hn,λi x v h1 h2 h3=>?_⟩,λx c e=>?_,hCn,λx c e=>hcl x c (R9 e),λp hp=>absurd (show p∈([]:List (Addr×Obj)) from hp) ⋯,hok,?_⟩
 · have h1':(own++frees)[i]? =some x:=h1;unfold F8 at h2
   by_cases hi:i<↥own
   · rw[av (by simpa using hi),ak] at h2;cases q:own[i]? with
     |none=>rw[q] at h2;cases h2
     |some z=>rw[q] at h2;cases h2
   · have hi':↥own<=i:=aU hi;rw[au hi'] at h1';rw[au (by simpa using hi'),aa,ak] at h2;cases q:js[i-↥own]? with
     |none=>rw[q] at h2;cases h2
     | some j=>
      rw[q] at h2;have h2':(σ[j]?).join=some v:=ax h2;have hσ:σ[j]? =some (some v):=by
       cases z:σ[j]? with
       |none=>rw[z] at h2';cases h2'
       |some w'=>rw[z] at h2';exact fM some h2'
      have hX:X.N[j]? =some x:=by have e:=fM (λl=>l[i-↥own]?) hj;rw[ak,ak,h1',q] at e;exact(ax e).symm
      have hm:(x,NameKind.free)∈scope.names:=PySem.mem_of_lookup (S.fr x (aH h1'));have dG:=S.out _ hm rfl;obtain⟨m0,hn0,hl0⟩:=I.loc;obtain⟨u,ru,l⟩:=hl0 j x v hX hσ (.inr (.inl dG));refine⟨u,ru,?_⟩;rcases l with⟨q1,_⟩|⟨_,c,e,z⟩
      · have q1':X.env.scope.names.lookup x=some .local:=q1;rw[dG] at q1';cases q1'
      · refine .inr ⟨a1x (S.fr x (aH h1')),c,a1B hm e,?_⟩;obtain⟨o,eo,d⟩:=z;exact⟨o,k c o eo,d⟩
 · obtain⟨v,o,eo,d⟩:=I.cell x c (R9 e);exact⟨v,o,k c o eo,d⟩
 · show(F8 own js σ).length=↥(own++frees);unfold F8;rw[aq,aa,aa,aq,bR]
end
variable{Q:Value->Shared->Prop}
section
def c2u:V->Option Int->Option Int->Hp->VK->Prop:=λx lo hi H Q=>∃z,x=.str z/\↥z<=sizeLine/\Q (.str (Txt.slice z lo hi)) H
theorem b7i:SlR X c2u:=by
 intro bC s σ H x v vl vu lo hi sl Q I rx hs pl pu h;obtain⟨z,rfl,hz,q⟩:=h;obtain⟨t,rfl⟩:=rx;have cJ:∀(t':Tok) (k:Nat),EP X bC σ Q (.str (Txt.slice z lo hi) t') {s with toks:=k}:=λt' k=>⟨.str _,H,I.tok _,⟨_,rfl⟩,q⟩;refine⟨"str",_,PySem.F.slot_str_getitem.lookup,typeIs_str _ _ _,?_⟩;obtain⟨o,e1,e2,e3⟩:=hs;cases pl with
 |none=>
  cases pu with
  |none=>exact gJ (l:=none) (u:=none) (st:=none) ⟨o,e1,e2,e3⟩ rfl (post_val_or_str ⟨aR (gX z _ _) hz,λt' k=>cJ t' k⟩)
  |int j uj=>exact gJ (l:=none) (u:=some (j,uj)) (st:=none) ⟨o,e1,e2,e3⟩ rfl (post_val_or_str ⟨aR (gX z _ _) hz,λt' k=>cJ t' k⟩)
 |int i ui=>
  cases pu with
  |none=>exact gJ (l:=some (i,ui)) (u:=none) (st:=none) ⟨o,e1,e2,e3⟩ rfl (post_val_or_str ⟨aR (gX z _ _) hz,λt' k=>cJ t' k⟩)
  |int j uj=>exact gJ (l:=some (i,ui)) (u:=some (j,uj)) (st:=none) ⟨o,e1,e2,e3⟩ rfl (post_val_or_str ⟨aR (gX z _ _) hz,λt' k=>cJ t' k⟩)
theorem a4l:∀l:List (Str×Tok),p7 ((l.map (·.1)).map V.str) (strValues l)
 |[]=>.nil
 |(x,t)::r=>.cons ⟨t,rfl⟩ (a4l r)
theorem a4n:∀{xs:List Str} {us:List Value},p7 (xs.map V.str) us->∃l:List (Str×Tok),us=strValues l/\l.map (·.1)=xs
 |[],us,r=>by rw[map_nil] at r;cases r;exact⟨[],rfl,rfl⟩
 | x::xs,us,r=>by
  rw[map_cons] at r;cases r with
  |cons r1 r2=>
   obtain⟨t,rfl⟩:=r1;obtain⟨l,rfl,rfl⟩:=a4n r2;exact⟨(x,t)::l,rfl,rfl⟩
def b7p:V->List V->Hp->VK->Prop:=λx vs H Q=>∃z y,x=.str z/\vs=[.str y]/\0<↥y/\↥z+2<=sizeLine/\∀p,H p=none->Q (.ref p) (upd H p (.lst ((Txt.split z y).map V.str)))
theorem b1U:MtR X "str.split" b7p:=by
 intro bC s σ H x vs v us Q I rx rv h;obtain⟨z,y,rfl,rfl,hy0,hz,q⟩:=h;obtain⟨t,rfl⟩:=rx;obtain⟨u,rfl,tu,rfl⟩:=rv.one;have hy:(↥y==0)=false:=by rw[beq_eq_false_iff_ne];ac_nf
 have cJ:∀(l:List (Str×Tok)) (k:Nat),l.map (·.1)=Txt.split z y->EP X bC σ Q (.ref s.heap.objs.size) {s with toks:=k,heap:=s.heap.push {cls:=.type "list",data:=.seq (strValues l).toArray}}:=λl k e=>by
  refine⟨.ref s.heap.objs.size,upd H s.heap.objs.size (.lst ((Txt.split z y).map V.str)),?_,rfl,q _ (I.hok.fresh (aj _))⟩;refine I.laid (t':=k) (λb o e=>fF _ e) (aj _) ⟨?_,strValues l,0,?_,fI _ rfl⟩
  · rw[aa];exact aR (split_le z y) hz
  · rw[←e];exact a4l l
 cases h1:(decide (↥z<↥y)||decide (strKind z<strKind y))
 · cases hf:(occurrences z y 0 ↥z (↥z+1)).isEmpty
   · have es:Txt.split z y=partsBetween z (occurrences z y 0 ↥z (↥z+1)) ↥y:=(az (ne_true_of_eq_false h1)).trans (az (ne_true_of_eq_false hf));refine call_meets slot_str_split (typeIs_str _ _ _) entry_str_split (args_str_split_2 _ _) (meets_str_split_sep z y t tu h1 hy hf nofun (by rw[←es];exact aR (split_le z y) hz)) ?_;show wants _ _ _ {s with toks:=_,heap:=s.heap.push {cls:=.type "list",data:=.seq (strsFrom s.toks (partsBetween z (occurrences z y 0 ↥z (↥z+1)) ↥y)).toArray}};rw[strsFrom_eq];exact cJ (numbered s.toks _) _ ((numbered_texts _ _).trans es.symm)
   · exact call_meets slot_str_split (typeIs_str _ _ _) entry_str_split (args_str_split_2 _ _) (meets_str_split_not_found z y t tu h1 hy hf)
      (cJ [(z,t)] s.toks ((az (ne_true_of_eq_false h1)).trans (ay hf)).symm)
 · exact call_meets slot_str_split (typeIs_str _ _ _) entry_str_split (args_str_split_2 _ _) (meets_str_split_cannot_occur z y t tu h1)
    (cJ [(z,t)] s.toks (ay h1).symm)
def b4D:V->List V->Hp->VK->Prop:=λx vs H Q=>∃z y,x=.str z/\vs=[.str y]/\Q (.bl (Txt.startswith z y)) H
theorem a9X:MtR X "str.startswith" b4D:=by intro bC s σ H x vs v us Q I rx rv h;obtain⟨z,y,rfl,rfl,q⟩:=h;obtain⟨t,rfl⟩:=rx;obtain⟨u,rfl,tu,rfl⟩:=rv.one;exact call_gives PySem.F.slot_str_startswith (typeIs_str _ _ _) PySem.F.entry_str_startswith (PySem.F.args_str_startswith_2 _ _) (gives_str_startswith z y t tu) ⟨.bl _,H,I,rfl,q⟩
def c0c(K:Frag):V->List V->Hp->VK->Prop:=λx vs H Q=>∃z p ts,x=.str z/\vs=[.ref p]/\SqL K H p (ts.map V.str)/\JoinOk z ts=true/\Q (.str (Txt.join z ts)) H
theorem b5j:MtR X "str.join" (c0c X.K):=by intro bC s σ H x vs v us Q I rx rv h;obtain⟨z,p,ts,rfl,rfl,hp,hok,q⟩:=h;obtain⟨t,rfl⟩:=rx;obtain⟨u,rfl,ru⟩:=rv.one;cases ru;obtain⟨bF,r,pl,hz⟩:=I.list hp;obtain⟨l,rfl,e⟩:=a4n r;exact SC.join pl.isList e hok λt' k=>⟨.str _,H,I.tok _,⟨_,rfl⟩,q⟩
theorem a7p:∀{bs:List Bool} {us:List Value},p7 (bs.map V.bl) us->us=bs.map Value.bool
 |[],us,r=>by rw[map_nil] at r;cases r;rfl
 | b::bs,us,r=>by
  rw[map_cons] at r;cases r with
  |cons r1 r2=>
   cases r1;rw[a7p r2];rfl
theorem a9M(bs:List Bool)(p:Bool->Bool):(List.range ↥bs).all (λi=>p (bs.getD i true))=bs.all p:=by
 induction bs with
 |nil=>rfl
 |cons b r ih=>
  rw[length_cons,List.range_succ_eq_map,all_cons,all_map,all_cons,←ih];rfl
theorem a9L(bs:List Bool)(p:Bool->Bool):(List.range ↥bs).any (λi=>p (bs.getD i true))=bs.any p:=by
 induction bs with
 |nil=>rfl
 |cons b r ih=>
  rw[length_cons,List.range_succ_eq_map,any_cons,List.any_map,any_cons,←ih];rfl
theorem a4O{s:Shared}{p:Addr}{bs:List Bool}(hc:X.calm=true)(I:Inv X bC σ H s)(hp:SqL X.K H p (bs.map V.bl)){E:Value->Shared->Prop}{f:(Nat->Bool)->Bool}
 (hq:∀s',Inv X bC σ H s'->Q (.bool (f λi=>bs.getD i true)) s'):
 wpAny (model X.prog X.w) X.A.in1 (pyIter (.ref p)) (λit df=>∃I fp wr n P St tr,it=.ref I/\Walks X.prog X.w X.A.in1 I fp wr n P St/\St 0 df.heap/\TruthOf X.prog X.w X.A.in1 P tr/\n=↥bs∧
  ∀h' tk,(∀b o,b∉wr->df.heap.get? b=some o->h'.get? b=some o)->Q (.bool (f tr)) {df with heap:=h',toks:=tk}) E s:=by
 obtain⟨bF,r,pl,hz⟩:=I.list hp;have e:=a7p r;subst e;have eY:p≠s.heap.objs.size:=by obtain⟨o,n,e,_⟩:=pl;exact fN (fH e)
 refine gY pl.isList ⟨s.heap.objs.size,_,_,_,_,_,λi=>bs.getD i true,rfl,Walks.list (A:=X.A.in1) (I.ok.hd hc) s.heap.objs.size p eY (bs.map Value.bool).toArray,⟨⟨_,fI _ rfl,rfl,rfl⟩,?_⟩,?_,?_,?_⟩
 · exact pl.isList.at λo e=>fF _ e
 · intro i v s' Q' E' hP hQ;have hP':(bs.map Value.bool).toArray[i]? =some v:=hP;rw[List.getElem?_toArray,ak] at hP';cases q:bs[i]? with
   |none=>rw[q] at hP';cases hP'
   |some b=>
    rw[q] at hP';cases hP';have:bs.getD i true=b:=by rw[bv,q];rfl
    have hQ':Q' b s':=this▸hQ;exact gb hQ'
 · simp
 · intro h' tk k;exact hq _ (I.kept λb o e=>k b o (by
    have:=fN (fH e)
    simpa using this) (fF _ e))
theorem b3H(hc:X.calm=true):G5 X (.builtin "all") (λxs H Q=>∃(p:Addr) (bs:List Bool),xs=[.ref p]/\SqL X.K H p (bs.map V.bl)/\Q (.bl (bs.all id)) H):=by
 intro bC s σ H xs us Q I r h;obtain⟨p,bs,rfl,hp,q⟩:=h;obtain⟨u,rfl,ru⟩:=T7 r;cases ru;refine call_all_walk (thn (a4O (f:=λtr=>(List.range ↥bs).all tr) (Q:=EP X bC σ Q) hc I hp λs' I'=>⟨.bl (bs.all id),H,I',?_,q⟩) λit s2 zz=>?_)
 · show Value.bool _=Value.bool _;exact fM Value.bool (a9M bs id)
 · obtain⟨i,fp,wr,n,P,St,tr,e1,e2,e3,e4,e5,e6⟩:=zz;refine⟨i,fp,wr,n,P,St,tr,e1,e2,e3,e4,?_⟩;subst e5;exact e6
theorem b3G(hc:X.calm=true):G5 X (.builtin "any") (λxs H Q=>∃(p:Addr) (bs:List Bool),xs=[.ref p]/\SqL X.K H p (bs.map V.bl)/\Q (.bl (bs.any id)) H):=by
 intro bC s σ H xs us Q I r h;obtain⟨p,bs,rfl,hp,q⟩:=h;obtain⟨u,rfl,ru⟩:=T7 r;cases ru;refine call_any_walk (thn (a4O (f:=λtr=>(List.range ↥bs).any tr) (Q:=EP X bC σ Q) hc I hp λs' I'=>⟨.bl (bs.any id),H,I',?_,q⟩) λit s2 zz=>?_)
 · show Value.bool _=Value.bool _;exact fM Value.bool (a9L bs id)
 · obtain⟨i,fp,wr,n,P,St,tr,e1,e2,e3,e4,e5,e6⟩:=zz;refine⟨i,fp,wr,n,P,St,tr,e1,e2,e3,e4,?_⟩;subst e5;exact e6
theorem a5T:G5 X (.type "int") (λxs H Q=>∃z n,xs=[.str z]/\↥z<=640/\PySem.intText? z=some n/\Q (.int n) H):=by intro bC s σ H xs us Q I r h;obtain⟨z,n,rfl,hz,hn,q⟩:=h;obtain⟨u,rfl,t,rfl⟩:=T7 r;exact PySem.W.KIN.call_text hn hz ⟨.int n,H,I.tok _,⟨_,rfl⟩,q⟩
end
section
variable{s:Shared}
theorem Inv.turnedF{t':Nat}(I:Inv X bC σ H s)(hf:∀b∈fp,a2L X bC H b)(k:∀b u,b∉fp->s.heap.get? b=some u->h'.get? b=some u):Inv X bC σ H {s with heap:=h',toks:=t'}:=by
 have nit:∀b u,H b=some u->b∉fp:=λb u e z=>by rw[(hf b z).1] at e;cases e
 refine I.step (g':=s.gens) (d':=s.drawn) (ch:=fp) (λb hb=>⟨(hf b hb).2.2.2.1,(hf b hb).2.1,(hf b hb).2.2.2.2.1,(hf b hb).2.2.2.2.2⟩) (λb o _ _ hc e _=>k b o hc e) (λb o _ _ hc e _=>⟨o.slots,k b o hc e⟩) (λ_ _ _ _ n=>n)
  (λb o hc e=>⟨o,k b o hc e⟩) (λ_ _ e=>e) (λ_ _ _ e=>e) (λb ps e=>⟨#[],by rw[e];simp⟩) (λm hm=>?_) (λb u e=>?_) I.bare
 · obtain⟨o,es,ep,ho,r⟩:=hm;exact⟨o,es,ep,k _ o (λz=>(hf _ z).2.1 rfl) ho,r⟩
 · refine(I.hok b u e).stay (λc v hc q=>k c v ?_ q) (λ_ q=>q) λ_ _ q=>q;rcases hc with z|z
   · rw[z];exact nit b u e
   · exact nit c _ z
theorem Inv.turnedN{t':Nat}{T:Addr}{o:HO}(I:Inv X bC σ H s)(hf:∀b∈fp,a2L X bC H b)(k:∀b u,b∉fp->s.heap.get? b=some u->h'.get? b=some u)(hT:s.heap.objs.size<=T)(new:J4 X.prog X.w (upd H T o) h' T o):
 Inv X bC σ (upd H T o) {s with heap:=h',toks:=t'}:=by
 have hn:H T=none:=I.hok.fresh hT;have nit:∀b u,H b=some u->b∉fp:=λb u e z=>by rw[(hf b z).1] at e;cases e
 have ne:∀b u,s.heap.get? b=some u->b≠T:=λb u e=>fN (aC (fH e) hT);have up:∀b u,H b=some u->upd H T o b=some u:=λb u e=>by rw[j9 (y0 e hn)];exact e
 refine I.step (g':=s.gens) (d':=s.drawn) (ch:=fp) (λb hb=>⟨(hf b hb).2.2.2.1,(hf b hb).2.1,(hf b hb).2.2.2.2.1,(hf b hb).2.2.2.2.2⟩) (λb u _ _ hc e _=>k b u hc e) (λb u _ _ hc e _=>⟨u.slots,k b u hc e⟩) (λb u _ e n=>by rw[j9 (ne b u e)];exact n)
  (λb u hc e=>⟨u,k b u hc e⟩) (λb xs e=>up b _ e) (λb u xs e=>up b _ e) (λb ps e=>⟨#[],by rw[up b _ e];simp⟩) (λm hm=>?_) (λb u e=>?_) I.bare
 · obtain⟨u,es,ep,ho,r⟩:=hm;exact⟨u,es,ep,k _ u (λz=>(hf _ z).2.1 rfl) ho,r⟩
 · by_cases hb:b=T
   · subst hb;rw[g9] at e;cases e;exact new
   · rw[j9 hb] at e;refine(I.hok b u e).stay (λc v hc q=>k c v ?_ q) (λc q=>up c _ q) λc xs q=>up c _ q;rcases hc with z|z
     · rw[z];exact nit b u e
     · exact nit c _ z
end
noncomputable def Its(x:Str):It:=⟨λi _=>i<x.cps.size,λi H v H'=>H'=H/\∃c,x.cps[i]? =some c/\v=.str ⟨#[c]⟩,λi _=>i=x.cps.size⟩
variable{tg:Expr}
theorem a6f{K:Frag}{ty:String}(x:Str)(t:Tok)(it:Addr)(hty:["enumerate","zip","dict_itemiterator","dict_reverseitemiterator","odict_iterator","itertools.zip_longest","itertools.pairwise"].contains ty=false)
 (W:∀A:Around,A.handled=none->Walks P w A it [it] [it] x.cps.size (SignAt x) (λi h=>h.IsStrIter it ty x t i))
 (Sf:∀(A:Around) (i:Nat) (s:Shared) (Q:Value->Shared->Prop) (E:Value->Shared->Prop),s.heap.IsStrIter it ty x t i->Q (.ref it) s->wpAny (model P w) A (pyIter (.ref it)) Q E s):Turn P w K tg (Its x) [it] it (λi h=>h.IsStrIter it ty x t i) where
 mem:=by simp
 obj:=λi h st b hb=>by
  have e:b=it:=by simpa using hb
  subst e;obtain⟨o,e,c,d⟩:=st;exact⟨o,e,λv z=>by rw[d] at z;cases z⟩
 keep:=λi h h' st k=>let⟨o,e,r⟩:=st;⟨o,k it ⋯ o e,r⟩
 item:=by intro X hP hw hK hc i bC s σ H E I hf st hg;subst hP hw hK;refine(W X.A (I.ok.hd hc)).item i s _ _ hg st λv h' tk hv eh kk=>?_;obtain⟨c,u,hcx,rfl⟩:=hv;have I1:Inv X bC σ H {s with heap:=h',toks:=tk}:=I.turnedF hf λb o hb e=>kk b o hb e;obtain⟨o,e,hcl,d⟩:=id eh;exact⟨_,rfl,a6S (s:={s with heap:=h',toks:=tk}) e hcl d hty ⟨.str ⟨#[c]⟩,H,I1,⟨u,rfl⟩,⟨rfl,c,hcx,rfl⟩,eh,λb hb=>(hf b hb).1⟩⟩
 done:=by intro X hP hw hK hc i bC s σ H E I hf st hg;subst hP hw hK;have hg':i=x.cps.size:=hg;subst hg';exact(W X.A (I.ok.hd hc)).done s _ _ st λh' tk k=>⟨rfl,I.turnedF (t':=tk) hf λb o hb e=>k b o hb e⟩
 self:=λA i s Q E st h=>Sf A i s Q E st h
variable{tb:TS}
section
def c2K(tl:TE):TI:=λσ H R=>tl σ H λx H1=>∃z,x=.str z/\R (Its z) H1
theorem b7D{l:Expr}{tl:TE}(hl:PE X l tl):PI X tg l (c2K tl):=by
 intro bC s σ H R I h;refine thn (hl bC s σ H _ I h) λv s1 zz=>?_;obtain⟨x,H1,I1,r1,z,e,q⟩:=zz;subst e;obtain⟨t,rfl⟩:=r1;have fp:∀b∈[s1.heap.objs.size],a2L X bC H1 b:=λb hb=>by
  have e:b=s1.heap.objs.size:=by simpa using hb
  subst e;exact I1.fpOk (aj _) (I1.hok.fresh (aj _))
 cases ha:z.cps.all (· <128)
 · exact wpAny_pyIter_wide ha ⟨s1.heap.objs.size,[s1.heap.objs.size],_,_,H1,rfl,I1.kept (t':=s1.toks) λb o e=>fF _ e,a6f (ty:="str_iterator") z t _ ∅ (λA hA=>Walks.strWide hA _ z t) (λA i s Q E st h=>wpAny_pyIter_striter_wide st h),
    ⟨_,fI _ rfl,rfl,rfl⟩,fp,q⟩
 · exact wpAny_pyIter_ascii ha ⟨s1.heap.objs.size,[s1.heap.objs.size],_,_,H1,rfl,I1.kept (t':=s1.toks) λb o e=>fF _ e,a6f (ty:="str_ascii_iterator") z t _ ∅ (λA hA=>Walks.strAscii hA _ z t) (λA i s Q E st h=>wpAny_pyIter_striter_ascii st h),
    ⟨_,fI _ rfl,rfl,rfl⟩,fp,q⟩
end
noncomputable def Ite(K:Frag)(l:Addr):It:=⟨λi H=>∃xs x,SqL K H l xs/\xs[i]? =some x,λi H v H'=>∃T x,H T=none/\v=.ref T/\(∀xs,SqL K H l xs->xs[i]? =some x)/\H'=upd H T (.tup [.int i,x]),λi H=>∃xs,SqL K H l xs/\↥xs<=i⟩
variable{dP:List Expr}
theorem a9B{k:Nat}(e it l:Addr)(hei:e≠it):
 Turn P w K (.Tuple dP k pos) (Ite K l) [e,it] e (λi h=>(∃eJ,IsEnum h e it i eJ)/\h.IsListIter it l i) where
 mem:=by simp
 obj :=λi h st b hb=>by
  obtain⟨⟨eJ,he⟩,o,e1,c,d⟩:=st;rcases aF.mp hb with z|z
  · subst z;exact⟨_,he,λv z=>by have z':Data.fields _=Data.cell v:=z;cases z'⟩
  · have z':b=it:=by simpa using z
    subst z';exact⟨o,e1,λv z=>by rw[d] at z;cases z⟩
 keep:=λi h h' st k=>by obtain⟨⟨eJ,he⟩,em⟩:=st;exact⟨⟨eJ,k e ⋯ _ he⟩,em.at λo x=>k it ⋯ o x⟩
 item:=by
  intro X hP hw hK hc i bC s σ H E I hf st hg;subst hP hw hK;obtain⟨⟨eJ,he⟩,em⟩:=st;obtain⟨xs,x,hq,hx⟩:=hg;obtain⟨bF,rv,p,hz⟩:=I.list hq;obtain⟨u,hu,ru⟩:=rv.get hx;have helt:e<s.heap.objs.size:=fH he;refine wpAny_pyNext_enum_item he em p.isList (x:=u) (by simpa using hu) hei λh' ho hit' hT hsz hk=>?_;refine⟨_,rfl,wpAny_letOwnedTupleGo_enum ho λh2 he2 hs2=>?_⟩;have kk:∀b o,b∉[e,it]->s.heap.get? b=some o->h2.get? b=some o:=λb o hb q=>by have h1:b≠e:=λz=>hb (by simp[z]);have h2':b≠it:=λz=>hb (by simp[z]);exact(hs2.2 b h1).trans (hk b o h1 h2' q)
  have hT2:h2.get? s.heap.objs.size=some {cls:=.type "tuple",data:=.seq #[.int i s.toks,u]}:=(hs2.2 _ (gD helt)).trans hT;have I1:Inv X bC σ (upd H s.heap.objs.size (.tup [.int i,x])) {s with heap:=h2,toks:=s.toks+1}:=
   I.turnedN (fp:=[e,it]) hf kk (aj _) ⟨by show 2<=sizeLine;decide,[.int i s.toks,u],.cons ⟨_,rfl⟩ (.cons ru .nil),_,hT2,rfl,rfl,_,rfl⟩
  refine⟨.ref s.heap.objs.size,_,I1,rfl,⟨s.heap.objs.size,x,I.hok.fresh (aj _),rfl,λys hy=>by rw[I.list_inj hy hq];exact hx,rfl⟩,⟨⟨_,by simpa using he2⟩,hit'.at λo x=>(hs2.2 it (fR hei)).trans x⟩,λb hb=>?_⟩;have hbs:b<s.heap.objs.size:=by
   rcases aF.mp hb with z|z
   · rw[z];exact helt
   · have z':b=it:=by simpa using z
     rw[z'];obtain⟨o,e1,_⟩:=em;exact fH e1
  rw[j9 (fN hbs)];exact(hf b hb).1
 done:=by intro X hP hw hK hc i bC s σ H E I hf st hg;subst hP hw hK;obtain⟨⟨eJ,he⟩,em⟩:=st;obtain⟨xs,hq,hx⟩:=hg;obtain⟨bF,rv,p,hz⟩:=I.list hq;have hl:=↥rv;exact wpAny_pyNext_enum_end (I.ok.hd hc) he em p.isList (by simp;ac_nf) λh' eb=>⟨rfl,I.turnedF (t':=s.toks) hf λb o hb q=>eb b o (λz=>hb (by simp[z])) q⟩
 self:=λA i s Q E st h=>by obtain⟨⟨eJ,he⟩,_⟩:=st;exact wpAny_pyIter_enum he h
variable{ta:TA}{p:Pos}
section
variable{k:Nat}{ef:Pos}
def c0G(K:Frag)(ta:TA):TI:=λσ H R=>ta σ H λvs H1=>∃l xs,vs=[.ref l]/\SqL K H1 l xs/\R (Ite K l) H1
theorem b4T{a:Expr}(hg:Gl X "enumerate")(hm:X.mg "enumerate"=none)(ha:PA X [a] ta)(hs:starEach [a] X.env=[(false,eval a X.env)]:=by rfl):
 PI X (.Tuple dP k ef) (.Call (.Name "enumerate" p) [a] [] pos) (c0G X.K ta):=by
 intro bC s σ H R I h;refine Call_ (a0g I hg hm boot_enumerate (fZ (thn (ha pos bC s σ H _ I h) λus s1 zz=>?_) hs rfl));obtain⟨vs,H1,I1,r1,q1⟩:=zz;obtain⟨l,xs,e,hq,q⟩:=q1;subst e;obtain⟨u,rfl,ru⟩:=T7 r1;cases ru;obtain⟨bF,rv,pl,hz⟩:=I1.list hq;refine call_enumerate_list pl.isList λh' he em hsz hk=>?_;have I2:Inv X bC σ H1 {s1 with heap:=h'}:=I1.kept (t':=s1.toks) hk;refine wpAny_pyIter_enum he ⟨s1.heap.objs.size+1,[s1.heap.objs.size+1,s1.heap.objs.size],_,_,H1,rfl,I2,a9B (s1.heap.objs.size+1) s1.heap.objs.size l (gD (aT _)),⟨⟨_,he⟩,em⟩,λb hb=>?_,q⟩;have hb':s1.heap.objs.size<=b:=by
  rcases aF.mp hb with z|z
  · rw[z];exact Nat.le_succ _
  · have z':b=s1.heap.objs.size:=by simpa using z
    rw[z'];exact aj _
 exact I1.fpOk hb' (I1.hok.fresh hb')
end
def b9D:TT:=λ_ H Q=>Q true H
theorem b7B:a7s X [] b9D:=b4P
noncomputable def b8T(sc scope:Scope)(own frees:List Str):Bool:=
 decide (scope.kind=.function)&&scope.names.all (λy=>decide (y.2≠.cell))&&scope.names.all (λy=>decide (y.2=.local->scope.names.lookup y.1=some .local))&&
 scope.names.all (λy=>decide (y.2=.free->sc.names.lookup y.1=some .cell))&&decide ((own++frees).Nodup)&&own.all (λx=>decide (scope.names.lookup x=some .local))&&frees.all (λx=>decide (scope.names.lookup x=some .free))
variable{sc:Scope}
theorem c1s{own frees:List Str}(h:b8T sc scope own frees=true):CompScope sc scope own frees:=by unfold b8T at h;simp only[ae,bw,bm] at h;obtain⟨⟨⟨⟨⟨⟨a,b⟩,c⟩,d⟩,e⟩,f⟩,g⟩:=h;exact⟨a,b,c,d,e,f,g⟩
variable{cU:Pos}
section
variable{cK:Expr}{ifs:List Expr}{own frees:List Str}{js:List Nat}{wi:TI}{g:TG}{tc:TT}{te:TE}
theorem a4M{s:Shared}{Q:VK}{RR:Value->Addr->Result->Shared->Prop}(dw:X.calm=true)(hi:PI X tg iter wi)(S:CompScope X.env.scope scope own frees)(hj:frees.map some=js.map (X.N[·]?))
 (hg:∀C s₀ H₀ ex,PG (w6 X own frees scope C s₀ H₀ ex) tg g) (hc:∀C s₀ H₀ ex,a7s (w6 X own frees scope C s₀ H₀ ex) ifs tc) (he:∀C s₀ H₀ ex,PE (w6 X own frees scope C s₀ H₀ ex) cK te)
 (I:Inv X bC σ H s) (h:a8t own js wi g tc te σ H Q)
 (cJ:∀D C s5 H4 m5,Inv X bC σ H4 s5->s5.heap.Ns C m5->H4 C=none->X.s₀.heap.objs.size<=C->C≠X.env.locals->(∀x c,X.env.cells.lookup x=some c->c≠C)->(∀p∈X.pn++bC,p.1≠C)->Q (.ref D) H4->RR (.ref D) C (.ok .next) s5):
 wpAny (model X.prog X.w) X.A (eval iter X.env) (λv s1=>wpAny (model X.prog X.w) X.A (pyIter v) (λit s2=>wpAny (model X.prog X.w) X.A (newList []) (λbP s3=>
  wpAny (model X.prog X.w) X.A (newFunctionEnv scope X.env.globals (L5 X.env.cells scope.names []) [] X.env.qual none .none (some X.env)) (λcenv s4=>
   codeAny (model X.prog X.w) X.A (.compStart (.ListComp cK [⟨tg,iter,ifs,0⟩] scope pos) 0 it bP {cenv with scope:=relabel scope X.env}) (RR bP cenv.locals) s4) X.xe s3) X.xe s2) X.xe s1) X.xe s:=by
 refine thn (hi bC s σ H _ I h) λv s1 h1=>thn h1 λitv s2 h2=>?_;obtain⟨it,fp,tn,J,H2,e,I2,T,st2,f2,R2⟩:=h2;subst e;have hD:H2 s2.heap.objs.size=none:=I2.hok.fresh (aj _);obtain⟨W,⟨m0,w0⟩,ee⟩:=R2 s2.heap.objs.size hD;have hcells:∀x c,X.env.cells.lookup x=some c->c<s2.heap.objs.size:=λx c e=>by obtain⟨v,z⟩:=I2.cell x c e;exact z.lt
 refine gM (wpAny_newFunctionEnv S.nocell (by intro y hy;simp at hy) (λdS ek dO=>?_) S.kind)
 dsimp only at ek dO⊢
 generalize hHH:s2.heap.push {cls:=.type "list",dict:=none,data:=.seq ([]:List Value).toArray}=HH at ek dO⊢;have hC:HH.objs.size=s2.heap.objs.size+1:=by rw[←hHH,gr]
 have hCle:s2.heap.objs.size<=HH.objs.size:=by rw[hC];exact Nat.le_succ _
 have hDC:s2.heap.objs.size≠HH.objs.size:=by rw[hC];exact fN (aT _)
 have neC:∀b,b<s2.heap.objs.size->b≠HH.objs.size:=λb hb=>by rw[hC];exact fN (Nat.lt_succ_of_lt hb)
 have eJ:∀b o,s2.heap.get? b=some o->dS.get? b=some o:=λb o e=>dO.extBut b o (neC b (fH e)) (fF _ (hHH▸fF _ e));have accAt:dS.get? s2.heap.objs.size=some {cls:=.type "list",dict:=none,data:=.seq ([]:List Value).toArray}:=dO.extBut _ _ hDC (fF _ (hHH▸fI _ rfl));have hfo:∀b∈fp,∃o,s2.heap.get? b=some o:=λb hb=>let⟨o,e,_⟩:=T.obj _ _ st2 b hb;⟨o,e⟩;have hnD:∀b,b<s2.heap.objs.size->upd H2 s2.heap.objs.size (.lst []) b=H2 b:=λb hb=>j9 (fN hb);have hok1:HOk X.prog X.w (upd H2 s2.heap.objs.size (.lst [])) dS:=I2.hok.laid eJ (aj _) ⟨ga _,[],0,.nil,accAt⟩;have I3:∀s3:Shared,s3={s2 with heap:=dS,toks:=s2.toks+↥([]:List (Str×Value))}->Inv (w6 X own frees scope HH.objs.size s2 H2 fp) [] (F8 own js σ) (upd H2 s2.heap.objs.size (.lst [])) s3:=by
  rintro s3 rfl;refine b3C I2 S hj hCle f2 hfo rfl I2.bare eJ (Un.laid eJ (aj _) hD) ek ?_ hok1 (λx c e=>?_)
  · rw[j9 (fR hDC)];exact I2.hok.fresh hCle
  · rw[hnD c (hcells x c e)];exact I2.freeC x c e
 -- what stays true of the iterator's objects
 have stat:∀{H':Hp},(∀b∈fp,H' b=none)->∀b∈fp,a2L (w6 X own frees scope HH.objs.size s2 H2 fp) [] H' b:=fun{H'} hn b hb=>by
  obtain⟨o,q⟩:=hfo b hb;refine⟨hn b hb,neC b (fH q),λhm=>?_,.inl hb,λx c e=>(f2 b hb).2.2.2.2.1 x c (R9 e),λp hp=>absurd (show p∈([]:List (Addr×Obj)) from hp) ⋯⟩;rcases aF.mp (I2.stkSub b hm) with z|z
  · exact(f2 b hb).2.1 z
  · exact(f2 b hb).2.2.1 z
 have loop:∀s3:Shared,s3={s2 with heap:=dS,toks:=s2.toks+↥([]:List (Str×Value))}→
  codeAny (model X.prog X.w) X.A (.compLoop (.ListComp cK [⟨tg,iter,ifs,0⟩] scope pos) 0 (.ref it) (.ref s2.heap.objs.size) (compEnvC scope (L5 X.env.cells scope.names []) HH.objs.size X.env))
   (RR (.ref s2.heap.objs.size) HH.objs.size) s3:=by
  intro s3 dZ;refine a5O (λn s'=>∃i ys H',Inv (w6 X own frees scope HH.objs.size s2 H2 fp) [] (F8 own js σ) H' s'/\tn i s'.heap/\(∀b∈fp,H' b=none)/\W i n ys H') ?_ m0
   ⟨0,[],_,I3 s3 dZ,T.keep _ _ _ st2 (λb hb o e=>by rw[dZ];exact eJ b o e),λb hb=>by obtain⟨o,q⟩:=hfo b hb;rw[hnD b (fH q)];exact(f2 b hb).1,w0⟩
  rintro n s4 ⟨i,ys,H4,I4,st4,fr4,w4⟩;rcases ee i n ys H4 w4 with⟨stop,qn⟩|⟨go,step⟩
  · refine thn (T.done (w6 X own frees scope HH.objs.size s2 H2 fp) rfl rfl rfl dw i [] s4 (F8 own js σ) H4 _ I4 (stat fr4) st4 stop) λr s5 zz=>?_;obtain⟨hr,I5⟩:=zz;subst hr;obtain⟨m5,hn5,_⟩:=I5.loc;have ub:Un (frs X.stack) fp H2 H4 s2.heap s5.heap:=I5.base;refine cJ _ _ s5 H4 m5 (I2.call' (ch:=fp) I5.os ub I5.hok I5.bare λb hb=>⟨(f2 b hb).2.2.2.1,(f2 b hb).2.1,(f2 b hb).2.2.2.2.1,(f2 b hb).2.2.2.2.2⟩) hn5 I5.free (aR I2.sz hCle) ?_ ?_ ?_ qn
    · exact fR (neC _ I2.lt)
    · exact λx c e=>neC c (hcells x c e)
    · exact λp hp=>neC _ (fH (I2.pin p hp).1)
  · refine thn (T.item (w6 X own frees scope HH.objs.size s2 H2 fp) rfl rfl rfl dw i [] s4 (F8 own js σ) H4 _ I4 (stat fr4) st4 go) λr s5 zz=>?_;obtain⟨u,hr,h5⟩:=zz;subst hr;refine thn h5 λ_ s6 zz=>?_;obtain⟨x,H6,I6,r6,y6,st6,fr6⟩:=zz;have I6':=I6.pinned (stat fr6) (T.obj _ _ st6);refine thn (hg _ _ _ _ _ s6 _ H6 x u _ I6' r6 (step x H6 y6)) λ_ s7 zz=>?_;obtain⟨dX,H7,I7,wk7,q7⟩:=zz;refine thn (hc _ _ _ _ _ s7 dX H7 _ I7 q7) λb s8 zz=>?_;obtain⟨H8,I8,q8⟩:=zz;have again:∀{s9:Shared} {H9:Hp} {zs:List V},Inv (w6 X own frees scope HH.objs.size s2 H2 fp) ([]++a3s fp s6.heap) dX H9 s9->(∃m',m'<n/\W (i+1) m' zs H9)→
     ∃m,m<n/\∃i ys H',Inv (w6 X own frees scope HH.objs.size s2 H2 fp) [] (F8 own js σ) H' s9/\tn i s9.heap/\(∀b∈fp,H' b=none)/\W i m ys H':=fun{s9 H9 zs} I9 ⟨m',hm,w9⟩=>by
     refine⟨m',hm,i+1,zs,H9,(I9.weak wk7.1 wk7.2).unpinned,T.keep _ _ _ st6 λb hb o e=>(I9.pin (b,o) (mem_append_right _ (mem_append_right _ (X2 hb e)))).1,λb hb=>?_,w9⟩;obtain⟨o,e,d⟩:=T.obj _ _ st6 b hb;exact(I9.pin (b,o) (mem_append_right _ (mem_append_right _ (X2 hb e)))).2.1
    cases b with
    |false=>
     rw[az bq] at q8⊢;exact again I8 q8
    | true=>
     rw[ay rfl] at q8⊢;refine thn (he _ _ _ _ _ s8 dX H8 _ I8 q8) λy s9 zz=>?_;obtain⟨v9,H9,I9,r9,hD9,hz9,q9⟩:=zz;refine thn (a4z (X:=w6 X own frees scope HH.objs.size s2 H2 fp) _ s9 dX H9 (.ref s2.heap.objs.size) [v9] (.ref s2.heap.objs.size) [y] (λ_ H'=>∃m',m'<n/\W (i+1) m' (ys++[v9]) H') I9 rfl (.cons r9 .nil)
      ⟨_,ys,v9,rfl,rfl,hD9,hz9,q9⟩) λ_ s10 ⟨_,H10,I10,_,q10⟩=>?_
     exact again I10 q10
 exact codeAny_compStart_list (loop _ rfl) (T.self _ 0 _ _ _ (T.keep _ _ _ st2 λb hb o e=>eJ b o e) (loop _ rfl))
theorem a6y(dw:X.calm=true)(hi:PI X tg iter wi)(S:CompScope X.env.scope scope own frees)(hj:frees.map some=js.map (X.N[·]?))
 (hg:∀C s₀ H₀ ex,PG (w6 X own frees scope C s₀ H₀ ex) tg g) (hc:∀C s₀ H₀ ex,a7s (w6 X own frees scope C s₀ H₀ ex) ifs tc) (he:∀C s₀ H₀ ex,PE (w6 X own frees scope C s₀ H₀ ex) cK te)
 (hs:∀x,foldedSetIterable iter X.env x=pure x):PE X (.ListComp cK [⟨tg,iter,ifs,0⟩] scope pos) (a8t own js wi g tc te):=by
 intro bC s σ H Q I h;rw[eval_ListComp];have hcl:closureFor scope X.env=pure (L5 X.env.cells scope.names []):=a0S λy hy e=>I.ok.has y.1 (.inl (S.out y hy e));refine wpAny_comprehension_free (use:=none) rfl hs hcl S.kind S.locs (a4M dw hi S hj hg hc he I h λD C s5 H4 m5 I5 hn5 c1 c2 c3 c4 c5 q=>?_);exact⟨m5,hn5,λh' dB=>⟨.ref D,H4,I5.turned (t':=s5.toks) (λb o hb e=>(dB.2 b hb).trans e) c1 (fR (fR c3)) (.inr c2) c4 c5,rfl,q⟩⟩
theorem b4J{i:Nat}{spos:Pos}(dw:X.calm=true)(hi:PI X tg iter wi)(S:CompScope X.env.scope scope own frees)(hj:frees.map some=js.map (X.N[·]?))
 (hg:∀C s₀ H₀ ex,PG (w6 X own frees scope C s₀ H₀ ex) tg g) (hc:∀C s₀ H₀ ex,a7s (w6 X own frees scope C s₀ H₀ ex) ifs tc) (he:∀C s₀ H₀ ex,PE (w6 X own frees scope C s₀ H₀ ex) cK te)
 (hs:∀x,foldedSetIterable iter X.env x=pure x) (hN:X.N.Nodup) (hix:X.N[i]? =some x) (hx:Loc X.env.scope x) (hf:X.fn x=true∨X.env.scope.names.lookup x=some .local):
 PS X (.Assign [.Name x cU] (.ListComp cK [⟨tg,iter,ifs,0⟩] scope pos) spos) (b7f (a8t own js wi g tc te) (b2O i)):=by
 obtain⟨b,hb⟩:∃b,swapsWith (.ListComp cK [⟨tg,iter,ifs,0⟩] scope pos) (some (.Name x cU)) spos.line X.env=pure b:=⟨_,rfl⟩;cases b with
 |false=>exact b1s hN hix hx (a6y dw hi S hj hg hc he hs) hb hf
 | true=>
  intro bC s σ H Dn I h;rw[exec_Assign_Name_used _ _ _ _ hb];have hcl:closureFor scope X.env=pure (L5 X.env.cells scope.names []):=a0S λy hy e=>I.ok.has y.1 (.inl (S.out y hy e));refine fv (wpAny_standAt (fv ?_));show wpAny _ X.A (do let _←comprehension (.ListComp cK [⟨tg,iter,ifs,0⟩] scope pos) scope X.env _ (newList []) false (eval iter X.env) (some (assign (.Name x cU) X.env))) _ _ s;refine fv (gv (wpAny_comprehension_free (use:=some (assign (.Name x cU) X.env)) (Q:=λ_ s'=>SP X bC Dn .next s') rfl hs hcl S.kind S.locs
   (a4M dw hi S hj hg hc he I h λD C s5 H4 m5 I5 hn5 c1 c2 c3 c4 c5 q=>?_)) (λ_ s' hq=>fG (fG hq)) λ_ _ e=>e)
  show wpAny _ X.A (assign (.Name x cU) X.env (.ref D)) _ _ s5;refine wpAny_assign_Name (a4o (v:=.ref D) I5 hN hix hx rfl (λs6 I6 zz=>?_) hf);obtain⟨a,sb,ea⟩:=zz;have hCa:C≠a:=λz=>by
   rcases ea with y|y
   · exact c3 (z.trans y)
   · exact c4 x a y z.symm
  exact⟨m5,hn5.sameBut sb hCa,λh' dB=>⟨_,H4,I6.turned (t':=s6.toks) (λb o hb e=>(dB.2 b hb).trans e) c1 c3 (.inr c2) c4 c5,q⟩⟩
end
noncomputable def Itz(K:Frag)(l1 l2:Addr):It:=⟨λi H=>∃xs ys x y,SqL K H l1 xs/\SqL K H l2 ys/\xs[i]? =some x/\ys[i]? =some y,
 λi H v H'=>∃T x y,H T=none/\v=.ref T/\(∀xs,SqL K H l1 xs->xs[i]? =some x)/\(∀ys,SqL K H l2 ys->ys[i]? =some y)/\H'=upd H T (.tup [x,y]),
 λi H=>∃xs ys,SqL K H l1 xs/\SqL K H l2 ys/\(↥xs<=i∨↥ys<=i)⟩
theorem b0H{k:Nat}(z TI TO i1 i2 l1 l2:Addr)(D:ZipApart z TI TO i1 i2 l1 l2):
 Turn P w K (.Tuple dP k pos) (Itz K l1 l2) [z,TI,TO,i1,i2] z (λi h=>IsZip h z TI TO .none/\IsPair h TI (.ref i1) (.ref i2)/\(∃a b,IsPair h TO a b)/\h.IsListIter i1 l1 i/\h.IsListIter i2 l2 i) where
 mem:=by simp
 obj:=λi h st b hb=>by
  obtain⟨hz,cn,⟨a,c,cp⟩,⟨o1,e1,c1,d1⟩,⟨o2,e2,c2,d2⟩⟩:=st;simp only[aF,not_mem_nil,gx] at hb;rcases hb with rfl|rfl|rfl|rfl|rfl
  · exact⟨_,hz,λv q=>by have q':Data.fields _=Data.cell v:=q;cases q'⟩
  · exact⟨_,cn,λv q=>by have q':Data.seq _ _=Data.cell v:=q;cases q'⟩
  · exact⟨_,cp,λv q=>by have q':Data.seq _ _=Data.cell v:=q;cases q'⟩
  · exact⟨o1,e1,λv q=>by rw[d1] at q;cases q⟩
  · exact⟨o2,e2,λv q=>by rw[d2] at q;cases q⟩
 keep:=λi h h' st k=>by obtain⟨hz,cn,⟨a,c,cp⟩,h1,h2⟩:=st;exact⟨k z ⋯ _ hz,k TI ⋯ _ cn,⟨a,c,k TO ⋯ _ cp⟩,h1.at λo x=>k i1 ⋯ o x,h2.at λo x=>k i2 ⋯ o x⟩
 item:=by
  intro X hP hw hK hc i bC s σ H E I hf st hg;subst hP hw hK;obtain⟨hz,cn,⟨a,c,cp⟩,h1,h2⟩:=st;obtain⟨xs,ys,x,y,hq1,hq2,hx,hy⟩:=hg;obtain⟨bF,rv,p,hz1⟩:=I.list hq1;obtain⟨its',rv',p',hz2⟩:=I.list hq2;obtain⟨u,hu,ru⟩:=rv.get hx;obtain⟨u',hu',ru'⟩:=rv'.get hy;have hzlt:z<s.heap.objs.size:=fH hz;refine wpAny_pyNext_zip_item D hz cn cp h1 h2 p.isList p'.isList (x:=u) (y:=u') (by simpa using hu) (by simpa using hu') λh' a1 a2 a3 a4 a5 a6 hk=>?_;refine⟨_,rfl,wpAny_letOwnedTupleGo_zip a1 λh3 hz3 dZ=>?_⟩;have kk:∀b o,b∉[z,TI,TO,i1,i2]->s.heap.get? b=some o->h3.get? b=some o:=λb o hb q=>by have n1:b≠z:=λw=>hb (by simp[w]);exact(dZ.2 b n1).trans (hk b o n1 (λw=>hb (by simp[w])) (λw=>hb (by simp[w])) (λw=>hb (by simp[w])) q)
  have hT3:h3.get? s.heap.objs.size=some {cls:=.type "tuple",data:=.seq #[u,u']}:=(dZ.2 _ (gD hzlt)).trans a5;have I1:Inv X bC σ (upd H s.heap.objs.size (.tup [x,y])) {s with heap:=h3,toks:=s.toks}:=
   I.turnedN (fp:=[z,TI,TO,i1,i2]) hf kk (aj _) ⟨by show 2<=sizeLine;decide,[u,u'],.cons ru (.cons ru' .nil),_,hT3,rfl,rfl,_,rfl⟩
  refine⟨.ref s.heap.objs.size,_,I1,rfl,⟨s.heap.objs.size,x,y,I.hok.fresh (aj _),rfl,λzs hy=>by rw[I.list_inj hy hq1];exact hx,λzs hy'=>by rw[I.list_inj hy' hq2];exact hy,rfl⟩,
   ⟨hz3,(dZ.2 _ D.TIz).trans (hk _ _ D.TIz D.TITO D.TIi1 D.TIi2 cn),⟨_,_,(dZ.2 _ D.TOz).trans a2⟩,a3.at λo x=>(dZ.2 _ D.i1z).trans x,a4.at λo x=>(dZ.2 _ D.i2z).trans x⟩,λb hb=>?_⟩
  have hbs:b<s.heap.objs.size:=by
   obtain⟨o1,e1,_⟩:=h1;obtain⟨o2,e2,_⟩:=h2;simp only[aF,not_mem_nil,gx] at hb;rcases hb with rfl|rfl|rfl|rfl|rfl
   · exact hzlt
   · exact fH cn
   · exact fH cp
   · exact fH e1
   · exact fH e2
  rw[j9 (fN hbs)];exact(hf b hb).1
 done:=by
  intro X hP hw hK hc i bC s σ H E I hf st hg;subst hP hw hK;obtain⟨hz,cn,⟨a,c,cp⟩,h1,h2⟩:=st;obtain⟨xs,ys,hq1,hq2,hx⟩:=hg;obtain⟨bF,rv,p,hz1⟩:=I.list hq1;obtain⟨its',rv',p',hz2⟩:=I.list hq2;have hl:=↥rv;have hl':=↥rv';refine wpAny_pyNext_zip_end (I.ok.hd hc) D hz cn cp h1 h2 p.isList p'.isList ?_ λh' eb=>⟨rfl,I.turnedF (t':=s.toks) hf λb o hb q=>eb b o (λz=>hb (by simp[z])) (λz=>hb (by simp[z])) (λz=>hb (by simp[z])) (λz=>hb (by simp[z])) q⟩;rcases hx with hx|hx
  · exact .inl (by simp;ac_nf)
  · exact .inr (by simp;ac_nf)
 self:=λA i s Q E st h=>gP st.1 h
section
variable{k:Nat}{ef:Pos}
def c2I(K:Frag)(ta:TA):TI:=λσ H R=>ta σ H λvs H1=>∃l1 l2 xs ys,vs=[.ref l1,.ref l2]/\SqL K H1 l1 xs/\SqL K H1 l2 ys/\R (Itz K l1 l2) H1
end
def G2(n:Nat)(x:Str):Str:=⟨(List.replicate n x.cps).foldl (· ++ ·) #[]⟩
theorem a4F(x:Array Nat):∀(n:Nat) (a:Array Nat),((List.replicate n x).foldl (· ++ ·) a).toList=a.toList++(List.replicate n x.toList).flatten
 |0,a=>by simp
 |n+1,a=>by rw[replicate_succ,foldl_cons,a4F x n,replicate_succ,List.flatten_cons];simp
theorem a6j(n:Nat)(x:Str):(G2 n x).cps.toList=(List.replicate n x.cps.toList).flatten:=by unfold G2;rw[a4F];simp
theorem a3g(n:Nat)(x:Str):↥(G2 n x)=↥x*n:=by show(G2 n x).cps.size=x.cps.size*n;rw[←Array.length_toList,a6j];simp[List.length_flatten,Nat.mul_comm]
theorem a7A(x:Str):G2 1 x=x:=by unfold G2;simp
theorem a7B(n:Nat)(x:Str)(h:↥x=0):G2 n x=x:=by
 have h1:(G2 n x).cps.size=0:=by have:=a3g n x;rw[h,Nat.zero_mul] at this;exact this
 have h2:x.cps.size=0:=h;have e1:=Array.eq_empty_of_size_eq_zero h1;have e2:=Array.eq_empty_of_size_eq_zero h2;cases x;simp only at e2;subst e2;generalize hq:G2 n ⟨#[]⟩=q at e1;cases q;simp only at e1;rw[e1]
variable{us:List Value}
section
noncomputable def c0b:R2:=λx y H Q=>∃t k,x=.str t/\y=.int k/\ -(2^63)<=k/\k<2^63/\↥t*k.toNat<=sizeLine/\Q (.str (G2 k.toNat t)) H
theorem b5b:OpR X (binaryOp .Mult) c0b:=by
 intro bC s σ H x y v u Q I rx ry h;obtain⟨t,k,rfl,rfl,h1,h2,h3,q⟩:=h;obtain⟨a,rfl⟩:=rx;obtain⟨b,rfl⟩:=ry;refine P.mul_str ?_ ?_ ?_ ?_
 · rw[bx nofun,bx nofun];rfl
 · intro h4 h5 h6;have hk:0<k:=by ac_nf
   have h8:(↥t:Int)*k<=2^62:=by have h9:((↥t*k.toNat:Nat):Int)<=((sizeLine:Nat):Int):=Int.ofNat_le.mpr h3;rw[Int.natCast_mul,Int.toNat_of_nonneg nofun,gS] at h9;exact Int.le_trans h9 ∅
   have h7:(↥t:Int)<=(2^63-1)/k:=by rw[Int.le_ediv_iff_mul_le hk];ac_nf
   ac_nf
 · intro h4 h5;simp only[tooLong,decide_eq_false_iff_not];ac_nf
 · by_cases c1:k<1
   · rw[ay c1];have:k.toNat=0:=by ac_nf
     rw[this] at q;exact⟨ga _,.str _,H,I.tok _,⟨_,rfl⟩,q⟩
   · rw [az c1]
     by_cases c2:(k==1||↥t==0)=true
     · rw [ay c2];have e:G2 k.toNat t=t:=by
        rw[bp] at c2;rcases c2 with c|c
        · have:k=1:=by simpa using c
          subst this;exact a7A t
        · exact a7B _ _ (by simpa using c)
       rw[e] at q;exact⟨.str _,H,I,⟨_,rfl⟩,q⟩
     · rw[az c2];refine⟨?_,.str _,H,I.tok _,⟨_,rfl⟩,q⟩;show(G2 k.toNat t).length<=sizeLine;rw[a3g];exact h3
end
end L2
namespace PySem
open Sem (wp)
theorem a5x:typeLookup (.type "list") "keys"=pure none:=by rw[typeLookup_type,builtinLookup_eq_fast];kernel_rfl
variable{A:Around}{xs:Array Value}
theorem a9Z{prog:Program}{w:World}{E:Value->Shared->Prop}{s:Shared}{a:Addr}{o:Obj}{k:Nat}{Q:Option Value->Shared->Prop}
 (hx:s.heap.get? a=some o) (hc:o.cls=.type "list") (eL:o.data=.seq xs k) (hd:o.dict=none) (hA:A.handled=none)
 (h:∀h' tk,(∀b ob,s.heap.get? b=some ob->h'.get? b=some ob)->Q none {s with heap:=h',toks:=tk}):wpAny (model prog w) A (getAttr? (.ref a) "keys") Q E s:=by
 obtain⟨c,dct,dat,sl⟩:=o;simp only at hc eL hd;subst hc eL hd;obtain⟨hp,g,d,tk,os⟩:=s;have hT:∀tk',(⟨hp,g,d,tk',os⟩:Shared).TypeIs (.ref a) "list":=λ_=>⟨_,hx,rfl⟩;have f1:=sub_AttributeError;have f3:=F.slot_list_getattribute.lookup;have f4:=F.slot_list_getattribute.bind (.ref a);have f5:=am_list_getattr_none;unfold getAttr? getAttrBy? getAttrBy
 repeat (any_goals (first|assumption|exact hT _|((with_reducible show wpAny _ _ (call (Value.builtin "list.__getattribute__") _ _) _ _ _);refine call_meets F.slot_list_getattribute (hT _) am_entry_list_getattribute (F.args_list_getattribute_2 _ _) (meets_getattribute_miss_list a xs k sl "keys" _ a5x ∅ ∅) ⟨hx,hA,λh' tk' e dY=>?_⟩)|wp_step))
 obtain⟨t2,u2,he⟩:=dY.there;show wpAny _ _ (getattributeRaised _ _ _ _ _ _ _) _ _ _;unfold getattributeRaised
 repeat (any_goals (first|assumption|wp_step))
 exact h _ _ dY.keeps
open PyProof.Rows
theorem L7:plainId "dict.update.loop"=true:=by decide+kernel
theorem a0t:entryFor table "dict.update.loop"=some Builtin.«dict.update.loop»:=entryFor_of_tree (by kernel_rfl)
variable{a:Value}{b:Value}{l:Addr}{items:Array Value}{Q:Value->Shared->Prop}
section
variable{prog:Program}{w:World}{K:Type}[DecidableEq K]{knd:KeyKind prog w K}
theorem a7F{E:Value->Shared->Prop}{s:Shared}{t:Addr}{Q:List Value->Shared->Prop}(ht:IsTup s.heap t #[a,b])(h:Q [a,b] s):wpAny (model prog w) A (Builtin.Dict.pairItems (.ref t)) Q E s:=by
 obtain⟨o,ho,hc,n,hd⟩:=ht;obtain⟨hp,g,d,tk,os⟩:=s;have hT:(⟨hp,g,d,tk,os⟩:Shared).TypeIs (.ref t) "tuple":=⟨_,ho,hc⟩;unfold Builtin.Dict.pairItems
 repeat (any_goals (first|assumption|wp_step))
 rw[hd];exact fG (fG h)
theorem b0G{d it:Addr}{ps:List (K×Value)}(n1:d≠it)(n2:d≠l)(n3:it≠l)(hsz:items.size=↥ps)(k:Nat):∀(i:Nat) (bD:List (K×Value)),↥ps-i=k->i<=↥ps->MeetsIn prog w (Builtin.«dict.update.loop» ⟨[.ref d,.ref it,rawInt i,.none],[]⟩)
 (λA R s=>A.handled=none/\s.heap.IsListIter it l i/\s.heap.IsList l items/\s.heap.DictOf knd d bD/\↥bD+(↥ps-i)<=sizeLine∧
  (∀(j:Nat) (p:K×Value),ps[j]? =some p->∃t kv,items[j]? = ~~~t/\t≠d/\t≠it/\IsTup s.heap t #[kv,p.2]/\knd.is p.1 kv=true)∧
  ∀h' tk,h'.DictOf knd d (merged bD (ps.drop i))->(∀b o,b≠d->b≠it->s.heap.get? b=some o->h'.get? b=some o)->R (.ok (.ret .none)) {s with heap:=h',toks:=tk}):=by
 induction k with
 |zero=>
  intro i bD hk hi A R s h;obtain⟨hA,em,hl,hd,hz,hq,h⟩:=h;have hx:items[i]? =none:=by rw[Array.getElem?_eq_none];ac_nf
  have hdr:ps.drop i=[]:=List.drop_eq_nil_of_le nofun;rw[hdr] at h;unfold Builtin.«dict.update.loop»;refine fv (wpAny_pyNext_list_end hA em hl hx λh' eb=>?_);refine fv ?_;unfold Builtin.Dict.addKeywords;refine fG (fG (h h' s.toks ?_ λb o n1 n2 e=>eb b o n2 e));exact hd.extBut eb n1
 | succ k ih=>
  intro i bD hk hi A R s h;obtain⟨hA,em,hl,hd,hz,hq,h⟩:=h;have hlt:i<↥ps:=by ac_nf
  obtain⟨t,kv,e1,e2,e3,e4,e5⟩:=hq i ps[i] (ai hlt);have hdr:ps.drop i=ps[i]::ps.drop (i+1):=drop_eq_getElem_cons hlt;unfold Builtin.«dict.update.loop»;refine fv (wpAny_pyNext_list_item em hl e1 λh1 st sb=>?_);have k1:∀b o,b≠it->s.heap.get? b=some o->h1.get? b=some o:=λb o n e=>(sb.2 b n).trans e;refine fv (gq (fv (wpAny_tryCatch (a7F (show IsTup h1 t #[kv,ps[i].2] from let⟨o,ho,r⟩:=e4;⟨o,k1 t o e3 ho,r⟩) ?_))));refine gq (wpAny_dictSet_pairs (hsz:=by ac_nf) e5 (hd.sameBut sb n1) λh2 dd ei=>?_);have k2:∀b o,b≠d->b≠it->s.heap.get? b=some o->h2.get? b=some o:=λb o n n' e=>(ei.2 b n).trans (k1 b o n' e);refine fG ⟨plainId_quiet L7 _,codeAny_builtin a0t (by
   rw[Around.under_plainId L7 _,show((i:Nat):Int)+1=((i+1:Nat):Int) by ac_nf];refine ih (i+1) (stored bD ps[i].1 ps[i].2) nofun nofun A R _ ⟨hA,?_,?_,dd,?_,λj p hj=>?_,λh' tk d1 d2=>?_⟩
   · obtain⟨o,ho,r⟩:=st;exact⟨o,(ei.2 it n1.symm).trans ho,r⟩
   · obtain⟨o,ho,r⟩:=hl;exact⟨o,k2 l o n2.symm n3.symm ho,r⟩
   · have:=stored_length_le bD ps[i].1 ps[i].2;ac_nf
   · obtain⟨t,kv,q1,q2,q3,⟨o,ho,r⟩,q5⟩:=hq j p hj;exact⟨t,kv,q1,q2,q3,⟨o,k2 t o q2 q3 ho,r⟩,q5⟩
   · refine h h' tk ?_ λb o n n' e=>d2 b o n n' (k2 b o n n' e);rw[hdr];exact d1)⟩
theorem a2K{E:Value->Shared->Prop}{s:Shared}{ol:Obj}{n:Nat}{ps:List (K×Value)}(hA:A.handled=none)(hx:s.heap.get? l=some ol)(hc:ol.cls=.type "list")(eL:ol.data=.seq items n)(hd:ol.dict=none)(hsz:items.size=↥ps)(hz:↥ps<=sizeLine)
 (hq:∀(j:Nat) (p:K×Value),ps[j]? =some p->∃t kv,items[j]? = ~~~t/\IsTup s.heap t #[kv,p.2]/\knd.is p.1 kv=true)
 (h:∀h' tk,h'.DictOf knd s.heap.objs.size (merged [] ps)->(∀b o,s.heap.get? b=some o->h'.get? b=some o)->Q (.ref s.heap.objs.size) {s with heap:=h',toks:=tk}):
 wpAny (model prog w) A (call (.type "dict") [.ref l]) Q E s:=by
 refine callType_codes (Q₁:=λobj bK=>obj=.ref s.heap.objs.size/\bK={s with heap:=s.heap.push {cls:=.type "dict",data:=.dict #[]}}) F.kt_called_dict (F.kt_typeCall_dict_1 _) F.entry_dict_init (kt_code_dict_new _ ⟨rfl,rfl⟩) ?_;rintro obj bK ⟨rfl,rfl⟩;have hnew:(s.heap.push {cls:=.type "dict",data:=.dict #[]}).DictOf knd s.heap.objs.size []:=Heap.DictOf.new s.heap;have hx1:(s.heap.push {cls:=.type "dict",data:=.dict #[]}).get? l=some ol:=fF _ hx;have ty:Shared.TypeIs {s with heap:=s.heap.push {cls:=.type "dict",data:=.dict #[]}} (.ref l) "list":=⟨_,hx1,hc⟩;have nl:s.heap.objs.size≠l:=λe=>absurd (fH hx) (by rw[e];exact aQ _);refine⟨hnew.typeIs,F.args_dict_init_2 _ _,?_⟩;unfold Builtin.«dict.__init__»;refine fv ?_;unfold Builtin.Dict.selfAndRest;refine fv (wpAny_notOrdered_dict hnew.typeIs ?_);show wpAny _ _ (pure (s.heap.objs.size,[Value.ref l])) _ _ _;refine fG ?_;show wpAny _ _ (Builtin.Dict.updateFrom "dict.__init__" s.heap.objs.size (.ref l) [] .none) _ _ _;unfold Builtin.Dict.updateFrom;refine fv (wpAny_typeOf ty ?_);rw[ay ∅];refine fv (a9Z hx1 hc eL hd ?_ λh1 tk1 k1=>?_)
 · exact hA
 · rw [ay (show(none:Option Value).isNone=true from rfl)];have hx2:h1.get? l=some ol:=k1 l _ hx1;have hd2:h1.DictOf knd s.heap.objs.size []:=hnew.keep k1;have lt1:s.heap.objs.size<h1.objs.size:=by obtain⟨o,_,_,ho,_⟩:=hd2;exact fH ho
   refine fv (wpAny_rule (fv (gY (items:=items) ⟨ol,hx2,hc,n,eL⟩ ?_)));refine fG ⟨plainId_quiet L7 _,codeAny_builtin a0t (by
    rw[Around.under_plainId L7 _];refine b0G (knd:=knd) (d:=s.heap.objs.size) (it:=h1.objs.size) (l:=l) (ps:=ps) (fN lt1) nl (λe=>absurd (fH hx2) (by rw[←e];exact aQ _)) hsz _ 0 [] rfl (ga _) A.in1 _ _ ⟨hA,⟨_,fI _ rfl,rfl,rfl⟩,⟨ol,fF _ hx2,hc,n,eL⟩,hd2.push _,by simpa using hz,λj p hj=>?_,λh' tk d1 d2=>⟨rfl,?_⟩⟩
    · obtain⟨t,kv,q1,⟨o,ho,r⟩,q3⟩:=hq j p hj;have ho1:=k1 t o (fF _ ho);exact⟨t,kv,q1,λe=>absurd (fH ho) (by rw[e];exact aQ _),λe=>absurd (fH ho1) (by rw[e];exact aQ _),⟨o,fF _ ho1,r⟩,q3⟩
    · refine h h' tk (by rwa [drop_zero] at d1) λb o e=>d2 b o (λz=>absurd (fH e) (by rw[z];exact aQ _)) (λz=>?_) (fF _ (k1 b o (fF _ e)));have:=fH (k1 b o (fF _ e));rw[z] at this;exact absurd this (aQ _))⟩
end
end PySem
namespace L2
open PySem PySem.Spec PyProof.Rows
def PrT(H:Hp):List V->List (Key×V)->Prop:=Paired λy p=>∃t,y=.ref t/\H t=some (.tup [kV p.1,p.2])
variable{bC:List (Addr×Obj)}{σ:St}{H:Hp}
section
variable{X:Cx}
theorem b7z{s:Shared}(I:Inv X bC σ H s){ys:List V}{bD:List (Key×V)}(hp:PrT H ys bD):∀{bF:List Value},p7 ys bF->∃ps:List (Key×Value),KV bD ps/\↥ps=↥bF/\∀(j:Nat) (p:Key×Value),ps[j]? =some p->∃t kv,bF[j]? = ~~~t/\IsTup s.heap t #[kv,p.2]/\(z9 X.prog X.w).is p.1 kv=true:=by
 unfold PrT at hp
 induction hp with
 |nil=>
  intro bF r;cases r;exact⟨[],.nil,rfl,λj p h=>by simp at h⟩
 | cons h t ih=>
  intro bF r;obtain- |⟨r,q⟩:=r;obtain⟨ps,k1,k2,k3⟩:=ih q;obtain⟨a,rfl,ha⟩:=h;cases r;obtain⟨_,bF,rv,pa⟩:=I.hok a _ ha;obtain⟨u,w,rfl,ru,dn⟩:=a6d rv;refine⟨(_,w)::ps,.cons ⟨rfl,dn⟩ k1,by rw[length_cons,length_cons,k2],λj p hj=>?_⟩
  cases j with
  |zero=>
   cases hj;exact⟨a,u,rfl,pa.tup,a0i ru⟩
  |succ j=>exact k3 j p hj
theorem a5U(hc:X.calm=true):G5 X (.type "dict") (λxs H Q=>∃p ys bD,xs=[.ref p]/\SqL X.K H p ys/\PrT H ys bD/\∀d,H d=none->Q (.ref d) (upd H d (.dK (X1 [] bD)))):=by
 intro bC s σ H xs us Q I r h;obtain⟨p,ys,bD,rfl,hq,pr,q⟩:=h;obtain⟨u,rfl,rx⟩:=T7 r;cases rx;obtain⟨bF,rv,pl,hz⟩:=I.list hq;obtain⟨o,n,e,c,hd,dat⟩:=pl;obtain⟨ps,k1,k2,k3⟩:=b7z I pr rv;have l1:=↥rv;have l2:=Paired.length pr;refine a2K (knd:=z9 X.prog X.w) (items:=bF.toArray) (ps:=ps) (I.ok.hd hc) e c dat hd (by simp[k2]) nofun (λj p hj=>?_) λh' tk dd kp=>?_
 · obtain⟨t,kv,q1,q2,q3⟩:=k3 j p hj;exact⟨t,kv,by simpa using q1,q2,q3⟩
 · have hl:=V0 bD [];rw[length_nil] at hl;exact⟨.ref s.heap.objs.size,_,I.laid (t':=tk) (λb o e=>kp b o e) (aj _) (a8h nofun (beq_eq_false_iff_ne.mpr (gD I.big)) (k1.merge .nil) dd),rfl,q _ (I.hok.fresh (aj _))⟩
theorem b3F(hc:X.calm=true):G5 X (.builtin "sum") (λxs H Q=>∃p,∃is:List Int,xs=[.ref p]/\SqL X.K H p (is.map V.int)/\Q (.int is.sum) H):=by
 intro bC s σ H xs us Q I r h;obtain⟨p,is,rfl,hq,q⟩:=h;obtain⟨u,rfl,rx⟩:=T7 r;cases rx;obtain⟨bF,rv,pl,hz⟩:=I.list hq;have hi:=a7T rv;obtain⟨xs,hx⟩:=hi.allInts.items;refine sum_intListG (I.ok.hd hc) (hx▸pl.isList) λh' tk t' hk=>?_;have e1:is=xs.toList.map (·.1):=by rw[←nums_intItems,←hx];exact(show numsOf bF.toArray.toList=is from hi.numsOf).symm
 have e2:preSum (numAt xs) xs.size=is.sum:=by rw[preSum_eq,bg ⋯,e1]
 rw[e2];exact⟨.int _,H,I.kept (t':=tk) hk,⟨_,rfl⟩,q⟩
end
end L2
namespace PySem
open Sem (wp)
abbrev ZAt(h:Heap)(z TI TO:Addr)(f0:Value)(b:Bool):Prop:=
 h.get? z=some {cls:=.type "zip",dict:=none,data:=.fields #[f0,.bool b,.bool false,.ref TI,.ref TO],slots:= #[]}
def a7t(f0:Value):Prop:=f0=.none∨∃T:Addr,f0=rawInt T
variable{z:Addr}{f0:Value}{l1:Addr}{l2:Addr}{k1:Nat}{k2:Nat}{xs:Array Value}{ys:Array Value}{x:Value}{y:Value}{a:Value}{b:Value}{b0:Bool}{Q:Value->Shared->Prop}
section
variable{prog:Program}{w:World}{A:Around}{E:Value->Shared->Prop}{s:Shared}
theorem b0D{a:Addr}{Q:Option Obj->Shared->Prop}(h:Q (s.heap.get? a) s):wpAny (model prog w) A (loadIfAlive a) Q E s:=λ_ _ _=>h
theorem a6W{TI TO:Addr}{b:Bool}{Q:Bool->Shared->Prop}(hz:ZAt s.heap z TI TO f0 b)(hf:a7t f0)(h1:Q true s)(h2:∀h',ZAt h' z TI TO f0 true->Heap.SameBut z s.heap h'->Q false {s with heap:=h'}):wpAny (model prog w) A (ownedTupleIsFree (.ref z)) Q E s:=by
 unfold ownedTupleIsFree;refine fv (fQ hz rfl (x:=f0) rfl ?_);rcases hf with rfl|⟨T,rfl⟩
 · exact fG h1
 · show wpAny _ _ (loadIfAlive ((T:Int).toNat)>>=_) _ _ _;refine fv (b0D ?_);cases s.heap.get? ((T:Int).toNat) with
   |none=>exact fG h1
   | some o=>
    refine fv (fQ hz rfl (x:=.bool b) rfl ?_);cases b with
    |true=>
     have:Q false {s with heap:=s.heap}:=h2 s.heap hz ⟨rfl,λ_ _=>rfl⟩;exact fv (fG (fG this))
    |false=>
     refine fv (gu hz ⋯ λh' hz' dB=>fG (h2 h' hz' dB))
theorem a9u{TI TO i1 i2:Addr}(D:ZipApart z TI TO i1 i2 l1 l2)(hz:ZAt s.heap z TI TO f0 b0)(hf:a7t f0)(cn:IsPair s.heap TI (.ref i1) (.ref i2))(cp:IsPair s.heap TO a b)
 (h1:s.heap.IsListIter i1 l1 k1) (h2:s.heap.IsListIter i2 l2 k2) (dU:s.heap.IsList l1 xs) (fh:s.heap.IsList l2 ys) (hx:xs[k1]? =some x) (hy:ys[k2]? =some y)
 (hQ:∀h' f1 b1,a7t f1->ZAt h' z TI TO f1 b1->(∃a b,IsPair h' TO a b)->h'.IsListIter i1 l1 (k1+1)->h'.IsListIter i2 l2 (k2+1)->IsPair h' s.heap.objs.size x y->h'.objs.size=s.heap.objs.size+1→
  (∀c o,c≠z->c≠TO->c≠i1->c≠i2->s.heap.get? c=some o->h'.get? c=some o)->Q (.ref s.heap.objs.size) {s with heap:=h'}):
 wpAny (model prog w) A (Builtin.«zip.__next__» ⟨[.ref z],[]⟩) (λcJ s'=>∃v,cJ=.done (.ret v)/\Q v s') E s:=by
 change wpAny (model prog w) A (field (Value.ref z) 2>>=_) _ E s;refine fv (fQ hz rfl (x:=.bool false) rfl ?_);change wpAny (model prog w) A (field (Value.ref z) 3>>=_) _ E s;refine fv (fQ hz rfl (x:=.ref TI) rfl (fv (fX cn rfl ?_)));change wpAny (model prog w) A (ownedTupleIsFree (Value.ref z)>>=_) _ E s;refine fv (a6W hz hf ?free λh' hz' dB=>?held)
 case held=>
  have n1:h'.IsListIter i1 l1 k1:=h1.extBut dB.extBut D.i1z;have n2:h'.IsListIter i2 l2 k2:=h2.extBut dB.extBut D.i2z;simp only[fU,gw,←Array.forIn_toList,forIn_cons,forIn_nil];refine fv (fv (fv (gq ?_)));change wpAny (model prog w) A (nextOf (Value.ref i1)>>=_) _ E _;refine fv (gj n1 (dU.extBut dB.extBut D.l1z) hx λg1 m1 t1=>fG (fG ?_));refine fv (fv (gq ?_));change wpAny (model prog w) A (nextOf (Value.ref i2)>>=_) _ E _;refine fv (gj (n2.extBut t1.extBut D.i12.symm) ((fh.extBut dB.extBut D.l2z).extBut t1.extBut D.l2i1) hy λg2 m2 t2=>fG (fG (fG (fv (wpAny_newTuple ?_ (show 2<=sizeLine by decide))))));have sz:g2.objs.size=s.heap.objs.size:=by rw[t2.1,t1.1,dB.1]
  have up:∀c o,c≠z->c≠i1->c≠i2->s.heap.get? c=some o->(g2.push {cls:=.type "tuple",data:=.seq #[x,y]}).get? c=some o:=λc o c1 c2 c3 e=>fF _ (t2.extBut _ _ c3 (t1.extBut _ _ c2 (dB.extBut _ _ c1 e)));have zz:ZAt (g2.push {cls:=.type "tuple",data:=.seq #[x,y]}) z TI TO f0 true:=fF _ (t2.extBut _ _ D.i2z.symm (t1.extBut _ _ D.i1z.symm hz'));refine fG ⟨_,rfl,?_⟩;change Q (Value.ref g2.objs.size) _;have hp:IsPair (g2.push {cls:=.type "tuple",data:=.seq #[x,y]}) g2.objs.size x y:=fI _ rfl;have h8:(g2.push {cls:=.type "tuple",data:=.seq #[x,y]}).objs.size=g2.objs.size+1:=gr ..;rw[sz] at hp h8⊢;exact hQ _ f0 true hf zz ⟨a,b,up TO _ D.TOz D.TOi1 D.TOi2 cp⟩ ((m1.extBut t2.extBut D.i12).at λo e=>fF _ e) (m2.at λo e=>fF _ e) hp h8 λc o c1 _ c3 c4 e=>up c o c1 c3 c4 e
 case free=>
  simp only[fV];refine fv (wpAny_rule (fv (fQ hz rfl (x:=.ref TO) rfl (fv (gu hz ⋯ λg1 e1 t1=>?_)))));replace e1:ZAt g1 z TI TO .ellipsis b0:=e1;simp only[List.zipIdx_cons,List.zipIdx_nil,forIn_cons,forIn_nil];refine fv (fv (fv (gz ?_)));change wpAny (model prog w) A (nextOf (Value.ref i1)>>=_) _ _ _;refine fv (gj (h1.extBut t1.extBut D.i1z) (dU.extBut t1.extBut D.l1z) hx λg2 m2 t2=>fG ?_);have o2:IsPair g2 TO a b:=t2.extBut _ _ D.TOi1 (t1.extBut _ _ D.TOz cp);refine fv (fX o2 rfl (fv (gy o2 λg3 o3 t3=>fv (hU (fG ?_)))));replace o3:IsPair g3 TO x b:=o3;refine fv (fv (gz ?_));change wpAny (model prog w) A (nextOf (Value.ref i2)>>=_) _ _ _;refine fv (gj (((h2.extBut t1.extBut D.i2z).extBut t2.extBut D.i12.symm).extBut t3.extBut D.TOi2.symm) (((fh.extBut t1.extBut D.l2z).extBut t2.extBut D.l2i1).extBut t3.extBut D.l2TO) hy λg4 m4 t4=>fG ?_);have o4:IsPair g4 TO x b:=t4.extBut _ _ D.TOi2 o3;refine fv (fX o4 rfl (fv (gy o4 λg5 o5 t5=>fv (hU (fG (fG ?_))))));replace o5:IsPair g5 TO x y:=o5;refine fv (fX o5 rfl (fv (wpAny_newTuple ?_)));have sz:g5.objs.size=s.heap.objs.size:=by rw[t5.1,t4.1,t3.1,t2.1,t1.1]
  have e5:ZAt g5 z TI TO .ellipsis b0:=t5.extBut _ _ D.TOz.symm (t4.extBut _ _ D.i2z.symm (t3.extBut _ _ D.TOz.symm (t2.extBut _ _ D.i1z.symm e1)));have zl:z<g5.objs.size:=fH e5;change wpAny (model prog w) A (ownedTupleHandOut (Value.ref z) (Value.ref g5.objs.size)>>=_) _ E _;refine fv ?_;unfold ownedTupleHandOut;have e6:ZAt (g5.push {cls:=.type "tuple",data:=.seq #[x,y]}) z TI TO .ellipsis b0:=fF _ e5;refine fv (gu e6 ⋯ λg7 e7 t7=>?_);replace e7:ZAt g7 z TI TO (rawInt g5.objs.size) b0:=e7;refine gu e7 ⋯ λg8 e8 t8=>fG ⟨_,rfl,?_⟩;replace e8:ZAt g8 z TI TO (rawInt g5.objs.size) false:=e8;have up:∀c o,c≠z->g5.get? c=some o->g8.get? c=some o:=λc o c1 e=>t8.extBut _ _ c1 (t7.extBut _ _ c1 (fF _ e));have hp:IsPair g8 g5.objs.size x y:=t8.extBut _ _ (gD zl) (t7.extBut _ _ (gD zl) (fI _ rfl));have h8:g8.objs.size=g5.objs.size+1:=by rw[t8.1,t7.1,gr]
  change Q (Value.ref g5.objs.size) _;rw[sz] at e8 hp h8⊢;have m5:g5.IsListIter i1 l1 (k1+1):=((m2.extBut t3.extBut D.TOi1.symm).extBut t4.extBut D.i12).extBut t5.extBut D.TOi1.symm;exact hQ _ _ _ (.inr ⟨_,rfl⟩) e8 ⟨x,y,up _ _ D.TOz o5⟩ (m5.at λo e=>up _ o D.i1z e) ((m4.extBut t5.extBut D.TOi2.symm).at λo e=>up _ o D.i2z e) hp h8 λc o c1 c2 c3 c4 e=>up c o c1 (t5.extBut _ _ c2 (t4.extBut _ _ c4 (t3.extBut _ _ c2 (t2.extBut _ _ c3 (t1.extBut _ _ c1 e)))))
theorem b0B{TI TO i1 i2:Addr}{Q:Fin->Shared->Prop}(hh:A.handled=none)(D:ZipApart z TI TO i1 i2 l1 l2)(hz:ZAt s.heap z TI TO f0 b0)(hf:a7t f0)(cn:IsPair s.heap TI (.ref i1) (.ref i2))(cp:IsPair s.heap TO a b)
 (h1:s.heap.IsListIter i1 l1 k1) (h2:s.heap.IsListIter i2 l2 k2) (dU:s.heap.IsList l1 xs) (fh:s.heap.IsList l2 ys) (di:xs[k1]? =none∨ys[k2]? =none)
 (hE:∀h' e,(∀c o,c≠z->c≠TO->c≠i1->c≠i2->s.heap.get? c=some o->h'.get? c=some o)->(∃o,h'.get? e=some o/\o.cls=.type "StopIteration")->E (.ref e) {s with heap:=h'}):
 wpAny (model prog w) A (Builtin.«zip.__next__» ⟨[.ref z],[]⟩) Q E s:=by
 change wpAny (model prog w) A (field (Value.ref z) 2>>=_) _ E s;refine fv (fQ hz rfl (x:=.bool false) rfl ?_);change wpAny (model prog w) A (field (Value.ref z) 3>>=_) _ E s;refine fv (fQ hz rfl (x:=.ref TI) rfl (fv (fX cn rfl ?_)));change wpAny (model prog w) A (ownedTupleIsFree (Value.ref z)>>=_) _ E s;refine fv (a6W hz hf ?free λh' hz' dB=>?held)
 case held=>
  simp only[fU,gw,←Array.forIn_toList,forIn_cons,forIn_nil];refine fv (fv (fv (gq ?_)));change wpAny (model prog w) A (nextOf (Value.ref i1)>>=_) _ E _;cases hx:xs[k1]? with
  |none=>exact fv (gH hh (h1.extBut dB.extBut D.i1z) (dU.extBut dB.extBut D.l1z) hx λg e t he=>hE g e (λc o c1 _ c3 _ q=>t _ _ c3 (dB.extBut _ _ c1 q)) he)
  |some x=>
   have hy:ys[k2]? =none:=di.resolve_left (by rw[hx];exact λq=>nomatch q);refine fv (gj (h1.extBut dB.extBut D.i1z) (dU.extBut dB.extBut D.l1z) hx λg1 m1 t1=>fG (fG ?_));refine fv (fv (gq ?_));change wpAny (model prog w) A (nextOf (Value.ref i2)>>=_) _ E _;exact fv (gH hh ((h2.extBut dB.extBut D.i2z).extBut t1.extBut D.i12.symm) ((fh.extBut dB.extBut D.l2z).extBut t1.extBut D.l2i1) hy λg e t he=>hE g e (λc o c1 _ c3 c4 q=>t _ _ c4 (t1.extBut _ _ c3 (dB.extBut _ _ c1 q))) he)
 case free=>
  simp only[fV];refine fv (wpAny_rule (fv (fQ hz rfl (x:=.ref TO) rfl (fv (gu hz ⋯ λg1 e1 t1=>?_)))));replace e1:ZAt g1 z TI TO .ellipsis b0:=e1;simp only[List.zipIdx_cons,List.zipIdx_nil,forIn_cons,forIn_nil];refine fv (fv (fv (gz ?_)));change wpAny (model prog w) A (nextOf (Value.ref i1)>>=_) _ _ _;cases hx:xs[k1]? with
  |none=>
   refine fv (gH hh (h1.extBut t1.extBut D.i1z) (dU.extBut t1.extBut D.l1z) hx λg2 e t2 he=>?_);obtain⟨oe,p1,p2⟩:=he;have e2:ZAt g2 z TI TO .ellipsis b0:=t2 _ _ D.i1z.symm e1;have ez:e≠z:=λq=>by subst q;rw[e2] at p1;cases p1;simp at p2
   exact gu e2 ⋯ λg3 _ t3=>hE g3 e (λc o c1 _ c3 _ q=>t3.extBut _ _ c1 (t2 _ _ c3 (t1.extBut _ _ c1 q))) ⟨oe,t3.extBut _ _ ez p1,p2⟩
  |some x=>
   have hy:ys[k2]? =none:=di.resolve_left (by rw[hx];exact λq=>nomatch q);refine fv (gj (h1.extBut t1.extBut D.i1z) (dU.extBut t1.extBut D.l1z) hx λg2 m2 t2=>fG ?_);have o2:IsPair g2 TO a b:=t2.extBut _ _ D.TOi1 (t1.extBut _ _ D.TOz cp);refine fv (fX o2 rfl (fv (gy o2 λg3 o3 t3=>fv (hU (fG ?_)))));refine fv (fv (gz ?_));change wpAny (model prog w) A (nextOf (Value.ref i2)>>=_) _ _ _;refine fv (gH hh (((h2.extBut t1.extBut D.i2z).extBut t2.extBut D.i12.symm).extBut t3.extBut D.TOi2.symm) (((fh.extBut t1.extBut D.l2z).extBut t2.extBut D.l2i1).extBut t3.extBut D.l2TO) hy λg4 e t4 he=>?_);obtain⟨oe,p1,p2⟩:=he;have e4:ZAt g4 z TI TO .ellipsis b0:=t4 _ _ D.i2z.symm (t3.extBut _ _ D.TOz.symm (t2.extBut _ _ D.i1z.symm e1));have ez:e≠z:=λq=>by subst q;rw[e4] at p1;cases p1;simp at p2
   exact gu e4 ⋯ λg5 _ t5=>hE g5 e (λc o c1 c2 c3 c4 q=>t5.extBut _ _ c1 (t4 _ _ c4 (t3.extBut _ _ c2 (t2.extBut _ _ c3 (t1.extBut _ _ c1 q))))) ⟨oe,t5.extBut _ _ ez p1,p2⟩
theorem a9W{TI TO i1 i2:Addr}{Q:Option Value->Shared->Prop}(D:ZipApart z TI TO i1 i2 l1 l2)(hz:ZAt s.heap z TI TO f0 b0)(hf:a7t f0)(cn:IsPair s.heap TI (.ref i1) (.ref i2))(cp:IsPair s.heap TO a b)
 (h1:s.heap.IsListIter i1 l1 k1) (h2:s.heap.IsListIter i2 l2 k2) (dU:s.heap.IsList l1 xs) (fh:s.heap.IsList l2 ys) (hx:xs[k1]? =some x) (hy:ys[k2]? =some y)
 (hQ:∀h' f1 b1,a7t f1->ZAt h' z TI TO f1 b1->(∃a b,IsPair h' TO a b)->h'.IsListIter i1 l1 (k1+1)->h'.IsListIter i2 l2 (k2+1)->IsPair h' s.heap.objs.size x y->h'.objs.size=s.heap.objs.size+1→
  (∀c o,c≠z->c≠TO->c≠i1->c≠i2->s.heap.get? c=some o->h'.get? c=some o)->Q (~~~s.heap.objs.size) {s with heap:=h'}):wpAny (model prog w) A (pyNext (.ref z)) Q E s:=by
 have hT:s.TypeIs (.ref z) "zip":=⟨_,hz,rfl⟩;unfold pyNext;exact fv (wpAny_attempt (gh (name:=Str.ofString "__next__") hT F.slot_zip_next (wpAny_call_entry F.slot_zip_next hT F.entry_zip_next (a9u D hz hf cn cp h1 h2 dU fh hx hy λh' f1 b1 q0 q1 q2 q3 q4 q5 q6 q7=>fG (hQ h' f1 b1 q0 q1 q2 q3 q4 q5 q6 q7)) (F.args_zip_next_1 _))))
theorem b0q{TI TO i1 i2:Addr}{Q:Option Value->Shared->Prop}(hh:A.handled=none)(D:ZipApart z TI TO i1 i2 l1 l2)(hz:ZAt s.heap z TI TO f0 b0)(hf:a7t f0)(cn:IsPair s.heap TI (.ref i1) (.ref i2))(cp:IsPair s.heap TO a b)
 (h1:s.heap.IsListIter i1 l1 k1) (h2:s.heap.IsListIter i2 l2 k2) (dU:s.heap.IsList l1 xs) (fh:s.heap.IsList l2 ys) (di:xs[k1]? =none∨ys[k2]? =none)
 (hQ:∀h',(∀c o,c≠z->c≠TO->c≠i1->c≠i2->s.heap.get? c=some o->h'.get? c=some o)->Q none {s with heap:=h'}):wpAny (model prog w) A (pyNext (.ref z)) Q E s:=by
 have hT:s.TypeIs (.ref z) "zip":=⟨_,hz,rfl⟩;unfold pyNext;refine fv (wpAny_attempt (gh (name:=Str.ofString "__next__") hT F.slot_zip_next (wpAny_call_entry F.slot_zip_next hT F.entry_zip_next (b0B hh D hz hf cn cp h1 h2 dU fh di λh' e hk he=>?_) (F.args_zip_next_1 _))));obtain⟨o,ho,hc⟩:=he;exact fv (wpAny_isInstance (T:="StopIteration") (b:=true) ⟨o,ho,hc⟩ isSubtype_stop (fG (hQ _ hk)))
end
end PySem
namespace L2
open PySem PySem.Spec PyProof.Rows
variable{P:Program}{w:World}{K:Frag}{pos:Pos}
theorem a9z{nm:Str}(z TI TO i1 i2 l1 l2:Addr)(D:ZipApart z TI TO i1 i2 l1 l2):
 Turn P w K (.Name nm pos) (Itz K l1 l2) [z,TI,TO,i1,i2] z (λi h=>(∃f0 b0,a7t f0/\ZAt h z TI TO f0 b0)/\IsPair h TI (.ref i1) (.ref i2)/\(∃a b,IsPair h TO a b)/\h.IsListIter i1 l1 i/\h.IsListIter i2 l2 i) where
 mem:=by simp
 obj:=λi h st b hb=>by
  obtain⟨⟨f0,b0,hf0,hz⟩,cn,⟨a,c,cp⟩,⟨o1,e1,c1,d1⟩,⟨o2,e2,c2,d2⟩⟩:=st;simp only[aF,not_mem_nil,gx] at hb;rcases hb with rfl|rfl|rfl|rfl|rfl
  · exact⟨_,hz,λv q=>by have q':Data.fields _=Data.cell v:=q;cases q'⟩
  · exact⟨_,cn,λv q=>by have q':Data.seq _ _=Data.cell v:=q;cases q'⟩
  · exact⟨_,cp,λv q=>by have q':Data.seq _ _=Data.cell v:=q;cases q'⟩
  · exact⟨o1,e1,λv q=>by rw[d1] at q;cases q⟩
  · exact⟨o2,e2,λv q=>by rw[d2] at q;cases q⟩
 keep:=λi h h' st k=>by obtain⟨⟨f0,b0,hf0,hz⟩,cn,⟨a,c,cp⟩,h1,h2⟩:=st;exact⟨⟨f0,b0,hf0,k z ⋯ _ hz⟩,k TI ⋯ _ cn,⟨a,c,k TO ⋯ _ cp⟩,h1.at λo x=>k i1 ⋯ o x,h2.at λo x=>k i2 ⋯ o x⟩
 item:=by
  intro X hP hw hK hc i bC s σ H E I hf st hg;subst hP hw hK;obtain⟨⟨f0,b0,hf0,hz⟩,cn,⟨a,c,cp⟩,h1,h2⟩:=st;obtain⟨xs,ys,x,y,hq1,hq2,hx,hy⟩:=hg;obtain⟨bF,rv,p,hz1⟩:=I.list hq1;obtain⟨its',rv',p',hz2⟩:=I.list hq2;obtain⟨u,hu,ru⟩:=rv.get hx;obtain⟨u',hu',ru'⟩:=rv'.get hy;have hzlt:z<s.heap.objs.size:=fH hz;refine a9W D hz hf0 cn cp h1 h2 p.isList p'.isList (x:=u) (y:=u') (by simpa using hu) (by simpa using hu') λh3 f1 b1 a0 a1 a2 a3 a4 a5 a6 hk=>?_;refine⟨_,rfl,fG ?_⟩;have kk:∀b o,b∉[z,TI,TO,i1,i2]->s.heap.get? b=some o->h3.get? b=some o:=λb o hb q=>by have n1:b≠z:=λw=>hb (by simp[w]);exact(hk b o n1 (λw=>hb (by simp[w])) (λw=>hb (by simp[w])) (λw=>hb (by simp[w])) q)
  have hT3:h3.get? s.heap.objs.size=some {cls:=.type "tuple",data:=.seq #[u,u']}:=a5;have I1:Inv X bC σ (upd H s.heap.objs.size (.tup [x,y])) {s with heap:=h3,toks:=s.toks}:=
   I.turnedN (fp:=[z,TI,TO,i1,i2]) hf kk (aj _) ⟨by show 2<=sizeLine;decide,[u,u'],.cons ru (.cons ru' .nil),_,hT3,rfl,rfl,_,rfl⟩
  refine⟨.ref s.heap.objs.size,_,I1,rfl,⟨s.heap.objs.size,x,y,I.hok.fresh (aj _),rfl,λzs hy=>by rw[I.list_inj hy hq1];exact hx,λzs hy'=>by rw[I.list_inj hy' hq2];exact hy,rfl⟩,
   ⟨⟨f1,b1,a0,a1⟩,hk _ _ D.TIz D.TITO D.TIi1 D.TIi2 cn,a2,a3,a4⟩,λb hb=>?_⟩
  have hbs:b<s.heap.objs.size:=by
   obtain⟨o1,e1,_⟩:=h1;obtain⟨o2,e2,_⟩:=h2;simp only[aF,not_mem_nil,gx] at hb;rcases hb with rfl|rfl|rfl|rfl|rfl
   · exact hzlt
   · exact fH cn
   · exact fH cp
   · exact fH e1
   · exact fH e2
  rw[j9 (fN hbs)];exact(hf b hb).1
 done:=by
  intro X hP hw hK hc i bC s σ H E I hf st hg;subst hP hw hK;obtain⟨⟨f0,b0,hf0,hz⟩,cn,⟨a,c,cp⟩,h1,h2⟩:=st;obtain⟨xs,ys,hq1,hq2,hx⟩:=hg;obtain⟨bF,rv,p,hz1⟩:=I.list hq1;obtain⟨its',rv',p',hz2⟩:=I.list hq2;have hl:=↥rv;have hl':=↥rv';refine b0q (I.ok.hd hc) D hz hf0 cn cp h1 h2 p.isList p'.isList ?_ λh' eb=>⟨rfl,I.turnedF (t':=s.toks) hf λb o hb q=>eb b o (λz=>hb (by simp[z])) (λz=>hb (by simp[z])) (λz=>hb (by simp[z])) (λz=>hb (by simp[z])) q⟩;rcases hx with hx|hx
  · exact .inl (by simp;ac_nf)
  · exact .inr (by simp;ac_nf)
 self:=λA i s Q E st h=>by obtain⟨⟨f0,b0,hf0,hz⟩,_⟩:=st;have hT:s.TypeIs (.ref z) "zip":=⟨_,hz,rfl⟩;refine wpAny_pyIter_slot hT F.slot_zip_iter (wpAny_call_entry F.slot_zip_iter hT F.entry_zip_iter ?_ (F.args_zip_iter_1 _));change wpAny (model P w) _ (ret (.ref z)) _ E s;exact fG ⟨_,rfl,"zip",_,hT,F.slot_zip_next.lookup,h⟩
variable{ta:TA}{p:Pos}
section
variable{X:Cx}{nm:Str}{ef:Pos}
theorem b4Q{a b:Expr}(hg:Gl X "zip")(hm:X.mg "zip"=none)(ha:PA X [a,b] ta)(hs:starEach [a,b] X.env=(false,eval a X.env)::starEach [b] X.env)(hp:(backTo pos (starEach [b] X.env)).any (·.1)=false):
 PI X (.Name nm ef) (.Call (.Name "zip" p) [a,b] [] pos) (c2I X.K ta):=by
 intro bC s σ H R I h;refine Call_ (a0g I hg hm boot_zip (fZ (thn (ha pos bC s σ H _ I h) λus s1 zz=>?_) hs hp));obtain⟨vs,H1,I1,r1,q1⟩:=zz;obtain⟨l1,l2,xs,ys,e,hq1,hq2,q⟩:=q1;subst e;obtain⟨u,u',rfl,ru,ru'⟩:=a6d r1;cases ru;cases ru';obtain⟨bF,rv,pl,hz⟩:=I1.list hq1;obtain⟨its',rv',pl',hz'⟩:=I1.list hq2;refine call_zip_2 pl.isList pl'.isList λh' a1 a2 a3 a4 a5 a6 hk=>?_;have I2:Inv X bC σ H1 {s1 with heap:=h'}:=I1.kept (t':=s1.toks) hk;have lt1:l1<s1.heap.objs.size:=by obtain⟨o,e,_⟩:=pl.isList;exact fH e
 have lt2:l2<s1.heap.objs.size:=by obtain⟨o,e,_⟩:=pl'.isList;exact fH e
 refine gP a1 ⟨s1.heap.objs.size+4,[s1.heap.objs.size+4,s1.heap.objs.size+2,s1.heap.objs.size+3,s1.heap.objs.size,s1.heap.objs.size+1],_,_,H1,rfl,I2,a9z _ _ _ _ _ l1 l2 (zipApart_new lt1 lt2),⟨⟨.none,false,.inl rfl,a1⟩,a2,⟨_,_,a3⟩,a4,a5⟩,λb hb=>?_,q⟩;have hb':s1.heap.objs.size<=b:=by
  simp only[aF,not_mem_nil,gx] at hb;rcases hb with rfl|rfl|rfl|rfl|rfl
  · exact fY _ _
  · exact fY _ _
  · exact fY _ _
  · exact aj _
  · exact fY _ _
 exact I1.fpOk hb' (I1.hok.fresh hb')
end
variable{h:Heap}{a:Addr}
theorem b2K{o:Obj}{vs:Array Value}(f:Array Value->Array Value)(e:h.get? a=some o)(d:o.data=.fields vs):∃o',(h.update a (Obj.mapFields f)).get? a=some o'/\o'.cls=o.cls/\o'.data=.fields (f vs):=by
 refine⟨Obj.mapFields f o,gO _ e ?_,?_,?_⟩
 · cases o;subst d;rfl
 · cases o;subst d;rfl
 · cases o;subst d;rfl
variable{prog:Program}{A:Around}{it:Addr}{items:Array Value}{Q:Value->Shared->Prop}
theorem Z0{E:Value->Shared->Prop}{s:Shared}{t:Addr}{i:Nat}{x:Value}(st:s.heap.IsTupleIter it t i)(hl:s.heap.IsTuple t items)(hx:items[i]? =some x)
 (h:∀h':Heap,h'.IsTupleIter it t (i+1)->Heap.SameBut it s.heap h'->Q x {s with heap:=h'}):wpAny (model prog w) A (nextOf (.ref it)) Q E s:=by
 unfold nextOf;refine fv (gh st.typeIs slot_tupleiter_next (wpAny_call (gQ slot_tupleiter_next.plain entry_tupleiter_next (slot_tupleiter_next.check _ _ _ _ _ _ _ _ st.typeIs (args_tupleiter_next _) ?_))));obtain⟨o,e,c,d⟩:=st;obtain⟨o2,e2,c2,n,d2⟩:=hl;refine fv (fG (a:=(Value.ref it,[])) ?_);refine fv (fQ e d rfl ?_);refine fv (fQ e d rfl ?_);refine fv (fX e2 d2 ?_);have dY:items[((i:Nat):Int).toNat]? =some x:=hx;simp only[dY];refine fv (gB e d (show 1<2 by decide) (fG ?_));obtain⟨o',e',c',d'⟩:=b2K (λx=>x.setIfInBounds 1 (rawInt (↑i+1))) e d;exact fG (h _ ⟨o',e',c'.trans c,d'⟩ (fT _ _ _))
variable{α:Type}{M:Model}
theorem b4o{E:Value->Shared->Prop}{s:Shared}{Q:α->Shared->Prop}(hh:A.handled=none)
 (h:∀(h':Heap) (e:Addr),(∀b o,s.heap.get? b=some o->h'.get? b=some o)->(∃o,h'.get? e=some o/\o.cls=Value.type "StopIteration")->E (.ref e) {s with heap:=h'}):wpAny M A (stopIteration (α:=α)) Q E s:=by
 unfold stopIteration newExc;refine fv (fv (wpAny_newTuple (fv (fG (a:=Value.none) ?_)) ∅));refine fv (wpAny_alloc (fG (wpAny_raiseNew_none hh (h _ _ (λb o e=>fF _ (fF _ e)) ⟨_,fI _ rfl,rfl⟩))))
theorem a3A{E:Value->Shared->Prop}{s:Shared}{t:Addr}{i:Nat}(hh:A.handled=none)(st:s.heap.IsTupleIter it t i)(hl:s.heap.IsTuple t items)(hx:items[i]? =none)
 (h:∀(h':Heap) (e:Addr),Heap.ExtBut it s.heap h'->(∃o,h'.get? e=some o/\o.cls=Value.type "StopIteration")->E (.ref e) {s with heap:=h'}):wpAny (model prog w) A (nextOf (.ref it)) Q E s:=by
 unfold nextOf;refine fv (gh st.typeIs slot_tupleiter_next (wpAny_call (gQ slot_tupleiter_next.plain entry_tupleiter_next (slot_tupleiter_next.check _ _ _ _ _ _ _ _ st.typeIs (args_tupleiter_next _) ?_))));obtain⟨o,e,c,d⟩:=st;obtain⟨o2,e2,c2,n,d2⟩:=hl;refine fv (fG (a:=(Value.ref it,[])) ?_);refine fv (fQ e d rfl ?_);refine fv (fQ e d rfl ?_);refine fv (fX e2 d2 ?_);have dY:items[((i:Nat):Int).toNat]? =none:=hx;simp only[dY];refine fv (wpAny_rule (fv (gB e d (show 0<2 by decide) ?_)));exact b4o hh λh' ea k t=>h _ ea (λb o hb q=>k b o (((fT _ _ _).2 b hb).trans q)) t
variable{z:Addr}{f0:Value}{v1:Value}
theorem a1F{TI TO:Addr}(v:Value)(e:h.get? z=some {cls:=Value.type "zip",data:=Data.fields #[f0,v1,Value.bool false,Value.ref TI,Value.ref TO]}):
 (h.update z (Obj.mapFields λx=>x.setIfInBounds 0 v)).get? z=some {cls:=Value.type "zip",data:=Data.fields #[v,v1,Value.bool false,Value.ref TI,Value.ref TO]}:=gO _ e rfl
theorem b2H{TI TO:Addr}(v:Value)(e:h.get? z=some {cls:=Value.type "zip",data:=Data.fields #[f0,v1,Value.bool false,Value.ref TI,Value.ref TO]}):
 (h.update z (Obj.mapFields λx=>x.setIfInBounds 1 v)).get? z=some {cls:=Value.type "zip",data:=Data.fields #[f0,v,Value.bool false,Value.ref TI,Value.ref TO]}:=gO _ e rfl
variable{l1:Addr}{l2:Addr}{k1:Nat}{k2:Nat}{ys:Array Value}
theorem a9t{E:Value->Shared->Prop}{s:Shared}{TI TO i1 i2:Addr}{xs:Array Value}{x y a b:Value}
 (D:ZipApart z TI TO i1 i2 l1 l2) (hz:IsZip s.heap z TI TO .none) (cn:IsPair s.heap TI (.ref i1) (.ref i2)) (cp:IsPair s.heap TO a b) (h1:s.heap.IsTupleIter i1 l1 k1) (h2:s.heap.IsListIter i2 l2 k2) (p1:s.heap.IsTuple l1 xs) (p2:s.heap.IsList l2 ys) (hx:xs[k1]? =some x) (hy:ys[k2]? =some y)
 (h:∀h':Heap,IsZip h' z TI TO (rawInt ↑s.heap.objs.size)->IsPair h' TO x y->h'.IsTupleIter i1 l1 (k1+1)->h'.IsListIter i2 l2 (k2+1)->IsPair h' s.heap.objs.size x y->h'.objs.size=s.heap.objs.size+1->(∀(c:Addr) (o:Obj),c≠z->c≠TO->c≠i1->c≠i2->s.heap.get? c=some o->h'.get? c=some o)->Q (.ref s.heap.objs.size) {s with heap:=h'}):
 wpAny (model prog w) A (Builtin.«zip.__next__» {pos:=[.ref z]}) (λcJ s'=>∃v,cJ=.done (.ret v)/\Q v s') E s:=by
 unfold Builtin.«zip.__next__»;refine fv (fG (a:=(Value.ref z,[])) ?_);refine fv (fQ hz rfl rfl ?_);refine fv (fQ hz rfl rfl ?_);refine fv (fX cn rfl ?_);refine fv (fv (fQ hz rfl rfl (fG ?_)));refine fv (wpAny_rule (fv (fQ hz rfl rfl ?_)));refine fv (gB hz rfl (show 0<5 by decide) ?_);have sb1:=fT s.heap z (Obj.mapFields λx=>x.setIfInBounds 0 Value.ellipsis);have hz1:=a1F Value.ellipsis hz;generalize s.heap.update z (Obj.mapFields λx=>x.setIfInBounds 0 Value.ellipsis)=g1 at sb1 hz1⊢;have t1:g1.get? TO=_:=(sb1.2 _ D.TOz).trans cp;have i1':=h1.at λo e=>(sb1.2 _ D.i1z).trans e;have i2':=h2.at λo e=>(sb1.2 _ D.i2z).trans e;refine fv (fv (fv (gz (fv (Z0 i1' (p1.at λo e=>(sb1.2 _ D.l1z).trans e) hx λg2 j1 ei=>fG ?_)))));have t2:g2.get? TO=_:=(ei.2 _ D.TOi1).trans t1;have hz2:=(ei.2 _ (fR D.i1z)).trans hz1;refine fv (fX t2 rfl ?_);refine fv (gy t2 λg3 t3 ff=>?_);refine fv (hU (fG ?_));have hz3:=(ff.2 _ (fR D.TOz)).trans hz2;have m1:=j1.at λo e=>(ff.2 _ (fR D.TOi1)).trans e;have m2:=i2'.at λo e=>(ff.2 _ (fR D.TOi2)).trans ((ei.2 _ (fR D.i12)).trans e);refine fv (fv (gz (fv (gj m2 (p2.at λo e=>(ff.2 _ D.l2TO).trans ((ei.2 _ D.l2i1).trans ((sb1.2 _ D.l2z).trans e))) hy λg4 j2 sb4=>fG ?_))));have t4:g4.get? TO=some {cls:=.type "tuple",data:=.seq #[x,b]}:=(sb4.2 _ D.TOi2).trans t3;have hz4:=(sb4.2 _ (fR D.i2z)).trans hz3;have n1:=m1.at λo e=>(sb4.2 _ D.i12).trans e;refine fv (fX t4 rfl ?_);refine fv (gy t4 λg5 t5 sb5=>?_);refine fv (hU (fG (fG ?_)));have t5':g5.get? TO=some {cls:=.type "tuple",data:=.seq #[x,y]}:=t5;have hz5:=(sb5.2 _ (fR D.TOz)).trans hz4;have q1:=n1.at λo e=>(sb5.2 _ (fR D.TOi1)).trans e;have q2:=j2.at λo e=>(sb5.2 _ (fR D.TOi2)).trans e;refine fv (fX t5' rfl ?_);refine fv (wpAny_newTuple ?_ (show 2<=sizeLine by decide));have zs:g5.objs.size=s.heap.objs.size:=by rw[sb5.1,sb4.1,ff.1,ei.1,sb1.1]
 have zlt:z<g5.objs.size:=fH hz5;have hz6:=fF {cls:=Value.type "tuple",data:=Data.seq #[x,y].toList.toArray} hz5;refine fv (fv (gB hz6 rfl (show 0<5 by decide) (gB (a1F _ hz6) rfl (show 1<5 by decide) (fG ⟨_,rfl,?_⟩))));have nz:g5.objs.size≠z:=gD zlt;have ot:∀c,c≠z->(((g5.push {cls:=Value.type "tuple",data:=Data.seq #[x,y].toList.toArray}).update z (Obj.mapFields λx=>x.setIfInBounds 0 (rawInt ↑g5.objs.size))).update z (Obj.mapFields λx=>x.setIfInBounds 1 (.bool false))).get? c=(g5.push {cls:=Value.type "tuple",data:=Data.seq #[x,y].toList.toArray}).get? c:=λc hc=>
  ((fT _ _ _).2 c hc).trans ((fT _ _ _).2 c hc)
 have hz7:=b2H (Value.bool false) (a1F (rawInt ↑g5.objs.size) hz6);have sz7:(((g5.push {cls:=Value.type "tuple",data:=Data.seq #[x,y].toList.toArray}).update z (Obj.mapFields λx=>x.setIfInBounds 0 (rawInt ↑g5.objs.size))).update z (Obj.mapFields λx=>x.setIfInBounds 1 (.bool false))).objs.size=g5.objs.size+1:=by rw[(fT _ _ _).1,(fT _ _ _).1];exact Array.size_push ..
 have r:=h _ (zs▸hz7) ((ot _ D.TOz).trans (fF _ t5')) (q1.at λo e=>(ot _ D.i1z).trans (fF _ e)) (q2.at λo e=>(ot _ D.i2z).trans (fF _ e)) (by rw[←zs];exact(ot _ nz).trans (fI _ rfl)) (by rw[←zs];exact sz7)
  (λc o c1 c2 c3 c4 e=>(ot _ c1).trans (fF _ ((sb5.2 _ c2).trans ((sb4.2 _ c4).trans ((ff.2 _ c2).trans ((ei.2 _ c3).trans ((sb1.2 _ c1).trans e)))))))
 rw[←zs] at r;exact r
theorem a2a{E:Value->Shared->Prop}{s:Shared}{TI TO i1 i2:Addr}{xs:Array Value}{x y a b:Value}{Q:Option Value->Shared->Prop}
 (D:ZipApart z TI TO i1 i2 l1 l2) (hz:IsZip s.heap z TI TO .none) (cn:IsPair s.heap TI (.ref i1) (.ref i2)) (cp:IsPair s.heap TO a b) (h1:s.heap.IsTupleIter i1 l1 k1) (h2:s.heap.IsListIter i2 l2 k2) (p1:s.heap.IsTuple l1 xs) (p2:s.heap.IsList l2 ys) (hx:xs[k1]? =some x) (hy:ys[k2]? =some y)
 (h:∀h':Heap,IsZip h' z TI TO (rawInt ↑s.heap.objs.size)->IsPair h' TO x y->h'.IsTupleIter i1 l1 (k1+1)->h'.IsListIter i2 l2 (k2+1)->IsPair h' s.heap.objs.size x y->h'.objs.size=s.heap.objs.size+1->(∀(c:Addr) (o:Obj),c≠z->c≠TO->c≠i1->c≠i2->s.heap.get? c=some o->h'.get? c=some o)->Q (~~~s.heap.objs.size) {s with heap:=h'}):
 wpAny (model prog w) A (pyNext (.ref z)) Q E s:=by
 have ti:s.TypeIs (.ref z) "zip":=⟨_,hz,rfl⟩;unfold pyNext;refine fv (wpAny_attempt (gh ti PySem.F.slot_zip_next (wpAny_call (gQ PySem.F.slot_zip_next.plain PySem.F.entry_zip_next (PySem.F.slot_zip_next.check _ _ _ _ _ _ _ _ ti (PySem.F.args_zip_next_1 _) ?_)))));refine gv (a9t (E:=λ_ _=>False) (Q:=λv s'=>Q (some v) s') D hz cn cp h1 h2 p1 p2 hx hy h) ?_ ?_
 · rintro cJ s' ⟨v,rfl,q⟩;exact fG q
 · exact λe s' q=>q.elim
theorem b0A{E:Value->Shared->Prop}{s:Shared}{TI TO i1 i2:Addr}{xs:Array Value}{a b:Value}{Q:Fin->Shared->Prop}(hh:A.handled=none)
 (D:ZipApart z TI TO i1 i2 l1 l2) (hz:IsZip s.heap z TI TO .none) (cn:IsPair s.heap TI (.ref i1) (.ref i2)) (cp:IsPair s.heap TO a b) (h1:s.heap.IsTupleIter i1 l1 k1) (h2:s.heap.IsListIter i2 l2 k2) (p1:s.heap.IsTuple l1 xs) (p2:s.heap.IsList l2 ys) (hn:xs[k1]? =none∨ys[k2]? =none)
 (h:∀(h':Heap) (e:Addr),(∀(c:Addr) (o:Obj),c≠z->c≠TO->c≠i1->c≠i2->s.heap.get? c=some o->h'.get? c=some o)->(∃o,h'.get? e=some o/\o.cls=Value.type "StopIteration")->E (.ref e) {s with heap:=h'}):
 wpAny (model prog w) A (Builtin.«zip.__next__» {pos:=[.ref z]}) Q E s:=by
 unfold Builtin.«zip.__next__»;refine fv (fG (a:=(Value.ref z,[])) ?_);refine fv (fQ hz rfl rfl ?_);refine fv (fQ hz rfl rfl ?_);refine fv (fX cn rfl ?_);refine fv (fv (fQ hz rfl rfl (fG ?_)));refine fv (wpAny_rule (fv (fQ hz rfl rfl ?_)));refine fv (gB hz rfl (show 0<5 by decide) ?_);have sb1:=fT s.heap z (Obj.mapFields λx=>x.setIfInBounds 0 Value.ellipsis);have hz1:=a1F Value.ellipsis hz;generalize s.heap.update z (Obj.mapFields λx=>x.setIfInBounds 0 Value.ellipsis)=g1 at sb1 hz1⊢;have t1:g1.get? TO=_:=(sb1.2 _ D.TOz).trans cp;have i1':=h1.at λo e=>(sb1.2 _ D.i1z).trans e;have i2':=h2.at λo e=>(sb1.2 _ D.i2z).trans e;have pp1:g1.IsTuple l1 xs:=p1.at λo e=>(sb1.2 _ D.l1z).trans e;cases hx:xs[k1]? with
 | none=>
  refine fv (fv (fv (gz (fv (a3A hh i1' pp1 hx λg2 e eb st=>?_)))));have q1:=eb _ _ (fR D.i1z) hz1;refine gB q1 rfl (show 0<5 by decide) (h _ e (λc o c1 c2 c3 c4 q=>((fT _ _ _).2 c c1).trans (eb _ _ c3 ((sb1.2 _ c1).trans q))) ?_);obtain⟨o,w1,w2⟩:=st;have ez:e≠z:=by rintro rfl;have q3:=w1.symm.trans q1;injection q3 with q3;subst q3;exact absurd (show Value.type "zip"=Value.type "StopIteration" from w2) ∅
  exact⟨o,((fT _ _ _).2 _ ez).trans w1,w2⟩
 | some x=>
  have hy:ys[k2]? =none:=by
   rcases hn with hn|hn
   · rw[hx] at hn;cases hn
   · exact hn
  refine fv (fv (fv (gz (fv (Z0 i1' pp1 hx λg2 j1 ei=>fG ?_)))));have t2:g2.get? TO=_:=(ei.2 _ D.TOi1).trans t1;have hz2:=(ei.2 _ (fR D.i1z)).trans hz1;refine fv (fX t2 rfl ?_);refine fv (gy t2 λg3 t3 ff=>?_);refine fv (hU (fG ?_));have hz3:=(ff.2 _ (fR D.TOz)).trans hz2;have m2:=i2'.at λo e=>(ff.2 _ (fR D.TOi2)).trans ((ei.2 _ (fR D.i12)).trans e);refine fv (fv (gz (fv (gH hh m2 (p2.at λo e=>(ff.2 _ D.l2TO).trans ((ei.2 _ D.l2i1).trans ((sb1.2 _ D.l2z).trans e))) hy λg4 e eb st=>?_))));have q1:=eb _ _ (fR D.i2z) hz3;refine gB q1 rfl (show 0<5 by decide) (h _ e (λc o c1 c2 c3 c4 q=>((fT _ _ _).2 c c1).trans (eb _ _ c4 ((ff.2 _ c2).trans ((ei.2 _ c3).trans ((sb1.2 _ c1).trans q))))) ?_);obtain⟨o,w1,w2⟩:=st;have ez:e≠z:=by rintro rfl;have q3:=w1.symm.trans q1;injection q3 with q3;subst q3;exact absurd (show Value.type "zip"=Value.type "StopIteration" from w2) ∅
  exact⟨o,((fT _ _ _).2 _ ez).trans w1,w2⟩
theorem a2H{E:Value->Shared->Prop}{s:Shared}{TI TO i1 i2:Addr}{xs:Array Value}{a b:Value}{Q:Option Value->Shared->Prop}(hh:A.handled=none)
 (D:ZipApart z TI TO i1 i2 l1 l2) (hz:IsZip s.heap z TI TO .none) (cn:IsPair s.heap TI (.ref i1) (.ref i2)) (cp:IsPair s.heap TO a b) (h1:s.heap.IsTupleIter i1 l1 k1) (h2:s.heap.IsListIter i2 l2 k2) (p1:s.heap.IsTuple l1 xs) (p2:s.heap.IsList l2 ys) (hn:xs[k1]? =none∨ys[k2]? =none)
 (h:∀(h':Heap),(∀(c:Addr) (o:Obj),c≠z->c≠TO->c≠i1->c≠i2->s.heap.get? c=some o->h'.get? c=some o)->Q none {s with heap:=h'}):
 wpAny (model prog w) A (pyNext (.ref z)) Q E s:=by
 have ti:s.TypeIs (.ref z) "zip":=⟨_,hz,rfl⟩;unfold pyNext;refine fv (wpAny_attempt (gh ti PySem.F.slot_zip_next (wpAny_call (gQ PySem.F.slot_zip_next.plain PySem.F.entry_zip_next (PySem.F.slot_zip_next.check _ _ _ _ _ _ _ _ ti (PySem.F.args_zip_next_1 _) ?_)))));refine b0A (A:=A.in1) hh D hz cn cp h1 h2 p1 p2 hn λh' e k st=>?_;exact fv (wpAny_isInstance (T:="StopIteration") (b:=true) st rfl (fG (h h' k)))
def oIt(a:Addr):Obj:={cls:=.type "tuple_iterator",data:=.fields #[.ref a,.int 0 0]}
def oIl(a:Addr):Obj:={cls:=.type "list_iterator",data:=.fields #[.ref a,.int 0 0]}
def oTp(l:List Value):Obj:={cls:=.type "tuple",data:=.seq l.toArray}
noncomputable def oZp(i j:Nat):Obj:={cls:=.type "zip",data:=.fields #[.none,.bool false,.bool false,.ref i,.ref j]}
def zA(h:Heap)(a:Addr):Heap:=h.push (oIt a)
def zB(h:Heap)(a b:Addr):Heap:=(zA h a).push (oIl b)
def zC(h:Heap)(a b:Addr):Heap:=(zB h a b).push (oTp [.ref h.objs.size,.ref (zA h a).objs.size])
def zD(h:Heap)(a b:Addr):Heap:=(zC h a b).push (oTp [.none,.none])
def zE(h:Heap)(a b:Addr):Heap:=(zD h a b).push (oZp (zB h a b).objs.size (zC h a b).objs.size)
theorem b5i(a b:Addr)(xs ys:Array Value):Meets (Builtin.«zip.__new__» ⟨[.type "zip",.ref a,.ref b],[]⟩) (λ_ R s=>s.heap.IsTuple a xs/\s.heap.IsList b ys/\R (.ok (.ret (.ref (zD s.heap a b).objs.size))) {s with heap:=zE s.heap a b}):=
 .of_wp λprog w A R s h=>by
  obtain⟨u,g,d,tk,os⟩:=s;obtain⟨h1,h2,h⟩:=h;have hsub:=sub_zip;have e1:Heap.IsTuple (Shared.heap ⟨u,g,d,tk,os⟩) a xs:=h1;have e2:Heap.IsList (Shared.heap ⟨u.push {cls:=.type "tuple_iterator",data:=.fields #[.ref a,.int 0 0]},g,d,tk,os⟩) b ys:=h2.at λo e=>fF _ e
  wp_walk using wpAny_pyIter_tuple e1,gY e2
  exact⟨_,rfl,h⟩
variable{b:Addr}
theorem b3I{E:Value->Shared->Prop}{s:Shared}{xs:Array Value}(h1:s.heap.IsTuple a xs)(h2:s.heap.IsList b ys)
 (h:∀h':Heap,IsZip h' (s.heap.objs.size+4) (s.heap.objs.size+2) (s.heap.objs.size+3) .none->IsPair h' (s.heap.objs.size+2) (.ref s.heap.objs.size) (.ref (s.heap.objs.size+1))->IsPair h' (s.heap.objs.size+3) .none .none->h'.IsTupleIter s.heap.objs.size a 0->h'.IsListIter (s.heap.objs.size+1) b 0->(∀c o,s.heap.get? c=some o->h'.get? c=some o)->Q (.ref (s.heap.objs.size+4)) {s with heap:=h'}):
 wpAny (model prog w) A (call (.type "zip") [.ref a,.ref b]) Q E s:=by
 refine callType_new F.called_zip ∅ (F.typeCall_zip_2 _ _) (F.newCall_zip_2 _ _) (λobj=>F.args_object_init_3 obj _ _) F.entry_zip_new (b5i a b xs ys) ⟨h1,h2,?_⟩;have n1:(zA s.heap a).objs.size=s.heap.objs.size+1:=gr ..;have n2:(zB s.heap a b).objs.size=s.heap.objs.size+2:=(gr ..).trans (by rw[n1]);have n3:(zC s.heap a b).objs.size=s.heap.objs.size+3:=(gr ..).trans (by rw[n2]);have n4:(zD s.heap a b).objs.size=s.heap.objs.size+4:=(gr ..).trans (by rw[n3]);have k4:(zE s.heap a b).get? (zD s.heap a b).objs.size=some (oZp (zB s.heap a b).objs.size (zC s.heap a b).objs.size):=fI _ rfl;have k3:(zE s.heap a b).get? (zC s.heap a b).objs.size=some (oTp [.none,.none]):=fF _ (fI _ rfl);have k2:(zE s.heap a b).get? (zB s.heap a b).objs.size=some (oTp [.ref s.heap.objs.size,.ref (zA s.heap a).objs.size]):=fF _ (fF _ (fI _ rfl));have k1:(zE s.heap a b).get? (zA s.heap a).objs.size=some (oIl b):=fF _ (fF _ (fF _ (fI _ rfl)));have k0:(zE s.heap a b).get? s.heap.objs.size=some (oIt a):=fF _ (fF _ (fF _ (fF _ (fI _ rfl))));rw[n2,n3,n4] at k4;rw[n3] at k3;rw[n1,n2] at k2;rw[n1] at k1;show _/\_;rw[n4];exact⟨⟨_,k4,rfl⟩,h _ k4 k2 k3 ⟨_,k0,rfl,rfl⟩ ⟨_,k1,rfl,rfl⟩ λc o e=>fF _ (fF _ (fF _ (fF _ (fF _ e))))⟩
noncomputable def b9w(K:Frag)(l1 l2:Addr):It:=⟨λi H=>∃xs ys x y,SqT K H l1 xs/\SqL K H l2 ys/\xs[i]? =some x/\ys[i]? =some y,
 λi H v H'=>∃T x y,H T=none/\v=.ref T/\(∀xs,SqT K H l1 xs->xs[i]? =some x)/\(∀ys,SqL K H l2 ys->ys[i]? =some y)/\H'=upd H T (.tup [x,y]),
 λi H=>∃xs ys,SqT K H l1 xs/\SqL K H l2 ys/\(↥xs<=i∨↥ys<=i)⟩
variable{dP:List Expr}
theorem a9y{k:Nat}(z TI TO i1 i2 l1 l2:Addr)(D:ZipApart z TI TO i1 i2 l1 l2):
 Turn P w K (.Tuple dP k pos) (b9w K l1 l2) [z,TI,TO,i1,i2] z (λi h=>IsZip h z TI TO .none/\IsPair h TI (.ref i1) (.ref i2)/\(∃a b,IsPair h TO a b)/\h.IsTupleIter i1 l1 i/\h.IsListIter i2 l2 i) where
 mem:=by simp
 obj:=λi h st b hb=>by
  obtain⟨hz,cn,⟨a,c,cp⟩,⟨o1,e1,c1,d1⟩,⟨o2,e2,c2,d2⟩⟩:=st;simp only[aF,not_mem_nil,gx] at hb;rcases hb with rfl|rfl|rfl|rfl|rfl
  · exact⟨_,hz,λv q=>by have q':Data.fields _=Data.cell v:=q;cases q'⟩
  · exact⟨_,cn,λv q=>by have q':Data.seq _ _=Data.cell v:=q;cases q'⟩
  · exact⟨_,cp,λv q=>by have q':Data.seq _ _=Data.cell v:=q;cases q'⟩
  · exact⟨o1,e1,λv q=>by rw[d1] at q;cases q⟩
  · exact⟨o2,e2,λv q=>by rw[d2] at q;cases q⟩
 keep:=λi h h' st k=>by obtain⟨hz,cn,⟨a,c,cp⟩,h1,h2⟩:=st;exact⟨k z ⋯ _ hz,k TI ⋯ _ cn,⟨a,c,k TO ⋯ _ cp⟩,h1.at λo x=>k i1 ⋯ o x,h2.at λo x=>k i2 ⋯ o x⟩
 item:=by
  intro X hP hw hK hc i bC s σ H E I hf st hg;subst hP hw hK;obtain⟨hz,cn,⟨a,c,cp⟩,h1,h2⟩:=st;obtain⟨xs,ys,x,y,hq1,hq2,hx,hy⟩:=hg;obtain⟨bF,rv,p,hz1⟩:=I.tuple hq1;obtain⟨its',rv',p',hz2⟩:=I.list hq2;obtain⟨u,hu,ru⟩:=rv.get hx;obtain⟨u',hu',ru'⟩:=rv'.get hy;have hzlt:z<s.heap.objs.size:=fH hz;refine a2a D hz cn cp h1 h2 (show s.heap.IsTuple l1 bF.toArray from p) p'.isList (x:=u) (y:=u') (by simpa using hu) (by simpa using hu') λh' a1 a2 a3 a4 a5 a6 hk=>?_;refine⟨_,rfl,wpAny_letOwnedTupleGo_zip a1 λh3 hz3 dZ=>?_⟩;have kk:∀b o,b∉[z,TI,TO,i1,i2]->s.heap.get? b=some o->h3.get? b=some o:=λb o hb q=>by have n1:b≠z:=λw=>hb (by simp[w]);exact(dZ.2 b n1).trans (hk b o n1 (λw=>hb (by simp[w])) (λw=>hb (by simp[w])) (λw=>hb (by simp[w])) q)
  have hT3:h3.get? s.heap.objs.size=some {cls:=.type "tuple",data:=.seq #[u,u']}:=(dZ.2 _ (gD hzlt)).trans a5;have I1:Inv X bC σ (upd H s.heap.objs.size (.tup [x,y])) {s with heap:=h3,toks:=s.toks}:=
   I.turnedN (fp:=[z,TI,TO,i1,i2]) hf kk (aj _) ⟨by show 2<=sizeLine;decide,[u,u'],.cons ru (.cons ru' .nil),_,hT3,rfl,rfl,_,rfl⟩
  refine⟨.ref s.heap.objs.size,_,I1,rfl,⟨s.heap.objs.size,x,y,I.hok.fresh (aj _),rfl,λzs hy=>by rw[I.tuple_inj hy hq1];exact hx,λzs hy'=>by rw[I.list_inj hy' hq2];exact hy,rfl⟩,
   ⟨hz3,(dZ.2 _ D.TIz).trans (hk _ _ D.TIz D.TITO D.TIi1 D.TIi2 cn),⟨_,_,(dZ.2 _ D.TOz).trans a2⟩,a3.at λo x=>(dZ.2 _ D.i1z).trans x,a4.at λo x=>(dZ.2 _ D.i2z).trans x⟩,λb hb=>?_⟩
  have hbs:b<s.heap.objs.size:=by
   obtain⟨o1,e1,_⟩:=h1;obtain⟨o2,e2,_⟩:=h2;simp only[aF,not_mem_nil,gx] at hb;rcases hb with rfl|rfl|rfl|rfl|rfl
   · exact hzlt
   · exact fH cn
   · exact fH cp
   · exact fH e1
   · exact fH e2
  rw[j9 (fN hbs)];exact(hf b hb).1
 done:=by
  intro X hP hw hK hc i bC s σ H E I hf st hg;subst hP hw hK;obtain⟨hz,cn,⟨a,c,cp⟩,h1,h2⟩:=st;obtain⟨xs,ys,hq1,hq2,hx⟩:=hg;obtain⟨bF,rv,p,hz1⟩:=I.tuple hq1;obtain⟨its',rv',p',hz2⟩:=I.list hq2;have hl:=↥rv;have hl':=↥rv';refine a2H (I.ok.hd hc) D hz cn cp h1 h2 (show s.heap.IsTuple l1 bF.toArray from p) p'.isList ?_ λh' eb=>⟨rfl,I.turnedF (t':=s.toks) hf λb o hb q=>eb b o (λz=>hb (by simp[z])) (λz=>hb (by simp[z])) (λz=>hb (by simp[z])) (λz=>hb (by simp[z])) q⟩;rcases hx with hx|hx
  · exact .inl (by simp;ac_nf)
  · exact .inr (by simp;ac_nf)
 self:=λA i s Q E st h=>gP st.1 h
section
variable{X:Cx}{k:Nat}{ef:Pos}
def c0C(K:Frag)(ta:TA):TI:=λσ H R=>ta σ H λvs H1=>∃l1 l2 xs ys,vs=[.ref l1,.ref l2]/\((SqL K H1 l1 xs/\SqL K H1 l2 ys/\R (Itz K l1 l2) H1)∨(SqT K H1 l1 xs/\SqL K H1 l2 ys/\R (b9w K l1 l2) H1))
theorem b4R{a b:Expr}(hg:Gl X "zip")(hm:X.mg "zip"=none)(ha:PA X [a,b] ta)(hs:starEach [a,b] X.env=(false,eval a X.env)::starEach [b] X.env)(hp:(backTo pos (starEach [b] X.env)).any (·.1)=false):
 PI X (.Tuple dP k ef) (.Call (.Name "zip" p) [a,b] [] pos) (c0C X.K ta):=by
 intro bC s σ H R I h;refine Call_ (a0g I hg hm boot_zip (fZ (thn (ha pos bC s σ H _ I h) λus s1 zz=>?_) hs hp));obtain⟨vs,H1,I1,r1,q1⟩:=zz;obtain⟨l1,l2,xs,ys,e,⟨hq1,hq2,q⟩|⟨hq1,hq2,q⟩⟩:=q1<;>subst e
 · obtain⟨u,u',rfl,ru,ru'⟩:=a6d r1;cases ru;cases ru';obtain⟨bF,rv,pl,hz⟩:=I1.list hq1;obtain⟨its',rv',pl',hz'⟩:=I1.list hq2;refine call_zip_2 pl.isList pl'.isList λh' a1 a2 a3 a4 a5 a6 hk=>?_;have I2:Inv X bC σ H1 {s1 with heap:=h'}:=I1.kept (t':=s1.toks) hk;have lt1:l1<s1.heap.objs.size:=by obtain⟨o,e,_⟩:=pl.isList;exact fH e
   have lt2:l2<s1.heap.objs.size:=by obtain⟨o,e,_⟩:=pl'.isList;exact fH e
   refine gP a1 ⟨s1.heap.objs.size+4,[s1.heap.objs.size+4,s1.heap.objs.size+2,s1.heap.objs.size+3,s1.heap.objs.size,s1.heap.objs.size+1],_,_,H1,rfl,I2,b0H _ _ _ _ _ l1 l2 (zipApart_new lt1 lt2),⟨a1,a2,⟨_,_,a3⟩,a4,a5⟩,λb hb=>?_,q⟩;have hb':s1.heap.objs.size<=b:=by
    simp only[aF,not_mem_nil,gx] at hb;rcases hb with rfl|rfl|rfl|rfl|rfl
    · exact fY _ _
    · exact fY _ _
    · exact fY _ _
    · exact aj _
    · exact fY _ _
   exact I1.fpOk hb' (I1.hok.fresh hb')
 · obtain⟨u,u',rfl,ru,ru'⟩:=a6d r1;cases ru;cases ru';obtain⟨bF,rv,pl,hz⟩:=I1.tuple hq1;obtain⟨its',rv',pl',hz'⟩:=I1.list hq2;refine b3I (show s1.heap.IsTuple l1 bF.toArray from pl) pl'.isList λh' a1 a2 a3 a4 a5 hk=>?_;have I2:Inv X bC σ H1 {s1 with heap:=h'}:=I1.kept (t':=s1.toks) hk;have lt1:l1<s1.heap.objs.size:=by obtain⟨o,e,_⟩:=pl;exact fH e
   have lt2:l2<s1.heap.objs.size:=by obtain⟨o,e,_⟩:=pl'.isList;exact fH e
   refine gP a1 ⟨s1.heap.objs.size+4,[s1.heap.objs.size+4,s1.heap.objs.size+2,s1.heap.objs.size+3,s1.heap.objs.size,s1.heap.objs.size+1],_,_,H1,rfl,I2,a9y _ _ _ _ _ l1 l2 (zipApart_new lt1 lt2),⟨a1,a2,⟨_,_,a3⟩,a4,a5⟩,λb hb=>?_,q⟩;have hb':s1.heap.objs.size<=b:=by
    simp only[aF,not_mem_nil,gx] at hb;rcases hb with rfl|rfl|rfl|rfl|rfl
    · exact fY _ _
    · exact fY _ _
    · exact fY _ _
    · exact aj _
    · exact fY _ _
   exact I1.fpOk hb' (I1.hok.fresh hb')
end
variable{tg:Expr}
section
variable{X:Cx}{a:Expr}{ta:TE}{p2:Pos}
noncomputable def Itv(K:Frag)(a:Addr)(n:Nat):It:=
 ⟨λi H=>∃xs x,SqL K H a xs/\i<n/\xs[n-1-i]? =some x,λi H x H'=>H'=H/\∀xs,SqL K H a xs->xs[n-1-i]? =some x,λi _=>i=n⟩
theorem b0I(a it:Addr)(n:Nat):Turn P w K tg (Itv K a n) [it] it (λi h=>h.IsRevIter it a ((n:Int)-1-(i:Int))) where
 mem:=.head _
 obj:=λi h st b hb=>by obtain rfl:=aO.mp hb;obtain⟨o,e,c,d⟩:=st;exact⟨o,e,λv z=>by rw[d] at z;cases z⟩
 keep:=λi h h' st k=>st.at λo e=>k it (.head _) o e
 item:=by
  intro X hP hw hK hc i bC s σ H E I hf st hg;subst hP hw hK;obtain⟨xs,x,hq,hi,hx⟩:=hg;obtain⟨bF,rv,p,hz⟩:=I.list hq;obtain⟨u,hu,ru⟩:=rv.get hx;obtain⟨f0,f1,f2,f3,f4,f5⟩:=hf it (.head _);have e:(n:Int)-1-(i:Int)=((n-1-i:Nat):Int):=by ac_nf
  have e2:((n-1-i:Nat):Int)-1=(n:Int)-1-((i+1:Nat):Int):=by ac_nf
  replace st:s.heap.IsRevIter it a ((n:Int)-1-(i:Int)):=st;rw[e] at st;refine wpAny_pyNext_rev_item st p.isList (x:=u) (by simpa using hu) λh' eh sb=>?_;rw[e2] at eh;have I1:Inv X bC σ H {s with heap:=h'}:=I.turned (t':=s.toks) (λb o hb e=>(sb.2 b hb).trans e) f0 f1 f3 f4 f5;obtain⟨o,e,c,d⟩:=id eh;exact⟨u,rfl,a6S (s:={s with heap:=h'}) e c d ∅ ⟨x,H,I1,ru,⟨rfl,λys hy=>by rw[I.list_inj hy hq];exact hx⟩,eh,λb hb=>(hf b hb).1⟩⟩
 done:=by intro X hP hw hK hc i bC s σ H E I hf st hg;subst hP hw hK;obtain rfl:i=n:=hg;obtain⟨f0,f1,f2,f3,f4,f5⟩:=hf it (.head _);replace st:s.heap.IsRevIter it a ((i:Int)-1-(i:Int)):=st;rw[show(i:Int)-1-(i:Int)= -1 by ac_nf] at st;exact wpAny_pyNext_rev_end (I.ok.hd hc) st λh' eb=>⟨rfl,I.turned (t':=s.toks) (λb o hb e=>eb b o hb e) f0 f1 f3 f4 f5⟩
 self:=λ_ _ _ _ _ st h=>wpAny_pyIter_revIter st h
def c2L(K:Frag)(ta:TE):TI:=λσ H R=>ta σ H λx H1=>∃l xs,x=.ref l/\SqL K H1 l xs/\R (Itv K l ↥xs) H1
theorem b7E(hg:Gl X "reversed")(hm:X.mg "reversed"=none)(ha:PE X a ta)(hp:starEach [a] X.env=[(false,eval a X.env)]):PI X tg (.Call (.Name "reversed" p) [a] [] pos) (c2L X.K ta):=by
 intro bC s σ H R I h;refine Call_ (a0g I hg hm boot_reversed (fZ ?_ (by rw[hp];rfl) rfl));rw[hp];refine gU (thn (ha bC s σ H _ I h) λv s1 zz=>Calls.spliced_nil ?_);obtain⟨x,H1,I1,r1,l,xs,rfl,hd,q1⟩:=zz;cases r1;obtain⟨bF,rv,p,hz⟩:=I1.list hd;have hl:=↥rv;refine call_reversed_list p.isList ?_;have st:(s1.heap.push (revObj l ((bF.toArray.size:Int)-1))).IsRevIter s1.heap.objs.size l ((↥xs:Int)-1-((0:Nat):Int)):=⟨_,fI _ rfl,rfl,by rw[hl,size_toArray,Int.ofNat_zero,Int.sub_zero];rfl⟩
 refine wpAny_pyIter_revIter st ⟨s1.heap.objs.size,[s1.heap.objs.size],_,_,H1,rfl,I1.kept (t':=s1.toks) λb o e=>fF _ e,b0I l _ ↥xs,st,λb hb=>?_,q1⟩;obtain rfl:=aO.mp hb;exact I1.fpOk (aj _) (I1.hok.fresh (aj _))
end
end L2
namespace EV
open PySem L2
inductive D where
 |non|bl (b:Bool)|int (i:Int)|str (x:Str)|tup (l:List D)|ref (n:Nat)
 deriving Inhabited
mutual
def D.dec:(a b:D)->Decidable (a=b)
  | .non,b=>match b with
    |.non=>Decidable.isTrue rfl
    |.bl _=>Decidable.isFalse (λh=>nomatch h)|.int _=>Decidable.isFalse (λh=>nomatch h)|.str _=>Decidable.isFalse (λh=>nomatch h)|.tup _=>Decidable.isFalse (λh=>nomatch h)|.ref _=>Decidable.isFalse (λh=>nomatch h)
  | .bl x,b=>match b with
    |.bl y=>if h:x=y then Decidable.isTrue (by rw[h]) else Decidable.isFalse (λe=>h (by injection e))
    |.non=>Decidable.isFalse (λh=>nomatch h)|.int _=>Decidable.isFalse (λh=>nomatch h)|.str _=>Decidable.isFalse (λh=>nomatch h)|.tup _=>Decidable.isFalse (λh=>nomatch h)|.ref _=>Decidable.isFalse (λh=>nomatch h)
  | .int x,b=>match b with
    |.int y=>if h:x=y then Decidable.isTrue (by rw[h]) else Decidable.isFalse (λe=>h (by injection e))
    |.non=>Decidable.isFalse (λh=>nomatch h)|.bl _=>Decidable.isFalse (λh=>nomatch h)|.str _=>Decidable.isFalse (λh=>nomatch h)|.tup _=>Decidable.isFalse (λh=>nomatch h)|.ref _=>Decidable.isFalse (λh=>nomatch h)
  | .str x,b=>match b with
    |.str y=>if h:x=y then Decidable.isTrue (by rw[h]) else Decidable.isFalse (λe=>h (by injection e))
    |.non=>Decidable.isFalse (λh=>nomatch h)|.bl _=>Decidable.isFalse (λh=>nomatch h)|.int _=>Decidable.isFalse (λh=>nomatch h)|.tup _=>Decidable.isFalse (λh=>nomatch h)|.ref _=>Decidable.isFalse (λh=>nomatch h)
  | .tup x,b=>match b with
    | .tup y=>match D.decs x y with
      |.isTrue h=>Decidable.isTrue (by rw[h])
      |.isFalse h=>Decidable.isFalse (λe=>h (by injection e))
    |.non=>Decidable.isFalse (λh=>nomatch h)|.bl _=>Decidable.isFalse (λh=>nomatch h)|.int _=>Decidable.isFalse (λh=>nomatch h)|.str _=>Decidable.isFalse (λh=>nomatch h)|.ref _=>Decidable.isFalse (λh=>nomatch h)
  | .ref x,b=>match b with
    |.ref y=>if h:x=y then Decidable.isTrue (by rw[h]) else Decidable.isFalse (λe=>h (by injection e))
    |.non=>Decidable.isFalse (λh=>nomatch h)|.bl _=>Decidable.isFalse (λh=>nomatch h)|.int _=>Decidable.isFalse (λh=>nomatch h)|.str _=>Decidable.isFalse (λh=>nomatch h)|.tup _=>Decidable.isFalse (λh=>nomatch h)
def D.decs:(a b:List D)->Decidable (a=b)
  | [],b=>match b with
    |[]=>Decidable.isTrue rfl
    |_::_=>Decidable.isFalse (λh=>nomatch h)
  | x ::xs,b=>match b with
    |[]=>Decidable.isFalse (λh=>nomatch h)
    | y ::ys=>match D.dec x y with
      | .isTrue h1=>match D.decs xs ys with
        |.isTrue h2=>Decidable.isTrue (by rw[h1,h2])
        |.isFalse h2=>Decidable.isFalse (λe=>h2 (by injection e))
      |.isFalse h1=>Decidable.isFalse (λe=>h1 (by injection e))
end
instance:DecidableEq D:=D.dec
inductive Cell where
 |lst (l:List D)|rol (l:List D)|dict (l:List (D×D))|obj (c:Nat) (fs:List (Str×D))
 deriving DecidableEq
abbrev AH:=List Cell
inductive R(α:Type)where
 |ok (a:α) (h:AH)|no
def R.bind{α β:Type}(r:R α)(k:α->AH->R β):R β:=match r with
 |.ok a h=>k a h
 |.no=>.no
@[simp] theorem b8 {α β:Type} (a:α) (h:AH) (k:α->AH->R β):(R.ok a h).bind k=k a h:=rfl
@[simp] theorem b6r {α β:Type} (k:α->AH->R β):(R.no).bind k=.no:=rfl
mutual
def D.flat:D->Bool
  |.tup l=>D.flats l
  |.ref _=>false
  |_=>true
def D.flats:List D->Bool
  |[]=>true
  |d::r=>d.flat&&D.flats r
end
abbrev SL:Nat:=16777216
def v8(c:Cell)(h:AH):R D:=.ok (.ref ↥h) (h++[c])
noncomputable def rdL(h:AH)(n:Nat):Option (List D):=match h[n]? with
 |some (.lst l)=>some l
 |some (.rol l)=>some l
 |_=>none
noncomputable def a2O:Int->Bool
 |.ofNat n=>Nat.ble n 18446744073709551615
 |.negSucc n=>Nat.ble n 18446744073709551614
def a3i:Int->Bool
 |.ofNat n=>Nat.ble n 16777216
 |.negSucc n=>Nat.ble n 16777216
theorem a3j:∀{i:Int},a2O i=true-> -(2^64)<i/\i<2^64
 |.ofNat n,h=>by have h:=fS h;show-(2^64)<(n:Int)/\(n:Int)<2^64;ac_nf
 |.negSucc n,h=>by have h:=fS h;rw[Int.negSucc_eq];ac_nf
theorem L3:∀{i:Int},a3i i=true-> -(2^62)<=i/\i<2^62
 |.ofNat n,h=>by have h:=fS h;show-(2^62)<=(n:Int)/\(n:Int)<2^62;ac_nf
 |.negSucc n,h=>by have h:=fS h;rw[Int.negSucc_eq];ac_nf
noncomputable def M8(h:AH):D->D->R D
 |.int i,.int j=>.ok (.int (i+j)) h
 |.str x,.str y=>if ↥x+↥y<=SL then .ok (.str (x++y)) h else .no
 |.ref a,.ref b=>match h[a]?,h[b]? with
  |some (.lst xs),some (.lst ys)=>if ↥xs+↥ys<=SL then v8 (.lst (xs++ys)) h else .no
  |_,_=>.no
 |.tup xs,.tup ys=>if ↥xs+↥ys<=SL then .ok (.tup (xs++ys)) h else .no
 |_,_=>.no
def a3v(h:AH):D->D->R D
 |.int i,.int j=>.ok (.int (i-j)) h
 |_,_=>.no
def O3(h:AH):D->D->R D
 |.int i,.int j=>if(a2O i||a2O j)=true then .ok (.int (i*j)) h else .no
 |.str x,.int k=>if a3i k=true/\↥x*k.toNat<=SL then .ok (.str (G2 k.toNat x)) h else .no
 |_,_=>.no
noncomputable def u6(h:AH):D->D->R D
 |.int i,.int j=>if 0<j/\j<1073741824 then .ok (.int (i/j)) h else .no
 |_,_=>.no
def p8(h:AH):D->D->R D
 |.int i,.int j=>if 0<j then .ok (.int (i%j)) h else .no
 |_,_=>.no
noncomputable def eqS(a b:D):Option Bool:=match a with
 |.int i=>(match b with
  |.int j=>some (decide (i=j))
  |_=>none)
 |.str i=>(match b with
  |.str j=>some (decide (i=j))
  |_=>none)
 |_=>none
def G9(p:Int->Int->Bool)(h:AH):D->D->R D
 |.int i,.int j=>.ok (.bl (p i j)) h
 |_,_=>.no
def a5o(i j:Str):Bool:=!(occurrences j i 0 ↥j 1).isEmpty
def z8:D->Bool
 |.non=>true|.bl _=>true|.int _=>true|.str _=>true
 |_=>false
noncomputable def eqF(a b:D):Bool:=match a with
 |.str x=>(match b with
  |.str y=>x==y
  |_=>false)
 |.int x=>(match b with
  |.int y=>x==y
  |.bl y=>x==(if y then 1 else 0)
  |_=>false)
 |.bl x=>(match b with
  |.bl y=>x==y
  |.int y=>(if x then 1 else 0)==y
  |_=>false)
 |.non=>(match b with
  |.non=>true
  |_=>false)
 |_=>false
def inD(x:D)(xs:List D):Bool:=xs.any λy=>eqF y x
noncomputable def same(x y:D):Bool:=match x with
 |.tup l=>(match y with
  |.tup r=>decide (↥l=↥r)&&(l.zip r).all λp=>decide (p.1=p.2)&&z8 p.1
  |_=>false)
 |x=>decide (x=y)&&z8 x
def a7N (h:AH) (x y:D):Option (List D×List D):=match x with
 | .ref i=>(match y with
  | .ref j=>(match rdL h i with
   |some l=>(match rdL h j with
    |some r=>some (l,r)
    |none=>none)
   |none=>none)
  |_=>none)
 |_=>none
def eqL(h:AH)(x y:D):Option Bool:=match a7N h x y with
 |some p=>if(decide (↥p.1=↥p.2)&&(p.1.zip p.2).all λq=>same q.1 q.2)=true then some true else if ↥p.1=↥p.2 then none else some false
 |none=>none
def G7(h:AH)(a b:D):R D:=match eqS a b with
 |some c=>.ok (.bl c) h
 |none=>match eqL h a b with
  |some c=>.ok (.bl c) h
  |none=>.no
def a2I(h:AH)(a b:D):R D:=match eqS a b with
 |some c=>.ok (.bl (!c)) h
 |none=>match eqL h a b with
  |some c=>.ok (.bl (!c)) h
  |none=>.no
def K9:D->Option Key
 |.int i=>some (.inl i)
 |.str x=>some (.inr x)
 |_=>none
noncomputable def I0:List D->Option (List Key)
 |[]=>some []
 |d::r=>match K9 d,I0 r with
  |some k,some ks=>some (k::ks)
  |_,_=>none
def K7:D->Option Bool
 |.int _=>some false
 |.str _=>some false
 |.tup l=>if(I0 l).isSome then some true else none
 |_=>none
def D8(k:D)(bD:List (D×D)):Bool:=(K7 k).isSome&&bD.all λp=>K7 p.1==K7 k
def n8(bD:List (D×D))(k:D):Option D:=(bD.find? λp=>decide (p.1=k)).map (·.2)
noncomputable def a0W(bD:List (D×D))(k v:D):List (D×D):=if(bD.any λp=>decide (p.1=k))=true then bD.map (λp=>if p.1=k then(p.1,v) else p) else bD++[(k,v)]
def O4(neg:Bool)(h:AH):D->D->R D
 |.str i,.str j=>.ok (.bl (a5o i j !=neg)) h
 |x,.tup xs=>if z8 x&&xs.all z8 then .ok (.bl (inD x xs !=neg)) h else .no
 |x,.ref n=>match h[n]? with
  |some (.lst xs)=>if z8 x&&xs.all z8 then .ok (.bl (inD x xs !=neg)) h else .no
  |some (.rol xs)=>if z8 x&&xs.all z8 then .ok (.bl (inD x xs !=neg)) h else .no
  |some (.dict bD)=>if D8 x bD then .ok (.bl ((n8 bD x).isSome !=neg)) h else .no
  |_=>.no
 |_,_=>.no
noncomputable def a6B(h:AH):D->D->R D
 |.int i,.int j=>if 0<=j/\j<=64/\i.natAbs<=1000 then .ok (.int (i^j.toNat)) h else .no
 |_,_=>.no
inductive B where
 |add|sub|mul|div|mod|pow|eq|ne|lt|le|gt|ge|isin|notin
 deriving DecidableEq
def op2(o:B)(h:AH)(a b:D):R D:=match o with
 |.add=>M8 h a b|.sub=>a3v h a b|.mul=>O3 h a b|.div=>u6 h a b|.mod=>p8 h a b|.pow=>a6B h a b
 |.eq=>G7 h a b|.ne=>a2I h a b
 |.lt=>G9 (λi j=>decide (i<j)) h a b|.le=>G9 (λi j=>decide (i<=j)) h a b|.gt=>G9 (λi j=>decide (j<i)) h a b|.ge=>G9 (λi j=>decide (j<=i)) h a b
 |.isin=>O4 false h a b|.notin=>O4 true h a b
def ixD (h:AH):D->D->R D
 |.tup xs,.int i=>match atI xs i with
  |some d=>.ok d h
  |none=>.no
 |.str x,.int i=>if ↥x<=SL then(match atI x.cps.toList i with
  |some c=>.ok (.str ⟨#[c]⟩) h
  |none=>.no) else .no
 | .ref n,k=>match h[n]? with
  | some (.lst xs)=>(match k with
   |.int i=>(match atI xs i with
    |some d=>.ok d h
    |none=>.no)
   |_=>.no)
  | some (.rol xs)=>(match k with
   |.int i=>(match atI xs i with
    |some d=>.ok d h
    |none=>.no)
   |_=>.no)
  |some (.dict bD)=>if D8 k bD then(match n8 bD k with
   |some d=>.ok d h
   |none=>.no) else .no
  |_=>.no
 |_,_=>.no
noncomputable def L6(xs:List D)(lo hi:Option Int):List D:=(xs.drop (HT.sIx ↥xs 0 lo)).take (HT.sIx ↥xs ↥xs hi-HT.sIx ↥xs 0 lo)
def slD(h:AH)(lo hi:Option Int):D->R D
 |.str x=>if ↥x<=SL then .ok (.str (Txt.slice x lo hi)) h else .no
 |.tup xs=>if HT.sIx ↥xs 0 lo=0/\HT.sIx ↥xs ↥xs hi=↥xs then .no else .ok (.tup (L6 xs lo hi)) h
 |.ref n=>match rdL h n with
  |some xs=>v8 (.lst (L6 xs lo hi)) h
  |none=>.no
 |_=>.no
noncomputable def X5(h:AH)(f:Str):D->R D
 | .ref n=>match h[n]? with
  |some (.obj _ fs)=>(match fs.lookup f with
   |some d=>.ok d h
   |none=>.no)
  |_=>.no
 |_=>.no
inductive Bi where
 |len|str|int|list|tuple|all|any|max|dict|sum
 deriving DecidableEq
def a7q:List D->Option (List Bool)
 |[]=>some []
 |.bl b::r=>(a7q r).map (b:: ·)
 |_::_=>none
def a3f:List D->Option (List Str)
 |[]=>some []
 |.str x::r=>(a3f r).map (x:: ·)
 |_::_=>none
noncomputable def a9N:List D->Option (List (D×D))
 |[]=>some []
 |.tup [k,v]::r=>if(K9 k).isSome then(a9N r).map ((k,v):: ·) else none
 |_::_=>none
def a4E:List D->Option (List Int)
 |[]=>some []
 |.int i::r=>(a4E r).map (i:: ·)
 |_::_=>none
def biL(b:Bi)(h:AH)(xs:List D):R D:=match b with
 |.len=>.ok (.int ↥xs) h
 |.list=>v8 (.lst xs) h
 |.tuple=>.ok (.tup xs) h
 |.all=>(match a7q xs with
  |some bs=>.ok (.bl (bs.all id)) h
  |none=>.no)
 |.any=>(match a7q xs with
  |some bs=>.ok (.bl (bs.any id)) h
  |none=>.no)
 |.dict=>(match a9N xs with
  |some bD=>v8 (.dict (bD.foldl (λa p=>a0W a p.1 p.2) [])) h
  |none=>.no)
 |.sum=>(match a4E xs with
  |some is=>.ok (.int is.sum) h
  |none=>.no)
 |_=>.no
def bi1(b:Bi)(h:AH)(d:D):R D:=match d with
 | .str x=>(match b with
  |.len=>if ↥x<=SL then .ok (.int ↥x) h else .no
  |.int=>if ↥x<=640 then(match PySem.intText? x with
   |some n=>.ok (.int n) h
   |none=>.no) else .no
  |_=>.no)
 |.tup xs=>(match b with
  |.len=>.ok (.int ↥xs) h
  |.list=>v8 (.lst xs) h
  |.tuple=>.ok (.tup xs) h
  |_=>.no)
 |.int i=>(match b with
  |.str=>if i.natAbs.log2<1920 then .ok (.str (toString i)) h else .no
  |.int=>.ok (.int i) h
  |_=>.no)
 |.bl k=>(match b with
  |.int=>.ok (.int (if k then 1 else 0)) h
  |_=>.no)
 | .ref n=>(match h[n]? with
  |some (.lst xs)=>biL b h xs
  |some (.rol xs)=>biL b h xs
  |some (.dict bD)=>(match b with
   |.len=>if D8 (.int 0) bD then .ok (.int ↥bD) h else .no
   |_=>.no)
  |_=>.no)
 |.non=>.no
noncomputable def c2D(h:AH)(a b:D):R D:=match a with
 |.int i=>(match b with
  |.int j=>.ok (.int (if j>i then j else i)) h
  |_=>.no)
 |_=>.no
def biD(b:Bi)(h:AH)(ds:List D):R D:=match ds with
 |[]=>.no
 |d::l=>(match l with
  |[]=>bi1 b h d
  |e::l=>if b=.max/\l=[] then c2D h d e else .no)
inductive Mt where
 |append|split|join|starts|extend
 deriving DecidableEq
def mtD (b:Mt) (h:AH):D->List D->R D
 | .ref n,[d]=>match b,h[n]? with
  |.append,some (.lst xs)=>if ↥xs<SL then .ok .non (h.set n (.lst (xs++[d]))) else .no
  | .extend,some (.lst xs)=>(match d with
   |.ref k=>(match h[k]? with
    |some (.lst ys)=>if ↥xs+↥ys<=SL then .ok .non (h.set n (.lst (xs++ys))) else .no
    |_=>.no)
   |_=>.no)
  |_,_=>.no
 |.str x,[.str y]=>match b with
  |.split=>if 0<↥y/\↥x+2<=SL then v8 (.lst ((Txt.split x y).map D.str)) h else .no
  |.starts=>.ok (.bl (Txt.startswith x y)) h
  |_=>.no
 | .str x,[.ref n]=>match b with
  | .join=>(match rdL h n with
   |some xs=>(match a3f xs with
    |some ts=>if JoinOk x ts=true then .ok (.str (Txt.join x ts)) h else .no
    |none=>.no)
   |none=>.no)
  |_=>.no
 |_,_=>.no
def mtT(b:Mt)(h:AH):D->Bool
 |.str _=>match b with
  |.split=>true|.join=>true|.starts=>true
  |_=>false
 |.ref n=>match b with
  |.append=>(rdL h n).isSome
  |.extend=>(rdL h n).isSome
  |_=>false
 |_=>false
def a7f(h:AH):D->D->D->R D
 |.ref n,k,x=>match h[n]? with
  |some (.dict bD)=>if D8 k bD&&(K9 k).isSome then .ok ((n8 bD k).getD x) h else .no
  |_=>.no
 |_,_,_=>.no
def b2u(h:AH):D->Bool
 |.ref n=>match h[n]? with
  |some (.dict _)=>true
  |_=>false
 |_=>false
def a2u (h:AH) (o i v:D):R Unit:=match o with
 | .ref n=>match h[n]? with
  | some (.lst xs)=>(match i with
   |.int k=>(match ixN ↥xs k with
    |some j=>.ok () (h.set n (.lst (xs.set j v)))
    |none=>.no)
   |_=>.no)
  |some (.dict bD)=>if D8 i bD=true/\↥bD<SL then .ok () (h.set n (.dict (a0W bD i v))) else .no
  |_=>.no
 |_=>.no
noncomputable def a4v(f:Str)(v:D):List (Str×D)->List (Str×D)
 |[]=>[(f,v)]
 |(g,x)::r=>if g=f then(g,v)::r else(g,x)::a4v f v r
def a5d(h:AH)(o:D)(f:Str)(v:D):R Unit:=match o with
 |.ref n=>match h[n]? with
  |some (.obj c fs)=>if ↥fs<1000 then .ok () (h.set n (.obj c (a4v f v fs))) else .no
  |_=>.no
 |_=>.no
variable{α:Type}
theorem ifs{c:Prop}[Decidable c]{a:Option α}{x:α}(h:(if c then a else none)=some x):c/\a=some x:=by
 split at h
 · rename_i z;exact⟨z,h⟩
 · cases h
theorem D.ind{P:D->Prop}{Q:List D->Prop}(h0:P .non)(h1:∀b,P (.bl b))(h2:∀i,P (.int i))(h3:∀x,P (.str x))(h4:∀l,Q l->P (.tup l))(h5:∀n,P (.ref n))(q0:Q [])(q1:∀d r,P d->Q r->Q (d::r)):
 (∀d,P d)/\∀l,Q l:=
 ⟨λd=>D.rec (motive_1:=P) (motive_2:=Q) h0 h1 h2 h3 h4 h5 q0 q1 d,λl=>by
  induction l with
  |nil=>exact q0
  |cons d r ih=>exact q1 d r (D.rec (motive_1:=P) (motive_2:=Q) h0 h1 h2 h3 h4 h5 q0 q1 d) ih⟩
mutual
def Rp(m:List Addr)(H:Hp):D->V->Prop
  |.non,v=>v=.non
  |.bl b,v=>v=.bl b
  |.int i,v=>v=.int i
  |.str x,v=>v=.str x
  |.tup l,v=>∃a vs,v=.ref a/\H a=some (.tup vs)/\Rps m H l vs
  |.ref n,v=>∃a,v=.ref a/\m[n]? =some a
def Rps(m:List Addr)(H:Hp):List D->List V->Prop
  |[],vs=>vs=[]
  |d::r,vs=>∃v t,vs=v::t/\Rp m H d v/\Rps m H r t
end
def Im:HO->Prop
 |.tup _=>True
 |.xd _=>True
 |_=>False
abbrev KIm(H H':Hp):Prop:=∀b o,Im o->H b=some o->H' b=some o
structure Keep(m m':List Addr)(H H':Hp):Prop where
 im:∀b o,Im o->H b=some o->H' b=some o
 out:∀b o,b∉m->H b=some o->H' b=some o
 fr:∀a,a∈m'->a∈m∨H a=none
theorem Keep.refl(m:List Addr)(H:Hp):Keep m m H H:=⟨λ_ _ _ h=>h,λ_ _ _ h=>h,λ_ h=>.inl h⟩
variable{m:List Addr}{m1:List Addr}{H:Hp}{H1:Hp}
theorem Keep.trans{m2:List Addr}{H2:Hp}(a:Keep m m1 H H1)(b:Keep m1 m2 H1 H2):Keep m m2 H H2:=by
 refine⟨λc o i h=>b.im c o i (a.im c o i h),λc o n h=>b.out c o (λz=>?_) (a.out c o n h),λc h=>?_⟩
 · rcases a.fr c z with q|q
   · exact n q
   · rw[h] at q;cases q
 · rcases b.fr c h with q|q
   · exact a.fr c q
   · by_cases hc:c∈m
     · exact .inl hc
     · cases e:H c with
       |none=>exact .inr rfl
       |some o=>rw[a.out c o hc e] at q;cases q
theorem Keep.new{p:Addr}{o:HO}(hp:H p=none):Keep m m H (upd H p o):=
 ⟨λb ob _ h=>by rw[j9 (y0 h hp)];exact h,λb ob _ h=>by rw[j9 (y0 h hp)];exact h,λ_ h=>.inl h⟩
theorem Keep.newc{p:Addr}{o:HO}(hp:H p=none):Keep m (m++[p]) H (upd H p o):=
 ⟨λb ob _ h=>by rw[j9 (y0 h hp)];exact h,λb ob _ h=>by rw[j9 (y0 h hp)];exact h,λa h=>by
  rcases aL.mp h with q|q
  · exact .inl q
  · simp at q;subst q;exact .inr hp⟩
variable{o':HO}
theorem Keep.put{p:Addr}{o:HO}{k:Nat}(hm:m[k]? =some p)(hp:H p=some o)(ni:¬Im o):Keep m m H (upd H p o'):=by
 refine⟨λb ob i h=>?_,λb ob n h=>?_,λ_ h=>.inl h⟩
 · have:b≠p:=λe=>by rw[e,hp] at h;cases h;exact ni i
   rw[j9 this];exact h
 · have:b≠p:=λe=>n (by rw[e];exact aH hm);rw[j9 this];exact h
theorem Keep.tup{m m':List Addr}{H H':Hp}(k:Keep m m' H H'){a:Addr}{vs:List V}(h:H a=some (.tup vs)):H' a=some (.tup vs):=k.im a _ trivial h
abbrev Pre(m m':List Addr):Prop:=∃t,m'=m++t
theorem Pre.refl(m:List Addr):Pre m m:=⟨[],by simp⟩
theorem Pre.trans{a b c:List Addr}(h:Pre a b)(k:Pre b c):Pre a c:=by obtain⟨t,rfl⟩:=h;obtain⟨u,rfl⟩:=k;exact⟨t++u,by simp⟩
theorem Pre.snoc(m:List Addr)(p:Addr):Pre m (m++[p]):=⟨[p],rfl⟩
variable{m':List Addr}{n:Nat}
theorem Pre.get(h:Pre m m'){a:Addr}(e:m[n]? =some a):m'[n]? =some a:=by obtain⟨t,rfl⟩:=h;rw[av (ac.mp e).1];exact e
variable{H':Hp}
theorem a2Q(p:Pre m m')(k:KIm H H'):(∀d v,Rp m H d v->Rp m' H' d v)/\∀l vs,Rps m H l vs->Rps m' H' l vs:=by
 refine D.ind (P:=λd=>∀v,Rp m H d v->Rp m' H' d v) (Q:=λl=>∀vs,Rps m H l vs->Rps m' H' l vs) ?_ ?_ ?_ ?_ ?_ ?_ ?_ ?_
 · intro v h;exact h
 · intro b v h;exact h
 · intro b v h;exact h
 · intro b v h;exact h
 · rintro l ih v ⟨a,vs,rfl,e,q⟩;exact⟨a,vs,rfl,k _ _ trivial e,ih vs q⟩
 · rintro n v ⟨a,rfl,e⟩;exact⟨a,rfl,p.get e⟩
 · intro vs h;exact h
 · rintro d r ih ihs vs ⟨v,t,rfl,q1,q2⟩;exact⟨v,t,rfl,ih v q1,ihs t q2⟩
variable{d:D}{v:V}
theorem Rp.mono(h:Rp m H d v)(p:Pre m m')(k:Keep m m' H H'):Rp m' H' d v:=(a2Q p k.im).1 d v h
theorem Rp.mono'(h:Rp m H d v)(p:Pre m m')(k:KIm H H'):Rp m' H' d v:=(a2Q p k).1 d v h
variable{l:List D}{vs:List V}
theorem Rps.mono(h:Rps m H l vs)(p:Pre m m')(k:Keep m m' H H'):Rps m' H' l vs:=(a2Q p k.im).2 l vs h
theorem Rps.mono'(h:Rps m H l vs)(p:Pre m m')(k:KIm H H'):Rps m' H' l vs:=(a2Q p k).2 l vs h
theorem a5h:(∀d v,D.flat d=true->Rp m H d v->Rp m' H d v)/\∀l vs,D.flats l=true->Rps m H l vs->Rps m' H l vs:=by
 refine D.ind (P:=λd=>∀v,D.flat d=true->Rp m H d v->Rp m' H d v) (Q:=λl=>∀vs,D.flats l=true->Rps m H l vs->Rps m' H l vs) ?_ ?_ ?_ ?_ ?_ ?_ ?_ ?_
 · intro v _ h;exact h
 · intro b v _ h;exact h
 · intro b v _ h;exact h
 · intro b v _ h;exact h
 · rintro l ih v f ⟨a,vs,rfl,e,q⟩;exact⟨a,vs,rfl,e,ih vs f q⟩
 · intro n v f;exact absurd f (by simp[D.flat])
 · intro vs _ h;exact h
 · rintro d r ih ihs vs f ⟨v,t,rfl,q1,q2⟩;rw[D.flats,ae] at f;exact⟨v,t,rfl,ih v f.1 q1,ihs t f.2 q2⟩
section
theorem Rps.len:∀{l:List D} {vs:List V},Rps m H l vs->↥vs=↥l
 |[],vs,h=>by rw[show vs=[] from h];rfl
 |d::r,vs,⟨v,t,e,_,q⟩=>by rw[e,length_cons,length_cons,Rps.len q]
theorem Rps.get:∀{l:List D} {vs:List V} {i:Nat} {d:D},Rps m H l vs->l[i]? =some d->∃v,vs[i]? =some v/\Rp m H d v
 |d'::r,vs,0,d,⟨v,t,e,q,_⟩,h=>by simp at h;subst h;exact⟨v,by rw[e];rfl,q⟩
 |d'::r,vs,i+1,d,⟨v,t,e,_,q⟩,h=>by obtain⟨w,h1,h2⟩:=Rps.get (i:=i) q (by simpa using h);exact⟨w,by rw[e];simpa using h1,h2⟩
 |[],_,_,_,_,h=>by simp at h
theorem Rps.app:∀{l l':List D} {vs eW:List V},Rps m H l vs->Rps m H l' eW->Rps m H (l++l') (vs++eW)
 |[],_,vs,_,h,k=>by rw[show vs=[] from h];exact k
 |d::r,_,vs,_,⟨v,t,e,q1,q2⟩,k=>by subst e;exact⟨v,_,rfl,q1,Rps.app q2 k⟩
theorem Rps.snoc(h:Rps m H l vs)(q:Rp m H d v):Rps m H (l++[d]) (vs++[v]):=h.app ⟨v,[],rfl,q,rfl⟩
theorem Rps.drop:∀{l:List D} {vs:List V} (n:Nat),Rps m H l vs->Rps m H (l.drop n) (vs.drop n)
 |[],vs,n,h=>by rw[show vs=[] from h];simp[Rps]
 |d::r,vs,0,h=>h
 |d::r,vs,n+1,⟨v,t,e,_,q⟩=>by subst e;exact Rps.drop n q
theorem Rps.take:∀{l:List D} {vs:List V} (n:Nat),Rps m H l vs->Rps m H (l.take n) (vs.take n)
 |[],vs,n,h=>by rw[show vs=[] from h];simp[Rps]
 |d::r,vs,0,h=>by simp[Rps]
 |d::r,vs,n+1,⟨v,t,e,q1,q⟩=>by subst e;exact⟨v,_,rfl,q1,Rps.take n q⟩
theorem Rps.set:∀{l:List D} {vs:List V} {d:D} {v:V} (n:Nat),Rps m H l vs->Rp m H d v->Rps m H (l.set n d) (vs.set n v)
 |[],vs,_,_,n,h,_=>by rw[show vs=[] from h];simp[Rps]
 |d::r,vs,_,_,0,⟨v,t,e,q1,q⟩,k=>by subst e;exact⟨_,t,rfl,k,q⟩
 |d::r,vs,_,_,n+1,⟨v,t,e,q1,q⟩,k=>by subst e;exact⟨v,_,rfl,q1,Rps.set n q k⟩
theorem Rps.strs:∀{ts:List Str},Rps m H (ts.map D.str) (ts.map V.str)
 |[]=>rfl
 |x::r=>⟨_,_,rfl,rfl,Rps.strs⟩
theorem Rps.cut(h:Rps m H l vs)(lo hi:Option Int):Rps m H (L6 l lo hi) (a7g vs lo hi):=by unfold L6 a7g;rw[h.len];exact(h.drop _).take _
theorem Rps.at{i:Int}(h:Rps m H l vs)(e:atI l i=some d):∃v,atI vs i=some v/\Rp m H d v:=by
 unfold atI at e⊢;rw[h.len];cases q:ixN ↥l i with
 |none=>rw[q] at e;cases e
 |some j=>rw[q] at e;exact h.get e
theorem a6o:∀{l:List D} {ts:List Str} {vs:List V},a3f l=some ts->Rps m H l vs->vs=ts.map V.str
 |[],ts,vs,e,h=>by cases e;exact h
 |d::r,ts,vs,e,⟨v,t,ev,q1,q2⟩=>by
  subst ev;cases d<;>simp only[a3f] at e<;>try cases e
  rename_i x;cases q:a3f r with
  |none=>rw[q] at e;cases e
  |some us=>rw[q] at e;cases e;rw[a6o q q2,show v=V.str x from q1];rfl
theorem a5e:∀{l:List D} {ts:List Bool} {vs:List V},a7q l=some ts->Rps m H l vs->vs=ts.map V.bl
 |[],ts,vs,e,h=>by cases e;exact h
 |d::r,ts,vs,e,⟨v,t,ev,q1,q2⟩=>by
  subst ev;cases d<;>simp only[a7q] at e<;>try cases e
  rename_i x;cases q:a7q r with
  |none=>rw[q] at e;cases e
  |some us=>rw[q] at e;cases e;rw[a5e q q2,show v=V.bl x from q1];rfl
end
structure Gm where
 K:Frag
 cA:Nat->Addr
 ob:List Nat
 xs:List Nat
def Fl(m:List Addr)(H:Hp):List (Str×D)->List (Str×V)->Prop:=Paired λp q=>p.1=q.1/\Rp m H p.2 q.2
def DK(m:List Addr)(H:Hp):List (D×D)->List (Key×V)->Prop:=Paired λp q=>K9 p.1=some q.1/\Rp m H p.2 q.2
def DT(m:List Addr)(H:Hp):List (D×D)->List (List Key×V)->Prop:=Paired λp q=>(∃l,p.1=.tup l/\I0 l=some q.1)/\Rp m H p.2 q.2
def G4(Γ:Gm)(m:List Addr)(H:Hp)(a:Addr):Cell->Prop
 |.lst l=>∃vs,H a=some (.lst vs)/\Rps m H l vs
 |.rol l=>∃vs,SqL Γ.K H a vs/\Rps m H l vs/\∃o,H a=some (.frz o (.lst vs))
 |.dict l=>(∃bD,H a=some (.dK bD)/\DK m H l bD)∨∃bD,H a=some (.dT bD)/\DT m H l bD
 |.obj c fs=>∃dx gs,H a=some (.ins (Γ.cA c) dx gs)/\Fl m H fs gs/\c∈Γ.ob
variable{Γ:Gm}
theorem G4.there{a:Addr}{c:Cell}(h:G4 Γ m H a c):∃o,H a=some o/\¬Im o:=by
 cases c with
 |lst l=>obtain⟨vs,e,_⟩:=h;exact⟨_,e,λz=>z⟩
 |rol l=>obtain⟨vs,_,_,o,e⟩:=h;exact⟨_,e,λz=>z⟩
 |dict l=>
  rcases h with⟨bD,e,_⟩|⟨bD,e,_⟩
  · exact⟨_,e,λz=>z⟩
  · exact⟨_,e,λz=>z⟩
 |obj c fs=>obtain⟨dx,gs,e,_⟩:=h;exact⟨_,e,λz=>z⟩
theorem Fl.mono{fs:List (Str×D)}{gs:List (Str×V)}(h:Fl m H fs gs)(p:Pre m m')(k:KIm H H'):Fl m' H' fs gs:=Paired.mapP h λ_ _ z=>⟨z.1,z.2.mono' p k⟩
variable{gs:List (Key×V)}
theorem DK.mono{fs:List (D×D)}(h:DK m H fs gs)(p:Pre m m')(k:KIm H H'):DK m' H' fs gs:=Paired.mapP h λ_ _ z=>⟨z.1,z.2.mono' p k⟩
theorem DT.mono{fs:List (D×D)}{gs:List (List Key×V)}(h:DT m H fs gs)(p:Pre m m')(k:KIm H H'):DT m' H' fs gs:=Paired.mapP h λ_ _ z=>⟨z.1,z.2.mono' p k⟩
theorem G4.mono'{a:Addr}{c:Cell}(h:G4 Γ m H a c)(p:Pre m m')(k:KIm H H')(e:H' a=H a):G4 Γ m' H' a c:=by
 cases c with
 |lst l=>obtain⟨vs,q,r⟩:=h;exact⟨vs,e.trans q,r.mono' p k⟩
 |rol l=>obtain⟨vs,s,r,o,q⟩:=h;exact⟨vs,.inl (.inr ⟨o,e.trans q⟩),r.mono' p k,o,e.trans q⟩
 |dict l=>
  rcases h with⟨bD,q,r⟩|⟨bD,q,r⟩
  · exact .inl ⟨bD,e.trans q,r.mono p k⟩
  · exact .inr ⟨bD,e.trans q,r.mono p k⟩
 |obj c fs=>obtain⟨dx,gs,q,r,z⟩:=h;exact⟨dx,gs,e.trans q,r.mono p k,z⟩
theorem G4.mono{a:Addr}{c:Cell}(h:G4 Γ m H a c)(p:Pre m m')(k:Keep m m' H H')(e:H' a=H a):G4 Γ m' H' a c:=h.mono' p k.im e
structure Sim(Γ:Gm)(ah:AH)(m:List Addr)(H:Hp):Prop where
 len:↥m=↥ah
 nd:m.Nodup
 cell:∀(n:Nat) (a:Addr) (c:Cell),m[n]? =some a->ah[n]? =some c->G4 Γ m H a c
section
variable{ah:AH}
theorem Sim.at(s:Sim Γ ah m H){a:Addr}{c:Cell}(h:m[n]? =some a)(e:ah[n]? =some c):G4 Γ m H a c:=s.cell n a c h e
theorem Sim.has(s:Sim Γ ah m H){a:Addr}(h:m[n]? =some a):∃c,ah[n]? =some c:=by have h:=(ac.mp h).1;rw[s.len] at h;exact⟨ah[n],ai h⟩
theorem Sim.fresh(s:Sim Γ ah m H){p:Addr}(hp:H p=none):p∉m:=λhm=>by obtain⟨n,hn⟩:=List.getElem?_of_mem hm;obtain⟨c,hc⟩:=s.has hn;obtain⟨o,e,_⟩:=(s.at hn hc).there;rw[hp] at e;cases e
theorem Sim.keep(s:Sim Γ ah m H)(k:Keep m m H H')(e:∀(n:Nat) (a:Addr),m[n]? =some a->H' a=H a):Sim Γ ah m H':=
 ⟨s.len,s.nd,λn a c h q=>(s.at h q).mono (Pre.refl m) k (e n a h)⟩
theorem Sim.same(s:Sim Γ ah m H)(k:c3l H H'):Sim Γ ah m H':=
 s.keep ⟨λb o _ h=>k b o h,λb o _ h=>k b o h,λ_ h=>.inl h⟩ λn a h=>by obtain⟨c,hc⟩:=s.has h;obtain⟨o,e,_⟩:=(s.at h hc).there;rw[e];exact k a o e
theorem Sim.new{p:Addr}{o:HO}(s:Sim Γ ah m H)(hp:H p=none):Sim Γ ah m (upd H p o):=s.same λb ob h=>by rw[j9 (y0 h hp)];exact h
theorem a0Y{m:List Addr}{p:Addr}(nd:m.Nodup)(hp:p∉m):(m++[p]).Nodup:=by rw[nodup_append];refine⟨nd,by simp,λa ha b hb=>?_⟩;simp at hb;subst hb;rintro rfl;exact hp ha
theorem Sim.alloc{p:Addr}{o:HO}{c:Cell}(s:Sim Γ ah m H)(hp:H p=none)(h:G4 Γ (m++[p]) (upd H p o) p c):Sim Γ (ah++[c]) (m++[p]) (upd H p o):=by
 refine⟨by simp[s.len],a0Y s.nd (s.fresh hp),λn a c' hn hc=>?_⟩
 by_cases hl:n<↥m
 · rw[av hl] at hn;rw[av (by rw[←s.len];exact hl)] at hc;have ok:=s.at hn hc;refine ok.mono (Pre.snoc m p) (Keep.newc hp) ?_;obtain⟨o',e,_⟩:=ok.there;rw[j9 (y0 e hp)]
 · have hn':n=↥m:=by have:=(ac.mp hn).1;simp at this;ac_nf
   subst hn';rw[au (aj _)] at hn;rw[s.len,au (aj _)] at hc;simp at hn hc;subst hn;subst hc;exact h
theorem Sim.write{k:Nat}{q:Addr}{o:HO}{c:Cell}(s:Sim Γ ah m H)(hk:m[k]? =some q)(hq:H q=some o)(ni:¬Im o)(h:G4 Γ m (upd H q o') q c):Sim Γ (ah.set k c) m (upd H q o'):=by
  refine⟨by simp[s.len],s.nd,λn a c' hn hc=>?_⟩
  by_cases e:n=k
  · subst e;rw[hk] at hn;cases hn;rw[fW (by rw[←s.len];exact(ac.mp hk).1)] at hc;cases hc;exact h
  · rw[fP (fR e)] at hc;have ne:a≠q:=λz=>by subst z;exact e (nodup_ixA s.nd hn hk)
    exact(s.at hn hc).mono (Pre.refl m) (Keep.put hk hq ni) (j9 ne)
where
  nodup_ixA {m:List Addr} (hN:m.Nodup) {i j:Nat} {x:Addr} (a:m[i]? =some x) (b:m[j]? =some x):i=j:=by obtain⟨h1,e1⟩:=ac.mp a;obtain⟨h2,e2⟩:=ac.mp b;exact(getElem_inj hN).mp (e1.trans e2.symm)
theorem Sim.lst(s:Sim Γ ah m H){n:Nat}{l:List D}(e:ah[n]? =some (.lst l)){v:V}(r:Rp m H (.ref n) v):∃a vs,v=.ref a/\m[n]? =some a/\H a=some (.lst vs)/\Rps m H l vs:=by obtain⟨a,rfl,hm⟩:=r;obtain⟨vs,e1,e2⟩:=s.at hm e;exact⟨a,vs,rfl,hm,e1,e2⟩
theorem Sim.rdL(s:Sim Γ ah m H)(e:rdL ah n=some l)(r:Rp m H (.ref n) v):∃a vs,v=.ref a/\m[n]? =some a/\SqL Γ.K H a vs/\Rps m H l vs:=by
 obtain⟨a,rfl,hm⟩:=r;unfold EV.rdL at e;split at e
 · rename_i l' q;cases e;obtain⟨vs,e1,e2⟩:=s.at hm q;exact⟨a,vs,rfl,hm,.inl (.inl e1),e2⟩
 · rename_i l' q;cases e;obtain⟨vs,e1,e2,_⟩:=s.at hm q;exact⟨a,vs,rfl,hm,e1,e2⟩
 · cases e
end
abbrev u5:=List (Option D)
structure EnvRel(m:List Addr)(H:Hp)(env:u5)(σ:St):Prop where
 len:↥env=↥σ
 val:∀(i:Nat) (d:D),env[i]? =some (some d)->∃v,σ[i]? =some (some v)/\Rp m H d v
variable{env:u5}{σ:St}
theorem EnvRel.mono(h:EnvRel m H env σ)(p:Pre m m')(k:Keep m m' H H'):EnvRel m' H' env σ:=
 ⟨h.len,λi d e=>let⟨v,a,b⟩:=h.val i d e;⟨v,a,b.mono p k⟩⟩
theorem EnvRel.set(h:EnvRel m H env σ){i:Nat}(r:Rp m H d v):EnvRel m H (env.set i (some d)) (σ.set i (some v)):=by
 refine⟨by simp[h.len],λj d' e=>?_⟩
 by_cases q:j=i
 · subst q
   by_cases hl:j<↥env
   · rw[fW hl] at e;cases e;exact⟨v,fW (by rw[←h.len];exact hl),r⟩
   · rw[aW (by simp;ac_nf)] at e;cases e
 · rw[fP (fR q)] at e⊢;exact h.val j d' e
structure Rel(Γ:Gm)(env:u5)(ah:AH)(σ:St)(H:Hp)(m:List Addr):Prop where
 sim:Sim Γ ah m H
 env:EnvRel m H env σ
def i6(Γ:Gm)(E:XK)(m:List Addr)(H:Hp)(r:R D)(Q:VK):Prop:=match r with
 |.ok d eV=>∀m' H' v,Pre m m'->Keep m m' H H'->Sim Γ eV m' H'->Rp m' H' d v->Q v H'
 |.no=>False
variable{Q:VK}
theorem ifq{E:XK}{c:Prop}[Decidable c]{a:R D}(q:i6 Γ E m H (if c then a else .no) Q):c/\i6 Γ E m H a Q:=by
 split at q
 · rename_i z;exact⟨z,q⟩
 · exact q.elim
def j0{α:Type}(Γ:Gm)(E:XK)(m:List Addr)(H:Hp)(r:R α)(Q:α->AH->List Addr->Hp->Prop):Prop:=match r with
 |.ok a eV=>∀m' H',Pre m m'->Keep m m' H H'->Sim Γ eV m' H'->Q a eV m' H'
 |.no=>False
variable{r:R D}{β:Type}{ah:AH}
section
variable{E:XK}
theorem i6.later(h:i6 Γ E m H r Q)(p:Pre m m')(k:Keep m m' H H'):i6 Γ E m' H' r Q:=by
 cases r with
 |ok d ah=>exact λm2 H2 v p2 k2 s2 r2=>h m2 H2 v (p.trans p2) (k.trans k2) s2 r2
 |no=>exact h
theorem i6.bind{r:R α}{f:α->AH->R D}(h:i6 Γ E m H (r.bind f) Q):j0 Γ E m H r (λa bL m1 H1=>i6 Γ E m1 H1 (f a bL) Q):=by
 cases r with
 |ok d ah=>exact λm2 H2 p2 k2 s2=>i6.later h p2 k2
 |no=>exact h
theorem j0.later{r:R α}{Q:α->AH->List Addr->Hp->Prop}(h:j0 Γ E m H r Q)(p:Pre m m')(k:Keep m m' H H'):j0 Γ E m' H' r Q:=by
 cases r with
 |ok d ah=>exact λm2 H2 p2 k2 s2=>h m2 H2 (p.trans p2) (k.trans k2) s2
 |no=>exact h
theorem j0.bind{r:R α}{f:α->AH->R β}{Q:β->AH->List Addr->Hp->Prop}(h:j0 Γ E m H (r.bind f) Q):j0 Γ E m H r (λa bL m1 H1=>j0 Γ E m1 H1 (f a bL) Q):=by
 cases r with
 |ok d ah=>exact λm2 H2 p2 k2 s2=>j0.later h p2 k2
 |no=>exact h
theorem j0.val{P:D->AH->List Addr->Hp->Prop}(h:j0 Γ E m H r P)(k:∀d bL m1 H1 v,Pre m m1->Keep m m1 H H1->Sim Γ bL m1 H1->Rp m1 H1 d v->P d bL m1 H1->Q v H1):i6 Γ E m H r Q:=by
 cases r with
 |ok d ah=>exact λm2 H2 v p2 k2 s2 r2=>k d ah m2 H2 v p2 k2 s2 r2 (h m2 H2 p2 k2 s2)
 |no=>exact h
theorem i6.ok(h:i6 Γ E m H (.ok d ah) Q)(s:Sim Γ ah m H)(r:Rp m H d v):Q v H:=h m H v (Pre.refl m) (Keep.refl m H) s r
theorem i6.newc{c:Cell}{p:Addr}{o:HO}(h:i6 Γ E m H (v8 c ah) Q)(s:Sim Γ ah m H)(hp:H p=none)(ok:G4 Γ (m++[p]) (upd H p o) p c):Q (.ref p) (upd H p o):=by refine h (m++[p]) (upd H p o) (.ref p) (Pre.snoc m p) (Keep.newc hp) (s.alloc hp ok) ⟨p,rfl,?_⟩;rw[←s.len,au (aj _)];simp
theorem i6.newt{p:Addr}(h:i6 Γ E m H (.ok (.tup l) ah) Q)(s:Sim Γ ah m H)(hp:H p=none)(r:Rps m H l vs):Q (.ref p) (upd H p (.tup vs)):=
 h m _ (.ref p) (Pre.refl m) (Keep.new hp) (s.new hp) ⟨p,vs,rfl,g9,r.mono (Pre.refl m) (Keep.new hp)⟩
end
open PySem PySem.Spec L2
open PyProof.Rows hiding St
theorem S9:SL=sizeLine:=by rw[gS]
theorem a3n{l:List α}{x:α}(h:l[n]? =some x):l.set n x=l:=by
 refine ext_getElem? λi=>?_
 by_cases e:i=n
 · subst e;rw[fW (ac.mp h).1,h]
 · rw[fP (fR e)]
variable{A:Around}{op:CmpOp}{u:V}{v':Value}{u':Value}{bC:List (Addr×Obj)}{bD:List (D×D)}
section
variable{X:Cx}{E:XK}
noncomputable def rOf(Γ:Gm)(E:XK)(g:AH->D->D->R D):R2:=λx y H Q=>∃d1 d2 ah m,Sim Γ ah m H/\Rp m H d1 x/\Rp m H d2 y/\i6 Γ E m H (g ah d1 d2) Q
theorem OpR.imp{f:Value->Value->Sem Value}{r r':R2}(h:OpR X f r)(i:∀x y H Q,r' x y H Q->r x y H Q):OpR X f r':=λbC s σ H x y v u Q I rx ry q=>h bC s σ H x y v u Q I rx ry (i _ _ _ _ q)
open PyProof PyProof.Rows PySem.SeqAt PySem.MeetsSeq PySem.MeetsSeq2 PySem.MeetsSeq3 in
theorem b3E{prog:Program}{w:World}{E:Value->Shared->Prop}{s:Shared}{t b:Addr}{vs ws:List Value}{Q:Value->Shared->Prop}(ht:PyProof.Rows.IsTup s.heap t vs.toArray)(hb:PyProof.Rows.IsTup s.heap b ws.toArray)(hv:vs=[])(h0:Q (.ref b) s):wpAny (model prog w) A (binaryOp .Add (.ref t) (.ref b)) Q E s:=by obtain⟨⟨cls,dd,data,sl⟩,ho,hc,n,hd⟩:=id ht;obtain⟨⟨cls2,dd2,data2,sl2⟩,ho2,hc2,n2,hd2⟩:=id hb;simp only at hc hd hc2 hd2;subst hc hd hc2 hd2;exact concat_meets ⟨_,ho,rfl⟩ ⟨_,ho2,rfl⟩ noFill_tuple_add seq_tuple_add slot_tuple_add entry_tuple_add (args_tuple_add_2 _ _) (tuple_addW0 t b vs.toArray ws.toArray n n2 dd dd2 sl sl2 (by simp[hv])) ⟨ho,ho2,h0⟩
theorem b1L:OpR X (binaryOp .Add) (λx y H Q=>∃a b xs ys,x=.ref a/\y=.ref b/\SqT X.K H a xs/\SqT X.K H b ys/\xs=[]/\Q (.ref b) H):=by intro bC s σ H x y v u Q I rx ry h;obtain⟨a,b,xs,ys,rfl,rfl,ha,hb,hx,q⟩:=h;cases rx;cases ry;obtain⟨bF,r1,p1,_⟩:=I.tuple ha;obtain⟨bU,r2,p2,_⟩:=I.tuple hb;exact b3E p1 p2 (r1.nil_iff.mpr hx) ⟨.ref b,H,I,rfl,q⟩
theorem c1m:OpR X (binaryOp .Add) (rOf Γ E M8):=by
 refine OpR.imp (b7V.or (a7G.or (b7U.or (b5d.or b1L)))) ?_;rintro x y H Q ⟨d1,d2,ah,m,s,r1,r2,q⟩;unfold M8 at q;split at q
 · cases r1;cases r2;exact .inl ⟨_,_,rfl,rfl,q.ok s rfl⟩
 · cases r1;cases r2;obtain⟨h,q⟩:=ifq q;exact .inr (.inl ⟨_,_,rfl,rfl,by rw[←S9];exact h,q.ok s rfl⟩)
 · split at q
   · rename_i e1 e2;obtain⟨h,q⟩:=ifq q;obtain⟨a,vs,rfl,ha,h1,q1⟩:=s.lst e1 r1;obtain⟨b,ws,rfl,hb,h2,q2⟩:=s.lst e2 r2;refine .inr (.inr (.inl ⟨a,b,vs,ws,rfl,rfl,h1,h2,by rw[q1.len,q2.len,←S9];exact h,λp hp=>q.newc s hp ⟨_,g9,?_⟩⟩));exact(q1.app q2).mono (Pre.snoc m p) (Keep.newc hp)
   · exact q.elim
 · split at q
   · rename_i xs ys h;obtain⟨a,vs,rfl,h1,q1⟩:=r1;obtain⟨b,ws,rfl,h2,q2⟩:=r2
     by_cases hx:xs=[]
     · subst hx;have:=q1.len;refine .inr (.inr (.inr (.inr ⟨a,b,vs,ws,rfl,rfl,.inl (.inl h1),.inl (.inl h2),length_eq_zero_iff.mp (by rw[this];rfl),?_⟩)));rw[nil_append] at q;exact q.ok s ⟨b,ws,rfl,h2,q2⟩
     refine .inr (.inr (.inr (.inl ⟨a,b,vs,ws,rfl,rfl,.inl (.inl h1),.inl (.inl h2),λe=>hx ?_,by rw[q1.len,q2.len,←S9];exact h,λe=>?_,λ_ p hp=>q.newt s hp (q1.app q2)⟩)))
     · have:=q1.len;rw[e] at this;exact length_eq_zero_iff.mp this.symm
     · have:=q2.len;rw[e] at this;have z:ys=[]:=length_eq_zero_iff.mp this.symm;subst z;rw[aZ] at q;exact q.ok s ⟨a,vs,rfl,h1,q1⟩
   · exact q.elim
 · exact q.elim
theorem c1f:OpR X (binaryOp .Pow) (rOf Γ E a6B):=by
 refine OpR.imp b7Q ?_;rintro x y H Q ⟨d1,d2,ah,m,s,r1,r2,q⟩;unfold a6B at q;split at q
 · cases r1;cases r2;obtain⟨h,q⟩:=ifq q;exact⟨_,_,rfl,rfl,⟨h.1,by ac_nf,by ac_nf⟩,q.ok s rfl⟩
 · exact q.elim
theorem c1e:OpR X (binaryOp .Sub) (rOf Γ E a3v):=by
 refine OpR.imp b7P ?_;rintro x y H Q ⟨d1,d2,ah,m,s,r1,r2,q⟩;unfold a3v at q;split at q
 · cases r1;cases r2;exact⟨_,_,rfl,rfl,q.ok s rfl⟩
 · exact q.elim
theorem c1g:OpR X (binaryOp .Mult) (rOf Γ E O3):=by
 refine OpR.imp (b7R.or b5b) ?_;rintro x y H Q ⟨d1,d2,ah,m,s,r1,r2,q⟩;unfold O3 at q;split at q
 · cases r1;cases r2;obtain⟨h,q⟩:=ifq q;rw[bp] at h;exact .inl ⟨_,_,rfl,rfl,h.imp a3j a3j,q.ok s rfl⟩
 · cases r1;cases r2;obtain⟨h,q⟩:=ifq q;exact .inr ⟨_,_,rfl,rfl,(by have:=L3 h.1;ac_nf),(by have:=L3 h.1;ac_nf),by rw[←S9];exact h.2,q.ok s rfl⟩
 · exact q.elim
theorem c1k:OpR X (binaryOp .FloorDiv) (rOf Γ E u6):=by
 refine OpR.imp b5c ?_;rintro x y H Q ⟨d1,d2,ah,m,s,r1,r2,q⟩;unfold u6 at q;split at q
 · cases r1;cases r2;obtain⟨h,q⟩:=ifq q;exact⟨_,_,rfl,rfl,h,q.ok s rfl⟩
 · exact q.elim
theorem c1h:OpR X (binaryOp .Mod) (rOf Γ E p8):=by
 refine OpR.imp b7S ?_;rintro x y H Q ⟨d1,d2,ah,m,s,r1,r2,q⟩;unfold p8 at q;split at q
 · cases r1;cases r2;obtain⟨h,q⟩:=ifq q;exact⟨_,_,rfl,rfl,h,q.ok s rfl⟩
 · exact q.elim
theorem c2V{x y:V}{b:Bool}(h:b=true↔x=y):b=decide (x=y):=by
 by_cases e:x=y
 · rw[ba e];exact h.mpr e
 · rw[bx e];cases b with
   |false=>rfl
   |true=>exact absurd (h.mp rfl) e
theorem b3r{d1 d2:D}{x y:V}{b:Bool}(e:eqS d1 d2=some b)(r1:Rp m H d1 x)(r2:Rp m H d2 y):scal x y=true/\b=decide (x=y):=by unfold eqS at e;split at e<;>first|(cases e;done)|(split at e<;>first|(cases e;done)|(cases e;cases r1;cases r2;refine⟨rfl,c2V ⟨λh=>?_,λh=>?_⟩⟩<;>first|(rw[aw h])|(injection h with h;exact ba h)))
theorem a9j{p:Int->Int->Bool}(h:OpR X (compareOp op) (rI0 λi j=>.bl (p i j))):OpR X (compareOp op) (rOf Γ E (G9 p)):=by
 refine OpR.imp h ?_;rintro x y H Q ⟨d1,d2,ah,m,s,r1,r2,q⟩;unfold G9 at q;split at q
 · cases r1;cases r2;exact⟨_,_,rfl,rfl,q.ok s rfl⟩
 · exact q.elim
theorem N9{x:V}(r:Rp m H d x)(f:z8 d=true):a0Q x=true:=by cases d<;>first|(cases r;rfl)|(simp[z8] at f)
theorem O6{m:List Addr}{H:Hp}:∀{l:List D} {vs:List V},Rps m H l vs->l.all z8=true->vs.all a0Q=true
 |[],vs,h,_=>by rw[show vs=[] from h];rfl
 |d::r,vs,⟨v,t,e,q1,q2⟩,f=>by subst e;rw[all_cons,ae] at f⊢;exact⟨N9 q1 f.1,O6 q2 f.2⟩
theorem b3t{e:D}{x y:V}(r1:Rp m H d x)(r2:Rp m H e y)(f1:z8 d=true)(f2:z8 e=true):eqF d e=eqV x y:=by cases d<;>first|(simp[z8] at f1;done)|(cases e<;>first|(simp[z8] at f2;done)|(cases r1;cases r2;rfl))
theorem a0k{m:List Addr}{H:Hp}{d:D}{x:V}(r:Rp m H d x)(f:z8 d=true):∀{l:List D} {vs:List V},Rps m H l vs->l.all z8=true->inD d l=inV x vs
 |[],vs,h,_=>by rw[show vs=[] from h];rfl
 |e::t,vs,⟨v,u,ev,q1,q2⟩,fl=>by subst ev;rw[all_cons,ae] at fl;have ih:=a0k r f q2 fl.2;unfold inD inV at ih⊢;rw[any_cons,any_cons,b3t q1 r fl.1 f,ih]
theorem b3s(h:z8 d=true):eqF d d=true:=by cases d<;>simp_all [z8,eqF]
theorem hu1(h:n+8<cLine):n+1<cLine:=Nat.lt_of_le_of_lt nofun h
theorem b5M{s:Shared}(f:z8 d=true)(r1:Rp m H d v)(r2:Rp m H d u)(rv:k8 v v')(ru:k8 u u'):SeqAt.EqAt A s v' u' true:=by have:=b3u (A:=A) (s:=s) rv ru (N9 r1 f) (N9 r2 f);rw[←b3t r1 r2 f f,b3s f] at this;exact this
theorem a6J{s:Shared}{r:List D}{us:List V}{bF bU:List Value}{f:D->D->Bool}(hs:(decide (↥l=↥r)&&(l.zip r).all λp=>f p.1 p.2)=true)(r1:Rps m H l vs)(r2:Rps m H r us)(ra:p7 vs bF)(rb:p7 us bU)(k:∀d e,f d e=true->∀v u v' u',Rp m H d v->Rp m H e u->k8 v v'->k8 u u'->SeqAt.EqAt A s v' u' true):
 bF.toArray.size=bU.toArray.size/\∀j (h1:j<bF.toArray.size) (h2:j<bU.toArray.size),SeqAt.EqAt A s bF.toArray[j] bU.toArray[j] true:=by
 rw[ae] at hs;have e0:=aw hs.1;have e1:=↥ra;have e2:=↥rb;have e3:=r1.len;have e4:=r2.len;refine⟨by simp only[size_toArray];ac_nf,λj h1 h2=>?_⟩;simp only[size_toArray] at h1 h2;have hj:j<↥l:=by ac_nf
 have hj':j<↥r:=by ac_nf
 obtain⟨v,g1,p1⟩:=r1.get (ai hj);obtain⟨u,g2,p2⟩:=r2.get (ai hj');obtain⟨v',g3,p3⟩:=ra.get g1;obtain⟨u',g4,p4⟩:=rb.get g2;have:=k l[j] r[j] (bm.mp hs.2 (l[j],r[j]) (List.mem_iff_getElem?.mpr ⟨j,List.getElem?_zip_eq_some.mpr ⟨ai hj,ai hj'⟩⟩)) v u v' u' p1 p2 p3 p4;rw[ai h1] at g3;rw[ai h2] at g4;cases g3;cases g4
 simpa using this
theorem b6H{s:Shared}{e:D}(f:(decide (d=e)&&z8 d)=true)(r1:Rp m H d v)(r2:Rp m H e u)(rv:k8 v v')(ru:k8 u u'):SeqAt.EqAt A s v' u' true:=by rw[ae] at f;cases aw f.1;exact b5M f.2 r1 r2 rv ru
theorem b4B{s:Shared}(I:Inv X bC σ H s){e:D}(f:same d e=true)(hu:A.units+1<cLine)(v u:V)(v' u':Value)(r1:Rp m H d v)(r2:Rp m H e u)(rv:k8 v v')(ru:k8 u u'):SeqAt.EqAt A s v' u' true:=by
 unfold same at f;split at f
 · split at f
   · obtain⟨a,vs,rfl,ha,rs⟩:=r1;obtain⟨b,us,rfl,hb,rt⟩:=r2;cases rv;cases ru
     by_cases hab:a=b
     · subst hab;exact SeqAt.EqAt.same _
     obtain⟨_,bF,ra,pa⟩:=I.hok a _ ha;obtain⟨_,bU,rb,pb⟩:=I.hok b _ hb;obtain⟨sz,el⟩:=a6J (A:=A.in1) (s:=s) f rs rt ra rb λd e f v u v' u' p1 p2 p3 p4=>b6H f p1 p2 p3 p4;have:=SeqAt.RcAt.tuples (A:=A) (s:=s) (e:=λ_=>true) (show s.heap.IsTuple a bF.toArray from pa.tup) (show s.heap.IsTuple b bU.toArray from pb.tup) nofun el;rw[show((List.range (min bF.toArray.size bU.toArray.size)).all (λ_=>true)&&bF.toArray.size==bU.toArray.size)=true by rw[sz];simp] at this;exact SeqAt.EqAt.of_refs hab this
   · cases f
 · exact b6H f r1 r2 rv ru
def b7q(Γ:Gm)(k:Bool->Bool):R2:=λx y H Q=>∃d e ah m b,Sim Γ ah m H/\Rp m H d x/\Rp m H e y/\eqL ah d e=some b/\Q (.bl (k b)) H
theorem b5n{e:D}{x y:V}{p:List D×List D}(S:Sim Γ ah m H)(r1:Rp m H d x)(r2:Rp m H e y)(f:a7N ah d e=some p):∃a b vs us,x=.ref a/\y=.ref b/\SqL Γ.K H a vs/\SqL Γ.K H b us/\Rps m H p.1 vs/\Rps m H p.2 us:=by
 unfold a7N at f;split at f
 · split at f
   · split at f
     · rename_i e1;split at f
       · rename_i e2;cases f;obtain⟨a,vs,rfl,_,s1,rs⟩:=S.rdL e1 r1;obtain⟨b,us,rfl,_,s2,rt⟩:=S.rdL e2 r2;exact⟨a,b,vs,us,rfl,rfl,s1,s2,rs,rt⟩
       · cases f
     · cases f
   · cases f
 · cases f
theorem b1K (hu:X.A.units+8<cLine) (hK:X.K=Γ.K):OpR X (compareOp .Eq) (b7q Γ id)/\OpR X (compareOp .NotEq) (b7q Γ not):=by
 have go:∀{bC s σ H x y v u k Q},Inv X bC σ H s->k8 x v->k8 y u->b7q Γ k x y H Q->∃a b bF bU c,v=.ref a/\u=.ref b/\s.heap.IsList a bF/\s.heap.IsList b bU/\Q (.bl (k c)) H/\(c=true->bF.size=bU.size/\∀j (h1:j<bF.size) (h2:j<bU.size),SeqAt.EqAt X.A.in1 s bF[j] bU[j] true)/\(c=false->bF.size≠bU.size):=by
  intro bC s σ H x y v u k Q I rx ry h;obtain⟨d,e,ah,m,c,S,r1,r2,f,q⟩:=h;unfold eqL at f;split at f
  · rename_i p hp;obtain⟨a,b,vs,us,rfl,rfl,s1,s2,rs,rt⟩:=b5n S r1 r2 hp;cases rx;cases ry;obtain⟨bF,ra,pl,_⟩:=I.list (by rw[hK];exact s1);obtain⟨bU,rb,pl2,_⟩:=I.list (by rw[hK];exact s2);refine⟨a,b,_,_,c,rfl,rfl,pl.isList,pl2.isList,q,λhc=>?_,λhc=>?_⟩
    · subst hc;split at f
      · rename_i g;exact a6J (A:=X.A.in1) (s:=s) g rs rt ra rb λd e f v u v' u' p1 p2 p3 p4=>b4B I f (by show X.A.units+1+1<cLine;ac_nf) v u v' u' p1 p2 p3 p4
      · split at f<;>cases f
    · subst hc;split at f
      · cases f
      · split at f
        · cases f
        · rename_i hl;have e1:=↥ra;have e2:=↥rb;have e3:=rs.len;have e4:=rt.len;simp only[size_toArray];ac_nf
  · cases f
 constructor
 · intro bC s σ H x y v u Q I rx ry h;obtain⟨a,b,bF,bU,c,rfl,rfl,l1,l2,q,h1,h2⟩:=go I rx ry h;cases c with
   |true=>
    obtain⟨sz,el⟩:=h1 rfl;refine SeqAt.eq_listAt (e:=λ_=>true) l1 l2 sz nofun el ⟨.bl _,H,I,rfl,?_⟩;rw[show(List.range bF.size).all (λ_=>true)=true by simp];exact q
   |false=>exact SeqAt.RcAt.lists_lengths l1 l2 (by simpa using h2 rfl) nofun X.prog X.w _ _ ⟨.bl _,H,I,rfl,q⟩
 · intro bC s σ H x y v u Q I rx ry h;obtain⟨a,b,bF,bU,c,rfl,rfl,l1,l2,q,h1,h2⟩:=go I rx ry h;cases c with
   |true=>
    obtain⟨sz,el⟩:=h1 rfl;refine SeqAt.RcNeAt.lists (e:=λ_=>true) l1 l2 sz nofun el X.prog X.w _ _ ⟨.bl _,H,I,rfl,?_⟩;rw[show(List.range bF.size).all (λ_=>true)=true by simp];exact q
   |false=>exact SeqAt.RcNeAt.lists_lengths l1 l2 (by simpa using h2 rfl) nofun X.prog X.w _ _ ⟨.bl _,H,I,rfl,q⟩
theorem c2U(hu:X.A.units+8<cLine)(hK:X.K=Γ.K):OpR X (compareOp .Eq) (rOf Γ E G7):=by
 refine OpR.imp (c0q.or (b1K hu hK).1) ?_;rintro x y H Q ⟨d1,d2,ah,m,s,r1,r2,q⟩;unfold G7 at q;split at q
 · rename_i c e;obtain⟨h1,h2⟩:=b3r e r1 r2;exact .inl ⟨h1,by rw[←h2];exact q.ok s rfl⟩
 · split at q
   · rename_i e;exact .inr ⟨_,_,_,_,_,s,r1,r2,e,q.ok s rfl⟩
   · exact q.elim
theorem c2S(hu:X.A.units+8<cLine)(hK:X.K=Γ.K):OpR X (compareOp .NotEq) (rOf Γ E a2I):=by
 refine OpR.imp (c0l.or (b1K hu hK).2) ?_;rintro x y H Q ⟨d1,d2,ah,m,s,r1,r2,q⟩;unfold a2I at q;split at q
 · rename_i c e;obtain⟨h1,h2⟩:=b3r e r1 r2;exact .inl ⟨h1,by rw[←h2];exact q.ok s rfl⟩
 · split at q
   · rename_i e;exact .inr ⟨_,_,_,_,_,s,r1,r2,e,q.ok s rfl⟩
   · exact q.elim
theorem b7o{s:Shared}{a:Addr}(I:Inv X bC σ H s)(h:H a=some (.dK [])):Inv X bC σ (upd H a (.dT [])) s:=by
 obtain⟨z,hd,vs,cv,o,es,ep,ho,hx,hdt,hes,hp,hh⟩:=I.hok a _ h;cases cv;have e0:es.toList=[]:=by cases q:es.toList with
  |nil=>rfl
  |cons x r=>rw[q] at hp;cases hp
 exact I.write (x:=a) (e:=a) (h':=s.heap) (t':=s.toks) (by rw[h];trivial) (.inl rfl) (λb u _ q=>q) ⟨o,ho⟩ ⟨z,hd,[],.nil,o,es,ep,ho,hx,hdt,e0,nodup_nil⟩
theorem b1j{s:Shared}{a:Addr}(I:Inv X bC σ H s)(h:H a=some (.dT [])):Inv X bC σ (upd H a (.dK [])) s:=by obtain⟨z,hd,xs,cv,o,es,ep,ho,hx,hdt,hes,hh⟩:=I.hok a _ h;cases cv;have e0:es= #[]:=Array.toList_inj.mp hes;subst e0;refine I.write (x:=a) (e:=a) (h':=s.heap) (t':=s.toks) (by rw[h];trivial) (.inl rfl) (λb u _ q=>q) ⟨o,ho⟩ ⟨z,hd,[],.nil,o,#[],ep,ho,hx,hdt,λe he=>?_,.nil,nodup_nil⟩;simp at he
theorem X4{k:Key}(e:K9 d=some k)(r:Rp m H d v):v=kV k:=by cases d<;>simp only[K9] at e<;>first|(cases e;done)|(cases e;cases r;rfl)
theorem a3F{m:List Addr}{H:Hp}:∀{l:List D} {vs:List V} {ks:List Key},I0 l=some ks->Rps m H l vs->vs=ks.map kV
 |[],vs,ks,e,h=>by cases e;exact h
 |d::r,vs,ks,e,⟨v,t,ev,q1,q2⟩=>by
  subst ev;unfold I0 at e;split at e
  · rename_i k ks' e1 e2;cases e;rw[map_cons,X4 e1 q1,a3F e2 q2]
  · cases e
theorem a0h{a b:D}{k:Key}(h1:K9 a=some k)(h2:K9 b=some k):a=b:=by cases a<;>simp only[K9] at h1<;>first|(cases h1;done)|(cases h1;cases b<;>simp only[K9] at h2<;>first|(cases h2;done)|(cases h2;rfl))
theorem a2e:∀{a b:List D} {k:List Key},I0 a=some k->I0 b=some k->a=b
 |[],[],_,_,_=>rfl
 |[],y::ys,k,h1,h2=>by cases h1;unfold I0 at h2;split at h2<;>cases h2
 |x::xs,[],k,h1,h2=>by cases h2;unfold I0 at h1;split at h1<;>cases h1
 |x::xs,y::ys,k,h1,h2=>by
  unfold I0 at h1 h2;split at h1
  · rename_i k1 ks1 e1 e2;cases h1;split at h2
    · rename_i k2 ks2 e3 e4;cases h2;rw[a0h e1 e3,a2e e2 e4]
    · cases h2
  · cases h1
theorem a5y(h:K7 d=some false):∃k,K9 d=some k:=by cases d<;>simp only[K7] at h<;>first|(cases h;done)|exact⟨_,rfl⟩|(split at h<;>cases h)
theorem a3G(h:K7 d=some true):∃l ks,d=.tup l/\I0 l=some ks:=by
 cases d<;>simp only[K7] at h<;>first|(cases h;done)|skip
 rename_i l;obtain⟨e,h⟩:=ifs h;obtain⟨ks,hk⟩:=Option.isSome_iff_exists.mp e;exact⟨l,ks,rfl,hk⟩
theorem DK.val{l:List (D×D)}{bD:List (Key×V)}(r:DK m H l bD){k:Key}(e:K9 d=some k):
 (∀c,n8 l d=some c->∃v,V7 bD k=some v/\Rp m H c v)/\(n8 l d=none->V7 bD k=none):=by
 induction r with
 |nil=>exact⟨λc h=>(by cases h),λ_=>rfl⟩
 | @cons p q ps qs h t ih=>
  by_cases z:p.1=d
  · have z':q.1=k:=by have:=h.1;rw[z,e] at this;exact(ax this).symm
    rw[Z5 z',show n8 (p::ps) d=some p.2 from by simp[n8,List.find?_cons,z]];exact⟨λc hc=>by cases hc;exact⟨q.2,rfl,h.2⟩,λhc=>by cases hc⟩
  · have z':¬q.1=k:=λy=>z (a0h (by rw[h.1,y]) e);rw[Z6 z',show n8 (p::ps) d=n8 ps d from by simp[n8,List.find?_cons,z]];exact ih
theorem DT.val{l:List (D×D)}{bD:List (List Key×V)}(r:DT m H l bD){d:List D}{k:List Key}(e:I0 d=some k):
 (∀c,n8 l (.tup d)=some c->∃v,V7 bD k=some v/\Rp m H c v)/\(n8 l (.tup d)=none->V7 bD k=none):=by
 induction r with
 |nil=>exact⟨λc h=>(by cases h),λ_=>rfl⟩
 | @cons p q ps qs h t ih=>
  obtain⟨⟨l',e1,e2⟩,h2⟩:=h
  by_cases z:p.1=.tup d
  · have z':q.1=k:=by rw[e1] at z;injection z with z;rw[z,e] at e2;exact(ax e2).symm
    rw[Z5 z',show n8 (p::ps) (.tup d)=some p.2 from by simp[n8,List.find?_cons,z]];exact⟨λc hc=>by cases hc;exact⟨q.2,rfl,h2⟩,λhc=>by cases hc⟩
  · have z':¬q.1=k:=λy=>z (e1.trans (fM D.tup (a2e (e2.trans (fM some y)) e)));rw[Z6 z',show n8 (p::ps) (.tup d)=n8 ps (.tup d) from by simp[n8,List.find?_cons,z]];exact ih
theorem DK.put {l:List (D×D)} {bD:List (Key×V)} (r:DK m H l bD) {c:D} {k:Key} (e:K9 d=some k) (rv:Rp m H c v):DK m H (a0W l d c) (P9 bD k v):=by
 have any:(l.any λp=>decide (p.1=d))=bD.any λp=>decide (p.1=k):=by
  induction r with
  |nil=>rfl
  | @cons p q ps qs h t ih=>
   rw[any_cons,any_cons,ih];congr 1;refine decide_eq_decide.mpr ⟨fun(z:p.1=d)=>?_,fun(z:q.1=k)=>a0h (by rw[h.1,z]) e⟩;have:=h.1;rw[z,e] at this;exact(ax this).symm
 unfold a0W P9;rw[any];split
 · clear any
   induction r with
   |nil=>exact .nil
   | @cons p q ps qs h t ih=>
    rename_i hh;rw[map_cons,map_cons];refine .cons ?_ ?_
    · by_cases z:p.1=d
      · have z':q.1=k:=by have:=h.1;rw[z,e] at this;exact(ax this).symm
        rw[ay z,ay z'];exact⟨h.1,rv⟩
      · have z':¬q.1=k:=λy=>z (a0h (by rw[h.1,y]) e);rw[az z,az z'];exact h
    · clear hh ih h
      induction t with
      |nil=>exact .nil
      | @cons p q ps qs h t ih=>
       rw[map_cons,map_cons];refine .cons ?_ ih
       by_cases z:p.1=d
       · have z':q.1=k:=by have:=h.1;rw[z,e] at this;exact(ax this).symm
         rw[ay z,ay z'];exact⟨h.1,rv⟩
       · have z':¬q.1=k:=λy=>z (a0h (by rw[h.1,y]) e);rw[az z,az z'];exact h
 · exact Paired.snoc r ⟨e,rv⟩
theorem DT.put{l:List (D×D)}{bD:List (List Key×V)}(r:DT m H l bD){d:List D}{c:D}{k:List Key}(e:I0 d=some k)(rv:Rp m H c v):DT m H (a0W l (.tup d) c) (P9 bD k v):=by
 have one:∀{p:D×D} {q:List Key×V},(∃l,p.1=.tup l/\I0 l=some q.1)->(p.1=.tup d↔q.1=k):=by rintro p q ⟨l',e1,e2⟩;refine⟨fun(z:p.1=.tup d)=>?_,fun(z:q.1=k)=>e1.trans (fM D.tup (a2e (e2.trans (fM some z)) e))⟩;rw[e1] at z;injection z with z;rw[z,e] at e2;exact(ax e2).symm
 have any:(l.any λp=>decide (p.1=.tup d))=bD.any λp=>decide (p.1=k):=by
  induction r with
  |nil=>rfl
  | @cons p q ps qs h t ih=>
   rw[any_cons,any_cons,ih];congr 1;exact decide_eq_decide.mpr (one h.1)
 unfold a0W P9;rw[any];split
 · have go:∀{l:List (D×D)} {bD:List (List Key×V)},DT m H l bD->DT m H (l.map λp=>if p.1=.tup d then(p.1,c) else p) (bD.map λp=>if p.1=k then(p.1,v) else p):=by
    intro l bD r
    induction r with
    |nil=>exact .nil
    | @cons p q ps qs h t ih=>
     rw[map_cons,map_cons];refine .cons ?_ ih
     by_cases z:p.1=.tup d
     · rw[ay z,ay ((one h.1).mp z)];exact⟨h.1,rv⟩
     · rw[az z,az λy=>z ((one h.1).mpr y)];exact h
   exact go r
 · exact Paired.snoc r ⟨⟨d,rfl,e⟩,rv⟩
theorem T5{s:Shared}{k:D}(I:Inv X bC σ H s)(S:Sim Γ ah m H)(e:ah[n]? =some (.dict bD))(ok:D8 k bD=true){a:Addr}(hm:m[n]? =some a):
 ∃H',Inv X bC σ H' s/\Keep m m H H'/\Sim Γ ah m H'/\((∃ks gs,K9 k=some ks/\H' a=some (.dK gs)/\DK m H' bD gs)∨∃l ks gs,k=.tup l/\I0 l=some ks/\H' a=some (.dT gs)/\DT m H' bD gs):=by
 unfold D8 at ok;rw[ae] at ok;obtain⟨ok1,ok2⟩:=ok;obtain⟨b,hb⟩:=Option.isSome_iff_exists.mp ok1;rcases S.at hm e with⟨gs,h1,h2⟩|⟨gs,h1,h2⟩
 · cases b with
   |false=>
    obtain⟨ks,hk⟩:=a5y hb;exact⟨H,I,Keep.refl m H,S,.inl ⟨ks,gs,hk,h1,h2⟩⟩
   | true=>
    obtain⟨l,ks,rfl,hk⟩:=a3G hb;cases h2 with
    |nil=>
     have kp:Keep m m H (upd H a (.dT [])):=Keep.put hm h1 λz=>z;have S':=S.write (o':=.dT []) (c:=.dict []) hm h1 (λz=>z) (.inr ⟨[],g9,.nil⟩);rw[show ah.set n (.dict [])=ah from a3n e] at S';exact⟨_,b7o I h1,kp,S',.inr ⟨l,ks,[],rfl,hk,g9,.nil⟩⟩
    | @cons p q ps qs h t=>
     rw[all_cons,ae,hb] at ok2;exfalso;have:=eq_of_beq ok2.1;obtain⟨l',ks',e1,_⟩:=a3G this;have h1:=h.1;rw[e1] at h1;cases h1
 · cases b with
   |true=>
    obtain⟨l,ks,rfl,hk⟩:=a3G hb;exact⟨H,I,Keep.refl m H,S,.inr ⟨l,ks,gs,rfl,hk,h1,h2⟩⟩
   | false=>
    obtain⟨ks,hk⟩:=a5y hb;cases h2 with
    |nil=>
     have kp:Keep m m H (upd H a (.dK [])):=Keep.put hm h1 λz=>z;have S':=S.write (o':=.dK []) (c:=.dict []) hm h1 (λz=>z) (.inl ⟨[],g9,.nil⟩);rw[show ah.set n (.dict [])=ah from a3n e] at S';exact⟨_,b1j I h1,kp,S',.inl ⟨ks,[],hk,g9,.nil⟩⟩
    | @cons p q ps qs h t=>
     rw[all_cons,ae,hb] at ok2;exfalso;have:=eq_of_beq ok2.1;obtain⟨ks',hk'⟩:=a5y this;obtain⟨⟨l',e1,_⟩,_⟩:=h;rw[e1] at hk';cases hk'
end
variable{ds:List D}{h:AH}
section
variable{X:Cx}{E:XK}
theorem a3V(b:Bool):(b !=false)=b:=by cases b<;>rfl
theorem a3U(b:Bool):(b !=true)=!b:=by cases b<;>rfl
theorem DK.some_eq{l:List (D×D)}{bD:List (Key×V)}(r:DK m H l bD){k:Key}(e:K9 d=some k):(n8 l d).isSome=(V7 bD k).isSome:=by
 obtain⟨h1,h2⟩:=r.val e;cases q:n8 l d with
 |none=>rw[h2 q];rfl
 |some c=>obtain⟨v,hv,_⟩:=h1 c q;rw[hv];rfl
theorem DT.some_eq{l:List (D×D)}{bD:List (List Key×V)}(r:DT m H l bD){d:List D}{k:List Key}(e:I0 d=some k):(n8 l (.tup d)).isSome=(V7 bD k).isSome:=by
 obtain⟨h1,h2⟩:=r.val e;cases q:n8 l (.tup d) with
 |none=>rw[h2 q];rfl
 |some c=>obtain⟨v,hv,_⟩:=h1 c q;rw[hv];rfl
theorem a1L{k:D}{x:V}{a:Addr}(kp:Keep m m H H')(r:Rp m H k x)
 (h:(∃ks gs,K9 k=some ks/\H' a=some (.dK gs)/\DK m H' bD gs)∨∃l ks gs,k=.tup l/\I0 l=some ks/\H' a=some (.dT gs)/\DT m H' bD gs):
 ∃o,a8r H' a x o/\(n8 bD k).isSome=o.isSome/\∀c,n8 bD k=some c->∃v,o=some v/\Rp m H' c v:=by
 rcases h with⟨ks,gs,hk,ha,dk⟩|⟨l,ks,gs,rfl,hk,ha,dt⟩
 · obtain⟨h1,h2⟩:=dk.val hk;exact⟨V7 gs ks,.inl ⟨gs,ks,.inl ha,X4 hk r,rfl⟩,dk.some_eq hk,λc hc=>h1 c hc⟩
 · obtain⟨h1,h2⟩:=dt.val hk;obtain⟨b,vs,rfl,hb,rs⟩:=r;have hv:=a3F hk rs;subst hv;exact⟨V7 gs ks,.inr ⟨gs,ks,b,.inl ha,rfl,kp.tup hb,rfl⟩,dt.some_eq hk,λc hc=>h1 c hc⟩
theorem c2T(hu:X.A.units+8<cLine)(hK:X.K=Γ.K):OpR X (compareOp .In) (rOf Γ E (O4 false)):=by
 rintro bC s σ H x y v u Q I rx ry ⟨d1,d2,ah,m,S,r1,r2,q⟩;unfold O4 at q;split at q
 · cases r1;cases r2;rw[a3V] at q;exact a9T bC s σ H _ _ v u Q I rx ry ⟨_,_,rfl,rfl,q.ok S rfl⟩
 · obtain⟨h,q⟩:=ifq q;rw[ae] at h;obtain⟨a,vs,rfl,h1,q1⟩:=r2;refine a0F bC s σ H _ _ v u Q I rx ry ⟨a,vs,rfl,.inr (.inl (.inl h1)),N9 r1 h.1,O6 q1 h.2,?_⟩;rw[a3V,a0k r1 h.1 q1 h.2] at q;exact q.ok S rfl
 · split at q
   · rename_i xs e;obtain⟨h,q⟩:=ifq q;rw[ae] at h;obtain⟨a,vs,rfl,_,h1,q1⟩:=S.lst e r2;refine a0F bC s σ H _ _ v u Q I rx ry ⟨a,vs,rfl,.inl (.inl (.inl h1)),N9 r1 h.1,O6 q1 h.2,?_⟩;rw[a3V,a0k r1 h.1 q1 h.2] at q;exact q.ok S rfl
   · rename_i xs e;obtain⟨h,q⟩:=ifq q;rw[ae] at h;obtain⟨a,vs,rfl,_,h1,q1⟩:=S.rdL (l:=xs) (by unfold rdL;rw[e]) r2;refine a0F bC s σ H _ _ v u Q I rx ry ⟨a,vs,rfl,.inl (by rw[hK];exact h1),N9 r1 h.1,O6 q1 h.2,?_⟩;rw[a3V,a0k r1 h.1 q1 h.2] at q;exact q.ok S rfl
   · rename_i bD e;obtain⟨h,q⟩:=ifq q;obtain⟨a,rfl,hm⟩:=r2;obtain⟨H',I',kp,S',hd⟩:=T5 I S e h hm;obtain⟨o,g,h1,_⟩:=a1L kp r1 hd;cases (show u=Value.ref a from ry);refine c2W (hu1 hu) I' g rx λs' fE=>⟨.bl o.isSome,H',fE,rfl,?_⟩;rw[a3V,h1] at q;exact q m H' _ (Pre.refl m) kp S' rfl
   · exact q.elim
 · exact q.elim
theorem b5Z(hu:X.A.units+8<cLine)(hK:X.K=Γ.K):OpR X (compareOp .NotIn) (rOf Γ E (O4 true)):=by
 rintro bC s σ H x y v u Q I rx ry ⟨d1,d2,ah,m,S,r1,r2,q⟩;unfold O4 at q;split at q
 · cases r1;cases r2;rw[a3U] at q;exact a5m bC s σ H _ _ v u Q I rx ry ⟨_,_,rfl,rfl,q.ok S rfl⟩
 · obtain⟨h,q⟩:=ifq q;rw[ae] at h;obtain⟨a,vs,rfl,h1,q1⟩:=r2;refine Q8 bC s σ H _ _ v u Q I rx ry ⟨a,vs,rfl,.inr (.inl (.inl h1)),N9 r1 h.1,O6 q1 h.2,?_⟩;rw[a3U,a0k r1 h.1 q1 h.2] at q;exact q.ok S rfl
 · split at q
   · rename_i xs e;obtain⟨h,q⟩:=ifq q;rw[ae] at h;obtain⟨a,vs,rfl,_,h1,q1⟩:=S.lst e r2;refine Q8 bC s σ H _ _ v u Q I rx ry ⟨a,vs,rfl,.inl (.inl (.inl h1)),N9 r1 h.1,O6 q1 h.2,?_⟩;rw[a3U,a0k r1 h.1 q1 h.2] at q;exact q.ok S rfl
   · rename_i xs e;obtain⟨h,q⟩:=ifq q;rw[ae] at h;obtain⟨a,vs,rfl,_,h1,q1⟩:=S.rdL (l:=xs) (by unfold rdL;rw[e]) r2;refine Q8 bC s σ H _ _ v u Q I rx ry ⟨a,vs,rfl,.inl (by rw[hK];exact h1),N9 r1 h.1,O6 q1 h.2,?_⟩;rw[a3U,a0k r1 h.1 q1 h.2] at q;exact q.ok S rfl
   · rename_i bD e;obtain⟨h,q⟩:=ifq q;obtain⟨a,rfl,hm⟩:=r2;obtain⟨H',I',kp,S',hd⟩:=T5 I S e h hm;obtain⟨o,g,h1,_⟩:=a1L kp r1 hd;cases (show u=Value.ref a from ry);refine b6e (hu1 hu) I' g rx λs' fE=>⟨.bl (!o.isSome),H',fE,rfl,?_⟩;rw[a3U,h1] at q;exact q m H' _ (Pre.refl m) kp S' rfl
   · exact q.elim
 · exact q.elim
noncomputable def B.cmp:B->Option CmpOp
 |.eq=>some .Eq|.ne=>some .NotEq|.lt=>some .Lt|.le=>some .LtE|.gt=>some .Gt|.ge=>some .GtE|.isin=>some .In|.notin=>some .NotIn
 |_=>none
noncomputable def B.bin:B->Option Operator
 |.add=>some .Add|.sub=>some .Sub|.mul=>some .Mult|.div=>some .FloorDiv|.mod=>some .Mod|.pow=>some .Pow
 |_=>none
theorem c1l{o:B}{op:Operator}(h:o.bin=some op):OpR X (binaryOp op) (rOf Γ E (op2 o)):=by
 cases o<;>cases h
 · exact c1m
 · exact c1e
 · exact c1g
 · exact c1k
 · exact c1h
 · exact c1f
theorem a2p(hu:X.A.units+8<cLine)(hK:X.K=Γ.K){o:B}(h:o.cmp=some op):OpR X (compareOp op) (rOf Γ E (op2 o)):=by
 cases o<;>cases h
 · exact c2U hu hK
 · exact c2S hu hK
 · exact a9j c0m
 · exact a9j c0n
 · exact a9j c0o
 · exact a9j c0p
 · exact c2T hu hK
 · exact b5Z hu hK
theorem c1i (hu:X.A.units+8<cLine) (hK:X.K=Γ.K):IxR X (rOf Γ E ixD):=by
  rintro value slice bC s σ H x y v u Q I rx ry ⟨d1,d2,ah,m,S,r1,r2,q⟩ hs;unfold ixD at q;split at q
  · split at q
    · rename_i d e;obtain⟨a,vs,rfl,h1,q1⟩:=r1;cases r2;obtain⟨w,hw,dn⟩:=q1.at e;exact ix_tup value slice bC s σ H _ _ v u Q I rx ry ⟨a,vs,_,w,rfl,rfl,.inl (.inl h1),hw,q.ok S dn⟩ hs
    · exact q.elim
  · obtain⟨hl,q⟩:=ifq q;split at q
    · rename_i c e;cases r1;cases r2;exact ix_str value slice bC s σ H _ _ v u Q I rx ry ⟨_,_,c,rfl,rfl,by rw[←S9];exact hl,e,q.ok S rfl⟩ hs
    · exact q.elim
  · split at q
    · rename_i xs e;split at q
      · split at q
        · rename_i d e2;obtain⟨a,vs,rfl,_,h1,q1⟩:=S.lst e r1;cases r2;obtain⟨w,hw,dn⟩:=q1.at e2;exact a8S value slice bC s σ H _ _ v u Q I rx ry ⟨a,vs,_,w,rfl,rfl,.inl (.inl h1),hw,q.ok S dn⟩ hs
        · exact q.elim
      · exact q.elim
    · rename_i xs e;split at q
      · split at q
        · rename_i d e2;obtain⟨a,vs,rfl,_,h1,q1⟩:=S.rdL (l:=xs) (by unfold rdL;rw[e]) r1;cases r2;obtain⟨w,hw,dn⟩:=q1.at e2;exact a8S value slice bC s σ H _ _ v u Q I rx ry ⟨a,vs,_,w,rfl,rfl,by rw[hK];exact h1,hw,q.ok S dn⟩ hs
        · exact q.elim
      · exact q.elim
    · rename_i bD e;obtain⟨h,q⟩:=ifq q;split at q
      · rename_i d e2;obtain⟨a,rfl,hm⟩:=r1;obtain⟨H',I',kp,S',hd⟩:=T5 I S e h hm;obtain⟨o,g,h1,h2⟩:=a1L kp r2 hd;obtain⟨w,hw,dn⟩:=h2 d e2;subst hw;cases (show v=Value.ref a from rx);refine ixd_tail (a7e I' g) hs ?_;exact b0t (hu1 hu) I' g ry λw' s' fE r''=>⟨w,H',fE,r'',q m H' _ (Pre.refl m) kp S' dn⟩
      · exact q.elim
    · exact q.elim
  · exact q.elim
where
  ixd_tail {value slice:Expr} {v u:Value} {Q:Value->Shared->Prop} {s:Shared} (hT:s.TypeIs v "dict") (hs:subscripted slice false v u=operate [v,u] (getItem v u)) (h:wpAny (model X.prog X.w) X.A (getItem v u) Q X.xe s):
      wpAny (model X.prog X.w) X.A (subscriptTail value slice v u) Q X.xe s:=by
    unfold subscriptTail;refine fv ?_;rw[getitemInPython_of_ne hT.not_modules];refine fv (wpAny_specialOf hT PySem.F.slot_dict_getitem.lookup ?_);have cJ:wpAny (model X.prog X.w) X.A (subscripted slice false v u) (λr eG=>wpAny (model X.prog X.w) X.A (letTemporaryGo value v r>>=λ_=>pure r) Q X.xe eG) X.xe s:=by rw[hs];exact wpAny_operating (gv h (λr eG h₃=>fv (wpAny_letTemporaryGo (fG h₃))) λ_ _ x=>x)
    first
      |exact fG (fv cJ)
      |exact fv (fG (fv cJ))
      |exact fv cJ
theorem c2R(hK:X.K=Γ.K):SlR X (λx lo hi H Q=>∃d ah m,Sim Γ ah m H/\Rp m H d x/\i6 Γ E m H (slD ah lo hi d) Q):=by
 rintro bC s σ H x v vl vu lo hi sl Q I rx hs pl pu ⟨d,ah,m,S,r,q⟩;unfold slD at q;split at q
 · obtain⟨hl,q⟩:=ifq q;cases r;exact b7i bC s σ H _ v vl vu lo hi sl Q I rx hs pl pu ⟨_,rfl,by rw[←S9];exact hl,q.ok S rfl⟩
 · split at q
   · exact q.elim
   · rename_i hw;obtain⟨a,vs,rfl,h1,q1⟩:=r;refine b7h bC s σ H _ v vl vu lo hi sl Q I rx hs pl pu ⟨a,vs,rfl,.inl (.inl h1),by rw[q1.len];exact hw,λp hp=>q.newt S hp (q1.cut lo hi)⟩
 · split at q
   · rename_i xs e;obtain⟨a,vs,rfl,_,h1,q1⟩:=S.rdL e r;refine b4s bC s σ H _ v vl vu lo hi sl Q I rx hs pl pu ⟨a,vs,rfl,by rw[hK];exact h1,λp hp=>q.newc S hp ⟨_,g9,(q1.cut lo hi).mono (Pre.snoc m p) (Keep.newc hp)⟩⟩
   · exact q.elim
 · exact q.elim
def rBi(Γ:Gm)(E:XK)(b:Bi):List V->Hp->VK->Prop:=λxs H Q=>∃ds ah m,Sim Γ ah m H/\Rps m H ds xs/\i6 Γ E m H (biD b ah ds) Q
theorem a6q{xs:List V}(h:Rps m H [d] xs):∃x,xs=[x]/\Rp m H d x:=by obtain⟨v,t,rfl,q,e⟩:=h;exact⟨v,by rw[show t=[] from e],q⟩
theorem b9Z{e:D}{xs:List V}(h:Rps m H [d,e] xs):∃x y,xs=[x,y]/\Rp m H d x/\Rp m H e y:=by obtain⟨v,t,rfl,q,h2⟩:=h;obtain⟨y,rfl,q2⟩:=a6q h2;exact⟨v,y,rfl,q,q2⟩
theorem Y8{b:Bi}{xs:List V}(hb:b≠.max)(rs:Rps m H ds xs)(q:i6 Γ E m H (biD b ah ds) Q):∃d x,ds=[d]/\xs=[x]/\Rp m H d x/\i6 Γ E m H (bi1 b ah d) Q:=by
 cases ds with
 |nil=>exact q.elim
 | cons d l=>
  cases l with
  |nil=>
   obtain⟨x,rfl,r1⟩:=a6q rs;exact⟨d,x,rfl,rfl,r1,q⟩
  |cons e l=>
   unfold biD at q;simp only at q;rw[az λz=>hb z.1] at q;exact q.elim
theorem Y9{b:Bi}{x:V}(hb:b≠.len)(S:Sim Γ ah m H)(r1:Rp m H (.ref n) x)(q:i6 Γ E m H (bi1 b ah (.ref n)) Q):∃ys a vs,x=.ref a/\SqL Γ.K H a vs/\Rps m H ys vs/\i6 Γ E m H (biL b ah ys) Q:=by
 unfold bi1 at q;simp only at q;split at q
 · rename_i ys e;obtain⟨a,vs,rfl,_,h1,q1⟩:=S.rdL (l:=ys) (by unfold rdL;rw[e]) r1;exact⟨ys,a,vs,rfl,h1,q1,q⟩
 · rename_i ys e;obtain⟨a,vs,rfl,_,h1,q1⟩:=S.rdL (l:=ys) (by unfold rdL;rw[e]) r1;exact⟨ys,a,vs,rfl,h1,q1,q⟩
 · cases b<;>first|exact q.elim|exact absurd rfl hb
 · exact q.elim
theorem c1x(hK:X.K=Γ.K):G5 X (.builtin "len") (rBi Γ E .len):=by
 rintro bC s σ H xs us Q I r ⟨ds,ah,m,S,rs,q⟩;obtain⟨d,x,rfl,rfl,r1,q⟩:=Y8 ∅ rs q;have sq:∀{a vs ys},SqL Γ.K H a vs->Rps m H ys vs->k8 (.ref a) (.ref a)->x=.ref a->i6 Γ E m H (biL .len ah ys) Q->_:=fun{a vs ys} h1 q1 _ e q=>a1P bC s σ H [x] us Q I r ⟨a,vs,by rw[e],.inl (by rw[hK];exact h1),by rw[q1.len];exact q.ok S rfl⟩;cases d with
 |non=>exact q.elim
 |bl b=>exact q.elim
 |int i=>exact q.elim
 |str y=>
  cases r1;unfold bi1 at q;simp only at q;obtain⟨hl,q⟩:=ifq q;exact a5S bC s σ H _ us Q I r ⟨_,rfl,by rw[←S9];exact hl,q.ok S rfl⟩
 |tup l=>
  obtain⟨a,vs,rfl,h1,q1⟩:=r1;exact a1P bC s σ H _ us Q I r ⟨a,vs,rfl,.inr (.inl (.inl h1)),by rw[q1.len];exact q.ok S rfl⟩
 |ref n=>
  unfold bi1 at q;simp only at q;split at q
  · rename_i ys e;obtain⟨a,vs,rfl,_,h1,q1⟩:=S.rdL (l:=ys) (by unfold rdL;rw[e]) r1;exact sq h1 q1 rfl rfl q
  · rename_i ys e;obtain⟨a,vs,rfl,_,h1,q1⟩:=S.rdL (l:=ys) (by unfold rdL;rw[e]) r1;exact sq h1 q1 rfl rfl q
  · rename_i bD e;obtain⟨h,q⟩:=ifq q;obtain⟨a,rfl,hm⟩:=r1;obtain⟨H',I',kp,S',hd⟩:=T5 I S e h hm;rcases hd with⟨ks,gs,hk,ha,dk⟩|⟨l,ks,gs,e0,_⟩
    · obtain⟨u,rfl,ru⟩:=T7 r;cases (show u=Value.ref a from ru);refine c1q I' (.inl ha) λt s' fE=>⟨.int ↥gs,H',fE,⟨t,rfl⟩,?_⟩;rw[←Paired.length dk];exact q m H' _ (Pre.refl m) kp S' rfl
    · cases e0
  · exact q.elim
theorem c1v:G5 X (.type "str") (rBi Γ E .str):=by
 rintro bC s σ H xs us Q I r ⟨ds,ah,m,S,rs,q⟩;obtain⟨d,x,rfl,rfl,r1,q⟩:=Y8 ∅ rs q;cases d<;>first|exact q.elim|skip
 · unfold bi1 at q;simp only at q;obtain⟨hl,q⟩:=ifq q;cases r1;exact a5R bC s σ H _ us Q I r ⟨_,rfl,hl,q.ok S rfl⟩
 · obtain⟨_,_,_,_,_,_,q⟩:=Y9 ∅ S r1 q;exact q.elim
theorem c1y:G5 X (.type "int") (rBi Γ E .int):=by
 rintro bC s σ H xs us Q I r ⟨ds,ah,m,S,rs,q⟩;obtain⟨d,x,rfl,rfl,r1,q⟩:=Y8 ∅ rs q;cases d<;>first|exact q.elim|skip
 · cases r1;exact a4N bC s σ H _ us Q I r (.inr ⟨_,rfl,q.ok S rfl⟩)
 · cases r1;exact a4N bC s σ H _ us Q I r (.inl ⟨_,rfl,q.ok S rfl⟩)
 · unfold bi1 at q;simp only at q;obtain⟨hl,q⟩:=ifq q;split at q
   · rename_i n e;cases r1;exact a5T bC s σ H _ us Q I r ⟨_,n,rfl,hl,e,q.ok S rfl⟩
   · exact q.elim
 · obtain⟨_,_,_,_,_,_,q⟩:=Y9 ∅ S r1 q;exact q.elim
theorem b8V(hK:X.K=Γ.K):G5 X (.type "list") (rBi Γ E .list):=by
 rintro bC s σ H xs us Q I r ⟨ds,ah,m,S,rs,q⟩;obtain⟨d,x,rfl,rfl,r1,q⟩:=Y8 ∅ rs q;cases d<;>first|exact q.elim|skip
 · obtain⟨a,vs,rfl,h1,q1⟩:=r1;exact a1O bC s σ H _ us Q I r ⟨a,vs,rfl,.inr (.inl (.inl h1)),λp hp=>i6.newc q S hp ⟨_,g9,q1.mono (Pre.snoc m p) (Keep.newc hp)⟩⟩
 · obtain⟨ys,a,vs,rfl,h1,q1,q⟩:=Y9 ∅ S r1 q;exact a1O bC s σ H _ us Q I r ⟨a,vs,rfl,.inl (by rw[hK];exact h1),λp hp=>i6.newc q S hp ⟨_,g9,q1.mono (Pre.snoc m p) (Keep.newc hp)⟩⟩
theorem b6m(hK:X.K=Γ.K):G5 X (.type "tuple") (rBi Γ E .tuple):=by
 rintro bC s σ H xs us Q I r ⟨ds,ah,m,S,rs,q⟩;obtain⟨d,x,rfl,rfl,r1,q⟩:=Y8 ∅ rs q;cases d<;>first|exact q.elim|skip
 · obtain⟨a,vs,rfl,h1,q1⟩:=r1;exact a0T bC s σ H _ us Q I r ⟨a,vs,rfl,.inr ⟨.inl (.inl h1),i6.ok q S ⟨a,vs,rfl,h1,q1⟩⟩⟩
 · obtain⟨ys,a,vs,rfl,h1,q1,q⟩:=Y9 ∅ S r1 q;exact a0T bC s σ H _ us Q I r ⟨a,vs,rfl,.inl ⟨by rw[hK];exact h1,λp hp=>i6.newt q S hp q1⟩⟩
theorem b1u{m:List Addr}{H:Hp}:∀{l:List D} {bD:List (D×D)} {vs:List V},a9N l=some bD->Rps m H l vs->∃gs,PrT H vs gs/\DK m H bD gs
 |[],bD,vs,h,r=>by cases h;rw[show vs=[] from r];exact⟨[],.nil,.nil⟩
 |d::l,bD,vs,h,⟨v,t,e,q1,q2⟩=>by
  unfold a9N at h;split at h
  · rename_i e0;cases e0
  · rename_i k x r e0;cases e0;obtain⟨hk,h⟩:=ifs h;obtain⟨kvs',h1,rfl⟩:=Option.map_eq_some_iff.mp h;obtain⟨gs,g1,g2⟩:=b1u h1 q2;obtain⟨kk,hk⟩:=Option.isSome_iff_exists.mp hk;obtain⟨a,ws,rfl,ha,rs⟩:=q1;obtain⟨y,z,rfl,r1,r2⟩:=b9Z rs;have:=X4 hk r1;subst this;rw[e];exact⟨(kk,z)::gs,.cons ⟨a,rfl,ha⟩ g1,.cons ⟨hk,r2⟩ g2⟩
  · cases h
theorem b3x(h:DK m H bD gs):∀{bP:List (D×D)} {ag:List (Key×V)},DK m H bP ag->DK m H (bD.foldl (λa p=>a0W a p.1 p.2) bP) (X1 ag gs):=by
 unfold DK at h
 induction h with
 |nil=>exact λr=>r
 |cons h t ih=>exact λr=>ih (DK.put r h.1 h.2)
theorem b8W(hc:X.calm=true)(hK:X.K=Γ.K):G5 X (.type "dict") (rBi Γ E .dict):=by
 rintro bC s σ H xs us Q I r ⟨ds,ah,m,S,rs,q⟩;obtain⟨d,x,rfl,rfl,r1,q⟩:=Y8 ∅ rs q;cases d<;>first|exact q.elim|skip
 obtain⟨ys,a,vs,rfl,h1,q1,q⟩:=Y9 ∅ S r1 q;unfold biL at q;simp only at q;split at q
 · rename_i bD e2;obtain⟨gs,g1,g2⟩:=b1u e2 q1;exact a5U hc bC s σ H _ us Q I r ⟨a,vs,gs,rfl,by rw[hK];exact h1,g1,λd hd=>q.newc S hd (.inl ⟨_,g9,(b3x g2 .nil).mono (Pre.snoc m d) (Keep.newc (m:=m) hd).im⟩)⟩
 · exact q.elim
theorem c1A(hc:X.calm=true)(hK:X.K=Γ.K):G5 X (.builtin "all") (rBi Γ E .all):=by
 rintro bC s σ H xs us Q I r ⟨ds,ah,m,S,rs,q⟩;obtain⟨d,x,rfl,rfl,r1,q⟩:=Y8 ∅ rs q;cases d<;>first|exact q.elim|skip
 obtain⟨ys,a,vs,rfl,h1,q1,q⟩:=Y9 ∅ S r1 q;unfold biL at q;simp only at q;split at q
 · rename_i bs e2;rw[a5e e2 q1] at h1;exact b3H hc bC s σ H _ us Q I r ⟨a,bs,rfl,by rw[hK];exact h1,q.ok S rfl⟩
 · exact q.elim
theorem a4s{m:List Addr}{H:Hp}:∀{l:List D} {is:List Int} {vs:List V},a4E l=some is->Rps m H l vs->vs=is.map V.int
 |[],is,vs,h,r=>by cases h;exact r
 |d::l,is,vs,h,⟨v,t,e,q1,q2⟩=>by
  cases d<;>simp only[a4E] at h<;>first|(cases h;done)|skip
  obtain⟨is',h1,rfl⟩:=Option.map_eq_some_iff.mp h;cases q1;rw[e,a4s h1 q2];rfl
theorem c1u(hc:X.calm=true)(hK:X.K=Γ.K):G5 X (.builtin "sum") (rBi Γ E .sum):=by
 rintro bC s σ H xs us Q I r ⟨ds,ah,m,S,rs,q⟩;obtain⟨d,x,rfl,rfl,r1,q⟩:=Y8 ∅ rs q;cases d<;>first|exact q.elim|skip
 obtain⟨ys,a,vs,rfl,h1,q1,q⟩:=Y9 ∅ S r1 q;unfold biL at q;simp only at q;split at q
 · rename_i is e2;rw[a4s e2 q1] at h1;exact b3F hc bC s σ H _ us Q I r ⟨a,is,rfl,by rw[hK];exact h1,q.ok S rfl⟩
 · exact q.elim
theorem c1z(hc:X.calm=true)(hK:X.K=Γ.K):G5 X (.builtin "any") (rBi Γ E .any):=by
 rintro bC s σ H xs us Q I r ⟨ds,ah,m,S,rs,q⟩;obtain⟨d,x,rfl,rfl,r1,q⟩:=Y8 ∅ rs q;cases d<;>first|exact q.elim|skip
 obtain⟨ys,a,vs,rfl,h1,q1,q⟩:=Y9 ∅ S r1 q;unfold biL at q;simp only at q;split at q
 · rename_i bs e2;rw[a5e e2 q1] at h1;exact b3G hc bC s σ H _ us Q I r ⟨a,bs,rfl,by rw[hK];exact h1,q.ok S rfl⟩
 · exact q.elim
theorem c1w(hc:X.calm=true):G5 X (.builtin "max") (rBi Γ E .max):=by
 rintro bC s σ H xs us Q I r ⟨ds,ah,m,S,rs,q⟩;cases ds with
 |nil=>exact q.elim
 | cons d l=>
  cases l with
  |nil=>
   obtain⟨x,rfl,r1⟩:=a6q rs;cases d<;>first|exact q.elim|skip
   obtain⟨_,_,_,_,_,_,q⟩:=Y9 ∅ S r1 q;exact q.elim
  |cons e l=>
   unfold biD at q;simp only at q;obtain⟨z,q⟩:=ifq q;obtain⟨-,rfl⟩:=z;obtain⟨x,y,rfl,r1,r2⟩:=b9Z rs;cases d<;>first|exact q.elim|skip
   cases e<;>first|exact q.elim|skip
   cases r1;cases r2;exact b0w hc bC s σ H _ us Q I r ⟨_,_,rfl,q.ok S rfl⟩
def rMt(Γ:Gm)(E:XK)(b:Mt):V->List V->Hp->VK->Prop:=λx xs H Q=>∃d ds ah m,Sim Γ ah m H/\Rp m H d x/\Rps m H ds xs/\i6 Γ E m H (mtD b ah d ds) Q
theorem b1Z:MtR X "list.append" (rMt Γ E .append):=by
 rintro bC s σ H x xs v us Q I rx r ⟨d,ds,ah,m,S,rd,rs,q⟩;unfold mtD at q;split at q<;>(try exact q.elim)
 · rename_i n e0;obtain⟨y,rfl,r1⟩:=a6q rs;split at q
   · rename_i l e;obtain⟨hl,q⟩:=ifq q;obtain⟨a,vs,rfl,hm,h1,q1⟩:=S.lst e rd;refine a4z bC s σ H _ _ v us Q I rx r ⟨a,vs,y,rfl,rfl,h1,by rw[q1.len,←S9];exact hl,?_⟩;have kp:Keep m m H (upd H a (.lst (vs++[y]))):=Keep.put hm h1 λz=>z;exact q m _ _ (Pre.refl m) kp (S.write hm h1 (λz=>z) ⟨_,g9,(q1.snoc r1).mono (Pre.refl m) kp⟩) rfl
   · contradiction
   · exact q.elim
theorem b1Y:MtR X "list.extend" (rMt Γ E .extend):=by
 rintro bC s σ H x xs v us Q I rx r ⟨d,ds,ah,m,S,rd,rs,q⟩;unfold mtD at q;split at q<;>(try exact q.elim)
 · rename_i n e0;obtain⟨y,rfl,r1⟩:=a6q rs;split at q
   · contradiction
   · rename_i l e;split at q
     · split at q
       · rename_i ys e2;obtain⟨hl,q⟩:=ifq q;obtain⟨a,vs,rfl,hm,h1,q1⟩:=S.lst e rd;obtain⟨b,ws,rfl,hm2,h2,q2⟩:=S.lst e2 r1;refine a9Y bC s σ H _ _ v us Q I rx r ⟨a,b,vs,ws,rfl,rfl,h1,h2,by rw[q1.len,q2.len,←S9];exact hl,?_⟩;have kp:Keep m m H (upd H a (.lst (vs++ws))):=Keep.put hm h1 λz=>z;exact q m _ _ (Pre.refl m) kp (S.write hm h1 (λz=>z) ⟨_,g9,(q1.app q2).mono (Pre.refl m) kp⟩) rfl
       · exact q.elim
     · exact q.elim
   · exact q.elim
theorem b5l:MtR X "str.split" (rMt Γ E .split):=by
 rintro bC s σ H x xs v us Q I rx r ⟨d,ds,ah,m,S,rd,rs,q⟩;unfold mtD at q;split at q<;>(try exact q.elim)
 · simp only at q;obtain⟨h,q⟩:=ifq q;obtain⟨y,rfl,r1⟩:=a6q rs;cases rd;cases r1;refine b1U bC s σ H _ _ v us Q I rx r ⟨_,_,rfl,rfl,h.1,by rw[←S9];exact h.2,λp hp=>q.newc S hp ⟨_,g9,Rps.strs⟩⟩
theorem b1X:MtR X "str.startswith" (rMt Γ E .starts):=by
 rintro bC s σ H x xs v us Q I rx r ⟨d,ds,ah,m,S,rd,rs,q⟩;unfold mtD at q;split at q<;>(try exact q.elim)
 · obtain⟨y,rfl,r1⟩:=a6q rs;cases rd;cases r1;exact a9X bC s σ H _ _ v us Q I rx r ⟨_,_,rfl,rfl,q.ok S rfl⟩
theorem b8a(hK:X.K=Γ.K):MtR X "str.join" (rMt Γ E .join):=by
 rintro bC s σ H x xs v us Q I rx r ⟨d,ds,ah,m,S,rd,rs,q⟩;unfold mtD at q;split at q<;>(try exact q.elim)
 · simp only at q;split at q
   · rename_i l e;split at q
     · rename_i ts e2;obtain⟨hj,q⟩:=ifq q;obtain⟨y,rfl,r1⟩:=a6q rs;obtain⟨a,vs,rfl,_,h1,q1⟩:=S.rdL e r1;rw[a6o e2 q1] at h1;cases rd;exact b5j bC s σ H _ _ v us Q I rx r ⟨_,a,ts,rfl,rfl,by rw[hK];exact h1,hj,q.ok S rfl⟩
     · exact q.elim
   · exact q.elim
theorem c2r(hu:X.A.units+8<cLine):b9v X (λo i v H Q=>∃d1 d2 d3 ah m,Sim Γ ah m H/\Rp m H d1 o/\Rp m H d2 i/\Rp m H d3 v/\j0 Γ E m H (a2u ah d1 d2 d3) (λ_ _ _ H'=>Q H')):=by
 rintro bC s σ H o i v ov iv u Q I ro ri rv ⟨d1,d2,d3,ah,m,S,r1,r2,r3,q⟩;unfold a2u at q;split at q
 · split at q
   · rename_i xs e;split at q
     · rename_i k;split at q
       · rename_i j e2;obtain⟨a,vs,rfl,hm,h1,q1⟩:=S.lst e r1;cases r2;refine b0Z bC s σ H _ _ _ ov iv u Q I ro ri rv ⟨a,vs,_,j,rfl,rfl,h1,by rw[q1.len];exact e2,?_⟩;have kp:Keep m m H (upd H a (.lst (vs.set j v))):=Keep.put hm h1 λz=>z;exact q m _ (Pre.refl m) kp (S.write hm h1 (λz=>z) ⟨_,g9,(q1.set j r3).mono (Pre.refl m) kp⟩)
       · exact q.elim
     · exact q.elim
   · rename_i bD e;split at q
     · rename_i h;obtain⟨a,rfl,hm⟩:=r1;cases (show ov=Value.ref a from ro);obtain⟨H',I',kp,S',hd⟩:=T5 I S e h.1 hm;have r3':=r3.mono (Pre.refl m) kp;rcases hd with⟨ks,gs,hk,ha,dk⟩|⟨l,ks,gs,rfl,hk,ha,dt⟩
       · have kp2:Keep m m H' (upd H' a (.dK (P9 gs ks v))):=Keep.put hm ha λz=>z;refine a4K (v:=v) (H':=upd H' a (.dK (P9 gs ks v))) (hu1 hu) I' (.inl ⟨gs,ks,ha,X4 hk r2,by rw[←Paired.length dk,←S9];exact h.2,rfl⟩) ri rv λs' fE=>⟨_,fE,?_⟩;exact q m _ (Pre.refl m) (kp.trans kp2) (S'.write hm ha (λz=>z) (.inl ⟨_,g9,(dk.put hk r3').mono (Pre.refl m) kp2.im⟩))
       · have kp2:Keep m m H' (upd H' a (.dT (P9 gs ks v))):=Keep.put hm ha λz=>z;obtain⟨b,vs,rfl,hb,rs⟩:=r2;have hv:=a3F hk rs;subst hv;refine a4K (v:=v) (H':=upd H' a (.dT (P9 gs ks v))) (hu1 hu) I' (.inr ⟨gs,ks,b,ha,rfl,kp.tup hb,by rw[←Paired.length dt,←S9];exact h.2,rfl⟩) ri rv λs' fE=>⟨_,fE,?_⟩;exact q m _ (Pre.refl m) (kp.trans kp2) (S'.write hm ha (λz=>z) (.inr ⟨_,g9,(dt.put hk r3').mono (Pre.refl m) kp2.im⟩))
     · exact q.elim
   · exact q.elim
 · exact q.elim
theorem Fl.put{f:Str}(r:Rp m H d v){fs:List (Str×D)}{gs:List (Str×V)}(h:Fl m H fs gs):Fl m H (a4v f d fs) (X0 f v gs):=by
 induction h with
 |nil=>exact .cons ⟨rfl,r⟩ .nil
 | @cons p q ps qs h t ih=>
  obtain⟨n,x⟩:=p;obtain⟨n',x'⟩:=q;have e:n=n':=h.1;subst e;unfold a4v X0;split
  · exact .cons ⟨rfl,r⟩ t
  · exact .cons h ih
theorem Fl.look{f:Str}{fs:List (Str×D)}{gs:List (Str×V)}(h:Fl m H fs gs)(e:fs.lookup f=some d):∃v,gs.lookup f=some v/\Rp m H d v:=by
 induction h with
 |nil=>cases e
 | @cons p q ps qs h t ih=>
  obtain⟨n,x⟩:=p;obtain⟨n',x'⟩:=q;have e1:n=n':=h.1;subst e1;rw[lookup_cons] at e⊢;cases z:f==n with
  |true=>rw[z] at e;cases e;exact⟨x',rfl,h.2⟩
  |false=>rw[z] at e;exact ih e
end
set_option genInjectivity false
mutual
inductive Pat where
  |nm (i:Nat)|tp (ps:Pats)
inductive Pats where
  |nil|cons (p:Pat) (r:Pats)
end
mutual
inductive E where
  |v (i:Nat)|k (d:D)|bin (o:B) (a b:E)|isN (a:E)|notN (a:E)|neg (a:E)|nt (a:E)|an (a b:E)|orr (a b:E)|chn (o p:B) (a b c:E)
  |ix (a b:E)|sl (a:E) (lo hi:O)|fld (a:E) (f:Str)|lst (es:Es)|tup (es:Es)|dnew|call (f:Nat) (es:Es)|mk (c:Nat) (es:Es)|bi (b:Bi) (es:Es)|mt (b:Mt) (o:E) (es:Es)
  |comp (p:Pat) (it:I) (n:Nat) (fr:List Nat) (t:T) (e:E)|gin (neg:Bool) (a:E) (ds:List D)|gdin (neg:Bool) (a:E) (bD:List (D×D))|gdix (a:E) (bD:List (D×D))|dlit (bD:List (D×D))|dget (a k x:E)
inductive Es where
  |nil|cons (e:E) (r:Es)
inductive T where
  |yes|val (e:E)|cmp (o:B) (a b:E)|isN (a:E)|notN (a:E)|chn (o p:B) (a b c:E)|an (a b:T)|orr (a b:T)|nt (a:T)
inductive O where
  |no|at(e:E)
inductive I where
  |seq (e:E)|rng1 (a:E)|rng2 (a b:E)|enum (e:E)|rev (e:E)|zip (a b:E)|zipn (a b:E)
end
mutual
inductive S where
  |set (i:Nat) (e:E)|ex (e:E)|ret (e:E)|iff (t:T) (a b:Ss)|for (p:Pat) (it:I) (b:Ss)|whl (t:T) (b:Ss)|pat (p:Pat) (e:E)|bad|six (a i v:E)|sfl (a:E) (f:Str) (v:E)
inductive Ss where
  |nil|cons (s:S) (r:Ss)
end
set_option genInjectivity true
abbrev Es.o(a:E):Es:=.cons a .nil
abbrev Ss.o(a:S):Ss:=.cons a .nil
abbrev E.i(n:Int):E:=.k (.int n)
abbrev E.s(x:Str):E:=.k (.str x)
inductive Out where
 |nx (env:u5)|rt (d:D)
abbrev CF:=Nat->List D->AH->R D
structure CT where
 init:Nat->Nat
mutual
def D9:Pat->D->u5->Option u5
  |.nm i,d,env=>some (env.set i (some d))
  | .tp ps,d,env=>match d with
    |.tup ds=>N3 ps ds env
    |_=>none
def N3:Pats->List D->u5->Option u5
  | .nil,ds,env=>match ds with
    |[]=>some env
    |_::_=>none
  | .cons p r,ds,env=>match ds with
    |[]=>none
    | d::t=>match D9 p d env with
      |some bG=>N3 r t bG
      |none=>none
end
def gOk(g:List (Nat×Cell))(h:AH):Bool:=g.all λp=>decide (h[p.1]? =some p.2)
def asB(r:R D):R Bool:=r.bind λd h=>match d with
 |.bl b=>.ok b h
 |_=>.no
noncomputable def E1(g:List (Nat×Cell))(p:Pat)(body:u5->AH->R Out):List D->u5->AH->R Out
 |[],env,h=>if gOk g h=true then .ok (.nx env) h else .no
 | x::r,env,h=>if gOk g h=true then(match D9 p x env with
  |none=>.no
  |some bG=>(body bG h).bind λo h'=>match o with
   |.nx env''=>E1 g p body r env'' h'
   |.rt d=>.ok (.rt d) h') else .no
noncomputable def P0(g:List (Nat×Cell))(p:Pat)(t:u5->AH->R Bool)(cK:u5->AH->R D)(env0:u5):List D->List D->AH->R (List D)
 |[],bP,h=>if gOk g h=true then .ok bP h else .no
 | x::r,bP,h=>if gOk g h=true then(match D9 p x env0 with
  |none=>.no
  |some env=>(t env h).bind λb h1=>if b=true then((cK env h1).bind λd h2=>if ↥bP<SL then P0 g p t cK env0 r (bP++[d]) h2 else .no)
   else P0 g p t cK env0 r bP h1) else .no
def a4T:Nat:=1000000
noncomputable def a4b(t:u5->AH->R Bool)(body:u5->AH->R Out):Nat->u5->AH->R Out
 |0,_,_=>.no
 |n+1,env,h=>(t env h).bind λb h1=>if b=true then((body env h1).bind λo h'=>match o with
  |.nx env''=>a4b t body n env'' h'
  |.rt d=>.ok (.rt d) h') else .ok (.nx env) h1
def t9:Nat->List D->List D
 |_,[]=>[]
 |n,x::r=>.tup [.int n,x]::t9 (n+1) r
def Y7(x:Str):List D:=x.cps.toList.map λc=>.str ⟨#[c]⟩
def a6u(lo:Int)(n:Nat):List D:=(List.range n).map λi=>.int (lo+(i:Nat))
abbrev Its:=List D×List (Nat×Cell)
def M4(h:AH):D->R Its
 |.str x=>.ok (Y7 x,[]) h
 |.tup l=>.ok (l,[]) h
 |.ref n=>match h[n]? with
  |some (.lst l)=>.ok (l,[(n,.lst l)]) h
  |some (.rol l)=>.ok (l,[(n,.rol l)]) h
  |_=>.no
 |_=>.no
def a4g(h:AH):D->D->R Its
 |.int i,.int j=>if a3i i=true/\a3i j=true then .ok (a6u i (j-i).toNat,[]) h else .no
 |_,_=>.no
def T4(h:AH):D->R Its
 |.ref n=>match h[n]? with
  |some (.lst l)=>.ok (t9 0 l,[(n,.lst l)]) h
  |some (.rol l)=>.ok (t9 0 l,[(n,.rol l)]) h
  |_=>.no
 |_=>.no
noncomputable def W3(h:AH)(n:Nat):Option (List D×Cell):=match h[n]? with
 |some (.lst l)=>some (l,.lst l)
 |some (.rol l)=>some (l,.rol l)
 |_=>none
def b1i(h:AH):D->R Its
 |.ref n=>(match W3 h n with
  |some a=>.ok (a.1.reverse,[(n,a.2)]) h
  |none=>.no)
 |_=>.no
def Q6:List D->List D->List D
 |x::xs,y::ys=>.tup [x,y]::Q6 xs ys
 |_,_=>[]
def a6a(h:AH):D->D->R Its
 |.ref i,.ref j=>match W3 h i,W3 h j with
  |some a,some b=>.ok (Q6 a.1 b.1,[(i,a.2),(j,b.2)]) h
  |_,_=>.no
 |_,_=>.no
def a9v(h:AH)(x y:D):R Its:=match x with
 | .tup l=>(match y with
  |.ref j=>(match W3 h j with
   |some b=>.ok (Q6 l b.1,[(j,b.2)]) h
   |none=>.no)
  |_=>.no)
 |x=>a6a h x y
def F9(n:Nat)(fr:List Nat)(env:u5):u5:=List.replicate n none++fr.map λj=>(env[j]?).join
def a8X(r:R D):R (Option Int):=r.bind λd h=>match d with
 |.int i=>.ok (some i) h
 |_=>.no
section
variable(ct:CT)(c:CF)
mutual
def ev:E->u5->AH->R D
  | .v i,env,h=>match env[i]? with
    |some (some d)=>.ok d h
    |_=>.no
  |.k d,_,h=>.ok d h
  |.bin o a b,env,h=>(ev a env h).bind λx h1=>(ev b env h1).bind λy h2=>op2 o h2 x y
  |.isN a,env,h=>(ev a env h).bind λx h1=>.ok (.bl (decide (x=.non))) h1
  |.notN a,env,h=>(ev a env h).bind λx h1=>.ok (.bl (!decide (x=.non))) h1
  | .neg a,env,h=>(ev a env h).bind λx h1=>match x with
    |.int i=>.ok (.int (-i)) h1
    |_=>.no
  |.nt a,env,h=>(asB (ev a env h)).bind λb h1=>.ok (.bl (!b)) h1
  |.an a b,env,h=>(asB (ev a env h)).bind λx h1=>if x=true then ev b env h1 else .ok (.bl false) h1
  |.orr a b,env,h=>(asB (ev a env h)).bind λx h1=>if x=true then .ok (.bl true) h1 else ev b env h1
  |.chn o p a b e,env,h=>(ev a env h).bind λx h1=>(ev b env h1).bind λy h2=>(asB (op2 o h2 x y)).bind λk h3=>if k=true then(ev e env h3).bind λz h4=>op2 p h4 y z else .ok (.bl false) h3
  |.ix a b,env,h=>(ev a env h).bind λx h1=>(ev b env h1).bind λy h2=>ixD h2 x y
  |.sl a lo hi,env,h=>(ev a env h).bind λx h1=>(evo lo env h1).bind λl h2=>(evo hi env h2).bind λu h3=>slD h3 l u x
  |.fld a f,env,h=>(ev a env h).bind λx h1=>X5 h1 f x
  |.lst es,env,h=>(evs es env h).bind λds h1=>if ↥ds<=SL then v8 (.lst ds) h1 else .no
  |.tup es,env,h=>(evs es env h).bind λds h1=>if ↥ds<=SL then .ok (.tup ds) h1 else .no
  |.dnew,_,h=>v8 (.dict []) h
  |.call f es,env,h=>(evs es env h).bind λds h1=>c f ds h1
  | .mk k es,env,h=>(evs es env h).bind λds h1=>(c (ct.init k) (.ref ↥h1::ds) (h1++[.obj k []])).bind λr h2=>match r with
    |.non=>.ok (.ref ↥h1) h2
    |_=>.no
  |.bi b es,env,h=>(evs es env h).bind λds h1=>biD b h1 ds
  |.mt b o es,env,h=>(ev o env h).bind λx h1=>if mtT b h1 x=true then(evs es env h1).bind λds h2=>mtD b h2 x ds else .no
  |.comp p it n fr t e,env,h=>(evi it env h).bind λx h1=>(P0 x.2 p (tst t) (ev e) (F9 n fr env) x.1 [] h1).bind λds h2=>v8 (.lst ds) h2
  |.gin neg a ds,env,h=>(ev a env h).bind λx h1=>if z8 x=true/\ds.all z8=true then .ok (.bl (inD x ds !=neg)) h1 else .no
  |.gdin neg a bD,env,h=>(ev a env h).bind λx h1=>if(K9 x).isSome=true then .ok (.bl ((n8 bD x).isSome !=neg)) h1 else .no
  | .gdix a bD,env,h=>(ev a env h).bind λx h1=>if(K9 x).isSome=true then(match n8 bD x with
    |some d=>.ok d h1
    |none=>.no) else .no
  |.dlit bD,_,h=>v8 (.dict bD) h
  |.dget a k x,env,h=>(ev a env h).bind λo h1=>if b2u h1 o=true then(ev k env h1).bind λy h2=>(ev x env h2).bind λz h3=>a7f h3 o y z else .no
def evs:Es->u5->AH->R (List D)
  |.nil,_,h=>.ok [] h
  |.cons e r,env,h=>(ev e env h).bind λd h1=>(evs r env h1).bind λds h2=>.ok (d::ds) h2
def tst:T->u5->AH->R Bool
  |.yes,_,h=>.ok true h
  |.val e,env,h=>asB (ev e env h)
  |.cmp o a b,env,h=>asB ((ev a env h).bind λx h1=>(ev b env h1).bind λy h2=>op2 o h2 x y)
  |.isN a,env,h=>(ev a env h).bind λx h1=>.ok (decide (x=.non)) h1
  |.notN a,env,h=>(ev a env h).bind λx h1=>.ok (!decide (x=.non)) h1
  |.chn o p a b e,env,h=>asB ((ev a env h).bind λx h1=>(ev b env h1).bind λy h2=>(asB (op2 o h2 x y)).bind λk h3=>if k=true then(ev e env h3).bind λz h4=>op2 p h4 y z else .ok (.bl false) h3)
  |.an a b,env,h=>(tst a env h).bind λx h1=>if x=true then tst b env h1 else .ok false h1
  |.orr a b,env,h=>(tst a env h).bind λx h1=>if x=true then .ok true h1 else tst b env h1
  |.nt a,env,h=>(tst a env h).bind λx h1=>.ok (!x) h1
def evo:O->u5->AH->R (Option Int)
  |.no,_,h=>.ok none h
  |.at e,env,h=>a8X (ev e env h)
def evi:I->u5->AH->R Its
  |.seq e,env,h=>(ev e env h).bind λd h1=>M4 h1 d
  |.rng1 a,env,h=>(ev a env h).bind λd h1=>a4g h1 (.int 0) d
  |.rng2 a b,env,h=>(ev a env h).bind λx h1=>(ev b env h1).bind λy h2=>a4g h2 x y
  |.enum e,env,h=>(ev e env h).bind λd h1=>T4 h1 d
  |.rev e,env,h=>(ev e env h).bind λd h1=>b1i h1 d
  |.zip a b,env,h=>(ev a env h).bind λx h1=>(ev b env h1).bind λy h2=>a9v h2 x y
  |.zipn a b,env,h=>(ev a env h).bind λx h1=>(ev b env h1).bind λy h2=>a6a h2 x y
end
mutual
def ex:S->u5->AH->R Out
  |.set i e,env,h=>(ev ct c e env h).bind λd h1=>.ok (.nx (env.set i (some d))) h1
  |.ex e,env,h=>(ev ct c e env h).bind λ_ h1=>.ok (.nx env) h1
  |.ret e,env,h=>(ev ct c e env h).bind λd h1=>.ok (.rt d) h1
  |.iff t a b,env,h=>(tst ct c t env h).bind λx h1=>if x=true then exs a env h1 else exs b env h1
  |.for p it b,env,h=>(evi ct c it env h).bind λx h1=>E1 x.2 p (exs b) x.1 env h1
  |.whl t b,env,h=>a4b (tst ct c t) (exs b) a4T env h
  | .pat p e,env,h=>(ev ct c e env h).bind λd h1=>match D9 p d env with
    |some bG=>.ok (.nx bG) h1
    |none=>.no
  |.bad,_,_=>.no
  |.six a i v,env,h=>(ev ct c v env h).bind λx h1=>(ev ct c a env h1).bind λo h2=>(ev ct c i env h2).bind λk h3=>(a2u h3 o k x).bind λ_ h4=>.ok (.nx env) h4
  |.sfl a f v,env,h=>(ev ct c v env h).bind λx h1=>(ev ct c a env h1).bind λo h2=>(a5d h2 o f x).bind λ_ h3=>.ok (.nx env) h3
def exs:Ss->u5->AH->R Out
  |.nil,env,h=>.ok (.nx env) h
  | .cons s r,env,h=>(ex s env h).bind λo h1=>match o with
    |.nx bG=>exs r bG h1
    |.rt d=>.ok (.rt d) h1
end
end
structure Fn where
 np:Nat
 ns:Nat
 gc:Nat
 body:Ss
def Cell.flat:Cell->Bool
 |.lst l=>D.flats l
 |.dict l=>l.all λp=>p.1.flat&&p.2.flat
 |_=>false
noncomputable def gcR (n:Nat) (h:AH):R D->R D
 | .ok d h'=>if n=0 then .ok d h' else if n=1 then(if h'.take ↥h=h/\d.flat=true then .ok d h else .no)
  else(match d with
   |.ref k=>(match h'[k]? with
    |some c=>if h'.take ↥h=h/\↥h<=k/\c.flat=true then .ok (.ref ↥h) (h++[c]) else .no
    |none=>.no)
   |_=>.no)
 |.no=>.no
def b4(ct:CT)(F:Nat->Option Fn):Nat->CF
 |0=>λ_ _ _=>.no
 | k+1=>λf ds h=>match F f with
  |none=>.no
  |some fd=>if ↥ds=fd.np then gcR fd.gc h (match exs ct (b4 ct F k) fd.body (ds.map some++List.replicate (fd.ns-fd.np) none) h with
   |.ok (.nx _) h'=>.ok .non h'
   |.ok (.rt d) h'=>.ok d h'
   |.no=>.no) else .no
structure GT where
 fn:List (Str×Nat×Nat)
 scal:List (Str×D)
 tups:List (Str×List D)
 dicts:List (Str×List (D×D))
 obj:List (Str×Nat)
 atts:List Str
 blt:List Str
noncomputable def c1B:Operator->Option B
 |.Add=>some .add|.Sub=>some .sub|.Mult=>some .mul|.FloorDiv=>some .div|.Mod=>some .mod|.Pow=>some .pow
 |_=>none
noncomputable def a8l:CmpOp->Option B
 |.Eq=>some .eq|.NotEq=>some .ne|.Lt=>some .lt|.LtE=>some .le|.Gt=>some .gt|.GtE=>some .ge|.In=>some .isin|.NotIn=>some .notin
 |_=>none
noncomputable def b2s(sc:Scope)(x:Str):Bool:=match sc.names.lookup x with
 |some .local=>true|some .cell=>true|some .free=>true
 |_=>false
noncomputable def Q1(sc:Scope)(x:Str):Bool:=decide (sc.names.lookup x=some .globalImplicit)&&decide (x≠"__debug__")&&decide (x≠"__name__")
def slot(N:List Str)(sc:Scope)(x:Str):Option Nat:=if b2s sc x&&decide (x≠"__debug__")&&decide (x≠"__classdict__") then N.idxOf? x else none
noncomputable def b2t(bS:Bool)(sc:Scope)(x:Str):Bool:=match sc.names.lookup x with
 |some .local=>true|some .cell=>bS
 |_=>false
def a3l(bS:Bool)(N:List Str)(sc:Scope)(x:Str):Option Nat:=if b2t bS sc x then N.idxOf? x else none
noncomputable def b8Z(x:Str):Option Bi:=if x="len" then some .len else if x="str" then some .str else if x="int" then some .int else if x="tuple" then some .tuple else if x="list" then some .list
 else if x="all" then some .all else if x="any" then some .any else if x="max" then some .max else if x="dict" then some .dict else if x="sum" then some .sum else none
noncomputable def b7Z(x:Str):Option Mt:=if x="append" then some .append else if x="extend" then some .extend else if x="split" then some .split else if x="join" then some .join else if x="startswith" then some .starts else none
def r8:Expr->Bool
 |.Starred _ _=>false
 |_=>true
def a0X:Expr->Bool
 |.Call (.Name _ _) [] [] _=>false
 |_=>true
def a2V:Expr->Bool
 |.Slice .. =>false
 |_=>true
def a1z:Expr->Bool
 |.Set .. =>false
 |_=>true
noncomputable def a8G(sc scope:Scope):Scope:={scope with names:=scope.names.map fun(n,k)=>if(k==NameKind.free&&sc.kind==.function&&sc.names.lookup n==some .cell) then(n,NameKind.cell) else(n,k)}
noncomputable def b7A:Expr->Bool
 |.Name .. =>true|.Call .. =>true|.Subscript .. =>true|.Attribute .. =>true
 |_=>false
mutual
def a8o (bS:Bool) (N:List Str) (sc:Scope):Nat->Expr->Option Pat
  |0,_=>none
  | n+1,e=>match e with
    |.Name x _=>(a3l bS N sc x).map .nm
    |.Tuple es _ _=>(a3T bS N sc n es).map .tp
    |_=>none
def a3T (bS:Bool) (N:List Str) (sc:Scope):Nat->List Expr->Option Pats
  |0,_=>none
  | n +1,es=>match es with
    |[]=>some .nil
    | e::r=>match a8o bS N sc n e,a3T bS N sc n r with
      |some p,some ps=>some (.cons p ps)
      |_,_=>none
end
mutual
def L8:Pat->List Nat
  |.nm i=>[i]
  |.tp ps=>a0E ps
def a0E:Pats->List Nat
  |.nil=>[]
  |.cons p r=>L8 p++a0E r
end
mutual
def w8:Nat->Expr->List Str
  |0,_=>[]
  | n+1,e=>match e with
    |.Name x _=>[x]
    |.Tuple es _ _=>a4x n es
    |_=>[]
def a4x:Nat->List Expr->List Str
  |0,_=>[]
  | n+1,es=>match es with
    |[]=>[]
    |e::r=>w8 n e++a4x n r
end
def F5(scope:Scope):List Str:=(scope.names.filter λy=>decide (y.2=.free)).map (·.1)
noncomputable def b5y(N:List Str):List Str->Option (List Nat)
 |[]=>some []
 |x::r=>match N.idxOf? x,b5y N r with
  |some i,some is=>some (i::is)
  |_,_=>none
structure Rec where
 E:List Str->Scope->Expr->Option E
 Es:List Str->Scope->List Expr->Option Es
 T:List Str->Scope->Expr->Option T
 O:List Str->Scope->Option Expr->Option O
 I:List Str->Scope->Expr->Expr->Option I
def b8o:Expr->Bool
 |.Constant k _ _=>(match k with
  |.none=>true
  |_=>false)
 |_=>false
def a7H:CmpOp->Option Bool
 |.Is=>some true
 |.IsNot=>some false
 |_=>none
noncomputable def b9R:Expr->Option (Option Expr×Option Expr)
 |.Slice lo hi st _=>(match st with
  |none=>some (lo,hi)
  |some _=>none)
 |_=>none
noncomputable def b9W:Const->Option E
 |.int i=>some (.k (.int i))
 |.str x=>some (.k (.str x))
 |.bool b=>some (.k (.bl b))
 |.none=>some (.k .non)
 |_=>none
noncomputable def sUn(G:GT)(r:Rec)(N:List Str)(sc:Scope)(a:Expr):UnaryOp->Option E
 |.USub=>(r.E N sc a).map .neg
 |.Not=>(r.E N sc a).map .nt
 |_=>none
noncomputable def sBo (G : GT) (r:Rec) (N:List Str) (sc:Scope) (p:Pos) (op:BoolOp):List Expr->Option E
 |[]=>none
 | a :: t => match t with
   |[]=>r.E N sc a
   | b::l=>match op with
     |.And=>(match r.E N sc a,r.E N sc (.BoolOp .And (b::l) p) with
             |some x,some y=>some (.an x y)
             |_,_=>none)
     |.Or=>(match r.E N sc a,r.E N sc (.BoolOp .Or (b::l) p) with
             |some x,some y=>some (.orr x y)
             |_,_=>none)
def b9Y (G:GT) (r:Rec) (N:List Str) (sc:Scope) (a:Expr) (op:CmpOp) (b:Expr):Option E:=
 if b8o b&&(a7H op).isSome then(match a7H op with
  |some true=>(r.E N sc a).map .isN
  |_=>(r.E N sc a).map .notN) else
 if a1z b then(match a8l op,r.E N sc a,r.E N sc b with
  |some o,some x,some y=>some (.bin o x y)
  | some o,some x,none=>(match b with
   |.Name y _=>if Q1 sc y then(match op,G.tups.lookup y with
    |.In,some ds=>some (.gin false x ds)
    |.NotIn,some ds=>some (.gin true x ds)
    |.In,none=>(G.dicts.lookup y).map (.gdin false x)
    |.NotIn,none=>(G.dicts.lookup y).map (.gdin true x)
    |_,_=>none) else none
   |_=>none)
  |_,_,_=>none) else none
def b9X(G:GT)(r:Rec)(N:List Str)(sc:Scope)(a:Expr)(op op':CmpOp)(b d:Expr):Option E:=if a1z d then(match a8l op,a8l op',r.E N sc a,r.E N sc b,r.E N sc d with
 |some o,some p,some x,some y,some z=>some (.chn o p x y z)
 |_,_,_,_,_=>none) else none
def sSl (G:GT) (r:Rec) (N:List Str) (sc:Scope) (a b:Expr):Option E:=match b9R b with
 | some (lo,hi)=>(match r.E N sc a,r.O N sc lo,r.O N sc hi with
         |some x,some l,some u=>some (.sl x l u)
         |_,_,_=>none)
 |none=>if a2V b then(match r.E N sc a,r.E N sc b with
     |some x,some y=>some (.ix x y)
     | none,some y=>(match a with
       |.Name z _=>if Q1 sc z then(G.dicts.lookup z).map (.gdix y) else none
       |_=>none)
     |_,_=>none) else none
def b8R:Expr->Option Str
 |.Constant k _ _=>(match k with
  |.str x=>some x
  |_=>none)
 |_=>none
def b8S:Expr->Option Int
 |.Constant k _ _=>(match k with
  |.int i=>some i
  |_=>none)
 |_=>none
noncomputable def b0s:List (Option Expr)->List Expr->Option (List (D×D))
 |[],vs=>if vs.isEmpty then some [] else none
 | k::ks,vs=>(match vs with
  |[]=>none
  |v::r=>(match k.bind b8R,b8S v,b0s ks r with
   |some x,some i,some l=>some ((.str x,.int i)::l)
   |_,_,_=>none))
def a5p:List D->Bool
 |[]=>true
 |d::r=>!(r.any λe=>decide (e=d))&&a5p r
def b8O(bD:List (D×D)):Bool:=decide (↥bD<=15)&&a5p (bD.map (·.1))
noncomputable def b6V:List Expr->Option (Expr×Expr)
 |[]=>none
 |a::r=>(match r with
  |[]=>none
  |b::q=>if q.isEmpty then some (a,b) else none)
def sCn(G:GT)(r:Rec)(N:List Str)(sc:Scope)(x:Str)(as:List Expr):Option E:=if Q1 sc x then(match G.fn.lookup x with
 |some (f,np)=>if ↥as=np&&decide (as≠[]) then(r.Es N sc as).map (.call f) else none
 | none=>match G.obj.lookup x with
  |some k=>if as=[] then some (.mk k .nil) else none
  |none=>if G.blt.contains x then(match b8Z x with
   |some b=>if as≠[] then(r.Es N sc as).map (.bi b) else none
   |none=>none) else none) else none
def b9V(G:GT)(r:Rec)(N:List Str)(sc:Scope)(o:Expr)(as:List Expr):Option E:=match b6V as with
 |some (a,b)=>if r8 a&&r8 b then(match r.E N sc o,r.E N sc a,r.E N sc b with
  |some x,some y,some z=>some (.dget x y z)
  |_,_,_=>none) else none
 |none=>none
def sCa(G:GT)(r:Rec)(N:List Str)(sc:Scope)(o:Expr)(m:Str)(cu:Pos)(as:List Expr)(ca:Pos):Option E:=if a0X o&&(cu.endLine==ca.line)&&decide (m="get") then b9V G r N sc o as else if a0X o&&(cu.endLine==ca.line)&&decide (↥as<20)&&decide (as≠[]) then(match b7Z m,r.E N sc o,r.Es N sc as with
 |some b,some x,some xs=>some (.mt b x xs)
 |_,_,_=>none) else none
def sLc (G:GT) (r:Rec) (N:List Str) (sc:Scope) (cK tg iter:Expr) (ifs:List Expr) (scope:Scope):Option E:=match r.I N sc tg iter with
 | some it=>match b5y N (F5 scope) with
  | some js=>if b8T sc scope (w8 8 tg) (F5 scope)&&a1z iter then(match a8o false (w8 8 tg++F5 scope) (a8G sc scope) 8 tg,r.E (w8 8 tg++F5 scope) (a8G sc scope) cK with
   |some p,some x=>if(L8 p).all (λi=>decide (i<↥(w8 8 tg))) then(match ifs with
    |[]=>some (.comp p it ↥(w8 8 tg) js .yes x)
    |[t]=>(r.T (w8 8 tg++F5 scope) (a8G sc scope) t).map λz=>.comp p it ↥(w8 8 tg) js z x
    |_=>none) else none
   |_,_=>none) else none
  |none=>none
 |none=>none
def sE2(G:GT)(r:Rec)(N:List Str)(sc:Scope)(e:Expr):Option E:=match e with
 |.Subscript a b _=>sSl G r N sc a b
 |.Attribute a f _=>if a0X a&&G.atts.contains f then(r.E N sc a).map (.fld · f) else none
 |.List es _=>(r.Es N sc es).map .lst
 |.Tuple es _ _=>(r.Es N sc es).map .tup
 | .Dict ks vs _=>(match ks with
  |[]=>(match vs with
   |[]=>some .dnew
   |_::_=>none)
  |_::_=>(b0s ks vs).bind λbD=>if b8O bD then some (.dlit bD) else none)
 |.Call f as ks ca=>if ks.isEmpty then(match f with
  |.Name x _=>sCn G r N sc x as
  |.Attribute o m cu=>sCa G r N sc o m cu as ca
  |_=>none) else none
 |.ListComp cK gens scope _=>(match gens with
  |[]=>none
  |g::t=>if t.isEmpty&&decide (g.is_async=0) then sLc G r N sc cK g.target g.iter g.ifs scope else none)
 |_=>none
def sE (G:GT) (r:Rec) (N:List Str) (sc:Scope) (e:Expr):Option E:=match e with
 |.Constant k _ _=>b9W k
 |.Name x _=>match slot N sc x with
  |some i=>some (.v i)
  |none=>if Q1 sc x then(G.scal.lookup x).map .k else none
 |.BinOp a op b _=>match c1B op,r.E N sc a,r.E N sc b with
  |some o,some x,some y=>some (.bin o x y)
  |_,_,_=>none
 |.UnaryOp op a _=>sUn G r N sc a op
 |.BoolOp op l p=>sBo G r N sc p op l
 | .Compare a ops bs _=>(match ops with
  |[]=>none
  | op::t=>(match bs with
   |[]=>none
   | b::u=>(match t with
    |[]=>(match u with
     |[]=>b9Y G r N sc a op b
     |_::_=>none)
    |op'::t'=>(match u with
     |[]=>none
     |d::u'=>if t'.isEmpty&&u'.isEmpty then b9X G r N sc a op op' b d else none))))
 |e=>sE2 G r N sc e
noncomputable def sEs(G:GT)(r:Rec)(N:List Str)(sc:Scope)(es:List Expr):Option Es:=match es with
 |[]=>some .nil
 |e::l=>if r8 e then(match r.E N sc e,r.Es N sc l with
  |some x,some xs=>some (.cons x xs)
  |_,_=>none) else none
def sTd(G:GT)(r:Rec)(N:List Str)(sc:Scope)(e:Expr):Option T:=if b7A e then(r.E N sc e).map .val else none
def b9T (G:GT) (r:Rec) (N:List Str) (sc:Scope) (a:Expr) (op:CmpOp) (b:Expr):Option T:=
 if b8o b&&(a7H op).isSome then(match a7H op with
  |some true=>(r.E N sc a).map .isN
  |_=>(r.E N sc a).map .notN) else
 if a1z b then(match a8l op,r.E N sc a,r.E N sc b with
  |some o,some x,some y=>some (.cmp o x y)
  | some o,some x,none=>(match b with
   |.Name y _=>if Q1 sc y then(match op,G.tups.lookup y with
    |.In,some ds=>some (.val (.gin false x ds))
    |.NotIn,some ds=>some (.val (.gin true x ds))
    |.In,none=>(G.dicts.lookup y).map λbD=>.val (.gdin false x bD)
    |.NotIn,none=>(G.dicts.lookup y).map λbD=>.val (.gdin true x bD)
    |_,_=>none) else none
   |_=>none)
  |_,_,_=>none) else none
def b9S(G:GT)(r:Rec)(N:List Str)(sc:Scope)(a:Expr)(op op':CmpOp)(b d:Expr):Option T:=if a1z d then(match a8l op,a8l op',r.E N sc a,r.E N sc b,r.E N sc d with
 |some o,some p,some x,some y,some z=>some (.chn o p x y z)
 |_,_,_,_,_=>none) else none
def sT (G:GT) (r:Rec) (N:List Str) (sc:Scope) (e:Expr):Option T:=match e with
 |.UnaryOp op a p=>(match op with
  |.Not=>(r.T N sc a).map .nt
  |op=>sTd G r N sc (.UnaryOp op a p))
 | .BoolOp op l p=>(match l with
  |[]=>sTd G r N sc (.BoolOp op [] p)
  | a::t=>(match t with
   |[]=>r.T N sc a
   | b::l=>(match op with
    |.And=>(match r.T N sc a,r.T N sc (.BoolOp .And (b::l) p) with
     |some x,some y=>some (.an x y)
     |_,_=>none)
    |.Or=>(match r.T N sc a,r.T N sc (.BoolOp .Or (b::l) p) with
     |some x,some y=>some (.orr x y)
     |_,_=>none))))
 | .Compare a ops bs p=>(match ops with
  |[]=>none
  | op::t=>(match bs with
   |[]=>none
   | b::u=>(match t with
    |[]=>(match u with
     |[]=>b9T G r N sc a op b
     |_::_=>none)
    |op'::t'=>(match u with
     |[]=>none
     |d::u'=>if t'.isEmpty&&u'.isEmpty then b9S G r N sc a op op' b d else none))))
 |e=>sTd G r N sc e
noncomputable def sO(G:GT)(r:Rec)(N:List Str)(sc:Scope)(o:Option Expr):Option O:=match o with
 |none=>some .no
 |some e=>(r.E N sc e).map .at
def sI (G:GT) (r:Rec) (N:List Str) (sc:Scope) (tg e:Expr):Option I:=match e with
 | .Call (.Name x p) as [] q=>if Q1 sc x&&G.blt.contains x&&decide (x="range") then(match as with
  |[a]=>if r8 a then(r.E N sc a).map .rng1 else none
  |[a,b]=>if r8 a&&r8 b then(match r.E N sc a,r.E N sc b with
   |some u,some v=>some (.rng2 u v)
   |_,_=>none) else none
  |_=>none)
  else if Q1 sc x&&G.blt.contains x&&decide (x="enumerate") then(match as,tg with
   |[a],.Tuple _ _ _=>if r8 a then(r.E N sc a).map .enum else none
   |_,_=>none)
  else if Q1 sc x&&G.blt.contains x&&decide (x="zip") then(match as,tg with
   |[a,b],.Tuple _ _ _=>if r8 a&&r8 b then(match r.E N sc a,r.E N sc b with
    |some u,some v=>some (.zip u v)
    |_,_=>none) else none
   |[a,b],.Name _ _=>if r8 a&&r8 b then(match r.E N sc a,r.E N sc b with
    |some u,some v=>some (.zipn u v)
    |_,_=>none) else none
   |_,_=>none)
  else if Q1 sc x&&G.blt.contains x&&decide (x="reversed") then(match as with
   |[a]=>if r8 a then(r.E N sc a).map .rev else none
   |_=>none)
  else(r.E N sc (.Call (.Name x p) as [] q)).map .seq
 |e=>(r.E N sc e).map .seq
def cR(G:GT):Nat->Rec
 |0=>⟨λ_ _ _=>none,λ_ _ _=>none,λ_ _ _=>none,λ_ _ _=>none,λ_ _ _ _=>none⟩
 |n+1=>⟨sE G (cR G n),sEs G (cR G n),sT G (cR G n),sO G (cR G n),sI G (cR G n)⟩
abbrev cE(G:GT)(N:List Str)(sc:Scope)(n:Nat)(e:Expr):Option E:=(cR G n).E N sc e
abbrev cEs(G:GT)(N:List Str)(sc:Scope)(n:Nat)(es:List Expr):Option Es:=(cR G n).Es N sc es
abbrev cT(G:GT)(N:List Str)(sc:Scope)(n:Nat)(e:Expr):Option T:=(cR G n).T N sc e
abbrev cO(G:GT)(N:List Str)(sc:Scope)(n:Nat)(o:Option Expr):Option O:=(cR G n).O N sc o
abbrev cI(G:GT)(N:List Str)(sc:Scope)(n:Nat)(tg e:Expr):Option I:=(cR G n).I N sc tg e
noncomputable def U8(e:Expr):Bool:=match e with
 |.ListComp .. =>false|.SetComp .. =>false|.DictComp .. =>false
 |_=>true
def c0A(e:Expr):Bool:=match e with
 |.ListComp .. =>true
 |_=>false
def b6E:Expr->Bool
 |.Subscript .. =>true
 |.Call .. =>true
 |_=>false
def sAs (G:GT) (N:List Str) (sc:Scope) (e:Expr):Expr->Option S
 | .Name x _=>(match a3l true N sc x,cE G N sc 40 e with
         |some i,some y=>if U8 e||c0A e then some (.set i y) else none
         |_,_=>none)
 |.Subscript a i _=>(match cE G N sc 40 a,cE G N sc 40 i,cE G N sc 40 e with
         |some x,some k,some y=>if U8 e&&a2V i then some (.six x k y) else none
         |_,_,_=>none)
 |.Attribute a f _=>(match cE G N sc 40 a,cE G N sc 40 e with
         |some x,some y=>if U8 e&&G.atts.contains f then some (.sfl x f y) else none
         |_,_=>none)
 |.Tuple es k q=>(match a8o true N sc 8 (.Tuple es k q),cE G N sc 40 e with
         |some p,some y=>if b6E e then some (.pat p y) else none
         |_,_=>none)
 |_=>none
def sS(G:GT)(N:List Str)(sc:Scope)(r:List Stmt->Option Ss)(s:Stmt):Option S:=match s with
 |.Assign tgs e _=>(match tgs with
  |[]=>none
  |t::u=>if u.isEmpty then sAs G N sc e t else none)
 |.Expr e _=>if U8 e then(cE G N sc 40 e).map .ex else none
 |.Return o _=>(match o with
  |some e=>(cE G N sc 40 e).map .ret
  |none=>none)
 |.If t a b _=>match cT G N sc 40 t,r a,r b with
  |some z,some x,some y=>some (.iff z x y)
  |_,_,_=>none
 |.For tg it b els _=>if els.isEmpty then(match a8o true N sc 8 tg,cI G N sc 40 tg it,r b with
  |some p,some i,some y=>if a1z it then some (.for p i y) else none
  |_,_,_=>none) else none
 |.While t b els _=>if els.isEmpty then(match cT G N sc 40 t,r b with
  |some z,some y=>some (.whl z y)
  |_,_=>none) else none
 |.Raise _ _ _=>some .bad
 |_=>none
def sSs(G:GT)(N:List Str)(sc:Scope)(r:List Stmt->Option Ss):List Stmt->Option Ss
 |[]=>some .nil
 |s::l=>match sS G N sc r s,sSs G N sc r l with
  |some x,some y=>some (.cons x y)
  |_,_=>none
def cSs(G:GT)(N:List Str)(sc:Scope):Nat->List Stmt->Option Ss
 |0=>λ_=>none
 |n+1=>sSs G N sc (cSs G N sc n)
variable{a:E}{e:E}{f:Nat}{neg:Bool}{p:Pat}{it:I}
section
variable{ct:CT}{c:CF}
theorem c0X{i:Nat}:ev ct c (.v i) env h=(match env[i]? with
 |some (some d)=>.ok d h
 |_=>.no):=rfl
theorem c2Q:ev ct c (.k d) env h=.ok d h:=rfl
theorem b3p{o:B}{b:E}:ev ct c (.bin o a b) env h=(ev ct c a env h).bind λx h1=>(ev ct c b env h1).bind λy h2=>op2 o h2 x y:=rfl
theorem b8H:ev ct c (.isN a) env h=(ev ct c a env h).bind λx h1=>.ok (.bl (decide (x=.non))) h1:=rfl
theorem b5P:ev ct c (.notN a) env h=(ev ct c a env h).bind λx h1=>.ok (.bl (!decide (x=.non))) h1:=rfl
theorem b8G:ev ct c (.neg a) env h=(ev ct c a env h).bind λx h1=>match x with
 |.int i=>.ok (.int (-i)) h1
 |_=>.no:=rfl
theorem c0Z:ev ct c (.nt a) env h=(asB (ev ct c a env h)).bind λb h1=>.ok (.bl (!b)) h1:=rfl
theorem c1d{b:E}:ev ct c (.an a b) env h=(asB (ev ct c a env h)).bind λx h1=>if x=true then ev ct c b env h1 else .ok (.bl false) h1:=rfl
theorem b8F{b:E}:ev ct c (.orr a b) env h=(asB (ev ct c a env h)).bind λx h1=>if x=true then .ok (.bl true) h1 else ev ct c b env h1:=rfl
theorem b8K{o p:B}{b:E}:ev ct c (.chn o p a b e) env h=(ev ct c a env h).bind λx h1=>(ev ct c b env h1).bind λy h2=>(asB (op2 o h2 x y)).bind λk h3=>if k=true then(ev ct c e env h3).bind λz h4=>op2 p h4 y z else .ok (.bl false) h3:=rfl
theorem c1b{b:E}:ev ct c (.ix a b) env h=(ev ct c a env h).bind λx h1=>(ev ct c b env h1).bind λy h2=>ixD h2 x y:=rfl
theorem c0Y{lo hi:O}:ev ct c (.sl a lo hi) env h=(ev ct c a env h).bind λx h1=>(evo ct c lo env h1).bind λl h2=>(evo ct c hi env h2).bind λu h3=>slD h3 l u x:=rfl
theorem b8J{f:Str}:ev ct c (.fld a f) env h=(ev ct c a env h).bind λx h1=>X5 h1 f x:=rfl
theorem b3o{es:Es}:ev ct c (.lst es) env h=(evs ct c es env h).bind λds h1=>if ↥ds<=SL then v8 (.lst ds) h1 else .no:=rfl
theorem b8E{es:Es}:ev ct c (.tup es) env h=(evs ct c es env h).bind λds h1=>if ↥ds<=SL then .ok (.tup ds) h1 else .no:=rfl
theorem b5S:ev ct c .dnew env h=v8 (.dict []) h:=rfl
theorem b5V{es:Es}:ev ct c (.call f es) env h=(evs ct c es env h).bind λds h1=>c f ds h1:=rfl
theorem b6J{k:Nat}{es:Es}:ev ct c (.mk k es) env h=(evs ct c es env h).bind λds h1=>(c (ct.init k) (.ref ↥h1::ds) (h1++[.obj k []])).bind λr h2=>match r with
 |.non=>.ok (.ref ↥h1) h2
 |_=>.no:=rfl
theorem c1c{b:Bi}{es:Es}:ev ct c (.bi b es) env h=(evs ct c es env h).bind λds h1=>biD b h1 ds:=rfl
theorem c1a{b:Mt}{o:E}{es:Es}:ev ct c (.mt b o es) env h=(ev ct c o env h).bind λx h1=>if mtT b h1 x=true then(evs ct c es env h1).bind λds h2=>mtD b h2 x ds else .no:=rfl
theorem b8I:ev ct c (.gin neg a ds) env h=(ev ct c a env h).bind λx h1=>if z8 x=true/\ds.all z8=true then .ok (.bl (inD x ds !=neg)) h1 else .no:=rfl
theorem b5R:ev ct c (.gdin neg a bD) env h=(ev ct c a env h).bind λx h1=>if(K9 x).isSome=true then .ok (.bl ((n8 bD x).isSome !=neg)) h1 else .no:=rfl
theorem b5Q:ev ct c (.gdix a bD) env h=(ev ct c a env h).bind λx h1=>if(K9 x).isSome=true then(match n8 bD x with
 |some d=>.ok d h1
 |none=>.no) else .no:=rfl
theorem b5T:ev ct c (.dlit bD) env h=v8 (.dict bD) h:=rfl
theorem b5U{k x:E}:ev ct c (.dget a k x) env h=(ev ct c a env h).bind λo h1=>if b2u h1 o=true then(ev ct c k env h1).bind λy h2=>(ev ct c x env h2).bind λz h3=>a7f h3 o y z else .no:=rfl
theorem a9f:evs ct c .nil env h=.ok [] h:=rfl
theorem b3j{r:Es}:evs ct c (.cons e r) env h=(ev ct c e env h).bind λd h1=>(evs ct c r env h1).bind λds h2=>.ok (d::ds) h2:=rfl
theorem a4U:tst ct c .yes env h=.ok true h:=rfl
theorem b4d:tst ct c (.val e) env h=asB (ev ct c e env h):=rfl
theorem b4g{o:B}{b:E}:tst ct c (.cmp o a b) env h=asB ((ev ct c a env h).bind λx h1=>(ev ct c b env h1).bind λy h2=>op2 o h2 x y):=rfl
theorem b4f:tst ct c (.isN a) env h=(ev ct c a env h).bind λx h1=>.ok (decide (x=.non)) h1:=rfl
theorem b0J:tst ct c (.notN a) env h=(ev ct c a env h).bind λx h1=>.ok (!decide (x=.non)) h1:=rfl
theorem b4h{o p:B}{b:E}:tst ct c (.chn o p a b e) env h=asB ((ev ct c a env h).bind λx h1=>(ev ct c b env h1).bind λy h2=>(asB (op2 o h2 x y)).bind λk h3=>if k=true then(ev ct c e env h3).bind λz h4=>op2 p h4 y z else .ok (.bl false) h3):=rfl
theorem b6X{a b:T}:tst ct c (.an a b) env h=(tst ct c a env h).bind λx h1=>if x=true then tst ct c b env h1 else .ok false h1:=rfl
theorem b4e{a b:T}:tst ct c (.orr a b) env h=(tst ct c a env h).bind λx h1=>if x=true then .ok true h1 else tst ct c b env h1:=rfl
theorem b6W{a:T}:tst ct c (.nt a) env h=(tst ct c a env h).bind λx h1=>.ok (!x) h1:=rfl
theorem b8D:evo ct c .no env h=.ok none h:=rfl
theorem b3k:evo ct c (.at e) env h=a8X (ev ct c e env h):=rfl
theorem a2X:evi ct c (.seq e) env h=(ev ct c e env h).bind λd h1=>M4 h1 d:=rfl
theorem a6Y:evi ct c (.rng1 a) env h=(ev ct c a env h).bind λd h1=>a4g h1 (.int 0) d:=rfl
theorem b3n{b:E}:evi ct c (.rng2 a b) env h=(ev ct c a env h).bind λx h1=>(ev ct c b env h1).bind λy h2=>a4g h2 x y:=rfl
theorem a6Z:evi ct c (.enum e) env h=(ev ct c e env h).bind λd h1=>T4 h1 d:=rfl
theorem a9g:evi ct c (.rev e) env h=(ev ct c e env h).bind λd h1=>b1i h1 d:=rfl
theorem b5O{b:E}:evi ct c (.zip a b) env h=(ev ct c a env h).bind λx h1=>(ev ct c b env h1).bind λy h2=>a9v h2 x y:=rfl
theorem b3m{b:E}:evi ct c (.zipn a b) env h=(ev ct c a env h).bind λx h1=>(ev ct c b env h1).bind λy h2=>a6a h2 x y:=rfl
theorem a2o{i:Nat}:ex ct c (.set i e) env h=(ev ct c e env h).bind λd h1=>.ok (.nx (env.set i (some d))) h1:=rfl
theorem c0V:ex ct c (.ex e) env h=(ev ct c e env h).bind λ_ h1=>.ok (.nx env) h1:=rfl
theorem a0r:ex ct c (.ret e) env h=(ev ct c e env h).bind λd h1=>.ok (.rt d) h1:=rfl
theorem b8C{t:T}{a b:Ss}:ex ct c (.iff t a b) env h=(tst ct c t env h).bind λx h1=>if x=true then exs ct c a env h1 else exs ct c b env h1:=rfl
theorem a5K{b:Ss}:ex ct c (.for p it b) env h=(evi ct c it env h).bind λx h1=>E1 x.2 p (exs ct c b) x.1 env h1:=rfl
theorem b3i{t:T}{b:Ss}:ex ct c (.whl t b) env h=a4b (tst ct c t) (exs ct c b) a4T env h:=rfl
theorem b8B:ex ct c (.pat p e) env h=(ev ct c e env h).bind λd h1=>match D9 p d env with
 |some bG=>.ok (.nx bG) h1
 |none=>.no:=rfl
theorem b8z{i v:E}:ex ct c (.six a i v) env h=(ev ct c v env h).bind λx h1=>(ev ct c a env h1).bind λo h2=>(ev ct c i env h2).bind λk h3=>(a2u h3 o k x).bind λ_ h4=>.ok (.nx env) h4:=rfl
theorem b8A{v:E}{f:Str}:ex ct c (.sfl a f v) env h=(ev ct c v env h).bind λx h1=>(ev ct c a env h1).bind λo h2=>(a5d h2 o f x).bind λ_ h3=>.ok (.nx env) h3:=rfl
theorem a5J:exs ct c .nil env h=.ok (.nx env) h:=rfl
theorem J3{s:S}{r:Ss}:exs ct c (.cons s r) env h=(ex ct c s env h).bind λo h1=>match o with
 |.nx bG=>exs ct c r bG h1
 |.rt d=>.ok (.rt d) h1:=rfl
end
def TEv(Γ:Gm)(E:XK)(f:u5->AH->R D):TE:=λσ H Q=>∃env ah m,Rel Γ env ah σ H m/\i6 Γ E m H (f env ah) Q
noncomputable def TAv(Γ:Gm)(E:XK)(f:u5->AH->R (List D)):TA:=λσ H Q=>∃env ah m,Rel Γ env ah σ H m/\j0 Γ E m H (f env ah) (λds _ m1 H1=>∀vs,Rps m1 H1 ds vs->Q vs H1)
noncomputable def TTv(Γ:Gm)(E:XK)(f:u5->AH->R Bool):TT:=λσ H Q=>∃env ah m,Rel Γ env ah σ H m/\j0 Γ E m H (f env ah) (λb _ _ H1=>Q b H1)
noncomputable def TOv(Γ:Gm)(E:XK)(f:u5->AH->R (Option Int)):TO:=λσ H Q=>∃env ah m,Rel Γ env ah σ H m/\j0 Γ E m H (f env ah) (λb _ _ H1=>Q b H1)
variable{t':TE}{es:List Expr}{st:Stmt}{Q':VK}{x:Str}
section
variable{X:Cx}{E:XK}{e a b d:Expr}{pos:Pos}
theorem PE.imp{t:TE}(h:PE X e t)(i:∀σ H Q,t' σ H Q->t σ H Q):PE X e t':=λbC s σ H Q I q=>h bC s σ H Q I (i _ _ _ q)
theorem PT.imp{t t':TT}(h:PT X e t)(i:∀σ H Q,t' σ H Q->t σ H Q):PT X e t':=λbC s σ H Q I q=>h bC s σ H Q I (i _ _ _ q)
theorem PW.imp{t t':TT}(h:PW X e t)(i:∀σ H Q,t' σ H Q->t σ H Q):PW X e t':=λw bC s σ H Q I q=>h w bC s σ H Q I (i _ _ _ q)
theorem PA.imp{t t':TA}(h:PA X es t)(i:∀σ H Q,t' σ H Q->t σ H Q):PA X es t':=λp bC s σ H Q I q=>h p bC s σ H Q I (i _ _ _ q)
theorem PO.imp{e:Option Expr}{t t':TO}(h:PO X e t)(i:∀σ H Q,t' σ H Q->t σ H Q):PO X e t':=λbC s σ H Q I q=>h bC s σ H Q I (i _ _ _ q)
theorem PS.imp{t t':TS}(h:PS X st t)(i:∀D σ H,t' D σ H->t D σ H):PS X st t':=λbC s σ H D I q=>h bC s σ H D I (i _ _ _ q)
theorem PSs.imp{st:List Stmt}{t t':TS}(h:PSs X st t)(i:∀D σ H,t' D σ H->t D σ H):PSs X st t':=λbC s σ H D I q=>h bC s σ H D I (i _ _ _ q)
theorem Rel.on{bL:AH}(r:Rel Γ env ah σ H m)(p:Pre m m1)(k:Keep m m1 H H1)(s:Sim Γ bL m1 H1):Rel Γ env bL σ H1 m1:=⟨s,r.env.mono p k⟩
theorem i6.first{f:D->AH->R D}(rl:Rel Γ env ah σ H m)(h:i6 Γ E m H (r.bind f) Q)
 (k:∀d bL m1 H1 v,Pre m m1->Keep m m1 H H1->Rel Γ env bL σ H1 m1->Rp m1 H1 d v->i6 Γ E m1 H1 (f d bL) Q->Q' v H1):i6 Γ E m H r Q':=
 h.bind.val λd bL m1 H1 v p kp s r q=>k d bL m1 H1 v p kp (rl.on p kp s) r q
theorem j0.first{f:D->AH->R β}{P:β->AH->List Addr->Hp->Prop}(rl:Rel Γ env ah σ H m)(h:j0 Γ E m H (r.bind f) P)
 (k:∀d bL m1 H1 v,Pre m m1->Keep m m1 H H1->Rel Γ env bL σ H1 m1->Rp m1 H1 d v->j0 Γ E m1 H1 (f d bL) P->Q' v H1):i6 Γ E m H r Q':=
 h.bind.val λd bL m1 H1 v p kp s r q=>k d bL m1 H1 v p kp (rl.on p kp s) r q
theorem j0.mp{r:R α}{P P':α->AH->List Addr->Hp->Prop}(h:j0 Γ E m H r P)(k:∀a bL m1 H1,Pre m m1->Keep m m1 H H1->Sim Γ bL m1 H1->P a bL m1 H1->P' a bL m1 H1):j0 Γ E m H r P':=by
 cases r with
 |ok d ah=>exact λm2 H2 p2 k2 s2=>k d ah m2 H2 p2 k2 s2 (h m2 H2 p2 k2 s2)
 |no=>exact h
theorem i6.mp(h:i6 Γ E m H r Q)(k:∀v H',Q v H'->Q' v H'):i6 Γ E m H r Q':=by
 cases r with
 |ok d ah=>exact λm2 H2 v p2 k2 s2 r2=>k v H2 (h m2 H2 v p2 k2 s2 r2)
 |no=>exact h
theorem j0.ok{a:α}{P:α->AH->List Addr->Hp->Prop}(h:j0 Γ E m H (.ok a ah) P)(s:Sim Γ ah m H):P a ah m H:=h m H (Pre.refl m) (Keep.refl m H) s
theorem j0.bool{P:Bool->AH->List Addr->Hp->Prop}(h:j0 Γ E m H (asB r) P):i6 Γ E m H r (λx H1=>∃k,x=.bl k/\∃bL m1,Pre m m1/\Keep m m1 H H1/\Sim Γ bL m1 H1/\P k bL m1 H1):=by
 unfold asB at h;refine h.bind.val λd bL m1 H1 v p kp s r q=>?_;cases d<;>first|exact q.elim|skip
 rename_i k;exact⟨k,r,bL,m1,p,kp,s,q.ok s⟩
theorem a_v{i:Nat}(hN:X.N[i]? =some x)(hv:Vis X.env.scope x)(hd:(x==("__debug__":Str))=false)(eZ:(x==("__classdict__":Str))=false)(c:CF)(ct:CT):PE X (.Name x pos) (TEv Γ E (ev ct c (.v i))):=by
 refine PE.imp (b7H hN hv hd eZ) ?_;rintro σ H Q ⟨env,ah,m,rl,q⟩;rw[c0X] at q;split at q
 · rename_i d e;obtain⟨v,h1,h2⟩:=rl.env.val i d e;exact⟨v,h1,q.ok rl.sim h2⟩
 · exact q.elim
theorem a_k{dd:D}(h:PE X e (tC v))(hr:∀m H,Rp m H dd v)(c:CF)(ct:CT):PE X e (TEv Γ E (ev ct c (.k dd))):=by refine PE.imp h ?_;rintro σ H Q ⟨env,ah,m,rl,q⟩;exact q.ok rl.sim (hr m H)
end
variable{op':CmpOp}
section
variable{X:Cx}{Ex:XK}{e a b d:Expr}{pos:Pos}{ct:CT}{c:CF}{x y z:E}
theorem two{r:R2}{g:AH->D->D->R D}(ha:PE X a (TEv Γ Ex (ev ct c x)))(hb:PE X b (TEv Γ Ex (ev ct c y))):∀σ H Q,TEv Γ Ex (λenv h=>(ev ct c x env h).bind λu h1=>(ev ct c y env h1).bind λv h2=>g h2 u v) σ H Q→
 tOp (rOf Γ Ex g) (TEv Γ Ex (ev ct c x)) (TEv Γ Ex (ev ct c y)) σ H Q:=by
 rintro σ H Q ⟨env,ah,m,rl,q⟩;refine⟨env,ah,m,rl,i6.first rl q λd1 bL m1 H1 v1 p1 k1 bM r1 q1=>?_⟩;refine⟨env,bL,m1,bM,i6.first bM q1 λd2 ck m2 H2 v2 p2 k2 cw r2 q2=>?_⟩;exact⟨d1,d2,ck,m2,cw.sim,r1.mono p2 k2,r2,q2⟩
theorem c2b{o:B}{op:Operator}(h:o.bin=some op)(ha:PE X a (TEv Γ Ex (ev ct c x)))(hb:PE X b (TEv Γ Ex (ev ct c y))):PE X (.BinOp a op b pos) (TEv Γ Ex (ev ct c (.bin o x y))):=by
 refine PE.imp (c0i (c1l (Γ:=Γ) (E:=Ex) h) ha hb) λσ H Q q=>two (r:=rOf Γ Ex (op2 o)) ha hb σ H Q ?_
 simpa only[TEv,ev] using q
theorem c1Z{o:B}(hu:X.A.units+8<cLine)(hK:X.K=Γ.K)(h:o.cmp=some op)(ha:PE X a (TEv Γ Ex (ev ct c x)))(hb:PE X b (TEv Γ Ex (ev ct c y)))(hm:behindInMarks op b=false):PE X (.Compare a [op] [b] pos) (TEv Γ Ex (ev ct c (.bin o x y))):=by
 refine PE.imp (a5k (a2p (Γ:=Γ) (E:=Ex) hu hK h) ha hb hm) λσ H Q q=>two (r:=rOf Γ Ex (op2 o)) ha hb σ H Q ?_
 simpa only[TEv,ev] using q
theorem a2N{f:u5->AH->R D}{t:TE}(h:∀σ H Q,TEv Γ Ex f σ H Q->t σ H Q):∀σ H Q,TTv Γ Ex (λenv h=>asB (f env h)) σ H Q->b0S t σ H Q:=by rintro σ H Q ⟨env,ah,m,rl,q⟩;exact h σ H _ ⟨env,ah,m,rl,q.bool.mp λv H1 ⟨k,e,_,_,_,_,_,w⟩=>⟨k,e,w⟩⟩
theorem b9r{o:B}(hu:X.A.units+8<cLine)(hK:X.K=Γ.K)(h:o.cmp=some op)(ha:PE X a (TEv Γ Ex (ev ct c x)))(hb:PE X b (TEv Γ Ex (ev ct c y)))(hm:behindInMarks op b=false):PT X (.Compare a [op] [b] pos) (TTv Γ Ex (tst ct c (.cmp o x y))):=by
 refine PT.imp (a5j (a2p (Γ:=Γ) (E:=Ex) hu hK h) ha hb hm) λσ H Q q=>a2N (two (r:=rOf Γ Ex (op2 o)) ha hb) σ H Q ?_
 simpa only[TTv,tst] using q
theorem a5g{d:D}(r:Rp m H d v):decide (v=.non)=decide (d=.non):=by
 cases d with
 |non=>cases r;rfl
 |bl _=>cases r;rfl
 |int _=>cases r;rfl
 |str _=>cases r;rfl
 |tup _=>obtain⟨_,_,rfl,_⟩:=r;rfl
 |ref _=>obtain⟨_,rfl,_⟩:=r;rfl
theorem c1X{j p'}(ha:PE X a (TEv Γ Ex (ev ct c x))):PE X (.Compare a [.Is] [.Constant .none j p'] pos) (TEv Γ Ex (ev ct c (.isN x))):=by refine PE.imp (b1G (b1I ha)) ?_;rintro σ H Q ⟨env,ah,m,rl,q⟩;refine⟨env,ah,m,rl,i6.first rl q λd1 bL m1 H1 v1 p1 k1 bM r1 q1=>?_⟩;rw[a5g r1];exact q1.ok bM.sim rfl
theorem b9i{j p'}(ha:PE X a (TEv Γ Ex (ev ct c x))):PE X (.Compare a [.IsNot] [.Constant .none j p'] pos) (TEv Γ Ex (ev ct c (.notN x))):=by refine PE.imp (b1G (a8H ha)) ?_;rintro σ H Q ⟨env,ah,m,rl,q⟩;refine⟨env,ah,m,rl,i6.first rl q λd1 bL m1 H1 v1 p1 k1 bM r1 q1=>?_⟩;rw[a5g r1];exact q1.ok bM.sim rfl
theorem b9j{j p'}(ha:PE X a (TEv Γ Ex (ev ct c x))):PT X (.Compare a [.Is] [.Constant .none j p'] pos) (TTv Γ Ex (tst ct c (.isN x))):=by refine PT.imp (b1n (b1I ha)) ?_;rintro σ H Q ⟨env,ah,m,rl,q⟩;refine⟨env,ah,m,rl,j0.first rl q λd1 bL m1 H1 v1 p1 k1 bM r1 q1=>?_⟩;rw[a5g r1];exact⟨_,rfl,q1.ok bM.sim⟩
theorem b6x{j p'}(ha:PE X a (TEv Γ Ex (ev ct c x))):PT X (.Compare a [.IsNot] [.Constant .none j p'] pos) (TTv Γ Ex (tst ct c (.notN x))):=by refine PT.imp (b1n (a8H ha)) ?_;rintro σ H Q ⟨env,ah,m,rl,q⟩;refine⟨env,ah,m,rl,j0.first rl q λd1 bL m1 H1 v1 p1 k1 bM r1 q1=>?_⟩;rw[a5g r1];exact⟨_,rfl,q1.ok bM.sim⟩
theorem c1V(ha:PE X a (TEv Γ Ex (ev ct c x))):PE X (.UnaryOp .USub a pos) (TEv Γ Ex (ev ct c (.neg x))):=by
 refine PE.imp (c0g b6S ha) ?_;rintro σ H Q ⟨env,ah,m,rl,q⟩;refine⟨env,ah,m,rl,i6.first rl q λd1 bL m1 H1 v1 p1 k1 bM r1 q1=>?_⟩;cases d1<;>first|exact q1.elim|skip
 cases r1;exact⟨_,rfl,q1.ok bM.sim rfl⟩
theorem i6.firstB{f:Bool->AH->R D}(rl:Rel Γ env ah σ H m)(h:i6 Γ Ex m H ((asB r).bind f) Q)
 (k:∀b bL m1 H1,Pre m m1->Keep m m1 H H1->Rel Γ env bL σ H1 m1->i6 Γ Ex m1 H1 (f b bL) Q->Q' (.bl b) H1):i6 Γ Ex m H r Q':=by
 refine h.bind.bool.mp λv H1 hh=>?_;obtain⟨b,rfl,ck,m2,p2,k2,s2,w⟩:=hh;exact k b ck m2 H1 p2 k2 (rl.on p2 k2 s2) w
theorem c3d(ha:PE X a (TEv Γ Ex (ev ct c x))):PE X (.UnaryOp .Not a pos) (TEv Γ Ex (ev ct c (.nt x))):=by refine PE.imp (b7K ha) ?_;rintro σ H Q ⟨env,ah,m,rl,q⟩;exact⟨env,ah,m,rl,i6.firstB rl q λb bL m1 H1 p1 k1 bM q1=>⟨b,rfl,q1.ok bM.sim rfl⟩⟩
theorem c3i{d9:List Expr}(ha:PE X a (TEv Γ Ex (ev ct c x)))(hb:PE X (.BoolOp .And (b::d9) pos) (TEv Γ Ex (ev ct c y))):PE X (.BoolOp .And (a::b::d9) pos) (TEv Γ Ex (ev ct c (.an x y))):=by
 refine PE.imp (b7O ha hb) ?_;rintro σ H Q ⟨env,ah,m,rl,q⟩;refine⟨env,ah,m,rl,i6.firstB rl q λk bL m1 H1 p1 k1 bM q1=>⟨k,rfl,?_⟩⟩;cases k with
 |true=>rw[ay rfl] at q1⊢;exact⟨env,bL,m1,bM,q1⟩
 |false=>rw[az ∅] at q1⊢;exact q1.ok bM.sim rfl
theorem c1R{d9:List Expr}(ha:PE X a (TEv Γ Ex (ev ct c x)))(hb:PE X (.BoolOp .Or (b::d9) pos) (TEv Γ Ex (ev ct c y))):PE X (.BoolOp .Or (a::b::d9) pos) (TEv Γ Ex (ev ct c (.orr x y))):=by
 refine PE.imp (c0h ha hb) ?_;rintro σ H Q ⟨env,ah,m,rl,q⟩;refine⟨env,ah,m,rl,i6.firstB rl q λk bL m1 H1 p1 k1 bM q1=>⟨k,rfl,?_⟩⟩;cases k with
 |true=>rw[ay rfl] at q1⊢;exact q1.ok bM.sim rfl
 |false=>rw[az ∅] at q1⊢;exact⟨env,bL,m1,bM,q1⟩
variable{t u:T}{v:List Expr}
theorem c1N(he:∀da,isTrue e X.env da=(do let v←da;standAt e.pos;holding [v] (truthy v)))(ha:PE X e (TEv Γ Ex (ev ct c x))):PT X e (TTv Γ Ex (tst ct c (.val x))):=by refine PT.imp (b1l ha he) ?_;rintro σ H Q ⟨env,ah,m,rl,q⟩;refine⟨env,ah,m,rl,q.bool.mp λv H1 hh=>?_⟩;obtain⟨b,rfl,ck,m2,p2,k2,s2,w⟩:=hh;exact⟨b,rfl,w⟩
theorem TTv.next{r:R Bool}{f:Bool->AH->R Bool}{Q Q':Bool->Hp->Prop}(rl:Rel Γ env ah σ H m)(h:j0 Γ Ex m H (r.bind f) (λb _ _ H1=>Q b H1))
 (k:∀b bL m1 H1,Pre m m1->Keep m m1 H H1->Rel Γ env bL σ H1 m1->j0 Γ Ex m1 H1 (f b bL) (λb _ _ H1=>Q b H1)->Q' b H1):j0 Γ Ex m H r (λb _ _ H1=>Q' b H1):=
 h.bind.mp λb bL m1 H1 p1 k1 s1 q1=>k b bL m1 H1 p1 k1 (rl.on p1 k1 s1) q1
theorem c1T(ha:PT X a (TTv Γ Ex (tst ct c t))):PT X (.UnaryOp .Not a pos) (TTv Γ Ex (tst ct c (.nt t))):=by refine PT.imp (b7v ha) ?_;rintro σ H Q ⟨env,ah,m,rl,q⟩;exact⟨env,ah,m,rl,TTv.next rl q λb bL m1 H1 p1 k1 bM q1=>q1.ok bM.sim⟩
theorem c2d{d9:List Expr}(ha:PT X a (TTv Γ Ex (tst ct c t)))(hb:PW X (.BoolOp .And (b::d9) pos) (TTv Γ Ex (tst ct c u))):PW X (.BoolOp .And (a::b::d9) pos) (TTv Γ Ex (tst ct c (.an t u))):=by
 refine PW.imp (b7s ha hb) ?_;rintro σ H Q ⟨env,ah,m,rl,q⟩;refine⟨env,ah,m,rl,TTv.next rl q λk bL m1 H1 p1 k1 bM q1=>?_⟩;cases k with
 |true=>rw[ay rfl] at q1⊢;exact⟨env,bL,m1,bM,q1⟩
 |false=>rw[az ∅] at q1⊢;exact q1.ok bM.sim
theorem c1S{d9:List Expr}(ha:PT X a (TTv Γ Ex (tst ct c t)))(hb:PW X (.BoolOp .Or (b::d9) pos) (TTv Γ Ex (tst ct c u))):PW X (.BoolOp .Or (a::b::d9) pos) (TTv Γ Ex (tst ct c (.orr t u))):=by
 refine PW.imp (c0e ha hb) ?_;rintro σ H Q ⟨env,ah,m,rl,q⟩;refine⟨env,ah,m,rl,TTv.next rl q λk bL m1 H1 p1 k1 bM q1=>?_⟩;cases k with
 |true=>rw[ay rfl] at q1⊢;exact q1.ok bM.sim
 |false=>rw[az ∅] at q1⊢;exact⟨env,bL,m1,bM,q1⟩
theorem b6M{o p:B}{op op':CmpOp}(ha:PE X a (TEv Γ Ex (ev ct c x))):∀σ H Q,TEv Γ Ex (λenv h=>(ev ct c x env h).bind λx1 h1=>(ev ct c y env h1).bind λy1 h2=>(asB (op2 o h2 x1 y1)).bind λk h3=>if k=true then(ev ct c z env h3).bind λz1 h4=>op2 p h4 y1 z1 else .ok (.bl false) h3) σ H Q→
 a7y (rOf Γ Ex (op2 o)) (rOf Γ Ex (op2 p)) (TEv Γ Ex (ev ct c x)) (TEv Γ Ex (ev ct c y)) (TEv Γ Ex (ev ct c z)) σ H Q:=by
 rintro σ H Q ⟨env,ah,m,rl,q⟩;refine⟨env,ah,m,rl,i6.first rl q λd1 bL m1 H1 v1 p1 k1 bM r1 q1=>?_⟩;refine⟨env,bL,m1,bM,i6.first bM q1 λd2 ck m2 H2 v2 p2 k2 cw r2 q2=>?_⟩;refine⟨d1,d2,ck,m2,cw.sim,r1.mono p2 k2,r2,i6.firstB cw q2 λk fb m3 H3 p3 k3 eF q3=>⟨k,rfl,?_⟩⟩;cases k with
 |false=>rw[az ∅] at q3⊢;exact q3.ok eF.sim rfl
 |true=>
  rw[ay rfl] at q3⊢;refine⟨env,fb,m3,eF,i6.first eF q3 λd4 ah4 m4 H4 v4 p4 k4 rl4 r4 q4=>?_⟩;exact⟨d2,d4,ah4,m4,rl4.sim,r2.mono (p3.trans p4) (k3.trans k4),r4,q4⟩
theorem c2a{o p:B}(hu:X.A.units+8<cLine)(hK:X.K=Γ.K)(h:o.cmp=some op)(h':p.cmp=some op')(ha:PE X a (TEv Γ Ex (ev ct c x)))(hb:PE X b (TEv Γ Ex (ev ct c y)))(hd:PE X d (TEv Γ Ex (ev ct c z)))(hm:lastMarks [op,op'] [b,d]=false):
 PE X (.Compare a [op,op'] [b,d] pos) (TEv Γ Ex (ev ct c (.chn o p x y z))):=by
 refine PE.imp (b1H (a2p (Γ:=Γ) (E:=Ex) hu hK h) (a2p (Γ:=Γ) (E:=Ex) hu hK h') ha hb hd hm) λσ H Q q=>b6M (op:=op) (op':=op') ha σ H Q ?_
 simpa only[TEv,ev] using q
theorem b9s{o p:B}(hu:X.A.units+8<cLine)(hK:X.K=Γ.K)(h:o.cmp=some op)(h':p.cmp=some op')(ha:PE X a (TEv Γ Ex (ev ct c x)))(hb:PE X b (TEv Γ Ex (ev ct c y)))(hd:PE X d (TEv Γ Ex (ev ct c z)))(hm:lastMarks [op,op'] [b,d]=false):
 PT X (.Compare a [op,op'] [b,d] pos) (TTv Γ Ex (tst ct c (.chn o p x y z))):=by
 refine PT.imp (b1o (a2p (Γ:=Γ) (E:=Ex) hu hK h) (a2p (Γ:=Γ) (E:=Ex) hu hK h') ha hb hd hm) λσ H Q q=>a2N (b6M (op:=op) (op':=op') (o:=o) (p:=p) (y:=y) (z:=z) ha) σ H Q ?_
 simpa only[TTv,tst] using q
theorem c3g(hu:X.A.units+8<cLine)(hK:X.K=Γ.K)(ha:PE X a (TEv Γ Ex (ev ct c x)))(hb:PE X b (TEv Γ Ex (ev ct c y)))(hs:a3a b):PE X (.Subscript a b pos) (TEv Γ Ex (ev ct c (.ix x y))):=by
 refine PE.imp (b6A (c1i (Γ:=Γ) (E:=Ex) hu hK) ha hb hs) λσ H Q q=>two (r:=rOf Γ Ex ixD) ha hb σ H Q ?_
 simpa only[TEv,ev] using q
theorem c3c:PO X none (TOv Γ Ex (evo ct c .no)):=by refine PO.imp b4N ?_;rintro σ H Q ⟨env,ah,m,rl,q⟩;exact q.ok rl.sim
theorem c3b(ha:PE X a (TEv Γ Ex (ev ct c x))):PO X (some a) (TOv Γ Ex (evo ct c (.at x))):=by
 refine PO.imp (b4M ha) ?_;rintro σ H Q ⟨env,ah,m,rl,q⟩;rw[b3k,a8X] at q;refine⟨env,ah,m,rl,j0.first rl q λd1 bL m1 H1 v1 p1 k1 bM r1 q1=>?_⟩;cases d1<;>first|exact q1.elim|skip
 cases r1;exact⟨_,rfl,q1.ok bM.sim⟩
variable{l h:Option Expr}{ol oh:O}
theorem c3a{p2:Pos}(hK:X.K=Γ.K)(ha:PE X a (TEv Γ Ex (ev ct c x)))(hl:PO X l (TOv Γ Ex (evo ct c ol)))(hh:PO X h (TOv Γ Ex (evo ct c oh))):PE X (.Subscript a (.Slice l h none p2) pos) (TEv Γ Ex (ev ct c (.sl x ol oh))):=by refine PE.imp (b1B (c2R (Γ:=Γ) (E:=Ex) hK) ha hl hh) ?_;rintro σ H Q ⟨env,ah,m,rl,q⟩;refine⟨env,ah,m,rl,i6.first rl q λd1 bL m1 H1 v1 p1 k1 bM r1 q1=>?_⟩;refine⟨env,bL,m1,bM,q1.bind.mp λlo ck m2 H2 p2 k2 s2 q2=>?_⟩;refine⟨env,ck,m2,bM.on p2 k2 s2,q2.bind.mp λhi fb m3 H3 p3 k3 s3 q3=>?_⟩;exact⟨d1,fb,m3,s3,r1.mono (p2.trans p3) (k2.trans k3),q3⟩
variable{xs:Es}
theorem c1U:PA X [] (TAv Γ Ex (evs ct c .nil)):=by refine PA.imp a2b ?_;rintro σ H Q ⟨env,ah,m,rl,q⟩;exact q.ok rl.sim [] rfl
theorem b9p(ha:PE X a (TEv Γ Ex (ev ct c x)))(hr:PA X es (TAv Γ Ex (evs ct c xs)))(hs:starEach (a::es) X.env=(false,eval a X.env)::starEach es X.env):PA X (a::es) (TAv Γ Ex (evs ct c (.cons x xs))):=by refine PA.imp (Q7 ha hr hs) ?_;rintro σ H Q ⟨env,ah,m,rl,q⟩;refine⟨env,ah,m,rl,j0.first rl q λd1 bL m1 H1 v1 p1 k1 bM r1 q1=>?_⟩;refine⟨env,bL,m1,bM,q1.bind.mp λds ck m2 H2 p2 k2 s2 q2=>λvs rs=>?_⟩;exact q2.ok s2 (v1::vs) ⟨v1,vs,rfl,r1.mono p2 k2,rs⟩
theorem c1W(ha:PA X es (TAv Γ Ex (evs ct c xs))):PE X (.List es pos) (TEv Γ Ex (ev ct c (.lst xs))):=by refine PE.imp (b7M ha) ?_;rintro σ H Q ⟨env,ah,m,rl,q⟩;refine⟨env,ah,m,rl,q.bind.mp λds bL m1 H1 p1 k1 s1 q1=>λvs rs=>?_⟩;obtain⟨hl,q1⟩:=ifq q1;exact⟨by rw[rs.len,←S9];exact hl,λp hp=>q1.newc s1 hp ⟨_,g9,rs.mono (Pre.snoc m1 p) (Keep.newc hp)⟩⟩
theorem c1O{k:Nat}(ha:PA X es (TAv Γ Ex (evs ct c xs))):PE X (.Tuple es k pos) (TEv Γ Ex (ev ct c (.tup xs))):=by refine PE.imp (b7I ha) ?_;rintro σ H Q ⟨env,ah,m,rl,q⟩;refine⟨env,ah,m,rl,q.bind.mp λds bL m1 H1 p1 k1 s1 q1=>λvs rs=>?_⟩;obtain⟨hl,q1⟩:=ifq q1;exact⟨by rw[rs.len,←S9];exact hl,λp hp=>q1.newt s1 hp rs⟩
theorem b9m:PE X (.Dict [] [] pos) (TEv Γ Ex (ev ct c .dnew)):=by refine PE.imp b1E ?_;rintro σ H Q ⟨env,ah,m,rl,q⟩;exact λp hp=>q.newc rl.sim hp (.inl ⟨[],g9,.nil⟩)
theorem c2c{b:Bi}(ha:PA X es (TAv Γ Ex (evs ct c xs))):∀σ H Q,TEv Γ Ex (ev ct c (.bi b xs)) σ H Q->tCB (rBi Γ Ex b) (TAv Γ Ex (evs ct c xs)) σ H Q:=by rintro σ H Q ⟨env,ah,m,rl,q⟩;exact⟨env,ah,m,rl,q.bind.mp λds bL m1 H1 p1 k1 s1 q1=>λvs rs=>⟨ds,bL,m1,s1,rs,q1⟩⟩
end
noncomputable def a5b(Γ:Gm)(c:CF)(f np:Nat):Sp:=λvs H Q E=>∃ds ah m,↥ds=np/\Rps m H ds vs/\Sim Γ ah m H/\i6 Γ E m H (c f ds ah) Q
theorem i8{a:Expr}{env:Env}(h:r8 a=true):starEach (a::es) env=(false,eval a env)::starEach es env:=by cases a<;>first|rfl|cases h
theorem V8{pos:Pos}{env:Env}:∀{es:List Expr},es.all r8=true->(backTo pos (starEach es env)).any (·.1)=false
 |[],_=>rfl
 |a::es,h=>by rw[all_cons,ae] at h;rw[i8 h.1];exact V8 (es:=es) h.2
theorem a4p{pos:Pos}{env:Env}:∀{es:List Expr},es.all r8=true->(backTo pos (starEach es env)).all (λx=>!x.1)=true
 |[],_=>rfl
 |a::es,h=>by rw[all_cons,ae] at h;rw[i8 h.1];exact a4p (es:=es) h.2
theorem a1n{o:Expr}{f:Str}{env:Env}{w:Sem Value}(h:a0X o=true):attributeBase o f env w=w:=by
 unfold attributeBase;split
 · cases h
 · rfl
def b0y(P:Program)(w:World)(K:Frag)(a:Addr)(gs:List (Key×V)):Prop:=(a==sysModules)=false/\∃vs,KV gs vs/\∀h:Heap,K.In h->h.DictOf (z9 P w) a vs
structure Cxt(X:Cx)(Γ:Gm)(G:GT)(ct:CT)(c:CF)(Ex:XK)(N:List Str)(sc:Scope)(bS:Bool):Prop where
 hN:X.N=N
 nd:N.Nodup
 sc:X.env.scope=sc
 calm:X.calm=true
 hu:X.A.units+8<cLine
 K:X.K=Γ.K
 fnb:bS=true->∀x,X.fn x=true
 scal:∀x d,G.scal.lookup x=some d->∃u v,X.mg x=some u/\k8 v u/\∀m H,Rp m H d v
 tups:∀x ds,G.tups.lookup x=some ds->∃a vs,X.mg x= ~~~a/\(∀H,SqT X.K H a vs)/\∀m H,Rps m H ds vs
 dicts:∀x bD,G.dicts.lookup x=some bD->∃a gs,X.mg x= ~~~a/\b0y X.prog X.w X.K a gs/\∀m H,DK m H bD gs
 blt:∀x,G.blt.contains x=true->X.mg x=none
 fn:∀x f np,G.fn.lookup x=some (f,np)->∃k a fd ps,↥ps=np/\Room k X.A/\X.mg x= ~~~a/\PySem.W.keepIn X.K (.ref a)=true/\U5 X.K fd ps []/\FnOk X.prog X.w X.K X.mg X.base CX0 k a fd ps (a5b Γ c f np)/\∀ds h,↥ds≠np->c f ds h=.no
 obj:∀x k,G.obj.lookup x=some k->k∈Γ.ob/\∃r a fd ps,↥ps=1/\Room (r+1) X.A/\Mk X.K (Γ.cA k) a/\X.mg x=some (.ref (Γ.cA k))/\U5 X.K fd ps []/\FnOk X.prog X.w X.K X.mg X.base CX0 r a fd ps (a5b Γ c (ct.init k) 1)
 att:∀k,k∈Γ.ob->Cls X.K (Γ.cA k)/\∀f,G.atts.contains f=true->a0A X.K (Γ.cA k) f
variable{np:Nat}{ad:Addr}{cu:Pos}
section
variable{X:Cx}{G:GT}{ct:CT}{c:CF}{Ex:XK}{N:List Str}{sc:Scope}{bS:Bool}{e a b:Expr}{pos p:Pos}{x y z:E}{xs:Es}
theorem a0j{n:Str}(h:Q1 sc n=true):sc.names.lookup n=some .globalImplicit/\(n==("__debug__":Str))=false/\n≠"__name__":=by unfold Q1 at h;rw[ae,ae] at h;exact⟨aw h.1.1,beq_eq_false_iff_ne.mpr (aw h.1.2),aw h.2⟩
theorem Cxt.gl(C:Cxt X Γ G ct c Ex N sc bS){n:Str}(h:Q1 sc n=true):Gl X n:=by show X.env.scope.names.lookup n=_;rw[C.sc];exact(a0j h).1
theorem Cxt.vis(C:Cxt X Γ G ct c Ex N sc bS){n:Str}(h:b2s sc n=true):Vis X.env.scope n:=by
 rw[C.sc];unfold b2s at h;unfold Vis;split at h
 · rename_i e;exact .inl e
 · rename_i e;exact .inr (.inl e)
 · rename_i e;exact .inr (.inr e)
 · cases h
theorem a5B{N:List Str}{n:Str}{i:Nat}(h:N.idxOf? n=some i):N[i]? =some n:=by unfold List.idxOf? at h;rw[List.findIdx?_eq_some_iff_getElem] at h;obtain⟨h1,h2,_⟩:=h;rw[ai h1];exact fM some (eq_of_beq h2)
theorem b9t{n:Str}(C:Cxt X Γ G ct c Ex N sc bS)(hf:G.fn.lookup n=some (f,np))(hg:Q1 sc n=true)(hp:(a::es).all r8=true)(ha:PA X (a::es) (TAv Γ Ex (evs ct c xs))):
 PE X (.Call (.Name n p) (a::es) [] pos) (TEv Γ Ex (ev ct c (.call f xs))):=by
 obtain⟨k,ad,fd,ps,h1,h2,h3,h4,h5,h6,h7⟩:=C.fn n f np hf;rw[all_cons,ae] at hp;refine PE.imp (b4X h6 h2 (C.gl hg) h3 h4 h5 .nil b6B ha (a0j hg).2.1 (i8 hp.1) (V8 hp.2)) ?_;rintro σ H Q ⟨env,ah,m,rl,q⟩;refine⟨env,ah,m,rl,q.bind.mp λds bL m1 H1 p1 k1 s1 q1=>λvs rs=>⟨ds,bL,m1,?_,by rw[aZ];exact rs,s1,q1⟩⟩
 by_cases hl:↥ds=np
 · exact hl
 · rw[h7 ds bL hl] at q1;exact q1.elim
theorem c3f{n:Str}{k:Nat}(C:Cxt X Γ G ct c Ex N sc bS)(hf:G.obj.lookup n=some k)(hg:Q1 sc n=true):PE X (.Call (.Name n p) [] [] pos) (TEv Γ Ex (ev ct c (.mk k .nil))):=by
 obtain⟨hk,r,ad,fd,ps,h1,h2,h3,h4,h5,h6⟩:=C.obj n k hf;refine PE.imp (b1C h3 h6 h2 (C.gl hg) h4 h5 .nil b6B (a0j hg).2.1) ?_;rintro σ H Q ⟨env,ah,m,rl,q⟩;rw[b6J,a9f,b8] at q;intro x dx hx hdx eY;have kp:Keep m (m++[x]) H (upd (upd H dx (.own x)) x (.ins (Γ.cA k) dx [])):=(Keep.new hdx).trans (Keep.newc (by rw[j9 (fR eY)];exact hx));have s1:Sim Γ (ah++[.obj k []]) (m++[x]) (upd (upd H dx (.own x)) x (.ins (Γ.cA k) dx [])):=(rl.sim.new (o:=.own x) hdx).alloc (by rw[j9 (fR eY)];exact hx) ⟨dx,[],g9,.nil,hk⟩;refine⟨[.ref ↥ah],ah++[.obj k []],m++[x],rfl,⟨.ref x,[],rfl,⟨x,rfl,?_⟩,rfl⟩,s1,?_⟩
 · rw[←rl.sim.len,au (aj _)];simp
 · refine(q.bind.later (Pre.snoc m x) kp).val λd bL m1 H1 v p1 k1 s1 r1 q1=>?_;cases d<;>first|exact q1.elim|skip
   cases r1;refine⟨rfl,q1.ok s1 ⟨x,rfl,p1.get ?_⟩⟩;rw[←rl.sim.len,au (aj _)];simp
theorem c1Y{f:Str}(C:Cxt X Γ G ct c Ex N sc bS)(hb:a0X a=true)(hf:G.atts.contains f=true)(ha:PE X a (TEv Γ Ex (ev ct c x))):PE X (.Attribute a f pos) (TEv Γ Ex (ev ct c (.fld x f))):=by
 refine PE.imp (b7N (pos:=pos) ha (a1n (f:=f) hb)) ?_;rintro σ H Q ⟨env,ah,m,rl,q⟩;refine⟨env,ah,m,rl,i6.first rl q λd1 bL m1 H1 v1 p1 k1 bM r1 q1=>?_⟩;unfold X5 at q1;split at q1
 · split at q1
   · rename_i k fs e2;split at q1
     · rename_i d e3;obtain⟨ad,rfl,hm1⟩:=r1;obtain⟨dx,gs,g1,g2,g3⟩:=bM.sim.at hm1 e2;obtain⟨w,hw,dn⟩:=g2.look e3;obtain⟨a1,a2⟩:=C.att k g3;exact⟨ad,Γ.cA k,dx,gs,w,rfl,g1,a1,a2 f hf,hw,q1.ok bM.sim dn⟩
     · exact q1.elim
   · exact q1.elim
 · exact q1.elim
theorem a9d(h1:∀H,SqT X.K H ad vs)(h2:∀m H,Rps m H ds vs):∀σ H Q,TEv Γ Ex (ev ct c (.gin neg x ds)) σ H Q->tOp (rIn X.K neg) (TEv Γ Ex (ev ct c x)) (tC (.ref ad)) σ H Q:=by
 rintro σ H Q ⟨env,ah,m,rl,q⟩;refine⟨env,ah,m,rl,i6.first rl q λd1 bL m1 H1 v1 p1 k1 bM r1 q1=>?_⟩;obtain⟨hf,q1⟩:=ifq q1;refine⟨ad,vs,rfl,.inr (h1 H1),N9 r1 hf.1,O6 (h2 m1 H1) hf.2,?_⟩;rw[a0k r1 hf.1 (h2 m1 H1) hf.2] at q1;cases neg with
 |false=>rw[a3V] at q1;exact q1.ok bM.sim rfl
 |true=>rw[a3U] at q1;exact q1.ok bM.sim rfl
theorem b6O{n:Str}(C:Cxt X Γ G ct c Ex N sc bS)(ho:(op=.In/\neg=false)∨(op=.NotIn/\neg=true))(hg:Q1 sc n=true)(ht:G.tups.lookup n=some ds)(ha:PE X a (TEv Γ Ex (ev ct c x))):
 PE X (.Compare a [op] [.Name n p] pos) (TEv Γ Ex (ev ct c (.gin neg x ds)))/\PT X (.Compare a [op] [.Name n p] pos) (TTv Γ Ex (tst ct c (.val (.gin neg x ds)))):=by
 obtain⟨ad,vs,h1,h2,h3⟩:=C.tups n ds ht;have hb:PE X (.Name n p) (tC (.ref ad)):=a2R (C.gl hg) h1 rfl (a0j hg).2.1;have dG:OpR X (compareOp op) (rIn X.K neg):=by
  rcases ho with⟨rfl,rfl⟩|⟨rfl,rfl⟩
  · exact a0F
  · exact Q8
 refine⟨PE.imp (a5k dG ha hb rfl) (a9d h2 h3),PT.imp (a5j dG ha hb rfl) λσ H Q q=>a2N (a9d (neg:=neg) h2 h3) σ H Q ?_⟩
 simpa only[TTv,tst] using q
noncomputable def rMd(a:Addr)(gs:List (Key×V))(neg:Bool):R2:=λx y H Q=>∃k,x=kV k/\y=.ref a/\Q (.bl ((V7 gs k).isSome !=neg)) H
theorem b7T(d:b0y X.prog X.w X.K ad gs):OpR X (compareOp .In) (rMd ad gs false):=by intro bC s σ H x y v u Q I rx ry h;obtain⟨k,rfl,rfl,q⟩:=h;cases ry;obtain⟨hd,vs,cv,dd⟩:=d;refine wpAny_in_of (a0i rx) hd (dd _ I.kIn).mapOf ?_;rw[←(cv.val k).isSome_eq];rw[a3V] at q;exact⟨.bl _,H,I.tok _,rfl,q⟩
theorem a9S(d:b0y X.prog X.w X.K ad gs):OpR X (compareOp .NotIn) (rMd ad gs true):=by intro bC s σ H x y v u Q I rx ry h;obtain⟨k,rfl,rfl,q⟩:=h;cases ry;obtain⟨hd,vs,cv,dd⟩:=d;refine wpAny_notIn_of (a0i rx) hd (dd _ I.kIn).mapOf ?_;rw[←(cv.val k).isSome_eq];rw[a3U] at q;exact⟨.bl _,H,I.tok _,rfl,q⟩
def rMx(a:Addr)(gs:List (Key×V)):R2:=λx y H Q=>∃k v,x=.ref a/\y=kV k/\V7 gs k=some v/\Q v H
theorem c2G(d:b0y X.prog X.w X.K ad gs):IxR X (rMx ad gs):=by rintro value slice bC s σ H x y v u Q I rx ry ⟨k,z,rfl,rfl,hz,q⟩ hs;cases rx;obtain⟨hd,vs,cv,dd⟩:=d;have dd:=dd _ I.kIn;obtain⟨w',hw,dn⟩:=a0M.some_of (v:=z) (o:=valueAt vs k) (by rw[←hz];exact cv.val k);exact c1i.ixd_tail dd.typeIs hs (wpAny_getItem_of (a0i ry) dd.mapOf hw ⟨z,H,I.tok _,dn,q⟩)
theorem a6V(h2:∀m H,DK m H bD gs):∀σ H Q,TEv Γ Ex (ev ct c (.gdin neg x bD)) σ H Q->tOp (rMd ad gs neg) (TEv Γ Ex (ev ct c x)) (tC (.ref ad)) σ H Q:=by rintro σ H Q ⟨env,ah,m,rl,q⟩;refine⟨env,ah,m,rl,i6.first rl q λd1 bL m1 H1 v1 p1 k1 bM r1 q1=>?_⟩;obtain⟨hf,q1⟩:=ifq q1;obtain⟨k,hk⟩:=Option.isSome_iff_exists.mp hf;refine⟨k,X4 hk r1,rfl,?_⟩;rw[(h2 m1 H1).some_eq hk] at q1;exact q1.ok bM.sim rfl
theorem b3T{n:Str}(C:Cxt X Γ G ct c Ex N sc bS)(ho:(op=.In/\neg=false)∨(op=.NotIn/\neg=true))(hg:Q1 sc n=true)(ht:G.dicts.lookup n=some bD)(ha:PE X a (TEv Γ Ex (ev ct c x))):
 PE X (.Compare a [op] [.Name n p] pos) (TEv Γ Ex (ev ct c (.gdin neg x bD)))/\PT X (.Compare a [op] [.Name n p] pos) (TTv Γ Ex (tst ct c (.val (.gdin neg x bD)))):=by
 obtain⟨ad,gs,h1,h2,h3⟩:=C.dicts n bD ht;have hb:PE X (.Name n p) (tC (.ref ad)):=a2R (C.gl hg) h1 rfl (a0j hg).2.1;have dG:OpR X (compareOp op) (rMd ad gs neg):=by
  rcases ho with⟨rfl,rfl⟩|⟨rfl,rfl⟩
  · exact b7T h2
  · exact a9S h2
 refine⟨PE.imp (a5k dG ha hb rfl) (a6V h3),PT.imp (a5j dG ha hb rfl) λσ H Q q=>a2N (a6V (neg:=neg) (ad:=ad) h3) σ H Q ?_⟩
 simpa only[TTv,tst] using q
theorem b9k{n:Str}(C:Cxt X Γ G ct c Ex N sc bS)(hg:Q1 sc n=true)(ht:G.dicts.lookup n=some bD)(hb:PE X b (TEv Γ Ex (ev ct c y)))(hs:a3a b):
 PE X (.Subscript (.Name n p) b pos) (TEv Γ Ex (ev ct c (.gdix y bD))):=by
 obtain⟨ad,gs,h1,h2,h3⟩:=C.dicts n bD ht;have ha:PE X (.Name n p) (tC (.ref ad)):=a2R (C.gl hg) h1 rfl (a0j hg).2.1;refine PE.imp (b6A (c2G h2) ha hb hs) ?_;rintro σ H Q ⟨env,ah,m,rl,q⟩;refine⟨env,ah,m,rl,i6.first rl q λd1 bL m1 H1 v1 p1 k1 bM r1 q1=>?_⟩;obtain⟨hf,q1⟩:=ifq q1;obtain⟨k,hk⟩:=Option.isSome_iff_exists.mp hf;split at q1
 · rename_i d hd;obtain⟨v,hv,rv⟩:=((h3 m1 H1).val hk).1 d hd;exact⟨k,v,rfl,X4 hk r1,hv,q1.ok bM.sim rv⟩
 · exact q1.elim
theorem c3h{n:Str}{b:Bi}(C:Cxt X Γ G ct c Ex N sc bS)(hb:b8Z n=some b)(hg:Q1 sc n=true)(hm:X.mg n=none)(hp:(a::es).all r8=true)(ha:PA X (a::es) (TAv Γ Ex (evs ct c xs))):
 PE X (.Call (.Name n p) (a::es) [] pos) (TEv Γ Ex (ev ct c (.bi b xs))):=by
 obtain⟨_,hd,hn⟩:=a0j hg;rw[all_cons,ae] at hp;have s1:=i8 (es:=es) (env:=X.env) hp.1;have s2:=V8 (pos:=pos) (env:=X.env) hp.2;have go:∀{b:Bi} {t:TE},PE X (.Call (.Name n p) (a::es) [] pos) (tCB (rBi Γ Ex b) (TAv Γ Ex (evs ct c xs)))->PE X (.Call (.Name n p) (a::es) [] pos) (TEv Γ Ex (ev ct c (.bi b xs))):=λh=>PE.imp h (c2c ha);unfold b8Z at hb
 repeat' split at hb
 all_goals (first|(cases hb;done)|(cases hb;rename_i e;subst e))
 · exact go (t:=tCB (rBi Γ Ex .len) (TAv Γ Ex (evs ct c xs))) (Z9 (c1x C.K) (C.gl hg) hm PySem.boot_len ha hn hd s1 s2)
 · exact go (t:=tCB (rBi Γ Ex .len) (TAv Γ Ex (evs ct c xs))) (V9 c1v (C.gl hg) hm PyProof.Rows.boot_str ha hn hd s1 s2)
 · exact go (t:=tCB (rBi Γ Ex .len) (TAv Γ Ex (evs ct c xs))) (V9 c1y (C.gl hg) hm PyProof.Rows.boot_int ha hn hd s1 s2)
 · exact go (t:=tCB (rBi Γ Ex .len) (TAv Γ Ex (evs ct c xs))) (V9 (b6m C.K) (C.gl hg) hm PyProof.Rows.boot_tuple ha hn hd s1 s2)
 · exact go (t:=tCB (rBi Γ Ex .len) (TAv Γ Ex (evs ct c xs))) (V9 (b8V C.K) (C.gl hg) hm PyProof.Rows.boot_list ha hn hd s1 s2)
 · exact go (t:=tCB (rBi Γ Ex .len) (TAv Γ Ex (evs ct c xs))) (Z9 (c1A C.calm C.K) (C.gl hg) hm PyProof.Rows.boot_all ha hn hd s1 s2)
 · exact go (t:=tCB (rBi Γ Ex .len) (TAv Γ Ex (evs ct c xs))) (Z9 (c1z C.calm C.K) (C.gl hg) hm PyProof.Rows.boot_any ha hn hd s1 s2)
 · exact go (t:=tCB (rBi Γ Ex .len) (TAv Γ Ex (evs ct c xs))) (Z9 (c1w C.calm) (C.gl hg) hm PyProof.Rows.boot_max ha hn hd s1 s2)
 · exact go (t:=tCB (rBi Γ Ex .len) (TAv Γ Ex (evs ct c xs))) (V9 (b8W C.calm C.K) (C.gl hg) hm PyProof.Rows.boot_dict ha hn hd s1 s2)
 · exact go (t:=tCB (rBi Γ Ex .len) (TAv Γ Ex (evs ct c xs))) (Z9 (c1u C.calm C.K) (C.gl hg) hm PyProof.Rows.boot_sum ha hn hd s1 s2)
theorem a3C{b:Mt}{T:String}(hK:X.K=Γ.K)(hT:(T="list"/\(b=.append∨b=.extend))∨(T="str"/\(b=.split∨b=.join∨b=.starts))):∀σ H Q,TEv Γ Ex (ev ct c (.mt b x xs)) σ H Q->tBM X.K T (rMt Γ Ex b) (TEv Γ Ex (ev ct c x)) (TAv Γ Ex (evs ct c xs)) σ H Q:=by
 rintro σ H Q ⟨env,ah,m,rl,q⟩;refine⟨env,ah,m,rl,i6.first rl q λd1 bL m1 H1 v1 p1 k1 bM r1 q1=>?_⟩;split at q1
 · rename_i ht;refine⟨?_,env,bL,m1,bM,q1.bind.mp λds ck m2 H2 p2 k2 s2 q2=>λvs rs=>⟨d1,ds,ck,m2,s2,r1.mono p2 k2,rs,q2⟩⟩;unfold mtT at ht;split at ht
   · cases r1;rcases hT with⟨rfl,rfl|rfl⟩|⟨rfl,_⟩
     · cases ht
     · cases ht
     · rfl
   · rename_i n;rcases hT with⟨rfl,hb⟩|⟨rfl,rfl|rfl|rfl⟩
     · have hs:(rdL bL n).isSome=true:=by rcases hb with rfl|rfl<;>exact ht
       obtain⟨l,hl⟩:=Option.isSome_iff_exists.mp hs;obtain⟨ad,vs,rfl,_,h1,_⟩:=bM.sim.rdL hl r1;exact .inl ⟨rfl,vs,by rw[hK];exact h1⟩
     · cases ht
     · cases ht
     · cases ht
   · cases ht
 · exact q1.elim
theorem c3e{n:Str}{b:Mt}(C:Cxt X Γ G ct c Ex N sc bS)(hb:b7Z n=some b)(eK:a0X e=true)(cV:(cu.endLine==pos.line)=true)(bR:↥(a::es)<20)(hp:(a::es).all r8=true)(ho:PE X e (TEv Γ Ex (ev ct c x)))(ha:PA X (a::es) (TAv Γ Ex (evs ct c xs))):
 PE X (.Call (.Attribute e n cu) (a::es) [] pos) (TEv Γ Ex (ev ct c (.mt b x xs))):=by
 have hp':=hp;rw[all_cons,ae] at hp;have s1:=i8 (es:=es) (env:=X.env) hp.1;have s2:=V8 (pos:=pos) (env:=X.env) hp.2;have dy:=a1n (f:=n) (env:=X.env) (w:=eval e X.env) eK;have et:((backTo pos (starEach (a::es) X.env)).all (λx=>!x.1)&&(backToKw pos (keywordEach [] X.env)).all (λx=>x.1.isSome)
  &&decide (↥(a::es)+↥([]:List Keyword)+(if([]:List Keyword).isEmpty then 0 else 1)<30))=true:=by
  rw[ae,ae];refine⟨⟨a4p hp',rfl⟩,ba ?_⟩;show(a::es).length+0+0<30;ac_nf
 unfold b7Z at hb
 repeat' split at hb
 all_goals (first|(cases hb;done)|(cases hb;rename_i e0;subst e0))
 · exact PE.imp (a6z PySem.F.plainAttrs_list PySem.F.slot_list_append PySem.F.type_list_append (b1Z (Γ:=Γ) (E:=Ex)) ho ha dy et cV s1 s2) (a3C C.K (.inl ⟨rfl,.inl rfl⟩))
 · exact PE.imp (a6z PySem.F.plainAttrs_list PySem.F.slot_list_extend PySem.F.type_list_extend (b1Y (Γ:=Γ) (E:=Ex)) ho ha dy et cV s1 s2) (a3C C.K (.inl ⟨rfl,.inr rfl⟩))
 · exact PE.imp (a6z plainAttrs_str slot_str_split PySem.F.type_str_split (b5l (Γ:=Γ) (E:=Ex)) ho ha dy et cV s1 s2) (a3C C.K (.inr ⟨rfl,.inl rfl⟩))
 · exact PE.imp (a6z plainAttrs_str PySem.F.slot_str_join PySem.F.type_str_join (b8a (Γ:=Γ) (E:=Ex) C.K) ho ha dy et cV s1 s2) (a3C C.K (.inr ⟨rfl,.inr (.inl rfl)⟩))
 · exact PE.imp (a6z plainAttrs_str PySem.F.slot_str_startswith PySem.F.type_str_startswith (b1X (Γ:=Γ) (E:=Ex)) ho ha dy et cV s1 s2) (a3C C.K (.inr ⟨rfl,.inr (.inr rfl)⟩))
end
end EV
namespace L2
open PySem PySem.Spec PyProof.Rows
theorem a3D:∀(gs bP:List (Key×V)),((bP++gs).map (·.1)).Nodup->X1 bP gs=bP++gs
 |[],bP,_=>by rw[aZ];rfl
 | g::gs,bP,h=>by
  have h2:((bP++[g]++gs).map (·.1)).Nodup:=by rw[aA];exact h
  have hn:(bP.any λkv=>decide (kv.1=g.1))=false:=by
   rw[List.any_eq_false];intro p hp;have e:p.1≠g.1:=by rw[ao,nodup_append] at h;exact h.2.2 p.1 (al.mpr ⟨p,hp,rfl⟩) g.1 ⋯
   simp[e]
  show X1 (P9 bP g.1 g.2) gs=_;rw[show P9 bP g.1 g.2=bP++[g] by unfold P9;rw[hn];rfl,a3D gs _ h2,aA];rfl
variable{H:Hp}
theorem a9w{p:Addr}{a b:HO}:upd (upd H p a) p b=upd H p b:=by
 funext x
 by_cases h:x=p
 · subst h;rw[g9,g9]
 · rw[j9 h,j9 h,j9 h]
noncomputable def b7e(X:Cx)(td ty tx:TE):TE:=λσ H Q=>td σ H λx H1=>∃a,x=.ref a/\IsD H1 a/\ty σ H1 λy H2=>tx σ H2 λz H3=>∃H4,(∀bC σ s,Inv X bC σ H3 s->Inv X bC σ H4 s)/\∃o,a8r H4 a y o/\Q (o.getD z) H4
variable{X:Cx}{e:Expr}{cu:Pos}
theorem b1F{o f:Expr}{ca:Pos}{td ty tx:TE}(hu:X.A.units+1<cLine)(ho:PE X o td)(he:PE X e ty)(hf:PE X f tx)(m:M2 X o "get" cu e f ca):PE X (.Call (.Attribute o "get" cu) [e,f] [] ca) (b7e X td ty tx):=by intro bC s σ H Q I h;refine wpAny_Call_method m.base m.few m.line PySem.F.plainAttrs_dict slot_dict_get PySem.F.type_dict_get (thn (ho bC s σ H _ I h) λu s1 hh=>?_);obtain⟨x,H1,I1,rx,a,ex,d,q1⟩:=hh;subst ex;obtain rfl:u=Value.ref a:=rx;obtain⟨t1,t2,_⟩:=b8p I1 d;refine⟨t1,t2,?_⟩;rw[m.trees];refine Calls.callWith_builtin rfl (Calls.evalArgs_plain (gU (thn (he bC s1 σ H1 _ I1 q1) λiv s2 hh2=>?_)));obtain⟨y,H2,I2,ry,q2⟩:=hh2;refine gU (thn (hf bC s2 σ H2 _ I2 q2) λfv s3 hh3=>Calls.spliced_nil ?_);obtain⟨z,H3,I3,rz,H4,iv4,ov,g,q3⟩:=hh3;exact b8P hu (iv4 _ _ _ I3) g ry rz λw' s4 I4 dn=>⟨_,H4,I4,dn,q3⟩
end L2
namespace EV
open PySem PySem.Spec L2
open PyProof.Rows hiding St
def kDg:Key->D
 |.inl i=>.int i
 |.inr x=>.str x
theorem a4y:∀{l:List D},a5p l=true->l.Nodup
 |[],_=>.nil
 |d::r,h=>by rw[a5p,ae] at h;refine aV.mpr ⟨λm=>?_,a4y h.2⟩;have:=h.1;rw[bn.mpr ⟨d,m,ba rfl⟩] at this;cases this
variable{bD:List (D×D)}{m:List Addr}{H:Hp}{cu:Pos}
section
variable{X:Cx}{Γ:Gm}{G:GT}{ct:CT}{c:CF}{Ex:XK}{N:List Str}{sc:Scope}{bS:Bool}{e a b:Expr}{pos p:Pos}{x y z:E}
theorem b6g{e:Expr}{x:Str}(h:b8R e=some x):∃k q,e=.Constant (.str x) k q:=by
 unfold b8R at h;split at h
 · split at h
   · cases h;exact⟨_,_,rfl⟩
   · cases h
 · cases h
theorem b6h{e:Expr}{i:Int}(h:b8S e=some i):∃k q,e=.Constant (.int i) k q:=by
 unfold b8S at h;split at h
 · split at h
   · cases h;exact⟨_,_,rfl⟩
   · cases h
 · cases h
theorem b6K:∀{ks:List (Option Expr)} {vs:List Expr} {bD:List (D×D)},b0s ks vs=some bD->∃eE gs,PPs X pos ks vs eE/\ks.all (·.isSome)=true/\↥ks=↥vs/\↥ks=↥bD/\↥gs=↥bD/\bD.map (·.1)=(gs.map (·.1)).map kDg∧
 (∀σ H Q,Q (gs.map λkv=>(kV kv.1,kv.2)) H->a4X eE σ H Q)/\∀m H,DK m H bD gs
 |[],vs,bD,h=>by unfold b0s at h;obtain⟨e,h⟩:=ifs h;cases isEmpty_iff.mp e;cases h;exact⟨[],[],b4L,rfl,rfl,rfl,rfl,rfl,λ_ _ _ q=>q,λ_ _=>.nil⟩
 |k::ks,vs,bD,h=>by
  unfold b0s at h;split at h
  · cases h
  · rename_i v r;split at h
    · rename_i s i l h1 h2 h3;cases h;obtain⟨e,rfl,h1⟩:=Option.bind_eq_some_iff.mp h1;obtain⟨_,_,rfl⟩:=b6g h1;obtain⟨_,_,rfl⟩:=b6h h2;obtain⟨eE,gs,g1,g2,g3,g4,g5,g6,g7,g8⟩:=b6K h3;exact⟨(tC (.str s),tC (.int i))::eE,(.inr s,.int i)::gs,b1w b1A b1D g1,g2,fM (· +1) g3,fM (· +1) g4,fM (· +1) g5,by rw[map_cons,g6];rfl,λσ H Q q=>g7 σ H _ q,λm H=>.cons ⟨rfl,rfl⟩ (g8 m H)⟩
    · cases h
theorem b9n{ks:List (Option Expr)}{vs:List Expr}(h0:ks≠[])(h:b0s ks vs=some bD)(hk:b8O bD=true):PE X (.Dict ks vs pos) (TEv Γ Ex (ev ct c (.dlit bD))):=by
 unfold b8O at hk;rw[ae] at hk;have h15:=aw hk.1;obtain⟨eE,gs,g1,g2,g3,g4,g5,g6,g7,g8⟩:=b6K (X:=X) (pos:=pos) h;have nd:(gs.map (·.1)).Nodup:=by have:=a4y hk.2;rw[g6] at this;exact List.Pairwise.of_map _ (λa b h e=>h (by rw[e])) this
 refine PE.imp (b4W g1 g2 g3 h0 nofun) ?_;rintro σ H Q ⟨env,ah,m,rl,q⟩;intro p hp;refine g7 σ _ _ ⟨g9,gs,rfl,by ac_nf,?_⟩;rw[a9w,a3D gs [] nd];exact q.newc rl.sim hp (.inl ⟨gs,g9,g8 _ _⟩)
theorem c1p{k:D}:∀{bD:List (D×D)} {gs:List (List Key×V)},DT m H bD gs->D8 k bD=true->(K9 k).isSome=true->bD.isEmpty=true
 |_,_,.nil,_,_=>rfl
 |p::ps,_,.cons h t,hk,hs=>by obtain⟨⟨l,e1,e2⟩,_⟩:=h;unfold D8 at hk;rw[all_cons,e1] at hk;simp only[K7,e2,Option.isSome_some,fV] at hk;cases k<;>simp[K9,K7] at hk hs
theorem b9o(C:Cxt X Γ G ct c Ex N sc bS)(eK:a0X e=true)(cV:(cu.endLine==pos.line)=true)(hpa:r8 a=true)(hpc:r8 b=true)(ho:PE X e (TEv Γ Ex (ev ct c x)))(ha:PE X a (TEv Γ Ex (ev ct c y)))(hb:PE X b (TEv Γ Ex (ev ct c z))):
 PE X (.Call (.Attribute e "get" cu) [a,b] [] pos) (TEv Γ Ex (ev ct c (.dget x y z))):=by
 have t:backTo pos (starEach [a,b] X.env)=[(false,eval a X.env),(false,eval b X.env)]:=by rw[i8 hpa,i8 hpc];rfl
 refine PE.imp (b1F (hu1 C.hu) ho ha hb ⟨a1n eK,by rw[t];rfl,cV,t⟩) ?_;rintro σ H Q ⟨env,ah,m,rl,q⟩;refine⟨env,ah,m,rl,i6.first rl q λd1 bL m1 H1 v1 p1 k1 bM r1 q1=>?_⟩;split at q1
 · rename_i hd;unfold b2u at hd;split at hd
   · rename_i n;split at hd
     · rename_i kvs0 e0;obtain⟨ad,rfl,hm⟩:=r1;refine⟨ad,rfl,?_,env,bL,m1,bM,i6.first bM q1 λd2 ck m2 H2 v2 p2 k2 cw r2 q2=>⟨env,ck,m2,cw,i6.first cw q2 λd3 fb m3 H3 v3 p3 k3 eF r3 q3=>?_⟩⟩
       · rcases bM.sim.at hm e0 with⟨bD,h1,_⟩|⟨bD,h1,_⟩
         · exact .inl ⟨bD,.inl h1⟩
         · exact .inr ⟨bD,.inl h1⟩
       · unfold a7f at q3;simp only at q3;split at q3
         · rename_i bD e3;obtain⟨hk,q3⟩:=ifq q3;rw[ae] at hk;obtain⟨hk1,hk2⟩:=hk;obtain⟨k,hk⟩:=Option.isSome_iff_exists.mp hk2;have hm3:=p3.get (p2.get hm);rcases eF.sim.at hm3 e3 with⟨gs,h1,h2⟩|⟨gs,h1,h2⟩
           · obtain⟨o,g,o1,o2⟩:=a1L (Keep.refl m3 H3) (r2.mono p3 k3) (.inl ⟨k,gs,hk,h1,h2⟩);refine⟨H3,λ_ _ _ z=>z,o,g,?_⟩;cases hg:n8 bD d2 with
             |none=>
              rw[hg] at o1 q3;cases o with
              |none=>exact q3.ok eF.sim r3
              |some w=>cases o1
             |some w=>
              rw[hg] at q3;obtain⟨v,rfl,rv⟩:=o2 w hg;exact q3.ok eF.sim rv
           · have e0:=isEmpty_iff.mp (c1p h2 hk1 hk2);subst e0;cases h2;have kp:Keep m3 m3 H3 (upd H3 ad (.dK [])):=Keep.put hm3 h1 λz=>z;have S':=eF.sim.write (o':=.dK []) (c:=.dict []) hm3 h1 (λz=>z) (.inl ⟨[],g9,.nil⟩);rw[show fb.set n (.dict [])=fb from a3n e3] at S';refine⟨upd H3 ad (.dK []),λ_ _ _ I=>b1j I h1,none,.inl ⟨[],k,.inl g9,X4 hk (r2.mono p3 k3),rfl⟩,?_⟩;exact q3 m3 _ _ (Pre.refl m3) kp S' (r3.mono (Pre.refl m3) kp)
         · exact q3.elim
     · cases hd
   · cases hd
 · exact q1.elim
end
noncomputable def TGv(Γ:Gm)(p:Pat):TG:=λv σ H Q=>∃env d m bG,EnvRel m H env σ/\Rp m H d v/\D9 p d env=some bG/\∀bQ,EnvRel m H bG bQ->↥bQ=↥σ->(∀(j:Nat),j∉L8 p->bQ[j]? =σ[j]?)->Q bQ H
noncomputable def c3k(Γ:Gm)(p:Pats):TGs:=λvs σ H Q=>∃env ds m bG,EnvRel m H env σ/\Rps m H ds vs/\N3 p ds env=some bG/\∀bQ,EnvRel m H bG bQ->↥bQ=↥σ->(∀(j:Nat),j∉a0E p->bQ[j]? =σ[j]?)->Q bQ H
def a2S:Pats->Nat
 |.nil=>0
 |.cons _ r=>a2S r+1
theorem a1m:∀(ps:Pats) {ds:List D} {env bG:u5},N3 ps ds env=some bG->↥ds=a2S ps
 |.nil,ds,env,bG,h=>by
  cases ds with
  |nil=>rfl
  |cons d r=>simp only[N3] at h;cases h
 | .cons p r,ds,env,bG,h=>by
  cases ds with
  |nil=>simp only[N3] at h;cases h
  |cons d t=>
   simp only[N3] at h;split at h
   · rw[length_cons,a1m r h];rfl
   · cases h
variable{es:List Expr}{n:Nat}{cc:Cell}{ah:AH}{K:Frag}{l:List D}{m0:List Addr}{H0:Hp}{vs:List V}{z:Str}{n':Nat}{a':Addr}{l':List D}{cc':Cell}{dP:List Expr}{kk:Nat}{tp:Pos}
section
variable{X:Cx}{Γ:Gm}{G:GT}{ct:CT}{c:CF}{Ex:XK}{N:List Str}{sc:Scope}{bS:Bool}
theorem PG.imp{e:Expr}{t t':TG}(h:PG X e t)(i:∀v σ H Q,t' v σ H Q->t v σ H Q):PG X e t':=λbC s σ H v u Q I r q=>h bC s σ H v u Q I r (i _ _ _ _ q)
theorem PGs.imp{t t':TGs}(h:PGs X es t)(i:∀v σ H Q,t' v σ H Q->t v σ H Q):PGs X es t':=λbC s σ H v u Q I r q=>h bC s σ H v u Q I r (i _ _ _ _ q)
theorem a3X{env:Env}:∀{es:List Expr},↥(assignEach es env)=↥es
 |[]=>rfl
 |e::r=>by have:=a3X (env:=env) (es:=r);cases e<;>simp only[assignEach,length_cons]<;>rw[this]
theorem Cxt.loc(C:Cxt X Γ G ct c Ex N sc bS){n:Str}(h:b2t bS sc n=true):Loc X.env.scope n/\(X.fn n=true∨X.env.scope.names.lookup n=some .local):=by
 rw[C.sc];unfold b2t at h;unfold L2.Loc;split at h
 · rename_i e;exact⟨.inl e,.inr e⟩
 · rename_i e;exact⟨.inr e,.inl (C.fnb h n)⟩
 · cases h
theorem a3k(C:Cxt X Γ G ct c Ex N sc bS){n:Str}{i:Nat}(h:a3l bS N sc n=some i):X.N[i]? =some n/\Loc X.env.scope n/\(X.fn n=true∨X.env.scope.names.lookup n=some .local):=by unfold a3l at h;obtain⟨hl,h⟩:=ifs h;rw[C.hN];exact⟨a5B h,C.loc hl⟩
theorem b3S (C:Cxt X Γ G ct c Ex N sc bS):∀n,(∀e p,a8o bS N sc n e=some p->PG X e (TGv Γ p)/\r8 e=true)/\∀es ps,a3T bS N sc n es=some ps->PGs X es (c3k Γ ps)/\a2S ps=↥es/\(assignEach es X.env).findIdx? (·.1)=none:=by
 intro n
 induction n with
 |zero=>exact⟨λe p h=>(by simp only[a8o] at h;cases h),λes ps h=>(by simp only[a3T] at h;cases h)⟩
 | succ n ih=>
  obtain⟨ih1,ih2⟩:=ih;refine⟨λe p h=>?_,λes ps h=>?_⟩
  · cases e<;>simp only[a8o] at h<;>first|(cases h;done)|skip
    · rename_i nm pos;cases hs:a3l bS N sc nm with
      |none=>rw[hs] at h;cases h
      |some i=>
       rw[hs] at h;cases h;obtain⟨h1,h2,h3⟩:=a3k C hs;refine⟨PG.imp (b4V (by rw[C.hN];exact C.nd) h1 h2 h3) ?_,rfl⟩;rintro v σ H Q ⟨env,d,m,bG,er,r,hb,q⟩;simp only[D9] at hb;cases hb;exact q _ (er.set r) ⋯ λj hj=>fP (λe=>hj (by simp[L8,e]))
    · rename_i es k pos;cases hs:a3T bS N sc n es with
      |none=>rw[hs] at h;cases h
      |some ps=>
       rw[hs] at h;cases h;obtain⟨h1,h2,h3⟩:=ih2 es ps hs;refine⟨PG.imp (b7F C.calm h1 a3X h3) ?_,rfl⟩;rintro v σ H Q ⟨env,d,m,bG,er,r,hb,q⟩;simp only[D9] at hb;cases d<;>first|(cases hb;done)|skip
       rename_i ds;obtain⟨a,vs,rfl,ha,rs⟩:=r;refine⟨a,vs,rfl,.inl (.inl ha),by rw[rs.len,a1m ps hb,h2],env,ds,m,bG,er,rs,hb,λbQ r' l' s'=>q bQ r' l' s'⟩
  · cases es with
    | nil=>
     simp only[a3T] at h;cases h;refine⟨PGs.imp b4U ?_,rfl,rfl⟩;rintro vs σ H Q ⟨env,ds,m,bG,er,rs,hb,q⟩;have hl:=a1m .nil hb;have:vs=[]:=length_eq_zero_iff.mp (rs.len.trans hl);subst this;cases ds with
     |nil=>
      simp only[N3] at hb;cases hb;exact⟨rfl,q σ er rfl λ_ _=>rfl⟩
     |cons d r=>cases hl
    |cons e r=>
     simp only[a3T] at h;split at h
     · rename_i p ps' h1 h2;cases h;obtain⟨g1,g2⟩:=ih1 e p h1;obtain⟨g3,g4,g5⟩:=ih2 r ps' h2;have dN:(assignEach (e::r) X.env)=(false,assign e X.env)::assignEach r X.env:=by cases e<;>first|rfl|cases g2
       refine⟨PGs.imp (b1z g1 g3 (by rw[dN];rfl)) ?_,by simp only[a2S,length_cons,g4],by rw[dN,List.findIdx?_cons,g5];rfl⟩;rintro vs σ H Q ⟨env,ds,m,bG,er,rs,hb,q⟩;cases ds with
       |nil=>simp only[N3] at hb;cases hb
       |cons d t=>
        simp only[N3] at hb;split at hb
        · rename_i bW hb1;obtain⟨v,vt,rfl,rd,rt⟩:=rs;refine⟨v,vt,rfl,env,d,m,bW,er,rd,hb1,λσ1 er1 l1 s1=>⟨bW,t,m,bG,er1,rt,hb,λbQ er' l' s'=>q bQ er' (l'.trans l1) λj hj=>?_⟩⟩;simp only[a0E,aL,not_or] at hj;rw[s' j hj.2,s1 j hj.1]
        · cases hb
     · cases h
def a5Y(Γ:Gm)(J:It)(bF:List D)(g:List (Nat×Cell))(m0:List Addr)(H0:Hp):Prop:=∀(i:Nat) (ah:AH) (m:List Addr) (H:Hp),Pre m0 m->Keep m0 m H0 H->Sim Γ ah m H->gOk g ah=true→
 (i=↥bF->J.stop i H)/\∀d,bF[i]? =some d->J.go i H/\∀v H',J.yld i H v H'->Keep m m H H'/\Sim Γ ah m H'/\Rp m H' d v
def TIv(Γ:Gm)(E:XK)(f:u5->AH->R Its):TI:=λσ H R=>∃env ah m,Rel Γ env ah σ H m/\j0 Γ E m H (f env ah) (λx bL m1 H1=>Sim Γ bL m1 H1->∀J,a5Y Γ J x.1 x.2 m1 H1->R J H1)
theorem b2N(h:gOk [(n,cc)] ah=true):ah[n]? =some cc:=by unfold gOk at h;rw[all_cons,ae] at h;exact aw h.1
theorem D2(hK:K=Γ.K){a:Addr}(h:cc=.lst l∨cc=.rol l)(S:Sim Γ ah m H)(hm:m[n]? =some a)(e:ah[n]? =some cc):∃vs,SqL K H a vs/\Rps m H l vs:=by
 have:rdL ah n=some l:=by unfold rdL;rcases h with rfl|rfl<;>rw[e]
 obtain⟨a',vs,e1,e2,e3,e4⟩:=S.rdL this ⟨a,rfl,hm⟩;rw[hm] at e2;cases e2;exact⟨vs,by rw[hK];exact e3,e4⟩
theorem a8U(hK:K=Γ.K){a:Addr}(h:cc=.lst l∨cc=.rol l)(hm:m0[n]? =some a):a5Y Γ (Itl K a) l [(n,cc)] m0 H0:=by intro i ah m H p k0 S g;obtain⟨vs,h1,h2⟩:=D2 hK h S (p.get hm) (b2N g);refine⟨λhi=>⟨vs,h1,by rw[h2.len,hi];exact aj _⟩,λd hd=>?_⟩;obtain⟨v,hv,rv⟩:=h2.get hd;refine⟨⟨vs,v,h1,hv⟩,?_⟩;rintro w H' ⟨rfl,hw⟩;have:=hw vs h1;rw[hv] at this;cases this;exact⟨Keep.refl _ _,S,rv⟩
theorem a4I:∀{l:List D} {n i:Nat} {d:D},(t9 n l)[i]? =some d->∃x,l[i]? =some x/\d=.tup [.int ((n+i:Nat):Int),x]
 |[],_,_,_,h=>by simp[t9] at h
 |x::r,n,0,d,h=>by simp only[t9,List.getElem?_cons_zero] at h;cases h;exact⟨x,rfl,rfl⟩
 |x::r,n,i+1,d,h=>by simp only[t9,List.getElem?_cons_succ] at h;obtain⟨y,h1,h2⟩:=a4I h;exact⟨y,by simpa using h1,by rw[h2];congr 3;ac_nf⟩
theorem a4H:∀{l:List D} {n:Nat},↥(t9 n l)=↥l
 |[],_=>rfl
 |x::r,n=>by simp only[t9,length_cons,a4H]
theorem a8V(hK:K=Γ.K){a:Addr}(h:cc=.lst l∨cc=.rol l)(hm:m0[n]? =some a):a5Y Γ (Ite K a) (t9 0 l) [(n,cc)] m0 H0:=by intro i ah m H p k0 S g;obtain⟨vs,h1,h2⟩:=D2 hK h S (p.get hm) (b2N g);refine⟨λhi=>⟨vs,h1,by rw[h2.len,hi,a4H];exact aj _⟩,λd hd=>?_⟩;obtain⟨x,hx,rfl⟩:=a4I hd;obtain⟨v,hv,rv⟩:=h2.get hx;refine⟨⟨vs,v,h1,hv⟩,?_⟩;rintro w H' ⟨T,y,hT,rfl,hw,rfl⟩;have:=hw vs h1;rw[hv] at this;cases this;refine⟨Keep.new hT,S.new hT,T,[.int i,v],rfl,g9,.int i,[v],rfl,?_,v,[],rfl,rv.mono (Pre.refl m) (Keep.new hT),rfl⟩;show V.int (i:Int)=V.int ((0+i:Nat):Int);rw[aB]
theorem b8l{a:Addr}(ha:H0 a=some (.tup vs))(r:Rps m0 H0 l vs):a5Y Γ (Itt K a) l [] m0 H0:=by intro i ah m H p k0 S g;have h1:=k0.tup ha;have h2:=r.mono p k0;refine⟨λhi=>⟨vs,.inl (.inl h1),by rw[h2.len,hi];exact aj _⟩,λd hd=>?_⟩;obtain⟨v,hv,rv⟩:=h2.get hd;refine⟨⟨vs,v,.inl (.inl h1),hv⟩,?_⟩;rintro w H' ⟨rfl,hw⟩;have:=hw vs (.inl (.inl h1));rw[hv] at this;cases this;exact⟨Keep.refl _ _,S,rv⟩
theorem b8m:a5Y Γ (L2.Its z) (Y7 z) [] m0 H0:=by
 intro i ah m H p k0 S g;refine⟨λhi=>?_,λd hd=>?_⟩
 · show i=z.cps.size;rw[hi];simp[Y7]
 · unfold Y7 at hd;rw[ak] at hd;cases hc:z.cps.toList[i]? with
   |none=>rw[hc] at hd;cases hd
   | some cc=>
    rw[hc] at hd;cases hd;have hi:i<z.cps.size:=by
     have:=(ac.mp hc).1
     simpa using this
    refine⟨hi,?_⟩;rintro v H' ⟨rfl,c',h1,rfl⟩;rw[Array.getElem?_toList] at hc;rw[hc] at h1;cases h1;exact⟨Keep.refl _ _,S,rfl⟩
theorem b2p{lo:Int}:a5Y Γ (Itr lo n) (a6u lo n) [] m0 H0:=by
 intro i ah m H p k0 S g;refine⟨λhi=>?_,λd hd=>?_⟩
 · show n<=i;rw[hi];simp[a6u]
 · unfold a6u at hd;rw[ak] at hd;cases hc:(List.range n)[i]? with
   |none=>rw[hc] at hd;cases hd
   |some j=>
    rw[hc] at hd;cases hd;obtain⟨h1,h2⟩:=ac.mp hc;rw[List.getElem_range] at h2;rw[aK] at h1;subst h2;refine⟨h1,?_⟩;rintro v H' ⟨rfl,rfl⟩;exact⟨Keep.refl _ _,S,rfl⟩
variable{tg a b:Expr}{x y:E}{pos p:Pos}
theorem c1P(C:Cxt X Γ G ct c Ex N sc bS)(ha:PE X a (TEv Γ Ex (ev ct c x))):PI X tg a (TIv Γ Ex (evi ct c (.seq x))):=by
 intro bC s σ H R I ⟨env,ah,m,rl,q⟩;rw[a2X] at q;cases hr:ev ct c x env ah with
 | ok d bL=>
  rw[hr,b8] at q;unfold M4 at q;split at q
  · refine b7D ha bC s σ H R I ⟨env,ah,m,rl,?_⟩;rw[hr];intro m1 H1 v p1 k1 s1 r1;cases r1;exact⟨_,rfl,(q m1 H1 p1 k1 s1) s1 _ b8m⟩
  · refine b7C ha bC s σ H R I ⟨env,ah,m,rl,?_⟩;rw[hr];intro m1 H1 v p1 k1 s1 r1;obtain⟨ad,vs,rfl,h1,q1⟩:=r1;exact⟨ad,rfl,⟨vs,.inl (.inl h1)⟩,(q m1 H1 p1 k1 s1) s1 _ (b8l h1 q1)⟩
  · rename_i n;refine b4S ha bC s σ H R I ⟨env,ah,m,rl,?_⟩;rw[hr];intro m1 H1 v p1 k1 s1 r1;split at q
    · rename_i l e;obtain⟨ad,vs,rfl,hm,h1,q1⟩:=s1.lst e r1;exact⟨ad,rfl,⟨vs,.inl (.inl h1)⟩,(q m1 H1 p1 k1 s1) s1 _ (a8U C.K (.inl rfl) hm)⟩
    · rename_i l e;obtain⟨ad,vs,rfl,hm,h1,q1⟩:=s1.rdL (l:=l) (by unfold rdL;rw[e]) r1;exact⟨ad,rfl,⟨vs,by rw[C.K];exact h1⟩,(q m1 H1 p1 k1 s1) s1 _ (a8U C.K (.inr rfl) hm)⟩
    · exact q.elim
  · exact q.elim
 |no=>rw[hr] at q;exact q.elim
theorem b9h(C:Cxt X Γ G ct c Ex N sc bS)(hg:Q1 sc "range"=true)(hm:X.mg "range"=none)(hp:r8 a=true)(ha:PE X a (TEv Γ Ex (ev ct c x))):PI X tg (.Call (.Name "range" p) [a] [] pos) (TIv Γ Ex (evi ct c (.rng1 x))):=by
 intro bC s σ H R I ⟨env,ah,m,rl,q⟩;refine a9R (C.gl hg) hm (Q7 ha a2b (i8 hp)) (i8 hp) bC s σ H R I ⟨env,ah,m,rl,?_⟩;refine j0.first rl q λd1 bL m1 H1 v1 p1 k1 bM r1 q1=>?_;unfold a4g at q1;split at q1
 · rename_i i j e1;cases e1;cases r1;split at q1
   · rename_i hh;refine⟨j,rfl,(L3 hh.2).1,(L3 hh.2).2,?_⟩;have:=q1.ok bM.sim bM.sim (Itr 0 (j-0).toNat) b2p
     rwa [Int.sub_zero] at this
   · exact q1.elim
 · exact q1.elim
theorem b9g(C:Cxt X Γ G ct c Ex N sc bS)(hg:Q1 sc "range"=true)(hm:X.mg "range"=none)(hp:r8 a=true)(eK:r8 b=true)(ha:PE X a (TEv Γ Ex (ev ct c x)))(hb:PE X b (TEv Γ Ex (ev ct c y))):PI X tg (.Call (.Name "range" p) [a,b] [] pos) (TIv Γ Ex (evi ct c (.rng2 x y))):=by
 intro bC s σ H R I ⟨env,ah,m,rl,q⟩;refine a9Q (C.gl hg) hm (Q7 ha (Q7 hb a2b (i8 eK)) (i8 hp)) (by rw[i8 hp,i8 eK];rfl) (i8 eK) bC s σ H R I ⟨env,ah,m,rl,?_⟩;refine j0.first rl q λd1 bL m1 H1 v1 p1 k1 bM r1 q1=>?_;refine⟨env,bL,m1,bM,j0.first bM q1 λd2 ck m2 H2 v2 p2 k2 cw r2 q2=>?_⟩;unfold a4g at q2;split at q2
 · cases r1;cases r2;split at q2
   · rename_i hh;exact⟨_,_,rfl,⟨(L3 hh.1).1,(L3 hh.1).2,(L3 hh.2).1,(L3 hh.2).2⟩,q2.ok cw.sim cw.sim _ b2p⟩
   · exact q2.elim
 · exact q2.elim
theorem c2N{g:Nat×Cell}{g':List (Nat×Cell)}(h:gOk (g::g') ah=true):ah[g.1]? =some g.2/\gOk g' ah=true:=by unfold gOk at h⊢;rw[all_cons,ae] at h;exact⟨aw h.1,h.2⟩
theorem W2{a:List D×Cell}(h:W3 ah n=some a):ah[n]? =some a.2/\(a.2=.lst a.1∨a.2=.rol a.1):=by
 unfold W3 at h;split at h
 · rename_i l e;cases h;exact⟨e,.inl rfl⟩
 · rename_i l e;cases h;exact⟨e,.inr rfl⟩
 · cases h
theorem a3c:∀{l l':List D} {i:Nat} {d:D},(Q6 l l')[i]? =some d->∃x y,l[i]? =some x/\l'[i]? =some y/\d=.tup [x,y]
 |[],l',i,d,h=>by simp[Q6] at h
 |x::xs,[],i,d,h=>by simp[Q6] at h
 |x::xs,y::ys,0,d,h=>by simp only[Q6,List.getElem?_cons_zero] at h;cases h;exact⟨x,y,rfl,rfl,rfl⟩
 |x::xs,y::ys,i+1,d,h=>by simp only[Q6,List.getElem?_cons_succ] at h;obtain⟨a,b,h1,h2,h3⟩:=a3c h;exact⟨a,b,by simpa using h1,by simpa using h2,h3⟩
theorem a3b:∀{l l':List D},↥l<=↥(Q6 l l')∨↥l'<=↥(Q6 l l')
 |[],l'=>.inl (ga _)
 |x::xs,[]=>.inr (ga _)
 |x::xs,y::ys=>by
  simp only[Q6,length_cons];rcases a3b (l:=xs) (l':=ys) with h|h
  · exact .inl (Nat.succ_le_succ h)
  · exact .inr (Nat.succ_le_succ h)
theorem b2o(hK:K=Γ.K){a:Addr}(h:cc=.lst l∨cc=.rol l)(h':cc'=.lst l'∨cc'=.rol l')(hm:m0[n]? =some a)(hm':m0[n']? =some a'):
 a5Y Γ (Itz K a a') (Q6 l l') [(n,cc),(n',cc')] m0 H0:=by
 intro i ah m H p k0 S g;obtain⟨g1,g2⟩:=c2N g;obtain⟨vs,h1,h2⟩:=D2 hK h S (p.get hm) g1;obtain⟨ws,h3,h4⟩:=D2 hK h' S (p.get hm') (b2N g2);refine⟨λhi=>⟨vs,ws,h1,h3,?_⟩,λd hd=>?_⟩
 · rw[h2.len,h4.len,hi];exact a3b
 · obtain⟨x,y,hx,hy,rfl⟩:=a3c hd;obtain⟨v,hv,rv⟩:=h2.get hx;obtain⟨u,hu,ru⟩:=h4.get hy;refine⟨⟨vs,ws,v,u,h1,h3,hv,hu⟩,?_⟩;rintro w H' ⟨T,z,z',hT,rfl,hw,hw',rfl⟩;have e1:=hw vs h1;have e2:=hw' ws h3;rw[hv] at e1;rw[hu] at e2;cases e1;cases e2;exact⟨Keep.new hT,S.new hT,T,[v,u],rfl,g9,v,[u],rfl,rv.mono (Pre.refl m) (Keep.new hT),u,[],rfl,ru.mono (Pre.refl m) (Keep.new hT),rfl⟩
theorem b5u(hK:K=Γ.K){a:Addr}(ha:H0 a=some (.tup vs))(r:Rps m0 H0 l vs)(h':cc'=.lst l'∨cc'=.rol l')(hm':m0[n']? =some a'):a5Y Γ (b9w K a a') (Q6 l l') [(n',cc')] m0 H0:=by
 intro i ah m H p k0 S g;have h1:SqT K H a vs:=.inl (.inl (k0.tup ha));obtain⟨ws,h3,h4⟩:=D2 hK h' S (p.get hm') (b2N g);have h2:=r.mono p k0;refine⟨λhi=>⟨vs,ws,h1,h3,?_⟩,λd hd=>?_⟩
 · rw[h2.len,h4.len,hi];exact a3b
 · obtain⟨x,y,hx,hy,rfl⟩:=a3c hd;obtain⟨v,hv,rv⟩:=h2.get hx;obtain⟨u,hu,ru⟩:=h4.get hy;refine⟨⟨vs,ws,v,u,h1,h3,hv,hu⟩,?_⟩;rintro w H' ⟨T,z,z',hT,rfl,hw,hw',rfl⟩;have e1:=hw vs h1;have e2:=hw' ws h3;rw[hv] at e1;rw[hu] at e2;cases e1;cases e2;exact⟨Keep.new hT,S.new hT,T,[v,u],rfl,g9,v,[u],rfl,rv.mono (Pre.refl m) (Keep.new hT),u,[],rfl,ru.mono (Pre.refl m) (Keep.new hT),rfl⟩
theorem c1M(C:Cxt X Γ G ct c Ex N sc bS)(hg:Q1 sc "zip"=true)(hm:X.mg "zip"=none)(hp:r8 a=true)(eK:r8 b=true)(ha:PE X a (TEv Γ Ex (ev ct c x)))(hb:PE X b (TEv Γ Ex (ev ct c y))):PI X (.Tuple dP kk tp) (.Call (.Name "zip" p) [a,b] [] pos) (TIv Γ Ex (evi ct c (.zip x y))):=by
 intro bC s σ H R I ⟨env,ah,m,rl,q⟩;refine b4R (C.gl hg) hm (Q7 ha (Q7 hb a2b (i8 eK)) (i8 hp)) (i8 hp) (V8 (by simp[eK])) bC s σ H R I ⟨env,ah,m,rl,?_⟩;refine j0.first rl q λd1 bL m1 H1 v1 p1 k1 bM r1 q1=>?_;refine⟨env,bL,m1,bM,j0.first bM q1 λd2 ck m2 H2 v2 p2 k2 cw r2 q2=>?_⟩;unfold a9v at q2;split at q2
 · split at q2
   · split at q2
     · rename_i e2;obtain⟨c2,w2⟩:=W2 e2;obtain⟨ad,vs,rfl,h1,g1⟩:=r1.mono p2 k2;obtain⟨ad',rfl,hm2⟩:=r2;obtain⟨ws,h2,_⟩:=D2 C.K w2 cw.sim hm2 c2;exact⟨ad,ad',vs,ws,rfl,.inr ⟨.inl (.inl h1),h2,q2.ok cw.sim cw.sim _ (b5u C.K h1 g1 w2 hm2)⟩⟩
     · exact q2.elim
   · exact q2.elim
 · unfold a6a at q2;split at q2
   · split at q2
     · rename_i e1 e2;obtain⟨c1,w1⟩:=W2 e1;obtain⟨c2,w2⟩:=W2 e2;obtain⟨ad,rfl,hm1⟩:=r1.mono p2 k2;obtain⟨ad',rfl,hm2⟩:=r2;obtain⟨vs,h1,_⟩:=D2 C.K w1 cw.sim hm1 c1;obtain⟨ws,h2,_⟩:=D2 C.K w2 cw.sim hm2 c2;exact⟨ad,ad',vs,ws,rfl,.inl ⟨h1,h2,q2.ok cw.sim cw.sim _ (b2o C.K w1 w2 hm1 hm2)⟩⟩
     · exact q2.elim
   · exact q2.elim
theorem b9f{nm:Str}(C:Cxt X Γ G ct c Ex N sc bS)(hg:Q1 sc "zip"=true)(hm:X.mg "zip"=none)(hp:r8 a=true)(eK:r8 b=true)(ha:PE X a (TEv Γ Ex (ev ct c x)))(hb:PE X b (TEv Γ Ex (ev ct c y))):PI X (.Name nm tp) (.Call (.Name "zip" p) [a,b] [] pos) (TIv Γ Ex (evi ct c (.zipn x y))):=by
 intro bC s σ H R I ⟨env,ah,m,rl,q⟩;refine b4Q (C.gl hg) hm (Q7 ha (Q7 hb a2b (i8 eK)) (i8 hp)) (i8 hp) (V8 (by simp[eK])) bC s σ H R I ⟨env,ah,m,rl,?_⟩;refine j0.first rl q λd1 bL m1 H1 v1 p1 k1 bM r1 q1=>?_;refine⟨env,bL,m1,bM,j0.first bM q1 λd2 ck m2 H2 v2 p2 k2 cw r2 q2=>?_⟩;unfold a6a at q2;split at q2
 · split at q2
   · rename_i e1 e2;obtain⟨c1,w1⟩:=W2 e1;obtain⟨c2,w2⟩:=W2 e2;obtain⟨ad,rfl,hm1⟩:=r1.mono p2 k2;obtain⟨ad',rfl,hm2⟩:=r2;obtain⟨vs,h1,_⟩:=D2 C.K w1 cw.sim hm1 c1;obtain⟨ws,h2,_⟩:=D2 C.K w2 cw.sim hm2 c2;exact⟨ad,ad',vs,ws,rfl,h1,h2,q2.ok cw.sim cw.sim _ (b2o C.K w1 w2 hm1 hm2)⟩
   · exact q2.elim
 · exact q2.elim
theorem b9l(C:Cxt X Γ G ct c Ex N sc bS)(hg:Q1 sc "enumerate"=true)(hm:X.mg "enumerate"=none)(hp:r8 a=true)(ha:PE X a (TEv Γ Ex (ev ct c x))):PI X (.Tuple dP kk tp) (.Call (.Name "enumerate" p) [a] [] pos) (TIv Γ Ex (evi ct c (.enum x))):=by
 intro bC s σ H R I ⟨env,ah,m,rl,q⟩;refine b4T (C.gl hg) hm (Q7 ha a2b (i8 hp)) (i8 hp) bC s σ H R I ⟨env,ah,m,rl,?_⟩;refine j0.first rl q λd1 bL m1 H1 v1 p1 k1 bM r1 q1=>?_;unfold T4 at q1;split at q1
 · split at q1
   · rename_i l e;obtain⟨ad,vs,rfl,hm,h1,_⟩:=bM.sim.lst e r1;exact⟨ad,vs,rfl,.inl (.inl h1),q1.ok bM.sim bM.sim _ (a8V C.K (.inl rfl) hm)⟩
   · rename_i l e;obtain⟨ad,vs,rfl,hm,h1,_⟩:=bM.sim.rdL (l:=l) (by unfold rdL;rw[e]) r1;exact⟨ad,vs,rfl,by rw[C.K];exact h1,q1.ok bM.sim bM.sim _ (a8V C.K (.inr rfl) hm)⟩
   · exact q1.elim
 · exact q1.elim
theorem b8n(hK:K=Γ.K){a:Addr}(h:cc=.lst l∨cc=.rol l)(hm:m0[n]? =some a):a5Y Γ (Itv K a ↥l) l.reverse [(n,cc)] m0 H0:=by intro i ah m H p k0 S g;obtain⟨vs,h1,h2⟩:=D2 hK h S (p.get hm) (b2N g);refine⟨λhi=>by rw[hi,List.length_reverse];rfl,λd hd=>?_⟩;have hi:=(ac.mp hd).1;rw[List.length_reverse] at hi;rw[List.getElem?_reverse hi] at hd;obtain⟨v,hv,rv⟩:=h2.get hd;refine⟨⟨vs,v,h1,hi,hv⟩,?_⟩;rintro w H' ⟨rfl,hw⟩;have:=hw vs h1;rw[hv] at this;cases this;exact⟨Keep.refl _ _,S,rv⟩
theorem c1Q{tg:Expr}(C:Cxt X Γ G ct c Ex N sc bS)(hg:Q1 sc "reversed"=true)(hm:X.mg "reversed"=none)(hp:r8 a=true)(ha:PE X a (TEv Γ Ex (ev ct c x))):PI X tg (.Call (.Name "reversed" p) [a] [] pos) (TIv Γ Ex (evi ct c (.rev x))):=by
 intro bC s σ H R I ⟨env,ah,m,rl,q⟩;refine b7E (C.gl hg) hm ha (i8 hp) bC s σ H R I ⟨env,ah,m,rl,?_⟩;refine j0.first rl q λd1 bL m1 H1 v1 p1 k1 bM r1 q1=>?_;unfold b1i at q1;split at q1
 · split at q1
   · rename_i a e;obtain⟨c1,w1⟩:=W2 e;obtain⟨ad,rfl,hm1⟩:=r1;obtain⟨vs,h1,h2⟩:=D2 C.K w1 bM.sim hm1 c1;refine⟨ad,vs,rfl,h1,?_⟩;rw[h2.len];exact q1.ok bM.sim bM.sim _ (b8n C.K w1 hm1)
   · exact q1.elim
 · exact q1.elim
end
variable{env:u5}{σ:St}{own:List Str}{p:Pat}{α:Type}{Q:VK}{it:I}{e:E}{cK:Expr}{iter:Expr}{tg:Expr}{scope:Scope}{pos:Pos}{frees:List Str}{op:CmpOp}{β:Type}
section
variable{X:Cx}{Γ:Gm}{G:GT}{ct:CT}{c:CF}{Ex:XK}{N:List Str}{sc:Scope}{bS:Bool}
theorem a7b(h:EnvRel m H env σ)(own:List Str)(js:List Nat):EnvRel m H (F9 ↥own js env) (F8 own js σ):=by
 refine⟨by simp[F9,F8],λi d e=>?_⟩;unfold F9 at e;unfold F8
 by_cases hi:i<↥own
 · rw[av (by simpa using hi),bB,ay hi] at e;cases e
 · have hi':↥own<=i:=aU hi;rw[au (by simpa using hi'),bj,ak] at e;rw[au (by simpa using hi'),aa,ak];cases hj:js[i-↥own]? with
   |none=>rw[hj] at e;cases e
   | some j=>
    rw[hj] at e;have e':(env[j]?).join=some d:=ax e;have e2:env[j]? =some (some d):=by
     cases q:env[j]? with
     |none=>rw[q] at e';cases e'
     |some z=>rw[q] at e';exact fM some e'
    obtain⟨v,h1,h2⟩:=h.val j d e2;exact⟨v,by rw[Option.map_some,h1];rfl,h2⟩
theorem b3X{js:List Nat}{σ4:St}(hp:(L8 p).all (λi=>decide (i<↥own))=true)(hl:↥σ4=↥(F8 own js σ))(hs:∀(j:Nat),j∉L8 p->σ4[j]? =(F8 own js σ)[j]?):Wk (F8 own js σ) σ4:=by
 refine⟨hl.symm,λi v h=>?_⟩;rw[hs i]
 · exact h
 · intro hm;have:=aw (bm.mp hp i hm);unfold F8 at h;rw[av (by simpa using this),ak] at h;cases q:own[i]? with
   |none=>rw[q] at h;cases h
   |some z=>rw[q] at h;cases h
theorem a8K{r:R α}{f:α->AH->R D}(h:i6 Γ Ex m H (r.bind f) Q):∃a ah,r=.ok a ah/\i6 Γ Ex m H (f a ah) Q:=by
 cases r with
 |ok a ah=>exact⟨a,ah,rfl,h⟩
 |no=>exact h.elim
theorem a7i {js:List Nat} {t:T} (hp:(L8 p).all (λi=>decide (i<↥own))=true):∀σ H Q,TEv Γ Ex (ev ct c (.comp p it ↥own js t e)) σ H Q->a8t own js (TIv Γ Ex (evi ct c it)) (TGv Γ p) (TTv Γ E0 (tst ct c t)) (TEv Γ E0 (ev ct c e)) σ H Q:=by
 rintro σ H Q ⟨env,ah,m,rl,q⟩;refine⟨env,ah,m,rl,q.bind.mp λx bL m1 H1 p1 k1 s1 q1=>λ_ J hJ D hD=>?_⟩;have er1:=rl.env.mono p1 k1;refine⟨λi mm ys H2=>mm=↥x.1-i/\i<=↥x.1/\∃bP ck m2,Sim Γ ck m2 H2/\Pre m1 m2/\Keep m1 m2 H1 H2/\D∉m2/\H2 D=some (.lst ys)/\Rps m2 H2 bP ys∧
  i6 Γ Ex m1 H1 ((P0 x.2 p (tst ct c t) (ev ct c e) (F9 ↥own js env) (x.1.drop i) bP ck).bind λds h2=>v8 (.lst ds) h2) Q,?_,?_⟩
 · exact⟨_,rfl,ga _,[],bL,m1,s1.new hD,Pre.refl _,Keep.new hD,s1.fresh hD,g9,rfl,q1⟩
 · rintro i mm ys H2 ⟨hmm,hil,bP,ck,m2,s2,p2,k2,nD,hD2,rs2,q2⟩
   by_cases di:i=↥x.1
   · refine .inl ?_;rw[di,drop_length] at q2;obtain⟨ds,fb,e3,q3⟩:=a8K q2;unfold P0 at e3;split at e3
     · rename_i hgk;cases e3;refine⟨(hJ i ck m2 H2 p2 k2 s2 hgk).1 di,?_⟩;have sm:Sim Γ (ck++[.lst bP]) (m2++[D]) H2:=by
        refine⟨by simp[s2.len],a0Y s2.nd nD,λn a cc hn dD=>?_⟩;have kk:Keep m2 m2 H2 H2:=Keep.refl _ _
        by_cases hl:n<↥m2
        · rw[av hl] at hn;rw[av (by rw[←s2.len];exact hl)] at dD;exact(s2.at hn dD).mono' (Pre.snoc m2 D) (λ_ _ _ z=>z) rfl
        · have hn':n=↥m2:=by have:=(ac.mp hn).1;simp at this;ac_nf
          subst hn';rw[au (aj _)] at hn;rw[s2.len,au (aj _)] at dD;simp at hn dD;subst hn;subst dD;exact⟨ys,hD2,rs2.mono' (Pre.snoc m2 D) λ_ _ _ z=>z⟩
       refine q3 (m2++[D]) H2 (.ref D) (p2.trans (Pre.snoc m2 D)) ⟨k2.im,k2.out,λa ha=>?_⟩ sm ⟨D,rfl,?_⟩
       · rcases aL.mp ha with z|z
         · exact k2.fr a z
         · simp at z;subst z;exact .inr hD
       · rw[←s2.len,au (aj _)];simp
     · cases e3
   · refine .inr ?_;have hlt:i<↥x.1:=Nat.lt_of_le_of_ne hil di;have hdi:x.1[i]? =some x.1[i]:=ai hlt;rw[drop_eq_getElem_cons hlt] at q2;generalize hdd:x.1[i]=dd at q2 hdi;obtain⟨ds,fb,e3,q3⟩:=a8K q2;unfold P0 at e3;split at e3
     · rename_i hgk;obtain⟨go,yl⟩:=(hJ i ck m2 H2 p2 k2 s2 hgk).2 dd hdi;refine⟨go,λv H3 hy=>?_⟩;obtain⟨k3,s3,r3⟩:=yl v H3 hy;split at e3
       · cases e3
       · rename_i envb hb;have er3:EnvRel m2 H3 (F9 ↥own js env) (F8 own js σ):=a7b ((er1.mono p2 k2).mono (Pre.refl m2) k3) own js;refine⟨_,dd,m2,envb,er3,r3,hb,λσ4 er4 l4 s4=>⟨b3X hp l4 s4,envb,ck,m2,⟨s3,er4⟩,?_⟩⟩;have hD3:H3 D=some (.lst ys):=k3.out D _ nD hD2;have ab:∀{m9:List Addr} {H9:Hp},Pre m2 m9->Keep m2 m9 H3 H9->D∉m9/\H9 D=some (.lst ys):=fun{m9 H9} p9 k9=>
          ⟨λz=>(k9.fr D z).elim nD λy=>(by rw[hD3] at y;cases y),k9.out D _ nD hD3⟩
         cases ht:tst ct c t envb ck with
         |no=>rw[ht] at e3;cases e3
         | ok bb ah4=>
          rw[ht,b8] at e3;intro m5 H5 p5 k5 s5;obtain⟨nD5,hD5⟩:=ab p5 k5;have k25:=k3.trans k5;cases bb with
          |false=>
           rw[az ∅] at e3;refine b8k ⟨↥x.1-(i+1),by ac_nf,rfl,hlt,bP,ah4,m5,s5,p2.trans p5,k2.trans k25,nD5,hD5,rs2.mono p5 k25,?_⟩;rw[e3];exact q3
          | true=>
           rw[ay rfl] at e3;refine b8j ⟨envb,ah4,m5,⟨s5,er4.mono p5 k5⟩,?_⟩;cases hv:ev ct c e envb ah4 with
           |no=>rw[hv] at e3;cases e3
           | ok d6 ah6=>
            rw[hv,b8] at e3;split at e3
            · rename_i hz;intro m6 H6 v6 p6 k6 s6 r6;have k36:=k5.trans k6;obtain⟨nD6,hD6⟩:=ab (p5.trans p6) k36;have rs6:=rs2.mono (p5.trans p6) (k25.trans k6);have im6:KIm H6 (upd H6 D (.lst (ys++[v6]))):=λb o io hbo=>by
               have:b≠D:=λz=>by rw[z,hD6] at hbo;cases hbo;exact io
               rw[j9 this];exact hbo
              refine⟨hD6,by rw[rs6.len,←S9];exact hz,↥x.1-(i+1),by ac_nf,rfl,hlt,bP++[d6],ah6,m6,?_,p2.trans (p5.trans p6),?_,nD6,g9,(rs6.snoc r6).mono' (Pre.refl m6) im6,?_⟩
              · refine⟨s6.len,s6.nd,λn a cc hn dD=>(s6.at hn dD).mono' (Pre.refl m6) im6 ?_⟩;exact j9 λz=>nD6 (by rw[←z];exact aH hn)
              · have kall:=k2.trans (k25.trans k6);refine⟨λb o io hb=>im6 b o io (kall.im b o io hb),λb o nb hb=>?_,kall.fr⟩;rw[j9 (y0 hb hD)];exact kall.out b o nb hb
              · rw[e3];exact q3
            · cases e3
     · cases e3
theorem b9q{ifs:List Expr}{js:List Nat}{t:T}(C:Cxt X Γ G ct c Ex N sc bS)(hi:PI X tg iter (TIv Γ Ex (evi ct c it)))(S:CompScope X.env.scope scope own frees)(hj:frees.map some=js.map (X.N[·]?))
 (hg:∀C s₀ H₀ ex,PG (w6 X own frees scope C s₀ H₀ ex) tg (TGv Γ p)) (hc:∀C s₀ H₀ ex,a7s (w6 X own frees scope C s₀ H₀ ex) ifs (TTv Γ E0 (tst ct c t))) (he:∀C s₀ H₀ ex,PE (w6 X own frees scope C s₀ H₀ ex) cK (TEv Γ E0 (ev ct c e)))
 (hs:∀x,foldedSetIterable iter X.env x=pure x) (hp:(L8 p).all (λi=>decide (i<↥own))=true):PE X (.ListComp cK [⟨tg,iter,ifs,0⟩] scope pos) (TEv Γ Ex (ev ct c (.comp p it ↥own js t e))):=by
 exact PE.imp (a6y C.calm hi S hj hg hc he hs) (a7i hp)
theorem Cxt.comp(C:Cxt X Γ G ct c Ex N sc bS)(S:CompScope sc scope own frees)(D:Addr)(s₀:Shared)(H₀:Hp)(ex:List Addr):Cxt (w6 X own frees scope D s₀ H₀ ex) Γ G ct c E0 (own++frees) (a8G sc scope) false where
 hN:=rfl
 nd:=S.nd
 sc:=by rw[←C.sc];rfl
 calm:=C.calm
 hu:=C.hu
 K:=C.K
 fnb:=λh=>by cases h
 scal:=C.scal
 tups:=C.tups
 dicts:=C.dicts
 blt:=C.blt
 fn:=C.fn
 obj:=C.obj
 att:=C.att
theorem a8Z:∀{l:List Str} {js:List Nat},b5y N l=some js->l.map some=js.map (N[·]?)
 |[],js,h=>by cases h;rfl
 |x::r,js,h=>by
  unfold b5y at h;split at h
  · rename_i i is h1 h2;cases h;rw[map_cons,map_cons,a5B h1,a8Z h2]
  · cases h
theorem a0J{o:B}(h:a8l op=some o):o.cmp=some op:=by cases op<;>cases h<;>rfl
theorem b6s{op:Operator}{o:B}(h:c1B op=some o):o.bin=some op:=by cases op<;>cases h<;>rfl
theorem T8{b:Expr}(h:a1z b=true):behindInMarks op b=false:=by cases b<;>first|rfl|cases h
theorem a0Z{e:Expr}{env:Env}(h:a1z e=true):∀x,foldedSetIterable e env x=pure x:=by intro x;cases e<;>first|rfl|cases h
theorem a3y{b:Expr}(h:a2V b=true):a3a b:=by intro o i;cases b<;>first|rfl|cases h
def a1T(Γ:Gm)(G:GT)(ct:CT)(c:CF)(n:Nat):Prop:=∀(X:Cx) (Ex:XK) (N:List Str) (sc:Scope) (bS:Bool),Cxt X Γ G ct c Ex N sc bS→
 (∀e x,cE G N sc n e=some x->PE X e (TEv Γ Ex (ev ct c x)))/\(∀es xs,cEs G N sc n es=some xs->PA X es (TAv Γ Ex (evs ct c xs))/\es.all r8=true)∧
 (∀e t,cT G N sc n e=some t->PT X e (TTv Γ Ex (tst ct c t))/\∀op l p,e=.BoolOp op l p->PW X e (TTv Γ Ex (tst ct c t)))/\(∀o x,cO G N sc n o=some x->PO X o (TOv Γ Ex (evo ct c x)))∧
 ∀tg e it,cI G N sc n tg e=some it->PI X tg e (TIv Γ Ex (evi ct c it))
theorem b3O:a1T Γ G ct c 0:=λX Ex N sc bS C=>
 ⟨λe x h=>absurd (show none=some x from h) ⋯,λe x h=>absurd (show none=some x from h) ⋯,λe x h=>absurd (show none=some x from h) ⋯,λe x h=>absurd (show none=some x from h) ⋯,λtg e x h=>absurd (show none=some x from h) ⋯⟩
theorem b3K(ih:a1T Γ G ct c n)(C:Cxt X Γ G ct c Ex N sc bS):∀es xs,cEs G N sc (n+1) es=some xs->PA X es (TAv Γ Ex (evs ct c xs))/\es.all r8=true:=by
 intro es xs h;obtain⟨i1,i2,_⟩:=ih X Ex N sc bS C;replace h:sEs G (cR G n) N sc es=some xs:=h;unfold sEs at h;split at h
 · cases h;exact⟨c1U,rfl⟩
 · obtain⟨hp,h⟩:=ifs h;split at h
   · rename_i x xs' h1 h2;cases h;obtain⟨g1,g2⟩:=i2 _ xs' h2;exact⟨b9p (i1 _ x h1) g1 (i8 hp),by rw[all_cons,hp,g2];rfl⟩
   · cases h
theorem map_some{o:Option α}{f:α->β}{b:β}(h:o.map f=some b):∃a,o=some a/\f a=b:=Option.map_eq_some_iff.mp h
theorem b6o(ih:a1T Γ G ct c n)(C:Cxt X Γ G ct c Ex N sc bS):∀o x,cO G N sc (n+1) o=some x->PO X o (TOv Γ Ex (evo ct c x)):=by
 intro o x h;obtain⟨i1,i2,_⟩:=ih X Ex N sc bS C;replace h:sO G (cR G n) N sc o=some x:=h;unfold sO at h;split at h
 · cases h;exact c3c
 · obtain⟨y,h1,rfl⟩:=map_some h;exact c3b (i1 _ y h1)
theorem b6p(ih:a1T Γ G ct c n)(C:Cxt X Γ G ct c Ex N sc bS):∀tg e it,cI G N sc (n+1) tg e=some it->PI X tg e (TIv Γ Ex (evi ct c it)):=by
 intro tg e it h;obtain⟨i1,i2,_⟩:=ih X Ex N sc bS C;have seq:∀{e:Expr} {it:I},(cE G N sc n e).map I.seq=some it->PI X tg e (TIv Γ Ex (evi ct c it)):=by intro e it h;obtain⟨x,h1,rfl⟩:=map_some h;exact c1P C (i1 _ _ h1)
 replace h:sI G (cR G n) N sc tg e=some it:=h;unfold sI at h;split at h
 · split at h
   · rename_i hc;rw[ae,ae] at hc;obtain⟨⟨hg,hb⟩,hx⟩:=hc;have hx:=aw hx;subst hx;have hm:=C.blt _ hb;split at h
     · obtain⟨hp,h⟩:=ifs h;obtain⟨x,h1,rfl⟩:=map_some h;exact b9h C hg hm hp (i1 _ _ h1)
     · obtain⟨hp,h⟩:=ifs h;rw[ae] at hp;split at h
       · rename_i h1 h2;cases h;exact b9g C hg hm hp.1 hp.2 (i1 _ _ h1) (i1 _ _ h2)
       · cases h
     · cases h
   · split at h
     · rename_i hc;rw[ae,ae] at hc;obtain⟨⟨hg,hb⟩,hx⟩:=hc;have hx:=aw hx;subst hx;have hm:=C.blt _ hb;split at h
       · obtain⟨hp,h⟩:=ifs h;obtain⟨x,h1,rfl⟩:=map_some h;exact b9l C hg hm hp (i1 _ _ h1)
       · cases h
     · split at h
       · rename_i hc;rw[ae,ae] at hc;obtain⟨⟨hg,hb⟩,hx⟩:=hc;have hx:=aw hx;subst hx;have hm:=C.blt _ hb;split at h
         · obtain⟨hp,h⟩:=ifs h;rw[ae] at hp;split at h
           · rename_i h1 h2;cases h;exact c1M C hg hm hp.1 hp.2 (i1 _ _ h1) (i1 _ _ h2)
           · cases h
         · obtain⟨hp,h⟩:=ifs h;rw[ae] at hp;split at h
           · rename_i h1 h2;cases h;exact b9f C hg hm hp.1 hp.2 (i1 _ _ h1) (i1 _ _ h2)
           · cases h
         · cases h
       · split at h
         · rename_i hc;rw[ae,ae] at hc;obtain⟨⟨hg,hb⟩,hx⟩:=hc;have hx:=aw hx;subst hx;have hm:=C.blt _ hb;split at h
           · obtain⟨hp,h⟩:=ifs h;obtain⟨x,h1,rfl⟩:=map_some h;exact c1Q C hg hm hp (i1 _ _ h1)
           · cases h
         · exact seq h
 · exact seq h
theorem c0O{a b:Expr}{x:E}(ih:a1T Γ G ct c n)(C:Cxt X Γ G ct c Ex N sc bS)(h1:cE G N sc n a=some x){k:E->α}{y:α}(h:(match b with
       | .Name y _=>if Q1 sc y then(match op,G.tups.lookup y with
         |.In,some ds=>some (k (.gin false x ds))
         |.NotIn,some ds=>some (k (.gin true x ds))
         |.In,none=>(G.dicts.lookup y).map λbD=>k (.gdin false x bD)
         |.NotIn,none=>(G.dicts.lookup y).map λbD=>k (.gdin true x bD)
         |_,_=>none) else none
       |_=>none)=some y):∃g,y=k g/\PE X (.Compare a [op] [b] pos) (TEv Γ Ex (ev ct c g))/\PT X (.Compare a [op] [b] pos) (TTv Γ Ex (tst ct c (.val g))):=by
 obtain⟨i1,i2,_⟩:=ih X Ex N sc bS C;split at h
 · split at h
   · rename_i hg;split at h
     · rename_i ds hd;cases h;exact⟨_,rfl,b6O C (.inl ⟨rfl,rfl⟩) hg hd (i1 _ _ h1)⟩
     · rename_i ds hd;cases h;exact⟨_,rfl,b6O C (.inr ⟨rfl,rfl⟩) hg hd (i1 _ _ h1)⟩
     · obtain⟨bD,hd,rfl⟩:=map_some h;exact⟨_,rfl,b3T C (.inl ⟨rfl,rfl⟩) hg hd (i1 _ _ h1)⟩
     · obtain⟨bD,hd,rfl⟩:=map_some h;exact⟨_,rfl,b3T C (.inr ⟨rfl,rfl⟩) hg hd (i1 _ _ h1)⟩
     · cases h
   · cases h
 · cases h
theorem a8W{b:Expr}(h:b8o b=true):∃p q,b=.Constant .none p q:=by
 cases b<;>first|(cases h;done)|skip
 rename_i k p q;cases k<;>first|(cases h;done)|exact⟨_,_,rfl⟩
theorem b1M(h:a7H op=some true):op=.Is:=by cases op<;>first|rfl|(cases h;done)
theorem b1N(h:(a7H op).isSome=true)(h':a7H op=some true->False):op=.IsNot:=by cases op<;>first|rfl|(cases h;done)|exact(h' rfl).elim
theorem b4u{b:Expr}{lo hi:Option Expr}(h:b9R b=some (lo,hi)):∃p,b=.Slice lo hi none p:=by
 cases b<;>first|(cases h;done)|skip
 rename_i a c st p;cases st<;>first|(cases h;done)|(cases h;exact⟨_,rfl⟩)
theorem b6n (ih:a1T Γ G ct c n) (C:Cxt X Γ G ct c Ex N sc bS):∀e t,cT G N sc (n+1) e=some t->PT X e (TTv Γ Ex (tst ct c t))/\∀op l p,e=.BoolOp op l p->PW X e (TTv Γ Ex (tst ct c t)):=by
 intro e t h;obtain⟨i1,i2,i3,_⟩:=ih X Ex N sc bS C;replace h:sT G (cR G n) N sc e=some t:=h;have dflt:∀{e:Expr},sTd G (cR G n) N sc e=some t->PT X e (TTv Γ Ex (tst ct c t))/\∀op l p,e=.BoolOp op l p->PW X e (TTv Γ Ex (tst ct c t)):=by
  intro e h;unfold sTd at h;obtain⟨hp,h⟩:=ifs h;obtain⟨y,h1,rfl⟩:=map_some h;refine⟨c1N ?_ (i1 _ y h1),λ_ _ _ z=>?_⟩
  · intro da;cases e<;>first|rfl|(cases hp;done)
  · subst z;cases hp
 unfold sT at h;split at h
 · split at h
   · obtain⟨y,h1,rfl⟩:=map_some h;exact⟨c1T (i3 _ y h1).1,λ_ _ _ z=>nomatch z⟩
   · exact dflt h
 · rename_i op l p;split at h
   · exact dflt h
   · split at h
     · rename_i a _;have g:PW X (.BoolOp op [a] p) (TTv Γ Ex (tst ct c t)):=by
        cases op
        · exact b4G (i3 _ t h).1
        · exact b7r (i3 _ t h).1
       exact⟨g.pt,λ_ _ _ _=>g⟩
     · split at h
       · split at h
         · rename_i h1 h2;cases h;have g:=c2d (i3 _ _ h1).1 ((i3 _ _ h2).2 _ _ _ rfl);exact⟨g.pt,λ_ _ _ _=>g⟩
         · cases h
       · split at h
         · rename_i h1 h2;cases h;have g:=c1S (i3 _ _ h1).1 ((i3 _ _ h2).2 _ _ _ rfl);exact⟨g.pt,λ_ _ _ _=>g⟩
         · cases h
 · split at h
   · cases h
   · split at h
     · cases h
     · split at h
       · split at h
         · unfold b9T at h;split at h
           · rename_i hc;rw[ae] at hc;obtain⟨p,q,rfl⟩:=a8W hc.1;split at h
             · rename_i ho;cases b1M ho;obtain⟨y,h1,rfl⟩:=map_some h;exact⟨b9j (i1 _ y h1),λ_ _ _ z=>nomatch z⟩
             · rename_i ho;cases b1N hc.2 ho;obtain⟨y,h1,rfl⟩:=map_some h;exact⟨b6x (i1 _ y h1),λ_ _ _ z=>nomatch z⟩
           · obtain⟨hs,h⟩:=ifs h;split at h
             · rename_i h0 h1 h2;cases h;exact⟨b9r C.hu C.K (a0J h0) (i1 _ _ h1) (i1 _ _ h2) (T8 hs),λ_ _ _ z=>nomatch z⟩
             · rename_i h0 h1 h2;obtain⟨gg,rfl,_,g⟩:=c0O (k:=T.val) ih C h1 h;exact⟨g,λ_ _ _ z=>nomatch z⟩
             · cases h
         · cases h
       · split at h
         · cases h
         · split at h
           · rename_i ht;rw[ae] at ht;obtain⟨t1,t2⟩:=ht;cases isEmpty_iff.mp t1;cases isEmpty_iff.mp t2;unfold b9S at h;obtain⟨hs,h⟩:=ifs h;split at h
             · rename_i h0 h0' h1 h2 h3;cases h;exact⟨b9s C.hu C.K (a0J h0) (a0J h0') (i1 _ _ h1) (i1 _ _ h2) (i1 _ _ h3) (T8 hs),λ_ _ _ z=>nomatch z⟩
             · cases h
           · cases h
 · exact dflt h
end
variable{x:Str}
section
variable{X:Cx}{Γ:Gm}{G:GT}{ct:CT}{c:CF}{Ex:XK}{N:List Str}{sc:Scope}{bS:Bool}
theorem b4a{l:List Expr}{a b:Expr}(h:b6V l=some (a,b)):l=[a,b]:=by
 unfold b6V at h;split at h
 · cases h
 · split at h
   · cases h
   · obtain⟨e,h⟩:=ifs h;cases isEmpty_iff.mp e;cases h;rfl
theorem a2F{ifs:List Expr}{x:E}(ih:a1T Γ G ct c n)(C:Cxt X Γ G ct c Ex N sc bS)(h:sLc G (cR G n) N sc cK tg iter ifs scope=some x):
 ∃p it js t y,x=.comp p it ↥(w8 8 tg) js t y/\PI X tg iter (TIv Γ Ex (evi ct c it))/\CompScope X.env.scope scope (w8 8 tg) (F5 scope)/\(F5 scope).map some=js.map (X.N[·]?)∧
  (∀D s₀ H₀ ex,PG (w6 X (w8 8 tg) (F5 scope) scope D s₀ H₀ ex) tg (TGv Γ p))/\(∀D s₀ H₀ ex,a7s (w6 X (w8 8 tg) (F5 scope) scope D s₀ H₀ ex) ifs (TTv Γ E0 (tst ct c t)))/\(∀D s₀ H₀ ex,PE (w6 X (w8 8 tg) (F5 scope) scope D s₀ H₀ ex) cK (TEv Γ E0 (ev ct c y)))∧
  (∀v,foldedSetIterable iter X.env v=pure v)/\(L8 p).all (λi=>decide (i<↥(w8 8 tg)))=true:=by
 obtain⟨i1,i2,i3,i4,i5⟩:=ih X Ex N sc bS C;unfold sLc at h;split at h
 · rename_i it em;split at h
   · rename_i js hjs;split at h
     · rename_i hc;rw[ae] at hc;have S0:CompScope sc scope (w8 8 tg) (F5 scope):=c1s hc.1;have S:CompScope X.env.scope scope (w8 8 tg) (F5 scope):=by rw[C.sc];exact S0
       have hj:(F5 scope).map some=js.map (X.N[·]?):=by rw[C.hN];exact a8Z hjs
       split at h
       · rename_i p y hp hy;split at h
         · rename_i hall;have pg:∀D s₀ H₀ ex,PG (w6 X (w8 8 tg) (F5 scope) scope D s₀ H₀ ex) tg (TGv Γ p):=λD s₀ H₀ ex=>((b3S (C.comp S0 D s₀ H₀ ex) 8).1 tg p hp).1;have pe:∀D s₀ H₀ ex,PE (w6 X (w8 8 tg) (F5 scope) scope D s₀ H₀ ex) cK (TEv Γ E0 (ev ct c y)):=λD s₀ H₀ ex=>(ih _ _ _ _ _ (C.comp S0 D s₀ H₀ ex)).1 cK y hy;split at h
           · cases h;refine⟨p,it,js,.yes,y,rfl,i5 _ _ _ em,S,hj,pg,λD s₀ H₀ ex=>?_,pe,a0Z hc.2,hall⟩;intro bC s σ H Q I q;refine b7B bC s σ H Q I ?_;obtain⟨env,ah,m,rl,q⟩:=q;exact q.ok rl.sim
           · obtain⟨z,h1,rfl⟩:=map_some h;exact⟨p,it,js,z,y,rfl,i5 _ _ _ em,S,hj,pg,λD s₀ H₀ ex=>b4O ((ih _ _ _ _ _ (C.comp S0 D s₀ H₀ ex)).2.2.1 _ z h1).1,pe,a0Z hc.2,hall⟩
           · cases h
         · cases h
       · cases h
     · cases h
   · cases h
 · cases h
theorem b6q (ih:a1T Γ G ct c n) (C:Cxt X Γ G ct c Ex N sc bS):∀e x,cE G N sc (n+1) e=some x->PE X e (TEv Γ Ex (ev ct c x)):=by
 intro e x h;obtain⟨i1,i2,i3,i4,i5⟩:=ih X Ex N sc bS C;replace h:sE G (cR G n) N sc e=some x:=h;unfold sE at h;split at h
 · unfold b9W at h;split at h
   · cases h;exact a_k (dd:=.int _) b1D (λ_ _=>rfl) c ct
   · cases h;exact a_k (dd:=.str _) b1A (λ_ _=>rfl) c ct
   · cases h;exact a_k (dd:=.bl _) c0j (λ_ _=>rfl) c ct
   · cases h;exact a_k (dd:=.non) b7L (λ_ _=>rfl) c ct
   · cases h
 · -- Name
   split at h
   · rename_i i hs;cases h;unfold slot at hs;obtain⟨hv,hs⟩:=ifs hs;rw[ae,ae] at hv;exact a_v (by rw[C.hN];exact a5B hs) (C.vis hv.1.1) (beq_eq_false_iff_ne.mpr (aw hv.1.2)) (beq_eq_false_iff_ne.mpr (aw hv.2)) c ct
   · obtain⟨hg,h⟩:=ifs h;obtain⟨d,h1,rfl⟩:=map_some h;obtain⟨u,v,s1,s2,s3⟩:=C.scal _ d h1;exact a_k (a2R (C.gl hg) s1 s2 (a0j hg).2.1) s3 c ct
 · split at h
   · rename_i h0 h1 h2;cases h;exact c2b (b6s h0) (i1 _ _ h1) (i1 _ _ h2)
   · cases h
 · unfold sUn at h;split at h
   · obtain⟨y,h1,rfl⟩:=map_some h;exact c1V (i1 _ y h1)
   · obtain⟨y,h1,rfl⟩:=map_some h;exact c3d (i1 _ y h1)
   · cases h
 · unfold sBo at h;split at h
   · cases h
   · split at h
     · exact b7J (i1 _ x h)
     · split at h
       · split at h
         · rename_i h1 h2;cases h;exact c3i (i1 _ _ h1) (i1 _ _ h2)
         · cases h
       · split at h
         · rename_i h1 h2;cases h;exact c1R (i1 _ _ h1) (i1 _ _ h2)
         · cases h
 · split at h
   · cases h
   · split at h
     · cases h
     · split at h
       · split at h
         · unfold b9Y at h;split at h
           · rename_i hc;rw[ae] at hc;obtain⟨p,q,rfl⟩:=a8W hc.1;split at h
             · rename_i ho;cases b1M ho;obtain⟨y,h1,rfl⟩:=map_some h;exact c1X (i1 _ y h1)
             · rename_i ho;cases b1N hc.2 ho;obtain⟨y,h1,rfl⟩:=map_some h;exact b9i (i1 _ y h1)
           · obtain⟨hs,h⟩:=ifs h;split at h
             · rename_i h0 h1 h2;cases h;exact c1Z C.hu C.K (a0J h0) (i1 _ _ h1) (i1 _ _ h2) (T8 hs)
             · rename_i h0 h1 h2;obtain⟨gg,rfl,g,_⟩:=c0O (k:=λg=>g) ih C h1 h;exact g
             · cases h
         · cases h
       · split at h
         · cases h
         · split at h
           · rename_i ht;rw[ae] at ht;obtain⟨t1,t2⟩:=ht;cases isEmpty_iff.mp t1;cases isEmpty_iff.mp t2;unfold b9X at h;obtain⟨hs,h⟩:=ifs h;split at h
             · rename_i h0 h0' h1 h2 h3;cases h;exact c2a C.hu C.K (a0J h0) (a0J h0') (i1 _ _ h1) (i1 _ _ h2) (i1 _ _ h3) (T8 hs)
             · cases h
           · cases h
 · rename_i z1 z2 z3 z4 z5 z6;clear z1 z2 z3 z4 z5 z6;unfold sE2 at h;split at h
   · unfold sSl at h;split at h
     · rename_i hs0;obtain⟨q,rfl⟩:=b4u hs0;split at h
       · rename_i h1 h2 h3;cases h;exact c3a C.K (i1 _ _ h1) (i4 _ _ h2) (i4 _ _ h3)
       · cases h
     · obtain⟨hs,h⟩:=ifs h;split at h
       · rename_i h1 h2;cases h;exact c3g C.hu C.K (i1 _ _ h1) (i1 _ _ h2) (a3y hs)
       · rename_i h1 h2;split at h
         · obtain⟨hg,h⟩:=ifs h;obtain⟨bD,hd,rfl⟩:=map_some h;exact b9k C hg hd (i1 _ _ h2) (a3y hs)
         · cases h
       · cases h
   · obtain⟨hb,h⟩:=ifs h;rw[ae] at hb;obtain⟨y,h1,rfl⟩:=map_some h;exact c1Y C hb.1 hb.2 (i1 _ y h1)
   · obtain⟨y,h1,rfl⟩:=map_some h;exact c1W (i2 _ y h1).1
   · obtain⟨y,h1,rfl⟩:=map_some h;exact c1O (i2 _ y h1).1
   · split at h
     · split at h
       · cases h;exact b9m
       · cases h
     · obtain⟨bD,h1,h⟩:=Option.bind_eq_some_iff.mp h;obtain⟨hk,h⟩:=ifs h;cases h;exact b9n (cons_ne_nil _ _) h1 hk
   · rename_i f as ks ca;split at h
     · rename_i hk0;cases isEmpty_iff.mp hk0;split at h
       · rename_i nm np0;unfold sCn at h;split at h
         · rename_i hg;split at h
           · rename_i f np hf;obtain⟨hl,h⟩:=ifs h;obtain⟨y,h1,rfl⟩:=map_some h;obtain⟨g1,g2⟩:=i2 _ y h1;rw[ae] at hl;have eY:=aw hl.2;cases as with
             |nil=>exact absurd rfl eY
             |cons a r=>exact b9t C hf hg g2 g1
           · split at h
             · rename_i k hk;obtain⟨he,h⟩:=ifs h;cases h;subst he;exact c3f C hk hg
             · split at h
               · rename_i hb;have hm:=C.blt _ hb;split at h
                 · rename_i b hbi;obtain⟨eY,h⟩:=ifs h;obtain⟨y,h1,rfl⟩:=map_some h;obtain⟨g1,g2⟩:=i2 _ y h1;cases as with
                   |nil=>exact absurd rfl eY
                   |cons a r=>exact c3h C hbi hg hm g2 g1
                 · cases h
               · cases h
         · cases h
       · rename_i o mm cu;unfold sCa at h;split at h
         · rename_i hc;rw[ae,ae] at hc;obtain⟨⟨c1,c2⟩,c3⟩:=hc;cases aw c3;unfold b9V at h;split at h
           · rename_i h2;cases b4a h2;obtain⟨hp,h⟩:=ifs h;rw[ae] at hp;split at h
             · rename_i h3 h4 h5;cases h;exact b9o C c1 c2 hp.1 hp.2 (i1 _ _ h3) (i1 _ _ h4) (i1 _ _ h5)
             · cases h
           · cases h
         obtain⟨hc,h⟩:=ifs h;rw[ae,ae,ae] at hc;obtain⟨⟨⟨c1,c2⟩,c3⟩,c4⟩:=hc;have c3:=aw c3;have c4:=aw c4;split at h
         · rename_i h0 h1 h2;cases h;obtain⟨g1,g2⟩:=i2 _ _ h2;cases as with
           |nil=>exact absurd rfl c4
           |cons a r=>exact c3e C h0 c1 c2 c3 g2 (i1 _ _ h1) g1
         · cases h
       · cases h
     · cases h
   · split at h
     · cases h
     · rename_i g t;obtain⟨hg0,h⟩:=ifs h;rw[ae] at hg0;obtain⟨tg,iter,ifs,a⟩:=g;cases isEmpty_iff.mp hg0.1;have ha:a=0:=aw hg0.2;subst ha;obtain⟨p,it,js,t,y,rfl,j1,j2,j3,j4,j5,j6,j7,j8⟩:=a2F ih C h;exact b9q C j1 j2 j3 j4 j5 j6 j7 j8
   · cases h
theorem a1p:∀n,a1T Γ G ct c n
 |0=>b3O
 |n+1=>λX Ex N sc bS C=>⟨b6q (a1p n) C,b3K (a1p n) C,b6n (a1p n) C,b6o (a1p n) C,b6p (a1p n) C⟩
end
def SQ(D:Ends):Out->AH->List Addr->Hp->Prop:=λo _ m1 H1=>match o with
 |.nx bG=>∀bQ,EnvRel m1 H1 bG bQ->D.nx bQ H1
 |.rt d=>∀v,Rp m1 H1 d v->D.rt v H1
noncomputable def TSv(Γ:Gm)(E:XK)(f:u5->AH->R Out):TS:=λD σ H=>∃env ah m,Rel Γ env ah σ H m/\j0 Γ E m H (f env ah) (SQ D)
variable{st:Stmt}{tt:Expr}
section
variable{X:Cx}{Γ:Gm}{G:GT}{ct:CT}{c:CF}{Ex:XK}{N:List Str}{sc:Scope}{e a b:Expr}{p':Pos}{x y z:E}{i:Nat}
theorem a1r{e:Expr}{t:Option Expr}{l:Nat}{env:Env}(h:U8 e=true):swapsWith e t l env=pure false:=by cases e<;>first|rfl|cases h
theorem c1G{n:Str}(C:Cxt X Γ G ct c Ex N sc true)(hs:a3l true N sc n=some i)(hw:U8 e=true)(he:PE X e (TEv Γ Ex (ev ct c x))):PS X (.Assign [.Name n p'] e pos) (TSv Γ Ex (ex ct c (.set i x))):=by obtain⟨h1,h2,h3⟩:=a3k C hs;refine PS.imp (b1s (by rw[C.hN];exact C.nd) h1 h2 he (a1r hw) h3) ?_;rintro D σ H ⟨env,ah,m,rl,q⟩;refine⟨env,ah,m,rl,j0.first rl q λd1 bL m1 H1 v1 p1 k1 bM r1 q1=>?_⟩;exact q1.ok bM.sim _ (bM.env.set r1)
theorem b9a{n:Str}{k:Nat}{ifs:List Expr}{ca:Pos}(C:Cxt X Γ G ct c Ex N sc true)(hs:a3l true N sc n=some i)(h:cE G N sc (k+1) (.ListComp cK [⟨tg,iter,ifs,0⟩] scope ca)=some x):PS X (.Assign [.Name n p'] (.ListComp cK [⟨tg,iter,ifs,0⟩] scope ca) pos) (TSv Γ Ex (ex ct c (.set i x))):=by obtain⟨h1,h2,h3⟩:=a3k C hs;obtain⟨p,it,js,t,y,rfl,j1,j2,j3,j4,j5,j6,j7,j8⟩:=a2F (a1p k) C (show sLc G (cR G k) N sc cK tg iter ifs scope=some x from h);refine PS.imp (b4J C.calm j1 j2 j3 j4 j5 j6 j7 (by rw[C.hN];exact C.nd) h1 h2 h3) ?_;rintro D σ H ⟨env,ah,m,rl,q⟩;refine a7i j8 σ H _ ⟨env,ah,m,rl,j0.first rl q λd1 bL m1 H1 v1 p1 k1 bM r1 q1=>?_⟩;exact q1.ok bM.sim _ (bM.env.set r1)
theorem c2Y(hw:U8 e=true)(he:PE X e (TEv Γ Ex (ev ct c x))):PS X (.Expr e pos) (TSv Γ Ex (ex ct c (.ex x))):=by refine PS.imp (b4I he (a1r hw)) ?_;rintro D σ H ⟨env,ah,m,rl,q⟩;refine⟨env,ah,m,rl,j0.first rl q λd1 bL m1 H1 v1 p1 k1 bM r1 q1=>?_⟩;exact q1.ok bM.sim _ bM.env
theorem c1H(he:PE X e (TEv Γ Ex (ev ct c x))):PS X (.Return (some e) pos) (TSv Γ Ex (ex ct c (.ret x))):=by refine PS.imp (b7w he) ?_;rintro D σ H ⟨env,ah,m,rl,q⟩;refine⟨env,ah,m,rl,j0.first rl q λd1 bL m1 H1 v1 p1 k1 bM r1 q1=>?_⟩;exact q1.ok bM.sim _ r1
theorem c1L:PS X st (TSv Γ Ex (ex ct c .bad)):=by rintro bC s σ H D I ⟨env,ah,m,rl,q⟩;exact q.elim
variable{t:T}{as bs:List Stmt}{sa sb:Ss}
theorem c1J:PSs X [] (TSv Γ Ex (exs ct c .nil)):=by refine PSs.imp b4H ?_;rintro D σ H ⟨env,ah,m,rl,q⟩;exact q.ok rl.sim σ rl.env
theorem b9c{s:S}(h1:PS X st (TSv Γ Ex (ex ct c s)))(h2:PSs X as (TSv Γ Ex (exs ct c sa))):PSs X (st::as) (TSv Γ Ex (exs ct c (.cons s sa))):=by
 refine PSs.imp (b1q h1 h2) ?_;rintro D σ H ⟨env,ah,m,rl,q⟩;refine⟨env,ah,m,rl,q.bind.mp λo bL m1 H1 p1 k1 s1 q1=>?_⟩;cases o with
 |nx bG=>exact λbQ er=>⟨bG,bL,m1,⟨s1,er⟩,q1⟩
 |rt d=>exact q1.ok s1
theorem c2X(hc:PT X tt (TTv Γ Ex (tst ct c t)))(ha:PSs X as (TSv Γ Ex (exs ct c sa)))(hb:PSs X bs (TSv Γ Ex (exs ct c sb))):PS X (.If tt as bs pos) (TSv Γ Ex (ex ct c (.iff t sa sb))):=by
 refine PS.imp (c0f hc ha hb) ?_;rintro D σ H ⟨env,ah,m,rl,q⟩;refine⟨env,ah,m,rl,q.bind.mp λk bL m1 H1 p1 k1 s1 q1=>?_⟩;cases k with
 |true=>exact b8j ⟨env,bL,m1,rl.on p1 k1 s1,q1⟩
 |false=>exact b8k ⟨env,bL,m1,rl.on p1 k1 s1,q1⟩
theorem c1K{it:Expr}{ii:I}(C:Cxt X Γ G ct c Ex N sc true)(own:PassesOwn (model X.prog X.w) X.A X.env X.xe)(hi:PI X tg it (TIv Γ Ex (evi ct c ii)))(hg:PG X tg (TGv Γ p))(hb:PSs X bs (TSv Γ Ex (exs ct c sb)))(hs:a1z it=true):
 PS X (.For tg it bs [] pos) (TSv Γ Ex (ex ct c (.for p ii sb))):=by
 refine PS.imp (b7x own C.calm hi hg hb (a0Z hs)) ?_;rintro D σ H ⟨env,ah,m,rl,q⟩;refine⟨env,ah,m,rl,q.bind.mp λx bL m1 H1 p1 k1 s1 q1=>λ_ J hJ=>?_⟩;refine⟨λi mm σ H2=>mm=↥x.1-i/\i<=↥x.1/\∃env ck m2,Rel Γ env ck σ H2 m2/\Pre m1 m2/\Keep m1 m2 H1 H2/\j0 Γ Ex m2 H2 (E1 x.2 p (exs ct c sb) (x.1.drop i) env ck) (SQ D),?_,?_⟩
 · exact⟨_,rfl,ga _,env,bL,m1,rl.on p1 k1 s1,Pre.refl _,Keep.refl _ _,q1⟩
 · rintro i mm σ H2 ⟨hmm,hil,env,ck,m2,cw,p2,k2,q2⟩
   by_cases di:i=↥x.1
   · refine .inl ?_;rw[di,drop_length] at q2;unfold E1 at q2;split at q2
     · rename_i hgk;exact⟨(hJ i ck m2 H2 p2 k2 cw.sim hgk).1 di,q2.ok cw.sim σ cw.env⟩
     · exact q2.elim
   · refine .inr ?_;have hlt:i<↥x.1:=Nat.lt_of_le_of_ne hil di;have hdi:x.1[i]? =some x.1[i]:=ai hlt;rw[drop_eq_getElem_cons hlt] at q2;generalize x.1[i]=dd at q2 hdi;unfold E1 at q2;split at q2
     · rename_i hgk;obtain⟨go,yl⟩:=(hJ i ck m2 H2 p2 k2 cw.sim hgk).2 dd hdi;refine⟨go,λbQ H'=>∃m',m'<mm/\(m'=↥x.1-(i+1)/\i+1<=↥x.1/\∃env ck m2,Rel Γ env ck bQ H' m2/\Pre m1 m2/\Keep m1 m2 H1 H'/\j0 Γ Ex m2 H' (E1 x.2 p (exs ct c sb) (x.1.drop (i+1)) env ck) (SQ D)),λbQ H' h=>h,λv H3 hy=>?_⟩;obtain⟨k3,s3,r3⟩:=yl v H3 hy;split at q2
       · exact q2.elim
       · rename_i envb hb;refine⟨env,dd,m2,envb,cw.env.mono (Pre.refl m2) k3,r3,hb,λσ4 er4 l4 s4=>⟨envb,ck,m2,⟨s3,er4⟩,?_⟩⟩;refine(q2.later (Pre.refl m2) k3).bind.mp λo ah5 m5 H5 p5 k5 s5 q5=>?_;cases o with
         |nx bG=>exact λbQ er'=>⟨_,by ac_nf,rfl,hlt,bG,ah5,m5,⟨s5,er'⟩,p2.trans p5,k2.trans (k3.trans k5),q5⟩
         |rt d=>exact q5.ok s5
     · exact q2.elim
theorem c1D(own:PassesOwn (model X.prog X.w) X.A X.env X.xe)(hc:PT X tt (TTv Γ Ex (tst ct c t)))(hb:PSs X bs (TSv Γ Ex (exs ct c sb))):PS X (.While tt bs [] pos) (TSv Γ Ex (ex ct c (.whl t sb))):=by
 refine PS.imp (b1r own hc hb) ?_;rintro D σ H ⟨env,ah,m,rl,q⟩;refine⟨λn σ H2=>∃env ck m2,Rel Γ env ck σ H2 m2/\j0 Γ Ex m2 H2 (a4b (tst ct c t) (exs ct c sb) n env ck) (SQ D),⟨_,env,ah,m,rl,q⟩,?_⟩;rintro n σ H2 ⟨env,ck,m2,cw,q2⟩;cases n with
 |zero=>exact q2.elim
 | succ n=>
  unfold a4b at q2;refine⟨env,ck,m2,cw,q2.bind.mp λk fb m3 H3 p3 k3 s3 q3=>?_⟩;have eF:=cw.on p3 k3 s3;cases k with
  |false=>exact b8k (j0.ok q3 s3 σ eF.env)
  |true=>
   refine b8j ⟨λbQ H'=>∃m',m'<n+1/\∃env ck m2,Rel Γ env ck bQ H' m2/\j0 Γ Ex m2 H' (a4b (tst ct c t) (exs ct c sb) m' env ck) (SQ D),λbQ H' h=>h,env,fb,m3,eF,?_⟩;refine j0.mp (j0.bind q3) λo ah5 m5 H5 p5 k5 s5 q5=>?_;cases o with
   |nx bG=>exact λbQ er'=>⟨n,aT n,bG,ah5,m5,⟨s5,er'⟩,q5⟩
   |rt d=>exact q5.ok s5
theorem c1I{pt:Pat}(hg:PG X tg (TGv Γ pt))(hv:PE X e (TEv Γ Ex (ev ct c z)))(hs:b6E e=true)(ht:(assignEach [tg] X.env).map (·.2)=[assign tg X.env])(hw:swappedStores [tg] e X.env=pure none):PS X (.Assign [tg] e pos) (TSv Γ Ex (ex ct c (.pat pt z))):=by
 refine PS.imp (b1t hv hg (show swapsWith e (some tg) pos.line X.env=pure false from a1r (by cases e<;>first|rfl|cases hs)) hw ht) ?_;rintro D σ H ⟨env,ah,m,rl,q⟩;refine⟨env,ah,m,rl,j0.first rl q λd1 bL m1 H1 v1 p1 k1 bM r1 q1=>?_⟩;split at q1
 · rename_i bG hb;exact⟨env,d1,m1,bG,bM.env,r1,hb,λbQ er _ _=>q1.ok bM.sim bQ er⟩
 · exact q1.elim
theorem c1E{o k:Expr}(C:Cxt X Γ G ct c Ex N sc true)(ho:PE X o (TEv Γ Ex (ev ct c x)))(hk:PE X k (TEv Γ Ex (ev ct c y)))(hv:PE X e (TEv Γ Ex (ev ct c z)))(hw:U8 e=true)(hns:a2V k=true):PS X (.Assign [.Subscript o k p'] e pos) (TSv Γ Ex (ex ct c (.six x y z))):=by have hg:PG X (.Subscript o k p') (c0Q (TEv Γ Ex (ev ct c x)) (TEv Γ Ex (ev ct c y)) _):=b7G ho hk (c2r (Γ:=Γ) (E:=Ex) C.hu) (by intro v;cases k<;>first|rfl|cases hns);refine PS.imp (b1t hv hg (show swapsWith e (some (.Subscript o k p')) pos.line X.env=pure false from a1r hw) (by cases e<;>rfl) rfl) ?_;rintro D σ H ⟨env,ah,m,rl,q⟩;refine⟨env,ah,m,rl,j0.first rl q λd1 bL m1 H1 v1 p1 k1 bM r1 q1=>?_⟩;refine⟨env,bL,m1,bM,j0.first bM q1 λd2 ck m2 H2 v2 p2 k2 cw r2 q2=>?_⟩;refine⟨env,ck,m2,cw,j0.first cw q2 λd3 fb m3 H3 v3 p3 k3 eF r3 q3=>?_⟩;refine⟨d2,d3,d1,fb,m3,eF.sim,r2.mono p3 k3,r3,r1.mono (p2.trans p3) (k2.trans k3),q3.bind.mp λ_ ah4 m4 H4 p4 k4 s4 q4=>?_⟩;exact q4.ok s4 σ (eF.env.mono p4 k4)
theorem c1F{o:Expr}{f:Str}(C:Cxt X Γ G ct c Ex N sc true)(ho:PE X o (TEv Γ Ex (ev ct c x)))(hv:PE X e (TEv Γ Ex (ev ct c z)))(hw:U8 e=true)(hf:G.atts.contains f=true):PS X (.Assign [.Attribute o f p'] e pos) (TSv Γ Ex (ex ct c (.sfl x f z))):=by
 refine PS.imp (b7y ho hv (a1r hw)) ?_;rintro D σ H ⟨env,ah,m,rl,q⟩;refine⟨env,ah,m,rl,j0.first rl q λd1 bL m1 H1 v1 p1 k1 bM r1 q1=>?_⟩;refine⟨env,bL,m1,bM,j0.first bM q1 λd2 ck m2 H2 v2 p2 k2 cw r2 q2=>?_⟩;unfold a5d at q2;split at q2
 · split at q2
   · rename_i k fs e2;split at q2
     · rename_i hl;obtain⟨ad,rfl,hm⟩:=r2;obtain⟨dx,gs,g1,g2,g3⟩:=cw.sim.at hm e2;obtain⟨a1,a2⟩:=C.att k g3;have kp:Keep m2 m2 H2 (upd H2 ad (.ins (Γ.cA k) dx (X0 f v1 gs))):=Keep.put hm g1 λz=>z;refine⟨ad,Γ.cA k,dx,gs,rfl,g1,a1,a2 f hf,by rw[←Paired.length g2];exact hl,?_⟩;have s3:=cw.sim.write (c:=.obj k (a4v f d1 fs)) hm g1 (λz=>z) ⟨dx,_,g9,(Fl.put (r1.mono p2 k2) g2).mono (Pre.refl m2) kp.im,g3⟩;exact j0.ok (j0.later q2 (Pre.refl m2) kp) s3 σ (cw.env.mono (Pre.refl m2) kp)
     · exact q2.elim
   · exact q2.elim
 · exact q2.elim
end
structure Cxs(X:Cx)(Γ:Gm)(G:GT)(ct:CT)(c:CF)(Ex:XK)(N:List Str)(sc1:Scope):Prop extends Cxt X Γ G ct c Ex N sc1 true where
 own:PassesOwn (model X.prog X.w) X.A X.env X.xe
section
variable{X:Cx}{Γ:Gm}{G:GT}{ct:CT}{c:CF}{Ex:XK}{N:List Str}{sc:Scope}
theorem b5r{k:Nat}{gens:List Comprehension}{y:E}(h:cE G N sc (k+1) (.ListComp cK gens scope pos)=some y):∃tg iter ifs,gens=[⟨tg,iter,ifs,0⟩]:=by
 cases gens with
 |nil=>exact absurd (show none=some y from h) ⋯
 |cons g t=>
  replace h:(if t.isEmpty&&decide (g.is_async=0) then sLc G (cR G k) N sc cK g.target g.iter g.ifs scope else none)=some y:=h;obtain⟨hg,h⟩:=ifs h;rw[ae] at hg;obtain⟨tg,iter,ifs,a⟩:=g;cases isEmpty_iff.mp hg.1;have ha:a=0:=aw hg.2;subst ha;exact⟨_,_,_,rfl⟩
theorem b9U(C:Cxs X Γ G ct c Ex N sc){r:List Stmt->Option Ss}(hr:∀l ss,r l=some ss->PSs X l (TSv Γ Ex (exs ct c ss))):∀st s,sS G N sc r st=some s->PS X st (TSv Γ Ex (ex ct c s)):=by
 intro st s h;obtain⟨i1,i2,i3,i4,i5⟩:=a1p 40 X Ex N sc true C.toCxt;unfold sS at h;split at h
 · rename_i tgs e pe;split at h
   · cases h
   · split at h
     · rename_i hu;cases isEmpty_iff.mp hu;unfold sAs at h;split at h
       · rename_i x px;split at h
         · rename_i i y h1 h2;obtain⟨hw,h⟩:=ifs h;cases h
           by_cases hn:U8 e=true
           · exact c1G C.toCxt h1 hn (i1 _ _ h2)
           · rw[bp] at hw;have hl:c0A e=true:=hw.resolve_left hn;cases e<;>first|(cases hl;done)|skip
             obtain⟨tg,iter,ifs,rfl⟩:=b5r h2;exact b9a C.toCxt h1 h2
         · cases h
       · split at h
         · rename_i h1 h2 h3;obtain⟨hw,h⟩:=ifs h;cases h;rw[ae] at hw;exact c1E C.toCxt (i1 _ _ h1) (i1 _ _ h2) (i1 _ _ h3) hw.1 hw.2
         · cases h
       · split at h
         · rename_i h1 h2;obtain⟨hw,h⟩:=ifs h;cases h;rw[ae] at hw;exact c1F C.toCxt (i1 _ _ h1) (i1 _ _ h2) hw.1 hw.2
         · cases h
       · split at h
         · rename_i h1 h2;obtain⟨hw,h⟩:=ifs h;cases h;exact c1I ((b3S C.toCxt 8).1 _ _ h1).1 (i1 _ _ h2) hw rfl (by cases e<;>first|rfl|cases hw)
         · cases h
       · cases h
     · cases h
 · obtain⟨hw,h⟩:=ifs h;obtain⟨y,h1,rfl⟩:=map_some h;exact c2Y hw (i1 _ _ h1)
 · split at h
   · obtain⟨y,h1,rfl⟩:=map_some h;exact c1H (i1 _ _ h1)
   · cases h
 · split at h
   · rename_i h1 h2 h3;cases h;exact c2X (i3 _ _ h1).1 (hr _ _ h2) (hr _ _ h3)
   · cases h
 · split at h
   · rename_i hel;cases isEmpty_iff.mp hel;split at h
     · rename_i h1 h2 h3;obtain⟨hs,h⟩:=ifs h;cases h;exact c1K C.toCxt C.own (i5 _ _ _ h2) ((b3S C.toCxt 8).1 _ _ h1).1 (hr _ _ h3) hs
     · cases h
   · cases h
 · split at h
   · rename_i hel;cases isEmpty_iff.mp hel;split at h
     · rename_i h1 h2;cases h;exact c1D C.own (i3 _ _ h1).1 (hr _ _ h2)
     · cases h
   · cases h
 · cases h;exact c1L
 · cases h
theorem b1b(C:Cxs X Γ G ct c Ex N sc){r:List Stmt->Option Ss}(hr:∀l ss,r l=some ss->PSs X l (TSv Γ Ex (exs ct c ss))):∀l ss,sSs G N sc r l=some ss->PSs X l (TSv Γ Ex (exs ct c ss))
 |[],ss,h=>by unfold sSs at h;cases h;exact c1J
 |st::l,ss,h=>by
  unfold sSs at h;split at h
  · rename_i h1 h2;cases h;exact b9c (b9U C hr _ _ h1) (b1b C hr l _ h2)
  · cases h
theorem b3J(C:Cxs X Γ G ct c Ex N sc):∀n l ss,cSs G N sc n l=some ss->PSs X l (TSv Γ Ex (exs ct c ss))
 |0,l,ss,h=>absurd (show none=some ss from h) ⋯
 |n+1,l,ss,h=>b1b C (b3J C n) l ss h
end
structure RowOk(K:Frag)(G:GT)(F:Nat->Option Fn)(x qual:Str)(id np0:Nat)(f:Addr)(fd:FuncData)(st:Stmt)(N ps:List Str):Prop where
 fn:Fun K x qual st f fd
 sc:FnScope N ps (x5 st)
 bd:U5 K fd ps []
 np:↥ps=np0
 F:∃fn,F id=some fn/\fn.np=np0/\fn.ns=↥N/\cSs G N (x5 st) 20 (O0 st)=some fn.body
structure Stat(P:Program)(w:World)(Γ:Gm)(G:GT)(ct:CT)(F:Nat->Option Fn)(mg:Str->Option Value):Prop where
 scal:∀x d,G.scal.lookup x=some d->∃u v,mg x=some u/\k8 v u/\∀m H,Rp m H d v
 tups:∀x ds,G.tups.lookup x=some ds->∃a vs,mg x= ~~~a/\(∀H,SqT Γ.K H a vs)/\∀m H,Rps m H ds vs
 dicts:∀x bD,G.dicts.lookup x=some bD->∃a gs,mg x= ~~~a/\b0y P w Γ.K a gs/\∀m H,DK m H bD gs
 blt:∀x,G.blt.contains x=true->mg x=none
 fn:∀x id np,G.fn.lookup x=some (id,np)->∃f fd st N ps,mg x= ~~~f/\RowOk Γ.K G F x x id np f fd st N ps
 obj:∀x k,G.obj.lookup x=some k->k∈Γ.ob/\mg x=some (.ref (Γ.cA k))/\∃f fd st N ps qual,Mk Γ.K (Γ.cA k) f/\RowOk Γ.K G F "__init__" qual (ct.init k) 1 f fd st N ps
 att:∀k,k∈Γ.ob->Cls Γ.K (Γ.cA k)/\∀f,G.atts.contains f=true->a0A Γ.K (Γ.cA k) f
variable{ds:List D}{np:Nat}{m':List Addr}{H':Hp}{id:Nat}
section
variable{P:Program}{w:World}{Γ:Gm}{G:GT}{ct:CT}{F:Nat->Option Fn}{mg:Str->Option Value}
theorem b0o{N:List Str}{ns:Nat}(rs:Rps m H ds vs)(hn:ns=↥N)(hd:↥ds=np):EnvRel m H (ds.map some++List.replicate (ns-np) none) (L2.a1s N vs):=by
 unfold L2.a1s;refine⟨by simp[rs.len,hn,hd],λi d e=>?_⟩
 by_cases hi:i<↥ds
 · rw[av (by simpa using hi),ak] at e;rw[av (by simpa [rs.len] using hi),ak];cases hd':ds[i]? with
   |none=>rw[hd'] at e;cases e
   |some d'=>
    rw[hd'] at e;cases e;obtain⟨v,h1,h2⟩:=rs.get hd';exact⟨v,by rw[h1];rfl,h2⟩
 · rw[au (by simpa using hi),bB] at e;split at e<;>cases e
def c0k:R Out->R D
 |.ok (.nx _) h=>.ok .non h
 |.ok (.rt d) h=>.ok d h
 |.no=>.no
theorem a3S(n:Nat)(f:Nat)(ds:List D)(h:AH):b4 ct F (n+1) f ds h=match F f with
 |none=>.no
 |some fd=>if ↥ds=fd.np then gcR fd.gc h (c0k (exs ct (b4 ct F n) fd.body (ds.map some++List.replicate (fd.ns-fd.np) none) h)) else .no:=by
 show(match F f with
  |none=>R.no
  |some fd=>if ↥ds=fd.np then gcR fd.gc h (match exs ct (b4 ct F n) fd.body (ds.map some++List.replicate (fd.ns-fd.np) none) h with
   |.ok (.nx _) h'=>.ok .non h'
   |.ok (.rt d) h'=>.ok d h'
   |.no=>.no) else .no)=_
 cases F f with
 |none=>rfl
 |some fd=>
  simp only;generalize exs ct (b4 ct F n) fd.body (ds.map some++List.replicate (fd.ns-fd.np) none) h=r;cases r with
  |ok o h=>cases o<;>rfl
  |no=>rfl
theorem a8A:(∀d v v' m0 H0,↥m0=n->Rp m0 H0 d v'->Rp m' H d v->Rp (m'.take n) H d v)/\∀l vs eW m0 H0,↥m0=n->Rps m0 H0 l eW->Rps m' H l vs->Rps (m'.take n) H l vs:=by
 refine D.ind (P:=λd=>∀v v' m0 H0,↥m0=n->Rp m0 H0 d v'->Rp m' H d v->Rp (m'.take n) H d v) (Q:=λl=>∀vs eW m0 H0,↥m0=n->Rps m0 H0 l eW->Rps m' H l vs->Rps (m'.take n) H l vs) ?_ ?_ ?_ ?_ ?_ ?_ ?_ ?_
 · intro v v' m0 H0 _ _ h;exact h
 · intro b v v' m0 H0 _ _ h;exact h
 · intro b v v' m0 H0 _ _ h;exact h
 · intro b v v' m0 H0 _ _ h;exact h
 · rintro l ih v v' m0 H0 hn ⟨a',eW,_,_,q'⟩ ⟨a,vs,rfl,e,q⟩;exact⟨a,vs,rfl,e,ih vs eW m0 H0 hn q' q⟩
 · rintro k v v' m0 H0 hn ⟨a',_,e'⟩ ⟨a,rfl,e⟩;refine⟨a,rfl,?_⟩;have:=(ac.mp e').1;rw[bA nofun];exact e
 · intro vs eW m0 H0 _ _ h;exact h
 · rintro d r ih ihs vs eW m0 H0 hn ⟨v',t',_,q1',q2'⟩ ⟨v,t,rfl,q1,q2⟩;exact⟨v,t,rfl,ih v v' m0 H0 hn q1' q1,ihs t t' m0 H0 hn q2' q2⟩
theorem a6A{β':Type}{R R':α->β->Prop}{R0:α->β'->Prop}(f:∀a b b',R0 a b'->R a b->R' a b){l:List α}{l':List β'}(h:Paired R0 l l'):∀{l2:List β},Paired R l l2->Paired R' l l2:=by
 induction h with
 |nil=>
  intro l2 h;cases h;exact .nil
 |cons h t ih=>
  intro l2 q;obtain- |⟨a,b⟩:=q;exact .cons (f _ _ _ h a) (ih b)
theorem b0v{a a0:Addr}{c:Cell}(hn:↥m=n)(h0:G4 Γ m H0 a0 c)(h:G4 Γ m' H a c):G4 Γ (m'.take n) H a c:=by
 have rp:=λd v v' (h1:Rp m H0 d v') (h2:Rp m' H d v)=>(a8A (m':=m') (n:=n) (H:=H)).1 d v v' m H0 hn h1 h2;have rps:=λd v v' (h1:Rps m H0 d v') (h2:Rps m' H d v)=>(a8A (m':=m') (n:=n) (H:=H)).2 d v v' m H0 hn h1 h2;have pr:∀{κ κ' κ'':Type} {l:List (κ×D)} {l':List (κ'×V)} {l2:List (κ''×V)} {A:κ->κ'->Prop} {B:κ->κ''->Prop},Paired (λp q=>A p.1 q.1/\Rp m H0 p.2 q.2) l l'->Paired (λp q=>B p.1 q.1/\Rp m' H p.2 q.2) l l2->Paired (λp q=>B p.1 q.1/\Rp (m'.take n) H p.2 q.2) l l2:=
  λh0 h=>a6A (λa b b' x y=>⟨y.1,rp _ _ _ x.2 y.2⟩) h0 h
 cases c with
 |lst l=>obtain⟨eW,_,r'⟩:=h0;obtain⟨vs,e,r⟩:=h;exact⟨vs,e,rps _ _ _ r' r⟩
 |rol l=>obtain⟨eW,_,r',_⟩:=h0;obtain⟨vs,e,r,z⟩:=h;exact⟨vs,e,rps _ _ _ r' r,z⟩
 |dict l=>
  rcases h with⟨bD,e,r⟩|⟨bD,e,r⟩
  · rcases h0 with⟨kvs',_,r'⟩|⟨kvs',_,r'⟩
    · exact .inl ⟨bD,e,pr (A:=λp q=>K9 p=some q) (B:=λp q=>K9 p=some q) r' r⟩
    · exact .inl ⟨bD,e,pr (A:=fun(p:D) q=>∃l,p=D.tup l/\I0 l=some q) (B:=λp q=>K9 p=some q) r' r⟩
  · rcases h0 with⟨kvs',_,r'⟩|⟨kvs',_,r'⟩
    · exact .inr ⟨bD,e,pr (A:=λp q=>K9 p=some q) (B:=fun(p:D) q=>∃l,p=D.tup l/\I0 l=some q) r' r⟩
    · exact .inr ⟨bD,e,pr (A:=fun(p:D) q=>∃l,p=D.tup l/\I0 l=some q) (B:=fun(p:D) q=>∃l,p=D.tup l/\I0 l=some q) r' r⟩
 |obj k fs=>obtain⟨dx',gs',_,r',_⟩:=h0;obtain⟨dx,gs,e,r,z⟩:=h;exact⟨dx,gs,e,pr (A:=λp q=>p=q) (B:=λp q=>p=q) r' r,z⟩
theorem Sim.drop{eV:AH}(s:Sim Γ ah m H)(s':Sim Γ eV m' H')(p:Pre m m')(k:Keep m m' H H')(h:eV.take ↥ah=ah):Sim Γ ah m H':=by
 have hm:m'.take ↥ah=m:=by obtain⟨t,rfl⟩:=p;rw[←s.len,List.take_left]
 refine⟨s.len,s.nd,λn a c hn hc=>?_⟩;have hl:=(ac.mp hc).1;have eM:eV[n]? =some c:=by rw[←h,bA hl] at hc;exact hc
 have:=b0v (n:=↥ah) s.len (s.at hn hc) (s'.at (p.get hn) eM)
 rwa [hm] at this
theorem b0k{a:Addr}{c:Cell}(f:c.flat=true)(h:G4 Γ m H a c):G4 Γ m' H a c:=by
 cases c with
 |lst l=>obtain⟨vs,e,r⟩:=h;exact⟨vs,e,(a5h (m':=m')).2 _ _ f r⟩
 | dict l=>
  have go:∀{κ:Type} {A:D->κ->Prop} {l:List (D×D)} {l2:List (κ×V)},(l.all λp=>p.1.flat&&p.2.flat)=true->Paired (λp q=>A p.1 q.1/\Rp m H p.2 q.2) l l2->Paired (λp q=>A p.1 q.1/\Rp m' H p.2 q.2) l l2:=by
   intro κ A l l2 hf hp
   induction hp with
   |nil=>exact .nil
   |cons h t ih=>
    rw[all_cons,ae,ae] at hf;exact .cons ⟨h.1,(a5h (m':=m')).1 _ _ hf.1.2 h.2⟩ (ih hf.2)
  rcases h with⟨bD,e,r⟩|⟨bD,e,r⟩
  · exact .inl ⟨bD,e,go (A:=λp q=>K9 p=some q) f r⟩
  · exact .inr ⟨bD,e,go (A:=fun(p:D) q=>∃l,p=D.tup l/\I0 l=some q) f r⟩
 |_=>cases f
theorem c0P {E:XK} {g:Nat} {r:R Out} (s:Sim Γ ah m H) (h:i6 Γ E m H (gcR g ah (c0k r)) Q):j0 Γ E m H r (SQ {nx:=λ_ H'=>Q .non H',rt:=Q}):=by
 have main : ∀ {d:D} {eV:AH},i6 Γ E m H (gcR g ah (.ok d eV)) Q->∀m' H' v,Pre m m'->Keep m m' H H'->Sim Γ eV m' H'->Rp m' H' d v->Q v H':=by
  intro d eV h m' H' v p k s' rv;unfold gcR at h;simp only at h;split at h
  · exact h m' H' v p k s' rv
  · split at h
    · obtain⟨hh,h⟩:=ifq h;exact h m H' v (Pre.refl m) ⟨k.im,k.out,λ_ z=>.inl z⟩ (s.drop s' p k hh.1) ((a5h (m':=m)).1 d v hh.2 rv)
    · split at h
      · rename_i kk;split at h
        · rename_i c hc;obtain⟨hh,h⟩:=ifq h;obtain⟨a,rfl,ha⟩:=rv;have s0:=s.drop s' p k hh.1;have hna:a∉m:=λz=>by obtain⟨i,hi⟩:=List.getElem?_of_mem z;have e1:=p.get hi;have hlt:=(ac.mp hi).1;obtain⟨h1,e1⟩:=ac.mp e1;obtain⟨h2,e2⟩:=ac.mp ha;have:=(getElem_inj s'.nd).mp (e1.trans e2.symm);have hl:=s.len;ac_nf
          have Hn:H a=none:=by
           rcases k.fr a (aH ha) with z|z
           · exact absurd z hna
           · exact z
          refine h (m++[a]) H' (.ref a) (Pre.snoc m a) ⟨k.im,k.out,λb hb=>?_⟩ ?_ ⟨a,rfl,?_⟩
          · rcases aL.mp hb with z|z
            · exact .inl z
            · simp at z;subst z;exact .inr Hn
          · refine⟨by simp[s.len],a0Y s.nd hna,λn b cc hn dD=>?_⟩
            by_cases hl:n<↥m
            · rw[av hl] at hn;rw[av (by rw[←s.len];exact hl)] at dD;exact(s0.at hn dD).mono' (Pre.snoc m a) (λ_ _ _ z=>z) rfl
            · have hn':n=↥m:=by have:=(ac.mp hn).1;simp at this;ac_nf
              subst hn';rw[au (aj _)] at hn;rw[s.len,au (aj _)] at dD;simp at hn dD;subst hn;subst dD;exact b0k hh.2.2 (s'.at ha hc)
          · rw[←s.len,au (aj _)];simp
        · exact h.elim
      · exact h.elim
 cases r with
 |ok o eV=>
  cases o with
  |nx env=>exact λm' H' p k s' bQ _=>main h m' H' .non p k s' rfl
  |rt d=>exact λm' H' p k s' v rv=>main h m' H' v p k s' rv
 |no=>exact h.elim
theorem a5F(S:Stat P w Γ G ct F mg)(ih1:∀x id np,G.fn.lookup x=some (id,np)->∃f fd ps,↥ps=np/\mg x= ~~~f/\PySem.W.keepIn Γ.K (.ref f)=true/\U5 Γ.K fd ps []/\∀base,FnOk P w Γ.K mg base CX0 (2*n+6) f fd ps (a5b Γ (b4 ct F n) id np))
 (ih2:∀x k,G.obj.lookup x=some k->k∈Γ.ob/\mg x=some (.ref (Γ.cA k))/\∃f fd ps,↥ps=1/\Mk Γ.K (Γ.cA k) f/\U5 Γ.K fd ps []/\∀base,FnOk P w Γ.K mg base CX0 (2*n+6) f fd ps (a5b Γ (b4 ct F n) (ct.init k) 1))
 (ar:∀x id np,G.fn.lookup x=some (id,np)->∀ds h,↥ds≠np->b4 ct F n id ds h=.no)
 {qual:Str} {f:Addr} {fd:FuncData} {N ps:List Str} (R:RowOk Γ.K G F x qual id np f fd st N ps) (base:Heap):FnOk P w Γ.K mg base CX0 (2*(n+1)+6) f fd ps (a5b Γ (b4 ct F (n+1)) id np):=by
 obtain⟨fn,F1,F2,F3,F4⟩:=R.F;obtain⟨oc,od,kV,de,pm,an,cL,ct',eI,rfl,lk,eZ⟩:=R.fn.ex;refine c0S (k:=2*n+7) lk eZ R.sc (λvs H Q E h=>?_) λA outer s H vs Q E hr eX=>?_
 · obtain⟨ds,ah,m,h1,h2,_⟩:=h;rw[h2.len,h1,R.np]
 · obtain⟨ds,ah,m,h1,h2,h3,h4⟩:=eX;have C:Cxt (a8j CX0 P w Γ.K mg base N qual (x5 st) f cL A outer s H E) Γ G ct (b4 ct F n) E N (x5 st) true:=by
    refine⟨rfl,R.sc.nd,rfl,rfl,?_,rfl,λ_ _=>rfl,S.scal,S.tups,S.dicts,S.blt,λy i j hy=>?_,λy k hy=>?_,S.att⟩
    · exact Nat.lt_of_le_of_lt (Nat.add_le_add_left (by decide:8<=64) _) hr.units
    · obtain⟨f',fd',ps',a1,a2,a3,a4,a5⟩:=ih1 y i j hy;exact⟨2*n+6,f',fd',ps',a1,hr.mono nofun,a2,a3,a4,a5 base,ar y i j hy⟩
    · obtain⟨b1,b2,f',fd',ps',a1,a2,a3,a4⟩:=ih2 y k hy;exact⟨b1,2*n+6,f',fd',ps',a1,hr.mono nofun,a2,b2,a3,a4 base⟩
   have Cs:Cxs (a8j CX0 P w Γ.K mg base N qual (x5 st) f cL A outer s H E) Γ G ct (b4 ct F n) E N (x5 st):=by exact⟨C,PassesOwn.leaving⟩
   refine⟨_,b3J Cs 20 _ _ F4,ds.map some++List.replicate (fn.ns-fn.np) none,ah,m,⟨h3,b0o h2 F3 (by rw[h1,F2])⟩,?_⟩;rw[a3S,F1] at h4;simp only at h4;rw[ay (by rw[h1,F2])] at h4;exact c0P h3 h4
theorem b3M(S:Stat P w Γ G ct F mg):∀n x id np,G.fn.lookup x=some (id,np)->∀ds h,↥ds≠np->b4 ct F n id ds h=.no
 |0,_,_,_,_,_,_,_=>rfl
 |n+1,x,id,np,hx,ds,h,hl=>by obtain⟨_,_,_,_,_,_,R⟩:=S.fn x id np hx;obtain⟨fn,F1,F2,_⟩:=R.F;rw[a3S,F1];simp only;rw[az (by rw[F2];exact hl)]
theorem b8w(S:Stat P w Γ G ct F mg):∀n,(∀x id np,G.fn.lookup x=some (id,np)->∃f fd ps,↥ps=np/\mg x= ~~~f/\PySem.W.keepIn Γ.K (.ref f)=true/\U5 Γ.K fd ps []/\∀base,FnOk P w Γ.K mg base CX0 (2*n+6) f fd ps (a5b Γ (b4 ct F n) id np))∧
 (∀x k,G.obj.lookup x=some k->k∈Γ.ob/\mg x=some (.ref (Γ.cA k))/\∃f fd ps,↥ps=1/\Mk Γ.K (Γ.cA k) f/\U5 Γ.K fd ps []/\∀base,FnOk P w Γ.K mg base CX0 (2*n+6) f fd ps (a5b Γ (b4 ct F n) (ct.init k) 1)):=by
 have zero:∀{k:Nat} {f:Addr} {fd:FuncData} {ps:List Str} {id np:Nat} {base:Heap},FnOk P w Γ.K mg base CX0 k f fd ps (a5b Γ (b4 ct F 0) id np):=fun{k f fd ps id np base}=>
  ⟨λvs H Q E h=>by obtain⟨_,_,_,_,_,_,z⟩:=h;exact z.elim,λA outer s H args us vs Q E _ _ _ _ h=>by obtain⟨_,_,_,_,_,_,z⟩:=h;exact z.elim⟩
 intro n
 induction n with
 |zero=>
  refine⟨λx id np hx=>?_,λx k hk=>?_⟩
  · obtain⟨f,fd,st,N,ps,g,R⟩:=S.fn x id np hx;exact⟨f,fd,ps,R.np,g,R.fn.kp,R.bd,λbase=>zero⟩
  · obtain⟨o1,o2,f,fd,st,N,ps,qual,M,R⟩:=S.obj x k hk;exact⟨o1,o2,f,fd,ps,R.np,M,R.bd,λbase=>zero⟩
 |succ n ih=>
  refine⟨λx id np hx=>?_,λx k hk=>?_⟩
  · obtain⟨f,fd,st,N,ps,g,R⟩:=S.fn x id np hx;exact⟨f,fd,ps,R.np,g,R.fn.kp,R.bd,λbase=>a5F S ih.1 ih.2 (b3M S n) R base⟩
  · obtain⟨o1,o2,f,fd,st,N,ps,qual,M,R⟩:=S.obj x k hk;exact⟨o1,o2,f,fd,ps,R.np,M,R.bd,λbase=>a5F S ih.1 ih.2 (b3M S n) R base⟩
end
end EV
namespace L2T
open PySem
abbrev cd(z:Str):List Nat:=z.cps.toList
variable{x:Str}
theorem V5{y:Str}(h:cd x=cd y):x=y:=by cases x;cases y;exact fM Str.mk (Array.toList_inj.mp h)
theorem E9(x y:Str):cd (x++y)=cd x++cd y:=by show(x.cps++y.cps).toList=_;simp
theorem u9(x:Str):↥(cd x)=↥x:=by simp[cd,Str.length]
def jn(c:Nat):List (List Nat)->List Nat
 |[]=>[]
 |[x]=>x
 |x::y::r=>x++c::jn c (y::r)
theorem a2Z(c:Nat):∀ps:List Str,cd (Str.join ⟨#[c]⟩ ps)=jn c (ps.map cd)
 |[]=>rfl
 |[x]=>rfl
 |x::y::r=>by show cd (x++⟨#[c]⟩++Str.join ⟨#[c]⟩ (y::r))=cd x++c::jn c ((y::r).map cd);rw[E9,E9,a2Z c (y::r)];simp[cd]
theorem a4L{c:Nat}:∀{p q a b:List Nat},c∉p->c∉q->p++c::a=q++c::b->p=q/\a=b
 |[],[],a,b,_,_,h=>⟨rfl,by simpa using h⟩
 |[],y::q,a,b,_,hq,h=>by have e:c=y:=(List.cons.inj h).1;exact absurd (by rw[e];exact aY) hq
 |x::p,[],a,b,hp,_,h=>by have e:x=c:=(List.cons.inj h).1;exact absurd (by rw[←e];exact aY) hp
 |x::p,y::q,a,b,hp,hq,h=>by obtain⟨e1,e2⟩:=List.cons.inj h;obtain⟨e3,e4⟩:=a4L (λz=>hp (aE _ z)) (λz=>hq (aE _ z)) e2;exact⟨by rw[e1,e3],e4⟩
theorem b2m{c:Nat}:∀{ps qs:List (List Nat)},ps≠[]->qs≠[]->(∀p∈ps,c∉p)->(∀q∈qs,c∉q)->jn c ps=jn c qs->ps=qs
 |[],_,h,_,_,_,_=>absurd rfl h
 |_::_,[],_,h,_,_,_=>absurd rfl h
 |[x],[y],_,_,_,_,h=>by rw[show x=y from h]
 |[x],y::z::r,_,_,hp,_,h=>by have h':x=y++c::jn c (z::r):=h;exact absurd (by rw[h'];simp) (hp x aY)
 |x::y::r,[z],_,_,_,hq,h=>by have h':x++c::jn c (y::r)=z:=h;exact absurd (by rw[←h'];simp) (hq z aY)
 |x::y::r,z::u::t,_,_,hp,hq,h=>by obtain⟨e1,e2⟩:=a4L (hp x aY) (hq z aY) h;have e3:=b2m (cons_ne_nil _ _) (cons_ne_nil _ _) (λp hp'=>hp p (aE _ hp')) (λq hq'=>hq q (aE _ hq')) e2;rw[e1,e3]
theorem a8M:∀{ps qs:List Str},ps.map cd=qs.map cd->ps=qs
 |[],[],_=>rfl
 |[],_::_,h=>by cases h
 |_::_,[],h=>by cases h
 |x::r,y::t,h=>by obtain⟨e1,e2⟩:=List.cons.inj h;rw[V5 e1,a8M e2]
variable{c:Nat}
theorem a3h{ps:List Str}(hn:ps≠[])(hf:∀p∈ps,c∉cd p)(h:cd x=jn c (ps.map cd)):Txt.split x ⟨#[c]⟩=ps:=by
 have h1:=StrLaws.join_split x ⟨#[c]⟩;have h2:jn c ((Txt.split x ⟨#[c]⟩).map cd)=jn c (ps.map cd):=by rw[←a2Z,h1,h]
 have h3:Txt.split x ⟨#[c]⟩≠[]:=λe=>by have:=PyProof.Rows.split_pos x ⟨#[c]⟩;rw[e] at this;exact absurd this ∅
 refine a8M (b2m (λe=>h3 (List.map_eq_nil_iff.mp e)) (λe=>hn (List.map_eq_nil_iff.mp e)) (λp hp=>?_) (λp hp=>?_) h2)
 · obtain⟨q,hq,rfl⟩:=al.mp hp;exact StrLaws.split_free x c q hq
 · obtain⟨q,hq,rfl⟩:=al.mp hp;exact hf q hq
def c0U:Str:="0123456789"
def a1u:Str:="abcdefghijklmnopqrstuvwxyz0123456789"
def Q0(c:Nat):Bool:=decide (c∈cd a1u)
def U0(c:Nat):Bool:=decide (c∈cd c0U)
theorem a5H(c:Nat):U0 c=true↔48<=c/\c<=57:=by unfold U0;rw[gE,show cd c0U=List.range' 48 10 from by decide+kernel,List.mem_range'_1];exact and_congr_right λ_=>Nat.lt_succ_iff
def b9(z:Str):Bool:=decide (1<=↥z)&&decide (↥z<=12)&&(cd z).all Q0
noncomputable def a2x(z:Str):Bool:=decide (1<=↥z)&&decide (↥z<=5)&&(cd z).all U0&&(decide (z="0")||!decide ((cd z).head? =some 48))
noncomputable def W0(z:Str):Option Int:=if(cd z).all U0=true then(if z=""∨5<↥z∨((cd z).head? =some 48/\1<↥z) then none else some ((NumText.digitsVal (cd z):Nat):Int)) else none
def tl(z:Str):Str:=⟨((cd z).drop 1).toArray⟩
theorem a3Q(z:Str):cd (tl z)=(cd z).drop 1:=by simp[tl,cd]
def a4q(z:Str):Bool:=if(cd z).head? =some 45 then(!decide (z="-0")&&a2x (tl z)) else a2x z
def a0N(z:Str):Option Int:=if(cd z).head? =some 45 then(match W0 (tl z) with|none=>none|some n=>if n=0 then none else some (-n)) else W0 z
theorem b0b(z:Str):z=""↔↥z=0:=by
 constructor
 · rintro rfl;rfl
 · intro h;refine V5 ?_;have:↥(cd z)=0:=by rw[u9];exact h
   rw[length_eq_zero_iff.mp this];rfl
variable{z:Str}
theorem a3Y(h:(cd z).all U0=true):NumText.AllDigits (cd z):=λc hc=>(a5H c).mp (bm.mp h c hc)
theorem a4J:∀(cs:List Nat) (a:Nat),a<=cs.foldl (λbP c=>bP*10+(c-48)) a
 |[],a=>aj _
 |c::r,a=>aR nofun (a4J r (a*10+(c-48)))
theorem a8i{r:List Nat}(h:48<c):0<NumText.digitsVal (c::r):=by unfold NumText.digitsVal;rw[foldl_cons];exact aC nofun (a4J r (0*10+(c-48)))
theorem a3w:a2x z=(W0 z).isSome:=by
 unfold a2x W0
 by_cases h:(cd z).all U0=true
 · rw [ay h,h]
   by_cases q:z=""∨5<↥z∨((cd z).head? =some 48/\1<↥z)
   · rw[ay q];show _=false;rcases q with q|q|⟨q1,q2⟩
     · rw[b0b] at q;simp[q]
     · simp[show¬z.length<=5 by ac_nf]
     · have ne:¬z="0":=by rintro rfl;exact absurd q2 ∅
       simp[q1,ne]
   · rw [az q];show _=true;have q1:¬↥z=0:=λe=>q (.inl ((b0b z).mpr e));have q2:↥z<=5:=aU λe=>q (.inr (.inl e));have q3:z="0"∨¬(cd z).head? =some 48:=by
      by_cases e:(cd z).head? =some 48
      · left
        have l:↥z=1:=by have k:¬1<↥z:=λe'=>q (.inr (.inr ⟨e,e'⟩));ac_nf
        refine V5 ?_;have l':↥(cd z)=1:=by rw[u9];exact l
        obtain⟨x,hx⟩:=List.length_eq_one_iff.mp l';rw[hx] at e⊢;have e':x=48:=by simpa using e
        rw[e'];decide+kernel
      · exact .inr e
     have a1:1<=↥z:=by ac_nf
     rcases q3 with q3|q3
     · rw[q3];decide+kernel
     · simp[a1,q2,q3]
 · rw[az h];show _=false;simp[show(cd z).all U0=false from by simpa using h]
variable{n:Int}
theorem a2U (h:W0 z=some n):intText? z=some n/\↥z<=640/\0<=n/\(n=0↔z="0"):=by
 unfold W0 at h
 by_cases q:(cd z).all U0=true
 · rw[ay q] at h
   by_cases p:z=""∨5<↥z∨((cd z).head? =some 48/\1<↥z)
   · rw[ay p] at h;cases h
   · rw [az p] at h;cases h;have p1:¬↥z=0:=λe=>p (.inl ((b0b z).mpr e));have p2:↥z<=5:=aU λe=>p (.inr (.inl e));have ne:cd z≠[]:=λe=>p1 (by rw[←u9,e];rfl);refine⟨PySem.intText_digits (a3Y q) ne nofun,by ac_nf,Int.natCast_nonneg _,?_,?_⟩
     · intro e;have e0:NumText.digitsVal (cd z)=0:=by ac_nf
       cases hz:cd z with
       |nil=>exact absurd hz ne
       | cons c r=>
        have hc:c=48:=by
         have:=(a3Y q) c (by rw[hz];exact aY);rw[hz] at e0
         by_cases k:48<c
         · exact absurd (a8i (r:=r) k) nofun
         · ac_nf
        have hl:¬1<↥z:=λe'=>p (.inr (.inr ⟨by rw[hz,hc];rfl,e'⟩));have hr:r=[]:=by
         have:↥(cd z)=↥r+1:=by rw[hz];rfl
         rw[u9] at this;exact length_eq_zero_iff.mp nofun
        refine V5 ?_;rw[hz,hc,hr];decide+kernel
     · rintro rfl;decide+kernel
 · rw[az q] at h;cases h
theorem a6m:a4q z=(a0N z).isSome:=by
 unfold a4q a0N
 by_cases h:(cd z).head? =some 45
 · rw [ay h,ay h,a3w];have hz:(z="-0")↔tl z="0":=by
    constructor
    · rintro rfl;decide+kernel
    · intro e;refine V5 ?_;have e1:(cd z).drop 1=cd "0":=by rw[←a3Q,e]
      cases hc:cd z with
      |nil=>rw[hc] at h;cases h
      |cons c r=>
       rw[hc] at h e1;have eM:c=45:=by simpa using h
       have hr:r=cd "0":=e1;rw[eM,hr];decide+kernel
   cases q:W0 (tl z) with
   |none=>simp
   |some n=>
    obtain⟨_,_,_,k⟩:=a2U q
    by_cases e:n=0
    · simp[e,hz,k.mp e]
    · have k':¬tl z="0":=λz'=>e (k.mpr z');simp[e,hz,k']
 · rw[az h,az h];exact a3w
theorem a2P(h:a0N z=some n):intText? z=some n/\↥z<=640:=by
 unfold a0N at h
 by_cases q:(cd z).head? =some 45
 · rw [ay q] at h;cases e:W0 (tl z) with
   |none=>rw[e] at h;cases h
   |some m=>
    rw[e] at h
    dsimp only at h
    by_cases m0:m=0
    · rw[ay m0] at h;cases h
    · rw [az m0] at h;cases h;cases hc:cd z with
      |nil=>rw[hc] at q;cases q
      |cons c r=>
       have eM:c=45:=by rw[hc] at q;simpa using q
       have ht:cd (tl z)=r:=by rw[a3Q,hc];rfl
       unfold W0 at e
       by_cases f:(cd (tl z)).all U0=true
       · rw[ay f] at e
         by_cases p:tl z=""∨5<↥(tl z)∨((cd (tl z)).head? =some 48/\1<↥(tl z))
         · rw[ay p] at e;cases e
         · rw[az p] at e;cases e;have l2:↥(tl z)<=5:=aU λk=>p (.inr (.inl k));have l3:↥z=↥(tl z)+1:=by rw[←u9 z,←u9 (tl z),ht,hc];rfl
           have ne:r≠[]:=λk=>p (.inl ((b0b _).mpr (by rw[←u9,ht,k];rfl)));refine⟨?_,by ac_nf⟩;rw[ht];exact PySem.intText_neg (by rw[←eM];exact hc) (ht▸a3Y f) ne nofun
       · rw[az f] at e;cases e
 · rw[az q] at h;exact⟨(a2U h).1,(a2U h).2.1⟩
end L2T
namespace EV
open PySem L2
def rpB:Ss:=(.o (.iff (.cmp .isin (.v 3) (.tup (.s "/">=>.o (.s ">")))) (.ex (.mt .append (.v 2) (.o (.v 3)))>=>.o (.ex (.mt .append (.v 1) (.o (.lst .nil))))) (.o (.ex (.mt .append (.ix (.v 1) (.neg (.i 1))) (.o (.v 3)))))))
def rhB:Ss:=(.set 4 (.call 1 (.o (.v 3)))>=>.o (.iff (.cmp .gt (.bi .len (.o (.v 4))) (.i 0)) (.set 5 (.call 13 (.v 1>=>.o (.v 4)))>=>.o (.iff (.notN (.v 5)) (.o .bad) .nil)) .nil))
def abc:Str:="abcdefghijklmnopqrstuvwxyz"
def cA:E:=(.comp (.nm 0) (.rng1 (.v 1)) 1 [3,2,1] .yes (.bin .mul (.ix (.v 2) (.v 1)) (.bin .sub (.v 3) (.v 0))))
def cS:E:=(.comp (.nm 0) (.rng1 (.v 4)) 1 [0,2] .yes (.ix (.bin .add (.v 2) (.s "0123456789")) (.bin .mod (.bin .add (.bin .div (.v 1) (.i 16224)) (.bin .mul (.i 7) (.v 0))) (.i 36))))
def cB:E:=(.comp (.nm 0) (.rng1 (.v 1)) 1 [3,2,5,6] .yes (.bin .add (.bin .add (.sl (.v 4) .no (.at (.v 3))) (.ix (.v 2) (.bin .mod (.bin .add (.v 1) (.bin .mul (.i 5) (.v 0))) (.i 26)))) (.sl (.v 4) (.at (.v 3)) .no)))
def wE:E:=(.ix (.lst (.i 0>=>.bin .mod (.bin .div (.v 5) (.i 4)) (.i 20)>=>.bin .mod (.bin .div (.v 5) (.i 4)) (.i 1000)>=>.o (.bin .mod (.bin .div (.v 5) (.i 4)) (.i 99999)))) (.bin .mod (.v 5) (.i 4)))
def wB:Ss:=(.set 5 (.call 202 (.v 0>=>.o (.bin .add (.v 4) (.i 10))))>=>.o (.ex (.mt .append (.v 3) (.cons wE .nil))))
def b0X:E:=(.ix (.lst (.s "above">=>.o (.s "below"))) (.bin .mod (.bin .div (.v 4) (.i 4)) (.i 2)))
def c0t:Ss:=(.o (.ex (.mt .append (.v 2) (.o (.tup (.ix (.ix (.v 1) (.v 3)) (.i 0)>=>.v 5>=>.call 205 (.o (.bin .div (.v 4) (.i 8)))>=>.o (.call 205 (.o (.bin .div (.v 4) (.i 8000))))))))))
def mkB:Ss:=(.set 4 (.call 202 (.v 0>=>.o (.bin .add (.v 3) (.i 40))))>=>.o (.iff (.cmp .eq (.bin .mod (.v 4) (.i 4)) (.i 1)) (.set 5 b0X>=>c0t) .nil))
def b1p:Ss:=(.o (.iff (.cmp .gt (.bin .mod (.bin .div (.v 4) (.i 2)) (.i 3)) (.i 0)) (.o (.ex (.mt .append (.v 2) (.o (.tup (.ix (.ix (.v 1) (.v 3)) (.i 0)>=>.v 5>=>.o (.call 205 (.o (.bin .div (.v 4) (.i 6)))))))))) .nil))
def ptB:Ss:=(.set 4 (.call 202 (.v 0>=>.o (.bin .add (.v 3) (.i 70))))>=>.o (.for (.nm 5) (.seq (.sl (.lst (.s "above">=>.o (.s "below"))) (.at (.bin .mod (.v 4) (.i 2))) .no)) b1p))
noncomputable def jnD:List (D×D):=[((.str "both"),(.int (4))),((.str "back"),(.int (2))),((.str "none"),(.int (1))),((.str "clear"),(.int (1)))]
def jnE:E:=(.lst (.s "both">=>.s "back">=>.s "none">=>.s "both">=>.s "clear">=>.o (.s "both")))
def wyE:E:=(.lst (.s "left">=>.s "right">=>.o (.s "either")))
def fcE:E:=(.comp (.nm 0) (.rng1 (.v 8)) 1 [6,1] .yes (.ix (.ix (.v 2) (.bin .mod (.bin .div (.v 1) (.bin .add (.bin .mul (.bin .mul (.v 0) (.v 0)) (.i 31)) (.i 7))) (.bi .len (.o (.v 2))))) (.i 0)))
def lB5:Ss:=(.o (.ex (.mt .append (.v 4) (.o (.tup (.ix (.v 3) (.v 5)>=>.v 7>=>.ix wyE (.bin .mod (.bin .div (.v 6) (.i 6)) (.i 3))>=>.o (.v 9)))))))
def lB4:Ss:=(.set 9 (.bi .tuple (.cons fcE .nil))>=>lB5)
def lB3:Ss:=(.set 8 (.ix (.dlit jnD) (.v 7))>=>lB4)
def lB:Ss:=(.set 6 (.call 202 (.v 0>=>.o (.bin .add (.v 5) (.i 100))))>=>.set 7 (.ix jnE (.bin .mod (.v 6) (.i 6)))>=>lB3)
def smE:E:=(.comp (.nm 0) (.rng1 (.bin .add (.i 1) (.bin .mod (.v 6) (.i 5)))) 1 [6,1] .yes (.ix (.ix (.v 2) (.bin .mod (.bin .div (.v 1) (.bin .add (.bin .mul (.v 0) (.i 13)) (.i 5))) (.bi .len (.o (.v 2))))) (.i 0)))
def kB:Ss:=(.set 6 (.call 202 (.v 0>=>.o (.bin .add (.v 4) (.i 130))))>=>.set 7 smE>=>.o (.ex (.mt .append (.v 3) (.o (.tup (.v 5>=>.o (.bi .tuple (.o (.v 7)))))))))
def iA:Ss:=(.o (.ex (.mt .append (.v 5) (.o (.bin .add (.s "@") (.ix (.ix (.v 4) (.bin .mod (.bin .div (.v 7) (.i 3)) (.bi .len (.o (.v 4))))) (.i 0)))))))
def iC:Ss:=(.set 8 (.ix (.ix (.v 3) (.bin .mod (.bin .div (.v 7) (.i 3)) (.bi .len (.o (.v 3))))) (.i 3))>=>.o (.ex (.mt .append (.v 5) (.o (.ix (.v 8) (.bin .mod (.bin .div (.v 7) (.i 50)) (.bi .len (.o (.v 8)))))))))
def iD:Ss:=(.o (.ex (.mt .append (.v 5) (.o (.ix (.ix (.v 2) (.bin .mod (.bin .div (.v 7) (.i 3)) (.bi .len (.o (.v 2))))) (.i 0))))))
def iB:Ss:=(.set 7 (.bin .div (.v 0) (.bin .add (.bin .mul (.bin .mul (.v 6) (.v 6)) (.i 17)) (.i 3)))>=>.o (.iff (.cmp .eq (.bin .mod (.v 7) (.i 3)) (.i 0)) iA (.o (.iff (.cmp .eq (.bin .mod (.v 7) (.i 3)) (.i 1)) iC iD))))
def e6L:E:=(.lst (.i 0>=>.i 0>=>.i 0>=>.i 1>=>.i 2>=>.o (.i 3)))
def e7L:E:=(.lst (.i 1>=>.i 2>=>.i 1>=>.i 2>=>.i 3>=>.i 4>=>.o (.i 1)))
def e5L:E:=(.lst (.i 1>=>.i 1>=>.i 1>=>.i 2>=>.o (.bin .add (.i 2) (.bi .int (.o (.bin .eq (.v 7) (.i 0)))))))
def tdE:E:=(.comp (.nm 0) (.rng1 (.v 15)) 1 [9,2] .yes (.ix (.ix (.v 2) (.bin .mod (.bin .div (.v 1) (.bin .add (.bin .mul (.v 0) (.i 7)) (.i 3))) (.bi .len (.o (.v 2))))) (.i 0)))
def rB7:Ss:=(.o (.ex (.mt .append (.v 6) (.o (.tup (.v 8>=>.ix (.ix (.v 5) (.bin .mod (.bin .div (.v 9) (.i 1260)) (.bi .len (.o (.v 5))))) (.i 0)>=>.v 12>=>.v 13>=>.v 14>=>.o (.v 16)))))))
def rB6:Ss:=(.set 15 (.ix e5L (.bin .mod (.bin .div (.v 9) (.i 252)) (.i 5)))>=>.set 16 (.bi .tuple (.cons tdE .nil))>=>rB7)
def rB5:Ss:=(.set 14 (.call 210 (.bin .add (.bin .div (.v 10) (.i 101)) (.i 3)>=>.ix (.v 11) (.i 2)>=>.v 2>=>.v 3>=>.o (.v 4)))>=>rB6)
def rB4:Ss:=(.set 13 (.call 210 (.bin .add (.bin .div (.v 10) (.i 11)) (.bin .mul (.i 5) (.v 7))>=>.ix (.v 11) (.i 1)>=>.v 2>=>.v 3>=>.o (.v 4)))>=>rB5)
def rB3:Ss:=(.set 12 (.call 210 (.v 10>=>.ix (.v 11) (.i 0)>=>.v 2>=>.v 3>=>.o (.v 4)))>=>rB4)
def szE:E:=(.lst (.ix e6L (.bin .mod (.v 9) (.i 6))>=>.ix e7L (.bin .mod (.bin .div (.v 9) (.i 6)) (.i 7))>=>.o (.ix e6L (.bin .mod (.bin .div (.v 9) (.i 42)) (.i 6)))))
def rB:Ss:=(.set 9 (.call 202 (.v 0>=>.o (.bin .add (.v 7) (.i 160))))>=>.set 10 (.call 202 (.v 0>=>.o (.bin .add (.v 7) (.i 190))))>=>.set 11 szE>=>rB3)
def feE:E:=(.comp (.tp (.nm 0>=>.nm 1>=>.nil)) (.enum (.call 203 (.bin .div (.v 6) (.i 3)>=>.o (.bin .add (.i 1) (.bin .mod (.v 6) (.i 3)))))) 2 [6] .yes (.tup (.v 1>=>.o (.bin .gt (.bin .mod (.bin .div (.v 2) (.bin .add (.v 0) (.i 5))) (.i 4)) (.i 0)))))
def gpE:E:=(.comp (.tp (.nm 0>=>.nm 1>=>.nil)) (.enum (.v 4)) 2 [6] (.cmp .eq (.bin .mod (.bin .div (.v 2) (.bin .add (.bin .mul (.i 7) (.v 0)) (.i 9))) (.i 4)) (.i 0)) (.ix (.v 1) (.i 0)))
def hB4:Ss:=(.set 9 gpE>=>.set 10 (.call 206 (.v 2>=>.o (.v 3)))>=>.set 11 (.call 207 (.v 2>=>.o (.v 3)))>=>.o (.ret (.tup (.v 3>=>.v 10>=>.v 11>=>.v 4>=>.v 9>=>.v 5>=>.v 7>=>.o (.v 8)))))
def hB3:Ss:=(.set 7 feE>=>.set 8 (.call 211 (.call 201 (.v 0>=>.o (.i 3))>=>.v 1>=>.v 3>=>.v 4>=>.v 5>=>.o (.v 7)))>=>hB4)
def hB2:Ss:=(.set 4 (.call 208 (.call 201 (.v 0>=>.o (.i 1))>=>.o (.v 3)))>=>.set 5 (.call 209 (.call 201 (.v 0>=>.o (.i 2))>=>.o (.v 3)))>=>.set 6 (.call 202 (.call 201 (.v 0>=>.o (.i 2))>=>.o (.i 5)))>=>hB3)
def b5z:E:=(.bin .add (.bin .add (.bin .add (.s "shape ") (.v 0)) (.s " ")) (.bi .str (.o (.v 1))))
def c0N:E:=(.comp (.tp (.nm 0>=>.nm 1>=>.nil)) (.seq (.ix (.v 0) (.i 0))) 2 [] .yes b5z)
def b5B:Ss:=(.set 6 (.bin .add (.bin .add (.call 213 (.o (.v 4))) (.s " ")) (.call 213 (.o (.v 5))))>=>.o (.ex (.mt .append (.v 2) (.o (.bin .add (.bin .add (.bin .add (.bin .add (.bin .add (.s "mark ") (.v 1)) (.s " ")) (.v 3)) (.s " ")) (.v 6))))))
def b8t:E:=(.bin .add (.bin .add (.bin .add (.bin .add (.bin .add (.s "point ") (.v 0)) (.s " ")) (.v 1)) (.s " ")) (.call 213 (.o (.v 2))))
def c0M:E:=(.comp (.tp (.nm 0>=>.nm 1>=>.nm 2>=>.nil)) (.seq (.ix (.v 0) (.i 2))) 3 [] .yes b8t)
def c0H:E:=(.bin .add (.lst (.s "letter">=>.v 1>=>.v 7>=>.o (.v 8))) (.bi .list (.o (.v 9))))
def b5A:Ss:=(.o (.ex (.mt .append (.v 2) (.o (.mt .join (.s " ") (.cons c0H .nil))))))
def c0L:E:=(.comp (.nm 0) (.seq (.ix (.v 0) (.i 4))) 1 [] .yes (.bin .add (.s "gap ") (.v 0)))
def b8r:E:=(.bin .add (.lst (.s "class">=>.o (.v 0))) (.bi .list (.o (.v 1))))
def c0K:E:=(.comp (.tp (.nm 0>=>.nm 1>=>.nil)) (.seq (.ix (.v 0) (.i 5))) 2 [] .yes (.mt .join (.s " ") (.cons b8r .nil)))
def b8s:E:=(.bin .add (.bin .add (.bin .add (.s "feature ") (.v 0)) (.s " ")) (.ix (.lst (.s "off">=>.o (.s "on"))) (.bi .int (.o (.v 1)))))
def c0J:E:=(.comp (.tp (.nm 0>=>.nm 1>=>.nil)) (.seq (.ix (.v 0) (.i 6))) 2 [] .yes b8s)
def c0I:E:=(.comp (.nm 0) (.seq (.ix (.v 0) (.i 7))) 1 [] .yes (.call 214 (.o (.v 0))))
def htP(a b c d:Nat):Pat:=.tp (.nm a>=>.nm b>=>.nm c>=>.nm d>=>.nil)
noncomputable def foJ:E:=(.comp (.nm 0) (.seq (.v 1)) 1 [0] .yes (.ix (.ix (.fld (.v 1) "letters") (.v 0)) (.i 0)))
noncomputable def foD(i:Int):E:=(.bi .dict (.o (.comp (.nm 0) (.seq (.v 3)) 1 [] .yes (.tup (.ix (.v 0) (.k (.int i))>=>.o (.k (.bl true)))))))
def foB:Ss:=(.o (.ex (.mt .append (.v 6) (.o (.call 37 (.ix (.ix (.fld (.v 0) "letters") (.v 2)) (.i 2)>=>.bin .isin (.v 7) (.v 5)>=>.o (.bin .isin (.v 7) (.v 4))))))))
def onB:Ss:=(.o (.iff (.an (.cmp .eq (.ix (.v 5) (.i 0)) (.v 1)) (.chn .le .le (.ix (.v 5) (.i 1)) (.v 3) (.ix (.v 5) (.i 2)))) (.o (.set 4 (.ix (.v 5) (.i 3)))) .nil))
def cfB:Ss:=(.o (.iff (.cmp .notin (.ix (.v 2) (.i 0)) (.fld (.v 0) "features")) (.o .bad) .nil))
def hoB:Ss:=(.o (.iff (.cmp .gt (.bi .len (.o (.ix (.v 3) (.i 1)))) (.i 0)) (.ex (.mt .append (.v 1) (.o (.ix (.ix (.v 3) (.i 1)) (.i 0))))>=>.o (.set 2 (.ix (.ix (.v 3) (.i 1)) (.neg (.i 1))))) (.o (.ex (.mt .append (.v 1) (.o (.v 2)))))))
def tcB:Ss:=(.o (.set 2 (.bin .add (.v 2) (.ix (.v 3) (.i 1)))))
noncomputable def tcE:E:=(.comp (.nm 0) (.seq (.sl (.v 0) (.at (.i 1)) .no)) 1 [] .yes (.tup (.v 0>=>.o (.tup .nil))))
noncomputable def afB:Ss:=(.o (.iff (.nt (.val (.call 38 (.v 0>=>.v 3>=>.o (.ix (.v 4) (.i 0)))))) (.o (.ret (.k (.bl false)))) .nil))
def dnT:T:=(.cmp .lt (.v 7) (.bi .len (.o (.v 2))))
def b8N:Ss:=(.ex (.mt .extend (.v 4) (.o (.call 43 (.ix (.v 1) (.i 5)>=>.o (.sl (.v 2) (.at (.v 7)) (.at (.v 9)))))))>=>.set 7 (.v 9)>=>.o (.set 8 (.bin .add (.v 8) (.i 1))))
def b8M:Ss:=(.ex (.mt .append (.v 4) (.o (.ix (.v 2) (.v 7))))>=>.o (.set 7 (.bin .add (.v 7) (.i 1))))
def dnB:Ss:=(.set 9 (.bin .add (.v 7) (.bi .len (.o (.ix (.v 1) (.i 3)))))>=>.set 10 (.an (.bin .isin (.ix (.ix (.v 2) (.v 7)) (.i 0)) (.v 6)) (.call 41 (.v 0>=>.v 1>=>.v 4>=>.v 2>=>.o (.v 7))))>=>.o (.iff (.an (.val (.v 10)) (.val (.call 47 (.v 0>=>.ix (.v 1) (.i 1)>=>.v 3>=>.o (.sl (.v 5) (.at (.v 7)) (.at (.v 9))))))) b8N b8M))
noncomputable def frE(a:E):E:=(.comp (.tp (.nm 0>=>.nm 1>=>.nil)) (.enum a) 2 [] .yes (.tup (.v 1>=>.o (.tup (.o (.v 0))))))
noncomputable def shB:Ss:=(.set 6 (.call 40 (.v 0>=>.v 5>=>.v 3>=>.o (.v 2)))>=>.set 3 (.ix (.v 6) (.i 0))>=>.o (.ex (.mt .append (.v 4) (.o (.ix (.v 6) (.i 1))))))
def stB:Ss:=(.set 5 (.call 202 (.v 0>=>.o (.bin .add (.v 4) (.i 300))))>=>.set 6 (.ix (.lst (.bin .mod (.bin .div (.v 5) (.i 7)) (.bin .add (.v 2) (.i 1))>=>.o (.call 218 (.bin .div (.v 5) (.i 7)>=>.o (.v 2))))) (.bin .mod (.v 5) (.i 2)))>=>.set 7 (.ix (.lst (.bin .add (.v 6) (.bin .mod (.bin .div (.v 5) (.i 11)) (.i 7))>=>.o (.call 218 (.bin .div (.v 5) (.i 13)>=>.o (.v 2))))) (.bin .mod (.bin .div (.v 5) (.i 2)) (.i 2)))>=>.o (.ex (.mt .append (.v 3) (.o (.tup (.ix (.ix (.v 1) (.bin .mod (.bin .div (.v 5) (.i 5)) (.bi .len (.o (.v 1))))) (.i 0)>=>.v 6>=>.v 7>=>.o (.bin .eq (.bin .mod (.bin .div (.v 5) (.i 3)) (.i 2)) (.i 0))))))))
def D0:Fn:=⟨2,4,1,(.o (.for (.tp (.nm 2>=>.nm 3>=>.nil)) (.enum (.v 1)) (.o (.iff (.cmp .notin (.v 3) (.fld (.v 0) "letters")) (.o .bad) .nil))))⟩
def T3:Fn:=⟨2,8,2,(.ex (.call 33 (.v 0>=>.o (.v 1)))>=>.set 3 (.call 35 (.cons foJ .nil))>=>.set 4 (foD 0)>=>.set 5 (foD 1)>=>.set 6 (.lst .nil)>=>.for (.tp (.nm 7>=>.nm 2>=>.nil)) (.enum (.v 1)) foB>=>.o (.ret (.v 6)))⟩
def E4:Fn:=⟨1,2,2,(.set 1 (.comp (.tp (.nm 0>=>.nm 1>=>.nil)) (.enum (.v 0)) 2 [] (.cmp .ne (.v 1) (.s "clear")) (.v 0))>=>.o (.ret (.comp (.nm 0) (.zipn (.v 1) (.sl (.v 1) (.at (.i 1)) .no)) 1 [0] (.val (.call 36 (.ix (.v 1) (.ix (.v 0) (.i 0))>=>.o (.ix (.v 1) (.ix (.v 0) (.i 1)))))) (.v 0))))⟩
def F7:Fn:=⟨2,2,1,(.o (.ret (.an (.bin .eq (.v 0) (.s "both")) (.gin false (.v 1) [(.str "both"),(.str "back")]))))⟩
noncomputable def J6:Fn:=⟨3,3,1,(.iff (.an (.val (.v 1)) (.val (.v 2))) (.o (.ret (.ix (.v 0) (.i 2)))) .nil>=>.iff (.val (.v 2)) (.o (.ret (.ix (.v 0) (.i 1)))) .nil>=>.iff (.val (.v 1)) (.o (.ret (.ix (.v 0) (.neg (.i 1))))) .nil>=>.o (.ret (.ix (.v 0) (.i 0))))⟩
def a1d:Fn:=⟨1,1,2,(.o (.ret (.comp (.nm 0) (.seq (.mt .split (.v 0) (.o (.s " ")))) 1 [] (.cmp .ne (.v 0) (.s "")) (.v 0))))⟩
def a2l:Fn:=⟨2,2,1,(.o (.ret (.bi .all (.o (.comp (.nm 0) (.seq (.v 0)) 1 [1] .yes (.bin .isin (.v 0) (.v 1)))))))⟩
noncomputable def a2m:Fn:=⟨1,1,1,(.o (.ret (.an (.chn .le .le (.i 1) (.bi .len (.o (.v 0))) (.i 12)) (.call 2 (.v 0>=>.o (.s "abcdefghijklmnopqrstuvwxyz0123456789"))))))⟩
def a0o:Fn:=⟨1,1,1,(.iff (.orr (.nt (.chn .le .le (.i 1) (.bi .len (.o (.v 0))) (.i 5))) (.nt (.val (.call 2 (.v 0>=>.o (.s "0123456789")))))) (.o (.ret (.k (.bl false)))) .nil>=>.o (.ret (.orr (.bin .eq (.v 0) (.s "0")) (.bin .ne (.ix (.v 0) (.i 0)) (.s "0")))))⟩
def L1:Fn:=⟨1,1,1,(.iff (.val (.mt .starts (.v 0) (.o (.s "-")))) (.o (.ret (.an (.bin .ne (.v 0) (.s "-0")) (.call 4 (.o (.sl (.v 0) (.at (.i 1)) .no)))))) .nil>=>.o (.ret (.call 4 (.o (.v 0)))))⟩
def Q5:Fn:=⟨1,1,1,(.o (.ret (.sl (.v 0) (.at (.bi .len (.o (.s "@")))) .no)))⟩
noncomputable def Q2:Fn:=⟨1,1,1,(.o (.ret (.an (.mt .starts (.v 0) (.o (.s "@"))) (.call 3 (.o (.call 6 (.o (.v 0))))))))⟩
def a2n:Fn:=⟨1,1,1,(.o (.ret (.orr (.call 3 (.o (.v 0))) (.call 7 (.o (.v 0))))))⟩
noncomputable def a2B:Fn:=⟨1,1,1,(.o (.ret (.bi .all (.o (.comp (.nm 0) (.seq (.v 0)) 1 [] .yes (.call 3 (.o (.v 0))))))))⟩
noncomputable def O7:Fn:=⟨1,1,1,(.o (.ret (.bi .all (.o (.comp (.nm 0) (.seq (.v 0)) 1 [] .yes (.call 5 (.o (.v 0))))))))⟩
noncomputable def a2C:Fn:=⟨1,1,1,(.o (.ret (.bi .all (.o (.comp (.nm 0) (.seq (.v 0)) 1 [] .yes (.call 8 (.o (.v 0))))))))⟩
def a1i:Fn:=⟨3,3,1,(.o (.ret (.bin .isin (.v 2) (.call 39 (.v 0>=>.o (.v 1))))))⟩
noncomputable def y7:Fn:=⟨2,2,1,(.iff (.val (.mt .starts (.v 1) (.o (.s "@")))) (.o (.ret (.dget (.fld (.v 0) "classes") (.call 6 (.o (.v 1))) (.tup .nil)))) .nil>=>.o (.ret (.tup (.o (.v 1)))))⟩
def a8c:Fn:=⟨4,11,0,(.ex (.call 45 (.v 0>=>.o (.v 3)))>=>.set 4 (.lst .nil)>=>.set 5 (.call 44 (.o (.v 2)))>=>.set 6 (.call 39 (.v 0>=>.o (.ix (.ix (.v 1) (.i 3)) (.i 0))))>=>.set 7 (.i 0)>=>.set 8 (.i 0)>=>.whl dnT dnB>=>.o (.ret (.tup (.v 4>=>.o (.v 8)))))⟩
def U1:Fn:=⟨5,6,1,(.set 5 (.bin .add (.v 4) (.bi .len (.o (.ix (.v 1) (.i 3)))))>=>.iff (.nt (.val (.call 42 (.v 0>=>.ix (.v 1) (.i 3)>=>.o (.sl (.v 3) (.at (.v 4)) (.at (.v 5))))))) (.o (.ret (.k (.bl false)))) .nil>=>.iff (.nt (.val (.call 42 (.v 0>=>.ix (.v 1) (.i 2)>=>.o (.sl (.v 2) (.at (.bi .max (.i 0>=>.o (.bin .sub (.bi .len (.o (.v 2))) (.bi .len (.o (.ix (.v 1) (.i 2)))))))) .no))))) (.o (.ret (.k (.bl false)))) .nil>=>.o (.ret (.call 42 (.v 0>=>.ix (.v 1) (.i 4)>=>.o (.sl (.v 3) (.at (.v 5)) (.at (.bin .add (.v 5) (.bi .len (.o (.ix (.v 1) (.i 4)))))))))))⟩
def W5:Fn:=⟨3,5,1,(.iff (.cmp .ne (.bi .len (.o (.v 1))) (.bi .len (.o (.v 2)))) (.o (.ret (.k (.bl false)))) .nil>=>.for (.tp (.nm 3>=>.nm 4>=>.nil)) (.zip (.v 1) (.v 2)) afB>=>.o (.ret (.k (.bl true))))⟩
def Q9:Fn:=⟨2,4,2,(.set 2 (.tup .nil)>=>.for (.nm 3) (.seq (.v 1)) tcB>=>.o (.ret (.bin .add (.lst (.o (.tup (.ix (.v 0) (.i 0)>=>.o (.v 2))))) tcE)))⟩
def Y5:Fn:=⟨1,4,2,(.set 1 (.lst .nil)>=>.set 2 (.k .non)>=>.for (.nm 3) (.seq (.v 0)) hoB>=>.o (.ret (.v 1)))⟩
def J7:Fn:=⟨2,3,1,(.o (.for (.nm 2) (.seq (.v 1)) cfB))⟩
def a1K:Fn:=⟨4,6,1,(.set 4 (.ix (.fld (.v 0) "features") (.v 1))>=>.for (.nm 5) (.seq (.v 2)) onB>=>.o (.ret (.v 4)))⟩
noncomputable def M0:Fn:=⟨4,4,1,(.o (.ret (.bi .all (.o (.comp (.nm 0) (.seq (.v 3)) 1 [1,0,2] .yes (.call 46 (.v 2>=>.v 1>=>.v 3>=>.o (.v 0))))))))⟩
def a1J:Fn:=⟨3,7,0,(.set 3 (.call 49 (.o (.call 34 (.v 0>=>.o (.v 1)))))>=>.ex (.call 45 (.v 0>=>.o (.v 2)))>=>.set 4 (.lst .nil)>=>.for (.nm 5) (.seq (.fld (.v 0) "rules")) shB>=>.o (.ret (.tup (.v 3>=>.o (.v 4)))))⟩
noncomputable def K4:Fn:=⟨1,1,2,(.o (.ret (.comp (.tp (.nm 0>=>.nm 1>=>.nil)) (.enum (.v 0)) 2 [] .yes (.tup (.v 1>=>.o (.tup (.o (.v 0))))))))⟩
noncomputable def O8:Fn:=⟨1,1,0,(.sfl (.v 0) "shapes" .dnew>=>.sfl (.v 0) "marks" .dnew>=>.sfl (.v 0) "points" .dnew>=>.sfl (.v 0) "letters" .dnew>=>.sfl (.v 0) "gaps" (.lst .nil)>=>.sfl (.v 0) "classes" .dnew>=>.sfl (.v 0) "features" .dnew>=>.o (.sfl (.v 0) "rules" (.lst .nil)))⟩
def a0n:Fn:=⟨1,6,0,(.set 1 (.mk 6 .nil)>=>.for (.tp (.nm 2>=>.nm 3>=>.nil)) (.enum (.mt .split (.v 0) (.o (.s "\n")))) (.set 4 (.call 1 (.o (.v 3)))>=>.o (.iff (.cmp .gt (.bi .len (.o (.v 4))) (.i 0)) (.set 5 (.call 13 (.v 1>=>.o (.v 4)))>=>.o (.iff (.notN (.v 5)) (.o .bad) .nil)) .nil))>=>.o (.ret (.v 1)))⟩
def F6:Fn:=⟨2,3,0,(.set 2 (.ix (.v 1) (.i 0))>=>.iff (.cmp .eq (.v 2) (.s "shape")) (.o (.ret (.call 17 (.v 0>=>.o (.v 1))))) .nil>=>.iff (.cmp .eq (.v 2) (.s "mark")) (.o (.ret (.call 19 (.v 0>=>.o (.v 1))))) .nil>=>.iff (.cmp .eq (.v 2) (.s "point")) (.o (.ret (.call 20 (.v 0>=>.o (.v 1))))) .nil>=>.iff (.cmp .eq (.v 2) (.s "letter")) (.o (.ret (.call 22 (.v 0>=>.o (.v 1))))) .nil>=>.iff (.cmp .eq (.v 2) (.s "gap")) (.o (.ret (.call 23 (.v 0>=>.o (.v 1))))) .nil>=>.iff (.cmp .eq (.v 2) (.s "class")) (.o (.ret (.call 24 (.v 0>=>.o (.v 1))))) .nil>=>.iff (.cmp .eq (.v 2) (.s "feature")) (.o (.ret (.call 25 (.v 0>=>.o (.v 1))))) .nil>=>.iff (.cmp .eq (.v 2) (.s "rule")) (.o (.ret (.call 26 (.v 0>=>.o (.v 1))))) .nil>=>.o (.ret (.s "row")))⟩
noncomputable def a0q:Fn:=⟨3,3,1,(.iff (.val (.v 0)) (.o (.ret (.s "twice"))) .nil>=>.iff (.nt (.val (.v 1))) (.o (.ret (.s "name"))) .nil>=>.iff (.val (.v 2)) (.o (.ret (.s "many"))) .nil>=>.o (.ret (.k .non)))⟩
def Y6:Fn:=⟨2,2,1,(.o (.ret (.bi .all (.o (.comp (.nm 0) (.seq (.v 1)) 1 [0] .yes (.bin .isin (.v 0) (.fld (.v 1) "shapes")))))))⟩
noncomputable def a2k:Fn:=⟨1,1,1,(.o (.ret (.tup (.bi .int (.o (.ix (.v 0) (.i 0)))>=>.o (.bi .int (.o (.ix (.v 0) (.i 1))))))))⟩
def Y0:Fn:=⟨2,4,0,(.iff (.orr (.cmp .ne (.bi .len (.o (.v 1))) (.i 3)) (.orr (.nt (.val (.call 3 (.o (.ix (.v 1) (.i 1)))))) (.nt (.val (.call 4 (.o (.ix (.v 1) (.i 2)))))))) (.o (.ret (.s "row"))) .nil>=>.set 2 (.ix (.v 1) (.i 1))>=>.set 3 (.call 14 (.bin .isin (.v 2) (.fld (.v 0) "shapes")>=>.k (.bl true)>=>.o (.bin .ge (.bi .len (.o (.fld (.v 0) "shapes"))) (.i 60))))>=>.iff (.isN (.v 3)) (.o (.six (.fld (.v 0) "shapes") (.v 2) (.bi .int (.o (.ix (.v 1) (.i 2)))))) .nil>=>.o (.ret (.v 3)))⟩
def Q3:Fn:=⟨2,2,1,(.iff (.orr (.cmp .ne (.bi .len (.o (.v 0))) (.bin .add (.i 3) (.v 1))) (.nt (.val (.call 3 (.o (.ix (.v 0) (.i 1))))))) (.o (.ret (.k (.bl false)))) .nil>=>.o (.ret (.an (.gin false (.ix (.v 0) (.i 2)) [(.str "above"),(.str "below")]) (.call 10 (.o (.sl (.v 0) (.at (.i 3)) .no))))))⟩
def a0m:Fn:=⟨2,4,0,(.iff (.nt (.val (.call 18 (.v 1>=>.o (.i 4))))) (.o (.ret (.s "row"))) .nil>=>.set 2 (.ix (.v 1) (.i 1))>=>.set 3 (.call 14 (.bin .isin (.v 2) (.fld (.v 0) "marks")>=>.bin .isin (.v 2) (.fld (.v 0) "shapes")>=>.o (.k (.bl false))))>=>.iff (.isN (.v 3)) (.o (.six (.fld (.v 0) "marks") (.v 2) (.tup (.ix (.v 1) (.i 2)>=>.call 16 (.o (.sl (.v 1) (.at (.i 3)) (.at (.i 5))))>=>.o (.call 16 (.o (.sl (.v 1) (.at (.i 5)) (.at (.i 7))))))))) .nil>=>.o (.ret (.v 3)))⟩
def Y1:Fn:=⟨2,5,0,(.iff (.nt (.val (.call 18 (.v 1>=>.o (.i 2))))) (.o (.ret (.s "row"))) .nil>=>.set 2 (.ix (.v 1) (.i 1))>=>.set 3 (.tup (.v 2>=>.o (.ix (.v 1) (.i 2))))>=>.set 4 (.call 14 (.bin .isin (.v 3) (.fld (.v 0) "points")>=>.bin .isin (.v 2) (.fld (.v 0) "shapes")>=>.o (.k (.bl false))))>=>.iff (.isN (.v 4)) (.o (.six (.fld (.v 0) "points") (.v 3) (.call 16 (.o (.sl (.v 1) (.at (.i 3)) (.at (.i 5))))))) .nil>=>.o (.ret (.v 4)))⟩
def M1:Fn:=⟨1,2,1,(.iff (.orr (.cmp .lt (.bi .len (.o (.v 0))) (.i 4)) (.nt (.val (.call 3 (.o (.ix (.v 0) (.i 1))))))) (.o (.ret (.k (.bl false)))) .nil>=>.iff (.orr (.val (.gdin true (.ix (.v 0) (.i 2)) [((.str "none"),(.int (1))),((.str "clear"),(.int (1))),((.str "back"),(.int (2))),((.str "both"),(.int (4)))])) (.val (.gin true (.ix (.v 0) (.i 3)) [(.str "left"),(.str "right"),(.str "either")]))) (.o (.ret (.k (.bl false)))) .nil>=>.set 1 (.sl (.v 0) (.at (.i 4)) .no)>=>.o (.ret (.an (.bin .eq (.bi .len (.o (.v 1))) (.gdix (.ix (.v 0) (.i 2)) [((.str "none"),(.int (1))),((.str "clear"),(.int (1))),((.str "back"),(.int (2))),((.str "both"),(.int (4)))])) (.call 9 (.o (.v 1))))))⟩
def V3:Fn:=⟨2,5,0,(.iff (.nt (.val (.call 21 (.o (.v 1))))) (.o (.ret (.s "row"))) .nil>=>.set 2 (.ix (.v 1) (.i 1))>=>.set 3 (.sl (.v 1) (.at (.i 4)) .no)>=>.set 4 (.call 14 (.bin .isin (.v 2) (.fld (.v 0) "letters")>=>.call 15 (.v 0>=>.o (.v 3))>=>.o (.bin .ge (.bi .len (.o (.fld (.v 0) "letters"))) (.i 24))))>=>.iff (.isN (.v 4)) (.o (.six (.fld (.v 0) "letters") (.v 2) (.tup (.ix (.v 1) (.i 2)>=>.ix (.v 1) (.i 3)>=>.o (.bi .tuple (.o (.v 3))))))) .nil>=>.o (.ret (.v 4)))⟩
def a1e:Fn:=⟨2,4,0,(.iff (.orr (.cmp .ne (.bi .len (.o (.v 1))) (.i 2)) (.nt (.val (.call 3 (.o (.ix (.v 1) (.i 1))))))) (.o (.ret (.s "row"))) .nil>=>.set 2 (.ix (.v 1) (.i 1))>=>.set 3 (.call 14 (.bin .isin (.v 2) (.fld (.v 0) "gaps")>=>.bin .isin (.v 2) (.fld (.v 0) "letters")>=>.o (.k (.bl false))))>=>.iff (.isN (.v 3)) (.o (.ex (.mt .append (.fld (.v 0) "gaps") (.o (.v 2))))) .nil>=>.o (.ret (.v 3)))⟩
def Y2:Fn:=⟨2,5,0,(.set 2 (.sl (.v 1) (.at (.i 2)) .no)>=>.iff (.orr (.nt (.chn .le .le (.i 1) (.bi .len (.o (.v 2))) (.i 20))) (.nt (.val (.call 9 (.o (.sl (.v 1) (.at (.i 1)) .no)))))) (.o (.ret (.s "row"))) .nil>=>.set 3 (.ix (.v 1) (.i 1))>=>.set 4 (.call 14 (.bin .isin (.v 3) (.fld (.v 0) "classes")>=>.call 15 (.v 0>=>.o (.v 2))>=>.o (.bin .ge (.bi .len (.o (.fld (.v 0) "classes"))) (.i 20))))>=>.iff (.isN (.v 4)) (.o (.six (.fld (.v 0) "classes") (.v 3) (.bi .tuple (.o (.v 2))))) .nil>=>.o (.ret (.v 4)))⟩
def T2:Fn:=⟨2,4,0,(.iff (.orr (.cmp .ne (.bi .len (.o (.v 1))) (.i 3)) (.orr (.nt (.val (.call 3 (.o (.ix (.v 1) (.i 1)))))) (.val (.gin true (.ix (.v 1) (.i 2)) [(.str "on"),(.str "off")])))) (.o (.ret (.s "row"))) .nil>=>.set 2 (.ix (.v 1) (.i 1))>=>.set 3 (.call 14 (.bin .isin (.v 2) (.fld (.v 0) "features")>=>.k (.bl true)>=>.o (.bin .ge (.bi .len (.o (.fld (.v 0) "features"))) (.i 10))))>=>.iff (.isN (.v 3)) (.o (.six (.fld (.v 0) "features") (.v 2) (.bin .eq (.ix (.v 1) (.i 2)) (.s "on")))) .nil>=>.o (.ret (.v 3)))⟩
def a0l:Fn:=⟨2,8,0,(.iff (.nt (.val (.call 27 (.o (.v 1))))) (.o (.ret (.s "row"))) .nil>=>.set 2 (.ix (.v 1) (.i 1))>=>.set 3 (.ix (.v 1) (.i 2))>=>.set 4 (.call 28 (.o (.v 1)))>=>.set 5 (.bin .add (.bin .add (.ix (.v 4) (.i 0)) (.ix (.v 4) (.i 1))) (.ix (.v 4) (.i 2)))>=>.set 6 (.an (.bin .isin (.v 3) (.fld (.v 0) "features")) (.an (.call 29 (.v 0>=>.o (.v 5))) (.call 15 (.v 0>=>.o (.ix (.v 4) (.i 3))))))>=>.set 7 (.call 14 (.call 31 (.v 0>=>.o (.v 2))>=>.v 6>=>.o (.bin .ge (.bi .len (.o (.fld (.v 0) "rules"))) (.i 30))))>=>.iff (.isN (.v 7)) (.o (.ex (.mt .append (.fld (.v 0) "rules") (.o (.tup (.v 2>=>.v 3>=>.bi .tuple (.o (.ix (.v 4) (.i 0)))>=>.bi .tuple (.o (.ix (.v 4) (.i 1)))>=>.bi .tuple (.o (.ix (.v 4) (.i 2)))>=>.o (.bi .tuple (.o (.ix (.v 4) (.i 3)))))))))) .nil>=>.o (.ret (.v 7)))⟩
def Q4:Fn:=⟨1,2,1,(.iff (.nt (.val (.call 9 (.o (.sl (.v 0) (.at (.i 1)) (.at (.i 3))))))) (.o (.ret (.k (.bl false)))) .nil>=>.set 1 (.call 28 (.o (.v 0)))>=>.iff (.orr (.isN (.v 1)) (.orr (.cmp .gt (.bi .len (.o (.ix (.v 1) (.i 0)))) (.i 3)) (.cmp .gt (.bi .len (.o (.ix (.v 1) (.i 2)))) (.i 3)))) (.o (.ret (.k (.bl false)))) .nil>=>.iff (.orr (.nt (.chn .le .le (.i 1) (.bi .len (.o (.ix (.v 1) (.i 1)))) (.i 4))) (.nt (.chn .le .le (.i 1) (.bi .len (.o (.ix (.v 1) (.i 3)))) (.i 3)))) (.o (.ret (.k (.bl false)))) .nil>=>.o (.ret (.an (.call 11 (.o (.bin .add (.bin .add (.ix (.v 1) (.i 0)) (.ix (.v 1) (.i 1))) (.ix (.v 1) (.i 2))))) (.call 9 (.o (.ix (.v 1) (.i 3)))))))⟩
def Y3:Fn:=⟨1,4,0,(.set 1 (.lst (.o (.lst .nil)))>=>.set 2 (.lst .nil)>=>.for (.nm 3) (.seq (.sl (.v 0) (.at (.i 3)) .no)) (.o (.iff (.cmp .isin (.v 3) (.tup (.s "/">=>.o (.s ">")))) (.ex (.mt .append (.v 2) (.o (.v 3)))>=>.o (.ex (.mt .append (.v 1) (.o (.lst .nil))))) (.o (.ex (.mt .append (.ix (.v 1) (.neg (.i 1))) (.o (.v 3)))))))>=>.iff (.cmp .ne (.v 2) (.lst (.s "/">=>.s "/">=>.o (.s ">")))) (.o (.ret (.k .non))) .nil>=>.o (.ret (.v 1)))⟩
noncomputable def a0p:Fn:=⟨2,2,1,(.o (.ret (.bi .all (.o (.comp (.nm 0) (.seq (.v 1)) 1 [0] .yes (.call 30 (.v 1>=>.o (.v 0))))))))⟩
def a1h:Fn:=⟨2,2,1,(.iff (.val (.call 7 (.o (.v 1)))) (.o (.ret (.bin .isin (.call 6 (.o (.v 1))) (.fld (.v 0) "classes")))) .nil>=>.o (.ret (.bin .isin (.v 1) (.fld (.v 0) "shapes"))))⟩
def a1g:Fn:=⟨2,2,1,(.o (.ret (.bi .any (.o (.comp (.nm 0) (.seq (.fld (.v 0) "rules")) 1 [1] .yes (.bin .eq (.ix (.v 0) (.i 0)) (.v 1)))))))⟩
def E8:Fn:=⟨2,2,1,(.iff (.cmp .lt (.v 1) (.bi .len (.o (.v 0)))) (.o (.ret (.ix (.v 0) (.v 1)))) .nil>=>.o (.ret (.i 0)))⟩
def o6:Fn:=⟨2,2,1,(.o (.ret (.bin .mod (.bin .mul (.bin .mul (.bin .add (.bin .mod (.v 0) (.i 2305843009213693951)) (.i 1)) (.bin .add (.bin .mul (.v 1) (.v 1)) (.i 48271))) (.i 40692)) (.i 2147483399))))⟩
def n9:Fn:=⟨2,7,2,(.set 2 (.k (.str abc))>=>.set 3 (.bin .mod (.bin .div (.v 0) (.i 4)) (.i 26))>=>.iff (.an (.cmp .eq (.bin .mod (.v 0) (.i 4)) (.i 0)) (.cmp .lt (.v 1) (.i 13))) (.o (.ret cA)) .nil>=>.set 4 (.bin .mod (.bin .div (.v 0) (.i 104)) (.i 12))>=>.set 5 (.bin .mod (.bin .div (.v 0) (.i 1248)) (.bin .add (.v 4) (.i 1)))>=>.set 6 (.mt .join (.s "") (.cons cS .nil))>=>.o (.ret cB))⟩
def C7:Fn:=⟨1,6,2,(.set 1 (.call 202 (.v 0>=>.o (.i 1)))>=>.set 2 (.call 203 (.bin .div (.v 1) (.i 13)>=>.o (.bin .add (.i 4) (.bin .mod (.v 1) (.i 13)))))>=>.set 3 (.lst .nil)>=>.for (.nm 4) (.rng1 (.bi .len (.o (.v 2)))) wB>=>.o (.ret (.comp (.tp (.nm 0>=>.nm 1>=>.nil)) (.zip (.v 2) (.v 3)) 2 [] .yes (.tup (.v 0>=>.o (.v 1))))))⟩
def A8:Fn:=⟨1,1,1,(.o (.ret (.tup (.bin .sub (.bin .mod (.v 0) (.i 41)) (.i 20)>=>.o (.ix (.lst (.i 0>=>.bin .mod (.bin .div (.v 0) (.i 41)) (.i 99999)>=>.o (.neg (.bin .mod (.bin .div (.v 0) (.i 41)) (.i 99999))))) (.bin .mod (.bin .div (.v 0) (.i 7)) (.i 3)))))))⟩
def D1:Fn:=⟨2,6,2,(.set 2 (.lst .nil)>=>.for (.nm 3) (.rng1 (.bi .len (.o (.v 1)))) mkB>=>.o (.ret (.v 2)))⟩
def C8:Fn:=⟨2,6,2,(.set 2 (.lst .nil)>=>.for (.nm 3) (.rng1 (.bi .len (.o (.v 1)))) ptB>=>.o (.ret (.v 2)))⟩
def B7:Fn:=⟨2,10,2,(.set 2 (.call 202 (.v 0>=>.o (.i 2)))>=>.set 3 (.call 203 (.bin .div (.v 2) (.i 6)>=>.o (.bin .add (.i 1) (.bin .mod (.v 2) (.i 6)))))>=>.set 4 (.lst .nil)>=>.for (.nm 5) (.rng1 (.bi .len (.o (.v 3)))) lB>=>.o (.ret (.v 4)))⟩
def B8:Fn:=⟨2,8,2,(.set 2 (.call 202 (.v 0>=>.o (.i 3)))>=>.set 3 (.lst .nil)>=>.for (.tp (.nm 4>=>.nm 5>=>.nil)) (.enum (.call 203 (.bin .div (.v 2) (.i 4)>=>.o (.bin .add (.i 1) (.bin .mod (.v 2) (.i 3)))))) kB>=>.o (.ret (.v 3)))⟩
def C0:Fn:=⟨5,9,1,(.set 5 (.lst .nil)>=>.for (.nm 6) (.rng1 (.v 1)) iB>=>.o (.ret (.bi .tuple (.o (.v 5)))))⟩
def w5:Fn:=⟨6,17,2,(.set 6 (.lst .nil)>=>.for (.tp (.nm 7>=>.nm 8>=>.nil)) (.enum (.call 203 (.call 202 (.v 0>=>.o (.i 4))>=>.o (.v 1)))) rB>=>.o (.ret (.v 6)))⟩
def J2:Fn:=⟨2,12,0,(.set 2 (.call 201 (.v 0>=>.o (.i 0)))>=>.set 3 (.call 204 (.o (.v 2)))>=>hB2)⟩
def E7:Fn:=⟨1,1,1,(.o (.ret (.bin .add (.bin .add (.bi .str (.o (.ix (.v 0) (.i 0)))) (.s " ")) (.bi .str (.o (.ix (.v 0) (.i 1)))))))⟩
def E6:Fn:=⟨1,2,1,(.set 1 (.bin .add (.bin .add (.bin .add (.lst (.s "rule">=>.ix (.v 0) (.i 0)>=>.o (.ix (.v 0) (.i 1)))) (.bi .list (.o (.ix (.v 0) (.i 2))))) (.lst (.o (.s "/")))) (.bi .list (.o (.ix (.v 0) (.i 3)))))>=>.o (.ret (.mt .join (.s " ") (.o (.bin .add (.bin .add (.bin .add (.bin .add (.v 1) (.lst (.o (.s "/")))) (.bi .list (.o (.ix (.v 0) (.i 4))))) (.lst (.o (.s ">")))) (.bi .list (.o (.ix (.v 0) (.i 5)))))))))⟩
def J8:Fn:=⟨1,10,1,(.set 2 c0N>=>.for (htP 1 3 4 5) (.seq (.ix (.v 0) (.i 1))) b5B>=>.set 2 (.bin .add (.v 2) c0M)>=>.for (htP 1 7 8 9) (.seq (.ix (.v 0) (.i 3))) b5A>=>.set 2 (.bin .add (.v 2) c0L)>=>.set 2 (.bin .add (.v 2) c0K)>=>.set 2 (.bin .add (.v 2) c0J)>=>.o (.ret (.mt .join (.s "\n") (.o (.bin .add (.v 2) c0I)))))⟩
def K5:Fn:=⟨4,5,2,(.set 4 (.sl (.v 0) (.at (.v 1)) (.at (.bin .add (.v 1) (.v 2))))>=>.o (.ret (.comp (.tp (.nm 0>=>.nm 1>=>.nil)) (.enum (.v 4)) 2 [3] .yes (.ix (.ix (.v 2) (.bin .mod (.call 202 (.v 1>=>.o (.v 0))) (.bi .len (.o (.v 2))))) (.i 0)))))⟩
def G0:Fn:=⟨2,2,1,(.o (.ret (.ix (.lst (.bin .mod (.v 0) (.bin .add (.v 1) (.i 1))>=>.bin .sub (.bin .mod (.v 0) (.bin .add (.v 1) (.i 7))) (.i 3)>=>.bin .add (.bin .pow (.i 10) (.i 20)) (.v 0)>=>.bin .sub (.neg (.bin .pow (.i 10) (.i 20))) (.v 0)>=>.o (.bin .mod (.v 0) (.i 3)))) (.bin .mod (.bin .div (.v 0) (.i 64)) (.i 5)))))⟩
def C9:Fn:=⟨3,8,2,(.set 3 (.lst .nil)>=>.for (.nm 4) (.rng1 (.bin .mod (.v 0) (.i 6))) stB>=>.o (.ret (.v 3)))⟩
def X9:Fn:=⟨2,2,1,(.o (.ret (.bi .sum (.o (.comp (.nm 0) (.seq (.v 1)) 1 [0] (.cmp .notin (.ix (.v 0) (.i 0)) (.fld (.v 1) "marks")) (.ix (.fld (.v 1) "shapes") (.ix (.v 0) (.i 0))))))))⟩
def R5:Fn:=⟨2,3,2,(.set 2 (.comp (.tp (.nm 0>=>.nm 1>=>.nil)) (.enum (.sl (.v 1) .no (.at (.neg (.i 1))))) 2 [0] (.cmp .isin (.v 1) (.fld (.v 2) "gaps")) (.bin .add (.v 0) (.i 1)))>=>.o (.ret (.bin .add (.v 2) (.lst (.o (.bi .len (.o (.v 1))))))))⟩
def K8:Fn:=⟨2,2,2,(.o (.ret (.comp (.nm 0) (.seq (.v 0)) 1 [1] .yes (.tup (.ix (.v 0) (.i 0)>=>.bin .sub (.ix (.v 0) (.i 1)) (.v 1)>=>.bin .sub (.ix (.v 0) (.i 2)) (.v 1)>=>.o (.ix (.v 0) (.i 3)))))))⟩
noncomputable def Y4:Fn:=⟨5,5,1,(.o (.ret (.call 60 (.v 0>=>.o (.ix (.call 48 (.v 0>=>.sl (.v 1) (.at (.v 3)) (.at (.v 4))>=>.o (.call 65 (.v 2>=>.o (.v 3))))) (.i 0))))))⟩
def R7:Fn:=⟨3,6,0,(.set 3 (.call 212 (.v 0>=>.o (.v 1)))>=>.set 4 (.call 216 (.v 0>=>.i 6>=>.v 2>=>.o (.ix (.v 3) (.i 3))))>=>.set 5 (.call 219 (.call 202 (.call 201 (.v 0>=>.o (.i 5))>=>.o (.i 7))>=>.ix (.v 3) (.i 6)>=>.o (.bi .len (.o (.v 4)))))>=>.o (.ret (.tup (.v 3>=>.v 4>=>.v 5>=>.o (.ix (.lst (.s "left">=>.o (.s "right"))) (.bin .mod (.call 201 (.v 0>=>.o (.i 4))) (.i 2)))))))⟩
def R6:Fn:=⟨4,6,1,(.set 4 (.sl (.v 1) .no (.at (.bin .mod (.bin .div (.v 3) (.i 8)) (.bin .add (.bi .len (.o (.v 1))) (.i 1)))))>=>.set 5 (.call 60 (.v 0>=>.o (.ix (.call 48 (.v 0>=>.v 4>=>.o (.v 2))) (.i 0))))>=>.o (.ret (.ix (.lst (.bin .sub (.neg (.i 1)) (.v 3)>=>.i 0>=>.v 5>=>.bin .sub (.v 5) (.i 1)>=>.bin .add (.v 5) (.bin .mod (.v 3) (.i 3))>=>.bin .div (.v 5) (.i 2)>=>.bin .pow (.i 10) (.i 20)>=>.o (.bin .mod (.v 3) (.i 100)))) (.bin .mod (.v 3) (.i 8)))))⟩
def v0:Fn:=⟨4,4,1,(.o (.ret (.bin .add (.i 1) (.bi .len (.o (.comp (.nm 0) (.rng2 (.v 2) (.bin .sub (.v 3) (.i 1))) 1 [0,1] (.cmp .isin (.ix (.v 2) (.v 0)) (.ix (.v 1) (.i 4))) (.v 0)))))))⟩
def a5v:Ss:=(.o (.iff (.cmp .le (.call 64 (.v 0>=>.v 1>=>.v 2>=>.v 4>=>.o (.v 6))) (.v 3)) (.o (.ret (.v 6))) .nil))
def le0:S:=(.for (.nm 6) (.rev (.v 5)) a5v)
def le1:S:=(.ret (.ix (.v 5) (.i 0)))
def a1f:Fn:=⟨6,7,1,(.cons le0 (.o le1))⟩
def cr0:S:=(.ex (.call 33 (.v 0>=>.o (.v 1))))
def cr1:S:=(.ex (.call 45 (.v 0>=>.o (.v 2))))
def cr2:S:=(.set 4 (.lst .nil))
def cr3:S:=(.set 5 (.i 0))
def b6j:Ss:=(.set 7 (.comp (.nm 0) (.seq (.call 62 (.v 0>=>.o (.v 1)))) 1 [5] (.cmp .gt (.v 0) (.v 1)) (.v 0))>=>.set 6 (.call 63 (.v 0>=>.v 1>=>.v 2>=>.v 3>=>.v 5>=>.o (.v 7)))>=>.ex (.mt .append (.v 4) (.o (.tup (.v 5>=>.o (.v 6)))))>=>.o (.set 5 (.v 6)))
def cr4:S:=(.whl (.cmp .lt (.v 5) (.bi .len (.o (.v 1)))) b6j)
def cr5:S:=(.ret (.v 4))
def a1j:Fn:=⟨4,8,2,(.cons cr0 (.cons cr1 (.cons cr2 (.cons cr3 (.cons cr4 (.o cr5))))))⟩
noncomputable def lw0:S:=(.pat (.tp (.nm 1>=>.nm 2>=>.nm 3>=>.nm 4>=>.nil)) (.call 231 (.v 0>=>.i 2>=>.o (.i 16))))
def lw1:S:=(.set 5 (.call 12 (.o (.call 215 (.o (.v 1))))))
noncomputable def lw2:S:=(.set 6 (.call 232 (.v 5>=>.v 2>=>.v 3>=>.o (.call 202 (.call 201 (.v 0>=>.o (.i 4))>=>.o (.i 11))))))
def lw3:S:=(.set 7 (.i 0))
def b5m:Ss:=(.iff (.orr (.cmp .ne (.v 8) (.v 7)) (.orr (.cmp .le (.v 9) (.v 8)) (.cmp .gt (.v 9) (.bi .len (.o (.v 2)))))) (.o (.ret (.k (.bl false)))) .nil>=>.iff (.an (.cmp .lt (.v 9) (.bi .len (.o (.v 2)))) (.cmp .notin (.ix (.v 2) (.bin .sub (.v 9) (.i 1))) (.ix (.v 1) (.i 4)))) (.o (.ret (.k (.bl false)))) .nil>=>.set 10 (.comp (.tp (.nm 0>=>.nm 1>=>.nm 2>=>.nm 3>=>.nil)) (.seq (.v 3)) 4 [8] .yes (.tup (.v 0>=>.bin .sub (.v 1) (.v 4)>=>.bin .sub (.v 2) (.v 4)>=>.o (.v 3))))>=>.set 11 (.call 60 (.v 5>=>.o (.ix (.call 48 (.v 5>=>.sl (.v 2) (.at (.v 8)) (.at (.v 9))>=>.o (.v 10))) (.i 0))))>=>.iff (.an (.cmp .gt (.v 11) (.v 6)) (.cmp .gt (.call 233 (.v 1>=>.v 2>=>.v 8>=>.o (.v 9))) (.i 1))) (.o (.ret (.k (.bl false)))) .nil>=>.o (.set 7 (.v 9)))
def lw4:S:=(.for (.tp (.nm 8>=>.nm 9>=>.nil)) (.seq (.call 61 (.v 5>=>.v 2>=>.v 3>=>.o (.v 6)))) b5m)
def lw5:S:=(.iff (.orr (.cmp .ne (.v 7) (.bi .len (.o (.v 2)))) (.cmp .ne (.call 61 (.v 5>=>.lst .nil>=>.v 3>=>.o (.v 6))) (.lst .nil))) (.o (.ret (.k (.bl false)))) .nil)
def b8b:Ss:=(.o (.iff (.cmp .gt (.call 233 (.v 1>=>.v 2>=>.v 8>=>.o (.v 9))) (.i 1)) (.o (.ret (.k (.bl false)))) .nil))
def lw6:S:=(.for (.tp (.nm 8>=>.nm 9>=>.nil)) (.seq (.call 61 (.v 5>=>.v 2>=>.v 3>=>.o (.neg (.i 1))))) b8b)
def lw7:S:=(.ret (.orr (.bin .eq (.v 2) (.lst .nil)) (.bin .eq (.call 61 (.v 5>=>.v 2>=>.v 3>=>.o (.bin .pow (.i 10) (.i 20)))) (.lst (.o (.tup (.i 0>=>.o (.bi .len (.o (.v 2))))))))))
def a9e:Fn:=⟨1,12,0,(.cons lw0 (.cons lw1 (.cons lw2 (.cons lw3 (.cons lw4 (.cons lw5 (.cons lw6 (.o lw7))))))))⟩
end EV
namespace K49
open PySem L2 EV
def top(i:Nat):Stmt:=PySem.Challenge.pw_glyphhall_k49_pieces_kept.main.body.getD i (.Pass ⟨0,0,0,0⟩)
def se(x:Str)(d:D):Str×D:=(x,d)
structure Rc where
 x:Str
 t:Nat
 i:Nat
 n:Nat
 f:Fn
def T:List Rc:=[⟨"law",108,221,1,a9e⟩,⟨"words_of",18,1,1,a1d⟩,⟨"made_of",19,2,2,a2l⟩,⟨"is_name",20,3,1,a2m⟩,⟨"is_number",21,4,1,a0o⟩,⟨"is_signed_number",22,5,1,L1⟩,⟨"class_of_item",23,6,1,Q5⟩,⟨"is_class_item",24,7,1,Q2⟩,⟨"is_item",25,8,1,a2n⟩,⟨"all_names",26,9,1,a2B⟩,⟨"all_signed_numbers",27,10,1,O7⟩,⟨"all_items",28,11,1,a2C⟩,⟨"read_hall",44,12,1,a0n⟩,⟨"take_row",45,13,2,F6⟩,⟨"first_due",46,14,3,a0q⟩,⟨"has_shapes",47,15,2,Y6⟩,⟨"pair_of",48,16,1,a2k⟩,⟨"take_shape",49,17,2,Y0⟩,⟨"has_side_form",50,18,2,Q3⟩,⟨"take_mark",51,19,2,a0m⟩,⟨"take_point",52,20,2,Y1⟩,⟨"has_letter_form",53,21,1,M1⟩,⟨"take_letter",54,22,2,V3⟩,⟨"take_gap",55,23,2,a1e⟩,⟨"take_class",56,24,2,Y2⟩,⟨"take_feature",57,25,2,T2⟩,⟨"take_rule",58,26,2,a0l⟩,⟨"has_rule_form",59,27,1,Q4⟩,⟨"rule_parts",60,28,1,Y3⟩,⟨"has_items",61,29,2,a0p⟩,⟨"has_item",62,30,2,a1h⟩,⟨"has_rule",63,31,2,a1g⟩,⟨"check_letters",7,33,2,D0⟩,⟨"faces_of",8,34,2,T3⟩,⟨"joined_pairs",9,35,1,E4⟩,⟨"joins_next",10,36,2,F7⟩,⟨"face_among",11,37,3,J6⟩,⟨"fits",65,38,3,a1i⟩,⟨"fitting_shapes",66,39,2,y7⟩,⟨"done",67,40,4,a8c⟩,⟨"items_fit",68,41,5,U1⟩,⟨"all_fit",69,42,3,W5⟩,⟨"told_cells",70,43,2,Q9⟩,⟨"homes_of",71,44,1,Y5⟩,⟨"check_features",72,45,2,J7⟩,⟨"is_on",73,46,4,a1K⟩,⟨"is_on_at_all",74,47,4,M0⟩,⟨"width_of",76,60,2,X9⟩,⟨"shaped",78,48,3,a1J⟩,⟨"first_cells",79,49,1,K4⟩,⟨"cut_rows",81,61,4,a1j⟩,⟨"piece_ends",82,62,2,R5⟩,⟨"line_end",83,63,6,a1f⟩,⟨"line_width",84,64,5,Y4⟩,⟨"settings_from",85,65,2,K8⟩,⟨"_law_cell_at",87,201,2,E8⟩,⟨"_law_mixed",88,202,2,o6⟩,⟨"_law_names_by",89,203,2,n9⟩,⟨"_law_shapes_by",90,204,1,C7⟩,⟨"_law_spot_by",91,205,1,A8⟩,⟨"_law_marks_by",92,206,2,D1⟩,⟨"_law_points_by",93,207,2,C8⟩,⟨"_law_letters_by",94,208,2,B7⟩,⟨"_law_classes_by",95,209,2,B8⟩,⟨"_law_items_by",96,210,5,C0⟩,⟨"_law_rules_by",97,211,6,w5⟩,⟨"_law_hall_by",98,212,2,J2⟩,⟨"_law_pair_text",99,213,1,E7⟩,⟨"_law_rule_text",100,214,1,E6⟩,⟨"_law_hall_text",101,215,1,J8⟩,⟨"_law_row_by",102,216,4,K5⟩,⟨"_law_end_by",103,218,2,G0⟩,⟨"_law_settings_by",104,219,3,C9⟩,⟨"_law_drawn",105,231,3,R7⟩,⟨"_law_limit",106,232,4,R6⟩,⟨"_law_pieces_in",107,233,4,v0⟩]
def fns:List (Str×Nat×Nat):=T.map λr=>(r.x,r.i,r.n)
def G:GT:={
 fn:=fns
 scal:=[se "FIGURES" (.str "0123456789"),se "NAME_SIGNS" (.str "abcdefghijklmnopqrstuvwxyz0123456789"),se "CLASS_SIGN" (.str "@"),se "LONGEST_NAME" (.int 12),se "LONGEST_NUMBER" (.int 5),se "MOST_SHAPES" (.int 60),se "MOST_LETTERS" (.int 24),se "MOST_CLASSES" (.int 20),se "MOST_FEATURES" (.int 10),se "MOST_RULES" (.int 30),se "MOST_IN_CLASS" (.int 20),se "MOST_AROUND" (.int 3),se "MOST_IN_CORE" (.int 4),se "MOST_TOLD" (.int 3)]
 tups:=[("SIDES",[.str "above",.str "below"]),("WAYS",[.str "left",.str "right",.str "either"]),("SWITCHES",[.str "on",.str "off"]),("JOINS_THAT_TAKE",[.str "both",.str "back"])]
 dicts:=[("SHAPES_OF_JOIN",[(.str "none",.int 1),(.str "clear",.int 1),(.str "back",.int 2),(.str "both",.int 4)])]
 obj:=[("Hall",6)]
 atts:=["shapes","marks","points","letters","gaps","classes","features","rules"]
 blt:=["len","str","int","list","tuple","all","any","isinstance","bool","range","enumerate","zip","dict","max","sum","reversed"]}
def F(i:Nat):Option Fn:=if i=32 then some O8 else(T.find? λr=>Nat.beq r.i i).map (·.f)
def ct:CT:=⟨λ_=>32⟩
abbrev SH:Stmt:=b5x (top 43) 0
theorem bd0{P:List Value->Prop}(h:P []):∀us,↥us=0->P us:=λus e=>List.eq_nil_of_length_eq_zero e▸h
theorem bdS{P:List Value->Prop}{n:Nat}(h:∀a us,↥us=n->P (a::us)):∀us,↥us=n+1->P us:=λus e=>by
 cases us with
 |nil=>cases e
 |cons a r=>exact h a r (Nat.succ.inj e)
theorem bd1{P:List Value->Prop}(h:∀a,P [a]):∀us,↥us=1->P us:=bdS λa=>bd0 (P:=λl=>P (a::l)) (h a)
theorem bd2{P:List Value->Prop}(h:∀a b,P [a,b]):∀us,↥us=2->P us:=bdS λa=>bd1 (P:=λl=>P (a::l)) (h a)
theorem bd3{P:List Value->Prop}(h:∀a b c,P [a,b,c]):∀us,↥us=3->P us:=bdS λa=>bd2 (P:=λl=>P (a::l)) (h a)
theorem bd4{P:List Value->Prop}(h:∀a b c d,P [a,b,c,d]):∀us,↥us=4->P us:=bdS λa=>bd3 (P:=λl=>P (a::l)) (h a)
theorem bd5{P:List Value->Prop}(h:∀a b c d e,P [a,b,c,d,e]):∀us,↥us=5->P us:=bdS λa=>bd4 (P:=λl=>P (a::l)) (h a)
theorem bd6{P:List Value->Prop}(h:∀a b c d e f,P [a,b,c,d,e,f]):∀us,↥us=6->P us:=bdS λa=>bd5 (P:=λl=>P (a::l)) (h a)
abbrev Bd(x q:Str)(st:Stmt)(ps:List Str):Prop:=∀(kV de pm:Value) (an:Option Addr) (cL ct:Value) (us:List Value),↥us=↥ps->bindArgs (fnOf x q (U3 st) (O0 st) (x5 st) .none kV de pm an cL ct) ⟨us,[]⟩=pure (ps.zip us)
def pO(st:Stmt):List Str:=(U3 st).args.map (·.arg)
def nO(st:Stmt):List Str:=pO st++((x5 st).names.filter λy=>(y.2==.local||y.2==.cell)&&!(pO st).contains y.1).map (·.1)
structure Rw(x:Str)(st:Stmt)(id np:Nat)(f:Fn):Prop where
 a:FnScope (nO st) (pO st) (x5 st)
 b:Bd x x st (pO st)
 p:↥(pO st)=np
 i:F id=some f
 q:f.np=np
 s:f.ns=↥(nO st)
 c:cSs G (nO st) (x5 st) 20 (O0 st)=some f.body
local macro_rules | `(tactic| ac_rfl) => `(tactic| exact ⟨⟨rfl, rfl, rfl, by decide +kernel, by kernel_rfl, by decide +kernel, by decide +kernel⟩, λ_ _ _ _ _ _ => by first | exact bd1 λ_ => rfl | exact bd2 λ_ _ => rfl | exact bd3 λ_ _ _ => rfl | exact bd4 λ_ _ _ _ => rfl | exact bd5 λ_ _ _ _ _ => rfl | exact bd6 λ_ _ _ _ _ _ => rfl, by kernel_rfl, rfl, rfl, by kernel_rfl, by kernel_rfl⟩)
def b3U:List Rc->Prop
 |[]=>True
 |r::l=>Rw r.x (top r.t) r.i r.n r.f/\b3U l
theorem rs1{x:Str}{t i n:Nat}{f:Fn}{l:List Rc}(a:Rw x (top t) i n f)(b:b3U l):b3U (⟨x,t,i,n,f⟩::l):=⟨a,b⟩
theorem Rs:b3U T:=by
 repeat (refine rs1 (by ac_rfl) ?_)
 exact True.intro
theorem AH:FnScope ["self"] ["self"] (x5 SH):=⟨rfl,rfl,rfl,by decide+kernel,rfl,by decide+kernel,by decide+kernel⟩
theorem BH:Bd "__init__" "Hall.__init__" SH ["self"]:=λ_ _ _ _ _ _=>bd1 λ_=>rfl
theorem CH:cSs G ["self"] (x5 SH) 20 (O0 SH)=some O8.body:=by kernel_rfl
open PySem.W (nsIn codeIn keepIn findIn)
section
variable{K:Frag}{x:Str}
structure DfE(K:Frag)(x:Str)(st:Stmt):Prop where
 ex:∃f fd,nsIn K mainGlobals x=some (~~~f)/\Fun K x x st f fd
theorem c0T{st:Stmt}{f:Addr}{oc:Value}{od an:Option Addr}{eI:Array (Option Value)}{kV de pm cL ct:Value}(e1:nsIn K mainGlobals x=some (~~~f))(e2:K.lookup f=some ⟨oc,od,.func (fnOf x x (U3 st) (O0 st) (x5 st) .none kV de pm an cL ct),eI⟩)(e3:codeIn K cL x=true)(e4:keepIn K (.ref f)=true):DfE K x st:=⟨f,_,e1,b2P e2 e3 e4⟩
structure StrE(K:Frag)(x y:Str):Prop where
 ex:∃t,nsIn K mainGlobals x=some (some (.str y t))
theorem b7g{y:Str}{t:Tok}(e1:nsIn K mainGlobals x=some (some (.str y t))):StrE K x y:=⟨t,e1⟩
structure IntE(K:Frag)(x:Str)(i:Int):Prop where
 ex:∃t,nsIn K mainGlobals x=some (some (.int i t))
theorem b8q{i:Int}{t:Tok}(e1:nsIn K mainGlobals x=some (some (.int i t))):IntE K x i:=⟨t,e1⟩
structure TupE(K:Frag)(x:Str)(vs:List V):Prop where
 ex:∃a,nsIn K mainGlobals x=some (~~~a)/\∀H,SqT K H a vs
theorem b4c{a:Addr}{d:Option Addr}{n:Nat}{sl:Array (Option Value)}{y z:Str}{t u:Tok}(e1:nsIn K mainGlobals x=some (~~~a))(e2:K.lookup a=some ⟨.type "tuple",d,.seq #[.str y t,.str z u] n,sl⟩):TupE K x [.str y,.str z]:=
 ⟨a,e1,λH=>.inr ⟨_,_,_,e2,rfl,rfl,by show 2<=sizeLine;decide,.cons ⟨_,rfl⟩ (.cons ⟨_,rfl⟩ .nil)⟩⟩
theorem b4b{a:Addr}{d:Option Addr}{n:Nat}{sl:Array (Option Value)}{y z v:Str}{t u r:Tok}(e1:nsIn K mainGlobals x=some (~~~a))(e2:K.lookup a=some ⟨.type "tuple",d,.seq #[.str y t,.str z u,.str v r] n,sl⟩):TupE K x [.str y,.str z,.str v]:=
 ⟨a,e1,λH=>.inr ⟨_,_,_,e2,rfl,rfl,by show 3<=sizeLine;decide,.cons ⟨_,rfl⟩ (.cons ⟨_,rfl⟩ (.cons ⟨_,rfl⟩ .nil))⟩⟩
structure DicE(K:Frag)(P:Program)(w:World)(x:Str)(gs:List (Key×V)):Prop where
 ex:∃a,nsIn K mainGlobals x=some (~~~a)/\b0y P w K a gs
theorem b6d{P:Program}{w:World}{a:Addr}{ep:Nat}{h1 h2 h3 h4:Int}{y1 y2 y3 y4:Str}{i1 i2 i3 i4:Int}{t1 t2 t3 t4 u1 u2 u3 u4:Tok}(e1:nsIn K mainGlobals x=some (~~~a))
 (e2:K.lookup a=some ⟨.type "dict",none,.dict #[⟨h1,.str y1 t1,.int i1 u1⟩,⟨h2,.str y2 t2,.int i2 u2⟩,⟨h3,.str y3 t3,.int i3 u3⟩,⟨h4,.str y4 t4,.int i4 u4⟩] ep,#[]⟩) (ha:(a==sysModules)=false)
 (q1:h1=hashStr w y1) (q2:h2=hashStr w y2) (q3:h3=hashStr w y3) (q4:h4=hashStr w y4) (nd:([.inr y1,.inr y2,.inr y3,.inr y4]:List Key).Nodup):DicE K P w x [(.inr y1,.int i1),(.inr y2,.int i2),(.inr y3,.int i3),(.inr y4,.int i4)]:=by
 refine⟨a,e1,ha,[(.inr y1,.int i1 u1),(.inr y2,.int i2 u2),(.inr y3,.int i3 u3),(.inr y4,.int i4 u4)],?_,λh kin=>⟨_,_,_,kin a _ e2,⟨rfl,rfl,rfl⟩,rfl,?_,?_,nd⟩⟩
 · exact .cons ⟨rfl,_,rfl⟩ (.cons ⟨rfl,_,rfl⟩ (.cons ⟨rfl,_,rfl⟩ (.cons ⟨rfl,_,rfl⟩ .nil)))
 · intro e he;simp only[List.mem_toArray,aF,not_mem_nil,gx] at he;rcases he with rfl|rfl|rfl|rfl
   · exact⟨.inr y1,gR P w y1 t1,q1⟩
   · exact⟨.inr y2,gR P w y2 t2,q2⟩
   · exact⟨.inr y3,gR P w y3 t3,q3⟩
   · exact⟨.inr y4,gR P w y4 t4,q4⟩
 · exact .cons (gR P w y1 t1) rfl (.cons (gR P w y2 t2) rfl (.cons (gR P w y3 t3) rfl (.cons (gR P w y4 t4) rfl .nil)))
structure HallE(K:Frag)(C:Addr):Prop where
 ex:∃f fd,Mk K C f/\Fun K "__init__" "Hall.__init__" SH f fd
theorem b5D{C f:Addr}{oc:Value}{od an:Option Addr}{eI:Array (Option Value)}{kV de pm cL ct:Value}(m1:makesIn K C=true)(m2:findIn K (.ref C) "__init__"=some (~~~f))(m3:isFn K (.ref f)=true)(m4:keepIn K (.ref C)=true)
 (e2:K.lookup f=some ⟨oc,od,.func (fnOf "__init__" "Hall.__init__" (U3 SH) (O0 SH) (x5 SH) .none kV de pm an cL ct),eI⟩) (e3:codeIn K cL "Hall.__init__"=true) (e4:keepIn K (.ref f)=true):HallE K C:=⟨f,_,⟨m1,m2,m3,m4⟩,b2P e2 e3 e4⟩
end
theorem K3{α:Type}{x y:Str}{a b:α}{l:List (Str×α)}(h:((y,a)::l).lookup x=some b):(x=y/\a=b)∨l.lookup x=some b:=by
 rw[lookup_cons] at h;split at h
 · rename_i e;exact .inl ⟨eq_of_beq e,ax h⟩
 · exact .inr h
theorem a6G{α:Type}{x:Str}{b:α}(h:([]:List (Str×α)).lookup x=some b):False:=by simp at h
section
variable{K:Frag}{P:Program}{w:World}{h:Heap}{mg:Str->Option Value}
theorem row{x:Str}{st:Stmt}{id np:Nat}{fn:Fn}(X:K.In h)(Gg:h.Ns mainGlobals mg)(d:DfE K x st)(R:Rw x st id np fn):∃f fd st N ps,mg x= ~~~f/\RowOk K G F x x id np f fd st N ps:=by obtain⟨f,fd,e,F⟩:=d.ex;exact⟨f,fd,st,_,_,mg_of X Gg e,F,R.a,F.binds R.b,R.p,fn,R.i,R.q,R.s,R.c⟩
def a8q(K:Frag)(mg:Str->Option Value):List (Str×Nat×Nat)->Prop
 |[]=>True
 |p::l=>(∃f fd st N ps,mg p.1= ~~~f/\RowOk K G F p.1 p.1 p.2.1 p.2.2 f fd st N ps)/\a8q K mg l
theorem a8D:∀{l:List (Str×Nat×Nat)},a8q K mg l->∀x id np,l.lookup x=some (id,np)->∃f fd st N ps,mg x= ~~~f/\RowOk K G F x x id np f fd st N ps
 |[],_,x,id,np,h=>(a6G h).elim
 |(y,a,b)::l,r,x,id,np,h=>by
  rcases K3 h with⟨rfl,e⟩|h
  · cases e;exact r.1
  · exact a8D r.2 x id np h
def b3W(K:Frag):List Rc->Prop
 |[]=>True
 |r::l=>DfE K r.x (top r.t)/\b3W K l
theorem ds1{x:Str}{t i n:Nat}{f:Fn}{l:List Rc}(a:DfE K x (top t))(b:b3W K l):b3W K (⟨x,t,i,n,f⟩::l):=⟨a,b⟩
theorem a8C(X:K.In h)(Gg:h.Ns mainGlobals mg):∀{l:List Rc},b3W K l->b3U l->a8q K mg (l.map λr=>(r.x,r.i,r.n))
 |[],_,_=>True.intro
 |_::_,d,q=>⟨row X Gg d.1 q.1,a8C X Gg d.2 q.2⟩
variable{c6:Addr}(k6:nsIn K mainGlobals "Hall"=some (~~~c6))(fs:b3W K T)(cZ:StrE K "FIGURES" "0123456789")(cx:StrE K "NAME_SIGNS" "abcdefghijklmnopqrstuvwxyz0123456789")(cC:StrE K "CLASS_SIGN" "@")(ci:IntE K "LONGEST_NAME" 12)(bV:IntE K "LONGEST_NUMBER" 5)(cq:IntE K "MOST_SHAPES" 60)(cb:IntE K "MOST_LETTERS" 24)(cg:IntE K "MOST_CLASSES" 20)(bY:IntE K "MOST_FEATURES" 10)(cy:IntE K "MOST_RULES" 30)(bX:IntE K "MOST_IN_CLASS" 20)(cr:IntE K "MOST_AROUND" 3)(ce:IntE K "MOST_IN_CORE" 4)(cG:IntE K "MOST_TOLD" 3)(dH:TupE K "SIDES" [.str "above",.str "below"])(cM:TupE K "SWITCHES" [.str "on",.str "off"])(eg:TupE K "WAYS" [.str "left",.str "right",.str "either"])(bT:TupE K "JOINS_THAT_TAKE" [.str "both",.str "back"])(dJ:DicE K P w "SHAPES_OF_JOIN" [(.inr "none",.int 1),(.inr "clear",.int 1),(.inr "back",.int 2),(.inr "both",.int 4)])(hall:HallE K c6)(cl:Cls K c6)(dq:findIn K (.ref c6) "shapes"=some none)(dM:findIn K (.ref c6) "marks"=some none)(dr:findIn K (.ref c6) "points"=some none)(cW:findIn K (.ref c6) "letters"=some none)(ej:findIn K (.ref c6) "gaps"=some none)(cX:findIn K (.ref c6) "classes"=some none)(cN:findIn K (.ref c6) "features"=some none)(dL:findIn K (.ref c6) "rules"=some none)(fA:nsIn K mainGlobals "len"=some none)(fw:nsIn K mainGlobals "str"=some none)(fB:nsIn K mainGlobals "int"=some none)(eB:nsIn K mainGlobals "list"=some none)(dQ:nsIn K mainGlobals "tuple"=some none)(fD:nsIn K mainGlobals "all"=some none)(fC:nsIn K mainGlobals "any"=some none)(cD:nsIn K mainGlobals "isinstance"=some none)(eD:nsIn K mainGlobals "bool"=some none)(dR:nsIn K mainGlobals "range"=some none)(cH:nsIn K mainGlobals "enumerate"=some none)(ft:nsIn K mainGlobals "zip"=some none)(eC:nsIn K mainGlobals "dict"=some none)(fz:nsIn K mainGlobals "max"=some none)(fu:nsIn K mainGlobals "sum"=some none)(cQ:nsIn K mainGlobals "reversed"=some none)
include k6 fs cZ cx cC ci bV cq cb cg bY cy bX cr ce cG dH cM eg bT dJ hall cl dq dM dr cW ej cX cN dL fA fw fB eB dQ fD fC cD eD dR cH ft eC fz fu cQ
theorem b4p(X:K.In h)(Gg:h.Ns mainGlobals mg):Stat P w ⟨K,λ_=>c6,[6],[]⟩ G ct F mg where
 scal:=λx d hx=>by
  have S:∀{x y:Str},StrE K x y->∃u v,mg x=some u/\k8 v u/\∀m H,Rp m H (.str y) v:=λe=>by obtain⟨t,e⟩:=e.ex;exact⟨_,.str _,mg_of X Gg e,⟨t,rfl⟩,λ_ _=>rfl⟩
  have I:∀{x:Str} {i:Int},IntE K x i->∃u v,mg x=some u/\k8 v u/\∀m H,Rp m H (.int i) v:=λe=>by obtain⟨t,e⟩:=e.ex;exact⟨_,.int _,mg_of X Gg e,⟨t,rfl⟩,λ_ _=>rfl⟩
  unfold G se at hx;simp only at hx;rcases K3 hx with⟨rfl,rfl⟩|hx
  · exact S cZ
  rcases K3 hx with⟨rfl,rfl⟩|hx
  · exact S cx
  rcases K3 hx with⟨rfl,rfl⟩|hx
  · exact S cC
  rcases K3 hx with⟨rfl,rfl⟩|hx
  · exact I ci
  rcases K3 hx with⟨rfl,rfl⟩|hx
  · exact I bV
  rcases K3 hx with⟨rfl,rfl⟩|hx
  · exact I cq
  rcases K3 hx with⟨rfl,rfl⟩|hx
  · exact I cb
  rcases K3 hx with⟨rfl,rfl⟩|hx
  · exact I cg
  rcases K3 hx with⟨rfl,rfl⟩|hx
  · exact I bY
  rcases K3 hx with⟨rfl,rfl⟩|hx
  · exact I cy
  rcases K3 hx with⟨rfl,rfl⟩|hx
  · exact I bX
  rcases K3 hx with⟨rfl,rfl⟩|hx
  · exact I cr
  rcases K3 hx with⟨rfl,rfl⟩|hx
  · exact I ce
  rcases K3 hx with⟨rfl,rfl⟩|hx
  · exact I cG
  exact(a6G hx).elim
 tups:=λx ds hx=>by
  unfold G at hx;simp only at hx;rcases K3 hx with⟨rfl,rfl⟩|hx
  · obtain⟨a,e,s⟩:=dH.ex;exact⟨a,_,mg_of X Gg e,s,λ_ _=>⟨.str "above",_,rfl,rfl,⟨.str "below",_,rfl,rfl,rfl⟩⟩⟩
  rcases K3 hx with⟨rfl,rfl⟩|hx
  · obtain⟨a,e,s⟩:=eg.ex;exact⟨a,_,mg_of X Gg e,s,λ_ _=>⟨.str "left",_,rfl,rfl,⟨.str "right",_,rfl,rfl,⟨.str "either",_,rfl,rfl,rfl⟩⟩⟩⟩
  rcases K3 hx with⟨rfl,rfl⟩|hx
  · obtain⟨a,e,s⟩:=cM.ex;exact⟨a,_,mg_of X Gg e,s,λ_ _=>⟨.str "on",_,rfl,rfl,⟨.str "off",_,rfl,rfl,rfl⟩⟩⟩
  rcases K3 hx with⟨rfl,rfl⟩|hx
  · obtain⟨a,e,s⟩:=bT.ex;exact⟨a,_,mg_of X Gg e,s,λ_ _=>⟨.str "both",_,rfl,rfl,⟨.str "back",_,rfl,rfl,rfl⟩⟩⟩
  exact(a6G hx).elim
 dicts:=λx bD hx=>by
  unfold G at hx;simp only at hx;rcases K3 hx with⟨rfl,rfl⟩|hx
  · obtain⟨a,e,d⟩:=dJ.ex;exact⟨a,_,mg_of X Gg e,d,λ_ _=>.cons ⟨rfl,rfl⟩ (.cons ⟨rfl,rfl⟩ (.cons ⟨rfl,rfl⟩ (.cons ⟨rfl,rfl⟩ .nil)))⟩
  exact(a6G hx).elim
 blt:=λx hx=>by
  rw[List.contains_iff_mem] at hx;unfold G at hx;simp only[aF,not_mem_nil,gx] at hx;rcases hx with rfl|rfl|rfl|rfl|rfl|rfl|rfl|rfl|rfl|rfl|rfl|rfl|rfl|rfl|rfl|rfl
  · exact ns_none_of X Gg fA
  · exact ns_none_of X Gg fw
  · exact ns_none_of X Gg fB
  · exact ns_none_of X Gg eB
  · exact ns_none_of X Gg dQ
  · exact ns_none_of X Gg fD
  · exact ns_none_of X Gg fC
  · exact ns_none_of X Gg cD
  · exact ns_none_of X Gg eD
  · exact ns_none_of X Gg dR
  · exact ns_none_of X Gg cH
  · exact ns_none_of X Gg ft
  · exact ns_none_of X Gg eC
  · exact ns_none_of X Gg fz
  · exact ns_none_of X Gg fu
  · exact ns_none_of X Gg cQ
 fn:=λx id np hx=>a8D (l:=fns) (a8C X Gg fs Rs) x id np hx
 obj:=λx k hx=>by
  unfold G at hx;simp only at hx;rcases K3 hx with⟨rfl,rfl⟩|hx
  · obtain⟨f,fd,M,F⟩:=hall.ex;exact⟨by simp,mg_of X Gg k6,f,fd,SH,["self"],["self"],"Hall.__init__",M,F,AH,F.binds BH,rfl,O8,rfl,rfl,rfl,CH⟩
  exact(a6G hx).elim
 att:=λk hk=>by
  refine⟨cl,λf hf=>?_⟩;rw[List.contains_iff_mem] at hf;unfold G at hf;simp only[aF,not_mem_nil,gx] at hf;rcases hf with rfl|rfl|rfl|rfl|rfl|rfl|rfl|rfl
  · exact dq
  · exact dM
  · exact dr
  · exact cW
  · exact ej
  · exact cX
  · exact cN
  · exact dL
theorem b4q:∃cA,DfE K "law" (top 108)/\∀{h:Heap} {mg:Str->Option Value},K.In h->h.Ns mainGlobals mg->Stat P w ⟨K,cA,[6],[]⟩ G ct F mg:=⟨_,fs.1,λX Gg=>b4p k6 fs cZ cx cC ci bV cq cb cg bY cy bX cr ce cG dH cM eg bT dJ hall cl dq dM dr cW ej cX cN dL fA fw fB eB dQ fD fC cD eD dR cH ft eC fz fu cQ X Gg⟩
end
open PyProof.Rows hiding St
theorem b9B{l:PySem.W.OpenLaw}{n k:Nat}{q:Program}{dF:List Str}{XP:(Str->Option Value)->Heap->Prop}{YP:World->Heap->Prop}{d:DefRec}{K:Params->Frag}{CX:World->CXT}{sp:Frag->Sp}{x:Str}
 (hn:l.most=some n) (hn2:n<=sizeLine) (hdf:d.params.defaults=[]) (hr:Room k callerA)
 (hY:∀(w:World) (h:Heap),YP w h->(K w.params).In h)
 (F:∀(w:World) (mg:Str->Option Value) (fa:Addr) (h:Heap),(K w.params).In h->h.Ns mainGlobals mg->mg d.name= ~~~fa→
  ∃fd:FuncData,(∀(s:Shared) (u:Value),BindsTo s fd ⟨[u],[]⟩ [(x,u)])∧
   ∀base:Heap,(K w.params).In base->base.Ns mainGlobals mg->FnOk l.prog w (K w.params) mg base (CX w) k fa fd [x] (sp (K w.params)))
 (eX:∀(w:World) (H:Hp) (a:Addr) (ns:List Int),↥ns<=n->b3V H->SqL (K w.params) H a (ns.map V.int)->sp (K w.params) [.ref a] H (λv _=>v=.bl true) λ_ _ _=>False)
 (hCX:∀(w:World) (H:Hp) (s:Shared) (e:Value) (s':Shared),CX w [] H s (λ_ _ _=>False) e s'->False):
 PySem.W.WalkO q dF XP YP l.row.toRowW d [] (λf vs=>PySem.call f vs):=
 b3Y (K:=K) (CX:=CX) (sp:=λw=>sp (K w.params)) hn hn2 hdf hr hY F eX hCX
def spK(K:Frag):Sp:=λvs H Q E=>∀cA,a5b ⟨K,cA,[6],[]⟩ (b4 ct F 20) 221 1 vs H Q E
theorem b8x{K:Frag}{P:Program}{w:World}{cA:Nat->Addr}{h:Heap}{mg:Str->Option Value}{fa:Addr}(D:DfE K "law" (top 108))(S:Stat P w ⟨K,cA,[6],[]⟩ G ct F mg)(X:K.In h)(Gg:h.Ns mainGlobals mg)(hmg:mg "law"= ~~~fa):
 ∃fd,(∀(s:Shared) (u:Value),BindsTo s fd ⟨[u],[]⟩ [("_law_script",u)])/\∀base:Heap,FnOk P w K mg base CX0 46 fa fd ["_law_script"] (spK K):=by
 obtain⟨f,fd,e,Fn⟩:=D.ex;have e0:=hmg.symm.trans (mg_of X Gg e);cases e0;have R:RowOk K G F "law" "law" 221 1 fa fd (top 108) (nO (top 108)) (pO (top 108)):=⟨Fn,Rs.1.a,Fn.binds Rs.1.b,Rs.1.p,a9e,Rs.1.i,Rs.1.q,Rs.1.s,Rs.1.c⟩;refine⟨fd,λs u=>?_,λbase=>?_⟩
 · obtain⟨oc,od,kV,de,pm,an,cL,ct,eI,rfl,lk,eZ⟩:=Fn.ex;exact .of_eq (Rs.1.b kV de pm an cL ct [u] rfl)
 · have ih:=b8w S 19;have g:=a5F S ih.1 ih.2 (b3M S 19) R base;exact⟨λvs H Q E hh=>g.len vs H Q E (hh cA),λA outer s H args us vs Q E a1 a2 a3 a4 hh=>g.run A outer s H args us vs Q E a1 a2 a3 a4 (hh cA)⟩
def isL(o:Obj):Bool:=match o.cls with
 |.type n=>n=="list"
 |_=>false
def b1Q(K:Frag):Bool:=K.all λp=>!isL p.2
theorem b5h{K:Frag}(h:b1Q K=true){a:Addr}{o:Obj}(e:K.lookup a=some o):o.cls≠.type "list":=by
 intro z;have hm:∃b,(b,o)∈K:=by
  clear h
  induction K with
  |nil=>cases e
  |cons p r ih=>
   rw[lookup_cons] at e;split at e
   · cases e;exact⟨p.1,aY⟩
   · obtain⟨b,hb⟩:=ih e;exact⟨b,aE _ hb⟩
 obtain⟨b,hb⟩:=hm;have:=bm.mp h (b,o) hb;unfold isL at this;simp only at this;rw[z] at this;simp at this
theorem a6p(m:List Addr)(H:Hp):∀ns:List Int,Rps m H (ns.map D.int) (ns.map V.int)
 |[]=>rfl
 |n::r=>⟨_,_,rfl,rfl,a6p m H r⟩
theorem b8d{K:Frag}{H:Hp}{a:Addr}{ns:List Int}(LT:∀ns:List Int,↥ns<=63->∃h',b4 ct F 20 221 [.ref 0] [.rol (ns.map .int)]=.ok (.bl true) h')(nl:b1Q K=true)(hl:↥ns<=63)(hO:b3V H)(hS:SqL K H a (ns.map V.int)):
 spK K [.ref a] H (λv _=>v=.bl true) λ_ _ _=>False:=by
 intro cA;obtain⟨h',e⟩:=LT ns hl;have hf:∃o,H a=some (.frz o (.lst (ns.map V.int))):=by
  rcases hS with hS|⟨o,bF,n,hk,hc,_⟩
  · rcases hS with hS|hS
    · rcases hO a with z|⟨o,xs,z⟩
      · rw[hS] at z;cases z
      · rw[hS] at z;cases z
    · exact hS
  · exact absurd hc (b5h nl hk)
 refine⟨[.ref 0],[.rol (ns.map .int)],[a],rfl,⟨_,_,rfl,⟨a,rfl,rfl⟩,rfl⟩,⟨rfl,by simp,λn b c hn hc=>?_⟩,?_⟩
 · cases n with
   |zero=>
    cases hn;cases hc;obtain⟨o,hf⟩:=hf;exact⟨_,hS,a6p _ _ _,o,hf⟩
   |succ n=>simp at hn
 · rw[e];exact λm' H' v _ _ _ rv=>rv
end K49
namespace EV
open PySem L2 L2T
def a4h:R Out->R D
 |.ok (.nx _) h=>.ok .non h
 |.ok (.rt d) h=>.ok d h
 |.no=>.no
theorem a0P:∀{a b:List Char},a.map Char.toNat=b.map Char.toNat->a=b
 |[],[],_=>rfl
 |[],_::_,h=>by simp at h
 |_::_,[],h=>by simp at h
 |x::xs,y::ys,h=>by rw[map_cons,map_cons] at h;injection h with h1 h2;rw[a0P h2,Char.ext (UInt32.toNat_inj.mp h1)]
theorem a5n{a b:String}:(Str.ofString a=Str.ofString b)=(a=b):=propext ⟨λh=>by rw[Str.ofString_eq_toList,Str.ofString_eq_toList] at h;injection h with h;have:=fM Array.toList h;exact String.toList_inj.mp (a0P (by simpa using this)),λh=>by rw[h]⟩
theorem sl1:(1<=SL)=True:=eq_true ∅
theorem sl2:(2<=SL)=True:=eq_true ∅
theorem sl3:(3<=SL)=True:=eq_true ∅
theorem sl4:(4<=SL)=True:=eq_true ∅
theorem sl5:(5<=SL)=True:=eq_true ∅
theorem sl6:(6<=SL)=True:=eq_true ∅
variable{env:u5}{h:AH}
theorem b4Z:a4h (.ok (.nx env) h)=.ok .non h:=rfl
variable{d:D}
theorem b4Y:a4h (.ok (.rt d) h)=.ok d h:=rfl
theorem b5a:a4h .no=.no:=rfl
structure PF(F:Nat->Option Fn):Prop where
 f1:F 1=some a1d
 f2:F 2=some a2l
 f3:F 3=some a2m
 f4:F 4=some a0o
 f5:F 5=some L1
 f6:F 6=some Q5
 f7:F 7=some Q2
 f8:F 8=some a2n
 f9:F 9=some a2B
 f10:F 10=some O7
 f11:F 11=some a2C
 f12:F 12=some a0n
 f13:F 13=some F6
 f14:F 14=some a0q
 f15:F 15=some Y6
 f16:F 16=some a2k
 f17:F 17=some Y0
 f18:F 18=some Q3
 f19:F 19=some a0m
 f20:F 20=some Y1
 f21:F 21=some M1
 f22:F 22=some V3
 f23:F 23=some a1e
 f24:F 24=some Y2
 f25:F 25=some T2
 f26:F 26=some a0l
 f27:F 27=some Q4
 f28:F 28=some Y3
 f29:F 29=some a0p
 f30:F 30=some a1h
 f31:F 31=some a1g
 f32:F 32=some O8
variable{n:Nat}{f:Nat}{ds:List D}{p:Pat}{c:CF}{l:List D}{α:Type}{g:AH}{r:R D}{it:I}{h1:AH}{h2:AH}
section
variable{ct:CT}{F:Nat->Option Fn}
theorem c9{fd:Fn}(hF:F f=some fd)(hl:↥ds=fd.np):b4 ct F (n+1) f ds h=gcR fd.gc h (a4h (exs ct (b4 ct F n) fd.body (ds.map some++List.replicate (fd.ns-fd.np) none) h)):=by
 show(match F f with
  |none=>R.no
  |some fd=>if ↥ds=fd.np then gcR fd.gc h (match exs ct (b4 ct F n) fd.body (ds.map some++List.replicate (fd.ns-fd.np) none) h with
   |.ok (.nx _) h'=>.ok .non h'
   |.ok (.rt d) h'=>.ok d h'
   |.no=>.no) else .no)=_
 rw[hF];simp only;rw[ay hl];generalize exs ct (b4 ct F n) fd.body (ds.map some++List.replicate (fd.ns-fd.np) none) h=r;cases r with
 |ok o h=>cases o<;>rfl
 |no=>rfl
theorem a1k{g:List (Nat×Cell)}{p:Pat}{t:u5->AH->R Bool}{e:u5->AH->R D}{env0:u5}{h:AH}(hg:gOk g h=true)(B:D->Bool)(f:D->D)(env:D->u5):
 ∀(l bP:List D),(∀x∈l,D9 p x env0=some (env x)/\t (env x) h=.ok (B x) h/\(B x=true->e (env x) h=.ok (f x) h))->↥bP+↥l<=SL->P0 g p t e env0 l bP h=.ok (bP++(l.filter B).map f) h
 |[],bP,_,_=>by rw[P0,ay hg];simp
 | x::r,bP,hx,hl=>by
  obtain⟨h1,h2,h3⟩:=hx x aY;have ih:=λacc' hl'=>a1k hg B f env r acc' (λy hy=>hx y (aE _ hy)) hl';rw[P0,ay hg,h1];simp only;rw[h2,b8];rw[length_cons] at hl;cases hb:B x with
  |true=>
   rw[ay rfl,h3 hb,b8,ay nofun,ih _ (by simp;ac_nf),List.filter_cons_of_pos hb];simp
  |false=>
   rw[az ⋯,ih _ nofun,List.filter_cons_of_neg (by simp[hb])]
theorem b0u{g:List (Nat×Cell)}{e:u5->AH->R D}{env0:u5}(hg:gOk g h=true)(f:D->D)(env:D->u5)(l:List D)(hx:∀x∈l,D9 p x env0=some (env x)/\e (env x) h=.ok (f x) h)(hl:↥l<=SL):
 P0 g p (tst ct c .yes) e env0 l [] h=.ok (l.map f) h:=by
 have:=a1k (t:=tst ct c .yes) hg (λ_=>true) f env l [] (λx dY=>⟨(hx x dY).1,rfl,λ_=>(hx x dY).2⟩) (by simpa using hl);rw[this,List.filter_eq_self.mpr (λ_ _=>rfl),nil_append]
theorem a3W{α:Type}(P:α->Bool):∀l:List α,a7q (l.map λx=>D.bl (P x))=some (l.map P)
 |[]=>rfl
 |x::r=>by rw[map_cons,a7q,a3W P r];rfl
theorem a1V:∀l:List Str,a3f (l.map D.str)=some l
 |[]=>rfl
 |x::r=>by rw[map_cons,a3f,a1V r];rfl
theorem a1y:rdL (h++[.lst l]) ↥h=some l:=by unfold rdL;simp
theorem b6{c:Cell}:(h++[c])[↥h]? =some c:=by simp
theorem a1R{P:α->Bool}{l:List α}:biD .all (h++[.lst (l.map λx=>D.bl (P x))]) [.ref ↥h]=.ok (.bl (l.all P)) (h++[.lst (l.map λx=>D.bl (P x))]):=by simp only[biD,bi1,biL,b6,a1y,a3W];congr 2;simp[all_map]
theorem b6v{P:α->Bool}{l:List α}:biD .any (h++[.lst (l.map λx=>D.bl (P x))]) [.ref ↥h]=.ok (.bl (l.any P)) (h++[.lst (l.map λx=>D.bl (P x))]):=by simp only[biD,bi1,biL,b6,a1y,a3W];congr 2;simp[List.any_map]
theorem gc1(hd:d.flat=true):gcR 1 h (.ok d (h++g))=.ok d h:=by unfold gcR;simp only;rw[az ∅];simp[hd]
theorem u7(hd:d.flat=true):gcR 1 h (.ok d h)=.ok d h:=by
 have:=gc1 (h:=h) (g:=[]) hd
 simpa using this
theorem gc0:gcR 0 h r=r:=by cases r<;>rfl
def N4(row:Str):List Str:=(Txt.split row " ").filter λw=>decide (w≠"")
theorem a2w(c:Nat):∀cs:List Nat,∃ps:List (List Nat),ps≠[]/\(∀p∈ps,c∉p)/\jn c ps=cs
 |[]=>⟨[[]],by simp,by simp,rfl⟩
 | x ::cs=>by
  obtain⟨ps,h1,h2,h3⟩:=a2w c cs
  by_cases hx:x=c
  · subst hx;refine⟨[]::ps,by simp,λp hp=>?_,?_⟩
    · rcases aF.mp hp with rfl|hp
      · simp
      · exact h2 p hp
    · cases ps with
      |nil=>exact absurd rfl h1
      |cons p r=>rw[←h3];rfl
  · cases ps with
    |nil=>exact absurd rfl h1
    |cons p r=>
     refine⟨(x::p)::r,by simp,λq hq=>?_,?_⟩
     · rcases aF.mp hq with rfl|hq
       · intro hc;rcases aF.mp hc with e|e
         · exact hx e.symm
         · exact h2 p aY e
       · exact h2 q (aE _ hq)
     · rw[←h3];cases r<;>rfl
theorem b2l(c:Nat):∀ps:List (List Nat),↥ps<=↥(jn c ps)+1
 |[]=>by simp
 |[x]=>by simp
 |x::y::r=>by have:=b2l c (y::r);show(y::r).length+1<=↥(x++c::jn c (y::r))+1;simp only[aq,length_cons] at this⊢;ac_nf
theorem a9D(x:Str)(c:Nat):↥(Txt.split x ⟨#[c]⟩)<=↥x+1:=by
 obtain⟨ps,h1,h2,h3⟩:=a2w c (cd x);have e:(ps.map λp=>(⟨p.toArray⟩:Str)).map cd=ps:=by rw[aI];refine List.map_id'' (λp=>?_) ps;simp[cd]
 rw[a3h (ps:=ps.map λp=>(⟨p.toArray⟩:Str)) (by simpa using h1) (λp hp=>by
  obtain⟨q,hq,rfl⟩:=al.mp hp
  simpa [cd] using h2 q hq) (by rw[e,h3]),aa,←u9,←h3]
 exact b2l c ps
theorem E3:∀l:List Str,D.flats (l.map D.str)=true
 |[]=>rfl
 |x::r=>by rw[map_cons,D.flats,E3 r];rfl
section
variable{a b e:E}{t:T}
theorem b5w{i:Int}:a8X (.ok (.int i) h)=.ok (some i) h:=rfl
theorem a0y{b:Bool}:asB (.ok (.bl b) h)=.ok b h:=rfl
theorem a2Y{fr:List Nat}{x:Its}(hi:evi ct c it env h=.ok x h1)(hc:P0 x.2 p (tst ct c t) (ev ct c e) (F9 n fr env) x.1 [] h1=.ok ds h2):ev ct c (.comp p it n fr t e) env h=.ok (.ref ↥h2) (h2++[.lst ds]):=by show(evi ct c it env h).bind _=_;rw[hi,b8,hc];rfl
end
section
variable{e:E}{t:T}
theorem A9{fr:List Nat}{g:List (Nat×Cell)}(hi:evi ct c it env h=.ok (l,g) h1)(hg:gOk g h1=true)(B:D->Bool)(f:D->D)(cF:D->u5)
 (hx:∀x∈l,D9 p x (F9 n fr env)=some (cF x)/\tst ct c t (cF x) h1=.ok (B x) h1/\(B x=true->ev ct c e (cF x) h1=.ok (f x) h1)) (hl:↥l<=SL):ev ct c (.comp p it n fr t e) env h=.ok (.ref ↥h1) (h1++[.lst ((l.filter B).map f)]):=
 a2Y (x:=(l,g)) hi (a1k hg B f cF l [] hx (by simpa using hl))
theorem o9{fr:List Nat}{g:List (Nat×Cell)}(hi:evi ct c it env h=.ok (l,g) h1)(hg:gOk g h1=true)(f:D->D)(cF:D->u5)
 (hx:∀x∈l,D9 p x (F9 n fr env)=some (cF x)/\ev ct c e (cF x) h1=.ok (f x) h1) (hl:↥l<=SL):ev ct c (.comp p it n fr .yes e) env h=.ok (.ref ↥h1) (h1++[.lst (l.map f)]):=
 a2Y (x:=(l,g)) hi (b0u hg f cF l hx hl)
end
theorem gc2{k:Nat}{c:Cell}(hk:(h++g)[k]? =some c)(hl:↥h<=k)(hc:c.flat=true):gcR 2 h (.ok (.ref k) (h++g))=.ok (.ref ↥h) (h++[c]):=by unfold gcR;simp only[hk];simp[hl,hc]
end
end EV
local macro_rules
  | `(tactic| simp! [$ls,*]) => `(tactic| simp only [EV.c0X, EV.c2Q, EV.b3p, EV.b8H, EV.b5P, EV.c0Z, EV.c1d, EV.b8F, EV.b8K, EV.c1b, EV.c0Y, EV.b8J, EV.b3o, EV.b8E, EV.b5S, EV.b8G, EV.b5V, EV.b6J, EV.c1c, EV.c1a, EV.b8I, EV.b5R, EV.b5Q, EV.a9f, EV.b3j, EV.a4U, EV.b4d, EV.b4g, EV.b4f, EV.b0J, EV.b4h, EV.b6X, EV.b4e, EV.b6W, EV.b8D, EV.b3k, EV.b5w, EV.a0y, EV.a2X, EV.a6Z, EV.a6Y, EV.b5O, EV.a2o, EV.c0V, EV.a0r, EV.b8C, EV.a5K, EV.b8z, EV.b8A, EV.a5J, EV.J3, EV.b8, EV.b6r,
      map_cons, map_nil, cons_append, nil_append, List.getElem?_cons_zero, List.getElem?_cons_succ, List.set_cons_zero, List.set_cons_succ, List.replicate, length_cons, length_nil, fV, gw, fU, Bool.true_eq_false, EV.b4Y, EV.b4Z, EV.b5a, Nat.reduceSub, Nat.reduceAdd, Nat.reduceLT, aB, ga, EV.a5n, String.reduceEq, EV.sl1, EV.sl2, EV.sl3, EV.sl4, EV.sl5, EV.sl6, $ls,*])
namespace EV
open PySem L2 L2T
variable{z:Str}{h:AH}{xs:List D}{w:Nat}{d:D}{n:Nat}{id:Nat}{ws:List Str}
section
variable{ct:CT}{F:Nat->Option Fn}
noncomputable def due(a b c:Bool):Option Str:=if a then some "twice" else if !b then some "name" else if c then some "many" else none
def V4:Option Str->D
 |some x=>.str x
 |none=>.non
theorem W7(o:Option Str):decide (V4 o=.non)=o.isNone:=by cases o<;>simp[V4]
theorem a0w{a b c:Bool}(h:due a b c=none):a=false/\b=true/\c=false:=by cases a<;>cases b<;>cases c<;>simp[due] at h⊢
theorem W9{c:Nat}:Txt.startswith z ⟨#[c]⟩=decide ((cd z).head? =some c):=by have:=StrLaws.subAt_one z c 0;unfold Txt.startswith;rw[gG,ae,gE,this,gE];show(cd z)[0]? =some c↔_;rw[List.head?_eq_getElem?]
theorem a6l(z:Str)(h:1<=↥z):Txt.slice z (some 1) none=tl z:=by
 rw[PyProof.Rows.slice_from_eq (b:=↥z) ∅ nofun rfl];unfold tl;congr 2;have:↥(z.cps.toList.drop 1)=↥z-1:=by rw[bz,show z.cps.toList.length=z.length from u9 z]
 show List.take ((↥z:Int)-1).toNat (List.drop 1 z.cps.toList)=_;exact bg nofun
theorem ix_str{i c:Nat}(hl:↥z<=SL)(hc:(cd z)[i]? =some c):ixD h (.str z) (.int (i:Nat))=.ok (.str ⟨#[c]⟩) h:=by
 have hi:=(ac.mp hc).1;have:atI z.cps.toList (i:Int)=some c:=by
  show(ixN ↥(cd z) (i:Int)).bind (λj=>(cd z)[j]?)=some c;have e:ixN ↥(cd z) (i:Int)=some i:=by unfold ixN;rw[ay nofun,ay nofun];simp
  rw[e];exact hc
 simp only[ixD,ay hl,this]
theorem v5{i:Nat}(hw:h[w]? =some (.lst xs))(hd:xs[i]? =some d):ixD h (.ref w) (.int (i:Nat))=.ok d h:=by
 have hi:=(ac.mp hd).1;have:atI xs (i:Int)=some d:=by
  show(ixN ↥xs (i:Int)).bind (λj=>xs[j]?)=some d;have e:ixN ↥xs (i:Int)=some i:=by unfold ixN;rw[ay nofun,ay nofun];simp
  rw[e];exact hd
 simp only[ixD,hw,this]
variable(W:PF F)
include W
theorem a6b{row:Str}(hr:row.length<=100000):b4 ct F (n+1) 1 [.str row] h=.ok (.ref ↥h) (h++[.lst ((N4 row).map .str)]):=by
 rw[c9 W.f1 rfl];have hs:↥(Txt.split row " ")<=SL:=aR (a9D row 32) (by show _<=16777216;ac_nf);simp only[a1d];simp![];rw[A9 (l:=(Txt.split row " ").map D.str) (g:=[(↥h,.lst ((Txt.split row " ").map D.str))]) (h1:=h++[.lst ((Txt.split row " ").map D.str)]) ?_ (by simp[gOk]) (λd=>match d with|.str w=>decide (w≠"")|_=>false) id (λd=>[some d]) ?_ (by simpa using hs)]
 · simp![];have e:List.map id (List.filter (λd=>match d with|D.str w=>decide (w≠"")|_=>false) ((Txt.split row " ").map D.str))=(N4 row).map D.str:=by rw[map_id,filter_map];rfl
   rw[e,aA];exact gc2 ⋯ ⋯ (E3 _)
 · simp![mtT,mtD,v8];rw[ay ⟨by decide,by show _<=16777216;ac_nf⟩];simp only[b8,M4,b6]
 · intro x hx;obtain⟨w,_,rfl⟩:=al.mp hx;refine⟨rfl,?_,λ_=>?_⟩
   · simp![op2,a2I,eqS];simp
   · simp![id]
theorem a3E{g:Str}(hz:↥z<=100000):b4 ct F (n+1) 2 [.str z,.str g] h=.ok (.bl ((cd z).all λc=>decide (c∈cd g))) h:=by
 rw[c9 W.f2 rfl];simp only[a2l];simp![];rw[o9 (l:=Y7 z) (g:=[]) (h1:=h) ?_ (by simp[gOk]) (λd=>match d with|.str w=>.bl (a5o w g)|_=>.non) (λd=>[some d,some (.str g)]) ?_ (by unfold Y7;rw[aa,show z.cps.toList.length=z.length from u9 z];show _<=16777216;ac_nf)]
 · have e:(Y7 z).map (λd=>match d with|D.str w=>D.bl (a5o w g)|_=>D.non)=(cd z).map λc=>D.bl (decide (c∈cd g)):=by unfold Y7;rw[aI];refine aX λc _=>?_;simp only[Function.comp,a5o];rw[StrLaws.found_one]
   rw[e];simp![a1R];exact gc1 rfl
 · simp![M4]
 · intro x hx;unfold Y7 at hx;obtain⟨w,_,rfl⟩:=al.mp hx;refine⟨rfl,?_⟩;simp![op2,O4];simp
theorem J0(hz:↥z<=100000):b4 ct F (n+2) 3 [.str z] h=.ok (.bl (b9 z)) h:=by
 rw[c9 W.f3 rfl];simp only[a2m];have hl:↥z<=SL:=by show _<=16777216;ac_nf
 simp![biD,bi1,biL,ay hl,op2,G9,a3E W hz];have e:b9 z=(decide ((1:Int)<=(↥z:Int))&&(decide ((↥z:Int)<=12)&&(cd z).all Q0)):=by
  unfold b9;rw[Bool.and_assoc];congr 1
  · exact decide_eq_decide.mpr nofun
  · congr 1;exact decide_eq_decide.mpr nofun
 rw[e]
 by_cases h1:(1:Int)<=(↥z:Int)
 · by_cases h2:(↥z:Int)<=12
   · simp only[h1,h2,fO,fV,gi,b8,a0y];exact u7 rfl
   · simp only[h1,h2,fO,fK,fV,gi,gd,b8,a0y,fU,gw];exact u7 rfl
 · simp only[h1,fK,gd,b8,a0y,fU,gw];exact u7 rfl
theorem L9(hz:↥z<=100000):b4 ct F (n+2) 4 [.str z] h=.ok (.bl (a2x z)) h:=by
 rw[c9 W.f4 rfl];simp only[a0o];have hl:↥z<=SL:=by show _<=16777216;ac_nf
 have hm:∀h,b4 ct F (n+1) 2 [.str z,.str "0123456789"] h=.ok (.bl ((cd z).all U0)) h:=λh=>a3E W hz;simp![biD,bi1,biL,ay hl,op2,G9,hm];have e:a2x z=(decide ((1:Int)<=(↥z:Int))&&(decide ((↥z:Int)<=5)&&((cd z).all U0&&(decide (z="0")||!decide ((cd z).head? =some 48))))):=by
  unfold a2x;rw[Bool.and_assoc,Bool.and_assoc];congr 1
  · exact decide_eq_decide.mpr nofun
  · congr 1;exact decide_eq_decide.mpr nofun
 rw[e]
 by_cases h1:(1:Int)<=(↥z:Int)
 · by_cases h2:(↥z:Int)<=5
   · simp![hm,h1,h2,fO,fV,gi,b8,a0y,fL,fU,gw,op2];cases hf:(cd z).all U0 with
     |false=>
      simp![hm,gC,fV,gd,b8,op2];exact u7 rfl
     | true=>
      obtain⟨c,r,hc⟩:∃c r,cd z=c::r:=by
       cases hq:cd z with
       |nil=>have:=u9 z;rw[hq] at this;simp at this;ac_nf
       |cons c r=>exact⟨c,r,rfl⟩
      have hix:ixD h (.str z) (.int 0)=.ok (.str ⟨#[c]⟩) h:=ix_str (i:=0) hl (by rw[hc];rfl);have h0:decide ((⟨#[c]⟩:Str)="0")=decide ((cd z).head? =some 48):=by rw[hc];refine decide_eq_decide.mpr ?_;rw[show(Str.ofString "0")=⟨#[48]⟩ from rfl];simp
      simp![hm,fL,fU,gw,gi,b8,G7,a2I,eqS,a0y,hix,h0,op2];cases hz0:decide (z="0") with
      |true=>
       simp![hm,fV,Bool.true_or,op2];exact u7 rfl
      |false=>
       simp![hm,fU,gw,hV,op2];exact u7 rfl
   · simp![hm,h1,h2,fO,fK,fV,gi,gd,b8,a0y,fU,gw,gC,op2];exact u7 rfl
 · simp![hm,h1,fK,gd,b8,a0y,fU,gw,gC,fV,op2];exact u7 rfl
theorem a5A(hz:↥z<=100000):b4 ct F (n+3) 5 [.str z] h=.ok (.bl (a4q z)) h:=by
 rw[c9 W.f5 rfl];simp only[L1];have hl:↥z<=SL:=by show _<=16777216;ac_nf
 have dN:Txt.startswith z "-"=decide ((cd z).head? =some 45):=W9;simp![mtT,mtD,op2,a2I,eqS,slD,ay hl,dN,L9 W hz];unfold a4q
 by_cases h1:(cd z).head? =some 45
 · have dU:1<=↥z:=by
    rw[←u9];cases hq:cd z with
    |nil=>rw[hq] at h1;cases h1
    |cons c r=>simp
   have ht:↥(tl z)<=100000:=by rw[←u9,a3Q,bz,u9];ac_nf
   simp![h1,fO,fV,a6l z dU,L9 W ht,b8,L9 W hz];cases hz0:decide (z="-0") with
   |true=>
    simp![fL,fU,gw,gd];exact u7 rfl
   |false=>
    simp![gC,fV,gi];exact u7 rfl
 · simp![h1,fK,fU,gw,L9 W hz];exact u7 rfl
theorem D7{a b c:Bool}:b4 ct F (n+1) 14 [.bl a,.bl b,.bl c] h=.ok (V4 (due a b c)) h:=by rw[c9 W.f14 rfl];simp only[a0q];simp![];cases a<;>cases b<;>cases c<;>exact u7 rfl
theorem a2s{k:Nat}{P:Str->Bool}{fd:Fn}(hF:F id=some fd)(hb:fd=⟨1,1,1,(.o (.ret (.bi .all (.o (.comp (.nm 0) (.seq (.v 0)) 1 [] .yes (.call k (.o (.v 0))))))))⟩)
 (hw:h[w]? =some (.lst (ws.map D.str))) (hl:↥ws<=SL) (hP:∀x∈ws,b4 ct F n k [.str x] h=.ok (.bl (P x)) h):b4 ct F (n+1) id [.ref w] h=.ok (.bl (ws.all P)) h:=by
  subst hb;rw[c9 hF rfl];simp![];rw[o9 (l:=ws.map D.str) (g:=[(w,.lst (ws.map D.str))]) (h1:=h) ?_ (by simp[gOk,hw]) (λd=>match d with|.str x=>.bl (P x)|_=>.non) (λd=>[some d]) ?_ (by simpa using hl)]
  · have e:(ws.map D.str).map (λd=>match d with|D.str x=>D.bl (P x)|_=>D.non)=ws.map λx=>D.bl (P x):=by rw[aI];rfl
    rw[e];simp![a1R];exact gc1 rfl
  · simp![M4,hw]
  · intro x hx;obtain⟨y,hy,rfl⟩:=al.mp hx;refine⟨rfl,?_⟩;simp![hP y hy]
theorem S7(hw:h[w]? =some (.lst (ws.map D.str)))(hl:↥ws<=SL)(hs:∀x∈ws,↥x<=100000):b4 ct F (n+3) 9 [.ref w] h=.ok (.bl (ws.all b9)) h:=
 a2s (n:=n+2) W W.f9 rfl hw hl λx hx=>J0 W (hs x hx)
theorem a4k(hw:h[w]? =some (.lst (ws.map D.str)))(hl:↥ws<=SL)(hs:∀x∈ws,↥x<=100000):b4 ct F (n+4) 10 [.ref w] h=.ok (.bl (ws.all a4q)) h:=
 a2s (n:=n+3) W W.f10 rfl hw hl λx hx=>a5A W (hs x hx)
end
structure HD where
 shapes:List (Str×D):=[]
 marks:List (Str×D):=[]
 points:List ((Str×Str)×D):=[]
 letters:List (Str×D):=[]
 gaps:List Str:=[]
 classes:List (Str×D):=[]
 features:List (Str×D):=[]
 rules:List (Str×List D):=[]
def kd(l:List (Str×D)):List (D×D):=l.map λp=>(.str p.1,p.2)
def pd(l:List ((Str×Str)×D)):List (D×D):=l.map λp=>(.tup [.str p.1.1,.str p.1.2],p.2)
def rd(l:List (Str×List D)):List D:=l.map λr=>.tup (.str r.1::r.2)
noncomputable def a2i(n:Nat):List (Str×D):=[("shapes",.ref (n+1)),("marks",.ref (n+2)),("points",.ref (n+3)),("letters",.ref (n+4)),("gaps",.ref (n+5)),("classes",.ref (n+6)),("features",.ref (n+7)),("rules",.ref (n+8))]
structure HallAt(h:AH)(n:Nat)(H:HD):Prop where
 o:h[n]? =some (.obj 6 (a2i n))
 c1:h[n+1]? =some (.dict (kd H.shapes))
 c2:h[n+2]? =some (.dict (kd H.marks))
 c3:h[n+3]? =some (.dict (pd H.points))
 c4:h[n+4]? =some (.dict (kd H.letters))
 c5:h[n+5]? =some (.lst (H.gaps.map .str))
 c6:h[n+6]? =some (.dict (kd H.classes))
 c7:h[n+7]? =some (.dict (kd H.features))
 c8:h[n+8]? =some (.lst (rd H.rules))
structure Fr(n:Nat)(h h':AH):Prop where
 len:↥h<=↥h'
 get:∀i,i<↥h->(i<n∨n+8<i)->h'[i]? =h[i]?
theorem Fr.refl(n:Nat)(h:AH):Fr n h h:=⟨aj _,λ_ _ _=>rfl⟩
variable{h':AH}
theorem Fr.trans{h'':AH}(a:Fr n h h')(b:Fr n h' h''):Fr n h h'':=
 ⟨aR a.len b.len,λi hi hn=>(b.get i (aC hi a.len) hn).trans (a.get i hi hn)⟩
theorem Fr.app(n:Nat)(h g:AH):Fr n h (h++g):=⟨by simp,λi hi _=>av hi⟩
theorem Fr.set{k:Nat}{c:Cell}(h1:n<=k)(h2:k<=n+8):Fr n h (h.set k c):=⟨by simp,λi hi hn=>fP nofun⟩
variable{g:AH}
theorem b5{i:Nat}{c:Cell}(e:h[i]? =some c):(h++g)[i]? =some c:=by rw[av (ac.mp e).1];exact e
theorem HallAt.app{H:HD}(A:HallAt h n H)(g:AH):HallAt (h++g) n H:=
 ⟨b5 A.o,b5 A.c1,b5 A.c2,b5 A.c3,b5 A.c4,b5 A.c5,b5 A.c6,b5 A.c7,b5 A.c8⟩
variable{c':Cell}
theorem b7{i k:Nat}{c:Cell}(eY:k≠i)(e:h[i]? =some c):(h.set k c')[i]? =some c:=by rw[fP eY];exact e
theorem B0{i:Nat}{c:Cell}(e:h[i]? =some c):(h.set i c')[i]? =some c':=fW (ac.mp e).1
theorem HallAt.s1{H:HD}(A:HallAt h n H)(l:List (Str×D)):HallAt (h.set (n+1) (.dict (kd l))) n {H with shapes:=l}:=
 ⟨b7 nofun A.o,B0 A.c1,b7 nofun A.c2,b7 nofun A.c3,b7 nofun A.c4,b7 nofun A.c5,b7 nofun A.c6,b7 nofun A.c7,b7 nofun A.c8⟩
theorem HallAt.s2{H:HD}(A:HallAt h n H)(l:List (Str×D)):HallAt (h.set (n+2) (.dict (kd l))) n {H with marks:=l}:=
 ⟨b7 nofun A.o,b7 nofun A.c1,B0 A.c2,b7 nofun A.c3,b7 nofun A.c4,b7 nofun A.c5,b7 nofun A.c6,b7 nofun A.c7,b7 nofun A.c8⟩
theorem HallAt.s3{H:HD}(A:HallAt h n H)(l:List ((Str×Str)×D)):HallAt (h.set (n+3) (.dict (pd l))) n {H with points:=l}:=
 ⟨b7 nofun A.o,b7 nofun A.c1,b7 nofun A.c2,B0 A.c3,b7 nofun A.c4,b7 nofun A.c5,b7 nofun A.c6,b7 nofun A.c7,b7 nofun A.c8⟩
theorem HallAt.s4{H:HD}(A:HallAt h n H)(l:List (Str×D)):HallAt (h.set (n+4) (.dict (kd l))) n {H with letters:=l}:=
 ⟨b7 nofun A.o,b7 nofun A.c1,b7 nofun A.c2,b7 nofun A.c3,B0 A.c4,b7 nofun A.c5,b7 nofun A.c6,b7 nofun A.c7,b7 nofun A.c8⟩
theorem HallAt.s6{H:HD}(A:HallAt h n H)(l:List (Str×D)):HallAt (h.set (n+6) (.dict (kd l))) n {H with classes:=l}:=
 ⟨b7 nofun A.o,b7 nofun A.c1,b7 nofun A.c2,b7 nofun A.c3,b7 nofun A.c4,b7 nofun A.c5,B0 A.c6,b7 nofun A.c7,b7 nofun A.c8⟩
theorem HallAt.s7{H:HD}(A:HallAt h n H)(l:List (Str×D)):HallAt (h.set (n+7) (.dict (kd l))) n {H with features:=l}:=
 ⟨b7 nofun A.o,b7 nofun A.c1,b7 nofun A.c2,b7 nofun A.c3,b7 nofun A.c4,b7 nofun A.c5,b7 nofun A.c6,B0 A.c7,b7 nofun A.c8⟩
theorem HallAt.s8{H:HD}(A:HallAt h n H)(l:List (Str×List D)):HallAt (h.set (n+8) (.lst (rd l))) n {H with rules:=l}:=
 ⟨b7 nofun A.o,b7 nofun A.c1,b7 nofun A.c2,b7 nofun A.c3,b7 nofun A.c4,b7 nofun A.c5,b7 nofun A.c6,b7 nofun A.c7,B0 A.c8⟩
theorem HallAt.fld1{H:HD}(A:HallAt h n H):X5 h "shapes" (.ref n)=.ok (.ref (n+1)) h:=by simp only[X5,A.o];rfl
theorem HallAt.fld2{H:HD}(A:HallAt h n H):X5 h "marks" (.ref n)=.ok (.ref (n+2)) h:=by simp only[X5,A.o];rfl
theorem HallAt.fld3{H:HD}(A:HallAt h n H):X5 h "points" (.ref n)=.ok (.ref (n+3)) h:=by simp only[X5,A.o];rfl
theorem HallAt.fld4{H:HD}(A:HallAt h n H):X5 h "letters" (.ref n)=.ok (.ref (n+4)) h:=by simp only[X5,A.o];rfl
theorem HallAt.fld5{H:HD}(A:HallAt h n H):X5 h "gaps" (.ref n)=.ok (.ref (n+5)) h:=by simp only[X5,A.o];rfl
theorem HallAt.fld6{H:HD}(A:HallAt h n H):X5 h "classes" (.ref n)=.ok (.ref (n+6)) h:=by simp only[X5,A.o];rfl
theorem HallAt.fld7{H:HD}(A:HallAt h n H):X5 h "features" (.ref n)=.ok (.ref (n+7)) h:=by simp only[X5,A.o];rfl
theorem HallAt.fld8{H:HD}(A:HallAt h n H):X5 h "rules" (.ref n)=.ok (.ref (n+8)) h:=by simp only[X5,A.o];rfl
theorem X3(k:Str)(l:List (Str×D)):D8 (.str k) (kd l)=true:=by simp[D8,kd,K7]
theorem a8P(a b:Str)(l:List ((Str×Str)×D)):D8 (.tup [.str a,.str b]) (pd l)=true:=by simp[D8,pd,K7,I0,K9]
theorem a7W(k:Str):∀l:List (Str×D),(n8 (kd l) (.str k)).isSome=decide (k∈l.map (·.1))
 |[]=>rfl
 | p ::r=>by
  have ih:=a7W k r;unfold n8 kd at ih⊢;rw[map_cons,List.find?_cons]
  by_cases e:p.1=k
  · simp[e]
  · have e':¬(D.str p.1=D.str k):=λz=>e (by injection z);simp only[e',fK];rw[ih];exact decide_eq_decide.mpr ⟨λz=>by simp[z],λz=>by
     rw[map_cons] at z;rcases aF.mp z with z|z
     · exact absurd z.symm e
     · exact z⟩
theorem b2I(a b:Str):∀l:List ((Str×Str)×D),(n8 (pd l) (.tup [.str a,.str b])).isSome=decide ((a,b)∈l.map (·.1))
 |[]=>rfl
 | p ::r=>by
  have ih:=b2I a b r;unfold n8 pd at ih⊢;rw[map_cons,List.find?_cons]
  by_cases e:p.1=(a,b)
  · simp[e]
  · have e':¬(D.tup [.str p.1.1,.str p.1.2]=D.tup [.str a,.str b]):=λz=>e (by injection z with z;injection z with z1 z2;injection z1 with z1;injection z2 with z2;injection z2 with z2;exact Prod.ext z1 z2)
    simp only[e',fK];rw[ih];exact decide_eq_decide.mpr ⟨λz=>by simp[z],λz=>by
     rw[map_cons] at z;rcases aF.mp z with z|z
     · exact absurd z.symm e
     · exact z⟩
theorem b7u{k:Str}{l:List (Str×D)}(h:k∉l.map (·.1)):a0W (kd l) (.str k) d=kd (l++[(k,d)]):=by
 unfold a0W;rw[az]
 · simp[kd]
 · intro z;rw[bn] at z;obtain⟨p,hp,e⟩:=z;unfold kd at hp;obtain⟨q,hq,rfl⟩:=al.mp hp;have e:=aw e;injection e with e;exact h (al.mpr ⟨q,hq,e⟩)
theorem b7t{a b:Str}{l:List ((Str×Str)×D)}(h:(a,b)∉l.map (·.1)):a0W (pd l) (.tup [.str a,.str b]) d=pd (l++[((a,b),d)]):=by
 unfold a0W;rw[az]
 · simp[pd]
 · intro z;rw[bn] at z;obtain⟨p,hp,e⟩:=z;unfold pd at hp;obtain⟨q,hq,rfl⟩:=al.mp hp;have e:=aw e;injection e with e;injection e with e1 e2;injection e1 with e1;injection e2 with e2;injection e2 with e2;exact h (al.mpr ⟨q,hq,Prod.ext e1 e2⟩)
theorem Z1{l:List (Str×D)}{k:Str}(e:h[n]? =some (.dict (kd l))):O4 false h (.str k) (.ref n)=.ok (.bl (decide (k∈l.map (·.1)))) h:=by simp only[O4,e,X3,fV,a7W];simp
theorem c0B{l:List ((Str×Str)×D)}{a b:Str}(e:h[n]? =some (.dict (pd l))):O4 false h (.tup [.str a,.str b]) (.ref n)=.ok (.bl (decide ((a,b)∈l.map (·.1)))) h:=by simp only[O4,e,a8P,fV,b2I];simp
theorem a5u{l:List (Str×D)}(e:h[n]? =some (.dict (kd l))):biD .len h [.ref n]=.ok (.int ↥l) h:=by
 have:D8 (.int 0) (kd l)=true:=by simp[D8,kd,K7]
 simp only[biD,bi1,biL,e,this,fV];simp[kd]
variable{l:List D}
theorem k7(e:h[n]? =some (.lst l)):biD .len h [.ref n]=.ok (.int ↥l) h:=by
 have:rdL h n=some l:=by unfold rdL;rw[e]
 simp only[biD,bi1,biL,e,this]
section
variable{ct:CT}{F:Nat->Option Fn}(W:PF F)
include W
theorem b2C:b4 ct F (n+1) 32 [.ref ↥h] (h++[.obj 6 []])=.ok .non (h++[.obj 6 (a2i ↥h),.dict [],.dict [],.dict [],.dict [],.lst [],.dict [],.dict [],.lst []]):=by
 rw[c9 W.f32 rfl];simp only[O8];rw[gc0];have hs:∀(x z:Cell) (t:AH),(h++x::t).set ↥h z=h++z::t:=λx z t=>by rw[List.set_append_right _ _ (aj _)];simp
 have hg:∀(x:Cell) (t:AH),(h++x::t)[↥h]? =some x:=λx t=>by simp
 simp![v8,a5d,hs,hg,aA,a4v];simp only[aq,length_cons,length_nil,a2i]
end
theorem v7(i:Int)(k:Nat)(hi:i=(k:Nat))(hw:h[w]? =some (.lst xs))(hd:xs[k]? =some d):ixD h (.ref w) (.int i)=.ok d h:=by subst hi;exact v5 hw hd
theorem Z7{l:List (Str×D)}{k:Str}(e:h[n]? =some (.dict (kd l)))(hk:k∉l.map (·.1))(hl:↥l<SL):a2u h (.ref n) (.str k) d=.ok () (h.set n (.dict (kd (l++[(k,d)])))):=by simp only[a2u,e];rw[ay ⟨X3 _ _,by simpa [kd] using hl⟩,b7u hk]
theorem a9H{l:List ((Str×Str)×D)}{a b:Str}(e:h[n]? =some (.dict (pd l)))(hk:(a,b)∉l.map (·.1))(hl:↥l<SL):a2u h (.ref n) (.tup [.str a,.str b]) d=.ok () (h.set n (.dict (pd (l++[((a,b),d)])))):=by simp only[a2u,e];rw[ay ⟨a8P _ _ _,by simpa [pd] using hl⟩,b7t hk]
theorem a7U{b:Str}{v:Int}(hl:↥b<=640)(hv:intText? b=some v):biD .int h [.str b]=.ok (.int v) h:=by simp only[biD,bi1,biL,ay hl,hv]
theorem M3(k:Nat)(xs:List D):L6 xs (some (k:Int)) none=xs.drop k:=by
 unfold L6 HT.sIx;simp only;rw[az nofun];show(xs.drop (min k ↥xs)).take (↥xs-min k ↥xs)=xs.drop k
 by_cases h:k<=↥xs
 · rw[bc h];exact bg ⋯
 · rw[Nat.min_eq_right nofun,drop_length,gL nofun];simp
theorem N2(k l:Nat)(xs:List D)(hk:k<=l)(hl:l<=↥xs):L6 xs (some (k:Int)) (some (l:Int))=(xs.drop k).take (l-k):=by unfold L6 HT.sIx;simp only;rw[az nofun,az nofun];show(xs.drop (min k ↥xs)).take (min l ↥xs-min k ↥xs)=_;rw[bc (show k<=↥xs by ac_nf),bc hl]
variable{lo:Option Int}{hi:Option Int}
theorem F0(hw:h[w]? =some (.lst xs)):slD h lo hi (.ref w)=.ok (.ref ↥h) (h++[.lst (L6 xs lo hi)]):=by
 have:rdL h w=some xs:=by unfold rdL;rw[hw]
 simp only[slD,this,v8]
theorem N6(hw:h[w]? =some (.lst xs)):biD .tuple h [.ref w]=.ok (.tup xs) h:=by
 have:rdL h w=some xs:=by unfold rdL;rw[hw]
 simp only[biD,bi1,biL,hw,this]
variable{x:Str}{wy:Str}
section
variable{ct:CT}{F:Nat->Option Fn}(W:PF F)
include W
theorem a4c{k:Nat}{H:HD}{a b:Str}{v:Int}(A:HallAt h n H)(hw:h[w]? =some (.lst [.str x,.str a,.str b]))(ha:b9 a=true)(eN:↥a<=100000)(hb:W0 b=some v):
 b4 ct F (k+3) 17 [.ref n,.ref w] h=match due (decide (a∈H.shapes.map (·.1))) true (decide ((60:Int)<=(↥H.shapes:Int))) with
  |some f=>.ok (.str f) h
  |none=>.ok .non (h.set (n+1) (.dict (kd (H.shapes++[(a,.int v)])))):=by
 obtain⟨hv,hbl,_,_⟩:=a2U hb;have hbn:a2x b=true:=by rw[a3w,hb];rfl
 rw[c9 W.f17 rfl];simp only[Y0];rw[gc0];simp![k7 hw,op2,a2I,eqS,v7 1 1 rfl hw rfl,v7 2 2 rfl hw rfl,J0 W eN,L9 W (show ↥b<=100000 by ac_nf),ha,hbn,A.fld1,Z1 A.c1,a5u A.c1,G9,D7 W,W7,a7U hbl hv,Int.cast_ofNat_Int,fO,fL];cases hd:due (decide (a∈H.shapes.map (·.1))) true (decide ((60:Int)<=(↥H.shapes:Int))) with
 |some f=>simp![Option.isNone_some,V4]
 |none=>
  obtain⟨d1,_,d2⟩:=a0w hd;have d2:=gf d2;simp![Option.isNone_none,Z7 A.c1 (gf d1) (show _<16777216 by ac_nf),V4]
theorem a2G{k:Nat}{H:HD}{a b:Str}(A:HallAt h n H)(hw:h[w]? =some (.lst [.str x,.str a,.str b]))(ha:b9 a=true)(eN:↥a<=100000)(hb:b="on"∨b="off"):
 b4 ct F (k+3) 25 [.ref n,.ref w] h=match due (decide (a∈H.features.map (·.1))) true (decide ((10:Int)<=(↥H.features:Int))) with
  |some f=>.ok (.str f) h
  |none=>.ok .non (h.set (n+7) (.dict (kd (H.features++[(a,.bl (decide (b="on")))])))):=by
 have dC:inD (.str b) [.str "on",.str "off"]=true:=by rcases hb with rfl|rfl<;>decide
 rw[c9 W.f25 rfl];simp only[T2];rw[gc0];simp![k7 hw,op2,a2I,G7,eqS,v7 1 1 rfl hw rfl,v7 2 2 rfl hw rfl,J0 W eN,ha,A.fld7,Z1 A.c7,a5u A.c7,G9,D7 W,W7,dC,z8,all_cons,all_nil,gA,and_self,bne_self_eq_false,Int.cast_ofNat_Int,fO,fL];cases hd:due (decide (a∈H.features.map (·.1))) true (decide ((10:Int)<=(↥H.features:Int))) with
 |some f=>simp![Option.isNone_some,V4]
 |none=>
  obtain⟨d1,_,d2⟩:=a0w hd;have d2:=gf d2;simp![Option.isNone_none,op2,G7,eqS,v7 2 2 rfl hw rfl,A.fld7,Z7 A.c7 (gf d1) (show _<16777216 by ac_nf),V4]
theorem V2{k:Nat}{H:HD}(A:HallAt h n H)(hw:h[w]? =some (.lst (ws.map .str)))(hl:↥ws<=SL):b4 ct F (k+1) 15 [.ref n,.ref w] h=.ok (.bl (ws.all λx=>decide (x∈H.shapes.map (·.1)))) h:=by
 rw[c9 W.f15 rfl];simp only[Y6];simp![];rw[o9 (l:=ws.map D.str) (g:=[(w,.lst (ws.map D.str))]) (h1:=h) ?_ (by simp[gOk,hw]) (λd=>match d with|.str x=>.bl (decide (x∈H.shapes.map (·.1)))|_=>.non) (λd=>[some d,~~~n]) ?_ (by simpa using hl)]
 · have e:(ws.map D.str).map (λd=>match d with|D.str x=>D.bl (decide (x∈H.shapes.map (·.1)))|_=>D.non)=ws.map λx=>D.bl (decide (x∈H.shapes.map (·.1))):=by rw[aI];rfl
   rw[e];simp![a1R];exact gc1 rfl
 · simp![M4,hw]
 · intro x hx;obtain⟨y,hy,rfl⟩:=al.mp hx;refine⟨rfl,?_⟩;simp![op2,A.fld1,Z1 A.c1]
noncomputable def a4C:List (D×D):=[(.str "none",.int 1),(.str "clear",.int 1),(.str "back",.int 2),(.str "both",.int 4)]
theorem a4j{k:Nat}{a j:Str}{d9:List Str}(hw:h[w]? =some (.lst (.str x::.str a::.str j::.str wy::d9.map .str)))(ha:b9 a=true)(eN:↥a<=100000)(hj:n8 a4C (.str j)=some (.int d9.length))(hy:inD (.str wy) [.str "left",.str "right",.str "either"]=true)
 (hr:d9.all b9=true) (hrl:∀y∈d9,↥y<=100000) (hrs:d9.length<=100000):b4 ct F (k+4) 21 [.ref w] h=.ok (.bl true) h:=by
 rw[c9 W.f21 rfl];simp only[M1];have e4:∀xs,L6 xs (some 4) none=xs.drop 4:=M3 4;have hn:b4 ct F (k+3) 9 [.ref ↥h] (h++[.lst (d9.map .str)])=.ok (.bl (d9.all b9)) (h++[.lst (d9.map .str)]):=S7 W b6 (by show _<=16777216;ac_nf) hrl;have bR:decide (((d9.length+1+1+1+1:Nat):Int)<4)=false:=bx nofun;unfold a4C at hj;simp![k7 hw,op2,G9,bR,aa,v7 1 1 rfl hw rfl,v7 2 2 rfl hw rfl,v7 3 3 rfl hw rfl,J0 W eN,ha,K9,Option.isSome_some,hj,hy,z8,all_cons,all_nil,gA,and_self,bne_self_eq_false,fL,F0 hw,e4,drop_succ_cons,drop_zero,k7 b6,v7 2 2 rfl (b5 (g:=[.lst (d9.map .str)]) hw) rfl,G7,eqS,fO,hn,hr];exact gc1 rfl
theorem a3e{k:Nat}{H:HD}{a j:Str}{d9:List Str}(A:HallAt h n H)(hw:h[w]? =some (.lst (.str x::.str a::.str j::.str wy::d9.map .str)))(ha:b9 a=true)(eN:↥a<=100000)(hj:n8 a4C (.str j)=some (.int d9.length))(hy:inD (.str wy) [.str "left",.str "right",.str "either"]=true)
 (hr:d9.all b9=true) (hrl:∀y∈d9,↥y<=100000) (hrs:d9.length<=100000):
 b4 ct F (k+5) 22 [.ref n,.ref w] h=match due (decide (a∈H.letters.map (·.1))) (d9.all λx=>decide (x∈H.shapes.map (·.1))) (decide ((24:Int)<=(↥H.letters:Int))) with
  |some f=>.ok (.str f) (h++[.lst (d9.map .str)])
  |none=>.ok .non ((h++[Cell.lst (d9.map .str)]).set (n+4) (.dict (kd (H.letters++[(a,D.tup [.str j,.str wy,.tup (d9.map .str)])])))):=by
 rw[c9 W.f22 rfl];simp only[V3];rw[gc0];have e4:∀xs,L6 xs (some 4) none=xs.drop 4:=M3 4;have A1:=A.app [.lst (d9.map .str)];have hw1:=b5 (g:=[.lst (d9.map .str)]) hw;have hs:=V2 (ct:=ct) (k:=k+3) W A1 (b6 (h:=h)) (by show _<=16777216;ac_nf);simp![a4j W hw ha eN hj hy hr hrl hrs,fL,v7 1 1 rfl hw rfl,F0 hw,e4,drop_succ_cons,drop_zero,op2,A1.fld4,Z1 A1.c4,a5u A1.c4,G9,hs,D7 W,W7];cases hd:due (decide (a∈H.letters.map (·.1))) (d9.all λx=>decide (x∈H.shapes.map (·.1))) (decide ((24:Int)<=(↥H.letters:Int))) with
 |some f=>simp![Option.isNone_some,V4]
 |none=>
  obtain⟨d1,_,d2⟩:=a0w hd;have d2:=gf d2;simp![Option.isNone_none,v7 2 2 rfl hw1 rfl,v7 3 3 rfl hw1 rfl,N6 b6,A1.fld4,Z7 A1.c4 (gf d1) (show _<16777216 by ac_nf),V4]
theorem a4e{k:Nat}{H:HD}{a:Str}{d9:List Str}(A:HallAt h n H)(hw:h[w]? =some (.lst (.str x::.str a::d9.map .str)))(ha:b9 a=true)(eN:↥a<=100000)
 (hr:d9.all b9=true) (hrl:∀y∈d9,↥y<=100000) (hr1:1<=d9.length) (hr2:d9.length<=20):
 b4 ct F (k+5) 24 [.ref n,.ref w] h=match due (decide (a∈H.classes.map (·.1))) (d9.all λx=>decide (x∈H.shapes.map (·.1))) (decide ((20:Int)<=(↥H.classes:Int))) with
  |some f=>.ok (.str f) (h++[.lst (d9.map .str),.lst (.str a::d9.map .str)])
  |none=>.ok .non ((h++[Cell.lst (d9.map .str),Cell.lst (.str a::d9.map .str)]).set (n+6) (.dict (kd (H.classes++[(a,D.tup (d9.map .str))])))):=by
 rw[c9 W.f24 rfl];simp only[Y2];rw[gc0];have e1:∀xs,L6 xs (some 1) none=xs.drop 1:=M3 1;have e2:∀xs,L6 xs (some 2) none=xs.drop 2:=M3 2;have hw1:=b5 (g:=[.lst (d9.map .str)]) hw;have hw2:=b5 (g:=[.lst (.str a::d9.map .str)]) hw1;have A2:=(A.app [.lst (d9.map .str)]).app [.lst (.str a::d9.map .str)];have hq:(h++[Cell.lst (d9.map .str)]++[.lst (.str a::d9.map .str)])[↥h]? =some (.lst (d9.map .str)):=b5 b6;have hs:=V2 (ct:=ct) (k:=k+3) W A2 hq (by show _<=16777216;ac_nf);have hn:b4 ct F (k+4) 9 [.ref ↥(h++[Cell.lst (d9.map .str)])] (h++[Cell.lst (d9.map .str)]++[.lst (.str a::d9.map .str)])=.ok (.bl true) (h++[Cell.lst (d9.map .str)]++[.lst (.str a::d9.map .str)]):=by
  have:=S7 (ct:=ct) (n:=k+1) (ws:=a::d9) W (b6 (h:=h++[Cell.lst (d9.map .str)]) (c:=.lst (.str a::d9.map .str))) (by show _<=16777216;simp;ac_nf) (λy hy=>by
   rcases aF.mp hy with rfl|hy
   · exact eN
   · exact hrl y hy)
  rw[all_cons,ha,hr] at this;exact this
 have l1:decide ((1:Int)<=(d9.length:Int))=true:=ba nofun;have l2:decide ((d9.length:Int)<=20)=true:=ba nofun;simp![F0 hw,e2,drop_succ_cons,drop_zero,k7 b6,aa,op2,G9,l1,l2,fL,F0 hw1,e1,hn,v7 1 1 rfl hw2 rfl,A2.fld6,Z1 A2.c6,a5u A2.c6,hs,D7 W,W7];rw[show h++[Cell.lst (d9.map D.str),.lst (.str a::d9.map .str)]=h++[Cell.lst (d9.map .str)]++[.lst (.str a::d9.map .str)] by simp];cases hd:due (decide (a∈H.classes.map (·.1))) (d9.all λx=>decide (x∈H.shapes.map (·.1))) (decide ((20:Int)<=(↥H.classes:Int))) with
 |some f=>simp![Option.isNone_some,V4]
 |none=>
  obtain⟨d1,_,d2⟩:=a0w hd;have d2:=gf d2;simp![Option.isNone_none,N6 hq,A2.fld6,Z7 A2.c6 (gf d1) (show _<16777216 by ac_nf),V4]
end
theorem B6{l:AH}{i:Nat}:(h++l)[↥h+i]? =l[i]? :=by rw[au nofun];congr 1;ac_nf
theorem b4x{l:AH}{i:Nat}{c:Cell}:(h++l).set (↥h+i) c=h++l.set i c:=by rw[List.set_append_right _ _ nofun];congr 2;ac_nf
theorem b7k{i:Nat}{c:Cell}(e:h[i]? =some c):h.set i c=h:=by
 refine ext_getElem? λj=>?_
 by_cases hj:i=j
 · subst hj;rw[fW (ac.mp e).1,e]
 · rw[fP hj]
theorem b6u:atI (xs++[d]) (-1)=some d:=by unfold atI ixN;rw[az nofun,ay (by simp;ac_nf)];simp only[Option.bind_some];rw[show((-1:Int)+(↥(xs++[d]):Int)).toNat=xs.length by simp;ac_nf];simp
def K0(x:Str):Bool:=decide (x="/")||decide (x=">")
theorem a6M:O4 false h (.str x) (.tup [.str "/",.str ">"])=.ok (.bl (K0 x)) h:=by
 have e:inD (.str x) [.str "/",.str ">"]=K0 x:=by show((Str.ofString "/"==x)||((Str.ofString ">"==x)||false))=(decide (x="/")||decide (x=">"));rw[Bool.or_false,gG,bp,bp,beq_iff_eq,beq_iff_eq,gE,gE];exact⟨λz=>z.imp Eq.symm Eq.symm,λz=>z.imp Eq.symm Eq.symm⟩
 simp only[O4,z8,all_cons,all_nil,gA,fV,e];cases K0 x<;>rfl
theorem a3r{l:AH}{i:Nat}(e:l[i]? =some (.lst xs)):rdL (h++l) (↥h+i)=some xs:=by unfold rdL;rw[B6,e]
theorem a1o{l:AH}{i:Nat}(e:l[i]? =some (.lst xs))(hl:↥xs<SL):mtD .append (h++l) (.ref (↥h+i)) [d]=.ok .non (h++l.set i (.lst (xs++[d]))):=by simp only[mtD,B6,e,ay hl,b4x]
theorem a5Z{α:Type}(f:α×α->Bool):∀l:List α,(∀x∈l,f (x,x)=true)->(l.zip l).all f=true
 |[],_=>rfl
 |x::r,h=>by rw[List.zip_cons_cons,all_cons,h x (.head _),a5Z f r λy hy=>h y (.tail _ hy)];rfl
variable{j:Nat}
theorem a7a{i:Nat}(hi:rdL h i=some l)(hj:rdL h j=some l)(hs:∀x∈l,same x x=true):eqL h (.ref i) (.ref j)=some true:=by simp only[eqL,a7N,hi,hj];rw[fO,a5Z _ l hs];rfl
theorem b4A{x:D}(hf:z8 x=true):same x x=true:=by cases x<;>first|(cases hf;done)|(simp[same,z8])
theorem b7X{l:AH}{i:Nat}(e1:l[i]? =some (.lst xs))(e2:l[j]? =some (.lst xs))(hf:∀x∈xs,z8 x=true):op2 .ne (h++l) (.ref (↥h+i)) (.ref (↥h+j))=.ok (.bl false) (h++l):=by simp only[op2,a2I,eqS,a7a (a3r e1) (a3r e2) λx hx=>b4A (hf x hx)];rfl
section
variable{ct:CT}{c:CF}{q:Nat}{S:List D}
theorem a3p:∀(L:List Str) (l:AH) (R P:List D) (e:Option D) (d9:List D),l[1]? =some (.lst (R++[.ref (↥h+q)]))->l[q]? =some (.lst P)->l[3]? =some (.lst S)->q≠1->q≠3->(∀x∈L,K0 x=false)->↥P+↥L<=100000→
 ∃e',E1 [(↥h+3,.lst S)] (.nm 3) (exs ct c rpB) (L.map D.str++d9) [~~~w,some (.ref (↥h+1)),some (.ref (↥h+2)),e] (h++l)=
  E1 [(↥h+3,.lst S)] (.nm 3) (exs ct c rpB) d9 [~~~w,some (.ref (↥h+1)),some (.ref (↥h+2)),e'] (h++l.set q (.lst (P++L.map D.str)))
 |[],l,R,P,e,d9,h1,h2,h3,q1,q3,_,_=>⟨e,by rw[map_nil,aZ,b7k h2,nil_append]⟩
 | x::L,l,R,P,e,d9,h1,h2,h3,q1,q3,hL,hs=>by
  rw[length_cons] at hs;have hx:=hL x aY;obtain⟨e',ih⟩:=a3p L (l.set q (.lst (P++[.str x]))) R (P++[.str x]) (some (.str x)) d9 (by rw[fP q1];exact h1) (fW (ac.mp h2).1) (by rw[fP q3];exact h3) q1 q3 (λy hy=>hL y (aE _ hy)) (by simp;ac_nf);refine⟨e',?_⟩;have hg:gOk [(↥h+3,Cell.lst S)] (h++l)=true:=by simp[gOk,B6,h3]
  rw[map_cons,cons_append,E1,ay hg];simp only[D9];have hix:ixD (h++l) (.ref (↥h+1)) (.int (-1))=.ok (.ref (↥h+q)) (h++l):=by simp only[ixD,B6,h1,b6u]
  have hmt:mtT .append (h++l) (.ref (↥h+q))=true:=by simp only[mtT,a3r h2,Option.isSome_some]
  have hap:=a1o (h:=h) (d:=D.str x) h2 (show ↥P<16777216 by ac_nf);simp only[rpB];simp![op2,a6M,hx,hix,hmt,hap];rw[List.set_set] at ih;rw[aA] at ih;exact ih
theorem a5f(x:Str)(l:AH)(R B:List D)(e:Option D)(d9:List D)(h1:l[1]? =some (.lst R))(h2:l[2]? =some (.lst B))(h3:l[3]? =some (.lst S))(hx:K0 x=true)(hR:R.length<=1000)(hB:B.length<=1000):
 ∃e',E1 [(↥h+3,.lst S)] (.nm 3) (exs ct c rpB) (D.str x::d9) [~~~w,some (.ref (↥h+1)),some (.ref (↥h+2)),e] (h++l)=
  E1 [(↥h+3,.lst S)] (.nm 3) (exs ct c rpB) d9 [~~~w,some (.ref (↥h+1)),some (.ref (↥h+2)),e'] (h++((l.set 2 (.lst (B++[.str x]))).set 1 (.lst (R++[.ref (↥h+↥l)]))++[.lst []])):=by
 refine⟨some (.str x),?_⟩;have hg:gOk [(↥h+3,Cell.lst S)] (h++l)=true:=by simp[gOk,B6,h3]
 rw[E1,ay hg];simp only[D9];have hm2:mtT .append (h++l) (.ref (↥h+2))=true:=by simp only[mtT,a3r h2,Option.isSome_some]
 have ha2:=a1o (h:=h) (d:=D.str x) h2 (show B.length<16777216 by ac_nf);have h1':(l.set 2 (Cell.lst (B++[.str x])))[1]? =some (.lst R):=by rw[fP ∅];exact h1
 have hm1:mtT .append (h++l.set 2 (.lst (B++[.str x]))) (.ref (↥h+1))=true:=by simp only[mtT,a3r h1',Option.isSome_some]
 have h1'':(l.set 2 (Cell.lst (B++[.str x]))++[.lst []])[1]? =some (.lst R):=b5 h1';have ha1:mtD .append (h++l.set 2 (.lst (B++[.str x]))++[.lst []]) (.ref (↥h+1)) [.ref ↥(h++l.set 2 (.lst (B++[.str x])))]=.ok .non (h++((l.set 2 (.lst (B++[.str x]))).set 1 (.lst (R++[.ref (↥h+↥l)]))++[.lst []])):=by rw[aA,a1o h1'' (show R.length<16777216 by ac_nf)];have hl:1<↥(l.set 2 (Cell.lst (B++[.str x]))):=(ac.mp h1').1;rw[List.set_append_left _ _ hl];simp
 simp only[rpB];simp![op2,a6M,hx,hm2,ha2,hm1,v8,ha1]
end
def i7(bI bE bN bH:List Str):List Str:=bI++("/":Str)::(bE++("/":Str)::(bN++(">":Str)::bH))
noncomputable def a0D(n:Nat)(bI bE bN bH:List Str):AH:=[.lst (bI.map .str),.lst [.ref n,.ref (n+4),.ref (n+5),.ref (n+6)],.lst [.str "/",.str "/",.str ">"],.lst ((i7 bI bE bN bH).map .str),.lst (bE.map .str),.lst (bN.map .str),.lst (bH.map .str),.lst [.str "/",.str "/",.str ">"]]
variable{bI:List Str}{bE:List Str}{bN:List Str}{bH:List Str}
section
variable{ct:CT}{F:Nat->Option Fn}(W:PF F)
include W
theorem a0O{k:Nat}{t f:Str}(hw:h[w]? =some (.lst (.str x::.str t::.str f::(i7 bI bE bN bH).map .str)))
 (pl:∀y∈bI++bE++bN++bH,K0 y=false) (hl:↥(bI++bE++bN++bH)<=1000):b4 ct F (k+1) 28 [.ref w] h=.ok (.ref (↥h+1)) (h++a0D ↥h bI bE bN bH):=by
 rw[c9 W.f28 rfl];have hf:Y3=⟨1,4,0,(.set 1 (.lst (.o (.lst .nil)))>=>.set 2 (.lst .nil)>=>.for (.nm 3) (.seq (.sl (.v 0) (.at (.i 3)) .no)) rpB>=>.iff (.cmp .ne (.v 2) (.lst (.s "/">=>.s "/">=>.o (.s ">")))) (.o (.ret (.k .non))) .nil>=>.o (.ret (.v 1)))⟩:=rfl;simp only[hf];rw[gc0];have e3:∀xs,L6 xs (some 3) none=xs.drop 3:=M3 3;have hw':=b5 (g:=[Cell.lst [],.lst [.ref ↥h],.lst []]) hw;simp only[aq] at hl;have m1:∀y∈bI,K0 y=false:=λy hy=>pl y (by simp[hy]);have m2:∀y∈bE,K0 y=false:=λy hy=>pl y (by simp[hy]);have m3:∀y∈bN,K0 y=false:=λy hy=>pl y (by simp[hy]);have m4:∀y∈bH,K0 y=false:=λy hy=>pl y (by simp[hy]);have ps:K0 "/"=true:=by decide
 have pg:K0 ">"=true:=by decide
 obtain⟨e1,s1⟩:=a3p (c:=b4 ct F k) (h:=h) (w:=w) (q:=0) (S:=(i7 bI bE bN bH).map D.str) bI [.lst [],.lst [.ref ↥h],.lst [],.lst ((i7 bI bE bN bH).map D.str)] [] [] none ((("/":Str)::(bE++("/":Str)::(bN++(">":Str)::bH))).map D.str) rfl rfl rfl ∅ ∅ m1 (by simp;ac_nf);obtain⟨e2,s2⟩:=a5f (c:=b4 ct F k) (h:=h) (w:=w) (S:=(i7 bI bE bN bH).map D.str) "/" [.lst (bI.map .str),.lst [.ref ↥h],.lst [],.lst ((i7 bI bE bN bH).map D.str)] [.ref ↥h] [] e1 ((bE++("/":Str)::(bN++(">":Str)::bH)).map D.str) rfl rfl rfl ps ⋯ ⋯;obtain⟨e3',s3⟩:=a3p (c:=b4 ct F k) (h:=h) (w:=w) (q:=4) (S:=(i7 bI bE bN bH).map D.str) bE [.lst (bI.map .str),.lst [.ref ↥h,.ref (↥h+4)],.lst [.str "/"],.lst ((i7 bI bE bN bH).map D.str),.lst []] [.ref ↥h] [] e2 ((("/":Str)::(bN++(">":Str)::bH)).map D.str) rfl rfl rfl ∅ ∅ m2 (by simp;ac_nf);obtain⟨e4,s4⟩:=a5f (c:=b4 ct F k) (h:=h) (w:=w) (S:=(i7 bI bE bN bH).map D.str) "/" [.lst (bI.map .str),.lst [.ref ↥h,.ref (↥h+4)],.lst [.str "/"],.lst ((i7 bI bE bN bH).map D.str),.lst (bE.map .str)] [.ref ↥h,.ref (↥h+4)] [.str "/"] e3' ((bN++(">":Str)::bH).map D.str) rfl rfl rfl ps ⋯ ⋯;obtain⟨e5,s5⟩:=a3p (c:=b4 ct F k) (h:=h) (w:=w) (q:=5) (S:=(i7 bI bE bN bH).map D.str) bN [.lst (bI.map .str),.lst [.ref ↥h,.ref (↥h+4),.ref (↥h+5)],.lst [.str "/",.str "/"],.lst ((i7 bI bE bN bH).map D.str),.lst (bE.map .str),.lst []] [.ref ↥h,.ref (↥h+4)] [] e4 (((">":Str)::bH).map D.str) rfl rfl rfl ∅ ∅ m3 (by simp;ac_nf);obtain⟨e6,s6⟩:=a5f (c:=b4 ct F k) (h:=h) (w:=w) (S:=(i7 bI bE bN bH).map D.str) ">" [.lst (bI.map .str),.lst [.ref ↥h,.ref (↥h+4),.ref (↥h+5)],.lst [.str "/",.str "/"],.lst ((i7 bI bE bN bH).map D.str),.lst (bE.map .str),.lst (bN.map .str)] [.ref ↥h,.ref (↥h+4),.ref (↥h+5)] [.str "/",.str "/"] e5 (bH.map D.str) rfl rfl rfl pg ⋯ ⋯;obtain⟨e7,s7⟩:=a3p (c:=b4 ct F k) (h:=h) (w:=w) (q:=6) (S:=(i7 bI bE bN bH).map D.str) bH [.lst (bI.map .str),.lst [.ref ↥h,.ref (↥h+4),.ref (↥h+5),.ref (↥h+6)],.lst [.str "/",.str "/",.str ">"],.lst ((i7 bI bE bN bH).map D.str),.lst (bE.map .str),.lst (bN.map .str),.lst []] [.ref ↥h,.ref (↥h+4),.ref (↥h+5)] [] e6 [] rfl rfl rfl ∅ ∅ m4 (by simp;ac_nf);have sx:(i7 bI bE bN bH).map D.str=bI.map D.str++(("/":Str)::(bE++("/":Str)::(bN++(">":Str)::bH))).map D.str:=by unfold i7;rw[ao]
 have all:E1 [(↥h+3,.lst ((i7 bI bE bN bH).map D.str))] (.nm 3) (exs ct (b4 ct F k) rpB) ((i7 bI bE bN bH).map D.str) [~~~w,some (.ref (↥h+1)),some (.ref (↥h+2)),none] (h++[.lst [],.lst [.ref ↥h],.lst [],.lst ((i7 bI bE bN bH).map D.str)])=
  .ok (.nx [~~~w,some (.ref (↥h+1)),some (.ref (↥h+2)),e7]) (h++[.lst (bI.map .str),.lst [.ref ↥h,.ref (↥h+4),.ref (↥h+5),.ref (↥h+6)],.lst [.str "/",.str "/",.str ">"],.lst ((i7 bI bE bN bH).map D.str),.lst (bE.map .str),.lst (bN.map .str),.lst (bH.map .str)]):=by
  rw[←sx] at s1;refine s1.trans ?_;refine s2.trans ?_;rw[ao];refine s3.trans ?_;refine s4.trans ?_;rw[ao];refine s5.trans ?_;refine s6.trans ?_;rw[aZ] at s7;refine s7.trans ?_;rw[E1,ay (by simp[gOk,B6])];rfl
 simp![v8,aA,F0 hw',e3,drop_succ_cons,drop_zero,M4,aq,B6,all];have eY:op2 .ne (h++[Cell.lst (bI.map D.str),.lst [.ref ↥h,.ref (↥h+4),.ref (↥h+5),.ref (↥h+6)],.lst [.str "/",.str "/",.str ">"],.lst ((i7 bI bE bN bH).map D.str),.lst (bE.map .str),.lst (bN.map .str),.lst (bH.map .str),.lst [.str "/",.str "/",.str ">"]]) (.ref (↥h+2)) (.ref (↥h+7))=
  .ok (.bl false) (h++[Cell.lst (bI.map D.str),.lst [.ref ↥h,.ref (↥h+4),.ref (↥h+5),.ref (↥h+6)],.lst [.str "/",.str "/",.str ">"],.lst ((i7 bI bE bN bH).map D.str),.lst (bE.map .str),.lst (bN.map .str),.lst (bH.map .str),.lst [.str "/",.str "/",.str ">"]]):=by
  exact b7X rfl rfl ∅
 simp![eY];rfl
end
def O1(z:Str):Bool:=decide ((cd z).head? =some 64)&&b9 (tl z)
def V1(z:Str):Bool:=b9 z||O1 z
noncomputable def N1(H:HD)(z:Str):Bool:=if O1 z then decide (tl z∈H.classes.map (·.1)) else decide (z∈H.shapes.map (·.1))
theorem a6O{c:Nat}(h:(cd z).head? =some c):1<=↥z:=by
 rw[←u9];cases hq:cd z with
 |nil=>rw[hq] at h;cases h
 |cons c r=>simp
theorem b9C(z:Str):↥(tl z)<=↥z:=by rw[←u9,←u9,a3Q,bz];ac_nf
section
variable{ct:CT}{F:Nat->Option Fn}(W:PF F)
include W
theorem a0x(h1:1<=↥z)(hz:↥z<=100000):b4 ct F (n+1) 6 [.str z] h=.ok (.str (tl z)) h:=by
 rw[c9 W.f6 rfl];simp only[Q5];have hl:↥z<=SL:=by show _<=16777216;ac_nf
 have ha:↥(Str.ofString "@")=1:=by decide
 simp![biD,bi1,biL,ha,slD,ay hl,Int.cast_ofNat_Int];rw[a6l z h1];exact u7 rfl
theorem a2A(hz:↥z<=100000):b4 ct F (n+3) 7 [.str z] h=.ok (.bl (O1 z)) h:=by
 rw[c9 W.f7 rfl];simp only[Q2];have dN:Txt.startswith z "@"=decide ((cd z).head? =some 64):=W9;unfold O1
 by_cases h1:(cd z).head? =some 64
 · have dU:=a6O h1;have ht:↥(tl z)<=100000:=aR (b9C z) hz;simp![mtT,mtD,dN,h1,fO,a0x W dU hz,J0 W ht,gi];exact u7 rfl
 · simp![mtT,mtD,dN,h1,fK,gd];exact u7 rfl
theorem a7Q(hz:↥z<=100000):b4 ct F (n+4) 8 [.str z] h=.ok (.bl (V1 z)) h:=by
 rw[c9 W.f8 rfl];simp only[a2n];unfold V1;simp![J0 W hz,a2A W hz];cases b9 z with
 |true=>simp![Bool.true_or];exact u7 rfl
 |false=>simp![hV];exact u7 rfl
theorem a5W(hw:h[w]? =some (.lst (ws.map D.str)))(hl:↥ws<=SL)(hs:∀x∈ws,↥x<=100000):b4 ct F (n+5) 11 [.ref w] h=.ok (.bl (ws.all V1)) h:=
 a2s (n:=n+4) W W.f11 rfl hw hl λx hx=>a7Q W (hs x hx)
theorem a6Q{k:Nat}{H:HD}(A:HallAt h n H)(hz:↥z<=100000):b4 ct F (k+4) 30 [.ref n,.str z] h=.ok (.bl (N1 H z)) h:=by
 rw[c9 W.f30 rfl];simp only[a1h];unfold N1;simp![a2A W hz];cases hc:O1 z with
 | true=>
  have dU:1<=↥z:=by unfold O1 at hc;rw[ae] at hc;exact a6O (aw hc.1)
  simp![a0x W dU hz,A.fld6,op2,Z1 A.c6];exact u7 rfl
 |false=>
  simp![A.fld1,op2,Z1 A.c1];exact u7 rfl
theorem a5D{k:Nat}{H:HD}(A:HallAt h n H)(hw:h[w]? =some (.lst (ws.map .str)))(hl:↥ws<=SL)(hs:∀x∈ws,↥x<=100000):b4 ct F (k+5) 29 [.ref n,.ref w] h=.ok (.bl (ws.all (N1 H))) h:=by
 rw[c9 W.f29 rfl];simp only[a0p];simp![];rw[o9 (l:=ws.map D.str) (g:=[(w,.lst (ws.map D.str))]) (h1:=h) ?_ (by simp[gOk,hw]) (λd=>match d with|.str x=>.bl (N1 H x)|_=>.non) (λd=>[some d,~~~n]) ?_ (by simpa using hl)]
 · have e:(ws.map D.str).map (λd=>match d with|D.str x=>D.bl (N1 H x)|_=>D.non)=ws.map λx=>D.bl (N1 H x):=by rw[aI];rfl
   rw[e];simp![a1R];exact gc1 rfl
 · simp![M4,hw]
 · intro x hx;obtain⟨y,hy,rfl⟩:=al.mp hx;refine⟨rfl,?_⟩;simp![a6Q W A (hs y hy)]
theorem a6P{k:Nat}{H:HD}{t:Str}(A:HallAt h n H)(hl:↥H.rules<=100000):b4 ct F (k+1) 31 [.ref n,.str t] h=.ok (.bl (decide (t∈H.rules.map (·.1)))) h:=by
 rw[c9 W.f31 rfl];simp only[a1g];simp![];rw[o9 (l:=rd H.rules) (g:=[(n+8,.lst (rd H.rules))]) (h1:=h) ?_ (by simp[gOk,A.c8]) (λd=>match d with|.tup (.str x::_)=>.bl (decide (x=t))|_=>.non) (λd=>[some d,some (.str t)]) ?_ (by simp[rd];show _<=16777216;ac_nf)]
 · have e:(rd H.rules).map (λd=>match d with|D.tup (D.str x::_)=>D.bl (decide (x=t))|_=>D.non)=H.rules.map λr=>D.bl (decide (r.1=t)):=by unfold rd;rw[aI];rfl
   rw[e];simp![b6v];have e2:(H.rules.any λr=>decide (r.1=t))=decide (t∈H.rules.map (·.1)):=by rw[gG,bn,gE,al];exact⟨λ⟨r,h1,h2⟩=>⟨r,h1,aw h2⟩,λ⟨r,h1,h2⟩=>⟨r,h1,ba h2⟩⟩
   rw[e2];exact gc1 rfl
 · simp![A.fld8,M4,A.c8]
 · intro x hx;unfold rd at hx;obtain⟨y,hy,rfl⟩:=al.mp hx;refine⟨rfl,?_⟩;have:atI (D.str y.1::y.2) 0=some (D.str y.1):=by simp[atI,ixN]
   simp![ixD,this,op2,G7,eqS]
end
theorem a6T{l:AH}:(h++l)[↥h]? =l[0]? :=B6 (i:=0)
structure RP(g:AH)(n:Nat)(bI bE bN bH:List Str):Prop where
 l:g[n+1]? =some (.lst [.ref n,.ref (n+4),.ref (n+5),.ref (n+6)])
 p0:g[n]? =some (.lst (bI.map .str))
 p1:g[n+4]? =some (.lst (bE.map .str))
 p2:g[n+5]? =some (.lst (bN.map .str))
 p3:g[n+6]? =some (.lst (bH.map .str))
theorem RP.mk':RP (h++a0D ↥h bI bE bN bH) ↥h bI bE bN bH:=
 ⟨B6,a6T,B6,B6,B6⟩
theorem RP.app(r:RP g n bI bE bN bH)(t:AH):RP (g++t) n bI bE bN bH:=⟨b5 r.l,b5 r.p0,b5 r.p1,b5 r.p2,b5 r.p3⟩
theorem RP.i0(r:RP g n bI bE bN bH):ixD g (.ref (n+1)) (.int 0)=.ok (.ref n) g:=v7 0 0 rfl r.l rfl
theorem RP.i1(r:RP g n bI bE bN bH):ixD g (.ref (n+1)) (.int 1)=.ok (.ref (n+4)) g:=v7 1 1 rfl r.l rfl
theorem RP.i2(r:RP g n bI bE bN bH):ixD g (.ref (n+1)) (.int 2)=.ok (.ref (n+5)) g:=v7 2 2 rfl r.l rfl
theorem RP.i3(r:RP g n bI bE bN bH):ixD g (.ref (n+1)) (.int 3)=.ok (.ref (n+6)) g:=v7 3 3 rfl r.l rfl
variable{b:Nat}
theorem a1S{a:Nat}{ys:List D}(h1:g[a]? =some (.lst xs))(h2:g[b]? =some (.lst ys))(hl:↥xs+↥ys<=100000):M8 g (.ref a) (.ref b)=.ok (.ref ↥g) (g++[.lst (xs++ys)]):=by simp only[M8,h1,h2];rw[ay (by show _<=16777216;ac_nf)];rfl
theorem c2H{b x:Bool}:(if b=true then R.ok (D.bl x) h else R.ok (D.bl false) h)=.ok (.bl (b&&x)) h:=by cases b<;>rfl
theorem b8X:(true !=false)=true:=rfl
structure RuleForm(t f:Str)(bI bE bN bH:List Str):Prop where
 ht:b9 t=true
 hf:b9 f=true
 b:↥bI<=3
 c1:1<=↥bE
 c2:↥bE<=4
 a:↥bN<=3
 o1:1<=↥bH
 o2:↥bH<=3
 it:(bI++bE++bN).all V1=true
 to:bH.all b9=true
 len:∀y∈t::f::(bI++bE++bN++bH),↥y<=100000
variable{y:Str}
theorem a8I(h:V1 y=true):K0 y=false:=by
 cases hp:K0 y with
 |false=>rfl
 |true=>
  unfold K0 at hp;rw[bp] at hp;rcases hp with e|e
  · have e:=aw e;subst e;revert h;decide
  · have e:=aw e;subst e;revert h;decide
theorem RuleForm.pl{t f:Str}(r:RuleForm t f bI bE bN bH):∀y∈bI++bE++bN++bH,K0 y=false:=λy hy=>by
 rcases aL.mp hy with hy|hy
 · exact a8I (bm.mp r.it y hy)
 · exact a8I (by unfold V1;rw[bm.mp r.to y hy];rfl)
theorem RuleForm.sz{t f:Str}(r:RuleForm t f bI bE bN bH):↥(bI++bE++bN++bH)<=1000:=by have:=r.b;have:=r.c2;have:=r.a;have:=r.o2;simp only[aq];ac_nf
variable{sd:Str}
section
variable{ct:CT}{F:Nat->Option Fn}(W:PF F)
include W
theorem a2h{k:Nat}{t f:Str}(hw:h[w]? =some (.lst (.str x::.str t::.str f::(i7 bI bE bN bH).map .str)))(r:RuleForm t f bI bE bN bH):b4 ct F (k+6) 27 [.ref w] h=.ok (.bl true) h:=by
 rw[c9 W.f27 rfl];simp only[Q4];have e13:L6 (.str x::.str t::.str f::(i7 bI bE bN bH).map .str) (some 1) (some 3)=[.str t,.str f]:=by have:=N2 1 3 (.str x::.str t::.str f::(i7 bI bE bN bH).map .str) ∅ ⋯;exact this
 have hw1:=b5 (g:=[Cell.lst [.str t,.str f]]) hw;have hn:b4 ct F (k+5) 9 [.ref ↥h] (h++[.lst [.str t,.str f]])=.ok (.bl true) (h++[.lst [.str t,.str f]]):=by
  have:=S7 (ct:=ct) (n:=k+2) (ws:=[t,f]) W (b6 (h:=h) (c:=.lst [.str t,.str f])) (by show 2<=16777216;decide) (λy hy=>r.len y (by
   rcases aF.mp hy with rfl|hy
   · simp
   · rw[aO] at hy;subst hy;simp))
  simpa [r.ht,r.hf] using this
 have hp:=a0O (ct:=ct) (k:=k+4) W hw1 r.pl r.sz;have R:=RP.mk' (h:=h++[Cell.lst [.str t,.str f]]) (bI:=bI) (bE:=bE) (bN:=bN) (bH:=bH);generalize hn1:↥(h++[Cell.lst [.str t,.str f]])=n at hp R;generalize hg:h++[Cell.lst [.str t,.str f]]++a0D n bI bE bN bH=g at hp R;have R1:=R.app [.lst (bI.map D.str++bE.map D.str)];have R2:=R1.app [.lst (bI.map D.str++bE.map D.str++bN.map D.str)];have lb:=r.b;have lc1:=r.c1;have lc2:=r.c2;have la:=r.a;have lo1:=r.o1;have lo2:=r.o2;have a1:=a1S R.p0 R.p1 (by simp;ac_nf);have a2:=a1S (b6 (h:=g) (c:=.lst (bI.map D.str++bE.map D.str))) R1.p2 (by simp;ac_nf);have hi:b4 ct F (k+5) 11 [.ref ↥(g++[Cell.lst (bI.map D.str++bE.map D.str)])] (g++[.lst (bI.map D.str++bE.map D.str)]++[.lst (bI.map D.str++bE.map D.str++bN.map D.str)])=.ok (.bl true) (g++[.lst (bI.map D.str++bE.map D.str)]++[.lst (bI.map D.str++bE.map D.str++bN.map D.str)]):=by have:=a5W (ct:=ct) (n:=k) (ws:=bI++bE++bN) W (h:=g++[.lst (bI.map D.str++bE.map D.str)]++[.lst (bI.map D.str++bE.map D.str++bN.map D.str)]) (w:=↥(g++[Cell.lst (bI.map D.str++bE.map D.str)])) (by rw[b6];simp) (by show _<=16777216;simp;ac_nf) (λy hy=>r.len y (aE _ (aE _ (mem_append_left _ hy))));rw[r.it] at this;exact this
 have ht:b4 ct F (k+5) 9 [.ref (n+6)] (g++[.lst (bI.map D.str++bE.map D.str)]++[.lst (bI.map D.str++bE.map D.str++bN.map D.str)])=.ok (.bl true) (g++[.lst (bI.map D.str++bE.map D.str)]++[.lst (bI.map D.str++bE.map D.str++bN.map D.str)]):=by have:=S7 (ct:=ct) (n:=k+2) (ws:=bH) W R2.p3 (by show _<=16777216;ac_nf) (λy hy=>r.len y (by simp[hy]));rw[r.to] at this;exact this
 have d1:decide ((3:Int)<(↥bI:Int))=false:=bx nofun;have d2:decide ((3:Int)<(↥bN:Int))=false:=bx nofun;have d3:decide ((1:Int)<=(↥bE:Int))=true:=ba nofun;have d4:decide ((↥bE:Int)<=4)=true:=ba nofun;have d5:decide ((1:Int)<=(↥bH:Int))=true:=ba nofun;have d6:decide ((↥bH:Int)<=3)=true:=ba nofun;have nn:∀m:Nat,decide (D.ref m=D.non)=false:=λm=>bx (λz=>nomatch z);simp![F0 hw,e13,hn,fL,hp,nn,R.i0,R.i1,R.i2,R.i3,k7 R.p0,k7 R.p1,k7 R.p2,k7 R.p3,aa,op2,G9,d1,d2,d3,d4,d5,d6,a1,a2,R1.i2,R2.i3,hi,ht];rw[←hg];simp only[aA];exact gc1 rfl
theorem a4W{k:Nat}{H:HD}{t f:Str}(A:HallAt h n H)(hr:↥H.rules<=100000)(hw:h[w]? =some (.lst (.str x::.str t::.str f::(i7 bI bE bN bH).map .str)))(r:RuleForm t f bI bE bN bH):
 ∃h',b4 ct F (k+7) 26 [.ref n,.ref w] h=.ok (V4 (due (decide (t∈H.rules.map (·.1))) (decide (f∈H.features.map (·.1))&&((bI++bE++bN).all (N1 H)&&bH.all λx=>decide (x∈H.shapes.map (·.1)))) (decide ((30:Int)<=(↥H.rules:Int))))) h'/\Fr n h h'∧
  HallAt h' n (if(due (decide (t∈H.rules.map (·.1))) (decide (f∈H.features.map (·.1))&&((bI++bE++bN).all (N1 H)&&bH.all λx=>decide (x∈H.shapes.map (·.1)))) (decide ((30:Int)<=(↥H.rules:Int)))).isNone then{H with rules:=H.rules++[(t,[.str f,.tup (bI.map .str),.tup (bE.map .str),.tup (bN.map .str),.tup (bH.map .str)])]} else H):=by
 rw[c9 W.f26 rfl];simp only[a0l];rw[gc0];have hp:=a0O (ct:=ct) (k:=k+5) W hw r.pl r.sz;have R:=RP.mk' (h:=h) (bI:=bI) (bE:=bE) (bN:=bN) (bH:=bH);have A0:=A.app (a0D ↥h bI bE bN bH);have fr0:=Fr.app n h (a0D ↥h bI bE bN bH);generalize ↥h=m at hp R A0 fr0;generalize h++a0D m bI bE bN bH=g at hp R A0 fr0;have R1:=R.app [.lst (bI.map D.str++bE.map D.str)];have R2:=R1.app [.lst (bI.map D.str++bE.map D.str++bN.map D.str)];have A2:=(A0.app [.lst (bI.map D.str++bE.map D.str)]).app [.lst (bI.map D.str++bE.map D.str++bN.map D.str)];have lb:=r.b;have lc2:=r.c2;have la:=r.a;have lo2:=r.o2;have a1:=a1S R.p0 R.p1 (by simp;ac_nf);have a2:=a1S (b6 (h:=g) (c:=.lst (bI.map D.str++bE.map D.str))) R1.p2 (by simp;ac_nf);have hi:=a5D (ct:=ct) (k:=k+1) (ws:=bI++bE++bN) W A2 (w:=↥(g++[Cell.lst (bI.map D.str++bE.map D.str)])) (by rw[b6];simp) (by show _<=16777216;simp;ac_nf) (λy hy=>r.len y (aE _ (aE _ (mem_append_left _ hy))));have hs:=V2 (ct:=ct) (k:=k+5) W A2 R2.p3 (by show _<=16777216;ac_nf);have hq:=a6P (ct:=ct) (k:=k+5) (t:=t) W A2 hr;have fr2:Fr n h (g++[.lst (bI.map D.str++bE.map D.str)]++[.lst (bI.map D.str++bE.map D.str++bN.map D.str)]):=fr0.trans ((Fr.app n g _).trans (Fr.app n _ _));have lr:biD .len (g++[.lst (bI.map D.str++bE.map D.str)]++[.lst (bI.map D.str++bE.map D.str++bN.map D.str)]) [.ref (n+8)]=.ok (.int ↥H.rules) (g++[.lst (bI.map D.str++bE.map D.str)]++[.lst (bI.map D.str++bE.map D.str++bN.map D.str)]):=by rw[k7 A2.c8];simp[rd]
 generalize hG:g++[Cell.lst (bI.map D.str++bE.map D.str)]++[.lst (bI.map D.str++bE.map D.str++bN.map D.str)]=G at a2 hi hs hq lr A2 R2 fr2;have hmt:mtT .append G (.ref (n+8))=true:=by
  have:rdL G (n+8)=some (rd H.rules):=by unfold rdL;rw[A2.c8]
  simp only[mtT,this,Option.isSome_some]
 have hap:∀d,mtD .append G (.ref (n+8)) [d]=.ok .non (G.set (n+8) (.lst (rd H.rules++[d]))):=λd=>by simp only[mtD,A2.c8];rw[ay (by show(rd H.rules).length<16777216;simp[rd];ac_nf)]
 simp![a2h W hw r,fL,v7 1 1 rfl hw rfl,v7 2 2 rfl hw rfl,hp,R.i0,R.i1,op2,a1,R1.i2,a2,A2.fld7,Z1 A2.c7,hi,R2.i3,hs,c2H,hq,A2.fld8,lr,G9,D7 W,W7];generalize hd:due (decide (t∈H.rules.map (·.1))) (decide (f∈H.features.map (·.1))&&((bI++bE++bN).all (N1 H)&&bH.all λx=>decide (x∈H.shapes.map (·.1)))) (decide ((30:Int)<=(↥H.rules:Int)))=du;cases du with
 |some f=>
  simp![Option.isNone_some,V4];exact⟨G,rfl,fr2,A2⟩
 |none=>
  simp![Option.isNone_none,A2.fld8,hmt,R2.i0,R2.i1,R2.i2,R2.i3,N6 R2.p0,N6 R2.p1,N6 R2.p2,N6 R2.p3,hap,V4];refine⟨_,rfl,fr2.trans (Fr.set nofun nofun),?_⟩;have:=A2.s8 (H.rules++[(t,[.str f,.tup (bI.map .str),.tup (bE.map .str),.tup (bN.map .str),.tup (bH.map .str)])]);rw[show rd (H.rules++[(t,[.str f,.tup (bI.map .str),.tup (bE.map .str),.tup (bN.map .str),.tup (bH.map .str)])])=rd H.rules++[.tup (.str t::[.str f,.tup (bI.map .str),.tup (bE.map .str),.tup (bN.map .str),.tup (bH.map .str)])] by simp[rd]] at this;exact this
theorem a5l{k:Nat}{a b:Str}{i j:Int}(hw:h[w]? =some (.lst [.str a,.str b]))(ha:a0N a=some i)(hb:a0N b=some j):b4 ct F (k+1) 16 [.ref w] h=.ok (.tup [.int i,.int j]) h:=by obtain⟨a1,a2⟩:=a2P ha;obtain⟨b1,b2⟩:=a2P hb;rw[c9 W.f16 rfl];simp only[a2k];simp![v7 0 0 rfl hw rfl,v7 1 1 rfl hw rfl,a7U a2 a1,a7U b2 b1];exact u7 rfl
theorem a1v{k:Nat}{a:Str}{c:Int}(hw:h[w]? =some (.lst (.str x::.str a::.str sd::ws.map .str)))(ha:b9 a=true)(eN:↥a<=100000)(hs:inD (.str sd) [.str "above",.str "below"]=true)(hc:c=↥ws)(hn:ws.all a4q=true)(hwl:∀y∈ws,↥y<=100000)(hl:↥ws<=100000):b4 ct F (k+5) 18 [.ref w,.int c] h=.ok (.bl true) h:=by subst hc;rw[c9 W.f18 rfl];simp only[Q3];have e3:∀xs,L6 xs (some 3) none=xs.drop 3:=M3 3;have hg:=a4k (ct:=ct) (n:=k) (ws:=ws) W (b6 (h:=h) (c:=.lst (ws.map .str))) (by show _<=16777216;ac_nf) hwl;rw[hn] at hg;have hd:decide (((↥ws+1+1+1:Nat):Int)=3+(↥ws:Int))=true:=ba nofun;simp![k7 hw,aa,op2,M8,a2I,eqS,hd,fL,v7 1 1 rfl hw rfl,v7 2 2 rfl hw rfl,J0 W eN,ha,hs,z8,all_cons,all_nil,gA,and_self,b8X,F0 hw,e3,drop_succ_cons,drop_zero,hg];exact gc1 rfl
theorem a4d{k:Nat}{H:HD}{a b c:Str}{i j:Int}(A:HallAt h n H)(hw:h[w]? =some (.lst [.str x,.str a,.str sd,.str b,.str c]))(ha:b9 a=true)(eN:↥a<=100000)(hs:inD (.str sd) [.str "above",.str "below"]=true)(hb:a0N b=some i)(hc:a0N c=some j)(hl:↥H.points<=100000):
 ∃h',b4 ct F (k+6) 20 [.ref n,.ref w] h=.ok (V4 (due (decide ((a,sd)∈H.points.map (·.1))) (decide (a∈H.shapes.map (·.1))) false)) h'/\Fr n h h'∧
  HallAt h' n (if(due (decide ((a,sd)∈H.points.map (·.1))) (decide (a∈H.shapes.map (·.1))) false).isNone then{H with points:=H.points++[((a,sd),.tup [.int i,.int j])]} else H):=by
 obtain⟨_,b2⟩:=a2P hb;obtain⟨_,c2⟩:=a2P hc;have hf:b4 ct F (k+5) 18 [.ref w,.int 2] h=.ok (.bl true) h:=a1v (ws:=[b,c]) W hw ha eN hs rfl (by simp[a6m,hb,hc]) (λy hy=>by
  rcases aF.mp hy with rfl|hy
  · ac_nf
  · rw[aO] at hy;subst hy;ac_nf) ⋯
 rw[c9 W.f20 rfl];simp only[Y1];rw[gc0];simp![hf,fL,v7 1 1 rfl hw rfl,v7 2 2 rfl hw rfl,op2,A.fld3,c0B A.c3,A.fld1,Z1 A.c1,D7 W,W7];generalize hd:due (decide ((a,sd)∈H.points.map (·.1))) (decide (a∈H.shapes.map (·.1))) false=du;cases du with
 |some f=>
  simp![Option.isNone_some,V4];exact⟨h,rfl,Fr.refl n h,A⟩
 |none=>
  obtain⟨d1,_,_⟩:=a0w hd;have e35:L6 [.str x,.str a,.str sd,.str b,.str c] (some 3) (some 5)=[.str b,.str c]:=N2 3 5 _ ∅ ⋯;have A1:=A.app [.lst [.str b,.str c]];simp![Option.isNone_none,F0 hw,e35,a5l W (b6 (h:=h)) hb hc,A1.fld3,a9H A1.c3 (gf d1) (show _<16777216 by ac_nf),V4];exact⟨_,rfl,(Fr.app n h _).trans (Fr.set nofun nofun),A1.s3 _⟩
end
variable{text:Str}
section
variable{ct:CT}{F:Nat->Option Fn}
def Z2(ct:CT)(F:Nat->Option Fn)(d:Nat)(H:HD)(ws:List Str)(du:Option Str)(H':HD):Prop:=∀(h:AH) (n w:Nat),HallAt h n H->h[w]? =some (.lst (ws.map .str))->∃h',b4 ct F d 13 [.ref n,.ref w] h=.ok (V4 du) h'/\Fr n h h'/\HallAt h' n H'
inductive Reads(ct:CT)(F:Nat->Option Fn)(d:Nat):HD->List Str->HD->Prop
 |nil (H:HD):Reads ct F d H [] H
 |take {H H1 H':HD} {row:Str} {d9:List Str} (hl:row.length<=100000) (hw:N4 row≠[]) (k:Z2 ct F d H (N4 row) none H1) (t:Reads ct F d H1 d9 H'):Reads ct F d H (row::d9) H'
variable(W:PF F)
include W
theorem b5o{d:Nat}{R:List Str}{H H':HD}{rows:List Str}(q:Reads ct F (d+1) H rows H'):∀(p:Nat) (h:AH) (e2 e3 e4 e5:Option D),HallAt h n H->h[n+9]? =some (.lst (R.map .str))→
 ∃h',Fr n h h'/\HallAt h' n H'/\∃a2 a3 a4 a5,E1 [(n+9,.lst (R.map .str))] (.tp (.nm 2>=>.nm 3>=>.nil)) (exs ct (b4 ct F (d+1)) rhB) (t9 p (rows.map D.str)) [some (.str text),~~~n,e2,e3,e4,e5] h=.ok (.nx [some (.str text),~~~n,a2,a3,a4,a5]) h':=by
 have step:∀{h:AH} {e2 e3 e4 e5:Option D} {row:Str} {d9:List D} {p:Nat},h[n+9]? =some (.lst (R.map .str))→
  E1 [(n+9,.lst (R.map .str))] (.tp (.nm 2>=>.nm 3>=>.nil)) (exs ct (b4 ct F (d+1)) rhB) (.tup [.int p,.str row]::d9) [some (.str text),~~~n,e2,e3,e4,e5] h=
  (exs ct (b4 ct F (d+1)) rhB [some (.str text),~~~n,some (.int p),some (.str row),e4,e5] h).bind λo h'=>match o with
   |.nx env''=>E1 [(n+9,.lst (R.map .str))] (.tp (.nm 2>=>.nm 3>=>.nil)) (exs ct (b4 ct F (d+1)) rhB) d9 env'' h'
   |.rt d=>.ok (.rt d) h':=fun{h e2 e3 e4 e5 row d9 p} hs=>by
  rw[E1,ay (by simp[gOk,hs])];rfl
 induction q with
 |nil H=>
  intro p h e2 e3 e4 e5 A hs;refine⟨h,Fr.refl n h,A,e2,e3,e4,e5,?_⟩;rw[map_nil,t9,E1,ay (by simp[gOk,hs])]
 | @take H H1 H' row d9 hl hw k t ih=>
  intro p h e2 e3 e4 e5 A hs;obtain⟨h1,k1,k2,k3⟩:=k (h++[.lst ((N4 row).map .str)]) n ↥h (A.app _) b6;have hs1:h1[n+9]? =some (.lst (R.map .str)):=by have hs0:=b5 (g:=[Cell.lst ((N4 row).map .str)]) hs;rw[k2.get (n+9) (ac.mp hs0).1 nofun];exact hs0
  obtain⟨h',f1,A',e2',e3',e4',fq,m⟩:=ih (p+1) h1 (some (.int p)) (some (.str row)) (~~~↥h) (some .non) k3 hs1;have hp:decide ((0:Int)<(↥((N4 row).map D.str):Int))=true:=ba (by
   cases hq:N4 row with
   |nil=>exact absurd hq hw
   |cons a b=>simp)
  have e:exs ct (b4 ct F (d+1)) rhB [some (.str text),~~~n,some (.int p),some (.str row),e4,e5] h=.ok (.nx [some (.str text),~~~n,some (.int p),some (.str row),~~~↥h,some .non]) h1:=by simp only[rhB];simp![a6b W hl,k7 b6,op2,G9,hp,k1,V4,fO,fL]
  refine⟨h',((Fr.app n h _).trans k2).trans f1,A',e2',e3',e4',fq,?_⟩;rw[map_cons,t9,step hs,e,b8];exact m
theorem b5K(f:Fr ↥h h h'):h'.take ↥h=h:=by
 refine ext_getElem? λi=>?_
 by_cases hi:i<↥h
 · rw[bA hi,f.get i hi (.inl hi)]
 · rw[aW (by simp;ac_nf),aW nofun]
theorem a5i{d:Nat}{H':HD}(dC:ct.init 6=32)(ht:↥text<=10000000)(q:Reads ct F (d+1) {} (Txt.split text "\n") H'):
 ∃h',h'.take ↥h=h/\HallAt h' ↥h H'/\b4 ct F (d+2) 12 [.str text] h=.ok (.ref ↥h) h':=by
 rw[c9 W.f12 rfl];have hf:a0n=⟨1,6,0,(.set 1 (.mk 6 .nil)>=>.for (.tp (.nm 2>=>.nm 3>=>.nil)) (.enum (.mt .split (.v 0) (.o (.s "\n")))) rhB>=>.o (.ret (.v 1)))⟩:=rfl;simp only[hf];rw[gc0];have A0:HallAt (h++[.obj 6 (a2i ↥h),.dict [],.dict [],.dict [],.dict [],.lst [],.dict [],.dict [],.lst []]) ↥h {}:=⟨a6T,B6,B6,B6,B6,B6,B6,B6,B6⟩;have bR:↥(h++[Cell.obj 6 (a2i ↥h),.dict [],.dict [],.dict [],.dict [],.lst [],.dict [],.dict [],.lst []])=↥h+9:=by simp
 have hnew:=b2C (ct:=ct) (n:=d) (h:=h) W;generalize hg:h++[Cell.obj 6 (a2i ↥h),.dict [],.dict [],.dict [],.dict [],.lst [],.dict [],.dict [],.lst []]=g at*
 have A1:=A0.app [.lst ((Txt.split text "\n").map .str)];have hs:(g++[Cell.lst ((Txt.split text "\n").map .str)])[↥h+9]? =some (.lst ((Txt.split text "\n").map .str)):=by rw[←bR];exact b6
 obtain⟨h',f1,A',e2,e3,e4,e5,m⟩:=b5o (d:=d) (R:=Txt.split text "\n") (text:=text) W q 0 (g++[.lst ((Txt.split text "\n").map .str)]) none none none none A1 hs;have fr:Fr ↥h h h':=by refine Fr.trans ?_ f1;rw[←hg];exact(Fr.app _ h _).trans (Fr.app _ _ _)
 refine⟨h',b5K W fr,A',?_⟩;have eX:mtD .split g (.str text) [.str "\n"]=.ok (.ref ↥g) (g++[.lst ((Txt.split text "\n").map .str)]):=by simp only[mtD];rw[ay ⟨by decide,by show _<=16777216;ac_nf⟩];rfl
 have hen:T4 (g++[.lst ((Txt.split text "\n").map .str)]) (.ref ↥g)=.ok (t9 0 ((Txt.split text "\n").map .str),[(↥h+9,.lst ((Txt.split text "\n").map .str))]) (g++[.lst ((Txt.split text "\n").map .str)]):=by simp only[T4,bR,hs]
 simp![dC,hnew,mtT,eX,hen,m]
end
def dg(n:Nat):Str:=Str.ofString (toString (n:Int))
def lt(i:Nat):Nat:=97+i
theorem b3R:∀i:Fin 26,(cd abc)[i.val]? =some (lt i.val)/\Q0 (lt i.val)=true:=by decide+kernel
def nm(stem:Str)(k:Nat):Str:=(⟨#[lt (7*k%26)]⟩++stem)++dg (k*13%61)
variable{stem:Str}
theorem a3B(h:b9 z=true):1<=↥z/\↥z<=12:=by unfold b9 at h;rw[ae,ae] at h;exact⟨aw h.1.1,aw h.1.2⟩
theorem a2c(h:b9 z=true){c:Nat}(hc:Q0 c=false):c∉cd z:=by unfold b9 at h;rw[ae] at h;intro hm;have:=bm.mp h.2 c hm;rw[hc] at this;cases this
section
variable{ct:CT}{F:Nat->Option Fn}(W:PF F)
include W
section
variable{k:Nat}{d9:List D}
theorem b0M(hw:h[w]? =some (.lst (.str "shape"::d9))):b4 ct F (k+1) 13 [.ref n,.ref w] h=b4 ct F k 17 [.ref n,.ref w] h:=by rw[c9 W.f13 rfl];simp only[F6];rw[gc0];simp![v7 0 0 rfl hw rfl,op2,G7,eqS,fO,fK];generalize b4 ct F k 17 [.ref n,.ref w] h=r;cases r<;>simp![]
theorem b0N(hw:h[w]? =some (.lst (.str "point"::d9))):b4 ct F (k+1) 13 [.ref n,.ref w] h=b4 ct F k 20 [.ref n,.ref w] h:=by rw[c9 W.f13 rfl];simp only[F6];rw[gc0];simp![v7 0 0 rfl hw rfl,op2,G7,eqS,fO,fK];generalize b4 ct F k 20 [.ref n,.ref w] h=r;cases r<;>simp![]
theorem a9C(hw:h[w]? =some (.lst (.str "letter"::d9))):b4 ct F (k+1) 13 [.ref n,.ref w] h=b4 ct F k 22 [.ref n,.ref w] h:=by rw[c9 W.f13 rfl];simp only[F6];rw[gc0];simp![v7 0 0 rfl hw rfl,op2,G7,eqS,fO,fK];generalize b4 ct F k 22 [.ref n,.ref w] h=r;cases r<;>simp![]
theorem b0O(hw:h[w]? =some (.lst (.str "class"::d9))):b4 ct F (k+1) 13 [.ref n,.ref w] h=b4 ct F k 24 [.ref n,.ref w] h:=by rw[c9 W.f13 rfl];simp only[F6];rw[gc0];simp![v7 0 0 rfl hw rfl,op2,G7,eqS,fO,fK];generalize b4 ct F k 24 [.ref n,.ref w] h=r;cases r<;>simp![]
theorem a7w(hw:h[w]? =some (.lst (.str "feature"::d9))):b4 ct F (k+1) 13 [.ref n,.ref w] h=b4 ct F k 25 [.ref n,.ref w] h:=by rw[c9 W.f13 rfl];simp only[F6];rw[gc0];simp![v7 0 0 rfl hw rfl,op2,G7,eqS,fO,fK];generalize b4 ct F k 25 [.ref n,.ref w] h=r;cases r<;>simp![]
theorem b4i(hw:h[w]? =some (.lst (.str "rule"::d9))):b4 ct F (k+1) 13 [.ref n,.ref w] h=b4 ct F k 26 [.ref n,.ref w] h:=by rw[c9 W.f13 rfl];simp only[F6];rw[gc0];simp![v7 0 0 rfl hw rfl,op2,G7,eqS,fO,fK];generalize b4 ct F k 26 [.ref n,.ref w] h=r;cases r<;>simp![]
end
def c1t{α:Type}(o:Option Str)(a b:α):α:=match o with
 |none=>a
 |some _=>b
variable{d:Nat}{H:HD}
theorem b0R{a b:Str}{v:Int}(ha:b9 a=true)(hb:W0 b=some v):Z2 ct F (d+9) H [("shape":Str),a,b] (due (decide (a∈H.shapes.map (·.1))) true (decide ((60:Int)<=(↥H.shapes:Int))))
 (c1t (due (decide (a∈H.shapes.map (·.1))) true (decide ((60:Int)<=(↥H.shapes:Int)))) {H with shapes:=H.shapes++[(a,.int v)]} H):=by
 intro h n w A hw;have:=a4c (ct:=ct) (k:=d+5) W A hw ha (by have:=a3B ha;ac_nf) hb;rw[b0M W hw,this];generalize due (decide (a∈H.shapes.map (·.1))) true (decide ((60:Int)<=(↥H.shapes:Int)))=du;cases du with
 |none=>exact⟨_,rfl,Fr.set nofun nofun,A.s1 _⟩
 |some f=>exact⟨_,rfl,Fr.refl n h,A⟩
theorem a7x{a b:Str}(ha:b9 a=true)(hb:b="on"∨b="off"):Z2 ct F (d+9) H [("feature":Str),a,b] (due (decide (a∈H.features.map (·.1))) true (decide ((10:Int)<=(↥H.features:Int))))
 (c1t (due (decide (a∈H.features.map (·.1))) true (decide ((10:Int)<=(↥H.features:Int)))) {H with features:=H.features++[(a,.bl (decide (b="on")))]} H):=by
 intro h n w A hw;have:=a2G (ct:=ct) (k:=d+5) W A hw ha (by have:=a3B ha;ac_nf) hb;rw[a7w W hw,this];generalize due (decide (a∈H.features.map (·.1))) true (decide ((10:Int)<=(↥H.features:Int)))=du;cases du with
 |none=>exact⟨_,rfl,Fr.set nofun nofun,A.s7 _⟩
 |some f=>exact⟨_,rfl,Fr.refl n h,A⟩
theorem a8J{s:Str}(hs:b9 s=true):O1 s=false:=by
 unfold O1;have:(cd s).head?≠some 64:=λe=>by
  refine a2c hs (c:=64) ∅ ?_;cases hq:cd s with
  |nil=>rw[hq] at e;cases e
  |cons c r=>rw[hq] at e;injection e with e;subst e;exact aY
 rw[bx this];rfl
end
theorem l8(x y:Str):↥(x++y)=↥x+↥y:=by rw[←u9,E9,aq,u9,u9]
theorem b0T{i:Int}(h: -1000000000000<=i/\i<=1000000000000):a2O i=true:=by
 cases i with
 |ofNat n=>
  refine Nat.ble_eq_true_of_le ?_;have:(n:Int)<=1000000000000:=h.2;ac_nf
 |negSucc n=>
  refine Nat.ble_eq_true_of_le ?_;have:=h.1;rw[Int.negSucc_eq] at this;ac_nf
theorem a0C(h:n<=1000000):a3i (n:Int)=true:=Nat.ble_eq_true_of_le nofun
theorem M9{i j:Int}(hj: -1000000000000<=j/\j<=1000000000000):O3 h (.int i) (.int j)=.ok (.int (i*j)) h:=by simp only[O3];rw[ay (by rw[b0T hj,Bool.or_true])]
theorem a5s{i j:Int}(hj:0<j):p8 h (.int i) (.int j)=.ok (.int (i%j)) h:=by simp only[p8];rw[ay hj]
theorem b3y{i j:Int}(hj:0<j)(h2:j<1073741824):u6 h (.int i) (.int j)=.ok (.int (i/j)) h:=by simp only[u6];rw[ay ⟨hj,h2⟩]
theorem o0{i j:Int}:M8 h (.int i) (.int j)=.ok (.int (i+j)) h:=rfl
theorem u0(hl:↥x+↥y<=100000):M8 h (.str x) (.str y)=.ok (.str (x++y)) h:=by simp only[M8];rw[ay (by show _<=16777216;ac_nf)]
theorem C1(b:Nat)(hb:0<b){a:Nat}:p8 h ⇑a ⇑b=.ok ⇑(a%b) h:=by rw[a5s nofun];congr 2
theorem J9(b:Nat)(hb:0<b)(h2:b<1073741824){a:Nat}:u6 h ⇑a ⇑b=.ok ⇑(a/b) h:=by rw[b3y nofun nofun];congr 2
def mx(c j:Int):Int:=(c%2305843009213693951+1)*(j*j+48271)*40692%2147483399
theorem b7Y(c j:Int):0<=mx c j:=Int.emod_nonneg _ ∅
variable{sep:Str}{ts:List Str}
theorem a5z(h:(ts.map (·.length)).sum+↥ts*↥sep<=1000000):JoinOk sep ts=true:=by
 unfold JoinOk;rw[StrLaws.joinTotal];simp only[tooLong,Bool.not_eq_true',decide_eq_false_iff_not];have:sizeLine=16777216:=by decide
 ac_nf
theorem a7o:∀ps:List Str,cd (Str.join "" ps)=(ps.map cd).flatten
 |[]=>rfl
 |[x]=>by show cd x=_;simp
 |x::y::r=>by show cd (x++Str.ofString ""++Str.join "" (y::r))=_;rw[E9,E9,a7o (y::r),show cd (Str.ofString "")=[] from rfl,aZ];rfl
theorem b8U(n:Nat)(x:Str):cd (G2 n x)=(List.replicate n (cd x)).flatten:=by show(G2 n x).cps.toList=_;unfold G2;rw[foldl_app'];simp[cd]
where
  foldl_app' {x:Array Nat}:∀{n:Nat} {a:Array Nat},((List.replicate n x).foldl (· ++ ·) a).toList=a.toList++(List.replicate n x.toList).flatten
    |0,a=>by simp
    |n+1,a=>by rw[replicate_succ,foldl_cons,foldl_app',replicate_succ,List.flatten_cons];simp
theorem a9q(ts:List Str):cd (Txt.join "" ts)=(ts.map cd).flatten:=by show cd (glued "" _)=_;rw[gI];exact a7o ts
theorem b9Q{p:Nat}(h:p<=↥z):cd (Txt.slice z none (some (p:Int)))=(cd z).take p:=by have e:Txt.slice z none (some (p:Int))=⟨((z.cps.toList.drop (0:Int).toNat).take ((p:Int)-0).toNat).toArray⟩:=beq_iff_eq.mp (PyProof.Rows.slice_closes_to ⟨by ac_nf,by have:=u9 z;show(p:Int)<=(↥(cd z):Int);ac_nf⟩);rw[e];simp[cd]
theorem b4t{p:Nat}(h:p<=↥z):cd (Txt.slice z (some (p:Int)) none)=(cd z).drop p:=by rw[PyProof.Rows.slice_from_eq (b:=↥z) nofun nofun rfl];show((cd z).drop ((p:Int).toNat)).take (((↥z:Int)-p).toNat)=_;rw[Int.toNat_natCast];exact bg (by rw[bz,u9];ac_nf)
variable{c:CF}{env:u5}{bG:u5}{f:Nat}{ns:List Int}
section
variable{ct:CT}{F:Nat->Option Fn}
theorem seq{s:S}{T:Ss}(e:ex ct c s env h=.ok (.nx bG) h'):exs ct c (.cons s T) env h=exs ct c T bG h':=by rw[J3,e,b8]
theorem U4{k:Nat}(hF:F f=some E8)(hr:h[n]? =some (.rol (ns.map .int))):∃a,b4 ct F (k+1) f [.ref n,.int (j:Int)] h=.ok (.int a) h:=by
 rw[c9 hF rfl];simp only[E8];have rl:rdL h n=some (ns.map .int):=by unfold rdL;rw[hr]
 have le:biD .len h [.ref n]=.ok ⇑↥ns h:=by simp only[biD,bi1,biL,hr,rl,aa]
 by_cases lt:(j:Int)<(↥ns:Int)
 · have lt':j<↥ns:=by ac_nf
   have ix:ixD h (.ref n) ⇑j=.ok (.int ns[j]) h:=by
    have:atI (ns.map D.int) (j:Int)=some (.int ns[j]):=by
     show(ixN ↥(ns.map D.int) (j:Int)).bind (λj=>(ns.map D.int)[j]?)=_;have e:ixN ↥(ns.map D.int) (j:Int)=some j:=by unfold ixN;rw[aa,ay nofun,ay nofun];simp
     rw[e];show(ns.map D.int)[j]? =_;rw[ak,ai lt'];rfl
    simp only[ixD,hr,this]
   refine⟨ns[j],?_⟩;simp![le,op2,G9,lt,fO,ix];exact u7 rfl
 · refine⟨0,?_⟩;simp![le,op2,G9,lt,fK];exact u7 rfl
theorem C2{k:Nat}{c j:Int}(hF:F f=some o6)(hj:0<=j/\j<=1000):∃M:Nat,b4 ct F (k+1) f [.int c,.int j] h=.ok ⇑M h:=by
 obtain⟨M,hM⟩:=Int.eq_ofNat_of_zero_le (b7Y c j);refine⟨M,?_⟩;rw[←hM,c9 hF rfl];simp only[o6];have hjj:0<=j*j/\j*j<=1000000:=⟨Int.mul_nonneg hj.1 hj.1,by have:=Int.mul_le_mul hj.2 hj.2 hj.1 ∅;ac_nf⟩
 simp![op2,a5s (h:=h) (i:=c) (j:=2305843009213693951) ∅,M8,M9 (h:=h) (i:=j) (j:=j) nofun,M9 (h:=h) (i:=c%2305843009213693951+1) (j:=j*j+48271) nofun,M9 (h:=h) (i:=(c%2305843009213693951+1)*(j*j+48271)) (j:=40692) ∅,a5s (h:=h) (i:=(c%2305843009213693951+1)*(j*j+48271)*40692) (j:=2147483399) ∅];exact u7 rfl
end
variable{α:Type}
theorem T9{a:Option α}:(some a).join=a:=rfl
theorem a9s:abc.length=26:=by decide+kernel
theorem b9e:abc.length<=SL:=by rw[a9s];show 26<=16777216;ac_nf
theorem b8c{a:Nat}(h:lt a=lt b):a=b:=by unfold lt at h;ac_nf
theorem a8N{i:Nat}(h:i<26):Q0 (lt i)=true:=(b3R ⟨i,h⟩).2
def nmA(f m i:Nat):Str:=G2 (m-i) ⟨#[lt f]⟩
theorem a8n(f m i:Nat):cd (nmA f m i)=List.replicate (m-i) (lt f):=by unfold nmA;rw[b8U];show(List.replicate _ [lt f]).flatten=_;simp
noncomputable def nmB(stem:Str)(p f i:Nat):Str:=(Txt.slice stem none (some (p:Int))++⟨#[lt ((f+5*i)%26)]⟩)++Txt.slice stem (some (p:Int)) none
theorem a5P{p i:Nat}(h:p<=↥stem):cd (nmB stem p f i)=(cd stem).take p++lt ((f+5*i)%26)::(cd stem).drop p:=by unfold nmB;rw[E9,E9,b9Q h,b4t h];show(cd stem).take p++[lt ((f+5*i)%26)]++(cd stem).drop p=_;simp
theorem a0G{α β:Type}(f:α->β):∀{l:List α},l.Nodup->(∀a∈l,∀b∈l,f a=f b->a=b)->(l.map f).Nodup
 |[],_,_=>nodup_nil
 |x::r,h,hi=>by have h:=aV.mp h;rw[map_cons];refine aV.mpr ⟨λm=>?_,a0G f h.2 λa ha b hb=>hi a (.tail _ ha) b (.tail _ hb)⟩;obtain⟨y,hy,e⟩:=al.mp m;rw[hi y (.tail _ hy) x (.head _) e] at hy;exact h.1 hy
structure Nms(ns:List Str)(m:Nat):Prop where
 len:↥ns=m
 nd:ns.Nodup
 ok:∀n∈ns,b9 n=true
theorem c2B{m:Nat}(hf:f<26)(hm:m<13):Nms ((List.range m).map (nmA f m)) m:=by
 refine⟨by simp,a0G _ List.nodup_range λa ha b hb e=>?_,λn hn=>?_⟩
 · have ha:=aN.mp ha;have hb:=aN.mp hb;have e:=fM (λz=>↥(cd z)) e;simp only[a8n,bj] at e;ac_nf
 · obtain⟨i,hi,rfl⟩:=al.mp hn;have hi:=aN.mp hi;have l:↥(nmA f m i)=m-i:=by rw[←u9,a8n,bj]
   unfold b9;rw[l,a8n];rw[ba (show 1<=m-i by ac_nf),ba (show m-i<=12 by ac_nf)];simp only[gi];refine bm.mpr λc hc=>?_;rw[(List.mem_replicate.mp hc).2];exact a8N hf
theorem c2A{p m:Nat}(hs:↥stem<=11)(dN:(cd stem).all Q0=true)(hp:p<=↥stem)(hm:m<=26):Nms ((List.range m).map (nmB stem p f)) m:=by
 refine⟨by simp,a0G _ List.nodup_range λa ha b hb e=>?_,λn hn=>?_⟩
 · have ha:=aN.mp ha;have hb:=aN.mp hb;have e:=fM cd e;rw[a5P hp,a5P hp] at e;have e:=List.append_cancel_left e;injection e with e _;have e:=b8c e;ac_nf
 · obtain⟨i,hi,rfl⟩:=al.mp hn;have lt':↥((cd stem).take p++lt ((f+5*i)%26)::(cd stem).drop p)=↥stem+1:=by rw[aq,length_cons,aM,bz,u9];ac_nf
   have l:↥(nmB stem p f i)=↥stem+1:=by rw[←u9,a5P hp,lt']
   unfold b9;rw[l,a5P hp,ba (show 1<=↥stem+1 by ac_nf),ba (show ↥stem+1<=12 by ac_nf)];simp only[gi];refine bm.mpr λc hc=>?_;rcases aL.mp hc with q|q
   · exact bm.mp dN c (List.mem_of_mem_take q)
   · rcases aF.mp q with q|q
     · rw[q];exact a8N (fJ _ ∅)
     · exact bm.mp dN c (mem_of_mem_drop q)
variable{e:E}{a:E}
section
variable{ct:CT}{F:Nat->Option Fn}
theorem a0V{m:Nat}(hm:m<=1000000):a4g h (.int 0) ⇑m=.ok ((List.range m).map λi=>.int ((0:Int)+(i:Nat)),[]) h:=by simp only[a4g];rw[ay ⟨by decide,a0C hm⟩];show R.ok (a6u 0 (((m:Int)-0).toNat),[]) h=_;rw[Int.sub_zero,Int.toNat_natCast];rfl
theorem W8{fr:List Nat}{m:Nat}(f:Nat->D)(ha:ev ct c a env h=.ok ⇑m h)(hm:m<=1000000)
 (hx:∀i,i<m->ev ct c e (i⁻¹::fr.map λj=>(env[j]?).join) h=.ok (f i) h):ev ct c (.comp (.nm 0) (.rng1 a) 1 fr .yes e) env h=.ok (.ref ↥h) (h++[.lst ((List.range m).map f)]):=by
 rw[o9 (l:=(List.range m).map λi=>.int ((0:Int)+(i:Nat))) (g:=[]) (h1:=h) ?_ rfl (λd=>match d with|.int i=>f i.toNat|_=>.non) (λd=>some d::fr.map λj=>(env[j]?).join) ?_ ?_]
 · congr 3;rw[aI];refine fM (λg=>Cell.lst (List.map g (List.range m))) (funext λi=>?_);simp
 · rw[a6Y,ha,b8,a0V hm]
 · intro x dY;obtain⟨i,hi,rfl⟩:=al.mp dY;refine⟨rfl,?_⟩;have z:(0:Int)+(i:Nat)=((i:Nat):Int):=by ac_nf
   rw[z,hx i (aN.mp hi)];simp
 · rw[aa,aK];show _<=16777216;ac_nf
theorem b2n{i:Nat}(hi:i<26):ixD h (.str abc) ⇑i=.ok (.str ⟨#[lt i]⟩) h:=ix_str b9e (b3R ⟨i,hi⟩).1
theorem b0W:a1u.length<=SL:=by rw[show a1u.length=36 by decide+kernel];show 36<=16777216;ac_nf
def a1N(c i:Nat):Nat:=(cd a1u).getD ((c/16224+7*i)%36) 0
theorem a7k(c i:Nat):(cd a1u)[(c/16224+7*i)%36]? =some (a1N c i)/\Q0 (a1N c i)=true:=by
 have lt:(c/16224+7*i)%36<↥(cd a1u):=by rw[u9,show a1u.length=36 by decide+kernel];exact fJ _ ∅
 unfold a1N;rw[bv,ai lt];exact⟨rfl,ba (br lt)⟩
theorem a0b{k c m:Nat}(hF:F f=some n9)(hm:m<=26):∃ns,Nms ns m/\b4 ct F (k+1) f [.int (c:Int),.int (m:Int)] h=.ok (.ref ↥h) (h++[.lst (ns.map .str)]):=by
 have d4:u6 h ⇑c (.int 4)=.ok ⇑(c/4) h:=J9 4 ∅ ∅;have m26:∀(a:Nat) (h:AH),p8 h ⇑a (.int 26)=.ok ⇑(a%26) h:=λa h=>C1 26 ∅;have m4:p8 h ⇑c (.int 4)=.ok ⇑(c%4) h:=C1 4 ∅;have d104:u6 h ⇑c (.int 104)=.ok ⇑(c/104) h:=J9 104 ∅ ∅;have m12:p8 h ⇑(c/104) (.int 12)=.ok ⇑(c/104%12) h:=C1 12 ∅;have d1248:u6 h ⇑c (.int 1248)=.ok ⇑(c/1248) h:=J9 1248 ∅ ∅;have f26:c/4%26<26:=fJ _ ∅;have s12:c/104%12<12:=fJ _ ∅;rw[c9 hF rfl];simp only[n9];rw[seq (by simp![];rfl),seq (by simp![op2,d4,m26];rfl)];generalize hf:c/4%26=f1 at f26
 by_cases hc:((c%4:Nat):Int)=0/\(m:Int)<13
 · obtain⟨h1,h2⟩:=hc;have q0:G7 h ⇑(c%4) (.int 0)=.ok (.bl true) h:=by rw[h1];rfl
   refine⟨_,c2B (m:=m) f26 nofun,?_⟩;have cm:ev ct (b4 ct F k) cA [c⁻¹,m⁻¹,some (.str abc),f1⁻¹,none,none,none] h=.ok (.ref ↥h) (h++[.lst ((List.range m).map λi=>.str (nmA f1 m i))]):=by
    unfold cA;refine W8 (λi=>.str (nmA f1 m i)) (by simp![]) nofun λi hi=>?_;have sb:a3v h ⇑m ⇑i=.ok ⇑(m-i) h:=by show R.ok (D.int ((m:Int)-(i:Int))) h=_;congr 2;ac_nf
    have ml:O3 h (.str ⟨#[lt f1]⟩) ⇑(m-i)=.ok (.str (nmA f1 m i)) h:=by
     simp only[O3];have l1:↥(⟨#[lt f1]⟩:Str)*(((m-i:Nat):Int)).toNat<=SL:=by rw[Int.toNat_natCast];show 1*(m-i)<=16777216;ac_nf
     rw[ay ⟨a0C nofun,l1⟩];exact fM (λz=>R.ok (D.str (G2 z ⟨#[lt f1]⟩)) h) (Int.toNat_natCast _)
    simp![op2,b2n f26,sb,ml,T9]
   simp![op2,m4,q0,G9,h2,fO,cm];have e:((List.range m).map (nmA f1 m)).map D.str=(List.range m).map λi=>D.str (nmA f1 m i):=by rw[aI];rfl
   rw[e];exact gc2 ⋯ (aj _) (by rw[←e];exact E3 _)
 · have tt:∀T,exs ct (b4 ct F k) (.iff (.an (.cmp .eq (.bin .mod (.v 0) (.i 4)) (.i 0)) (.cmp .lt (.v 1) (.i 13))) (.o (.ret cA)) .nil>=>T) [c⁻¹,m⁻¹,some (.str abc),f1⁻¹,none,none,none] h=exs ct (b4 ct F k) T [c⁻¹,m⁻¹,some (.str abc),f1⁻¹,none,none,none] h:=λT=>by
    refine seq ?_
    by_cases h1:((c%4:Nat):Int)=0
    · have h2:¬(m:Int)<13:=λz=>hc ⟨h1,z⟩;have q0:G7 h ⇑(c%4) (.int 0)=.ok (.bl true) h:=by rw[h1];rfl
      simp![op2,m4,q0,G9,h2,fK]
    · have q0:G7 h ⇑(c%4) (.int 0)=.ok (.bl false) h:=by simp only[G7,eqS,h1,fK]
      simp![op2,m4,q0]
   rw[tt,seq (by simp![op2,d104,m12];rfl)];generalize c/104%12=sz at s12;have a1:((sz:Nat):Int)+1=((sz+1:Nat):Int):=by ac_nf
   rw[seq (by simp![op2,d1248,o0,a1,C1 (sz+1) nofun];rfl)];have pl:c/1248%(sz+1)<=sz:=Nat.le_of_lt_succ (fJ _ nofun);generalize c/1248%(sz+1)=p at pl;have cs:ev ct (b4 ct F k) cS [c⁻¹,m⁻¹,some (.str abc),f1⁻¹,sz⁻¹,p⁻¹,none] h=.ok (.ref ↥h) (h++[.lst ((List.range sz).map λi=>.str ⟨#[a1N c i]⟩)]):=by
    unfold cS;refine W8 (λi=>.str ⟨#[a1N c i]⟩) (by simp![]) nofun λi hi=>?_;have ad:M8 h (.str abc) (.str "0123456789")=.ok (.str a1u) h:=by rw[u0 (by rw[a9s,show(Str.ofString "0123456789").length=10 by decide+kernel];decide)];rfl
    have d16:u6 h ⇑c (.int 16224)=.ok ⇑(c/16224) h:=J9 16224 ∅ ∅;have m7:O3 h (.int 7) ⇑i=.ok ⇑(7*i) h:=by rw[M9 nofun];congr 2
    have a2:((c/16224:Nat):Int)+((7*i:Nat):Int)=((c/16224+7*i:Nat):Int):=by ac_nf
    have m36:p8 h ⇑(c/16224+7*i) (.int 36)=.ok ⇑((c/16224+7*i)%36) h:=C1 36 ∅;simp![op2,ad,d16,m7,o0,a2,m36,ix_str b0W (a7k c i).1,T9]
   have es:((List.range sz).map λi=>D.str ⟨#[a1N c i]⟩)=((List.range sz).map λi=>(⟨#[a1N c i]⟩:Str)).map D.str:=by rw[aI];rfl
   rw[es] at cs;generalize hts:(List.range sz).map (λi=>(⟨#[a1N c i]⟩:Str))=ts at cs;have tl:↥ts=sz:=by rw[←hts];simp
   have t1:∀t∈ts,↥t=1/\(cd t).all Q0=true:=λt ht=>by rw[←hts] at ht;obtain⟨i,_,rfl⟩:=al.mp ht;exact⟨rfl,by show([a1N c i]:List Nat).all Q0=true;rw[all_cons,(a7k c i).2];rfl⟩
   have sm:∀l:List Str,(∀t∈l,↥t=1)->(l.map (·.length)).sum=↥l:=λl=>by
    induction l with
    |nil=>intro _;rfl
    |cons x r ih=>intro hh;rw[map_cons,sum_cons,ih (λt ht=>hh t (.tail _ ht)),hh x (.head _),length_cons];exact Nat.add_comm 1 _
   have jo:JoinOk "" ts=true:=a5z (by rw[sm ts λt ht=>(t1 t ht).1,show(Str.ofString "").length=0 from rfl];ac_nf);have jn:mtD .join (h++[.lst (ts.map .str)]) (.str "") [.ref ↥h]=.ok (.str (Txt.join "" ts)) (h++[.lst (ts.map .str)]):=by simp only[mtD,a1y,a1V];rw[ay jo]
   have sl:↥(Txt.join "" ts)=sz:=by rw[←u9,a9q,List.length_flatten,aI,←tl];exact(fM List.sum (aX λt _=>u9 t)).trans (sm ts λt ht=>(t1 t ht).1)
   have ss:(cd (Txt.join "" ts)).all Q0=true:=by rw[a9q];refine bm.mpr λx hx=>?_;obtain⟨q,hq,hm⟩:=List.mem_flatten.mp hx;obtain⟨t,ht,rfl⟩:=al.mp hq;exact bm.mp (t1 t ht).2 x hm
   generalize Txt.join "" ts=stem at jn sl ss;rw[seq (by simp![mtT,cs,jn];rfl)];refine⟨_,c2A (stem:=stem) (p:=p) (f:=f1) (m:=m) nofun ss nofun hm,?_⟩;have hg:∃t,h++[Cell.lst (ts.map .str)]=h++t:=⟨_,rfl⟩;have tk:↥(h++[Cell.lst (ts.map D.str)])=↥h+1:=by simp
   have wS:↥stem<=SL:=by show _<=16777216;ac_nf
   have cm:∀g,ev ct (b4 ct F k) cB [c⁻¹,m⁻¹,some (.str abc),f1⁻¹,sz⁻¹,p⁻¹,some (.str stem)] g=.ok (.ref ↥g) (g++[.lst ((List.range m).map λi=>.str (nmB stem p f1 i))]):=λg=>by
    unfold cB;refine W8 (λi=>.str (nmB stem p f1 i)) (by simp![]) nofun λi hi=>?_;have m5:O3 g (.int 5) ⇑i=.ok ⇑(5*i) g:=by rw[M9 nofun];congr 2
    have a2:((f1:Nat):Int)+((5*i:Nat):Int)=((f1+5*i:Nat):Int):=by ac_nf
    have l1:=gX stem none (some (p:Int));have l2:=gX stem (some (p:Int)) none;have x1:↥(⟨#[lt ((f1+5*i)%26)]⟩:Str)=1:=rfl;simp![T9,slD,ay wS,op2,m5,o0,a2,m26,b2n (h:=g) (i:=(f1+5*i)%26) (fJ _ ∅),u0 (h:=g) (x:=Txt.slice stem none (some (p:Int))) (y:=⟨#[lt ((f1+5*i)%26)]⟩) nofun,u0 (h:=g) (x:=Txt.slice stem none (some (p:Int))++⟨#[lt ((f1+5*i)%26)]⟩) (y:=Txt.slice stem (some (p:Int)) none) (by rw[l8];ac_nf)];rfl
   simp![cm];have e:((List.range m).map (nmB stem p f1)).map D.str=(List.range m).map λi=>D.str (nmB stem p f1 i):=by rw[aI];rfl
   rw[e,aA];exact gc2 ⋯ ⋯ (by rw[←e];exact E3 _)
end
structure Pf(h0 h:AH):Prop where
 len:↥h0<=↥h
 get:∀i,i<↥h0->h[i]? =h0[i]?
theorem Pf.refl(h:AH):Pf h h:=⟨aj _,λ_ _=>rfl⟩
variable{h0:AH}
theorem Pf.app(p:Pf h0 h)(t:AH):Pf h0 (h++t):=⟨by rw[aq];have:=p.len;ac_nf,λi hi=>by rw[av (aC hi p.len)];exact p.get i hi⟩
theorem Pf.set(p:Pf h0 h){c:Cell}(hn:↥h0<=n):Pf h0 (h.set n c):=⟨by rw[List.length_set];exact p.len,λi hi=>by rw[fP nofun];exact p.get i hi⟩
theorem Pf.trans{a b c:AH}(p:Pf a b)(q:Pf b c):Pf a c:=⟨aR p.len q.len,λi hi=>(q.get i (aC hi p.len)).trans (p.get i hi)⟩
theorem Pf.take{h0 h:AH}(p:Pf h0 h):h.take ↥h0=h0:=by
 refine ext_getElem? λi=>?_
 by_cases hi:i<↥h0
 · rw[bA hi,p.get i hi]
 · rw[aW (by simp;ac_nf),aW nofun]
theorem Pf.at(p:Pf h0 h){i:Nat}{c:Cell}(e:h0[i]? =some c):h[i]? =some c:=by rw[p.get i (ac.mp e).1];exact e
theorem a2j{k:Nat}{c:Cell}(p:Pf h0 h)(hk:h[k]? =some c)(hl:↥h0<=k)(hc:c.flat=true):gcR 2 h0 (.ok (.ref k) h)=.ok (.ref ↥h0) (h0++[c]):=by unfold gcR;simp only[hk];simp[hl,hc,p.take]
theorem b0j(p:Pf h0 h)(hd:d.flat=true):gcR 1 h0 (.ok d h)=.ok d h0:=by unfold gcR;simp only;rw[az ∅];simp[hd,p.take]
variable{M:Nat}
section
variable{ct:CT}{F:Nat->Option Fn}
theorem D6{g:List (Nat×Cell)}{p:Pat}{body:u5->AH->R Out}(P:Nat->u5->AH->Prop)(gk:∀j env h,P j env h->gOk g h=true):∀(l:List D) (i:Nat) (env:u5) (h:AH),
 (∀j x env h,l[j]? =some x->P (i+j) env h->∃bW bG h',D9 p x env=some bW/\body bW h=.ok (.nx bG) h'/\P (i+j+1) bG h')->P i env h->∃bG h',E1 g p body l env h=.ok (.nx bG) h'/\P (i+↥l) bG h'
 |[],i,env,h,_,q=>⟨env,h,by rw[E1,ay (gk _ _ _ q)],q⟩
 | x::r,i,env,h,st,q=>by
  obtain⟨bW,bG,h',b1,b2,q'⟩:=st 0 x env h rfl q;obtain⟨env2,h2,e2,q2⟩:=D6 P gk r (i+1) bG h' (λj y env h hj hq=>by have:=st (j+1) y env h (by simpa using hj) (by rw[show i+(j+1)=i+1+j by ac_nf];exact hq);rw[show i+(j+1)+1=i+1+j+1 by ac_nf] at this;exact this) q'
  refine⟨env2,h2,?_,by rw[length_cons,show i+(↥r+1)=i+1+r.length by ac_nf];exact q2⟩;rw[E1,ay (gk _ _ _ q),b1];simp only;rw[b2];exact e2
theorem K1(e:h[n]? =some (.lst xs))(hl:↥xs<1000000):mtD .append h (.ref n) [d]=.ok .non (h.set n (.lst (xs++[d]))):=by simp only[mtD,e];rw[ay (show ↥xs<16777216 by ac_nf)]
theorem E2(e:h[n]? =some (.lst xs)):mtT .append h (.ref n)=true:=by simp only[mtT,rdL,e,Option.isSome_some]
theorem a1Z{m:Nat}{x:D}(h:((List.range m).map λi=>D.int ((0:Int)+(i:Nat)))[j]? =some x):j<m/\x=.int (j:Int):=by
 have hj:j<m:=by
  have:=(ac.mp h).1
  simpa using this
 refine⟨hj,?_⟩;rw[ak,List.getElem?_range hj] at h;have h:=ax h;rw[←h];show D.int (0+(j:Int))=_;rw[Int.zero_add]
def shD(sh:List (Str×Nat)):List D:=sh.map λp=>.tup [.str p.1,.int (p.2:Int)]
structure Shs(sh:List (Str×Nat)):Prop where
 lo:4<=↥sh
 hi:↥sh<=16
 nd:(sh.map (·.1)).Nodup
 ok:∀p∈sh,b9 p.1=true/\p.2<99999
theorem C6:∀{l:List D},(∀d∈l,d.flat=true)->D.flats l=true
 |[],_=>rfl
 |d::r,h=>by rw[D.flats,h d (.head _),C6 λx hx=>h x (.tail _ hx)];rfl
theorem b2T(sh:List (Str×Nat)):D.flats (shD sh)=true:=C6 λd hd=>by obtain⟨p,_,rfl⟩:=al.mp hd;rfl
theorem a2M:∀(ns:List Str) (ws:List Nat),Q6 (ns.map .str) (ws.map λw=>.int ((w:Nat):Int))=shD (ns.zip ws)
 |[],_=>rfl
 |_::_,[]=>rfl
 |n::ns,w::ws=>by show D.tup [.str n,.int ((w:Nat):Int)]::Q6 _ _=_;rw[a2M ns ws];rfl
theorem b5L{l:List Nat}{i:Nat}(hl:↥l=4):∃w,(l.map λw=>D.int ((w:Nat):Int))[i%4]? =some ⇑(w)/\w∈l:=by
 have lt:i%4<↥l:=by rw[hl];exact fJ _ ∅
 exact⟨l[i%4],by rw[ak,ai lt];rfl,br lt⟩
theorem b0E(he:env[5]? =some (M⁻¹)):∃w t,w<99999/\ev ct c wE env h=.ok ⇑(w) (h++[t]):=by
 have d4:∀h,u6 h ⇑M (.int 4)=.ok ⇑(M/4) h:=λh=>J9 4 ∅ ∅;have m4:∀h,p8 h ⇑M (.int 4)=.ok ⇑(M%4) h:=λh=>C1 4 ∅;have m20:∀(a:Nat) h,p8 h ⇑a (.int 20)=.ok ⇑(a%20) h:=λa h=>C1 20 ∅;have m1000:∀(a:Nat) h,p8 h ⇑a (.int 1000)=.ok ⇑(a%1000) h:=λa h=>C1 1000 ∅;have m9:∀(a:Nat) h,p8 h ⇑a (.int 99999)=.ok ⇑(a%99999) h:=λa h=>C1 99999 ∅;obtain⟨w,h1,h2⟩:=b5L (l:=[0,M/4%20,M/4%1000,M/4%99999]) (i:=M) rfl;refine⟨w,.lst [.int ((0:Nat):Int),.int ((M/4%20:Nat):Int),.int ((M/4%1000:Nat):Int),.int ((M/4%99999:Nat):Int)],?_,?_⟩
 · simp only[aF,not_mem_nil,gx] at h2;rcases h2 with rfl|rfl|rfl|rfl
   · decide
   · exact Nat.lt_trans (fJ _ (show 0<20 by decide)) ∅
   · exact Nat.lt_trans (fJ _ (show 0<1000 by decide)) ∅
   · exact fJ _ ∅
 · unfold wE;have hx:ixD (h++[.lst [.int 0,.int ((M/4%20:Nat):Int),.int ((M/4%1000:Nat):Int),.int ((M/4%99999:Nat):Int)]]) (.ref ↥h) ⇑(M%4)=.ok ⇑(w) (h++[.lst [.int 0,.int ((M/4%20:Nat):Int),.int ((M/4%1000:Nat):Int),.int ((M/4%99999:Nat):Int)]]):=v5 b6 h1;simp![he,op2,d4,m4,m20,m1000,m9,v8,hx];rfl
variable(bO:F 202=some o6)(bZ:F 203=some n9)
include bO bZ
theorem a9F{k:Nat}{c:Int}(hF:F 204=some C7):∃sh,Shs sh/\b4 ct F (k+2) 204 [.int c] h=.ok (.ref ↥h) (h++[.lst (shD sh)]):=by
 obtain⟨M,hM⟩:=C2 (ct:=ct) (k:=k) (c:=c) (j:=1) (h:=h) bO ∅;have d13:u6 h ⇑M (.int 13)=.ok ⇑(M/13) h:=J9 13 ∅ ∅;have m13:p8 h ⇑M (.int 13)=.ok ⇑(M%13) h:=C1 13 ∅;have a4:(4:Int)+((M%13:Nat):Int)=((4+M%13:Nat):Int):=by ac_nf
 have m16:M%13<13:=fJ _ ∅;obtain⟨ns,nk,hN⟩:=a0b (ct:=ct) (k:=k) (c:=M/13) (m:=4+M%13) (h:=h) bZ nofun;generalize hm:4+M%13=m at nk hN a4;rw[c9 hF rfl];simp only[C7];rw[seq (by simp![hM];rfl),seq (by simp![op2,d13,m13,o0,a4,hN];rfl)];have l1:↥(h++[Cell.lst (ns.map D.str)])=↥h+1:=by simp
 rw[seq (by simp![v8,l1];rfl)];have gN:(h++[Cell.lst (ns.map D.str)]++[Cell.lst []])[↥h]? =some (.lst (ns.map .str)):=b5 b6;have gW:(h++[Cell.lst (ns.map D.str)]++[Cell.lst []])[↥h+1]? =some (.lst []):=by rw[←l1];exact b6
 have pf:Pf h (h++[Cell.lst (ns.map D.str)]++[Cell.lst []]):=((Pf.refl h).app _).app _;generalize h++[Cell.lst (ns.map D.str)]++[Cell.lst []]=g at gN gW pf;have len:biD .len g [.ref ↥h]=.ok ⇑m g:=by rw[k7 gN,aa,nk.len]
 obtain⟨bG,g',e1,ws,e4,e5,rfl,q2,q3,q4,q5,q6⟩:=D6 (g:=[]) (p:=.nm 4) (body:=exs ct (b4 ct F (k+1)) wB) (λj env hh=>∃ws:List Nat,∃e4 e5,env=[some (.int c),M⁻¹,~~~↥h,some (.ref (↥h+1)),e4,e5]/\Pf h hh/\hh[↥h]? =some (.lst (ns.map .str))/\hh[↥h+1]? =some (.lst (ws.map λw=>.int ((w:Nat):Int)))/\↥ws=j/\∀w∈ws,w<99999) (λ_ _ _ _=>rfl) ((List.range m).map λi=>.int ((0:Int)+(i:Nat))) 0 [some (.int c),M⁻¹,~~~↥h,some (.ref (↥h+1)),none,none] g (λj x env hh hx hP=>by
  obtain⟨ws,e4,e5,rfl,p1,p2,p3,p4,p5⟩:=hP;obtain⟨hj,rfl⟩:=a1Z hx;rw[aB] at p4⊢;have a10:((j:Nat):Int)+10=((j+10:Nat):Int):=by ac_nf
  obtain⟨N,hN⟩:=C2 (ct:=ct) (k:=k) (c:=c) (j:=((j+10:Nat):Int)) (h:=hh) bO nofun;obtain⟨w,t,w1,w2⟩:=b0E (ct:=ct) (c:=b4 ct F (k+1)) (M:=N) (env:=[some (.int c),M⁻¹,~~~↥h,some (.ref (↥h+1)),j⁻¹,N⁻¹]) (h:=hh) rfl;refine⟨_,[some (.int c),M⁻¹,~~~↥h,some (.ref (↥h+1)),j⁻¹,N⁻¹],(hh++[t]).set (↥h+1) (.lst ((ws.map λw=>D.int ((w:Nat):Int))++[.int ((w:Nat):Int)])),rfl,?_,ws++[w],_,_,rfl,(p1.app _).set (Nat.le_succ _),b7 nofun (b5 p2),?_,by rw[aq,p4];rfl,λx hx=>?_⟩
  · show exs ct (b4 ct F (k+1)) wB [some (.int c),M⁻¹,~~~↥h,some (.ref (↥h+1)),j⁻¹,e5] hh=_;unfold wB;rw[seq (by simp![op2,o0,a10,hN];rfl)];simp![E2 p3,w2,K1 (b5 (g:=[t]) p3) (by rw[aa,p4];ac_nf)]
  · rw[B0 (b5 p3)];simp
  · rcases aL.mp hx with hx|hx
    · exact p5 x hx
    · rw[aO.mp hx];exact w1) ⟨[],none,none,rfl,pf,gN,gW,rfl,λ_ h=>nomatch h⟩
 rw[aa,aK,aB] at q5;rw[seq (by simp![len,a0V (h:=g) (m:=m) nofun,e1];rfl)];have cz:=o9 (ct:=ct) (c:=b4 ct F (k+1)) (p:=.tp (.nm 0>=>.nm 1>=>.nil)) (it:=.zip (.v 2) (.v 3)) (n:=2) (fr:=[]) (e:=.tup (.v 0>=>.o (.v 1))) (env:=[some (.int c),M⁻¹,~~~↥h,some (.ref (↥h+1)),e4,e5]) (h:=g') (l:=Q6 (ns.map .str) (ws.map λw=>.int ((w:Nat):Int))) (g:=[(↥h,.lst (ns.map .str)),(↥h+1,.lst (ws.map λw=>.int ((w:Nat):Int)))]) (h1:=g') (by simp![a9v,a6a,W3,q3,q4]) (by simp[gOk,q3,q4]) id (λd=>match d with|.tup [a,b]=>[some a,some b]|_=>[]) (λx hx=>by
  rw[a2M] at hx;obtain⟨p,_,rfl⟩:=al.mp hx;refine⟨rfl,?_⟩;simp![id]) (by
  rw[a2M];unfold shD;rw[aa,length_zip];show _<=16777216;have:=nk.len;ac_nf)
 rw[map_id,a2M] at cz;have zl:↥(ns.zip ws)=m:=by rw[length_zip,nk.len,q5];ac_nf
 have zf:(ns.zip ws).map (·.1)=ns:=by rw[List.map_fst_zip];rw[nk.len,q5];exact aj _
 refine⟨ns.zip ws,⟨by ac_nf,by ac_nf,by rw[zf];exact nk.nd,λp hp=>⟨nk.ok _ (of_mem_zip hp).1,q6 _ (of_mem_zip hp).2⟩⟩,?_⟩;simp![cz];exact a2j (q2.app _) b6 q2.len (b2T _)
end
def spD(p:Int×Int):D:=.tup [.int p.1,.int p.2]
def a0z(p:Int×Int):Prop:=(-99999<=p.1/\p.1<=99999)/\ -99999<=p.2/\p.2<=99999
structure Mk where
 n:Str
 s:Str
 a:Int×Int
 b:Int×Int
def mkD(m:Mk):D:=.tup [.str m.n,.str m.s,spD m.a,spD m.b]
def a0L(s:Str):Prop:=s="above"∨s="below"
variable{sh:List (Str×Nat)}
theorem a7C(hj:j<↥sh):(shD sh)[j]? =some (.tup [.str (sh[j]).1,.int ((sh[j]).2:Int)]):=by unfold shD;rw[ak,ai hj];rfl
theorem ix_tup{i:Nat}(hd:xs[i]? =some d):ixD h (.tup xs) (.int (i:Nat))=.ok d h:=by
 have hi:=(ac.mp hd).1;have:atI xs (i:Int)=some d:=by
  show(ixN ↥xs (i:Int)).bind (λj=>xs[j]?)=some d;have e:ixN ↥xs (i:Int)=some i:=by unfold ixN;rw[ay nofun,ay nofun];simp
  rw[e];exact hd
 simp only[ixD,this]
theorem a1U{a:D}{r:List D}:ixD h (.tup (a::r)) (.int 0)=.ok a h:=ix_tup (i:=0) rfl
variable{β:Type}
section
variable{ct:CT}{F:Nat->Option Fn}
theorem a5a{k m:Nat}(hF:F 205=some A8):∃p,a0z p/\b4 ct F (k+1) 205 [.int (m:Int)] h=.ok (spD p) h:=by
 have m41:∀h,p8 h ⇑m (.int 41)=.ok ⇑(m%41) h:=λh=>C1 41 ∅;have d41:∀h,u6 h ⇑m (.int 41)=.ok ⇑(m/41) h:=λh=>J9 41 ∅ ∅;have d7:∀h,u6 h ⇑m (.int 7)=.ok ⇑(m/7) h:=λh=>J9 7 ∅ ∅;have m9:∀(a:Nat) h,p8 h ⇑a (.int 99999)=.ok ⇑(a%99999) h:=λa h=>C1 99999 ∅;have m3:∀(a:Nat) h,p8 h ⇑a (.int 3)=.ok ⇑(a%3) h:=λa h=>C1 3 ∅;have sb:∀h,a3v h ⇑(m%41) (.int 20)=.ok (.int (((m%41:Nat):Int)-20)) h:=λh=>rfl;have l9:m/41%99999<99999:=fJ _ ∅;have l41:m%41<41:=fJ _ ∅;have ix:∃y:Int,(-99999<=y/\y<=99999)/\([.int 0,.int ((m/41%99999:Nat):Int),.int (-((m/41%99999:Nat):Int))]:List D)[m/7%3]? =some (.int y):=by
  have:m/7%3=0∨m/7%3=1∨m/7%3=2:=(by decide:∀r:Nat,r<3->r=0∨r=1∨r=2) (m/7%3) (fJ _ ∅);rcases this with e|e|e<;>rw[e]
  · exact⟨0,by decide,rfl⟩
  · exact⟨_,by ac_nf,rfl⟩
  · exact⟨_,by ac_nf,rfl⟩
 obtain⟨y,y1,y2⟩:=ix;refine⟨(((m%41:Nat):Int)-20,y),⟨by simp only;ac_nf,y1⟩,?_⟩;have hx:ixD (h++[.lst [.int 0,.int ((m/41%99999:Nat):Int),.int (-((m/41%99999:Nat):Int))]]) (.ref ↥h) ⇑(m/7%3)=.ok (.int y) (h++[.lst [.int 0,.int ((m/41%99999:Nat):Int),.int (-((m/41%99999:Nat):Int))]]):=v5 b6 y2;rw[c9 hF rfl];simp only[A8];simp![op2,m41,sb,d41,m9,d7,m3,v8,hx];exact gc1 rfl
theorem b4w(he:env[4]? =some (M⁻¹)):∃s t,a0L s/\ev ct c b0X env h=.ok (.str s) (h++[t]):=by
 have d4:∀h,u6 h ⇑M (.int 4)=.ok ⇑(M/4) h:=λh=>J9 4 ∅ ∅;have m2:∀(a:Nat) h,p8 h ⇑a (.int 2)=.ok ⇑(a%2) h:=λa h=>C1 2 ∅;have ix:∃s:Str,a0L s/\([.str "above",.str "below"]:List D)[M/4%2]? =some (.str s):=by
  have:M/4%2=0∨M/4%2=1:=(by decide:∀r:Nat,r<2->r=0∨r=1) (M/4%2) (fJ _ ∅);rcases this with e|e<;>rw[e]
  · exact⟨"above",.inl rfl,rfl⟩
  · exact⟨"below",.inr rfl,rfl⟩
 obtain⟨s,s1,s2⟩:=ix;refine⟨s,.lst [.str "above",.str "below"],s1,?_⟩;have hx:ixD (h++[.lst [.str "above",.str "below"]]) (.ref ↥h) ⇑(M/4%2)=.ok (.str s) (h++[.lst [.str "above",.str "below"]]):=v5 b6 s2;unfold b0X;simp![he,op2,d4,m2,v8,hx]
theorem b2W(ms:List Mk):D.flats (ms.map mkD)=true:=C6 λd hd=>by obtain⟨p,_,rfl⟩:=al.mp hd;rfl
theorem a6i{f:α->β}{l:List α}(hj:j<↥l){r:List β}(h:r.Sublist ((l.take j).map f)):r.Sublist ((l.take (j+1)).map f)/\(r++[f l[j]]).Sublist ((l.take (j+1)).map f):=by rw[take_succ_eq_append_getElem hj,ao];exact⟨h.trans (List.sublist_append_left _ _),h.append (List.Sublist.refl _)⟩
variable(bO:F 202=some o6)(cP:F 205=some A8)
include bO cP
theorem b1V{k s:Nat}{c:Int}(hF:F 206=some D1)(hs:Shs sh)(hh:h[s]? =some (.lst (shD sh))):∃ms:List Mk,(ms.map (·.n)).Sublist (sh.map (·.1))/\(∀m∈ms,a0L m.s/\a0z m.a/\a0z m.b)/\b4 ct F (k+2) 206 [.int c,.ref s] h=.ok (.ref ↥h) (h++[.lst (ms.map mkD)]):=by
 have sl:s<↥h:=(ac.mp hh).1;have hi:=hs.hi;rw[c9 hF rfl];simp only[D1];rw[seq (by simp![v8];rfl)];have len:biD .len (h++[.lst []]) [.ref s]=.ok ⇑↥sh (h++[.lst []]):=by rw[k7 (b5 hh)];unfold shD;rw[aa]
 obtain⟨bG,g',e1,ms,e3,e4,e5,rfl,q2,q3,q4,q5⟩:=D6 (g:=[]) (p:=.nm 3) (body:=exs ct (b4 ct F (k+1)) mkB) (λj env g=>∃ms:List Mk,∃e3 e4 e5,env=[some (.int c),~~~s,~~~↥h,e3,e4,e5]/\Pf h g/\g[↥h]? =some (.lst (ms.map mkD))/\(ms.map (·.n)).Sublist ((sh.take j).map (·.1))/\∀m∈ms,a0L m.s/\a0z m.a/\a0z m.b) (λ_ _ _ _=>rfl) ((List.range ↥sh).map λi=>.int ((0:Int)+(i:Nat))) 0 [some (.int c),~~~s,~~~↥h,none,none,none] (h++[.lst []]) (λj x env g hx hP=>by
  obtain⟨ms,e3,e4,e5,rfl,p1,p2,p3,p4⟩:=hP;obtain⟨hj,rfl⟩:=a1Z hx;rw[aB] at p3⊢;obtain⟨t1,t2⟩:=a6i hj p3;have a40:((j:Nat):Int)+40=((j+40:Nat):Int):=by ac_nf
  obtain⟨N,hN⟩:=C2 (ct:=ct) (k:=k) (c:=c) (j:=((j+40:Nat):Int)) (h:=g) bO nofun;have m4:p8 g ⇑N (.int 4)=.ok ⇑(N%4) g:=C1 4 ∅;show∃bW bG h',_/\exs ct (b4 ct F (k+1)) mkB bW g=_/\_;unfold mkB
  by_cases hb:((N%4:Nat):Int)=1
  · have q1:G7 g ⇑(N%4) (.int 1)=.ok (.bl true) g:=by rw[hb];rfl
    obtain⟨sd,t,s1,s2⟩:=b4w (ct:=ct) (c:=b4 ct F (k+1)) (M:=N) (env:=[some (.int c),~~~s,~~~↥h,j⁻¹,N⁻¹,e5]) (h:=g) rfl;obtain⟨pa,a1,a2⟩:=a5a (ct:=ct) (k:=k) (m:=N/8) (h:=g++[t]) cP;obtain⟨pb,b1,b2⟩:=a5a (ct:=ct) (k:=k) (m:=N/8000) (h:=g++[t]) cP;have d8:u6 (g++[t]) ⇑N (.int 8)=.ok ⇑(N/8) (g++[t]):=J9 8 ∅ ∅;have d8k:u6 (g++[t]) ⇑N (.int 8000)=.ok ⇑(N/8000) (g++[t]):=J9 8000 ∅ ∅;have sx:ixD (g++[t]) (.ref s) ⇑j=.ok (.tup [.str (sh[j]).1,.int ((sh[j]).2:Int)]) (g++[t]):=v5 (b5 (p1.at hh)) (a7C hj);have ml:↥(ms.map mkD)<1000000:=by have:=t1.length_le;rw[aa] at this⊢;rw[aa,aM] at this;ac_nf
    refine⟨_,[some (.int c),~~~s,~~~↥h,j⁻¹,N⁻¹,some (.str sd)],(g++[t]).set ↥h (.lst (ms.map mkD++[mkD ⟨(sh[j]).1,sd,pa,pb⟩])),rfl,?_,ms++[⟨(sh[j]).1,sd,pa,pb⟩],_,_,_,rfl,(p1.app _).set (aj _),?_,?_,λm hm=>?_⟩
    · show exs ct (b4 ct F (k+1)) _ [some (.int c),~~~s,~~~↥h,j⁻¹,e4,e5] g=_;rw[seq (by simp![op2,o0,a40,hN];rfl)];unfold c0t;simp![op2,m4,q1,s2,E2 (b5 (g:=[t]) p2),sx,a1U,d8,a2,d8k,b2,K1 (b5 (g:=[t]) p2) ml,mkD]
    · rw[B0 (b5 p2),ao];rfl
    · rw[ao];exact t2
    · rcases aL.mp hm with hm|hm
      · exact p4 m hm
      · rw[aO.mp hm];exact⟨s1,a1,b1⟩
  · have q1:G7 g ⇑(N%4) (.int 1)=.ok (.bl false) g:=by simp only[G7,eqS,hb,fK]
    refine⟨_,[some (.int c),~~~s,~~~↥h,j⁻¹,N⁻¹,e5],g,rfl,?_,ms,_,_,_,rfl,p1,p2,t1,p4⟩;rw[seq (by simp![op2,o0,a40,hN];rfl)];simp![op2,m4,q1]) ⟨[],none,none,none,rfl,(Pf.refl h).app _,b6,List.nil_sublist _,λ_ h=>nomatch h⟩
 rw[aa,aK,aB,bf] at q4;refine⟨ms,q4,q5,?_⟩;rw[seq (by simp![len,a0V (h:=h++[.lst []]) (m:=↥sh) nofun,e1];rfl)];simp![];exact a2j q2 q3 (aj _) (b2W _)
end
structure Pt where
 n:Str
 s:Str
 a:Int×Int
def ptD(p:Pt):D:=.tup [.str p.n,.str p.s,spD p.a]
def ptK(p:Pt):Str×Str:=(p.n,p.s)
theorem b2V(ms:List Pt):D.flats (ms.map ptD)=true:=C6 λd hd=>by obtain⟨p,_,rfl⟩:=al.mp hd;rfl
variable{N:Nat}
section
variable{ct:CT}{F:Nat->Option Fn}
theorem a9E(N:Nat):∃l:List Str,L6 [.str "above",.str "below"] (some ((N%2:Nat):Int)) none=l.map .str/\l.Nodup/\(∀s∈l,a0L s)/\↥l<=2:=by
 have:N%2=0∨N%2=1:=(by decide:∀r:Nat,r<2->r=0∨r=1) (N%2) (fJ _ ∅);rw[M3];rcases this with e|e<;>rw[e]
 · exact⟨["above","below"],rfl,by decide,λs hs=>by simp only[aF,not_mem_nil,gx] at hs;exact hs,by decide⟩
 · exact⟨["below"],rfl,by decide,λs hs=>.inr (aO.mp hs),by decide⟩
variable(bO:F 202=some o6)(cP:F 205=some A8)
include cP
theorem b1m{k s a:Nat}{c:Int}{ps:List Pt}{l:List Str}(hh:h[s]? =some (.lst (shD sh)))(hj:j<↥sh)(ha:a=↥h)(hn:a<n)(p1:Pf h g)(p2:g[a]? =some (.lst (ps.map ptD)))(p3:g[n]? =some (.lst (l.map .str)))(hl:↥ps<=1000)(l2:↥l<=2)(e5:Option D)(sd:∀s∈l,a0L s):
 ∃qs fq g',E1 [(n,.lst (l.map .str))] (.nm 5) (exs ct (b4 ct F (k+1)) b1p) (l.map .str) [some (.int c),~~~s,~~~a,j⁻¹,N⁻¹,e5] g=.ok (.nx [some (.int c),~~~s,~~~a,j⁻¹,N⁻¹,fq]) g'/\Pf h g'/\g'[a]? =some (.lst ((ps++qs).map ptD))/\(qs.map ptK).Sublist (l.map λs=>((sh[j]).1,s))/\∀q∈qs,a0L q.s/\a0z q.a:=by
 obtain⟨bG,g',e1,qs,fq,rfl,q1,q2,q3,q4,q5⟩:=D6 (g:=[(n,.lst (l.map .str))]) (p:=.nm 5) (body:=exs ct (b4 ct F (k+1)) b1p) (λi env gg=>∃qs:List Pt,∃e5,env=[some (.int c),~~~s,~~~a,j⁻¹,N⁻¹,e5]/\Pf h gg/\gg[a]? =some (.lst ((ps++qs).map ptD))/\gg[n]? =some (.lst (l.map .str))/\(qs.map ptK).Sublist ((l.take i).map λs=>((sh[j]).1,s))/\∀q∈qs,a0L q.s/\a0z q.a) (λi env gg hP=>by
  obtain⟨_,_,_,_,_,h3,_⟩:=hP;simp[gOk,h3]) (l.map .str) 0 [some (.int c),~~~s,~~~a,j⁻¹,N⁻¹,e5] g (λi x env gg hx hP=>by
  obtain⟨qs,e5,rfl,r1,r2,r3,r4,r5⟩:=hP;have hi:i<↥l:=by simpa using(ac.mp hx).1
  rw[ak,ai hi] at hx;obtain rfl:D.str l[i]=x:=ax hx;rw[aB] at r4⊢;obtain⟨t1,t2⟩:=a6i (f:=λs=>((sh[j]).1,s)) hi r4;have d2:∀h,u6 h ⇑N (.int 2)=.ok ⇑(N/2) h:=λh=>J9 2 ∅ ∅;have m3:∀(a:Nat) h,p8 h ⇑a (.int 3)=.ok ⇑(a%3) h:=λa h=>C1 3 ∅;have d6:u6 gg ⇑N (.int 6)=.ok ⇑(N/6) gg:=J9 6 ∅ ∅;show∃bW bG h',_/\exs ct (b4 ct F (k+1)) b1p bW gg=_/\_;unfold b1p
  by_cases hb:(0:Int)<((N/2%3:Nat):Int)
  · obtain⟨p,a1,a2⟩:=a5a (ct:=ct) (k:=k) (m:=N/6) (h:=gg) cP;have sx:ixD gg (.ref s) ⇑j=.ok (.tup [.str (sh[j]).1,.int ((sh[j]).2:Int)]) gg:=v5 (r1.at hh) (a7C hj);have ml:↥((ps++qs).map ptD)<1000000:=by have:=t1.length_le;rw[aa,aq];rw[aa,aa,aM] at this;ac_nf
    refine⟨_,[some (.int c),~~~s,~~~a,j⁻¹,N⁻¹,some (.str l[i])],gg.set a (.lst ((ps++qs).map ptD++[ptD ⟨(sh[j]).1,l[i],p⟩])),rfl,?_,qs++[⟨(sh[j]).1,l[i],p⟩],_,rfl,r1.set nofun,?_,b7 nofun r3,?_,λq hq=>?_⟩
    · show exs ct (b4 ct F (k+1)) _ [some (.int c),~~~s,~~~a,j⁻¹,N⁻¹,some (.str l[i])] gg=_;simp![op2,d2,m3,G9,hb,fO,E2 r2,sx,a1U,d6,a2,K1 r2 ml,ptD]
    · rw[B0 r2,←aA,ao (l₁:=ps++qs)];rfl
    · rw[ao];exact t2
    · rcases aL.mp hq with hq|hq
      · exact r5 q hq
      · rw[aO.mp hq];exact⟨sd _ (br hi),a1⟩
  · refine⟨_,[some (.int c),~~~s,~~~a,j⁻¹,N⁻¹,some (.str l[i])],gg,rfl,?_,qs,_,rfl,r1,r2,r3,t1,r5⟩;simp![op2,d2,m3,G9,hb,fK]) ⟨[],e5,rfl,p1,by rw[aZ];exact p2,p3,List.nil_sublist _,λ_ h=>nomatch h⟩
 rw[aa,aB,bf] at q4;exact⟨qs,fq,g',e1,q1,q2,q4,q5⟩
include bO
theorem a9P{k s:Nat}{c:Int}(hF:F 207=some C8)(hs:Shs sh)(hh:h[s]? =some (.lst (shD sh))):∃ps:List Pt,(ps.map ptK).Nodup/\↥ps<=100/\(∀p∈ps,p.n∈sh.map (·.1)/\a0L p.s/\a0z p.a)/\b4 ct F (k+2) 207 [.int c,.ref s] h=.ok (.ref ↥h) (h++[.lst (ps.map ptD)]):=by
 have hi:=hs.hi;rw[c9 hF rfl];simp only[C8];rw[seq (by simp![v8];rfl)];have len:biD .len (h++[.lst []]) [.ref s]=.ok ⇑↥sh (h++[.lst []]):=by rw[k7 (b5 hh)];unfold shD;rw[aa]
 obtain⟨bG,g',e1,ps,e3,e4,e5,rfl,q2,q3,q4,q5,q6,q7⟩:=D6 (g:=[]) (p:=.nm 3) (body:=exs ct (b4 ct F (k+1)) ptB) (λj env g=>∃ps:List Pt,∃e3 e4 e5,env=[some (.int c),~~~s,~~~↥h,e3,e4,e5]/\Pf h g/\g[↥h]? =some (.lst (ps.map ptD))/\(ps.map ptK).Nodup/\↥ps<=2*j/\(∀p∈ps,p.n∈(sh.take j).map (·.1))/\∀p∈ps,a0L p.s/\a0z p.a) (λ_ _ _ _=>rfl) ((List.range ↥sh).map λi=>.int ((0:Int)+(i:Nat))) 0 [some (.int c),~~~s,~~~↥h,none,none,none] (h++[.lst []]) (λj x env g hx hP=>by
  obtain⟨ps,e3,e4,e5,rfl,p1,p2,p3,p4,p5,p6⟩:=hP;obtain⟨hj,rfl⟩:=a1Z hx;rw[aB] at p4 p5⊢;have a70:((j:Nat):Int)+70=((j+70:Nat):Int):=by ac_nf
  obtain⟨N,hN⟩:=C2 (ct:=ct) (k:=k) (c:=c) (j:=((j+70:Nat):Int)) (h:=g) bO nofun;have m2:∀h,p8 h ⇑N (.int 2)=.ok ⇑(N%2) h:=λh=>C1 2 ∅;obtain⟨l,l1,l2,l3,l4⟩:=a9E N;have sl:slD (g++[.lst [.str "above",.str "below"]]) (some ((N%2:Nat):Int)) none (.ref ↥g)=.ok (.ref (↥g+1)) (g++[.lst [.str "above",.str "below"]]++[.lst (l.map .str)]):=by rw[F0 b6,l1];simp
  have gl:↥h<↥g:=(ac.mp p2).1;have gn:(g++[Cell.lst [.str "above",.str "below"]]++[.lst (l.map .str)])[↥g+1]? =some (.lst (l.map .str)):=by have:=b6 (h:=g++[Cell.lst [.str "above",.str "below"]]) (c:=.lst (l.map .str));rw[aq] at this;exact this
  obtain⟨qs,fq,g2,f1,f2,f3,f4,f5⟩:=b1m (ct:=ct) (k:=k) (c:=c) (N:=N) cP hh hj rfl (Nat.lt_trans gl (aT _)) ((p1.app _).app _) (b5 (b5 p2)) gn nofun l4 e5 l3;have nw:(sh[j]).1∉(sh.take j).map (·.1):=λhm=>by have nd:=hs.nd;rw[←take_append_drop j sh,drop_eq_getElem_cons hj,ao,map_cons] at nd;have:=nodup_append.mp nd;exact this.2.2 _ hm _ (.head _) rfl
  refine⟨_,[some (.int c),~~~s,~~~↥h,j⁻¹,N⁻¹,fq],g2,rfl,?_,ps++qs,_,_,_,rfl,f2,f3,?_,?_,λp hp=>?_,λp hp=>?_⟩
  · show exs ct (b4 ct F (k+1)) ptB [some (.int c),~~~s,~~~↥h,j⁻¹,e4,e5] g=_;unfold ptB;rw[seq (by simp![op2,o0,a70,hN];rfl)];simp![v8,op2,m2,sl,M4,gn,f1]
  · rw[ao];refine nodup_append.mpr ⟨p3,f4.nodup (a0G _ l2 λa _ b _ e=>(Prod.mk.inj e).2),λa ha b hb e=>?_⟩;obtain⟨p,hp,rfl⟩:=al.mp ha;have hb:=f4.subset hb;obtain⟨y,_,rfl⟩:=al.mp hb;refine nw ?_;have e1:p.n=(sh[j]).1:=(Prod.mk.inj e).1;rw[←e1];exact p5 p hp
  · have:=f4.length_le;rw[aa,aa] at this;rw[aq];ac_nf
  · rw[take_succ_eq_append_getElem hj,ao];rcases aL.mp hp with hp|hp
    · exact mem_append_left _ (p5 p hp)
    · have:=f4.subset (List.mem_map_of_mem hp);obtain⟨y,_,e⟩:=al.mp this;refine mem_append_right _ ?_;have e1:(sh[j]).1=p.n:=(Prod.mk.inj e).1;rw[←e1];exact .head _
  · rcases aL.mp hp with hp|hp
    · exact p6 p hp
    · exact f5 p hp) ⟨[],none,none,none,rfl,(Pf.refl h).app _,b6,nodup_nil,ga _,(λ_ h=>nomatch h),λ_ h=>nomatch h⟩
 rw[aa,aK,aB] at q5 q6;rw[bf] at q6;refine⟨ps,q4,by ac_nf,λp hp=>⟨q6 p hp,q7 p hp⟩,?_⟩;rw[seq (by simp![len,a0V (h:=h++[.lst []]) (m:=↥sh) nofun,e1];rfl)];simp![];exact a2j q2 q3 (aj _) (b2V _)
end
def pk(sh:List (Str×Nat))(x:Nat):Str:=match sh[x%↥sh]? with
 |some p=>p.1
 |none=>""
theorem a6x(hs:4<=↥sh)(x:Nat):pk sh x∈sh.map (·.1)/\∃w,(shD sh)[x%↥sh]? =some (.tup [.str (pk sh x),w]):=by have lt:x%↥sh<↥sh:=fJ _ nofun;unfold pk;rw[ai lt];exact⟨List.mem_map_of_mem (br lt),_,a7C lt⟩
structure Lt where
 n:Str
 j:Str
 w:Str
 fs:List Str
def ltD(l:Lt):D:=.tup [.str l.n,.str l.j,.str l.w,.tup (l.fs.map .str)]
structure LtOk(sh:List (Str×Nat))(l:Lt):Prop where
 nm:b9 l.n=true
 jn:n8 a4C (.str l.j)=some (.int ↥l.fs)
 few:1<=↥l.fs/\↥l.fs<=4
 wy:inD (.str l.w) [.str "left",.str "right",.str "either"]=true
 js:l.j="both"∨l.j="back"∨l.j="none"∨l.j="clear"
 ws:l.w="left"∨l.w="right"∨l.w="either"
 fs:∀f∈l.fs,f∈sh.map (·.1)
theorem b2X(ms:List Lt):D.flats (ms.map ltD)=true:=C6 λd hd=>by obtain⟨p,_,rfl⟩:=al.mp hd;show D.flats [.str p.n,.str p.j,.str p.w,.tup (p.fs.map .str)]=true;simp only[D.flats,D.flat,E3,gA]
def jnL:List Str:=["both","back","none","both","clear","both"]
theorem c0x(i:Nat):∃j n,jnL[i%6]? =some j/\n8 jnD (.str j)=some ⇑(n)/\D8 (.str j) jnD=true/\n8 a4C (.str j)=some ⇑(n)/\(1<=n/\n<=4)/\(j="both"∨j="back"∨j="none"∨j="clear"):=by
 have:i%6=0∨i%6=1∨i%6=2∨i%6=3∨i%6=4∨i%6=5:=(by decide:∀r:Nat,r<6->r=0∨r=1∨r=2∨r=3∨r=4∨r=5) (i%6) (fJ _ ∅);rcases this with e|e|e|e|e|e<;>rw[e]
 · exact⟨"both",4,rfl,by decide,by decide,by decide,by decide,.inl rfl⟩
 · exact⟨"back",2,rfl,by decide,by decide,by decide,by decide,.inr (.inl rfl)⟩
 · exact⟨"none",1,rfl,by decide,by decide,by decide,by decide,.inr (.inr (.inl rfl))⟩
 · exact⟨"both",4,rfl,by decide,by decide,by decide,by decide,.inl rfl⟩
 · exact⟨"clear",1,rfl,by decide,by decide,by decide,by decide,.inr (.inr (.inr rfl))⟩
 · exact⟨"both",4,rfl,by decide,by decide,by decide,by decide,.inl rfl⟩
def wyL:List Str:=["left","right","either"]
theorem b9A(i:Nat):∃w,wyL[i%3]? =some w/\inD (.str w) [.str "left",.str "right",.str "either"]=true/\(w="left"∨w="right"∨w="either"):=by
 have:i%3=0∨i%3=1∨i%3=2:=(by decide:∀r:Nat,r<3->r=0∨r=1∨r=2) (i%3) (fJ _ ∅);rcases this with e|e|e<;>rw[e]
 · exact⟨"left",rfl,by decide,.inl rfl⟩
 · exact⟨"right",rfl,by decide,.inr (.inl rfl)⟩
 · exact⟨"either",rfl,by decide,.inr (.inr rfl)⟩
variable{ls:List Lt}
section
variable{ct:CT}{F:Nat->Option Fn}
theorem a5t{s:Nat}(hh:g[s]? =some (.lst (shD sh))):biD .len g [.ref s]=.ok ⇑↥sh g:=by rw[k7 hh];unfold shD;rw[aa]
theorem a8R{s x:Nat}(hs:4<=↥sh)(hh:g[s]? =some (.lst (shD sh))):∃w,ixD g (.ref s) ⇑(x%↥sh)=.ok (.tup [.str (pk sh x),w]) g:=by obtain⟨_,w,e⟩:=a6x hs x;exact⟨w,v5 hh e⟩
theorem b3h{s m:Nat}(hs:4<=↥sh)(hh:g[s]? =some (.lst (shD sh)))(e1:env[1]? =some (~~~s))(e6:env[6]? =some (N⁻¹))(e8:env[8]? =some (m⁻¹))(hm:m<=1000):
 ev ct c fcE env g=.ok (.ref ↥g) (g++[.lst ((List.range m).map λi=>.str (pk sh (N/(i*i*31+7))))]):=by
 unfold fcE;refine W8 (λi=>.str (pk sh (N/(i*i*31+7)))) (by simp![e8]) nofun λi hi=>?_;have ii:i*i<=1000000:=Nat.mul_le_mul (show i<=1000 by ac_nf) (show i<=1000 by ac_nf);have m1:O3 g ⇑i ⇑i=.ok ⇑(i*i) g:=by rw[M9 nofun];congr 2
 have m2:O3 g ⇑(i*i) (.int 31)=.ok ⇑(i*i*31) g:=by rw[M9 ∅];congr 2
 have a7:((i*i*31:Nat):Int)+7=((i*i*31+7:Nat):Int):=by ac_nf
 obtain⟨w,ix⟩:=a8R (x:=N/(i*i*31+7)) hs hh;simp![e1,e6,T9,op2,m1,m2,o0,a7,J9 (i*i*31+7) nofun nofun,a5t hh,C1 sh.length nofun,ix,a1U]
variable(bO:F 202=some o6)(bZ:F 203=some n9)
include bO
theorem a6H{k s a N0:Nat}{c:Int}{ns:List Str}(hs:4<=↥sh)(hh:h[s]? =some (.lst (shD sh)))(hj:j<↥ns)(n6:↥ns<=100)(ll:↥ls<=1000)(hn:b9 ns[j]=true)(ha:a=↥h)(p1:Pf h g)(p2:g[a]? =some (.lst (ns.map .str)))(p3:g[a+1]? =some (.lst (ls.map ltD)))(e6 e7 e8 e9:Option D):
 ∃l x6 x7 x8 x9 g',LtOk sh l/\l.n=ns[j]/\exs ct (b4 ct F (k+1)) lB [some (.int c),~~~s,N0⁻¹,~~~a,some (.ref (a+1)),j⁻¹,e6,e7,e8,e9] g=.ok (.nx [some (.int c),~~~s,N0⁻¹,~~~a,some (.ref (a+1)),j⁻¹,x6,x7,x8,x9]) g'/\Pf h g'/\g'[a]? =some (.lst (ns.map .str))/\g'[a+1]? =some (.lst ((ls++[l]).map ltD)):=by
 have a100:((j:Nat):Int)+100=((j+100:Nat):Int):=by ac_nf
 obtain⟨N,hN⟩:=C2 (ct:=ct) (k:=k) (c:=c) (j:=((j+100:Nat):Int)) (h:=g) bO nofun;obtain⟨jn,m,j1,j2,j3,j4,j5,j6⟩:=c0x N;obtain⟨wy,w1,w2,w3⟩:=b9A (N/6);have m6:∀h,p8 h ⇑N (.int 6)=.ok ⇑(N%6) h:=λh=>C1 6 ∅;have d6:∀h,u6 h ⇑N (.int 6)=.ok ⇑(N/6) h:=λh=>J9 6 ∅ ∅;have m3:∀(a:Nat) h,p8 h ⇑a (.int 3)=.ok ⇑(a%3) h:=λa h=>C1 3 ∅;have je:∀(env:u5) (h:AH),ev ct (b4 ct F (k+1)) jnE env h=.ok (.ref ↥h) (h++[.lst (jnL.map .str)]):=λenv h=>by unfold jnE jnL;simp![v8]
 have we:∀(env:u5) (h:AH),ev ct (b4 ct F (k+1)) wyE env h=.ok (.ref ↥h) (h++[.lst (wyL.map .str)]):=λenv h=>by unfold wyE wyL;simp![v8]
 have jx:∀h:AH,ixD (h++[.lst (jnL.map .str)]) (.ref ↥h) ⇑(N%6)=.ok (.str jn) (h++[.lst (jnL.map .str)]):=λh=>v5 b6 (by rw[ak,j1];rfl);have wx:∀h:AH,ixD (h++[.lst (wyL.map .str)]) (.ref ↥h) ⇑(N/6%3)=.ok (.str wy) (h++[.lst (wyL.map .str)]):=λh=>v5 b6 (by rw[ak,w1];rfl);have dx:∀h:AH,ixD (h++[.dict jnD]) (.ref ↥h) (.str jn)=.ok ⇑(m) (h++[.dict jnD]):=λh=>by simp only[ixD,b6,j3,fV,j2]
 have fl:((List.range m).map λi=>D.str (pk sh (N/(i*i*31+7))))=((List.range m).map λi=>pk sh (N/(i*i*31+7))).map .str:=by rw[aI];rfl
 refine⟨⟨ns[j],jn,wy,(List.range m).map λi=>pk sh (N/(i*i*31+7))⟩,N⁻¹,some (.str jn),m⁻¹,some (.tup (((List.range m).map λi=>pk sh (N/(i*i*31+7))).map .str)),(g++[Cell.lst (jnL.map .str)]++[Cell.dict jnD]++[Cell.lst (((List.range m).map λi=>pk sh (N/(i*i*31+7))).map .str)]++[Cell.lst (wyL.map .str)]).set (a+1) (.lst (ls.map ltD++[ltD ⟨ns[j],jn,wy,(List.range m).map λi=>pk sh (N/(i*i*31+7))⟩])),⟨hn,by simpa using j4,by simpa using j5,w2,j6,w3,λf hf=>?_⟩,rfl,?_,?_,?_,?_⟩
 · obtain⟨i,_,rfl⟩:=al.mp hf;exact(a6x hs _).1
 · unfold lB;rw[seq (by simp![op2,o0,a100,hN];rfl),seq (by simp![je,op2,m6,jx];rfl)];have P1:Pf h (g++[.lst (jnL.map .str)]):=p1.app _;have A1:=b5 (g:=[.lst (jnL.map .str)]) p2;have B1:=b5 (g:=[.lst (jnL.map .str)]) p3;generalize g++[Cell.lst (jnL.map .str)]=g1 at*
   unfold lB3;rw[seq (by simp![b5T,v8,dx];rfl)];have P2:Pf h (g1++[.dict jnD]):=P1.app _;have A2:=b5 (g:=[.dict jnD]) A1;have B2:=b5 (g:=[.dict jnD]) B1;generalize g1++[Cell.dict jnD]=g2 at*
   unfold lB4;have fo:=b3h (ct:=ct) (c:=b4 ct F (k+1)) (s:=s) (N:=N) (m:=m) (env:=[some (.int c),~~~s,N0⁻¹,~~~a,some (.ref (a+1)),j⁻¹,N⁻¹,some (.str jn),m⁻¹,e9]) (g:=g2) hs (P2.at hh) rfl rfl rfl nofun;rw[fl] at fo;generalize ((List.range m).map λi=>pk sh (N/(i*i*31+7)))=fs at*
   rw[seq (by simp![fo,N6 b6];rfl)];have A3:=b5 (g:=[.lst (fs.map .str)]) A2;have B3:=b5 (g:=[.lst (fs.map .str)]) B2;generalize g2++[Cell.lst (fs.map .str)]=g3 at*
   unfold lB5;have nx:ixD g3 (.ref a) ⇑j=.ok (.str ns[j]) g3:=v5 A3 (by rw[ak,ai hj];rfl);simp![E2 B3,nx,we,op2,d6,m3,wx,K1 (b5 (g:=[.lst (wyL.map .str)]) B3) (by rw[aa];ac_nf),ltD]
 · exact((((p1.app _).app _).app _).app _).set nofun
 · exact b7 nofun (b5 (b5 (b5 (b5 p2))))
 · rw[B0 (b5 (b5 (b5 (b5 p3)))),ao];rfl
include bZ
theorem a7O{k s:Nat}{c:Int}(hF:F 208=some B7)(hs:Shs sh)(hh:h[s]? =some (.lst (shD sh))):∃ls:List Lt,(1<=↥ls/\↥ls<=6)/\(ls.map (·.n)).Nodup/\(∀l∈ls,LtOk sh l)/\b4 ct F (k+2) 208 [.int c,.ref s] h=.ok (.ref ↥h) (h++[.lst (ls.map ltD)]):=by
 obtain⟨M,hM⟩:=C2 (ct:=ct) (k:=k) (c:=c) (j:=2) (h:=h) bO ∅;have d6:u6 h ⇑M (.int 6)=.ok ⇑(M/6) h:=J9 6 ∅ ∅;have m6:p8 h ⇑M (.int 6)=.ok ⇑(M%6) h:=C1 6 ∅;have a1:(1:Int)+((M%6:Nat):Int)=((1+M%6:Nat):Int):=by ac_nf
 have l6:M%6<6:=fJ _ ∅;obtain⟨ns,nk,hN⟩:=a0b (ct:=ct) (k:=k) (c:=M/6) (m:=1+M%6) (h:=h) bZ nofun;generalize hm:1+M%6=m at nk hN a1;rw[c9 hF rfl];simp only[B7];rw[seq (by simp![hM];rfl),seq (by simp![op2,d6,m6,o0,a1,hN];rfl)];have l1:↥(h++[Cell.lst (ns.map D.str)])=↥h+1:=by simp
 rw[seq (by simp![v8,l1];rfl)];have gN:(h++[Cell.lst (ns.map D.str)]++[Cell.lst []])[↥h]? =some (.lst (ns.map .str)):=b5 b6;have gW:(h++[Cell.lst (ns.map D.str)]++[Cell.lst []])[↥h+1]? =some (.lst []):=by rw[←l1];exact b6
 have pf:Pf h (h++[Cell.lst (ns.map D.str)]++[Cell.lst []]):=((Pf.refl h).app _).app _;generalize h++[Cell.lst (ns.map D.str)]++[Cell.lst []]=g at gN gW pf;have len:biD .len g [.ref ↥h]=.ok ⇑m g:=by rw[k7 gN,aa,nk.len]
 obtain⟨bG,g',e1,ls,e5,e6,e7,e8,e9,rfl,q2,q3,q4,q5,q6⟩:=D6 (g:=[]) (p:=.nm 5) (body:=exs ct (b4 ct F (k+1)) lB) (λj env hh=>∃ls:List Lt,∃e5 e6 e7 e8 e9,env=[some (.int c),~~~s,M⁻¹,~~~↥h,some (.ref (↥h+1)),e5,e6,e7,e8,e9]/\Pf h hh/\hh[↥h]? =some (.lst (ns.map .str))/\hh[↥h+1]? =some (.lst (ls.map ltD))/\ls.map (·.n)=ns.take j/\∀l∈ls,LtOk sh l) (λ_ _ _ _=>rfl) ((List.range m).map λi=>.int ((0:Int)+(i:Nat))) 0 [some (.int c),~~~s,M⁻¹,~~~↥h,some (.ref (↥h+1)),none,none,none,none,none] g (λj x env hg hx hP=>by
  obtain⟨ls,e5,e6,e7,e8,e9,rfl,p1,p2,p3,p4,p5⟩:=hP;obtain⟨hj,rfl⟩:=a1Z hx;rw[aB] at p4⊢;have hj':j<↥ns:=by rw[nk.len];exact hj
  have ll:↥ls<=1000:=by have:=fM List.length p4;rw[aa,aM] at this;ac_nf
  obtain⟨l,x6,x7,x8,x9,g',t1,t2,t3,t4,t5,t6⟩:=a6H (k:=k) (c:=c) (N0:=M) bO hs.lo hh hj' (by rw[nk.len];ac_nf) ll (nk.ok _ (br hj')) rfl p1 p2 p3 e6 e7 e8 e9;refine⟨_,_,g',rfl,t3,ls++[l],_,_,_,_,_,rfl,t4,t5,t6,?_,λy hy=>?_⟩
  · rw[ao,p4,take_succ_eq_append_getElem hj',←t2];rfl
  · rcases aL.mp hy with hy|hy
    · exact p5 y hy
    · rw[aO.mp hy];exact t1) ⟨[],none,none,none,none,none,rfl,pf,gN,gW,rfl,λ_ h=>nomatch h⟩
 rw[aa,aK,aB,←nk.len,bf] at q5;have ln:↥ls=m:=by rw[←nk.len,←q5,aa]
 refine⟨ls,by ac_nf,by rw[q5];exact nk.nd,q6,?_⟩;rw[seq (by simp![len,a0V (h:=g) (m:=m) nofun,e1];rfl)];simp![];exact a2j q2 q4 (Nat.le_succ _) (b2X _)
end
structure Cs where
 n:Str
 fs:List Str
def csD(c:Cs):D:=.tup [.str c.n,.tup (c.fs.map .str)]
structure CsOk(sh:List (Str×Nat))(c:Cs):Prop where
 nm:b9 c.n=true
 few:1<=↥c.fs/\↥c.fs<=20
 fs:∀f∈c.fs,f∈sh.map (·.1)
theorem b2Y(ms:List Cs):D.flats (ms.map csD)=true:=C6 λd hd=>by obtain⟨p,_,rfl⟩:=al.mp hd;show D.flats [.str p.n,.tup (p.fs.map .str)]=true;simp only[D.flats,D.flat,E3,gA]
theorem U2:∀{l:List D} {i j:Nat} {x:D},(t9 i l)[j]? =some x->∃d,l[j]? =some d/\x=.tup [.int ((i+j:Nat):Int),d]
 |[],i,j,x,h=>by simp[t9] at h
 |d::r,i,0,x,h=>by rw[t9] at h;simp at h;exact⟨d,rfl,h.symm⟩
 |d::r,i,j+1,x,h=>by rw[t9] at h;obtain⟨d',h1,h2⟩:=U2 (l:=r) (i:=i+1) (j:=j) (by simpa using h);refine⟨d',by simpa using h1,?_⟩;rw[h2,show i+1+j=i+(j+1) by ac_nf]
theorem O9:∀(l:List D) (i:Nat),↥(t9 i l)=↥l
 |[],_=>rfl
 |d::r,i=>by rw[t9,length_cons,O9 r,length_cons]
section
variable{ct:CT}{F:Nat->Option Fn}
theorem b4r{s:Nat}(hs:4<=↥sh)(hh:g[s]? =some (.lst (shD sh)))(e1:env[1]? =some (~~~s))(e6:env[6]? =some (N⁻¹)):
 ev ct c smE env g=.ok (.ref ↥g) (g++[.lst (((List.range (1+N%5)).map λi=>pk sh (N/(i*13+5))).map .str)]):=by
 unfold smE;have m20:p8 g ⇑N (.int 5)=.ok ⇑(N%5) g:=C1 5 ∅;have a1:(1:Int)+((N%5:Nat):Int)=((1+N%5:Nat):Int):=by ac_nf
 have l20:N%5<5:=fJ _ ∅;have r:=W8 (ct:=ct) (c:=c) (fr:=[6,1]) (a:=.bin .add (.i 1) (.bin .mod (.v 6) (.i 5))) (e:=(.ix (.ix (.v 2) (.bin .mod (.bin .div (.v 1) (.bin .add (.bin .mul (.v 0) (.i 13)) (.i 5))) (.bi .len (.o (.v 2))))) (.i 0))) (env:=env) (m:=1+N%5) (h:=g) (λi=>.str (pk sh (N/(i*13+5)))) (by simp![e6,op2,m20,o0,a1]) nofun (λi hi=>by
  have m1:O3 g ⇑i (.int 13)=.ok ⇑(i*13) g:=by rw[M9 ∅];congr 2
  have a5:((i*13:Nat):Int)+5=((i*13+5:Nat):Int):=by ac_nf
  obtain⟨w,ix⟩:=a8R (x:=N/(i*13+5)) hs hh;simp![e1,e6,T9,op2,m1,o0,a5,J9 (i*13+5) nofun nofun,a5t hh,C1 sh.length nofun,ix,a1U])
 rw[r,aI];rfl
variable(bO:F 202=some o6)(bZ:F 203=some n9)
include bO bZ
theorem a8m{k s:Nat}{c:Int}(hF:F 209=some B8)(hs:Shs sh)(hh:h[s]? =some (.lst (shD sh))):∃ls:List Cs,(1<=↥ls/\↥ls<=9)/\(ls.map (·.n)).Nodup/\(∀l∈ls,CsOk sh l)/\b4 ct F (k+2) 209 [.int c,.ref s] h=.ok (.ref ↥h) (h++[.lst (ls.map csD)]):=by
 obtain⟨M,hM⟩:=C2 (ct:=ct) (k:=k) (c:=c) (j:=3) (h:=h) bO ∅;have l1:↥(h++[Cell.lst []])=↥h+1:=by simp
 generalize hg:h++[Cell.lst []]=g0 at l1;have d4:u6 g0 ⇑M (.int 4)=.ok ⇑(M/4) g0:=J9 4 ∅ ∅;have m3:p8 g0 ⇑M (.int 3)=.ok ⇑(M%3) g0:=C1 3 ∅;have l3:M%3<3:=fJ _ ∅;obtain⟨m,mb,me⟩:∃m:Nat,(1<=m/\m<=9)/\(1:Int)+((M%3:Nat):Int)=(m:Int):=⟨1+M%3,by ac_nf,by ac_nf⟩;obtain⟨ns,nk,hN⟩:=a0b (ct:=ct) (k:=k) (c:=M/4) (m:=m) (h:=g0) bZ nofun;rw[c9 hF rfl];simp only[B8];rw[seq (by simp![hM];rfl),seq (by simp![v8,hg];rfl)];have gW:(g0++[Cell.lst (ns.map D.str)])[↥h]? =some (.lst []):=b5 (by rw[←hg];exact b6);have gN:(g0++[Cell.lst (ns.map D.str)])[↥h+1]? =some (.lst (ns.map .str)):=by rw[←l1];exact b6
 have pf:Pf h (g0++[Cell.lst (ns.map D.str)]):=by rw[←hg];exact((Pf.refl h).app _).app _
 rw[l1] at hN;generalize g0++[Cell.lst (ns.map D.str)]=g at gN gW pf hN;obtain⟨bG,g',e1,ls,e4,e5,e6,e7,rfl,q2,q3,q4,q5,q6⟩:=D6 (g:=[(↥h+1,.lst (ns.map .str))]) (p:=.tp (.nm 4>=>.nm 5>=>.nil)) (body:=exs ct (b4 ct F (k+1)) kB) (λj env hh=>∃ls:List Cs,∃e4 e5 e6 e7,env=[some (.int c),~~~s,M⁻¹,~~~↥h,e4,e5,e6,e7]/\Pf h hh/\hh[↥h+1]? =some (.lst (ns.map .str))/\hh[↥h]? =some (.lst (ls.map csD))/\ls.map (·.n)=ns.take j/\∀l∈ls,CsOk sh l) (λj env gg hP=>by
  obtain⟨_,_,_,_,_,_,_,h3,_⟩:=hP;simp[gOk,h3]) (t9 0 (ns.map .str)) 0 [some (.int c),~~~s,M⁻¹,~~~↥h,none,none,none,none] g (λj x env hg hx hP=>by
  obtain⟨ls,e4,e5,e6,e7,rfl,p1,p2,p3,p4,p5⟩:=hP;obtain⟨d,hd,rfl⟩:=U2 hx;have hj:j<↥ns:=by simpa using(ac.mp hd).1
  rw[ak,ai hj] at hd;obtain rfl:D.str ns[j]=d:=ax hd;rw[aB] at p4⊢;have a130:((j:Nat):Int)+130=((j+130:Nat):Int):=by ac_nf
  have jl:=nk.len;obtain⟨N,hN⟩:=C2 (ct:=ct) (k:=k) (c:=c) (j:=((j+130:Nat):Int)) (h:=hg) bO nofun;have so:=b4r (ct:=ct) (c:=b4 ct F (k+1)) (s:=s) (N:=N) (env:=[some (.int c),~~~s,M⁻¹,~~~↥h,j⁻¹,some (.str ns[j]),N⁻¹,e7]) (g:=hg) hs.lo (p1.at hh) rfl rfl;have l20:N%5<5:=fJ _ ∅;have fo:∀f∈(List.range (1+N%5)).map λi=>pk sh (N/(i*13+5)),f∈sh.map (·.1):=λf hf=>by obtain⟨i,_,rfl⟩:=al.mp hf;exact(a6x hs.lo _).1
  have fl:↥((List.range (1+N%5)).map λi=>pk sh (N/(i*13+5)))=1+N%5:=by simp
  generalize ((List.range (1+N%5)).map λi=>pk sh (N/(i*13+5)))=fs at so fo fl;have ll:↥(ls.map csD)<1000000:=by have:=fM List.length p4;rw[aa,aM] at this;rw[aa];ac_nf
  refine⟨_,[some (.int c),~~~s,M⁻¹,~~~↥h,j⁻¹,some (.str ns[j]),N⁻¹,~~~↥hg],(hg++[Cell.lst (fs.map .str)]).set ↥h (.lst (ls.map csD++[csD ⟨ns[j],fs⟩])),rfl,?_,ls++[⟨ns[j],fs⟩],_,_,_,_,rfl,(p1.app _).set (aj _),b7 nofun (b5 p2),?_,?_,λy hy=>?_⟩
  · show exs ct (b4 ct F (k+1)) kB [some (.int c),~~~s,M⁻¹,~~~↥h,j⁻¹,some (.str ns[j]),e6,e7] hg=_;unfold kB;rw[seq (by simp![op2,o0,a130,hN];rfl),seq (by simp![so];rfl)];simp![E2 (b5 (g:=[.lst (fs.map .str)]) p3),N6 b6,K1 (b5 (g:=[.lst (fs.map .str)]) p3) ll,csD]
  · rw[B0 (b5 p3),ao];rfl
  · rw[ao,p4,take_succ_eq_append_getElem hj];rfl
  · rcases aL.mp hy with hy|hy
    · exact p5 y hy
    · rw[aO.mp hy];exact⟨nk.ok _ (br hj),by simp only;ac_nf,fo⟩) ⟨[],none,none,none,none,rfl,pf,gN,gW,rfl,λ_ h=>nomatch h⟩
 rw[O9,aa,aB,bf] at q5;have ln:↥ls=m:=by rw[←nk.len,←q5,aa]
 refine⟨ls,by ac_nf,by rw[q5];exact nk.nd,q6,?_⟩;rw[seq (by simp![op2,d4,m3,o0,G7,eqS,me,hN,T4,gN,e1];rfl)];simp![];exact a2j q2 q4 (aj _) (b2Y _)
end
def Z3(sh:List (Str×Nat))(cs:List Cs)(it:Str):Prop:=it∈sh.map (·.1)∨∃c∈cs,it=("@":Str)++c.n
theorem a2r{l:List α}(f:α->D)(hl:1<=↥l)(x:Nat):∃y∈l,(l.map f)[x%↥l]? =some (f y):=by have lt:x%↥l<↥l:=fJ _ nofun;exact⟨l[x%↥l],br lt,by rw[ak,ai lt];rfl⟩
theorem a0c(h:b9 z=true):↥z<=12:=(a3B h).2
variable{cs:List Cs}{bF:List Str}{bJ:Nat}
section
variable{ct:CT}{F:Nat->Option Fn}
structure Trio(sh:List (Str×Nat))(ls:List Lt)(cs:List Cs)(h:AH)(s l c:Nat):Prop where
 s:h[s]? =some (.lst (shD sh))
 l:h[l]? =some (.lst (ls.map ltD))
 c:h[c]? =some (.lst (cs.map csD))
 s4:4<=↥sh
 l1:1<=↥ls
 c1:1<=↥cs
 lo:∀x∈ls,LtOk sh x
 co:∀x∈cs,CsOk sh x
theorem Trio.pf{s l c:Nat}(t:Trio sh ls cs h s l c)(p:Pf h g):Trio sh ls cs g s l c:=⟨p.at t.s,p.at t.l,p.at t.c,t.s4,t.l1,t.c1,t.lo,t.co⟩
theorem b0e{cf:CF}{s l c m a:Nat}{bJ:D}(T:Trio sh ls cs g s l c)(hj:j<=100)(hN:N=m/(j*j*17+3))(p:g[a]? =some (.lst (bF.map .str)))(il:↥bF<=1000)(e7 e8:Option D):
 ∃it x8,Z3 sh cs it/\exs ct cf iB [m⁻¹,some bJ,~~~s,~~~l,~~~c,~~~a,j⁻¹,e7,e8] g=.ok (.nx [m⁻¹,some bJ,~~~s,~~~l,~~~c,~~~a,j⁻¹,N⁻¹,x8]) (g.set a (.lst (bF.map .str++[.str it]))):=by
 have jj:j*j<=10000:=Nat.mul_le_mul hj hj;have m1:O3 g ⇑j ⇑j=.ok ⇑(j*j) g:=by rw[M9 nofun];congr 2
 have m2:O3 g ⇑(j*j) (.int 17)=.ok ⇑(j*j*17) g:=by rw[M9 ∅];congr 2
 have a3:((j*j*17:Nat):Int)+3=((j*j*17+3:Nat):Int):=by ac_nf
 have dv:u6 g ⇑m ⇑(j*j*17+3)=.ok ⇑N g:=by rw[hN];exact J9 _ nofun nofun
 have m3:p8 g ⇑N (.int 3)=.ok ⇑(N%3) g:=C1 3 ∅;have d3:u6 g ⇑N (.int 3)=.ok ⇑(N/3) g:=J9 3 ∅ ∅;have d50:u6 g ⇑N (.int 50)=.ok ⇑(N/50) g:=J9 50 ∅ ∅;have il':↥(bF.map D.str)<1000000:=by rw[aa];ac_nf
 unfold iB
 by_cases h0:((N%3:Nat):Int)=0
 · have q0:G7 g ⇑(N%3) (.int 0)=.ok (.bl true) g:=by rw[h0];rfl
   obtain⟨y,hy,ey⟩:=a2r csD T.c1 (N/3);have lc:biD .len g [.ref c]=.ok ⇑↥cs g:=by rw[k7 T.c,aa]
   have ix:ixD g (.ref c) ⇑(N/3%↥cs)=.ok (csD y) g:=v5 T.c ey;have yl:=a0c (T.co y hy).nm;refine⟨("@":Str)++y.n,e8,.inr ⟨y,hy,rfl⟩,?_⟩;rw[seq (by simp![op2,m1,m2,o0,a3,dv];rfl)];unfold iA;unfold csD at ix;simp![op2,m3,q0,E2 p,d3,lc,C1 cs.length T.c1,ix,a1U,u0 (h:=g) (x:="@") (y:=y.n) (by show 1+_<=_;ac_nf),K1 p il']
 · have q0:G7 g ⇑(N%3) (.int 0)=.ok (.bl false) g:=by simp only[G7,eqS,h0,fK]
   by_cases h1:((N%3:Nat):Int)=1
   · have q1:G7 g ⇑(N%3) (.int 1)=.ok (.bl true) g:=by rw[h1];rfl
     obtain⟨y,hy,ey⟩:=a2r ltD T.l1 (N/3);have lc:biD .len g [.ref l]=.ok ⇑↥ls g:=by rw[k7 T.l,aa]
     have ix:ixD g (.ref l) ⇑(N/3%↥ls)=.ok (ltD y) g:=v5 T.l ey;have yo:=T.lo y hy;obtain⟨z,hz,ez⟩:=a2r D.str yo.few.1 (N/50);have i3:ixD g (ltD y) (.int 3)=.ok (.tup (y.fs.map .str)) g:=ix_tup (i:=3) rfl;have lt:biD .len g [.tup (y.fs.map .str)]=.ok ⇑↥y.fs g:=by show R.ok (D.int (↥(y.fs.map D.str):Nat)) g=_;rw[aa]
     have iz:ixD g (.tup (y.fs.map .str)) ⇑(N/50%↥y.fs)=.ok (.str z) g:=ix_tup ez;refine⟨z,some (.tup (y.fs.map .str)),.inl (yo.fs z hz),?_⟩;rw[seq (by simp![op2,m1,m2,o0,a3,dv];rfl)];unfold iC;simp![op2,m3,q0,q1,d3,lc,C1 ls.length T.l1,ix,i3,E2 p,d50,lt,C1 y.fs.length yo.few.1,iz,K1 p il']
   · have q1:G7 g ⇑(N%3) (.int 1)=.ok (.bl false) g:=by simp only[G7,eqS,h1,fK]
     obtain⟨w,ix⟩:=a8R (x:=N/3) T.s4 T.s;refine⟨pk sh (N/3),e8,.inl (a6x T.s4 _).1,?_⟩;rw[seq (by simp![op2,m1,m2,o0,a3,dv];rfl)];unfold iD;simp![op2,m3,q0,q1,E2 p,d3,a5t T.s,C1 sh.length (show 0<↥sh by have:=T.s4;ac_nf),ix,a1U,K1 p il']
theorem a3H{k s l c m:Nat}(hF:F 210=some C0)(T:Trio sh ls cs h s l c)(hm:bJ<=4):∃bF:List Str,↥bF=bJ/\(∀i∈bF,Z3 sh cs i)/\b4 ct F (k+1) 210 [.int (m:Int),.int (bJ:Int),.ref s,.ref l,.ref c] h=.ok (.tup (bF.map .str)) h:=by
 rw[c9 hF rfl];simp only[C0];rw[seq (by simp![v8];rfl)];obtain⟨bG,g',e1,bF,e6,e7,e8,rfl,q2,q3,q4,q5⟩:=D6 (g:=[]) (p:=.nm 6) (body:=exs ct (b4 ct F k) iB) (λj env g=>∃bF:List Str,∃e6 e7 e8,env=[m⁻¹,bJ⁻¹,~~~s,~~~l,~~~c,~~~↥h,e6,e7,e8]/\Pf h g/\g[↥h]? =some (.lst (bF.map .str))/\↥bF=j/\∀i∈bF,Z3 sh cs i) (λ_ _ _ _=>rfl) ((List.range bJ).map λi=>.int ((0:Int)+(i:Nat))) 0 [m⁻¹,bJ⁻¹,~~~s,~~~l,~~~c,~~~↥h,none,none,none] (h++[.lst []]) (λj x env g hx hP=>by
  obtain⟨bF,e6,e7,e8,rfl,p1,p2,p3,p4⟩:=hP;obtain⟨hj,rfl⟩:=a1Z hx;rw[aB] at p3⊢;obtain⟨it,x8,t1,t2⟩:=b0e (cf:=b4 ct F k) (m:=m) (bJ:=.int (bJ:Int)) (T.pf p1) (show j<=100 by ac_nf) rfl p2 nofun e7 e8;refine⟨_,_,_,rfl,t2,bF++[it],_,_,_,rfl,p1.set (aj _),?_,by rw[aq,p3];rfl,λi hi=>?_⟩
  · rw[B0 p2,ao];rfl
  · rcases aL.mp hi with hi|hi
    · exact p4 i hi
    · rw[aO.mp hi];exact t1) ⟨[],none,none,none,rfl,(Pf.refl h).app _,b6,rfl,λ_ h=>nomatch h⟩
 rw[aa,aK,aB] at q4;refine⟨bF,q4,q5,?_⟩;rw[seq (by simp![a0V (h:=h++[.lst []]) (m:=bJ) nofun,e1];rfl)];simp![N6 q3];exact b0j q2 (E3 _)
end
structure Ru where
 t:Str
 f:Str
 b:List Str
 c:List Str
 a:List Str
 o:List Str
noncomputable def ruD(r:Ru):D:=.tup [.str r.t,.str r.f,.tup (r.b.map .str),.tup (r.c.map .str),.tup (r.a.map .str),.tup (r.o.map .str)]
def feD(p:Str×Bool):D:=.tup [.str p.1,.bl p.2]
structure RuOk(sh:List (Str×Nat))(cs:List Cs)(fe:List (Str×Bool))(r:Ru):Prop where
 nm:b9 r.t=true
 fe:r.f∈fe.map (·.1)
 b3:↥r.b<=3
 c4:1<=↥r.c/\↥r.c<=4
 a3:↥r.a<=3
 o3:1<=↥r.o/\↥r.o<=3
 b:∀i∈r.b,Z3 sh cs i
 c:∀i∈r.c,Z3 sh cs i
 a:∀i∈r.a,Z3 sh cs i
 o:∀i∈r.o,i∈sh.map (·.1)
theorem b2U(ms:List Ru):D.flats (ms.map ruD)=true:=C6 λd hd=>by obtain⟨p,_,rfl⟩:=al.mp hd;show D.flats [.str p.t,.str p.f,.tup (p.b.map .str),.tup (p.c.map .str),.tup (p.a.map .str),.tup (p.o.map .str)]=true;simp only[D.flats,D.flat,E3,gA]
def z6:List D:=[.int 0,.int 0,.int 0,.int 1,.int 2,.int 3]
def z7:List D:=[.int 1,.int 2,.int 1,.int 2,.int 3,.int 4,.int 1]
theorem b6y(x:Nat):∃z:Nat,z<=3/\z6[x%6]? =z⁻¹:=by
 have:x%6=0∨x%6=1∨x%6=2∨x%6=3∨x%6=4∨x%6=5:=(by decide:∀r:Nat,r<6->r=0∨r=1∨r=2∨r=3∨r=4∨r=5) (x%6) (fJ _ ∅);rcases this with e|e|e|e|e|e<;>rw[e]
 · exact⟨0,by decide,rfl⟩
 · exact⟨0,by decide,rfl⟩
 · exact⟨0,by decide,rfl⟩
 · exact⟨1,by decide,rfl⟩
 · exact⟨2,by decide,rfl⟩
 · exact⟨3,by decide,rfl⟩
theorem b9y(x:Nat):∃z:Nat,(1<=z/\z<=4)/\z7[x%7]? =z⁻¹:=by
 have:x%7=0∨x%7=1∨x%7=2∨x%7=3∨x%7=4∨x%7=5∨x%7=6:=(by decide:∀r:Nat,r<7->r=0∨r=1∨r=2∨r=3∨r=4∨r=5∨r=6) (x%7) (fJ _ ∅);rcases this with e|e|e|e|e|e|e<;>rw[e]
 · exact⟨1,by decide,rfl⟩
 · exact⟨2,by decide,rfl⟩
 · exact⟨1,by decide,rfl⟩
 · exact⟨2,by decide,rfl⟩
 · exact⟨3,by decide,rfl⟩
 · exact⟨4,by decide,rfl⟩
 · exact⟨1,by decide,rfl⟩
def z5(b:Bool):List D:=[.int 1,.int 1,.int 1,.int 2,.int (2+(if b then 1 else 0))]
theorem b9z(b:Bool)(x:Nat):∃z:Nat,(1<=z/\z<=3)/\(z5 b)[x%5]? =z⁻¹:=by
 have:x%5=0∨x%5=1∨x%5=2∨x%5=3∨x%5=4:=(by decide:∀r:Nat,r<5->r=0∨r=1∨r=2∨r=3∨r=4) (x%5) (fJ _ ∅);rcases this with e|e|e|e|e<;>rw[e]
 · exact⟨1,by decide,rfl⟩
 · exact⟨1,by decide,rfl⟩
 · exact⟨1,by decide,rfl⟩
 · exact⟨2,by decide,rfl⟩
 · cases b
   · exact⟨2,by decide,rfl⟩
   · exact⟨3,by decide,rfl⟩
section
variable{ct:CT}{F:Nat->Option Fn}
theorem b4j{s m:Nat}(hs:4<=↥sh)(hh:g[s]? =some (.lst (shD sh)))(e2:env[2]? =some (~~~s))(e9:env[9]? =some (N⁻¹))(e15:env[15]? =some (m⁻¹))(hm:m<=1000):
 ev ct c tdE env g=.ok (.ref ↥g) (g++[.lst (((List.range m).map λi=>pk sh (N/(i*7+3))).map .str)]):=by
 unfold tdE;have r:=W8 (ct:=ct) (c:=c) (fr:=[9,2]) (a:=.v 15) (e:=(.ix (.ix (.v 2) (.bin .mod (.bin .div (.v 1) (.bin .add (.bin .mul (.v 0) (.i 7)) (.i 3))) (.bi .len (.o (.v 2))))) (.i 0))) (env:=env) (m:=m) (h:=g) (λi=>.str (pk sh (N/(i*7+3)))) (by simp![e15]) nofun (λi hi=>by
  have m1:O3 g ⇑i (.int 7)=.ok ⇑(i*7) g:=by rw[M9 ∅];congr 2
  have a5:((i*7:Nat):Int)+3=((i*7+3:Nat):Int):=by ac_nf
  obtain⟨w,ix⟩:=a8R (x:=N/(i*7+3)) hs hh;simp![e2,e9,T9,op2,m1,o0,a5,J9 (i*7+3) nofun nofun,a5t hh,C1 sh.length nofun,ix,a1U])
 rw[r,aI];rfl
theorem b0V(e9:env[9]? =some (N⁻¹)):∃z0 z1 z2 n t,z0<=3/\(1<=z1/\z1<=4)/\z2<=3/\ev ct c szE env g=.ok (.ref n) (g++t)/\(g++t)[n]? =some (.lst [.int ((z0:Nat):Int),.int ((z1:Nat):Int),.int ((z2:Nat):Int)]):=by
 obtain⟨z0,a0,b0⟩:=b6y N;obtain⟨z1,a1,b1⟩:=b9y (N/6);obtain⟨z2,a2,b2⟩:=b6y (N/42);have m6:∀(a:Nat) h,p8 h ⇑a (.int 6)=.ok ⇑(a%6) h:=λa h=>C1 6 ∅;have m7:∀(a:Nat) h,p8 h ⇑a (.int 7)=.ok ⇑(a%7) h:=λa h=>C1 7 ∅;have d6:∀h,u6 h ⇑N (.int 6)=.ok ⇑(N/6) h:=λh=>J9 6 ∅ ∅;have d42:∀h,u6 h ⇑N (.int 42)=.ok ⇑(N/42) h:=λh=>J9 42 ∅ ∅;have l6:∀(env:u5) (h:AH),ev ct c e6L env h=.ok (.ref ↥h) (h++[.lst z6]):=λenv h=>by unfold e6L z6;simp![v8]
 have l7:∀(env:u5) (h:AH),ev ct c e7L env h=.ok (.ref ↥h) (h++[.lst z7]):=λenv h=>by unfold e7L z7;simp![v8];rfl
 have x0:∀h:AH,ixD (h++[.lst z6]) (.ref ↥h) ⇑(N%6)=.ok ⇑z0 (h++[.lst z6]):=λh=>v5 b6 b0;have x1:∀h:AH,ixD (h++[.lst z7]) (.ref ↥h) ⇑(N/6%7)=.ok ⇑z1 (h++[.lst z7]):=λh=>v5 b6 b1;have x2:∀h:AH,ixD (h++[.lst z6]) (.ref ↥h) ⇑(N/42%6)=.ok ⇑z2 (h++[.lst z6]):=λh=>v5 b6 b2;refine⟨z0,z1,z2,↥(g++[Cell.lst z6]++[Cell.lst z7]++[Cell.lst z6]),[.lst z6,.lst z7,.lst z6,.lst [.int ((z0:Nat):Int),.int ((z1:Nat):Int),.int ((z2:Nat):Int)]],a0,a1,a2,?_,?_⟩
 · unfold szE;simp![l6,l7,e9,op2,m6,m7,d6,d42,x0,x1,x2,v8];simp
 · rw[show g++[Cell.lst z6,.lst z7,.lst z6,.lst [.int ((z0:Nat):Int),.int ((z1:Nat):Int),.int ((z2:Nat):Int)]]=(g++[Cell.lst z6]++[Cell.lst z7]++[Cell.lst z6])++[.lst [.int ((z0:Nat):Int),.int ((z1:Nat):Int),.int ((z2:Nat):Int)]] by simp];exact b6
end
variable{cl:Nat}{fe:List (Str×Bool)}
section
variable{ct:CT}{F:Nat->Option Fn}
theorem c1n(e7:env[7]? =some (j⁻¹)):ev ct c e5L env g=.ok (.ref ↥g) (g++[.lst (z5 (decide ((j:Int)=0)))]):=by unfold e5L z5;have ib:∀b:Bool,biD .int g [.bl b]=.ok (.int (if b=true then 1 else 0)) g:=λb=>rfl;simp![e7,op2,G7,eqS,ib,o0,v8]
variable(bO:F 202=some o6)(dl:F 210=some C0)
include bO dl
theorem a9J{k s l a:Nat}{c:Int}{bJ:D}{db:Str}{rs:List Ru}(T:Trio sh ls cs g s l cl)(hf:g[f]? =some (.lst (fe.map feD)))(f1:1<=↥fe)(ht:b9 db=true)(hj:j<=100)(p:g[a]? =some (.lst (rs.map ruD)))(rl:↥rs<=1000)(e9 e10 e11 e12 e13 e14 e15 e16:Option D):
 ∃r x9 x10 x11 x12 x13 x14 x15 x16 t,RuOk sh cs fe r/\r.t=db/\exs ct (b4 ct F (k+1)) rB [some (.int c),some bJ,~~~s,~~~l,~~~cl,~~~f,~~~a,j⁻¹,some (.str db),e9,e10,e11,e12,e13,e14,e15,e16] g
  =.ok (.nx [some (.int c),some bJ,~~~s,~~~l,~~~cl,~~~f,~~~a,j⁻¹,some (.str db),x9,x10,x11,x12,x13,x14,x15,x16]) ((g++t).set a (.lst ((rs++[r]).map ruD))):=by
 have a160:((j:Nat):Int)+160=((j+160:Nat):Int):=by ac_nf
 have a190:((j:Nat):Int)+190=((j+190:Nat):Int):=by ac_nf
 obtain⟨N,hN⟩:=C2 (ct:=ct) (k:=k) (c:=c) (j:=((j+160:Nat):Int)) (h:=g) bO nofun;obtain⟨M,hM⟩:=C2 (ct:=ct) (k:=k) (c:=c) (j:=((j+190:Nat):Int)) (h:=g) bO nofun;obtain⟨z0,z1,z2,n,t1,b0,b1,b2,sz,sx⟩:=b0V (ct:=ct) (c:=b4 ct F (k+1)) (N:=N) (env:=[some (.int c),some bJ,~~~s,~~~l,~~~cl,~~~f,~~~a,j⁻¹,some (.str db),N⁻¹,M⁻¹,e11,e12,e13,e14,e15,e16]) (g:=g) rfl;have T1:Trio sh ls cs (g++t1) s l cl:=T.pf ((Pf.refl g).app _);have d11:u6 (g++t1) ⇑M (.int 11)=.ok ⇑(M/11) (g++t1):=J9 11 ∅ ∅;have d101:u6 (g++t1) ⇑M (.int 101)=.ok ⇑(M/101) (g++t1):=J9 101 ∅ ∅;have m5:O3 (g++t1) (.int 5) ⇑j=.ok ⇑(5*j) (g++t1):=by rw[M9 nofun];congr 2
 have ad1:((M/11:Nat):Int)+((5*j:Nat):Int)=((M/11+5*j:Nat):Int):=by ac_nf
 have ad2:((M/101:Nat):Int)+3=((M/101+3:Nat):Int):=by ac_nf
 have i0:ixD (g++t1) (.ref n) (.int 0)=.ok ⇑z0 (g++t1):=v7 0 0 rfl sx rfl;have i1:ixD (g++t1) (.ref n) (.int 1)=.ok ⇑z1 (g++t1):=v7 1 1 rfl sx rfl;have i2:ixD (g++t1) (.ref n) (.int 2)=.ok ⇑z2 (g++t1):=v7 2 2 rfl sx rfl;obtain⟨ib,q1,q2,q3⟩:=a3H (ct:=ct) (k:=k) (m:=M) (bJ:=z0) dl T1 nofun;obtain⟨ic,u1,u2,u3⟩:=a3H (ct:=ct) (k:=k) (m:=M/11+5*j) (bJ:=z1) dl T1 nofun;obtain⟨ia,v1,v2,v3⟩:=a3H (ct:=ct) (k:=k) (m:=M/101+3) (bJ:=z2) dl T1 nofun;obtain⟨z,zb,zx⟩:=b9z (decide ((j:Int)=0)) (N/252);have G1:Pf g (g++t1):=(Pf.refl g).app _;have p1:=b5 (g:=t1) p;have hf1:=b5 (g:=t1) hf;have e5:=c1n (ct:=ct) (c:=b4 ct F (k+1)) (j:=j) (env:=[some (.int c),some bJ,~~~s,~~~l,~~~cl,~~~f,~~~a,j⁻¹,some (.str db),N⁻¹,M⁻¹,~~~n,some (.tup (ib.map .str)),some (.tup (ic.map .str)),some (.tup (ia.map .str)),e15,e16]) (g:=g++t1) rfl;have d252:∀h,u6 h ⇑N (.int 252)=.ok ⇑(N/252) h:=λh=>J9 252 ∅ ∅;have m5':∀(a:Nat) h,p8 h ⇑a (.int 5)=.ok ⇑(a%5) h:=λa h=>C1 5 ∅;have ez:ixD (g++t1++[.lst (z5 (decide ((j:Int)=0)))]) (.ref ↥(g++t1)) ⇑(N/252%5)=.ok ⇑z (g++t1++[.lst (z5 (decide ((j:Int)=0)))]):=v5 b6 zx;have td:=b4j (ct:=ct) (c:=b4 ct F (k+1)) (s:=s) (N:=N) (m:=z) (env:=[some (.int c),some bJ,~~~s,~~~l,~~~cl,~~~f,~~~a,j⁻¹,some (.str db),N⁻¹,M⁻¹,~~~n,some (.tup (ib.map .str)),some (.tup (ic.map .str)),some (.tup (ia.map .str)),z⁻¹,e16]) (g:=g++t1++[.lst (z5 (decide ((j:Int)=0)))]) T.s4 (b5 T1.s) rfl rfl rfl nofun;have fo:∀x∈(List.range z).map λi=>pk sh (N/(i*7+3)),x∈sh.map (·.1):=λx hx=>by obtain⟨i,_,rfl⟩:=al.mp hx;exact(a6x T.s4 _).1
 have fl:↥((List.range z).map λi=>pk sh (N/(i*7+3)))=z:=by simp
 generalize ((List.range z).map λi=>pk sh (N/(i*7+3)))=fs at td fo fl;obtain⟨y,hy,ey⟩:=a2r feD f1 (N/1260);have d1260:∀h,u6 h ⇑N (.int 1260)=.ok ⇑(N/1260) h:=λh=>J9 1260 ∅ ∅;have hf2:=b5 (g:=[.lst (fs.map .str)]) (b5 (g:=[.lst (z5 (decide ((j:Int)=0)))]) hf1);have p2:=b5 (g:=[.lst (fs.map .str)]) (b5 (g:=[.lst (z5 (decide ((j:Int)=0)))]) p1);have lf:biD .len (g++t1++[.lst (z5 (decide ((j:Int)=0)))]++[.lst (fs.map .str)]) [.ref f]=.ok ⇑↥fe (g++t1++[.lst (z5 (decide ((j:Int)=0)))]++[.lst (fs.map .str)]):=by rw[k7 hf2,aa]
 have ix:ixD (g++t1++[.lst (z5 (decide ((j:Int)=0)))]++[.lst (fs.map .str)]) (.ref f) ⇑(N/1260%↥fe)=.ok (.tup [.str y.1,.bl y.2]) (g++t1++[.lst (z5 (decide ((j:Int)=0)))]++[.lst (fs.map .str)]):=v5 hf2 ey;have rl':↥(rs.map ruD)<1000000:=by rw[aa];ac_nf
 refine⟨⟨db,y.1,ib,ic,ia,fs⟩,N⁻¹,M⁻¹,~~~n,some (.tup (ib.map .str)),some (.tup (ic.map .str)),some (.tup (ia.map .str)),z⁻¹,some (.tup (fs.map .str)),t1++[.lst (z5 (decide ((j:Int)=0)))]++[.lst (fs.map .str)],⟨ht,List.mem_map_of_mem hy,by simp only;ac_nf,by simp only;ac_nf,by simp only;ac_nf,by simp only;ac_nf,q2,u2,v2,fo⟩,rfl,?_⟩;unfold rB;rw[seq (by simp![op2,o0,a160,hN];rfl),seq (by simp![op2,o0,a190,hM];rfl),seq (by simp![sz];rfl)];unfold rB3;rw[seq (by simp![i0,q3];rfl)];unfold rB4;rw[seq (by simp![op2,d11,m5,o0,ad1,i1,u3];rfl)];unfold rB5;rw[seq (by simp![op2,d101,o0,ad2,i2,v3];rfl)];unfold rB6;rw[seq (by simp![e5,op2,d252,m5',ez];rfl),seq (by simp![td,N6 b6];rfl)];unfold rB7;simp![E2 p2,op2,d1260,lf,C1 fe.length f1,ix,a1U,K1 p2 rl',ao];rw[show g++(t1++[Cell.lst (z5 (decide ((j:Int)=0)))]++[Cell.lst (fs.map .str)])=g++t1++[.lst (z5 (decide ((j:Int)=0)))]++[.lst (fs.map .str)] by simp];rfl
variable(bZ:F 203=some n9)
include bZ
theorem b1e{k s l m:Nat}{c:Int}(hF:F 211=some w5)(T:Trio sh ls cs h s l cl)(hf:h[f]? =some (.lst (fe.map feD)))(f1:1<=↥fe)(hm:m<=26):
 ∃rs:List Ru,↥rs=m/\(rs.map (·.t)).Nodup/\(∀r∈rs,RuOk sh cs fe r)/\b4 ct F (k+2) 211 [.int c,.int (m:Int),.ref s,.ref l,.ref cl,.ref f] h=.ok (.ref ↥h) (h++[.lst (rs.map ruD)]):=by
 have l1:↥(h++[Cell.lst []])=↥h+1:=by simp
 have gW0:(h++[Cell.lst []])[↥h]? =some (.lst []):=b6;have pf0:Pf h (h++[Cell.lst []]):=(Pf.refl h).app _;have st:exs ct (b4 ct F (k+1)) w5.body [some (.int c),m⁻¹,~~~s,~~~l,~~~cl,~~~f,none,none,none,none,none,none,none,none,none,none,none] h=exs ct (b4 ct F (k+1)) (.for (.tp (.nm 7>=>.nm 8>=>.nil)) (.enum (.call 203 (.call 202 (.v 0>=>.o (.i 4))>=>.o (.v 1)))) rB>=>.o (.ret (.v 6))) [some (.int c),m⁻¹,~~~s,~~~l,~~~cl,~~~f,~~~↥h,none,none,none,none,none,none,none,none,none,none] (h++[.lst []]):=by simp only[w5];exact seq (by simp![v8])
 rw[c9 hF rfl];show∃rs:List Ru,_/\_/\_/\gcR 2 h (a4h (exs ct (b4 ct F (k+1)) w5.body [some (.int c),m⁻¹,~~~s,~~~l,~~~cl,~~~f,none,none,none,none,none,none,none,none,none,none,none] h))=_;rw[st];clear st;generalize h++[Cell.lst []]=g0 at l1 gW0 pf0;obtain⟨M,hM⟩:=C2 (ct:=ct) (k:=k) (c:=c) (j:=4) (h:=g0) bO ∅;obtain⟨ns,nk,hN⟩:=a0b (ct:=ct) (k:=k) (c:=M) (m:=m) (h:=g0) bZ hm;have gW:(g0++[Cell.lst (ns.map D.str)])[↥h]? =some (.lst []):=b5 gW0;have gN:(g0++[Cell.lst (ns.map D.str)])[↥h+1]? =some (.lst (ns.map .str)):=by rw[←l1];exact b6
 have pf:Pf h (g0++[Cell.lst (ns.map D.str)]):=pf0.app _;rw[l1] at hN;generalize g0++[Cell.lst (ns.map D.str)]=g at gN gW pf hN;have nl:=nk.len;obtain⟨bG,g',e1,rs,e7,e8,e9,e10,e11,e12,e13,e14,e15,e16,rfl,q2,q3,q4,q5,q6⟩:=D6 (g:=[(↥h+1,.lst (ns.map .str))]) (p:=.tp (.nm 7>=>.nm 8>=>.nil)) (body:=exs ct (b4 ct F (k+1)) rB) (λj env hh=>∃rs:List Ru,∃e7 e8 e9 e10 e11 e12 e13 e14 e15 e16,env=[some (.int c),m⁻¹,~~~s,~~~l,~~~cl,~~~f,~~~↥h,e7,e8,e9,e10,e11,e12,e13,e14,e15,e16]/\Pf h hh/\hh[↥h+1]? =some (.lst (ns.map .str))/\hh[↥h]? =some (.lst (rs.map ruD))/\rs.map (·.t)=ns.take j/\∀r∈rs,RuOk sh cs fe r) (λj env gg hP=>by
  obtain⟨_,_,_,_,_,_,_,_,_,_,_,_,_,h3,_⟩:=hP;simp[gOk,h3]) (t9 0 (ns.map .str)) 0 [some (.int c),m⁻¹,~~~s,~~~l,~~~cl,~~~f,~~~↥h,none,none,none,none,none,none,none,none,none,none] g (λj x env hg hx hP=>by
  obtain⟨rs,e7,e8,e9,e10,e11,e12,e13,e14,e15,e16,rfl,p1,p2,p3,p4,p5⟩:=hP;obtain⟨d,hd,rfl⟩:=U2 hx;have hj:j<↥ns:=by simpa using(ac.mp hd).1
  rw[ak,ai hj] at hd;obtain rfl:D.str ns[j]=d:=ax hd;rw[aB] at p4⊢;have ll:↥rs<=1000:=by have:=fM List.length p4;rw[aa,aM] at this;ac_nf
  obtain⟨r,x9,x10,x11,x12,x13,x14,x15,x16,t,t1,t2,t3⟩:=a9J (ct:=ct) (k:=k) (c:=c) (bJ:=.int (m:Int)) bO dl (T.pf p1) (p1.at hf) f1 (nk.ok _ (br hj)) (show j<=100 by ac_nf) p3 ll e9 e10 e11 e12 e13 e14 e15 e16;refine⟨_,_,_,rfl,t3,rs++[r],_,_,_,_,_,_,_,_,_,_,rfl,(p1.app _).set (aj _),b7 nofun (b5 p2),B0 (b5 p3),?_,λy hy=>?_⟩
  · rw[ao,p4,take_succ_eq_append_getElem hj,←t2];rfl
  · rcases aL.mp hy with hy|hy
    · exact p5 y hy
    · rw[aO.mp hy];exact t1) ⟨[],none,none,none,none,none,none,none,none,none,none,rfl,pf,gN,gW,rfl,λ_ h=>nomatch h⟩
 rw[O9,aa,aB,bf] at q5;have ln:↥rs=m:=by rw[←nk.len,←q5,aa]
 refine⟨rs,ln,by rw[q5];exact nk.nd,q6,?_⟩;rw[seq (by simp![hM,hN,T4,gN,e1];rfl)];simp![];exact a2j q2 q4 (aj _) (b2U _)
end
structure HL where
 sh:List (Str×Nat)
 mr:List Mk
 pt:List Pt
 ls:List Lt
 gp:List Str
 cs:List Cs
 fe:List (Str×Bool)
 ru:List Ru
structure HLok(H:HL):Prop where
 sh:Shs H.sh
 mr:(H.mr.map (·.n)).Sublist (H.sh.map (·.1))
 mko:∀m∈H.mr,a0L m.s/\a0z m.a/\a0z m.b
 pt:(H.pt.map ptK).Nodup
 ptl:↥H.pt<=100
 pto:∀p∈H.pt,p.n∈H.sh.map (·.1)/\a0L p.s/\a0z p.a
 ls:1<=↥H.ls/\↥H.ls<=6
 lsn:(H.ls.map (·.n)).Nodup
 lso:∀l∈H.ls,LtOk H.sh l
 gp:H.gp.Sublist (H.ls.map (·.n))
 cs:1<=↥H.cs/\↥H.cs<=9
 csn:(H.cs.map (·.n)).Nodup
 cso:∀c∈H.cs,CsOk H.sh c
 fe:1<=↥H.fe/\↥H.fe<=3
 fen:Nms (H.fe.map (·.1)) ↥H.fe
 rul:↥H.ru<=26
 run:(H.ru.map (·.t)).Nodup
 ruo:∀r∈H.ru,RuOk H.sh H.cs H.fe r
structure HAt(H:HL)(g:AH)(a b c d e f i j:Nat):Prop where
 sh:g[a]? =some (.lst (shD H.sh))
 mr:g[b]? =some (.lst (H.mr.map mkD))
 pt:g[c]? =some (.lst (H.pt.map ptD))
 ls:g[d]? =some (.lst (H.ls.map ltD))
 gp:g[e]? =some (.lst (H.gp.map .str))
 cs:g[f]? =some (.lst (H.cs.map csD))
 fe:g[i]? =some (.lst (H.fe.map feD))
 ru:g[j]? =some (.lst (H.ru.map ruD))
noncomputable def feF(M:Nat)(x:D):D:=match x with
 |.tup [.int j,n]=>(match n with
  |.str n=>feD (n,decide ((0:Int)<((M/(j.toNat+5)%4:Nat):Int)))
  |_=>.non)
 |_=>.non
theorem b3e(M:Nat):∀(ns:List Str) (i:Nat),∃fe:List (Str×Bool),(t9 i (ns.map .str)).map (feF M)=fe.map feD/\fe.map (·.1)=ns
 |[],_=>⟨[],rfl,rfl⟩
 |n::ns,i=>by obtain⟨fe,h1,h2⟩:=b3e M ns (i+1);refine⟨(n,decide ((0:Int)<((M/(((i:Nat):Int).toNat+5)%4:Nat):Int)))::fe,?_,by rw[map_cons,h2]⟩;rw[map_cons,t9,map_cons,h1];rfl
noncomputable def gpB(M:Nat)(x:D):Bool:=match x with
 |.tup [.int j,_]=>decide (((M/(7*j.toNat+9)%4:Nat):Int)=0)
 |_=>false
def gpF(x:D):D:=match x with
 |.tup [_,.tup (n::_)]=>n
 |_=>.non
theorem b2D(M:Nat):∀(ls:List Lt) (i:Nat),∃gp:List Str,((t9 i (ls.map ltD)).filter (gpB M)).map gpF=gp.map .str/\gp.Sublist (ls.map (·.n))
 |[],_=>⟨[],rfl,.slnil⟩
 | l::ls,i=>by
  obtain⟨gp,h1,h2⟩:=b2D M ls (i+1);rw[map_cons,t9];cases hb:gpB M (.tup [.int (i:Nat),ltD l]) with
  |true=>
   refine⟨l.n::gp,?_,by rw[map_cons];exact h2.cons_cons _⟩;rw[List.filter_cons_of_pos hb,map_cons,h1];rfl
  |false=>
   refine⟨gp,?_,by rw[map_cons];exact h2.cons _⟩;rw[List.filter_cons_of_neg (by rw[hb];exact bq),h1]
section
variable{ct:CT}{F:Nat->Option Fn}
theorem b5I{d:Nat}(h4:env[4]? =some (~~~d))(h6:env[6]? =some (M⁻¹))(hd:g[d]? =some (.lst (ls.map ltD)))(hl:↥ls<=1000):∃gp:List Str,gp.Sublist (ls.map (·.n))/\ev ct c gpE env g=.ok (.ref ↥g) (g++[.lst (gp.map .str)]):=by
 obtain⟨gp,g1,g2⟩:=b2D M ls 0;refine⟨gp,g2,?_⟩;unfold gpE;rw[A9 (l:=t9 0 (ls.map ltD)) (g:=[(d,.lst (ls.map ltD))]) (h1:=g) (by simp![h4,T4,hd]) (by simp[gOk,hd]) (gpB M) gpF (λx=>match x with|.tup [a,b]=>[some a,some b,M⁻¹]|_=>[]) (λx hx=>by
  obtain⟨j,hj⟩:=List.mem_iff_getElem?.mp hx;obtain⟨y,hy,rfl⟩:=U2 hj;have hj':j<↥ls:=by simpa using(ac.mp hy).1
  rw[ak,ai hj'] at hy;obtain rfl:ltD ls[j]=y:=ax hy;rw[aB];have m7:O3 g (.int 7) ⇑j=.ok ⇑(7*j) g:=by rw[M9 nofun];congr 2
  have a9:((7*j:Nat):Int)+9=((7*j+9:Nat):Int):=by ac_nf
  have m4:∀a:Nat,p8 g ⇑a (.int 4)=.ok ⇑(a%4) g:=λa=>C1 4 ∅;refine⟨by simp only[D9,N3,F9,map_cons,map_nil,h6,T9];rfl,?_,λ_=>?_⟩
  · simp![op2,m7,o0,a9,J9 (7*j+9) nofun nofun,m4,G7,eqS,gpB,Int.toNat_natCast]
  · unfold ltD;simp![a1U,gpF]) (by rw[O9,aa];show _<=16777216;ac_nf),g1]
theorem b3d{k:Nat}(bZ:F 203=some n9)(h6:env[6]? =some (M⁻¹)):∃(fe:List (Str×Bool)) (t:Cell),(1<=↥fe/\↥fe<=3)/\Nms (fe.map (·.1)) ↥fe/\ev ct (b4 ct F (k+1)) feE env g=.ok (.ref (↥g+1)) (g++[t]++[.lst (fe.map feD)]):=by
 have d3:u6 g ⇑M (.int 3)=.ok ⇑(M/3) g:=J9 3 ∅ ∅;have m3:p8 g ⇑M (.int 3)=.ok ⇑(M%3) g:=C1 3 ∅;have a1:(1:Int)+((M%3:Nat):Int)=((1+M%3:Nat):Int):=by ac_nf
 have l3:M%3<3:=fJ _ ∅;obtain⟨ns,nk,hN⟩:=a0b (ct:=ct) (k:=k) (c:=M/3) (m:=1+M%3) (h:=g) bZ nofun;obtain⟨fe,h1,h2⟩:=b3e M ns 0;have fl:↥fe=1+M%3:=by rw[←nk.len,←h2,aa]
 refine⟨fe,.lst (ns.map .str),by ac_nf,by rw[h2,fl];exact nk,?_⟩;have lg:↥(g++[Cell.lst (ns.map D.str)])=↥g+1:=by simp
 unfold feE;rw[o9 (l:=t9 0 (ns.map .str)) (g:=[(↥g,.lst (ns.map .str))]) (h1:=g++[.lst (ns.map .str)]) (by simp![h6,op2,d3,m3,o0,a1,hN,T4,b6]) (by simp[gOk]) (feF M) (λx=>match x with|.tup [a,b]=>[some a,some b,M⁻¹]|_=>[]) (λx hx=>by
  obtain⟨j,hj⟩:=List.mem_iff_getElem?.mp hx;obtain⟨y,hy,rfl⟩:=U2 hj;have hj':j<↥ns:=by simpa using(ac.mp hy).1
  rw[ak,ai hj'] at hy;obtain rfl:D.str ns[j]=y:=ax hy;rw[aB];have jl:=nk.len;have a5:((j:Nat):Int)+5=((j+5:Nat):Int):=by ac_nf
  have m4:∀(a:Nat) h,p8 h ⇑a (.int 4)=.ok ⇑(a%4) h:=λa h=>C1 4 ∅;refine⟨by simp only[D9,N3,F9,map_cons,map_nil,h6,T9];rfl,?_⟩;simp![op2,o0,a5,J9 (j+5) nofun nofun,m4,G9,feF,feD,Int.toNat_natCast]) (by rw[O9,aa,nk.len];show _<=16777216;ac_nf),h1,lg]
variable(cY:F 201=some E8)(bO:F 202=some o6)(bZ:F 203=some n9)(eU:F 204=some C7)(cP:F 205=some A8)(eT:F 206=some D1)(eS:F 207=some C8)(eR:F 208=some B7)(eQ:F 209=some B8)(dl:F 210=some C0)(eP:F 211=some w5)
include cY bO bZ eU cP eT eS eR eQ dl eP
theorem b5C{k m:Nat}(hF:F 212=some J2)(hr:h[n]? =some (.rol (ns.map .int)))(hm:m<=26):
 ∃H g a b c d e f i j,HLok H/\↥H.ru=m/\Pf h g/\HAt H g a b c d e f i j/\b4 ct F (k+3) 212 [.ref n,.int (m:Int)] h=.ok (.tup [.ref a,.ref b,.ref c,.ref d,.ref e,.ref f,.ref i,.ref j]) g:=by
 obtain⟨c0,hc0⟩:=U4 (ct:=ct) (k:=k+1) (j:=0) cY hr;obtain⟨sh,s1,s2⟩:=a9F (ct:=ct) (k:=k) (c:=c0) (h:=h) bO bZ eU;have P1:Pf h (h++[.lst (shD sh)]):=(Pf.refl h).app _;have A1:(h++[Cell.lst (shD sh)])[↥h]? =some (.lst (shD sh)):=b6;have st1:exs ct (b4 ct F (k+2)) (.set 2 (.call 201 (.v 0>=>.o (.i 0)))>=>.set 3 (.call 204 (.o (.v 2)))>=>hB2) [~~~n,m⁻¹,none,none,none,none,none,none,none,none,none,none] h=exs ct (b4 ct F (k+2)) hB2 [~~~n,m⁻¹,some (.int c0),~~~↥h,none,none,none,none,none,none,none,none] (h++[.lst (shD sh)]):=by rw[seq (by simp![show b4 ct F (k+2) 201 [.ref n,.int 0] h=.ok (.int c0) h from hc0];rfl)];exact seq (by simp![s2])
 generalize h++[Cell.lst (shD sh)]=g1 at P1 A1 st1;obtain⟨c1,hc1⟩:=U4 (ct:=ct) (k:=k+1) (j:=1) cY (P1.at hr);obtain⟨ls,l1,l2,l3,l4⟩:=a7O (ct:=ct) (k:=k) (c:=c1) (h:=g1) bO bZ eR s1 A1;have P2:Pf h (g1++[.lst (ls.map ltD)]):=P1.app _;have A2:=b5 (g:=[.lst (ls.map ltD)]) A1;have B2:(g1++[Cell.lst (ls.map ltD)])[↥g1]? =some (.lst (ls.map ltD)):=b6;generalize hd:↥g1=d at l4 B2;generalize hg2:g1++[Cell.lst (ls.map ltD)]=g2 at P2 A2 B2 l4;obtain⟨c2,hc2⟩:=U4 (ct:=ct) (k:=k+1) (j:=2) cY (P2.at hr);obtain⟨cs,k1,k2,k3,k4⟩:=a8m (ct:=ct) (k:=k) (c:=c2) (h:=g2) bO bZ eQ s1 A2;have P3:Pf h (g2++[.lst (cs.map csD)]):=P2.app _;have A3:=b5 (g:=[.lst (cs.map csD)]) A2;have B3:=b5 (g:=[.lst (cs.map csD)]) B2;have C3:(g2++[Cell.lst (cs.map csD)])[↥g2]? =some (.lst (cs.map csD)):=b6;generalize hf:↥g2=f at k4 C3;generalize hg3:g2++[Cell.lst (cs.map csD)]=g3 at P3 A3 B3 C3 k4;obtain⟨c2',hc2'⟩:=U4 (ct:=ct) (k:=k+1) (j:=2) cY (P3.at hr);obtain⟨M,hM⟩:=C2 (ct:=ct) (k:=k+1) (c:=c2') (j:=5) (h:=g3) bO ∅;obtain⟨fe,t,f1,f2,f3⟩:=b3d (ct:=ct) (k:=k+1) (M:=M) (env:=[~~~n,m⁻¹,some (.int c0),~~~↥h,~~~d,~~~f,M⁻¹,none,none,none,none,none]) (g:=g3) bZ rfl;have lg:↥(g3++[t])=↥g3+1:=by simp
 have P4:Pf h (g3++[t]++[.lst (fe.map feD)]):=(P3.app _).app _;have A4:=b5 (g:=[.lst (fe.map feD)]) (b5 (g:=[t]) A3);have B4:=b5 (g:=[.lst (fe.map feD)]) (b5 (g:=[t]) B3);have C4:=b5 (g:=[.lst (fe.map feD)]) (b5 (g:=[t]) C3);have D4:(g3++[t]++[Cell.lst (fe.map feD)])[↥g3+1]? =some (.lst (fe.map feD)):=by rw[←lg];exact b6
 generalize hi:↥g3+1=i at f3 D4;generalize hg4:g3++[t]++[Cell.lst (fe.map feD)]=g4 at P4 A4 B4 C4 D4 f3;obtain⟨c3,hc3⟩:=U4 (ct:=ct) (k:=k+1) (j:=3) cY (P4.at hr);obtain⟨rs,r1,r2,r3,r4⟩:=b1e (ct:=ct) (k:=k) (c:=c3) (m:=m) (h:=g4) bO dl bZ eP (T:=⟨A4,B4,C4,s1.lo,l1.1,k1.1,l3,k3⟩) D4 f1.1 hm;have P5:Pf h (g4++[.lst (rs.map ruD)]):=P4.app _;have A5:=b5 (g:=[.lst (rs.map ruD)]) A4;have B5:=b5 (g:=[.lst (rs.map ruD)]) B4;have C5:=b5 (g:=[.lst (rs.map ruD)]) C4;have D5:=b5 (g:=[.lst (rs.map ruD)]) D4;have E5:(g4++[Cell.lst (rs.map ruD)])[↥g4]? =some (.lst (rs.map ruD)):=b6;generalize hj:↥g4=j at r4 E5;generalize hg5:g4++[Cell.lst (rs.map ruD)]=g5 at P5 A5 B5 C5 D5 E5 r4;obtain⟨gp,y1,y2⟩:=b5I (ct:=ct) (c:=b4 ct F (k+2)) (M:=M) (env:=[~~~n,m⁻¹,some (.int c0),~~~↥h,~~~d,~~~f,M⁻¹,~~~i,~~~j,none,none,none]) (g:=g5) rfl rfl B5 nofun;have P6:Pf h (g5++[.lst (gp.map .str)]):=P5.app _;have A6:=b5 (g:=[.lst (gp.map .str)]) A5;have X6:Pf g5 (g5++[.lst (gp.map .str)]):=(Pf.refl _).app _;have G6:(g5++[Cell.lst (gp.map .str)])[↥g5]? =some (.lst (gp.map .str)):=b6;generalize he:↥g5=e at y2 G6;generalize hg6:g5++[Cell.lst (gp.map .str)]=g6 at P6 A6 X6 G6 y2;obtain⟨ms,m1,m2,m3⟩:=b1V (ct:=ct) (k:=k) (c:=c0) (h:=g6) bO cP eT s1 A6;have P7:Pf h (g6++[.lst (ms.map mkD)]):=P6.app _;have A7:=b5 (g:=[.lst (ms.map mkD)]) A6;have X7:Pf g6 (g6++[.lst (ms.map mkD)]):=(Pf.refl _).app _;have M7:(g6++[Cell.lst (ms.map mkD)])[↥g6]? =some (.lst (ms.map mkD)):=b6;generalize hb:↥g6=b at m3 M7;generalize hg7:g6++[Cell.lst (ms.map mkD)]=g7 at P7 A7 X7 M7 m3;obtain⟨ps,p1,p2,p3,p4⟩:=a9P (ct:=ct) (k:=k) (c:=c0) (h:=g7) bO cP eS s1 A7;have P8:Pf h (g7++[.lst (ps.map ptD)]):=P7.app _;have X8:Pf g7 (g7++[.lst (ps.map ptD)]):=(Pf.refl _).app _;have N8:(g7++[Cell.lst (ps.map ptD)])[↥g7]? =some (.lst (ps.map ptD)):=b6;generalize hc:↥g7=c at p4 N8;generalize hg8:g7++[Cell.lst (ps.map ptD)]=g8 at P8 X8 N8 p4;have X58:=(X6.trans X7).trans X8;refine⟨⟨sh,ms,ps,ls,gp,cs,fe,rs⟩,g8,↥h,b,c,d,e,f,i,j,⟨s1,m1,m2,p1,p2,p3,l1,l2,l3,y1,k1,k2,k3,f1,f2,by show ↥rs<=26;ac_nf,r2,r3⟩,r1,P8,⟨X58.at A5,X8.at M7,N8,X58.at B5,(X7.trans X8).at G6,X58.at C5,X58.at D5,X58.at E5⟩,?_⟩;rw[c9 hF rfl];simp only[J2];rw[gc0];show a4h (exs ct (b4 ct F (k+2)) (.set 2 (.call 201 (.v 0>=>.o (.i 0)))>=>.set 3 (.call 204 (.o (.v 2)))>=>hB2) [~~~n,m⁻¹,none,none,none,none,none,none,none,none,none,none] h)=_;rw[st1];unfold hB2;rw[seq (by simp![show b4 ct F (k+2) 201 [.ref n,.int 1] g1=.ok (.int c1) g1 from hc1,l4];rfl),seq (by simp![show b4 ct F (k+2) 201 [.ref n,.int 2] g2=.ok (.int c2) g2 from hc2,k4];rfl),seq (by simp![show b4 ct F (k+2) 201 [.ref n,.int 2] g3=.ok (.int c2') g3 from hc2',hM];rfl)];unfold hB3;rw[seq (by simp![f3];rfl),seq (by simp![show b4 ct F (k+2) 201 [.ref n,.int 3] g4=.ok (.int c3) g4 from hc3,r4];rfl)];unfold hB4;rw[seq (by simp![y2];rfl),seq (by simp![m3];rfl),seq (by simp![p4];rfl)];have s8:(8<=SL)=True:=eq_true ∅;simp![s8]
end
def num(i:Int):Str:=Str.ofString (toString i)
def ln(ws:List Str):Str:=Txt.join " " ws
theorem a7n(ws:List Str):cd (ln ws)=jn 32 (ws.map cd):=by show cd (glued " " _)=_;rw[gI];exact a2Z 32 ws
theorem a4A(h:cd x=jn 32 (ws.map cd)):x=ln ws:=V5 (h.trans (a7n ws).symm)
def U6(p:Str×Nat):List Str:=["shape",p.1,num p.2]
def M5(p:Int×Int):List Str:=[num p.1,num p.2]
def V6(m:Mk):List Str:=["mark",m.n,m.s,num m.a.1,num m.a.2,num m.b.1,num m.b.2]
def Z4(p:Pt):List Str:=["point",p.n,p.s,num p.a.1,num p.a.2]
def N5(l:Lt):List Str:="letter"::l.n::l.j::l.w::l.fs
def a6c(n:Str):List Str:=["gap",n]
def U7(c:Cs):List Str:="class"::c.n::c.fs
def a9U(b:Bool):Str:=if b then "on" else "off"
def a2t(p:Str×Bool):List Str:=["feature",p.1,a9U p.2]
def T6(r:Ru):List Str:="rule"::r.t::r.f::(r.b++("/":Str)::(r.c++("/":Str)::(r.a++(">":Str)::r.o)))
noncomputable def M6(H:HL):List (List Str):=H.sh.map U6++H.mr.map V6++H.pt.map Z4++H.ls.map N5++H.gp.map a6c++H.cs.map U7++H.fe.map a2t++H.ru.map T6
theorem a2T{i:Int}(h: -99999<=i/\i<=99999):↥(num i)<=7:=by unfold num;rw[ofString_length];exact int_text_length_le10 (a:=i) (k:=6) ∅ nofun
theorem a7z{i:Int}(hi: -99999<=i/\i<=99999):biD .str h [.int i]=.ok (.str (num i)) h:=by
 simp only[biD,bi1,biL];rw[ay]
 · rfl
 · by_cases h0:i.natAbs=0
   · rw[h0];decide
   · exact(Nat.log2_lt h0).mpr (aC (show i.natAbs<2^17 by ac_nf) (Nat.pow_le_pow_right ∅ ∅))
theorem G3:↥(Str.ofString " ")=1:=rfl
theorem a4Y(h:∀w∈ws,↥w<=b):(ws.map (·.length)).sum<=↥ws*b:=by
 induction ws with
 |nil=>simp
 |cons x r ih=>
  rw[map_cons,sum_cons,length_cons];have:=ih λw hw=>h w (.tail _ hw);have:=h x (.head _);rw[Nat.add_mul];ac_nf
theorem b2b(h:∀w∈ws,↥w<=b):↥(ln ws)<=↥ws*(b+1):=by show(glued " " ws).length<=_;rw[gI];refine aR (StrLaws.join_length_le _ _) ?_;have:=a4Y h;rw[G3,Nat.mul_add];ac_nf
theorem b6D(h:∀w∈ws,↥w<=20)(hl:↥ws<=100):JoinOk " " ws=true:=by have:=a4Y h;exact a5z (by rw[G3];ac_nf)
variable{ys:List Str}{p:Pat}{nb:Nat}
section
variable{ct:CT}{F:Nat->Option Fn}
theorem a3t{k:Nat}{p:Int×Int}(hF:F 213=some E7)(hp:a0z p):b4 ct F (k+1) 213 [spD p] h=.ok (.str (ln (M5 p))) h:=by rw[c9 hF rfl];simp only[E7];have i0:ixD h (spD p) (.int 0)=.ok (.int p.1) h:=ix_tup (i:=0) rfl;have i1:ixD h (spD p) (.int 1)=.ok (.int p.2) h:=ix_tup (i:=1) rfl;have l1:=a2T hp.1;have l2:=a2T hp.2;simp![i0,i1,a7z hp.1,a7z hp.2,op2,u0 (h:=h) (x:=num p.1) (y:=" ") (by rw[G3];ac_nf),u0 (h:=h) (x:=num p.1++(" ":Str)) (y:=num p.2) (by rw[l8,G3];ac_nf)];rw[show(num p.1++(" ":Str))++num p.2=ln (M5 p) from a4A (by rw[E9,E9,show cd (Str.ofString " ")=[32] from rfl];show cd (num p.1)++[32]++cd (num p.2)=cd (num p.1)++32::cd (num p.2);simp)];exact u7 rfl
theorem a5X{a:Nat}{ys:List D}(h1:g[a]? =some (.lst xs))(h2:g[b]? =some (.lst ys))(hl:↥xs+↥ys<=100000):M8 g (.ref a) (.ref b)=.ok (.ref ↥g) (g++[.lst (xs++ys)]):=a1S h1 h2 hl
theorem b2c:biD .list h [.tup xs]=.ok (.ref ↥h) (h++[.lst xs]):=rfl
theorem b5t(h1:g[n]? =some (.lst (ts.map .str)))(jo:JoinOk sep ts=true):mtD .join g (.str sep) [.ref n]=.ok (.str (Txt.join sep ts)) g:=by
 have:rdL g n=some (ts.map .str):=by unfold rdL;rw[h1]
 simp only[mtD,this,a1V];rw[ay jo]
theorem a7h{s:Nat}{fr:List Nat}{l:List α}(rp:α->D)(f:α->Str)(cF:α->u5)(ha:ev ct c a env h=.ok (.ref s) h)(hs:h[s]? =some (.lst (l.map rp)))(hl:↥l<=1000)
 (hx:∀x∈l,D9 p (rp x) (F9 nb fr env)=some (cF x)/\∀h,∃t,ev ct c e (cF x) h=.ok (.str (f x)) (h++t)):∃t,ev ct c (.comp p (.seq a) nb fr .yes e) env h=.ok (.ref ↥(h++t)) (h++t++[.lst ((l.map f).map .str)]):=by
 have key:∀(l':List α) (bP:List D) (h':AH),(∀t,gOk [(s,.lst (l.map rp))] (h'++t)=true)->(∀x∈l',D9 p (rp x) (F9 nb fr env)=some (cF x)/\∀h,∃t,ev ct c e (cF x) h=.ok (.str (f x)) (h++t))->↥bP+↥l'<=SL->∃t,P0 [(s,.lst (l.map rp))] p (tst ct c .yes) (ev ct c e) (F9 nb fr env) (l'.map rp) bP h'=.ok (bP++(l'.map f).map .str) (h'++t):=by
  intro l'
  induction l' with
  |nil=>
   intro bP h' g1 _ _;have g0:=g1 [];rw[aZ] at g0;exact⟨[],by rw[map_nil,P0,ay g0];simp⟩
  |cons x r ih=>
   intro bP h' g1 dY hl';have g0:=g1 [];rw[aZ] at g0;obtain⟨b1,b2⟩:=dY x (.head _);obtain⟨t,b2⟩:=b2 h';rw[length_cons] at hl';obtain⟨u,ih⟩:=ih (bP++[.str (f x)]) (h'++t) (λu=>by rw[aA];exact g1 _) (λy hy=>dY y (.tail _ hy)) (by rw[aq];simp;ac_nf);refine⟨t++u,?_⟩;rw[map_cons,P0,ay g0,b1];simp only;rw[a4U,b8,ay rfl,b2,b8,ay nofun,ih];simp
 obtain⟨t,kt⟩:=key l [] h (λt=>by simp[gOk,b5 (g:=t) hs]) hx (by show 0+_<=16777216;ac_nf);refine⟨t,?_⟩;rw[a2Y (x:=(l.map rp,[(s,.lst (l.map rp))])) (h1:=h) (h2:=h++t) (ds:=(l.map f).map .str) (by rw[a2X,ha,b8];simp only[M4,hs]) (by rw[kt,nil_append])]
end
section
variable{ct:CT}{F:Nat->Option Fn}
def EvL(ct:CT)(c:CF)(e:E)(env:u5)(h:AH)(xs:List Str):Prop:=∃n t,ev ct c e env h=.ok (.ref n) (h++t)/\(h++t)[n]? =some (.lst (xs.map .str))/\(↥h<=n∨t=[])
theorem R8{b:E}{xs:List Str}(A:EvL ct c a env h xs)(B:∀t,EvL ct c b env (h++t) ys)(hl:↥xs+↥ys<=100000):EvL ct c (.bin .add a b) env h (xs++ys):=by
 obtain⟨n,t,a1,a2,_⟩:=A;obtain⟨m,u,b1,b2,_⟩:=B t;refine⟨↥(h++t++u),t++u++[.lst ((xs++ys).map .str)],?_,?_,.inl (by simp[aq,Nat.add_assoc])⟩
 · simp![a1,b1,op2,a5X (b5 (g:=u) a2) b2 (by rw[aa,aa];exact hl)];simp
 · rw[show h++(t++u++[Cell.lst ((xs++ys).map .str)])=h++t++u++[.lst ((xs++ys).map .str)] by simp];exact b6
theorem a0I{es:Es}{xs:List Str}(e:evs ct c es env h=.ok (xs.map .str) h)(hl:↥xs<=1000):EvL ct c (.lst es) env h xs:=by refine⟨↥h,[.lst (xs.map .str)],?_,b6,.inl (aj _)⟩;rw[b3o,e,b8,ay (by rw[aa];show _<=16777216;ac_nf)];rfl
theorem W6{xs:List Str}(e:ev ct c a env h=.ok (.tup (xs.map .str)) h):EvL ct c (.bi .list (.cons a .nil)) env h xs:=by refine⟨↥h,[.lst (xs.map .str)],?_,b6,.inl (aj _)⟩;simp![e,b2c]
theorem c0W{i:Nat}{xs:List Str}(e:env[i]? =some (~~~n))(hn:h[n]? =some (.lst (xs.map .str))):EvL ct c (.v i) env h xs:=by refine⟨n,[],?_,by rw[aZ];exact hn,.inr rfl⟩;rw[aZ];simp![e]
theorem a3K{xs:List Str}(A:EvL ct c e env h xs)(jo:JoinOk sep xs=true):∃t,ev ct c (.mt .join (.k (.str sep)) (.cons e .nil)) env h=.ok (.str (Txt.join sep xs)) (h++t):=by obtain⟨n,t,a1,a2,_⟩:=A;refine⟨t,?_⟩;simp![mtT,a1,b5t a2 jo]
theorem b1f{k:Nat}{r:Ru}(hF:F 214=some E6)(hl:↥(T6 r)<=100)(hw:∀w∈T6 r,↥w<=20):b4 ct F (k+1) 214 [ruD r] h=.ok (.str (ln (T6 r))) h:=by
 have i0:∀h,ixD h (ruD r) (.int 0)=.ok (.str r.t) h:=λh=>ix_tup (i:=0) rfl;have i1:∀h,ixD h (ruD r) (.int 1)=.ok (.str r.f) h:=λh=>ix_tup (i:=1) rfl;have i2:∀h,ixD h (ruD r) (.int 2)=.ok (.tup (r.b.map .str)) h:=λh=>ix_tup (i:=2) rfl;have i3:∀h,ixD h (ruD r) (.int 3)=.ok (.tup (r.c.map .str)) h:=λh=>ix_tup (i:=3) rfl;have i4:∀h,ixD h (ruD r) (.int 4)=.ok (.tup (r.a.map .str)) h:=λh=>ix_tup (i:=4) rfl;have i5:∀h,ixD h (ruD r) (.int 5)=.ok (.tup (r.o.map .str)) h:=λh=>ix_tup (i:=5) rfl;have ll:↥r.b+↥r.c+↥r.a+↥r.o<=100:=by unfold T6 at hl;simp only[length_cons,aq] at hl;ac_nf
 rw[c9 hF rfl];simp only[E6];show gcR 1 h (a4h (exs ct (b4 ct F k) _ [some (ruD r),none] h))=_;have A:=R8 (R8 (R8 (a0I (ct:=ct) (c:=b4 ct F k) (es:=(.s "rule">=>.ix (.v 0) (.i 0)>=>.o (.ix (.v 0) (.i 1)))) (env:=[some (ruD r),none]) (h:=h) (xs:=["rule",r.t,r.f]) (by simp![i0,i1]) (by show 3<=1000;decide)) (λt=>W6 (a:=(.ix (.v 0) (.i 2))) (xs:=r.b) (by simp![i2])) (by simp only[length_cons,length_nil];ac_nf)) (λt=>a0I (es:=(.o (.s "/"))) (xs:=["/"]) (by simp![]) ∅) (by simp only[aq,length_cons,length_nil];ac_nf)) (λt=>W6 (a:=(.ix (.v 0) (.i 3))) (xs:=r.c) (by simp![i3])) (by simp only[aq,length_cons,length_nil];ac_nf);obtain⟨n,t,a1,a2,_⟩:=A;rw[seq (bG:=[some (ruD r),~~~n]) (h':=h++t) (by rw[a2o,a1,b8];rfl)];have B:=R8 (R8 (R8 (R8 (c0W (ct:=ct) (c:=b4 ct F k) (i:=1) (env:=[some (ruD r),~~~n]) rfl a2) (λt=>a0I (es:=(.o (.s "/"))) (xs:=["/"]) (by simp![]) ∅) (by simp only[aq,length_cons,length_nil];ac_nf)) (λt=>W6 (a:=(.ix (.v 0) (.i 4))) (xs:=r.a) (by simp![i4])) (by simp only[aq,length_cons,length_nil];ac_nf)) (λt=>a0I (es:=(.o (.s ">"))) (xs:=[">"]) (by simp![]) ∅) (by simp only[aq,length_cons,length_nil];ac_nf)) (λt=>W6 (a:=(.ix (.v 0) (.i 5))) (xs:=r.o) (by simp![i5])) (by simp only[aq,length_cons,length_nil];ac_nf);have e:[("rule":Str),r.t,r.f]++r.b++[("/":Str)]++r.c++[("/":Str)]++r.a++[(">":Str)]++r.o=T6 r:=by unfold T6;simp
 rw[e] at B;obtain⟨u,b1⟩:=a3K B (b6D hw hl);rw[J3,a0r,b1,b8,b8];rw[aA];exact gc1 rfl
end
theorem a1l(n:Nat):cd (num (n:Int))=(Nat.toDigits 10 n).map Char.toNat:=W.KIN.signs_num n
theorem b2A(n:Nat):n≠0->((Nat.toDigits 10 n).map Char.toNat).head?≠some 48:=by
 induction n using Nat.strongRecOn with
 |_ n ih=>
  intro h0
  by_cases h:n<10
  · rw[Nat.toDigits_of_lt_base h,map_cons,List.head?_cons,Nat.toNat_digitChar_of_lt_ten h];intro e;have:=ax e;ac_nf
  · rw[Nat.toDigits_of_base_le ∅ nofun,ao];have hn:=ih (n/10) nofun nofun;cases hd:Nat.toDigits 10 (n/10) with
    |nil=>exact absurd hd Nat.toDigits_ne_nil
    |cons a r=>rw[hd] at hn;exact hn
theorem a5G(n:Nat):(cd (num (n:Int))).all U0=true:=by rw[a1l];refine bm.mpr λc hc=>?_;obtain⟨d,hd,rfl⟩:=al.mp hc;have:=Nat.isDigit_of_mem_toDigits ∅ ∅ hd;rw[a5H];unfold Char.isDigit at this;simp only[ae,bw] at this;exact⟨this.1,this.2⟩
theorem a3x(h:n<=99999):W0 (num (n:Int))=some (n:Int):=by
 have l5:↥(num (n:Int))<=5:=by rw[←u9,a1l,aa];exact(Nat.length_toDigits_le_iff ∅ ∅).mpr nofun
 have l1:↥(num (n:Int))≠0:=by rw[←u9,a1l,aa];exact λe=>Nat.toDigits_ne_nil (length_eq_zero_iff.mp e)
 unfold W0;rw[ay (a5G n),az,a1l,W.KIN.val_back];rintro(e|e|⟨e1,e2⟩)
 · exact l1 ((b0b _).mp e)
 · ac_nf
 · rw[a1l] at e1
   by_cases h0:n=0
   · rw[h0] at e2;exact absurd e2 ∅
   · exact b2A n h0 e1
theorem a5Q(m:Nat):cd (num (Int.negSucc m))=45::cd (num ((m+1:Nat):Int)):=by rw[a1l];show(Str.ofString ("-"++Nat.repr (m+1))).cps.toList=_;rw[Str.ofString_eq_toList];simp[Nat.toList_repr]
theorem K2{i:Int}(h: -99999<=i/\i<=99999):a0N (num i)=some i:=by
 unfold a0N;cases i with
 |ofNat n=>
  have h2:(n:Int)<=99999:=h.2;rw[az]
  · exact a3x nofun
  · intro e;cases hc:cd (num (Int.ofNat n)) with
    |nil=>rw[hc] at e;cases e
    |cons c r=>
     rw[hc] at e;have e:=ax e;have:=a5G n;rw[show cd (num (n:Int))=c::r from hc,all_cons,e] at this;rw[show U0 45=false from by decide+kernel] at this;exact Bool.noConfusion this
 |negSucc m=>
  have h1:=h.1;rw[Int.negSucc_eq] at h1;have t:tl (num (Int.negSucc m))=num ((m+1:Nat):Int):=V5 (by rw[a3Q,a5Q];rfl);rw[ay (by rw[a5Q];rfl),t,a3x nofun];simp only;rw[az nofun];congr 1
structure WOk(w:Str):Prop where
 l:↥w<=20
 p:↥w≠0
 c:∀c∈cd w,c≠32/\c≠10
theorem WOk.num{i:Int}(h: -99999<=i/\i<=99999):WOk (num i):=by
 have fg:∀n:Nat,∀c∈cd (EV.num (n:Int)),c≠32/\c≠10:=λn c hc=>by have:=(a5H c).mp (bm.mp (a5G n) c hc);ac_nf
 refine⟨by have:=a2T h;ac_nf,?_,?_⟩
 · rw[←u9];cases i with
   |ofNat n=>
    show(cd (EV.num (n:Int))).length≠0;rw[a1l,aa];exact λe=>Nat.toDigits_ne_nil (length_eq_zero_iff.mp e)
   |negSucc m=>rw[a5Q];exact Nat.succ_ne_zero _
 · cases i with
   |ofNat n=>exact fg n
   |negSucc m=>
    rw[a5Q];intro c hc;rcases aF.mp hc with rfl|hc
    · decide
    · exact fg _ c hc
theorem b4v{c:Nat}(h:Q0 c=true):c≠32/\c≠10:=by
 unfold Q0 at h;have h:=aw h;have:∀c∈cd a1u,c≠32/\c≠10:=by decide+kernel
 exact this c h
theorem WOk.name{w:Str}(h:b9 w=true):WOk w:=by unfold b9 at h;simp only[ae,bw] at h;exact⟨by ac_nf,by ac_nf,λc hc=>b4v (bm.mp h.2 c hc)⟩
theorem WOk.at{w:Str}(h:b9 w=true):WOk (("@":Str)++w):=by
 have n:=a0c h;have k:=WOk.name h;refine⟨by rw[l8,show(Str.ofString "@").length=1 from rfl];ac_nf,by rw[l8,show(Str.ofString "@").length=1 from rfl];ac_nf,λc hc=>?_⟩;rw[E9] at hc;rcases aL.mp hc with hc|hc
 · have:c=64:=by simpa [show cd (Str.ofString "@")=[64] from by decide+kernel] using hc
   ac_nf
 · exact k.c c hc
structure Row(ws:List Str):Prop where
 n:ws≠[]
 l:↥ws<=40
 w:∀w∈ws,WOk w
instance (w:Str):Decidable (↥w<=20/\↥w≠0/\∀c∈cd w,c≠32/\c≠10):=inferInstance
theorem WOk.k{w:Str}(h:↥w<=20/\↥w≠0/\∀c∈cd w,c≠32/\c≠10):WOk w:=⟨h.1,h.2.1,h.2.2⟩
theorem Row.nil:∀w∈([]:List Str),WOk w:=λ_ h=>nomatch h
theorem i9{a:Str}{r:List Str}(h:WOk a)(hr:∀w∈r,WOk w):∀w∈a::r,WOk w:=λw hw=>by
 rcases aF.mp hw with rfl|hw
 · exact h
 · exact hr w hw
theorem a7I{a r:List Str}(h:∀w∈a,WOk w)(hr:∀w∈r,WOk w):∀w∈a++r,WOk w:=λw hw=>by
 rcases aL.mp hw with hw|hw
 · exact h w hw
 · exact hr w hw
section
variable{H:HL}(K:HLok H)
include K
theorem N7{n:Str}(h:n∈H.sh.map (·.1)):b9 n=true:=by obtain⟨p,hp,rfl⟩:=al.mp h;exact(K.sh.ok p hp).1
theorem a8z{s:Str}(h:a0L s):WOk s:=by rcases h with rfl|rfl<;>exact WOk.k (by decide+kernel)
theorem a5r{m:Mk}(h:m∈H.mr):m.n∈H.sh.map (·.1):=K.mr.subset (al.mpr ⟨m,h,rfl⟩)
theorem a1I{f:Str}(h:f∈H.fe.map (·.1)):b9 f=true:=K.fen.ok f h
theorem b2q{i:Str}(h:Z3 H.sh H.cs i):WOk i:=by
 rcases h with h|⟨c,hc,rfl⟩
 · exact WOk.name (N7 K h)
 · exact WOk.at (K.cso c hc).nm
theorem a4t{p:Str×Nat}(h:p∈H.sh):Row (U6 p):=by have k:=K.sh.ok p h;exact⟨cons_ne_nil _ _,fS rfl,i9 (WOk.k (by decide+kernel)) (i9 (WOk.name k.1) (i9 (WOk.num (by have:=k.2;ac_nf)) Row.nil))⟩
theorem a6s{m:Mk}(h:m∈H.mr):Row (V6 m):=by obtain⟨k1,k2,k3⟩:=K.mko m h;exact⟨cons_ne_nil _ _,fS rfl,i9 (WOk.k (by decide+kernel)) (i9 (WOk.name (N7 K (a5r K h))) (i9 (a8z K k1) (i9 (WOk.num k2.1) (i9 (WOk.num k2.2) (i9 (WOk.num k3.1) (i9 (WOk.num k3.2) Row.nil))))))⟩
theorem a4u{p:Pt}(h:p∈H.pt):Row (Z4 p):=by obtain⟨k1,k2,k3⟩:=K.pto p h;exact⟨cons_ne_nil _ _,fS rfl,i9 (WOk.k (by decide+kernel)) (i9 (WOk.name (N7 K k1)) (i9 (a8z K k2) (i9 (WOk.num k3.1) (i9 (WOk.num k3.2) Row.nil))))⟩
theorem a0U{l:Lt}(h:l∈H.ls):Row (N5 l):=by
 have k:=K.lso l h;have kl:=k.few;refine⟨cons_ne_nil _ _,by unfold N5;simp only[length_cons];ac_nf,i9 (WOk.k (by decide+kernel)) (i9 (WOk.name k.nm) (i9 ?_ (i9 ?_ λw hw=>WOk.name (N7 K (k.fs w hw)))))⟩
 · rcases k.js with e|e|e|e<;>rw[e]<;>exact WOk.k (by decide+kernel)
 · rcases k.ws with e|e|e<;>rw[e]<;>exact WOk.k (by decide+kernel)
theorem a5E{n:Str}(h:n∈H.gp):b9 n=true:=by obtain⟨l,hl,rfl⟩:=al.mp (K.gp.subset h);exact(K.lso l hl).nm
theorem a8F{n:Str}(h:n∈H.gp):Row (a6c n):=⟨cons_ne_nil _ _,fS rfl,i9 (WOk.k (by decide+kernel)) (i9 (WOk.name (a5E K h)) Row.nil)⟩
theorem a1Y{c:Cs}(h:c∈H.cs):Row (U7 c):=by have k:=K.cso c h;have kl:=k.few;exact⟨cons_ne_nil _ _,by unfold U7;simp only[length_cons];ac_nf,i9 (WOk.k (by decide+kernel)) (i9 (WOk.name k.nm) λw hw=>WOk.name (N7 K (k.fs w hw)))⟩
theorem a6t{p:Str×Bool}(h:p∈H.fe):Row (a2t p):=by refine⟨cons_ne_nil _ _,fS rfl,i9 (WOk.k (by decide+kernel)) (i9 (WOk.name (a1I K (al.mpr ⟨p,h,rfl⟩))) (i9 ?_ Row.nil))⟩;cases p.2<;>exact WOk.k (by decide+kernel)
theorem a3q{r:Ru}(h:r∈H.ru):Row (T6 r):=by have k:=K.ruo r h;have l1:=k.b3;have l2:=k.c4;have l3:=k.a3;have l4:=k.o3;refine⟨cons_ne_nil _ _,by unfold T6;simp only[length_cons,aq];ac_nf,i9 (WOk.k (by decide+kernel)) (i9 (WOk.name k.nm) (i9 (WOk.name (a1I K k.fe)) (a7I (λw hw=>b2q K (k.b w hw)) (i9 (WOk.k (by decide+kernel)) (a7I (λw hw=>b2q K (k.c w hw)) (i9 (WOk.k (by decide+kernel)) (a7I (λw hw=>b2q K (k.a w hw)) (i9 (WOk.k (by decide+kernel)) λw hw=>WOk.name (N7 K (k.o w hw))))))))))⟩
theorem a8B:∀ws∈M6 H,Row ws:=λws h=>by
 unfold M6 at h;simp only[aL,al] at h;rcases h with((((((⟨x,h,rfl⟩|⟨x,h,rfl⟩)|⟨x,h,rfl⟩)|⟨x,h,rfl⟩)|⟨x,h,rfl⟩)|⟨x,h,rfl⟩)|⟨x,h,rfl⟩)|⟨x,h,rfl⟩
 · exact a4t K h
 · exact a6s K h
 · exact a4u K h
 · exact a0U K h
 · exact a8F K h
 · exact a1Y K h
 · exact a6t K h
 · exact a3q K h
theorem a8u{f:α->β}{l:List α}{s:List β}(h:(l.map f).Sublist s):↥l<=↥s:=by have:=h.length_le;rw[aa] at this;exact this
theorem Z8:↥(M6 H)<=300/\M6 H≠[]:=by
 have a:=K.sh.hi;have a0:=K.sh.lo;have b:=a8u K K.mr;rw[aa] at b;have c:=K.ptl;have d:=K.ls;have e:=K.gp.length_le;rw[aa] at e;have f:=K.cs;have g:=K.fe;have i:=K.rul;have l:↥(M6 H)=↥H.sh+↥H.mr+↥H.pt+↥H.ls+↥H.gp+↥H.cs+↥H.fe+↥H.ru:=by unfold M6;simp only[aq,aa]
 exact⟨by ac_nf,λz=>by rw[z] at l;simp only[length_nil] at l;ac_nf⟩
end
theorem b1h(r:Row ws):N4 (ln ws)=ws:=by unfold N4;rw[show Txt.split (ln ws) " "=ws from a3h (c:=32) r.n (λp hp hc=>((r.w p hp).c 32 hc).1 rfl) (a7n ws)];exact List.filter_eq_self.mpr λw hw=>ba λe=>(r.w w hw).p ((b0b w).mp e)
theorem b2k{c x:Nat}:∀{ps:List (List Nat)},x∈jn c ps->x=c∨∃p∈ps,x∈p
 |[],h=>nomatch h
 |[p],h=>.inr ⟨p,.head _,h⟩
 |p::q::r,h=>by
  rcases aL.mp (show x∈p++c::jn c (q::r) from h) with h|h
  · exact .inr ⟨p,.head _,h⟩
  · rcases aF.mp h with h|h
    · exact .inl h
    · rcases b2k h with h|⟨y,hy,h⟩
      · exact .inl h
      · exact .inr ⟨y,.tail _ hy,h⟩
theorem b1g(r:Row ws):10∉cd (ln ws):=λh=>by
 rw[a7n] at h;rcases b2k h with h|⟨p,hp,h⟩
 · exact absurd h ∅
 · obtain⟨w,hw,rfl⟩:=al.mp hp;exact((r.w w hw).c 10 h).2 rfl
theorem a8E(r:Row ws):↥(ln ws)<=840:=by have:=b2b (ws:=ws) (b:=20) λw hw=>(r.w w hw).l;have l:=r.l;have:↥ws*21<=40*21:=gm 21 l;ac_nf
def a9c(H:HL):Str:=Txt.join "\n" ((M6 H).map ln)
theorem a9x{H:HL}(K:HLok H):Txt.split (a9c H) "\n"=(M6 H).map ln:=by
 refine a3h (c:=10) (λe=>(Z8 K).2 (List.map_eq_nil_iff.mp e)) (λp hp=>?_) ?_
 · obtain⟨ws,hw,rfl⟩:=al.mp hp;exact b1g (a8B K ws hw)
 · show cd (glued "\n" _)=_;rw[gI];exact a2Z 10 _
theorem a6r{H:HL}(K:HLok H):(((M6 H).map ln).map (·.length)).sum<=300*840:=by
 have:=a4Y (ws:=(M6 H).map ln) (b:=840) λw hw=>by obtain⟨ws,hq,rfl⟩:=al.mp hw;exact a8E (a8B K ws hq)
 rw[aa] at this;have l:=(Z8 K).1;exact aR this (gm _ l)
theorem b3Z{H:HL}(K:HLok H):↥(a9c H)<=1000000:=by have:=a6r K;have l:=(Z8 K).1;show(glued "\n" _).length<=_;rw[gI];refine aR (StrLaws.join_length_le _ _) ?_;rw[aa,show(Str.ofString "\n").length=1 from rfl];ac_nf
theorem b6U{H:HL}(K:HLok H):JoinOk "\n" ((M6 H).map ln)=true:=by have:=a6r K;have l:=(Z8 K).1;exact a5z (by rw[aa,show(Str.ofString "\n").length=1 from rfl];ac_nf)
theorem k32:cd (Str.ofString " ")=[32]:=rfl
theorem b4k(n w:Str):(("shape ":Str)++n++(" ":Str))++w=ln ["shape",n,w]:=a4A (by simp only[E9,k32,show cd (Str.ofString "shape ")=cd (Str.ofString "shape")++[32] from by decide+kernel,map_cons,map_nil,jn,aA,cons_append,nil_append])
theorem b9E(n:Str):("gap ":Str)++n=ln ["gap",n]:=a4A (by simp only[E9,show cd (Str.ofString "gap ")=cd (Str.ofString "gap")++[32] from by decide+kernel,map_cons,map_nil,jn,aA,cons_append,nil_append])
theorem b7b(n w:Str):(("feature ":Str)++n++(" ":Str))++w=ln ["feature",n,w]:=a4A (by simp only[E9,k32,show cd (Str.ofString "feature ")=cd (Str.ofString "feature")++[32] from by decide+kernel,map_cons,map_nil,jn,aA,cons_append,nil_append])
theorem b4l(n s a b:Str):((((("point ":Str)++n)++(" ":Str))++s)++(" ":Str))++ln [a,b]=ln ["point",n,s,a,b]:=a4A (by simp only[E9,k32,a7n,show cd (Str.ofString "point ")=cd (Str.ofString "point")++[32] from by decide+kernel,map_cons,map_nil,jn,aA,cons_append,nil_append])
theorem b7a(n s a b c d:Str):((((("mark ":Str)++n)++(" ":Str))++s)++(" ":Str))++((ln [a,b]++(" ":Str))++ln [c,d])=ln ["mark",n,s,a,b,c,d]:=a4A (by simp only[E9,k32,a7n,show cd (Str.ofString "mark ")=cd (Str.ofString "mark")++[32] from by decide+kernel,map_cons,map_nil,jn,aA,cons_append,nil_append])
def TS(T:D)(h0:AH)(env:u5)(h:AH)(xs:List Str):Prop:=∃n e1 e3 e4 e5 e6 e7 e8 e9,env=[some T,e1,~~~n,e3,e4,e5,e6,e7,e8,e9]/\Pf h0 h/\↥h0<=n/\h[n]? =some (.lst (xs.map .str))
section
variable{ct:CT}{F:Nat->Option Fn}
theorem a0s{s:Nat}{fr:List Nat}{l:List α}(rp:α->D)(f:α->Str)(cF:α->u5)(ha:ev ct c a env h=.ok (.ref s) h)(hs:h[s]? =some (.lst (l.map rp)))(hl:↥l<=1000)
 (hx:∀x∈l,D9 p (rp x) (F9 nb fr env)=some (cF x)/\∀h,∃t,ev ct c e (cF x) h=.ok (.str (f x)) (h++t)):EvL ct c (.comp p (.seq a) nb fr .yes e) env h (l.map f):=by
 obtain⟨t,e⟩:=a7h rp f cF ha hs hl hx;exact⟨↥(h++t),t++[.lst ((l.map f).map .str)],by rw[e,aA],by rw[←aA];exact b6,.inl ⋯⟩
theorem b3l{b:E}{xs:List Str}{i:Nat}(e:env[i]? =some (~~~n))(hn:h[n]? =some (.lst (xs.map .str)))(B:EvL ct c b env h ys)(hl:↥xs+↥ys<=1000):EvL ct c (.bin .add (.v i) b) env h (xs++ys):=by obtain⟨m,u,b1,b2,_⟩:=B;refine⟨↥(h++u),u++[.lst (xs.map .str++ys.map .str)],?_,by rw[←aA,b6,ao],.inl ⋯⟩;simp![e,b1,op2,a5X (b5 (g:=u) hn) b2 (by rw[aa,aa];ac_nf)];simp
theorem TS.pf{T:D}{xs:List Str}(S:TS T h0 env h xs):Pf h0 h:=by obtain⟨n,e1,e3,e4,e5,e6,e7,e8,e9,rfl,p,_⟩:=S;exact p
theorem a3d{T:D}{Tl:List D}{xs:List Str}{i s:Nat}(S:TS T h0 env h xs)(hT:T=.tup Tl)(hi:Tl[i]? = ~~~s):ev ct c (.ix (.v 0) (.k ⇑i)) env h=.ok (.ref s) h:=by obtain⟨n,e1,e3,e4,e5,e6,e7,e8,e9,rfl,_⟩:=S;subst hT;simp![ix_tup (h:=h) hi]
theorem a4V{T:D}{xs:List Str}{C:E}(S:TS T h0 env h xs)(hC:EvL ct c C env h ys)(hl:↥xs+↥ys<=1000):∃bG h',ex ct c (.set 2 (.bin .add (.v 2) C)) env h=.ok (.nx bG) h'/\TS T h0 bG h' (xs++ys):=by obtain⟨n,e1,e3,e4,e5,e6,e7,e8,e9,rfl,p,l,g⟩:=S;obtain⟨m,u,c1,c2,_⟩:=hC;refine⟨[some T,e1,some (.ref ↥(h++u)),e3,e4,e5,e6,e7,e8,e9],h++u++[.lst (xs.map .str++ys.map .str)],?_,_,e1,e3,e4,e5,e6,e7,e8,e9,rfl,(p.app _).app _,by have:=p.len;rw[aq];ac_nf,by rw[ao];exact b6⟩;simp![c1,op2,a5X (b5 (g:=u) g) c2 (by rw[aa,aa];ac_nf)]
theorem b0K{T:D}{xs:List Str}{s:Nat}{body:Ss}{l:List α}(rp:α->D)(f:α->Str)(S:TS T h0 env h xs)(ha:ev ct c a env h=.ok (.ref s) h)(hs:h0[s]? =some (.lst (l.map rp)))
 (hb:∀x∈l,∀env h xs,TS T h0 env h xs->↥xs<=1000->∃bW bG h',D9 p (rp x) env=some bW/\exs ct c body bW h=.ok (.nx bG) h'/\TS T h0 bG h' (xs++[f x])) (hl:↥xs+↥l<=1000):∃bG h',ex ct c (.for p (.seq a) body) env h=.ok (.nx bG) h'/\TS T h0 bG h' (xs++l.map f):=by
 have S0:=S;obtain⟨n,e1,e3,e4,e5,e6,e7,e8,e9,rfl,pf,_⟩:=S;obtain⟨bG,h',q1,q2⟩:=D6 (g:=[(s,.lst (l.map rp))]) (p:=p) (body:=exs ct c body) (λj env h=>TS T h0 env h (xs++(l.take j).map f)) (λj env h S=>by
  obtain⟨n,e1,e3,e4,e5,e6,e7,e8,e9,rfl,pf,_⟩:=S;simp[gOk,pf.at hs]) (l.map rp) 0 _ h (λj x env h hx hP=>by
  have hj:j<↥l:=by simpa using(ac.mp hx).1
  rw[ak,ai hj] at hx;obtain rfl:rp l[j]=x:=ax hx;rw[aB] at hP⊢;obtain⟨bW,bG,h',b1,b2,b3⟩:=hb l[j] (br hj) env h _ hP (by rw[aq,aa,aM];ac_nf);refine⟨bW,bG,h',b1,b2,?_⟩;rw[List.take_add_one,ai hj,ao,←aA];exact b3) (by rw[List.take_zero,map_nil,aZ];exact S0)
 refine⟨bG,h',?_,?_⟩
 · rw[a5K,a2X,ha,b8];simp only[M4,pf.at hs];rw[b8];exact q1
 · rw[aa,aB,bf] at q2;exact q2
theorem b0L{T:D}{xs:List Str}{t:AH}(S:TS T h0 env h xs)(he:ev ct c e env h=.ok (.str z) (h++t))(hl:↥xs<=1000):∃h',ex ct c (.ex (.mt .append (.v 2) (.cons e .nil))) env h=.ok (.nx env) h'/\TS T h0 env h' (xs++[z]):=by obtain⟨n,e1,e3,e4,e5,e6,e7,e8,e9,rfl,p,l,g⟩:=S;refine⟨(h++t).set n (.lst (xs.map .str++[.str z])),?_,n,e1,e3,e4,e5,e6,e7,e8,e9,rfl,(p.app _).set l,l,by rw[B0 (b5 g),ao];rfl⟩;simp![E2 g,he,K1 (b5 (g:=t) g) (by rw[aa];ac_nf)]
theorem a9h(A:EvL ct c e env h ws)(r:Row ws):∃t,ev ct c (.mt .join (.s " ") (.cons e .nil)) env h=.ok (.str (ln ws)) (h++t):=a3K A (b6D (λw hw=>(r.w w hw).l) (by have:=r.l;ac_nf))
theorem a3z:↥(Str.ofString "shape ")=6:=rfl
theorem a1A:↥(Str.ofString "mark ")=5:=rfl
theorem a0a:↥(Str.ofString "point ")=6:=rfl
theorem b7W:↥(Str.ofString "gap ")=4:=rfl
theorem a5q:↥(Str.ofString "feature ")=8:=rfl
theorem a3u{p:Int×Int}(hp:a0z p):↥(ln (M5 p))<=42:=b2b (ws:=M5 p) (b:=20) (i9 (WOk.num hp.1) (i9 (WOk.num hp.2) Row.nil) · · |>.l)
variable{H:HL}(K:HLok H)
include K
theorem b5X{p:Str×Nat}(hp:p∈H.sh):ev ct c b5z [some (.str p.1),some (.int (p.2:Int))] h=.ok (.str (ln (U6 p))) h:=by have k:=K.sh.ok p hp;have l1:=a0c k.1;have l2:=a2T (i:=(p.2:Int)) (by have:=k.2;ac_nf);unfold b5z;simp![op2,u0 (h:=h) (x:="shape ") (y:=p.1) (by rw[a3z];ac_nf),u0 (h:=h) (x:=("shape ":Str)++p.1) (y:=" ") (by rw[l8,a3z,G3];ac_nf),a7z (i:=(p.2:Int)) (h:=h) (by have:=k.2;ac_nf),u0 (h:=h) (x:=("shape ":Str)++p.1++(" ":Str)) (y:=num p.2) (by rw[l8,l8,a3z,G3];ac_nf),b4k];rfl
theorem c1j{n:Str}(hn:n∈H.gp):ev ct c (.bin .add (.s "gap ") (.v 0)) [some (.str n)] h=.ok (.str (ln (a6c n))) h:=by have l1:=a0c (a5E K hn);simp![op2,u0 (h:=h) (x:="gap ") (y:=n) (by rw[b7W];ac_nf),b9E];rfl
theorem b8L{p:Str×Bool}(hp:p∈H.fe):∃t,ev ct c b8s [some (.str p.1),some (.bl p.2)] h=.ok (.str (ln (a2t p))) (h++t):=by
 have l1:=a0c (a1I K (al.mpr ⟨p,hp,rfl⟩));have lo:↥(a9U p.2)<=20:=by cases p.2<;>decide
 have ib:biD .int (h++[.lst [.str "off",.str "on"]]) [.bl p.2]=.ok ⇑(if p.2 then 1 else 0) (h++[.lst [.str "off",.str "on"]]):=by cases p.2<;>rfl
 have ix:ixD (h++[.lst [.str "off",.str "on"]]) (.ref ↥h) ⇑(if p.2 then 1 else 0)=.ok (.str (a9U p.2)) (h++[.lst [.str "off",.str "on"]]):=v5 b6 (by cases p.2<;>rfl);refine⟨[.lst [.str "off",.str "on"]],?_⟩;unfold b8s;simp![op2,u0 (h:=h) (x:="feature ") (y:=p.1) (by rw[a5q];ac_nf),u0 (h:=h) (x:=("feature ":Str)++p.1) (y:=" ") (by rw[l8,a5q,G3];ac_nf),v8,ib,ix,u0 (h:=h++[.lst [.str "off",.str "on"]]) (x:=("feature ":Str)++p.1++(" ":Str)) (y:=a9U p.2) (by rw[l8,l8,a5q,G3];ac_nf),b7b];rfl
theorem b6a{x:Cs}(hx:x∈H.cs):∃t,ev ct c (.mt .join (.s " ") (.cons b8r .nil)) [some (.str x.n),some (.tup (x.fs.map .str))] h=.ok (.str (ln (U7 x))) (h++t):=by have r:=a1Y K hx;have l:=r.l;have A:=R8 (a0I (ct:=ct) (c:=c) (es:=(.s "class">=>.o (.v 0))) (env:=[some (.str x.n),some (.tup (x.fs.map .str))]) (h:=h) (xs:=["class",x.n]) (by simp![]) (by show 2<=1000;decide)) (λt=>W6 (a:=.v 1) (xs:=x.fs) (by simp![])) (by unfold U7 at l;simp only[length_cons,length_nil] at l⊢;ac_nf);exact a9h (e:=b8r) A r
theorem b3L{T:D}{xs:List Str}{x:Lt}(hx:x∈H.ls)(S:TS T h0 env h xs)(hl:↥xs<=1000):∃bW bG h',D9 (htP 1 7 8 9) (ltD x) env=some bW/\exs ct c b5A bW h=.ok (.nx bG) h'/\TS T h0 bG h' (xs++[ln (N5 x)]):=by have r:=a0U K hx;have l:=r.l;obtain⟨n,e1,e3,e4,e5,e6,e7,e8,e9,rfl,p,ln',g⟩:=S;have S1:TS T h0 [some T,some (.str x.n),~~~n,e3,e4,e5,e6,some (.str x.j),some (.str x.w),some (.tup (x.fs.map .str))] h xs:=⟨n,_,_,_,_,_,_,_,_,rfl,p,ln',g⟩;have A:=R8 (a0I (ct:=ct) (c:=c) (es:=(.s "letter">=>.v 1>=>.v 7>=>.o (.v 8))) (env:=[some T,some (.str x.n),~~~n,e3,e4,e5,e6,some (.str x.j),some (.str x.w),some (.tup (x.fs.map .str))]) (h:=h) (xs:=["letter",x.n,x.j,x.w]) (by simp![]) (by show 4<=1000;decide)) (λt=>W6 (a:=.v 9) (xs:=x.fs) (by simp![])) (by unfold N5 at l;simp only[length_cons,length_nil] at l⊢;ac_nf);obtain⟨t,q⟩:=a9h (e:=c0H) A r;obtain⟨h',q1,q2⟩:=b0L S1 q hl;refine⟨_,_,h',rfl,?_,q2⟩;unfold b5A;show exs ct c _ [some T,some (.str x.n),~~~n,e3,e4,e5,e6,some (.str x.j),some (.str x.w),some (.tup (x.fs.map .str))] h=_;rw[seq q1,a5J]
variable(dW:F 213=some E7)
include dW
theorem b5Y{k:Nat}{p:Pt}(hp:p∈H.pt):ev ct (b4 ct F (k+1)) b8t [some (.str p.n),some (.str p.s),some (spD p.a)] h=.ok (.str (ln (Z4 p))) h:=by obtain⟨k1,k2,k3⟩:=K.pto p hp;have l1:=a0c (N7 K k1);have l2:=(a8z K k2).l;have l3:=a3u k3;unfold b8t;simp![op2,a3t (k:=k) (h:=h) dW k3,u0 (h:=h) (x:="point ") (y:=p.n) (by rw[a0a];ac_nf),u0 (h:=h) (x:=("point ":Str)++p.n) (y:=" ") (by rw[l8,a0a,G3];ac_nf),u0 (h:=h) (x:=("point ":Str)++p.n++(" ":Str)) (y:=p.s) (by rw[l8,l8,a0a,G3];ac_nf),u0 (h:=h) (x:=("point ":Str)++p.n++(" ":Str)++p.s) (y:=" ") (by rw[l8,l8,l8,a0a,G3];ac_nf),u0 (h:=h) (x:=("point ":Str)++p.n++(" ":Str)++p.s++(" ":Str)) (y:=ln (M5 p.a)) (by rw[l8,l8,l8,l8,a0a,G3];ac_nf)];unfold M5;rw[b4l];rfl
theorem b9b{k:Nat}{T:D}{xs:List Str}{x:Mk}(hx:x∈H.mr)(S:TS T h0 env h xs)(hl:↥xs<=1000):∃bW bG h',D9 (htP 1 3 4 5) (mkD x) env=some bW/\exs ct (b4 ct F (k+1)) b5B bW h=.ok (.nx bG) h'/\TS T h0 bG h' (xs++[ln (V6 x)]):=by
 obtain⟨k1,k2,k3⟩:=K.mko x hx;have l1:=a0c (N7 K (a5r K hx));have l2:=(a8z K k1).l;have l3:=a3u k2;have l4:=a3u k3;obtain⟨n,e1,e3,e4,e5,e6,e7,e8,e9,rfl,p,ln',g⟩:=S;have S1:TS T h0 [some T,some (.str x.n),~~~n,some (.str x.s),some (spD x.a),some (spD x.b),some (.str ((ln (M5 x.a)++(" ":Str))++ln (M5 x.b))),e7,e8,e9] h xs:=⟨n,_,_,_,_,_,_,_,_,rfl,p,ln',g⟩;have q:ev ct (b4 ct F (k+1)) (.bin .add (.bin .add (.bin .add (.bin .add (.bin .add (.s "mark ") (.v 1)) (.s " ")) (.v 3)) (.s " ")) (.v 6)) [some T,some (.str x.n),~~~n,some (.str x.s),some (spD x.a),some (spD x.b),some (.str ((ln (M5 x.a)++(" ":Str))++ln (M5 x.b))),e7,e8,e9] h=.ok (.str (ln (V6 x))) (h++[]):=by rw[aZ];simp![op2,u0 (h:=h) (x:="mark ") (y:=x.n) (by rw[a1A];ac_nf),u0 (h:=h) (x:=("mark ":Str)++x.n) (y:=" ") (by rw[l8,a1A,G3];ac_nf),u0 (h:=h) (x:=("mark ":Str)++x.n++(" ":Str)) (y:=x.s) (by rw[l8,l8,a1A,G3];ac_nf),u0 (h:=h) (x:=("mark ":Str)++x.n++(" ":Str)++x.s) (y:=" ") (by rw[l8,l8,l8,a1A,G3];ac_nf),u0 (h:=h) (x:=("mark ":Str)++x.n++(" ":Str)++x.s++(" ":Str)) (y:=ln (M5 x.a)++(" ":Str)++ln (M5 x.b)) (by rw[l8,l8,l8,l8,l8,l8,a1A,G3];ac_nf)];unfold M5;rw[b7a];rfl
 obtain⟨h',q1,q2⟩:=b0L S1 q hl;refine⟨_,_,h',rfl,?_,q2⟩;unfold b5B;rw[seq (bG:=[some T,some (.str x.n),~~~n,some (.str x.s),some (spD x.a),some (spD x.b),some (.str ((ln (M5 x.a)++(" ":Str))++ln (M5 x.b))),e7,e8,e9]) (h':=h) (by simp![op2,a3t (ct:=ct) (k:=k) (h:=h) dW k2,a3t (ct:=ct) (k:=k) (h:=h) dW k3,u0 (h:=h) (x:=ln (M5 x.a)) (y:=" ") (by rw[G3];ac_nf),u0 (h:=h) (x:=ln (M5 x.a)++(" ":Str)) (y:=ln (M5 x.b)) (by rw[l8,G3];ac_nf)]),seq q1,a5J]
theorem b2B{k:Nat}{a c d e i:Nat}(f214:F 214=some E6)(f215:F 215=some J8)(A:HAt H h a b c d e f i j):b4 ct F (k+2) 215 [.tup [.ref a,.ref b,.ref c,.ref d,.ref e,.ref f,.ref i,.ref j]] h=.ok (.str (a9c H)) h:=by
 rw[c9 f215 rfl];simp only[J8];generalize hT:D.tup [.ref a,.ref b,.ref c,.ref d,.ref e,.ref f,.ref i,.ref j]=T;show gcR 1 h (a4h (exs ct (b4 ct F (k+1)) _ [some T,none,none,none,none,none,none,none,none,none] h))=_;have rl:=(Z8 K).1;have ll:↥H.sh+↥H.mr+↥H.pt+↥H.ls+↥H.gp+↥H.cs+↥H.fe+↥H.ru<=300:=by unfold M6 at rl;simp only[aq,aa] at rl;exact rl
 obtain⟨t0,c0⟩:=a7h (ct:=ct) (c:=b4 ct F (k+1)) (p:=(.tp (.nm 0>=>.nm 1>=>.nil))) (a:=(.ix (.v 0) (.i 0))) (e:=b5z) (nb:=2) (fr:=[]) (env:=[some T,none,none,none,none,none,none,none,none,none]) (h:=h) (l:=H.sh) (s:=a) (λp=>.tup [.str p.1,.int (p.2:Int)]) (λp=>ln (U6 p)) (λp=>[some (.str p.1),some (.int (p.2:Int))]) (by rw[←hT];simp![a1U]) A.sh nofun (λx hx=>⟨rfl,λh=>⟨[],by rw[aZ];exact b5X K hx⟩⟩);have S0:TS T h [some T,none,some (.ref ↥(h++t0)),none,none,none,none,none,none,none] (h++t0++[.lst ((H.sh.map λp=>ln (U6 p)).map .str)]) (H.sh.map λp=>ln (U6 p)):=⟨_,_,_,_,_,_,_,_,_,rfl,((Pf.refl h).app _).app _,by simp,b6⟩;rw[seq (bG:=[some T,none,some (.ref ↥(h++t0)),none,none,none,none,none,none,none]) (by unfold c0N;rw[a2o,c0,b8];rfl)];obtain⟨bW,h1,q1,S1⟩:=b0K (l:=H.mr) (a:=(.ix (.v 0) (.i 1))) (p:=htP 1 3 4 5) (body:=b5B) (c:=b4 ct F (k+1)) mkD (λm=>ln (V6 m)) S0 (a3d (i:=1) S0 hT.symm rfl) A.mr (λx hx env h xs S hl=>b9b K dW hx S hl) (by rw[aa];ac_nf);rw[seq q1];obtain⟨env2,h2,q2,S2⟩:=a4V (c:=b4 ct F (k+1)) (C:=c0M) S1 (a0s (a:=(.ix (.v 0) (.i 2))) (l:=H.pt) ptD (λp=>ln (Z4 p)) (λp=>[some (.str p.n),some (.str p.s),some (spD p.a)]) (a3d (i:=2) S1 hT.symm rfl) (S1.pf.at A.pt) nofun (λx hx=>⟨rfl,λh=>⟨[],by rw[aZ];exact b5Y K dW hx⟩⟩)) (by simp only[aq,aa];ac_nf);rw[seq q2];obtain⟨env3,h3,q3,S3⟩:=b0K (l:=H.ls) (a:=(.ix (.v 0) (.i 3))) (p:=htP 1 7 8 9) (body:=b5A) (c:=b4 ct F (k+1)) ltD (λm=>ln (N5 m)) S2 (a3d (i:=3) S2 hT.symm rfl) A.ls (λx hx env h xs S hl=>b3L K hx S hl) (by simp only[aq,aa];ac_nf);rw[seq q3];obtain⟨env4,h4,q4,S4⟩:=a4V (ct:=ct) (c:=b4 ct F (k+1)) (C:=c0L) S3 (a0s (a:=(.ix (.v 0) (.i 4))) (l:=H.gp) .str (λp=>ln (a6c p)) (λp=>[some (.str p)]) (a3d (i:=4) S3 hT.symm rfl) (S3.pf.at A.gp) nofun (λx hx=>⟨rfl,λh=>⟨[],by rw[aZ];exact c1j K hx⟩⟩)) (by simp only[aq,aa];ac_nf);rw[seq q4];obtain⟨env5,h5,q5,S5⟩:=a4V (c:=b4 ct F (k+1)) (C:=c0K) S4 (a0s (a:=(.ix (.v 0) (.i 5))) (l:=H.cs) csD (λp=>ln (U7 p)) (λp=>[some (.str p.n),some (.tup (p.fs.map .str))]) (a3d (i:=5) S4 hT.symm rfl) (S4.pf.at A.cs) nofun (λx hx=>⟨rfl,λh=>b6a K hx⟩)) (by simp only[aq,aa];ac_nf);rw[seq q5];obtain⟨env6,h6,q6,S6⟩:=a4V (c:=b4 ct F (k+1)) (C:=c0J) S5 (a0s (a:=(.ix (.v 0) (.i 6))) (l:=H.fe) feD (λp=>ln (a2t p)) (λp=>[some (.str p.1),some (.bl p.2)]) (a3d (i:=6) S5 hT.symm rfl) (S5.pf.at A.fe) nofun (λx hx=>⟨rfl,λh=>b8L K hx⟩)) (by simp only[aq,aa];ac_nf);rw[seq q6];have B:=a0s (ct:=ct) (c:=b4 ct F (k+1)) (p:=.nm 0) (nb:=1) (fr:=[]) (e:=(.call 214 (.o (.v 0)))) (a:=(.ix (.v 0) (.i 7))) (l:=H.ru) ruD (λp=>ln (T6 p)) (λp=>[some (ruD p)]) (a3d (i:=7) S6 hT.symm rfl) (S6.pf.at A.ru) nofun (λx hx=>⟨rfl,λh=>⟨[],by have r:=a3q K hx;rw[aZ];simp![b1f (k:=k) (h:=h) (r:=x) f214 (by have:=r.l;ac_nf) λw hw=>(r.w w hw).l]⟩⟩)
 obtain⟨n,e1,e3,e4,e5,e6,e7,e8,e9,rfl,p,l,g⟩:=S6;have C:EvL ct (b4 ct F (k+1)) (.bin .add (.v 2) c0I) [some T,e1,~~~n,e3,e4,e5,e6,e7,e8,e9] h6 ((M6 H).map ln):=by
  have e:(M6 H).map ln=((((((((H.sh.map λp=>ln (U6 p))++H.mr.map λp=>ln (V6 p))++H.pt.map λp=>ln (Z4 p))++H.ls.map λp=>ln (N5 p))++H.gp.map λp=>ln (a6c p))++H.cs.map λp=>ln (U7 p))++H.fe.map λp=>ln (a2t p))++H.ru.map λp=>ln (T6 p)):=by unfold M6;simp only[ao,aI];rfl
  rw[e];exact b3l rfl g B (by simp only[aq,aa];ac_nf)
 obtain⟨t,z⟩:=a3K C (b6U K);rw[J3,a0r,z,b8,b8];exact b0j (p.app t) rfl
end
theorem b6z{s:Str}(h:a0L s):inD (.str s) [.str "above",.str "below"]=true:=by rcases h with rfl|rfl<;>decide
theorem a0v{a b c:Bool}(ha:a=false)(hb:b=true)(hc:c=false):due a b c=none:=by subst ha hb hc;rfl
theorem nin[DecidableEq α]{a:α}{l:List α}(h:a∉l):decide (a∈l)=false:=bx h
theorem T0(h:b9 z=true):↥z<=100000:=by have:=a0c h;ac_nf
theorem W4(xs:List Str):(xs.map D.str).all z8=true:=by rw[all_map];exact bm.mpr λ_ _=>rfl
theorem a1D(x:Str):∀xs:List Str,inD (.str x) (xs.map .str)=decide (x∈xs)
 |[]=>rfl
 |y::r=>by
  have ih:=a1D x r;unfold inD at ih⊢;rw[map_cons,any_cons,ih];show(decide (y=x)||decide (x∈r))=_
  by_cases e:y=x
  · subst e;simp
  · rw[bx e,hV];exact decide_eq_decide.mpr ⟨λz=>.tail _ z,λz=>(aF.mp z).resolve_left λq=>e q.symm⟩
variable{r:R D}
section
variable{ct:CT}{F:Nat->Option Fn}(W:PF F)
include W
theorem b3P{k:Nat}{d9:List D}(hw:h[w]? =some (.lst (.str x::d9)))(hr:b4 ct F k f [.ref n,.ref w] h=r)(hx:(x,f)∈[(("mark":Str),19),("gap",23)]):b4 ct F (k+1) 13 [.ref n,.ref w] h=r:=by
 rw[←hr,c9 W.f13 rfl];simp only[F6];rw[gc0];simp only[aF,not_mem_nil,gx,Prod.mk.injEq] at hx;rcases hx with⟨rfl,rfl⟩|⟨rfl,rfl⟩
 · simp![v7 0 0 rfl hw rfl,op2,G7,eqS,fO,fK];generalize b4 ct F k 19 [.ref n,.ref w] h=r;cases r<;>simp![]
 · simp![v7 0 0 rfl hw rfl,op2,G7,eqS,fO,fK];generalize b4 ct F k 23 [.ref n,.ref w] h=r;cases r<;>simp![]
theorem HallAt.s5{H:HD}(A:HallAt h n H)(l:List Str):HallAt (h.set (n+5) (.lst (l.map .str))) n {H with gaps:=l}:=
 ⟨b7 nofun A.o,b7 nofun A.c1,b7 nofun A.c2,b7 nofun A.c3,b7 nofun A.c4,B0 A.c5,b7 nofun A.c6,b7 nofun A.c7,b7 nofun A.c8⟩
variable{d:Nat}{H:HD}
theorem b2E{p:Str×Nat}(hn:b9 p.1=true)(hw:p.2<99999)(h1:p.1∉H.shapes.map (·.1))(hl:↥H.shapes<60):Z2 ct F (d+9) H (U6 p) none {H with shapes:=H.shapes++[(p.1,.int (p.2:Int))]}:=by have:=b0R (ct:=ct) (d:=d) (H:=H) W hn (a3x (n:=p.2) nofun);rw[a0v (nin h1) rfl (bx nofun)] at this;exact this
theorem b5G{p:Str×Bool}(hn:b9 p.1=true)(h1:p.1∉H.features.map (·.1))(hl:↥H.features<10):Z2 ct F (d+9) H (a2t p) none {H with features:=H.features++[(p.1,.bl p.2)]}:=by have:=a7x (ct:=ct) (d:=d) (H:=H) (b:=a9U p.2) W hn (by cases p.2;exact .inr rfl;exact .inl rfl);rw[a0v (nin h1) rfl (bx nofun),show decide (a9U p.2="on")=p.2 by cases p.2<;>decide+kernel] at this;exact this
theorem b0i{l:Lt}(o:LtOk sh l)(hs:∀f∈l.fs,b9 f=true/\f∈H.shapes.map (·.1))(h1:l.n∉H.letters.map (·.1))(hl:↥H.letters<24):Z2 ct F (d+9) H (N5 l) none {H with letters:=H.letters++[(l.n,.tup [.str l.j,.str l.w,.tup (l.fs.map .str)])]}:=by intro h n w A hw;have:=a3e (ct:=ct) (k:=d+3) (d9:=l.fs) W A hw o.nm (T0 o.nm) o.jn o.wy (bm.mpr λf hf=>(hs f hf).1) (λy hy=>T0 (hs y hy).1) (by have:=o.few;ac_nf);rw[a0v (nin h1) (bm.mpr λf hf=>ba (hs f hf).2) (bx nofun)] at this;rw[a9C W hw,this];exact⟨_,rfl,(Fr.app n h _).trans (Fr.set nofun nofun),(A.app _).s4 _⟩
theorem b2G{c:Cs}(o:CsOk sh c)(hs:∀f∈c.fs,b9 f=true/\f∈H.shapes.map (·.1))(h1:c.n∉H.classes.map (·.1))(hl:↥H.classes<20):Z2 ct F (d+9) H (U7 c) none {H with classes:=H.classes++[(c.n,.tup (c.fs.map .str))]}:=by intro h n w A hw;have:=a4e (ct:=ct) (k:=d+3) (d9:=c.fs) W A hw o.nm (T0 o.nm) (bm.mpr λf hf=>(hs f hf).1) (λy hy=>T0 (hs y hy).1) o.few.1 o.few.2;rw[a0v (nin h1) (bm.mpr λf hf=>ba (hs f hf).2) (bx nofun)] at this;rw[b0O W hw,this];exact⟨_,rfl,(Fr.app n h _).trans (Fr.set nofun nofun),(A.app _).s6 _⟩
theorem b2F{p:Pt}(hn:b9 p.n=true)(hs:a0L p.s)(ha:a0z p.a)(h1:ptK p∉H.points.map (·.1))(h2:p.n∈H.shapes.map (·.1))(hl:↥H.points<=1000):Z2 ct F (d+9) H (Z4 p) none {H with points:=H.points++[(ptK p,spD p.a)]}:=by intro h n w A hw;have:=a4d (ct:=ct) (k:=d+2) W A hw hn (T0 hn) (b6z hs) (K2 ha.1) (K2 ha.2) nofun;have h1:(p.n,p.s)∉H.points.map (·.1):=h1;rw[a0v (bx h1) (ba h2) rfl] at this;rw[b0N W hw];exact this
theorem b8v{g:Str}(hn:b9 g=true)(h1:g∉H.gaps)(h2:g∈H.letters.map (·.1))(hl:↥H.gaps<=1000):Z2 ct F (d+9) H (a6c g) none {H with gaps:=H.gaps++[g]}:=by
 intro h n w A hw;have hw:h[w]? =some (.lst [.str "gap",.str g]):=hw;have hg:O4 false h (.str g) (.ref (n+5))=.ok (.bl false) h:=by simp only[O4,A.c5];rw[ay (by rw[W4];rfl),a1D,nin h1];rfl
 have e:b4 ct F (d+8) 23 [.ref n,.ref w] h=.ok .non (h.set (n+5) (.lst ((H.gaps++[g]).map .str))):=by rw[c9 W.f23 rfl];simp only[a1e];rw[gc0];simp![k7 hw,op2,a2I,eqS,v7 1 1 rfl hw rfl,J0 W (T0 hn),hn,A.fld5,A.fld4,hg,Z1 A.c4,ba h2,D7 W,a0v rfl rfl rfl,V4,Int.cast_ofNat_Int,fO,fL,E2 A.c5,K1 (d:=.str g) A.c5 (by rw[aa];ac_nf)];rw[ao];rfl
 rw[b3P W hw e (.tail _ (.head _))];exact⟨_,rfl,Fr.set nofun nofun,HallAt.s5 W A _⟩
theorem b5F{m:Mk}(hn:b9 m.n=true)(hs:a0L m.s)(ha:a0z m.a)(hb:a0z m.b)(h1:m.n∉H.marks.map (·.1))(h2:m.n∈H.shapes.map (·.1))(hl:↥H.marks<=1000):Z2 ct F (d+9) H (V6 m) none {H with marks:=H.marks++[(m.n,.tup [.str m.s,spD m.a,spD m.b])]}:=by
 intro h n w A hw;have hf:b4 ct F (d+7) 18 [.ref w,.int 4] h=.ok (.bl true) h:=a1v (k:=d+2) (ws:=[num m.a.1,num m.a.2,num m.b.1,num m.b.2]) W hw hn (T0 hn) (b6z hs) rfl (by simp[a6m,K2 ha.1,K2 ha.2,K2 hb.1,K2 hb.2]) (λy hy=>by have:=(i9 (WOk.num ha.1) (i9 (WOk.num ha.2) (i9 (WOk.num hb.1) (i9 (WOk.num hb.2) Row.nil))) y hy).l;ac_nf) ⋯
 have e35:L6 ((V6 m).map .str) (some 3) (some 5)=[.str (num m.a.1),.str (num m.a.2)]:=N2 3 5 ((V6 m).map .str) ∅ (fS rfl);have e57:L6 ((V6 m).map .str) (some 5) (some 7)=[.str (num m.b.1),.str (num m.b.2)]:=N2 5 7 ((V6 m).map .str) ∅ (fS rfl);have A2:=(A.app [.lst [.str (num m.a.1),.str (num m.a.2)]]).app [.lst [.str (num m.b.1),.str (num m.b.2)]];have hw1:=b5 (g:=[.lst [.str (num m.a.1),.str (num m.a.2)]]) hw;have e:b4 ct F (d+8) 19 [.ref n,.ref w] h=.ok .non ((h++[Cell.lst [D.str (num m.a.1),D.str (num m.a.2)]]++[Cell.lst [D.str (num m.b.1),D.str (num m.b.2)]]).set (n+2) (Cell.dict (kd (H.marks++[(m.n,D.tup [.str m.s,spD m.a,spD m.b])])))):=by rw[c9 W.f19 rfl];simp only[a0m];rw[gc0];simp![hf,fL,v7 1 1 rfl hw rfl,v7 2 2 rfl hw rfl,op2,A.fld2,Z1 A.c2,A.fld1,Z1 A.c1,D7 W,a0v (nin h1) (ba h2) rfl,V4,fO,F0 hw,e35,a5l W (b6 (h:=h)) (K2 ha.1) (K2 ha.2),F0 hw1,e57,a5l W (b6 (h:=h++[Cell.lst [.str (num m.a.1),.str (num m.a.2)]])) (K2 hb.1) (K2 hb.2),A2.fld2,Z7 A2.c2 h1 (show _<16777216 by ac_nf)];rfl
 rw[b3P W hw e (.head _)];exact⟨_,rfl,((Fr.app n h _).trans (Fr.app n _ _)).trans (Fr.set nofun nofun),A2.s2 _⟩
theorem b2r{i:Str}(ho:Z3 sh cs i)(hs:∀f∈sh.map (·.1),b9 f=true/\f∈H.shapes.map (·.1))(hc:∀c∈cs,b9 c.n=true/\c.n∈H.classes.map (·.1)):V1 i=true/\N1 H i=true/\↥i<=100000:=by
 rcases ho with ho|⟨c,hm,rfl⟩
 · have k:=hs i ho;unfold V1 N1;rw[a8J W k.1,k.1,az bq];exact⟨rfl,ba k.2,T0 k.1⟩
 · have k:=hc c hm;have hd:cd (("@":Str)++c.n)=64::cd c.n:=by rw[E9];rfl
   have ht:tl (("@":Str)++c.n)=c.n:=V5 (by rw[a3Q,hd];rfl);have hk:O1 (("@":Str)++c.n)=true:=by unfold O1;rw[ht,k.1,hd];rfl
   have:=(WOk.at k.1).l;unfold V1 N1;rw[hk,Bool.or_true,ay rfl,ht];exact⟨rfl,ba k.2,by ac_nf⟩
theorem b5E{r:Ru}(o:RuOk sh cs fe r)(hs:∀f∈sh.map (·.1),b9 f=true/\f∈H.shapes.map (·.1))(hc:∀c∈cs,b9 c.n=true/\c.n∈H.classes.map (·.1))(hf:b9 r.f=true/\r.f∈H.features.map (·.1))(h1:r.t∉H.rules.map (·.1))(hl:↥H.rules<30):Z2 ct F (d+9) H (T6 r) none {H with rules:=H.rules++[(r.t,[.str r.f,.tup (r.b.map .str),.tup (r.c.map .str),.tup (r.a.map .str),.tup (r.o.map .str)])]}:=by
 intro h n w A hw;have hi:∀i∈r.b++r.c++r.a,V1 i=true/\N1 H i=true/\↥i<=100000:=λi hi=>by
  rcases aL.mp hi with hi|hi
  · rcases aL.mp hi with hi|hi
    · exact b2r W (o.b i hi) hs hc
    · exact b2r W (o.c i hi) hs hc
  · exact b2r W (o.a i hi) hs hc
 have ho:∀i∈r.o,b9 i=true/\i∈H.shapes.map (·.1):=λi hi=>hs i (o.o i hi);have rf:RuleForm r.t r.f r.b r.c r.a r.o:=⟨o.nm,hf.1,o.b3,o.c4.1,o.c4.2,o.a3,o.o3.1,o.o3.2,bm.mpr λi h=>(hi i h).1,bm.mpr λi h=>(ho i h).1,λy hy=>by
  rcases aF.mp hy with rfl|hy
  · exact T0 o.nm
  · rcases aF.mp hy with rfl|hy
    · exact T0 hf.1
    · rcases aL.mp hy with hy|hy
      · exact(hi y hy).2.2
      · exact T0 (ho y hy).1⟩
 have:=a4W (ct:=ct) (k:=d+1) W A nofun (x:="rule") (t:=r.t) (f:=r.f) (bI:=r.b) (bE:=r.c) (bN:=r.a) (bH:=r.o) hw rf;rw[a0v (nin h1) (by rw[ba hf.2,bm.mpr λi h=>(hi i h).2.1,bm.mpr λi h=>ba (ho i h).2];rfl) (bx nofun)] at this
 rw[b4i W hw];exact this
end
theorem J5{ct:CT}{F:Nat->Option Fn}{d:Nat}{α:Type}{dz:List α}{d9:List Str}{H':HD}(wf:α->List Str)(U:List α->HD)(hR:∀x∈dz,Row (wf x))(dN:∀pre x post,dz=pre++x::post->Z2 ct F d (U pre) (wf x) none (U (pre++[x])))(hT:Reads ct F d (U dz) d9 H'):∀(l pre:List α),dz=pre++l->Reads ct F d (U pre) (l.map (λx=>ln (wf x))++d9) H'
 |[],pre,e=>by rw[aZ] at e;subst e;exact hT
 |x::l,pre,e=>by have r:=hR x (by rw[e];exact mem_append_right _ (.head _));have b:=b1h r;have:=a8E r;refine .take (H1:=U (pre++[x])) (show(ln (wf x)).length<=100000 by ac_nf) (by rw[b];exact r.n) (by rw[b];exact dN pre x l e) (J5 wf U hR dN hT l (pre++[x]) (by rw[e];simp))
theorem O5{f:α->β}{dz pre post:List α}{x:α}(h:(dz.map f).Nodup)(e:dz=pre++x::post):f x∉pre.map f:=λm=>by rw[e,ao,map_cons] at h;exact(nodup_append.mp h).2.2 _ m _ (.head _) rfl
theorem L4{dz pre post:List α}{x:α}(e:dz=pre++x::post):↥pre<↥dz/\x∈dz:=by rw[e];exact⟨by simp only[aq,length_cons];ac_nf,mem_append_right _ (.head _)⟩
def hS(H:HL):List (Str×D):=H.sh.map λp=>(p.1,.int (p.2:Int))
def hM(l:List Mk):List (Str×D):=l.map λm=>(m.n,.tup [.str m.s,spD m.a,spD m.b])
def hP(l:List Pt):List ((Str×Str)×D):=l.map λp=>(ptK p,spD p.a)
def hL(l:List Lt):List (Str×D):=l.map λl=>(l.n,.tup [.str l.j,.str l.w,.tup (l.fs.map .str)])
def hC(l:List Cs):List (Str×D):=l.map λc=>(c.n,.tup (c.fs.map .str))
def hF(l:List (Str×Bool)):List (Str×D):=l.map λp=>(p.1,.bl p.2)
noncomputable def hR(l:List Ru):List (Str×List D):=l.map λr=>(r.t,[.str r.f,.tup (r.b.map .str),.tup (r.c.map .str),.tup (r.a.map .str),.tup (r.o.map .str)])
def L0(H:HL):HD:=⟨hS H,hM H.mr,hP H.pt,hL H.ls,H.gp,hC H.cs,hF H.fe,hR H.ru⟩
theorem a2g(k:α->Str)(v:α->β)(l:List α):(l.map λx=>(k x,v x)).map (·.1)=l.map k:=by rw[aI];rfl
theorem snoc(f:α->β)(l:List α)(x:α):(l++[x]).map f=l.map f++[f x]:=by rw[ao];rfl
theorem a6R{H:HL}(K:HLok H){f:Str}(h:f∈H.sh.map (·.1)):b9 f=true/\f∈(hS H).map (·.1):=⟨N7 K h,by unfold hS;rw[a2g];exact h⟩
theorem a9K{ct:CT}{F:Nat->Option Fn}(W:PF F){d:Nat}{H:HL}(K:HLok H):Reads ct F (d+9) {} ((M6 H).map ln) (L0 H):=by
 have e:(M6 H).map ln=H.sh.map (λp=>ln (U6 p))++(H.mr.map (λp=>ln (V6 p))++(H.pt.map (λp=>ln (Z4 p))++(H.ls.map (λp=>ln (N5 p))++(H.gp.map (λp=>ln (a6c p))++(H.cs.map (λp=>ln (U7 p))++(H.fe.map (λp=>ln (a2t p))++(H.ru.map (λp=>ln (T6 p))++[]))))))):=by unfold M6;simp only[ao,aI,aA,aZ];rfl
 rw[e];refine J5 U6 (λl=>{shapes:=l.map λp=>(p.1,.int (p.2:Int))}) (λx hx=>a4t K hx) (λpre x post q=>?_) ?_ H.sh [] rfl
 · obtain⟨q1,q2⟩:=L4 q;have k:=K.sh.ok x q2;have:=K.sh.hi;have g:=b2E (ct:=ct) (d:=d) (H:={shapes:=pre.map λp=>(p.1,.int (p.2:Int))}) (p:=x) W k.1 k.2 (by rw[a2g];exact O5 (f:=λp=>p.1) K.sh.nd q) (by rw[aa];ac_nf);simp only[snoc];exact g
 refine J5 V6 (λl=>{shapes:=hS H,marks:=hM l}) (λx hx=>a6s K hx) (λpre x post q=>?_) ?_ H.mr [] rfl
 · obtain⟨q1,q2⟩:=L4 q;obtain⟨k1,k2,k3⟩:=K.mko x q2;have hn:=a6R K (a5r K q2);have b:=a8u K K.mr;rw[aa] at b;have:=K.sh.hi;have g:=b5F (ct:=ct) (d:=d) (H:={shapes:=hS H,marks:=hM pre}) (m:=x) W hn.1 k1 k2 k3 (by unfold hM;rw[a2g];exact O5 (f:=λm:Mk=>m.n) (K.mr.nodup K.sh.nd) q) hn.2 (by unfold hM;rw[aa];ac_nf);unfold hM at g⊢;rw[snoc];exact g
 refine J5 Z4 (λl=>{shapes:=hS H,marks:=hM H.mr,points:=hP l}) (λx hx=>a4u K hx) (λpre x post q=>?_) ?_ H.pt [] rfl
 · obtain⟨q1,q2⟩:=L4 q;obtain⟨k1,k2,k3⟩:=K.pto x q2;have hn:=a6R K k1;have:=K.ptl;have g:=b2F (ct:=ct) (d:=d) (H:={shapes:=hS H,marks:=hM H.mr,points:=hP pre}) (p:=x) W hn.1 k2 k3 (by unfold hP;rw[aI];exact O5 (f:=ptK) K.pt q) hn.2 (by unfold hP;rw[aa];ac_nf);unfold hP at g⊢;rw[snoc];exact g
 refine J5 N5 (λl=>{shapes:=hS H,marks:=hM H.mr,points:=hP H.pt,letters:=hL l}) (λx hx=>a0U K hx) (λpre x post q=>?_) ?_ H.ls [] rfl
 · obtain⟨q1,q2⟩:=L4 q;have k:=K.lso x q2;have:=K.ls;have g:=b0i (ct:=ct) (d:=d) (H:={shapes:=hS H,marks:=hM H.mr,points:=hP H.pt,letters:=hL pre}) (l:=x) W k (λf hf=>a6R K (k.fs f hf)) (by unfold hL;rw[a2g];exact O5 (f:=λm:Lt=>m.n) K.lsn q) (by unfold hL;rw[aa];ac_nf);unfold hL at g⊢;rw[snoc];exact g
 refine J5 a6c (λl=>{shapes:=hS H,marks:=hM H.mr,points:=hP H.pt,letters:=hL H.ls,gaps:=l}) (λx hx=>a8F K hx) (λpre x post q=>?_) ?_ H.gp [] rfl
 · obtain⟨q1,q2⟩:=L4 q;have:=K.gp.length_le;rw[aa] at this;have:=K.ls;have nd:=O5 (f:=id) (by rw[map_id];exact K.gp.nodup K.lsn) q;rw[map_id] at nd;exact b8v (d:=d) (H:={shapes:=hS H,marks:=hM H.mr,points:=hP H.pt,letters:=hL H.ls,gaps:=pre}) (g:=x) W (a5E K q2) nd (by unfold hL;rw[a2g];exact K.gp.subset q2) (show ↥pre<=1000 by ac_nf)
 refine J5 U7 (λl=>{shapes:=hS H,marks:=hM H.mr,points:=hP H.pt,letters:=hL H.ls,gaps:=H.gp,classes:=hC l}) (λx hx=>a1Y K hx) (λpre x post q=>?_) ?_ H.cs [] rfl
 · obtain⟨q1,q2⟩:=L4 q;have k:=K.cso x q2;have:=K.cs;have g:=b2G (ct:=ct) (d:=d) (H:={shapes:=hS H,marks:=hM H.mr,points:=hP H.pt,letters:=hL H.ls,gaps:=H.gp,classes:=hC pre}) (c:=x) W k (λf hf=>a6R K (k.fs f hf)) (by unfold hC;rw[a2g];exact O5 (f:=λm:Cs=>m.n) K.csn q) (by unfold hC;rw[aa];ac_nf);unfold hC at g⊢;rw[snoc];exact g
 refine J5 a2t (λl=>{shapes:=hS H,marks:=hM H.mr,points:=hP H.pt,letters:=hL H.ls,gaps:=H.gp,classes:=hC H.cs,features:=hF l}) (λx hx=>a6t K hx) (λpre x post q=>?_) ?_ H.fe [] rfl
 · obtain⟨q1,q2⟩:=L4 q;have:=K.fe;have g:=b5G (ct:=ct) (d:=d) (H:={shapes:=hS H,marks:=hM H.mr,points:=hP H.pt,letters:=hL H.ls,gaps:=H.gp,classes:=hC H.cs,features:=hF pre}) (p:=x) W (a1I K (al.mpr ⟨x,q2,rfl⟩)) (by unfold hF;rw[a2g];exact O5 (f:=λp=>p.1) K.fen.nd q) (by unfold hF;rw[aa];ac_nf);unfold hF at g⊢;rw[snoc];exact g
 refine J5 T6 (λl=>{shapes:=hS H,marks:=hM H.mr,points:=hP H.pt,letters:=hL H.ls,gaps:=H.gp,classes:=hC H.cs,features:=hF H.fe,rules:=hR l}) (λx hx=>a3q K hx) (λpre x post q=>?_) (.nil _) H.ru [] rfl;obtain⟨q1,q2⟩:=L4 q;have k:=K.ruo x q2;have:=K.rul;have g:=b5E (ct:=ct) (d:=d) (H:={shapes:=hS H,marks:=hM H.mr,points:=hP H.pt,letters:=hL H.ls,gaps:=H.gp,classes:=hC H.cs,features:=hF H.fe,rules:=hR pre}) (r:=x) W k (λf hf=>a6R K hf) (λc hc=>⟨(K.cso c hc).nm,by unfold hC;rw[a2g];exact al.mpr ⟨c,hc,rfl⟩⟩) ⟨a1I K k.fe,by unfold hF;rw[a2g];exact k.fe⟩ (by unfold hR;rw[a2g];exact O5 (f:=λm:Ru=>m.t) K.run q) (by unfold hR;rw[aa];ac_nf);unfold hR at g⊢;rw[snoc];exact g
open PySem
def nc(s:Str):Bool:=decide (s≠"clear")
def bb(s:Str):Bool:=decide (s="both")||decide (s="back")
def b1S(js:List Str)(i:Nat):Bool:=nc (js.getD i "clear")
def O2(js:List Str):List Nat:=(List.range ↥js).filter (b1S js)
def jnx(x y:Str):Bool:=decide (x="both")&&bb y
noncomputable def G8(js:List Str):List (Nat×Nat):=((O2 js).zip ((O2 js).drop 1)).filter λp=>jnx (js.getD p.1 "") (js.getD p.2 "")
variable{js:List Str}
theorem b1a{i:Nat}:i∈O2 js↔∃h:i<↥js,nc js[i]=true:=by
 unfold O2;rw[bh,aN];refine⟨λ⟨h,e⟩=>⟨h,?_⟩,λ⟨h,e⟩=>⟨h,?_⟩⟩
 · unfold b1S at e
   rwa [bv,ai h] at e
 · unfold b1S;rw[bv,ai h];exact e
theorem a7J{l:List (Str×D)}{k:Str}(e:h[n]? =some (.dict (kd l))):O4 true h (.str k) (.ref n)=.ok (.bl (!decide (k∈l.map (·.1)))) h:=by simp only[O4,e,X3,fV,a7W];simp
theorem b4y{c:Cell}:(h++[c]).set ↥h c'=h++[c']:=by rw[List.set_append_right _ _ (aj _),Nat.sub_self];rfl
theorem a9r(hl:↥xs<1000000):mtD .append (h++[.lst xs]) (.ref ↥h) [d]=.ok .non (h++[.lst (xs++[d])]):=by rw[K1 b6 hl,b4y]
theorem b9d{xs:List α}{d:α}(hd:xs[↥xs-1]? =some d):atI xs (-1)=some d:=by
 have hl:=(ac.mp hd).1;unfold atI;have e:ixN ↥xs (-1)=some (↥xs-1):=by unfold ixN;rw[az nofun,ay nofun];congr 1;ac_nf
 rw[e];exact hd
theorem a6g(hd:xs[↥xs-1]? =some d):ixD h (.tup xs) (.int (-1))=.ok d h:=by simp only[ixD,b9d hd]
theorem b0n:op2 .eq h (.str x) (.str y)=.ok (.bl (decide (x=y))) h:=rfl
theorem c2C:op2 .ne h (.str x) (.str y)=.ok (.bl (!decide (x=y))) h:=rfl
theorem rd_of(e:h[n]? =some (.lst l)):rdL h n=some l:=by unfold rdL;rw[e]
def U9(ls:List Lt)(x:Str):Lt:=(ls.find? λl=>decide (l.n=x)).getD ⟨x,"","",[]⟩
theorem b2a{x:Str}:∀{ls:List Lt},x∈ls.map (·.n)->U9 ls x∈ls
 |[],h=>absurd h ⋯
 |l::r,h=>by
  unfold U9;rw[List.find?_cons]
  by_cases e:l.n=x
  · simp[e]
  · simp only[e,fK];rw[map_cons] at h;exact .tail _ (b2a ((aF.mp h).resolve_left λz=>e z.symm))
theorem b2L{x:Str}(f:Lt->D):∀{ls:List Lt},x∈ls.map (·.n)->n8 (kd (ls.map λl=>(l.n,f l))) (.str x)=some (f (U9 ls x))
 |[],h=>absurd h ⋯
 | l ::r,h=>by
  by_cases e:l.n=x
  · unfold n8 kd U9;rw[map_cons,map_cons,List.find?_cons,List.find?_cons];simp[e]
  · have ih:=b2L f (ls:=r) (by rw[map_cons] at h;exact(aF.mp h).resolve_left λz=>e z.symm)
    have e':¬(D.str l.n=D.str x):=λz=>e (by injection z);unfold n8 kd U9 at ih⊢;rw[map_cons,map_cons,List.find?_cons,List.find?_cons];simp only[e',e,fK];exact ih
theorem c0y(f:Lt->D)(e:h[n]? =some (.dict (kd (ls.map λl=>(l.n,f l)))))(hx:x∈ls.map (·.n)):ixD h (.ref n) (.str x)=.ok (f (U9 ls x)) h:=by have k:D8 (.str x) (kd (ls.map λl=>(l.n,f l)))=true:=X3 _ _;simp only[ixD,e,k,fV,b2L f hx]
def B9(ls:List Lt)(row:List Str):List Str:=row.map λx=>(U9 ls x).j
variable{bD:List (D×D)}
theorem b1k{k v x:D}:x∈(a0W bD k v).map (·.1)↔x∈bD.map (·.1)∨x=k:=by
 unfold a0W
 by_cases e:(bD.any λp=>decide (p.1=k))=true
 · rw[ay e];obtain⟨p,hp,e2⟩:=bn.mp e;have e2:=aw e2;have:(bD.map λp=>if p.1=k then(p.1,v) else p).map (·.1)=bD.map (·.1):=by rw[aI];refine aX λp _=>?_;show(if p.1=k then(p.1,v) else p).1=p.1;split<;>rfl
   rw[this];refine⟨.inl,λh=>h.elim id λh=>?_⟩;rw[h,←e2];exact al.mpr ⟨p,hp,rfl⟩
 · rw[az e];simp
theorem a4G{x:D}:∀(l bD:List (D×D)),x∈(l.foldl (λa p=>a0W a p.1 p.2) bD).map (·.1)↔x∈bD.map (·.1)∨x∈l.map (·.1)
 |[],bD=>by simp
 |p::r,bD=>by rw[foldl_cons,a4G r,b1k,map_cons,aF,or_assoc]
def dI(l:List Nat):List (D×D):=(l.map λi:Nat=>(D.int (i:Int),D.bl true)).foldl (λa p=>a0W a p.1 p.2) []
theorem a5M{l:List Nat}{x:D}:x∈(dI l).map (·.1)↔∃i∈l,x=.int ((i:Nat):Int):=by unfold dI;rw[a4G,aI];simp only[map_nil,not_mem_nil,false_or,al,Function.comp];exact⟨λ⟨i,h,e⟩=>⟨i,h,e.symm⟩,λ⟨i,h,e⟩=>⟨i,h,e.symm⟩⟩
theorem b6F{k:Nat}{l:List Nat}(e:h[n]? =some (.dict (dI l))):op2 .isin h ⇑k (.ref n)=.ok (.bl (decide (k∈l))) h:=by
 have ko:D8 ⇑k (dI l)=true:=by unfold D8;rw[ae];refine⟨rfl,bm.mpr λp hp=>?_⟩;obtain⟨i,_,e⟩:=a5M.mp (al.mpr ⟨p,hp,rfl⟩);rw[e];rfl
 have gs:(n8 (dI l) ⇑k).isSome=decide (k∈l):=by
  unfold n8;rw[gZ]
  by_cases m:k∈l
  · rw[ba m,List.find?_isSome];obtain⟨p,hp,e⟩:=al.mp (a5M.mpr ⟨k,m,rfl⟩);exact⟨p,hp,ba e⟩
  · rw[bx m];cases q:(dI l).find? λp=>decide (p.1=.int (k:Int)) with
    |none=>rfl
    |some p=>
     have:=aw (List.find?_some (p:=λp:D×D=>decide (p.1=.int (k:Int))) q);obtain⟨i,hi,e⟩:=a5M.mp (al.mpr ⟨p,gT q,rfl⟩);rw[this] at e;injection e with e;exact absurd (by rw[Int.ofNat.inj e];exact hi) m
 show O4 false h ⇑k (.ref n)=_;simp only[O4,e,ko,fV,gs];cases decide (k∈l)<;>rfl
theorem b1v:∀l:List Nat,a9N (l.map λi:Nat=>D.tup [.int (i:Int),.bl true])=some (l.map λi:Nat=>(D.int (i:Int),D.bl true))
 |[]=>rfl
 |x::r=>by rw[map_cons,a9N,ay (show(K9 (D.int (x:Int))).isSome=true from rfl),b1v r];rfl
theorem b6c{l:List Nat}:biD .dict (h++[.lst (l.map λi:Nat=>D.tup [.int (i:Int),.bl true])]) [.ref ↥h]=.ok (.ref ↥(h++[Cell.lst (l.map λi:Nat=>D.tup [.int (i:Int),.bl true])])) (h++[.lst (l.map λi:Nat=>D.tup [.int (i:Int),.bl true])]++[.dict (dI l)]):=by simp only[biD,bi1,biL,b6,a1y,b1v,v8];rfl
theorem a3L(js:List Str):t9 0 (js.map .str)=(List.range ↥js).map λi:Nat=>D.tup [.int (i:Int),.str (js.getD i "clear")]:=by
 refine ext_getElem? λi=>?_
 by_cases hi:i<↥js
 · rw[ak,List.getElem?_range hi];have:i<↥(t9 0 (js.map .str)):=by rw[O9,aa];exact hi
   obtain⟨d,h1,h2⟩:=U2 (ai this);rw[ai this,h2];rw[ak,ai hi] at h1;rw[←ax h1,aB,Option.map_some,bv,ai hi];rfl
 · rw[aW (by rw[O9,aa];ac_nf),aW (by simp;ac_nf)]
def prD(p:Nat×Nat):D:=.tup [.int (p.1:Int),.int (p.2:Int)]
theorem a8s:∀a b:List Nat,Q6 (a.map λi:Nat=>D.int (i:Int)) (b.map λi:Nat=>D.int (i:Int))=(a.zip b).map prD
 |[],_=>by simp[Q6]
 |_::_,[]=>by simp[Q6]
 |x::a,y::b=>by rw[map_cons,map_cons,Q6,a8s a b];rfl
theorem c1r:L6 xs (some 1) none=xs.drop 1:=by
 unfold L6;rw[HT.b1c,show HT.sIx xs.length 0 (some 1)=min 1 xs.length from HT.b4C _ _ 1];cases xs with
 |nil=>rfl
 |cons x r=>
  rw[bc ⋯];exact bg ⋯
theorem c1C(y:Str):inD (.str y) [.str "both",.str "back"]=bb y:=by
 unfold inD bb;simp only[any_cons,List.any_nil,eqF,Bool.or_false]
 by_cases a:y="both"
 · subst a;decide
 · by_cases b:y="back"
   · subst b;decide
   · rw[bx a,bx b,beq_eq_false_iff_ne.mpr (fR a),beq_eq_false_iff_ne.mpr (fR b)]
noncomputable def a5I(fs:List Str)(p q:Bool):Str:=if p&&q then fs.getD 2 "" else if q then fs.getD 1 "" else if p then fs.getD (↥fs-1) "" else fs.getD 0 ""
theorem b2Q{fs:List Str}{i:Nat}(hi:i<↥fs):ixD h (.tup (fs.map .str)) ⇑i=.ok (.str (fs.getD i "")) h:=ix_tup (by rw[ak,ai hi,bv,ai hi];rfl)
variable{row:List Str}
section
variable{ct:CT}{F:Nat->Option Fn}
theorem b2j{k:Nat}(hF:F 36=some F7):b4 ct F (k+1) 36 [.str x,.str y] h=.ok (.bl (jnx x y)) h:=by
 rw[c9 hF rfl];simp only[F7];have:(z8 (.str y)=true/\[D.str "both",.str "back"].all z8=true)=True:=eq_true ⟨rfl,rfl⟩;unfold jnx;cases e:decide (x="both") with
 |false=>
  simp![b0n,e];exact u7 rfl
 |true=>
  simp![b0n,e,this,c1C];rw[show(bb y !=false)=(true&&bb y) by cases bb y<;>rfl];exact u7 rfl
theorem b3N{k:Nat}{fs:List Str}{p q:Bool}(hF:F 37=some J6)(h1:1<=↥fs)(hq:q=true->↥fs=4):b4 ct F (k+1) 37 [.tup (fs.map .str),.bl p,.bl q] h=.ok (.str (a5I fs p q)) h:=by
 rw[c9 hF rfl];simp only[J6];have l0:=b2Q (i:=0) (h:=h) h1;have ll:ixD h (.tup (fs.map .str)) (.int (-1))=.ok (.str (fs.getD (↥fs-1) "")) h:=a6g (by rw[aa,ak,ai nofun,bv,ai nofun];rfl)
 cases q with
 | false=>cases p with
  |false=>
   simp![show ixD h (.tup (fs.map .str)) (.int 0)=.ok (.str (fs.getD 0 "")) h from l0];exact u7 rfl
  |true=>
   simp![ll];exact u7 rfl
 | true=>
  have h4:=hq rfl;have l1:=b2Q (fs:=fs) (i:=1) (h:=h) nofun;have l2:=b2Q (fs:=fs) (i:=2) (h:=h) nofun;cases p with
  |false=>
   simp![show ixD h (.tup (fs.map .str)) (.int 1)=.ok (.str (fs.getD 1 "")) h from l1];exact u7 rfl
  |true=>
   simp![show ixD h (.tup (fs.map .str)) (.int 2)=.ok (.str (fs.getD 2 "")) h from l2];exact u7 rfl
theorem b1J{k:Nat}(f36:F 36=some F7)(hF:F 35=some E4)(hj:h[j]? =some (.lst (js.map .str)))(hl:↥js<=1000):b4 ct F (k+2) 35 [.ref j] h=.ok (.ref ↥h) (h++[.lst ((G8 js).map prD)]):=by
 rw[c9 hF rfl];simp only[E4];show gcR 2 h (a4h (exs ct (b4 ct F (k+1)) _ [~~~j,none] h))=_;have c1:ev ct (b4 ct F (k+1)) (.comp (.tp (.nm 0>=>.nm 1>=>.nil)) (.enum (.v 0)) 2 [] (.cmp .ne (.v 1) (.s "clear")) (.v 0)) [~~~j,none] h=.ok (.ref ↥h) (h++[.lst ((O2 js).map λi:Nat=>D.int (i:Int))]):=by
  rw[A9 (l:=(List.range ↥js).map λi:Nat=>D.tup [.int (i:Int),.str (js.getD i "clear")]) (g:=[(j,.lst (js.map .str))]) (h1:=h) (by simp![T4,hj];rw[a3L]) (by simp only[gOk,all_cons,all_nil,hj];simp) (λx=>match x with
   |.tup [_,.str s]=>nc s
   |_=>false) (λx=>match x with
   |.tup [a,_]=>a
   |_=>.non) (λx=>match x with
   |.tup [a,b]=>[some a,some b]
   |_=>[]) (λx hx=>by
   obtain⟨i,hi,rfl⟩:=al.mp hx;refine⟨rfl,?_,λ_=>by simp![]⟩;simp![c2C];unfold nc;rw[decide_not]) (by rw[aa,aK];show _<=16777216;ac_nf)]
  congr 3;rw[filter_map,aI];rfl
 rw[seq (bG:=[~~~j,~~~↥h]) (h':=h++[.lst ((O2 js).map λi:Nat=>D.int (i:Int))]) (by rw[a2o,c1,b8];simp![])];have sl:∀i∈O2 js,i<↥js:=λi hi=>(b1a.mp hi).1;have ln:↥(O2 js)<=1000:=by have:=bu (b1S js) (List.range ↥js);rw[aK] at this;unfold O2;ac_nf
 have aS:(h++[Cell.lst ((O2 js).map λi:Nat=>D.int (i:Int))])[↥h]? =some (.lst ((O2 js).map λi:Nat=>D.int (i:Int))):=b6;have j1:=b5 (g:=[Cell.lst ((O2 js).map λi:Nat=>D.int (i:Int))]) hj;have P1:Pf h (h++[Cell.lst ((O2 js).map λi:Nat=>D.int (i:Int))]):=(Pf.refl h).app _;have pe:G8 js=((O2 js).zip ((O2 js).drop 1)).filter λp=>jnx (js.getD p.1 "") (js.getD p.2 ""):=rfl;generalize hs:O2 js=S at aS j1 P1 sl ln pe;generalize hx:h++[Cell.lst (S.map λi:Nat=>D.int (i:Int))]=x1 at aS j1 P1;have s1:slD x1 (some 1) none (.ref ↥h)=.ok (.ref ↥x1) (x1++[.lst ((S.drop 1).map λi:Nat=>D.int (i:Int))]):=by rw[F0 aS,c1r,map_drop]
 have a2:=b5 (g:=[Cell.lst ((S.drop 1).map λi:Nat=>D.int (i:Int))]) aS;have j2:=b5 (g:=[Cell.lst ((S.drop 1).map λi:Nat=>D.int (i:Int))]) j1;have b2:(x1++[Cell.lst ((S.drop 1).map λi:Nat=>D.int (i:Int))])[↥x1]? =some (.lst ((S.drop 1).map λi:Nat=>D.int (i:Int))):=b6;have P2:=P1.app [Cell.lst ((S.drop 1).map λi:Nat=>D.int (i:Int))];generalize x1++[Cell.lst ((S.drop 1).map λi:Nat=>D.int (i:Int))]=x2 at a2 b2 j2 s1 P2;have zi:a6a x2 (.ref ↥h) (.ref ↥x1)=.ok ((S.zip (S.drop 1)).map prD,[(↥h,.lst (S.map λi:Nat=>D.int (i:Int))),(↥x1,.lst ((S.drop 1).map λi:Nat=>D.int (i:Int)))]) x2:=by
  have e1:W3 x2 ↥h=some (S.map λi:Nat=>D.int (i:Int),.lst (S.map λi:Nat=>D.int (i:Int))):=by unfold W3;rw[a2]
  have e2:W3 x2 ↥x1=some ((S.drop 1).map λi:Nat=>D.int (i:Int),.lst ((S.drop 1).map λi:Nat=>D.int (i:Int))):=by unfold W3;rw[b2]
  simp only[a6a,e1,e2,a8s]
 have jx:∀i,i<↥js->ixD x2 (.ref j) ⇑i=.ok (.str (js.getD i "")) x2:=λi hi=>v5 j2 (by rw[ak,ai hi,bv,ai hi];rfl)
 have c2:ev ct (b4 ct F (k+1)) (.comp (.nm 0) (.zipn (.v 1) (.sl (.v 1) (.at (.i 1)) .no)) 1 [0] (.val (.call 36 (.ix (.v 1) (.ix (.v 0) (.i 0))>=>.o (.ix (.v 1) (.ix (.v 0) (.i 1)))))) (.v 0)) [~~~j,~~~↥h] x1=.ok (.ref ↥x2) (x2++[.lst ((G8 js).map prD)]):=by
  rw[A9 (l:=(S.zip (S.drop 1)).map prD) (g:=[(↥h,.lst (S.map λi:Nat=>D.int (i:Int))),(↥x1,.lst ((S.drop 1).map λi:Nat=>D.int (i:Int)))]) (h1:=x2) (by simp![b3m,s1,zi]) (by simp only[gOk,all_cons,all_nil,a2,b2];simp) (λx=>match x with
   |.tup [.int a,.int b]=>jnx (js.getD a.toNat "") (js.getD b.toNat "")
   |_=>false) (λx=>x) (λx=>[some x,~~~j]) (λx hx=>by
   obtain⟨⟨a,b⟩,hp,rfl⟩:=al.mp hx;obtain⟨ha,hb⟩:=of_mem_zip hp;have hb:=mem_of_mem_drop hb;have i0:ixD x2 (prD (a,b)) (.int 0)=.ok ⇑a x2:=ix_tup (i:=0) rfl;have i1:ixD x2 (prD (a,b)) (.int 1)=.ok ⇑b x2:=ix_tup (i:=1) rfl;refine⟨rfl,?_,λ_=>by simp![]⟩;simp![i0,i1,jx a (sl a ha),jx b (sl b hb),b2j f36];rfl) (by rw[aa,length_zip];show _<=16777216;ac_nf)]
  rw[List.map_id',filter_map,pe];rfl
 rw[J3,a0r,c2,b8,b8];exact a2j (P2.app _) b6 P2.len (C6 λd hd=>by obtain⟨p,_,rfl⟩:=al.mp hd;rfl)
theorem a7l{k r:Nat}{H:HL}(hF:F 33=some D0)(A:HallAt h n (L0 H))(hr:h[r]? =some (.lst (row.map .str)))(dC:∀x∈row,x∈H.ls.map (·.n)):b4 ct F (k+1) 33 [.ref n,.ref r] h=.ok .non h:=by
 have k4:(hL H.ls).map (·.1)=H.ls.map (·.n):=a2g _ _ _;rw[c9 hF rfl];simp only[D0];obtain⟨bG,g',e1,e2,e3,rfl,rfl⟩:=D6 (g:=[(r,.lst (row.map .str))]) (p:=.tp (.nm 2>=>.nm 3>=>.nil)) (body:=exs ct (b4 ct F k) (.o (.iff (.cmp .notin (.v 3) (.fld (.v 0) "letters")) (.o .bad) .nil))) (λj env hh=>∃e2 e3,env=[~~~n,~~~r,e2,e3]/\hh=h) (λj env hh hP=>by
  obtain⟨_,_,_,rfl⟩:=hP;simp only[gOk,all_cons,all_nil,hr];simp) (t9 0 (row.map .str)) 0 [~~~n,~~~r,none,none] h (λj x env hh hx hP=>by
  obtain⟨e2,e3,rfl,rfl⟩:=hP;obtain⟨y,hy,rfl⟩:=U2 hx;rw[ak] at hy;obtain⟨z,hz,rfl⟩:=Option.map_eq_some_iff.mp hy;have hm:=dC z (aH hz);refine⟨_,[~~~n,~~~r,some ⇑(0+j),some (.str z)],_,rfl,?_,_,_,rfl,rfl⟩;have ni:O4 true hh (.str z) (.ref (n+4))=.ok (.bl false) hh:=by rw[a7J A.c4,show(L0 H).letters=hL H.ls from rfl,k4,ba hm];rfl
  generalize ((0+j:Nat):Int)=J;simp![A.fld4,op2,ni]) ⟨none,none,rfl,rfl⟩
 simp![T4,hr,e1];exact u7 rfl
end
def jgB(js:List Str)(k:Nat):Bool:=decide (k∈(G8 js).map (·.1))
def jdB(js:List Str)(k:Nat):Bool:=decide (k∈(G8 js).map (·.2))
def a3J(ls:List Lt)(row:List Str)(k:Nat):Str:=a5I (U9 ls (row.getD k "")).fs (jdB (B9 ls row) k) (jgB (B9 ls row) k)
def o7(ls:List Lt)(row:List Str):List Str:=(List.range row.length).map (a3J ls row)
theorem c0w{k:Nat}(hk:k<row.length):∃h:k<↥(B9 ls row),(B9 ls row)[k]=(U9 ls (row.getD k "")).j:=by refine⟨by unfold B9;rw[aa];exact hk,?_⟩;unfold B9;rw[List.getElem_map,bv,ai hk];rfl
theorem a8Q{k:Nat}(hk:k<row.length)(e:jgB (B9 ls row) k=true):(U9 ls (row.getD k "")).j="both":=by obtain⟨p,hp,rfl⟩:=al.mp (aw e);obtain⟨h1,h2⟩:=c0w (ls:=ls) hk;have:=(bh.mp hp).2;unfold jnx at this;rw[ae,bv,ai h1] at this;exact h2.symm.trans (aw this.1)
theorem b6N{l:Lt}(o:LtOk sh l)(h:l.j="both"):↥l.fs=4:=by have:=o.jn;rw[h,show n8 a4C (.str "both")=some (.int 4) by rfl] at this;injection this with this;injection this with this;ac_nf
section
variable{ct:CT}{F:Nat->Option Fn}
theorem b2S{k r:Nat}{i:Int}{f:Nat×Nat->Nat}{ps:List (Nat×Nat)}(hi:∀p h,ixD h (prD p) (.int i)=.ok ⇑(f p) h)(he:env[3]? =some (~~~r))(hr:h[r]? =some (.lst (ps.map prD)))(hl:↥ps<=100000):ev ct (b4 ct F k) (foD i) env h=.ok (.ref (↥h+1)) (h++[.lst ((ps.map f).map λi:Nat=>D.tup [.int (i:Int),.bl true])]++[.dict (dI (ps.map f))]):=by
 have l1:↥(h++[Cell.lst ((ps.map f).map λi:Nat=>D.tup [.int (i:Int),.bl true])])=↥h+1:=by simp
 have cm:ev ct (b4 ct F k) (.comp (.nm 0) (.seq (.v 3)) 1 [] .yes (.tup (.ix (.v 0) (.k (.int i))>=>.o (.k (.bl true))))) env h=.ok (.ref ↥h) (h++[.lst ((ps.map f).map λi:Nat=>D.tup [.int (i:Int),.bl true])]):=by
  rw[o9 (l:=ps.map prD) (g:=[(r,.lst (ps.map prD))]) (h1:=h) (by simp![he,M4,hr]) (by simp only[gOk,all_cons,all_nil,hr];simp) (λx=>match x with
   |.tup [.int a,.int b]=>.tup [.int ((f (a.toNat,b.toNat):Nat):Int),.bl true]
   |_=>.non) (λx=>[some x]) (λx hx=>by
   obtain⟨p,_,rfl⟩:=al.mp hx;refine⟨rfl,?_⟩;simp![hi];rfl) (by rw[aa];show _<=16777216;ac_nf)]
  congr 3;rw[aI,aI];rfl
 unfold foD;simp![cm,b6c,l1]
theorem a8b{k r:Nat}{H:HL}(f33:F 33=some D0)(hF:F 34=some T3)(f35:F 35=some E4)(f36:F 36=some F7)(f37:F 37=some J6)(K:HLok H)(A:HallAt h n (L0 H))(hr:h[r]? =some (.lst (row.map .str)))(dC:∀x∈row,x∈H.ls.map (·.n))(hl:row.length<=63):b4 ct F (k+3) 34 [.ref n,.ref r] h=.ok (.ref ↥h) (h++[.lst ((o7 H.ls row).map .str)]):=by
 have c4:h[n+4]? =some (.dict (kd (H.ls.map λl=>(l.n,.tup [.str l.j,.str l.w,.tup (l.fs.map .str)])))):=A.c4;have lk:∀{x:AH} {z:Str},x[n+4]? =some (.dict (kd (H.ls.map λl=>(l.n,.tup [.str l.j,.str l.w,.tup (l.fs.map .str)]))))->z∈row->ixD x (.ref (n+4)) (.str z)=.ok (.tup [.str (U9 H.ls z).j,.str (U9 H.ls z).w,.tup ((U9 H.ls z).fs.map .str)]) x:=λe hz=>c0y (λl=>.tup [.str l.j,.str l.w,.tup (l.fs.map .str)]) e (dC _ hz);rw[c9 hF rfl];simp only[T3];rw[seq (by simp![a7l f33 A hr dC];rfl)];have cj:ev ct (b4 ct F (k+2)) foJ [~~~n,~~~r,none,none,none,none,none,none] h=.ok (.ref ↥h) (h++[.lst ((B9 H.ls row).map .str)]):=by
  unfold foJ;rw[o9 (l:=row.map .str) (g:=[(r,.lst (row.map .str))]) (h1:=h) (by simp![M4,hr]) (by simp only[gOk,all_cons,all_nil,hr];simp) (λx=>match x with
   |.str z=>.str (U9 H.ls z).j
   |_=>.non) (λx=>[some x,~~~n]) (λx hx=>by
   obtain⟨z,hz,rfl⟩:=al.mp hx;refine⟨rfl,?_⟩;simp![A.fld4,lk c4 hz,a1U]) (by rw[aa];show _<=16777216;ac_nf)]
  congr 3;unfold B9;rw[aI,aI];rfl
 have jl:↥(B9 H.ls row)=row.length:=by unfold B9;rw[aa]
 have aJ:(h++[Cell.lst ((B9 H.ls row).map .str)])[↥h]? =some (.lst ((B9 H.ls row).map .str)):=b6;have P1:Pf h (h++[Cell.lst ((B9 H.ls row).map .str)]):=(Pf.refl h).app _;generalize hx1:h++[Cell.lst ((B9 H.ls row).map .str)]=x1 at cj aJ P1;have pk:=b1J (ct:=ct) (F:=F) (k:=k) f36 f35 aJ (by rw[jl];ac_nf);rw[seq (by simp![cj,pk];rfl)];have aP:(x1++[Cell.lst ((G8 (B9 H.ls row)).map prD)])[↥x1]? =some (.lst ((G8 (B9 H.ls row)).map prD)):=b6;replace P1:=P1.app [Cell.lst ((G8 (B9 H.ls row)).map prD)];have pl:↥(G8 (B9 H.ls row))<=100000:=by have q1:=bu (b1S (B9 H.ls row)) (List.range ↥(B9 H.ls row));unfold G8;refine aR (bu _ _) ?_;rw[length_zip];unfold O2;rw[aK] at q1;ac_nf
 generalize ↥x1=p at aP;generalize x1++[Cell.lst ((G8 (B9 H.ls row)).map prD)]=x2 at aP P1;have d0:=b2S (ct:=ct) (F:=F) (k:=k+2) (i:=0) (f:=λp=>p.1) (env:=[~~~n,~~~r,none,~~~p,none,none,none,none]) (h:=x2) (λp h=>ix_tup (i:=0) rfl) rfl aP pl;have l2:↥(x2++[Cell.lst (((G8 (B9 H.ls row)).map λp=>p.1).map λi:Nat=>D.tup [.int (i:Int),.bl true])])=↥x2+1:=by simp
 have aG:(x2++[Cell.lst (((G8 (B9 H.ls row)).map λp=>p.1).map λi:Nat=>D.tup [.int (i:Int),.bl true])]++[Cell.dict (dI ((G8 (B9 H.ls row)).map λp=>p.1))])[↥x2+1]? =some (.dict (dI ((G8 (B9 H.ls row)).map λp=>p.1))):=by rw[←l2];exact b6
 replace P1:=(P1.app [Cell.lst (((G8 (B9 H.ls row)).map λp=>p.1).map λi:Nat=>D.tup [.int (i:Int),.bl true])]).app [Cell.dict (dI ((G8 (B9 H.ls row)).map λp=>p.1))];replace aP:=b5 (g:=[Cell.dict (dI ((G8 (B9 H.ls row)).map λp=>p.1))]) (b5 (g:=[Cell.lst (((G8 (B9 H.ls row)).map λp=>p.1).map λi:Nat=>D.tup [.int (i:Int),.bl true])]) aP);rw[seq (bG:=[~~~n,~~~r,none,~~~p,some (.ref (↥x2+1)),none,none,none]) (h':=x2++[.lst (((G8 (B9 H.ls row)).map λp=>p.1).map λi:Nat=>D.tup [.int (i:Int),.bl true])]++[.dict (dI ((G8 (B9 H.ls row)).map λp=>p.1))]) (by rw[a2o,d0,b8];rfl)];generalize ↥x2+1=g at aG;generalize x2++[Cell.lst (((G8 (B9 H.ls row)).map λp=>p.1).map λi:Nat=>D.tup [.int (i:Int),.bl true])]++[Cell.dict (dI ((G8 (B9 H.ls row)).map λp=>p.1))]=x3 at aG aP P1;have d1:=b2S (ct:=ct) (F:=F) (k:=k+2) (i:=1) (f:=λp=>p.2) (env:=[~~~n,~~~r,none,~~~p,~~~g,none,none,none]) (h:=x3) (λp h=>ix_tup (i:=1) rfl) rfl aP pl;have l3:↥(x3++[Cell.lst (((G8 (B9 H.ls row)).map λp=>p.2).map λi:Nat=>D.tup [.int (i:Int),.bl true])])=↥x3+1:=by simp
 have aD:(x3++[Cell.lst (((G8 (B9 H.ls row)).map λp=>p.2).map λi:Nat=>D.tup [.int (i:Int),.bl true])]++[Cell.dict (dI ((G8 (B9 H.ls row)).map λp=>p.2))])[↥x3+1]? =some (.dict (dI ((G8 (B9 H.ls row)).map λp=>p.2))):=by rw[←l3];exact b6
 replace P1:=(P1.app [Cell.lst (((G8 (B9 H.ls row)).map λp=>p.2).map λi:Nat=>D.tup [.int (i:Int),.bl true])]).app [Cell.dict (dI ((G8 (B9 H.ls row)).map λp=>p.2))];replace aG:=b5 (g:=[Cell.dict (dI ((G8 (B9 H.ls row)).map λp=>p.2))]) (b5 (g:=[Cell.lst (((G8 (B9 H.ls row)).map λp=>p.2).map λi:Nat=>D.tup [.int (i:Int),.bl true])]) aG);rw[seq (bG:=[~~~n,~~~r,none,~~~p,~~~g,some (.ref (↥x3+1)),none,none]) (h':=x3++[.lst (((G8 (B9 H.ls row)).map λp=>p.2).map λi:Nat=>D.tup [.int (i:Int),.bl true])]++[.dict (dI ((G8 (B9 H.ls row)).map λp=>p.2))]) (by rw[a2o,d1,b8];rfl)];generalize ↥x3+1=q at aD;generalize x3++[Cell.lst (((G8 (B9 H.ls row)).map λp=>p.2).map λi:Nat=>D.tup [.int (i:Int),.bl true])]++[Cell.dict (dI ((G8 (B9 H.ls row)).map λp=>p.2))]=x4 at aG aD P1;rw[seq (by simp![v8];rfl)];have hA:∀t,HallAt (x4++t) n (L0 H):=λt=>by
  have:x4=h++x4.drop ↥h:=by have:=take_append_drop ↥h x4;rw[P1.take] at this;exact this.symm
  rw[this,aA];exact A.app _
 obtain⟨bG,g',e1,e2,e7,rfl,rfl⟩:=D6 (g:=[(r,.lst (row.map .str))]) (p:=.tp (.nm 7>=>.nm 2>=>.nil)) (body:=exs ct (b4 ct F (k+2)) foB) (λj env hh=>∃e2 e7,env=[~~~n,~~~r,e2,~~~p,~~~g,~~~q,~~~↥x4,e7]/\hh=x4++[.lst (((List.range j).map (a3J H.ls row)).map .str)]) (λj env hh hP=>by
  obtain⟨_,_,_,rfl⟩:=hP;simp only[gOk,all_cons,all_nil,b5 (P1.at hr)];simp) (t9 0 (row.map .str)) 0 [~~~n,~~~r,none,~~~p,~~~g,~~~q,~~~↥x4,none] (x4++[.lst []]) (λj x env hh hx hP=>by
  obtain⟨e2,e7,rfl,rfl⟩:=hP;obtain⟨y,hy,rfl⟩:=U2 hx;rw[ak] at hy;obtain⟨z,hz,rfl⟩:=Option.map_eq_some_iff.mp hy;have hj:=(ac.mp hz).1;have hm:=aH hz;have zg:row.getD j ""=z:=by rw[bv,hz];rfl
  rw[aB];have A1:=hA [.lst (((List.range j).map (a3J H.ls row)).map .str)];have o:=K.lso _ (b2a (dC z hm));have g1:=b6F (k:=j) (b5 (g:=[.lst (((List.range j).map (a3J H.ls row)).map .str)]) aG);have q1:=b6F (k:=j) (b5 (g:=[.lst (((List.range j).map (a3J H.ls row)).map .str)]) aD);have fc:a3J H.ls row j=a5I (U9 H.ls z).fs (jdB (B9 H.ls row) j) (jgB (B9 H.ls row) j):=by unfold a3J;rw[zg]
  have am:=b3N (ct:=ct) (F:=F) (k:=k+1) (p:=jdB (B9 H.ls row) j) (q:=jgB (B9 H.ls row) j) (h:=x4++[.lst (((List.range j).map (a3J H.ls row)).map .str)]) f37 o.few.1 (λe=>by have e:=a8Q hj e;rw[zg] at e;exact b6N o e)
  have i2:∀h,ixD h (.tup [.str (U9 H.ls z).j,.str (U9 H.ls z).w,.tup ((U9 H.ls z).fs.map .str)]) (.int 2)=.ok (.tup ((U9 H.ls z).fs.map .str)) h:=λh=>ix_tup (i:=2) rfl;refine⟨_,[~~~n,~~~r,some (.str z),~~~p,~~~g,~~~q,~~~↥x4,j⁻¹],_,rfl,?_,_,_,rfl,rfl⟩;rw[List.range_succ,ao,ao,map_cons,map_nil,map_cons,map_nil,fc];unfold foB jdB jgB;unfold jdB jgB at am;simp![E2 b6,A1.fld4,lk A1.c4 hm,i2,q1,g1,am,a9r (show(((List.range j).map (a3J H.ls row)).map D.str).length<1000000 by rw[aa,aa,aK];ac_nf)]) ⟨none,none,rfl,rfl⟩
 rw[O9,aa,aB] at e1;rw[seq (bG:=_) (h':=x4++[.lst (((List.range row.length).map (a3J H.ls row)).map .str)]) (by simp![T4,b5 (g:=[Cell.lst []]) (P1.at hr),e1];rfl)];simp![];exact a2j (P1.app _) b6 P1.len (E3 _)
end
noncomputable def a1c(cs:List Cs)(it:Str):List Str:=match cs.find? λc=>decide (it=("@":Str)++c.n) with
 |some c=>c.fs
 |none=>[it]
theorem a7Y(nd:(cs.map (·.n)).Nodup){c:Cs}(hc:c∈cs):a1c cs (("@":Str)++c.n)=c.fs:=by
 have :(cs.find? λd=>decide ((("@":Str)++c.n)=("@":Str)++d.n))=some c:=by
  induction cs with
  |nil=>cases hc
  |cons d r ih=>
   rw[map_cons,aV] at nd;rw[List.find?_cons];rcases aF.mp hc with rfl|h
   · rw[ba rfl]
   · have ne:¬(("@":Str)++c.n)=("@":Str)++d.n:=λe=>by have e2:=fM cd e;rw[E9,E9] at e2;have:=V5 (List.append_cancel_left e2);exact nd.1 (by rw[←this];exact al.mpr ⟨c,h,rfl⟩)
     rw[bx ne];exact ih nd.2 h
 unfold a1c;rw[this]
theorem b0m{it:Str}(hn:b9 it=true):a1c cs it=[it]:=by
 have:(cs.find? λd=>decide (it=("@":Str)++d.n))=none:=List.find?_eq_none.mpr λd _ e=>by have e:=aw e;refine a2c hn (c:=64) ∅ ?_;rw[e,E9];exact .head _
 unfold a1c;rw[this]
theorem b2M{c:Cs}:∀{cs:List Cs},(cs.map (·.n)).Nodup->c∈cs->n8 (kd (hC cs)) (.str c.n)=some (.tup (c.fs.map .str))
 | x ::r,hn,hc=>by
  have hn:=aV.mp hn;unfold n8 kd hC;rw[map_cons,map_cons,List.find?_cons];rcases aF.mp hc with rfl|hc
  · simp
  · have ne:¬(D.str x.n=D.str c.n):=λe=>by injection e with e;exact hn.1 (al.mpr ⟨c,hc,e.symm⟩)
    simp only[ne,fK];exact b2M hn.2 hc
section
variable{ct:CT}{F:Nat->Option Fn}(W:PF F)(f38:F 38=some a1i)(f39:F 39=some y7)
include W f39
theorem a1H{k:Nat}{it:Str}(hn:b9 it=true):b4 ct F (k+2) 39 [.ref n,.str it] h=.ok (.tup [.str it]) h:=by
 rw[c9 f39 rfl];simp only[y7];have dN:Txt.startswith it "@"=false:=by
  have:=a8J W hn;rw[show Txt.startswith it "@"=decide ((cd it).head? =some 64) from W9];refine bx λe=>a2c hn (c:=64) ∅ ?_;cases hq:cd it with
  |nil=>rw[hq] at e;cases e
  |cons c r=>rw[hq] at e;injection e with e;subst e;exact .head _
 simp![mtT,mtD,dN];exact u7 rfl
theorem a0R{k:Nat}{c:Cs}{H:HL}(K:HLok H)(A:HallAt h n (L0 H))(hc:c∈H.cs):b4 ct F (k+2) 39 [.ref n,.str (("@":Str)++c.n)] h=.ok (.tup (c.fs.map .str)) h:=by
 rw[c9 f39 rfl];simp only[y7];have hd:cd (("@":Str)++c.n)=64::cd c.n:=by rw[E9];rfl
 have ht:tl (("@":Str)++c.n)=c.n:=V5 (by rw[a3Q,hd];rfl);have wk:=WOk.at (K.cso c hc).nm;have dN:Txt.startswith (("@":Str)++c.n) "@"=true:=by rw[show Txt.startswith (("@":Str)++c.n) "@"=decide ((cd (("@":Str)++c.n)).head? =some 64) from W9,hd];rfl
 have co:=a0x (ct:=ct) (n:=k) (z:=("@":Str)++c.n) (h:=h) W (by have:=wk.p;ac_nf) (by have:=wk.l;ac_nf);rw[ht] at co;have dc:b2u h (.ref (n+6))=true:=by simp only[b2u,A.c6]
 have dg:a7f h (.ref (n+6)) (.str c.n) (.tup [])=.ok (.tup (c.fs.map .str)) h:=by simp only[a7f,A.c6];rw[ay (by rw[X3];cases hq:H.cs with|nil=>rw[hq] at hc;cases hc|cons a b=>simp[L0,hC,kd,hq,K9]),show n8 (kd (L0 H).classes) (.str c.n)=_ from b2M K.csn hc];rfl
 simp![mtT,mtD,dN,b5U,A.fld6,dc,co,dg];exact u7 (E3 _)
include f38
theorem b0l{k:Nat}{it s:Str}(hn:b9 it=true):b4 ct F (k+3) 38 [.ref n,.str it,.str s] h=.ok (.bl (decide (it=s))) h:=by
 rw[c9 f38 rfl];simp only[a1i];have hi:O4 false h (.str s) (.tup [.str it])=.ok (.bl (decide (it=s))) h:=by simp only[O4];rw[ay (by rfl)];show R.ok (D.bl ((decide (it=s)||false) !=false)) h=_;simp
 simp![a1H W f39 hn,op2,hi];exact u7 rfl
theorem a7X{k:Nat}{c:Cs}{s:Str}{H:HL}(K:HLok H)(A:HallAt h n (L0 H))(hc:c∈H.cs):b4 ct F (k+3) 38 [.ref n,.str (("@":Str)++c.n),.str s] h=.ok (.bl (decide (s∈c.fs))) h:=by
 rw[c9 f38 rfl];simp only[a1i];have hi:O4 false h (.str s) (.tup (c.fs.map .str))=.ok (.bl (decide (s∈c.fs))) h:=by simp only[O4];rw[ay (by rw[W4];rfl),a1D];simp
 simp![a0R W f39 K A hc,op2,hi];exact u7 rfl
variable{H:HL}
theorem b2Z{k:Nat}{it s:Str}(K:HLok H)(A:HallAt h n (L0 H))(o:Z3 H.sh H.cs it):b4 ct F (k+3) 38 [.ref n,.str it,.str s] h=.ok (.bl (decide (s∈a1c H.cs it))) h/\b4 ct F (k+2) 39 [.ref n,.str it] h=.ok (.tup ((a1c H.cs it).map .str)) h:=by
 rcases o with o|⟨c,hc,rfl⟩
 · have hn:=N7 K o;rw[b0m hn];refine⟨?_,a1H W f39 hn⟩;rw[b0l W f38 f39 hn];congr 2;exact decide_eq_decide.mpr ⟨λe=>by rw[e];exact .head _,λe=>(aO.mp e).symm⟩
 · rw[a7Y K.csn hc];exact⟨a7X W f38 f39 K A hc,a0R W f39 K A hc⟩
end
theorem b2J{α:Type}(k:α->Str)(f:α->D)(n:Str):∀l:List α,n8 (kd (l.map λx=>(k x,f x))) (.str n)=(l.find? λx=>decide (k x=n)).map f
 |[]=>rfl
 |x::r=>by
  have ih:=b2J k f n r;unfold n8 kd at ih⊢;rw[map_cons,map_cons,List.find?_cons,List.find?_cons]
  by_cases e:k x=n
  · have e':D.str (k x)=D.str n:=by rw[e]
    simp only[e,fO];rfl
  · have e':¬D.str (k x)=D.str n:=λz=>e (by injection z);simp only[e,e',fK];exact ih
abbrev Cl:=Str×List Int
def clD(c:Cl):D:=.tup [.str c.1,.tup (c.2.map .int)]
structure Sg where
 f:Str
 a:Int
 b:Int
 o:Bool
def sgD(s:Sg):D:=.tup [.str s.f,.int s.a,.int s.b,.bl s.o]
def a7Z(fe:List (Str×Bool))(f:Str):Bool:=((fe.find? λp=>decide (p.1=f)).map (·.2)).getD false
def a1X(f:Str)(l:Int)(b:Bool)(s:Sg):Bool:=if s.f=f/\s.a<=l/\l<=s.b then s.o else b
def a7R(fe:List (Str×Bool))(ss:List Sg)(f:Str)(l:Int):Bool:=ss.foldl (a1X f l) (a7Z fe f)
variable{ss:List Sg}
section
variable{ct:CT}{F:Nat->Option Fn}{H:HL}
theorem c0z{f:Str}(A:HallAt h n (L0 H))(hf:f∈H.fe.map (·.1)):ixD h (.ref (n+7)) (.str f)=.ok (.bl (a7Z H.fe f)) h:=by
 have k:D8 (.str f) (kd (hF H.fe))=true:=X3 _ _;have g:n8 (kd (hF H.fe)) (.str f)=_:=b2J (λp:Str×Bool=>p.1) (λp=>D.bl p.2) f H.fe;obtain⟨p,hp,rfl⟩:=al.mp hf;cases e:H.fe.find? λq=>decide (q.1=p.1) with
 |none=>
  have:=List.find?_eq_none.mp e p hp;simp at this
 |some q=>
  rw[e] at g;unfold a7Z;rw[e];simp only[ixD,A.c7,show(L0 H).features=hF H.fe from rfl,k,fV,g];rfl
theorem a4r{s:Sg}:ixD h (sgD s) (.int 0)=.ok (.str s.f) h/\ixD h (sgD s) (.int 1)=.ok (.int s.a) h/\ixD h (sgD s) (.int 2)=.ok (.int s.b) h/\ixD h (sgD s) (.int 3)=.ok (.bl s.o) h:=⟨ix_tup (i:=0) rfl,ix_tup (i:=1) rfl,ix_tup (i:=2) rfl,ix_tup (i:=3) rfl⟩
theorem b5v{k s:Nat}{f:Str}{l:Int}(hF:F 46=some a1K)(A:HallAt h n (L0 H))(hs:h[s]? =some (.lst (ss.map sgD)))(hf:f∈H.fe.map (·.1)):b4 ct F (k+1) 46 [.ref n,.str f,.ref s,.int l] h=.ok (.bl (a7R H.fe ss f l)) h:=by
 obtain⟨bG,g',q1,e5,rfl,hg⟩:=D6 (g:=[(s,.lst (ss.map sgD))]) (p:=.nm 5) (body:=exs ct (b4 ct F k) onB) (λj env hh=>∃e5,env=[~~~n,some (.str f),~~~s,some (.int l),some (.bl ((ss.take j).foldl (a1X f l) (a7Z H.fe f))),e5]/\hh=h) (λj env hh hP=>by
  obtain⟨_,_,rfl⟩:=hP;simp only[gOk,all_cons,all_nil,hs];simp) (ss.map sgD) 0 [~~~n,some (.str f),~~~s,some (.int l),some (.bl (a7Z H.fe f)),none] h (λj x env hh hx hP=>by
  obtain⟨e5,rfl,rfl⟩:=hP;rw[ak] at hx;obtain⟨p,hp,rfl⟩:=Option.map_eq_some_iff.mp hx;obtain⟨z1,z2⟩:=ac.mp hp;obtain⟨i0,i1,i2,i3⟩:=a4r (s:=p) (h:=hh);rw[aB,take_succ_eq_append_getElem z1,List.foldl_append,z2];refine⟨_,[~~~n,some (.str f),~~~s,some (.int l),some (.bl (a1X f l ((ss.take j).foldl (a1X f l) (a7Z H.fe f)) p)),some (sgD p)],_,rfl,?_,_,rfl,rfl⟩;generalize (ss.take j).foldl (a1X f l) (a7Z H.fe f)=b;have le:∀i j:Int,op2 .le hh (.int i) (.int j)=.ok (.bl (decide (i<=j))) hh:=λ_ _=>rfl;unfold onB a1X
  by_cases h1:p.f=f
  · by_cases h2:p.a<=l
    · by_cases h3:l<=p.b
      · simp![i0,i1,i2,i3,b0n,le,ba h1,ba h2,ba h3];rw[ay ⟨h1,h2,h3⟩]
      · simp![i0,i1,i2,i3,b0n,le,ba h1,ba h2,bx h3];rw[az λz=>h3 z.2.2]
    · simp![i0,i1,i2,i3,b0n,le,ba h1,bx h2];rw[az λz=>h2 z.2.1]
  · simp![i0,b0n,bx h1];rw[az λz=>h1 z.1]) ⟨none,rfl,rfl⟩
 rw[aa,aB,bf,hg] at q1;rw[c9 hF rfl,a1K,seq (by simp![A.fld7,c0z A hf];rfl),seq (by simp![M4,hs,q1];rfl)];simp![];exact u7 rfl
end
noncomputable def J1(p:List D×D)(c:Cl):List D×D:=match c.2 with
 |[]=>(p.1++[p.2],p.2)
 |x::r=>(p.1++[.int x],.int ((x::r).getLastD 0))
def hmD(cs:List Cl):List D:=(cs.foldl J1 ([],.non)).1
def o8(cs:List Cl):List Int:=(cs.map (·.2)).flatten
def S8(o:List Str)(cs:List Cl):List Cl:=(o.headD "",o8 cs)::(o.drop 1).map λs=>(s,[])
section
variable{ct:CT}{F:Nat->Option Fn}{H:HL}
theorem b1O{k s r:Nat}{f:Str}{ls:List Int}(f46:F 46=some a1K)(hF:F 47=some M0)(A:HallAt h n (L0 H))(hs:h[s]? =some (.lst (ss.map sgD)))(hr:h[r]? =some (.lst (ls.map .int)))(hf:f∈H.fe.map (·.1))(hl:↥ls<=1000):b4 ct F (k+2) 47 [.ref n,.str f,.ref s,.ref r] h=.ok (.bl (ls.all (a7R H.fe ss f))) h:=by
 have cm:ev ct (b4 ct F (k+1)) (.comp (.nm 0) (.seq (.v 3)) 1 [1,0,2] .yes (.call 46 (.v 2>=>.v 1>=>.v 3>=>.o (.v 0)))) [~~~n,some (.str f),~~~s,~~~r] h=.ok (.ref ↥h) (h++[.lst (ls.map λl=>D.bl (a7R H.fe ss f l))]):=by
  rw[o9 (l:=ls.map .int) (g:=[(r,.lst (ls.map .int))]) (h1:=h) (by simp![M4,hr]) (by simp only[gOk,all_cons,all_nil,hr];simp) (λx=>match x with
   |.int l=>.bl (a7R H.fe ss f l)
   |_=>.non) (λx=>[some x,some (.str f),~~~n,~~~s]) (λx hx=>by
   obtain⟨l,_,rfl⟩:=al.mp hx;refine⟨rfl,?_⟩;simp![b5v f46 A hs hf]) (by rw[aa];show _<=16777216;ac_nf),aI]
  rfl
 rw[c9 hF rfl];simp only[M0];simp![cm,a1R (P:=a7R H.fe ss f)];exact gc1 rfl
theorem a2q{k s:Nat}(f45:F 45=some J7)(A:HallAt h n (L0 H))(hs:h[s]? =some (.lst (ss.map sgD)))(dC:∀p∈ss,p.f∈H.fe.map (·.1)):b4 ct F (k+1) 45 [.ref n,.ref s] h=.ok .non h:=by
 obtain⟨bG,g',q1,e5,rfl,hg⟩:=D6 (g:=[(s,.lst (ss.map sgD))]) (p:=.nm 2) (body:=exs ct (b4 ct F k) cfB) (λj env hh=>∃e5,env=[~~~n,~~~s,e5]/\hh=h) (λj env hh hP=>by
  obtain⟨_,_,rfl⟩:=hP;simp only[gOk,all_cons,all_nil,hs];simp) (ss.map sgD) 0 [~~~n,~~~s,none] h (λj x env hh hx hP=>by
  obtain⟨e5,rfl,rfl⟩:=hP;rw[ak] at hx;obtain⟨p,hp,rfl⟩:=Option.map_eq_some_iff.mp hx;refine⟨_,[~~~n,~~~s,some (sgD p)],_,rfl,?_,_,rfl,rfl⟩;have ni:=a7J (k:=p.f) A.c7;rw[show(L0 H).features=hF H.fe from rfl,show(hF H.fe).map (·.1)=H.fe.map (·.1) from a2g _ _ _,ba (dC p (aH hp))] at ni;unfold cfB;simp![a4r.1,A.fld7,op2,ni,fL]) ⟨none,rfl,rfl⟩
 rw[hg] at q1;rw[c9 f45 rfl,J7,seq (by simp![M4,hs,q1];rfl)];simp![];exact u7 rfl
theorem a3P{c:Cl}:ixD h (clD c) (.int 0)=.ok (.str c.1) h/\ixD h (clD c) (.int 1)=.ok (.tup (c.2.map .int)) h:=⟨ix_tup (i:=0) rfl,ix_tup (i:=1) rfl⟩
theorem b2y:∀(cs:List Cl) (p:List D×D),(cs.foldl J1 p).1.length=↥p.1+↥cs
 |[],p=>rfl
 |c::r,p=>by rw[foldl_cons,b2y r,length_cons];unfold J1;cases c.2<;>simp<;>ac_nf
theorem a9b:∀(cs:List Cl) (p:List D×D),D.flats p.1=true->p.2.flat=true->D.flats (cs.foldl J1 p).1=true/\(cs.foldl J1 p).2.flat=true
 |[],p,a,b=>⟨a,b⟩
 | c::r,p,a,b=>by
  have ap:∀(l:List D) (d:D),D.flats l=true->d.flat=true->D.flats (l++[d])=true:=λl d=>by
   induction l with
   |nil=>intro _ h;show(d.flat&&true)=true;rw[h];rfl
   |cons x t ih=>
    intro h1 h2;rw[D.flats,ae] at h1;rw[cons_append,D.flats,h1.1,ih h1.2 h2];rfl
  rw[foldl_cons];refine a9b r _ ?_ ?_<;>unfold J1<;>cases c.2
  · exact ap _ _ a b
  · exact ap _ _ a rfl
  · exact b
  · rfl
theorem b2w{k:Nat}{cs:List Cl}(hF:F 44=some Y5)(hw:h[w]? =some (.lst (cs.map clD)))(hl:↥cs<=100000):b4 ct F (k+1) 44 [.ref w] h=.ok (.ref ↥h) (h++[.lst (hmD cs)]):=by
 have wl:=(ac.mp hw).1;obtain⟨bG,g',q1,e3,rfl,hg⟩:=D6 (g:=[(w,.lst (cs.map clD))]) (p:=.nm 3) (body:=exs ct (b4 ct F k) hoB) (λj env hh=>∃e3,env=[~~~w,~~~↥h,some ((cs.take j).foldl J1 ([],.non)).2,e3]/\hh=h++[.lst ((cs.take j).foldl J1 ([],.non)).1]) (λj env hh hP=>by
  obtain⟨_,_,rfl⟩:=hP;simp only[gOk,all_cons,all_nil,b5 hw];simp) (cs.map clD) 0 [~~~w,~~~↥h,some .non,none] (h++[.lst []]) (λj x env hh hx hP=>by
  obtain⟨e3,rfl,rfl⟩:=hP;rw[ak] at hx;obtain⟨c,hc,rfl⟩:=Option.map_eq_some_iff.mp hx;obtain⟨z1,z2⟩:=ac.mp hc;have ln:=b2y (cs.take j) ([],.non);rw[aM,length_nil] at ln;rw[aB,take_succ_eq_append_getElem z1,List.foldl_append,z2];generalize (cs.take j).foldl J1 ([],.non)=p at ln;obtain⟨i0,i1⟩:=a3P (c:=c) (h:=h++[.lst p.1]);show∃bW bG h',some [~~~w,~~~↥h,some p.2,some (clD c)]=some bW/\exs ct (b4 ct F k) hoB bW (h++[.lst p.1])=.ok (.nx bG) h'/\∃e3,bG=[~~~w,~~~↥h,some (J1 p c).2,e3]/\h'=h++[.lst (J1 p c).1];have ap:∀d,mtD .append (h++[.lst p.1]) (.ref ↥h) [d]=.ok .non (h++[.lst (p.1++[d])]):=λd=>a9r nofun;have mt:mtT .append (h++[.lst p.1]) (.ref ↥h)=true:=by simp only[mtT,a1y,Option.isSome_some]
  refine⟨_,[~~~w,~~~↥h,some (J1 p c).2,some (clD c)],_,rfl,?_,_,rfl,rfl⟩;unfold hoB J1;cases e:c.2 with
  |nil=>
   rw[e,map_nil] at i1;simp![i1,show biD .len (h++[.lst p.1]) [.tup []]=.ok (.int 0) (h++[.lst p.1]) from rfl,show op2 .gt (h++[.lst p.1]) (.int 0) (.int 0)=.ok (.bl false) (h++[.lst p.1]) from rfl,mt,ap]
  | cons x r=>
   have i2:∀h,ixD h (clD c) (.int 1)=.ok (.tup (.int x::r.map .int)) h:=λh=>by rw[←map_cons (f:=D.int),←e];exact a3P.2
   have lx:biD .len (h++[.lst p.1]) [.tup (.int x::r.map .int)]=.ok ⇑(↥r+1) (h++[.lst p.1]):=by show R.ok (D.int (↥(D.int x::r.map D.int):Int)) _=_;rw[length_cons,aa]
   have gt:op2 .gt (h++[.lst p.1]) ⇑(↥r+1) (.int 0)=.ok (.bl true) (h++[.lst p.1]):=by show R.ok (D.bl (decide ((0:Int)<((↥r+1:Nat):Int)))) _=_;rw[ba nofun]
   have f0:∀h,ixD h (.tup (.int x::r.map .int)) (.int 0)=.ok (.int x) h:=λh=>ix_tup (i:=0) rfl;have fl:∀h,ixD h (.tup (.int x::r.map .int)) (.int (-1))=.ok (.int ((x::r).getLastD 0)) h:=λh=>a6g (by rw[←map_cons (f:=D.int),aa,ak,List.getLastD_eq_getLast?,List.getLast?_eq_getElem?];rw[ai (show(x::r).length-1<↥(x::r) by rw[length_cons];ac_nf)];rfl)
   simp![i2,lx,gt,f0,fl,mt,ap]) ⟨none,rfl,rfl⟩
 rw[aa,aB,bf] at hg q1;rw[hg] at q1;rw[c9 hF rfl,Y5,seq (by simp![v8];rfl),seq (by simp![];rfl),seq (by simp![M4,b5 hw,q1];rfl)];simp![];exact gc2 b6 (aj _) (a9b cs ([],.non) rfl rfl).1
end
theorem b2g{cs:List Cl}(h:j<↥cs):o8 (cs.take (j+1))=o8 (cs.take j)++cs[j].2:=by unfold o8;rw[take_succ_eq_append_getElem h,ao,List.flatten_append];simp
theorem b2h(cs:List Cl)(j:Nat):↥(o8 (cs.take j))<=↥(o8 cs):=by
 have:o8 cs=o8 (cs.take j)++o8 (cs.drop j):=by unfold o8;rw[←List.flatten_append,←ao,take_append_drop]
 rw[this,aq];ac_nf
section
variable{ct:CT}{F:Nat->Option Fn}
theorem a9p(cs:List Cl):D.flats (cs.map clD)=true:=C6 λd hd=>by
 obtain⟨c,_,rfl⟩:=al.mp hd;have:∀l:List Int,D.flats (l.map .int)=true:=λl=>C6 λd hd=>by obtain⟨i,_,rfl⟩:=al.mp hd;rfl
 show D.flats [.str c.1,.tup (c.2.map .int)]=true;simp only[D.flats,D.flat,this,gA]
theorem b6Z{k:Nat}{T:D}{r:List Str}{cs:List Cl}(hF:F 43=some Q9)(t0:∀h,ixD h T (.int 0)=.ok (.str x) h)(tsl:∀h,slD h (some 1) none T=.ok (.tup (r.map .str)) h)(hr:↥r<=1000)(hw:h[w]? =some (.lst (cs.map clD)))(hl:↥(o8 cs)<=100000):b4 ct F (k+1) 43 [T,.ref w] h=.ok (.ref ↥h) (h++[.lst (((x,o8 cs)::r.map λs=>((s,[]):Cl)).map clD)]):=by
 obtain⟨bG,g',q1,e3,rfl,hg⟩:=D6 (g:=[(w,.lst (cs.map clD))]) (p:=.nm 3) (body:=exs ct (b4 ct F k) tcB) (λj env hh=>∃e3,env=[some T,~~~w,some (.tup ((o8 (cs.take j)).map .int)),e3]/\hh=h) (λj env hh hP=>by
  obtain⟨_,_,rfl⟩:=hP;simp only[gOk,all_cons,all_nil,hw];simp) (cs.map clD) 0 [some T,~~~w,some (.tup []),none] h (λj x env hh hx hP=>by
  obtain⟨e3,rfl,rfl⟩:=hP;rw[ak] at hx;obtain⟨c,hc,rfl⟩:=Option.map_eq_some_iff.mp hx;obtain⟨z1,z2⟩:=ac.mp hc;have b:=b2h cs (j+1);rw[aB];rw[b2g z1,z2] at b⊢;rw[aq] at b;refine⟨_,[some T,~~~w,some (.tup ((o8 (cs.take j)++c.2).map .int)),some (clD c)],_,rfl,?_,_,rfl,rfl⟩;have ad:op2 .add hh (.tup ((o8 (cs.take j)).map .int)) (.tup (c.2.map .int))=.ok (.tup ((o8 (cs.take j)++c.2).map .int)) hh:=by simp only[op2,M8];rw[ay (by rw[aa,aa];show _<=16777216;ac_nf),ao]
  unfold tcB;simp![a3P.2,ad]) ⟨none,rfl,rfl⟩
 rw[aa,aB,bf,hg] at q1;have cm:∀(env:u5) (g:AH),env[0]? =some (some T)->ev ct (b4 ct F k) tcE env g=.ok (.ref ↥g) (g++[.lst ((r.map λs=>((s,[]):Cl)).map clD)]):=λenv g e0=>by
  unfold tcE;rw[o9 (l:=r.map .str) (g:=[]) (h1:=g) (by simp![e0,tsl,M4]) rfl (λx=>.tup [x,.tup []]) (λx=>[some x]) (λx hx=>by refine⟨rfl,?_⟩;simp![ay (show 2<=SL by decide),ay (show 0<=SL by decide)]) (by rw[aa];show _<=16777216;ac_nf),aI,aI]
  rfl
 rw[c9 hF rfl,Q9,seq (by simp![ay (show 0<=SL by decide)];rfl),seq (by simp![M4,hw,q1];rfl)];have a1:(h++[Cell.lst [clD (x,o8 cs)]]++[Cell.lst ((r.map λs=>((s,[]):Cl)).map clD)])[↥h]? =some (.lst [clD (x,o8 cs)]):=b5 b6;have ad:=a5X (g:=h++[Cell.lst [clD (x,o8 cs)]]++[Cell.lst ((r.map λs=>((s,[]):Cl)).map clD)]) a1 (b:=↥(h++[Cell.lst [clD (x,o8 cs)]])) b6 (by rw[aa,aa];simp only[length_cons,length_nil];ac_nf);have f1:ev ct (b4 ct F k) (.lst (.o (.tup (.ix (.v 0) (.i 0)>=>.o (.v 2))))) [some T,~~~w,some (.tup ((o8 cs).map .int)),e3] h=.ok (.ref ↥h) (h++[.lst [clD (x,o8 cs)]]):=by simp![t0,ay (show 2<=SL by decide),ay (show 1<=SL by decide),v8];rfl
 rw[J3,a0r,b3p,f1,b8,cm _ _ rfl,b8];simp only[op2,ad,b8];exact a2j ((((Pf.refl h).app _).app _).app _) b6 ⋯ (a9p ((x,o8 cs)::r.map λs=>((s,[]):Cl)))
end
def b3a(cs:List Cs)(p:Str×Cl):Bool:=decide (p.2.1∈a1c cs p.1)
def a1q(cs:List Cs)(bF:List Str)(cells:List Cl):Bool:=decide (↥bF=↥cells)&&(bF.zip cells).all (b3a cs)
theorem b0z:∀(bF:List Str) (cells:List Cl),Q6 (bF.map .str) (cells.map clD)=(bF.zip cells).map λp=>D.tup [.str p.1,clD p.2]
 |[],_=>by simp[Q6]
 |_::_,[]=>by simp[Q6]
 |i::bF,c::cells=>by rw[map_cons,map_cons,Q6,b0z bF cells];rfl
variable{cells:List Cl}
section
variable{ct:CT}{F:Nat->Option Fn}{H:HL}(W:PF F)(f38:F 38=some a1i)(f39:F 39=some y7)
include W f38 f39
theorem a6X{k n w:Nat}{T:D}{g:List (Nat×Cell)}{h:AH}(K:HLok H)(A:HallAt h n (L0 H))(hg:gOk g h=true):∀(l:List (Str×Cl)),(∀p∈l,Z3 H.sh H.cs p.1)->∀e3 e4,∃o,E1 g (.tp (.nm 3>=>.nm 4>=>.nil)) (exs ct (b4 ct F (k+3)) afB) (l.map λp=>D.tup [.str p.1,clD p.2]) [~~~n,some T,~~~w,e3,e4] h=.ok o h/\((l.all (b3a H.cs)=true/\∃bG,o=.nx bG)∨(l.all (b3a H.cs)=false/\o=.rt (.bl false)))
 |[],_,e3,e4=>⟨_,by rw[map_nil,E1,ay hg],.inl ⟨rfl,_,rfl⟩⟩
 | p ::l,ho,e3,e4=>by
  have fk:=(b2Z (ct:=ct) (k:=k) (s:=p.2.1) W f38 f39 K A (ho p aY)).1;obtain⟨o,q1,q2⟩:=a6X K A hg l (λx hx=>ho x (aE _ hx)) (some (.str p.1)) (some (clD p.2));rw[map_cons,E1,ay hg,all_cons];simp only[D9,N3,List.set_cons_succ,List.set_cons_zero]
  by_cases e:p.2.1∈a1c H.cs p.1
  · have bo:exs ct (b4 ct F (k+3)) afB [~~~n,some T,~~~w,some (.str p.1),some (clD p.2)] h=.ok (.nx [~~~n,some T,~~~w,some (.str p.1),some (clD p.2)]) h:=by unfold afB;simp![a3P.1,fk,ba e,fL]
    rw[bo,b8,show b3a H.cs p=true from ba e,gi];exact⟨o,q1,q2⟩
  · have bo:exs ct (b4 ct F (k+3)) afB [~~~n,some T,~~~w,some (.str p.1),some (clD p.2)] h=.ok (.rt (.bl false)) h:=by unfold afB;simp![a3P.1,fk,bx e,gC]
    rw[bo,b8,show b3a H.cs p=false from bx e,gd];exact⟨_,rfl,.inr ⟨rfl,rfl⟩⟩
theorem b0x{k:Nat}(f42:F 42=some W5)(K:HLok H)(A:HallAt h n (L0 H))(ho:∀i∈bF,Z3 H.sh H.cs i)(hw:h[w]? =some (.lst (cells.map clD))):b4 ct F (k+4) 42 [.ref n,.tup (bF.map .str),.ref w] h=.ok (.bl (a1q H.cs bF cells)) h:=by
 have l1:biD .len h [.tup (bF.map .str)]=.ok ⇑↥bF h:=by show R.ok (D.int (↥(bF.map D.str):Int)) h=_;rw[aa]
 have l2:biD .len h [.ref w]=.ok ⇑↥cells h:=by rw[k7 hw,aa]
 have ne:op2 .ne h ⇑↥bF ⇑↥cells=.ok (.bl (!decide (↥bF=↥cells))) h:=by show R.ok (D.bl (!decide ((↥bF:Int)=(↥cells:Int)))) h=_;congr 3;exact decide_eq_decide.mpr ⟨λe=>by ac_nf,λe=>by ac_nf⟩
 have zi:a9v h (.tup (bF.map .str)) (.ref w)=.ok ((bF.zip cells).map λp=>D.tup [.str p.1,clD p.2],[(w,.lst (cells.map clD))]) h:=by simp only[a9v,W3,hw,b0z]
 obtain⟨o,q1,q2⟩:=a6X (ct:=ct) (k:=k) (w:=w) (T:=.tup (bF.map .str)) (g:=[(w,.lst (cells.map clD))]) W f38 f39 K A (by simp only[gOk,all_cons,all_nil,hw];simp) (bF.zip cells) (λp hp=>ho _ (of_mem_zip hp).1) none none;generalize hT:D.tup (bF.map .str)=T at l1 zi q1⊢;rw[c9 f42 rfl,W5];unfold a1q
 by_cases e:↥bF=↥cells
 · rw[seq (by simp![l1,l2,ne,ba e,fL];rfl),ba e,gi];have fr:ex ct (b4 ct F (k+3)) (.for (.tp (.nm 3>=>.nm 4>=>.nil)) (.zip (.v 1) (.v 2)) afB) [~~~n,some T,~~~w,none,none] h=.ok o h:=by simp![zi,q1]
   rcases q2 with⟨a,bG,rfl⟩|⟨a,rfl⟩
   · rw[seq fr,a];simp![];exact u7 rfl
   · rw[J3,fr,a];exact u7 rfl
 · rw[bx e,gd];simp![l1,l2,ne,bx e,gC];exact u7 rfl
end
theorem a5N(k m:Nat)(xs:List D):L6 xs (some (k:Int)) (some ((k+m:Nat):Int))=(xs.drop k).take m:=by
 by_cases h1:k+m<=↥xs
 · rw[N2 k (k+m) xs nofun h1,show k+m-k=m by ac_nf]
 · unfold L6 HT.sIx;simp only;rw[az nofun,az nofun];show(xs.drop (min k ↥xs)).take (min (k+m) ↥xs-min k ↥xs)=_;rw[Nat.min_eq_right (show ↥xs<=k+m by ac_nf)]
   by_cases h:k<=↥xs
   · rw[bc h,bg ⋯,bg (by rw[bz];ac_nf)]
   · rw[Nat.min_eq_right nofun,drop_length,gL nofun];simp
theorem a8v{i m:Nat}(hw:h[w]? =some (.lst (cells.map clD))):slD h (some (i:Int)) (some ((i+m:Nat):Int)) (.ref w)=.ok (.ref ↥h) (h++[.lst (((cells.drop i).take m).map clD)]):=by rw[F0 hw,a5N,←map_drop,←map_take]
theorem b0U{i:Nat}(hw:h[w]? =some (.lst (cells.map clD))):slD h (some (i:Int)) none (.ref w)=.ok (.ref ↥h) (h++[.lst ((cells.drop i).map clD)]):=by rw[F0 hw,M3,←map_drop]
theorem b3Q{i:Nat}:op2 .add h ⇑i ⇑j=.ok ⇑(i+j) h:=by rw[bt];rfl
theorem a0f{l:List Str}:biD .len h [.tup (l.map .str)]=.ok ⇑↥l h:=by show R.ok (D.int (↥(l.map D.str):Int)) h=_;rw[aa]
theorem a1w(r:Ru)(h:AH):ixD h (ruD r) (.int 1)=.ok (.str r.f) h/\ixD h (ruD r) (.int 2)=.ok (.tup (r.b.map .str)) h/\ixD h (ruD r) (.int 3)=.ok (.tup (r.c.map .str)) h/\ixD h (ruD r) (.int 4)=.ok (.tup (r.a.map .str)) h/\ixD h (ruD r) (.int 5)=.ok (.tup (r.o.map .str)) h:=⟨ix_tup (i:=1) rfl,ix_tup (i:=2) rfl,ix_tup (i:=3) rfl,ix_tup (i:=4) rfl,ix_tup (i:=5) rfl⟩
def a6K(cs:List Cs)(r:Ru)(ps cells:List Cl)(i:Nat):Bool:=a1q cs r.c ((cells.drop i).take ↥r.c)&&(a1q cs r.b (ps.drop (↥ps-↥r.b))&&a1q cs r.a ((cells.drop (i+↥r.c)).take ↥r.a))
variable{ps:List Cl}
section
variable{ct:CT}{F:Nat->Option Fn}{H:HL}(W:PF F)(f38:F 38=some a1i)(f39:F 39=some y7)(f42:F 42=some W5)
include W f38 f39 f42
theorem a6I{k p i:Nat}{r:Ru}(f41:F 41=some U1)(K:HLok H)(A:HallAt h n (L0 H))(ro:RuOk H.sh H.cs H.fe r)(hp:h[p]? =some (.lst (ps.map clD)))(hw:h[w]? =some (.lst (cells.map clD))):b4 ct F (k+5) 41 [.ref n,ruD r,.ref p,.ref w,.int (i:Int)] h=.ok (.bl (a6K H.cs r ps cells i)) h:=by
 have i2:=λh=>(a1w r h).2.1;have i3:=λh=>(a1w r h).2.2.1;have i4:=λh=>(a1w r h).2.2.2.1;rw[c9 f41 rfl];simp only[U1];have af:=fun(bF:List Str) (ho:∀i∈bF,Z3 H.sh H.cs i) (cl:List Cl) (g:AH) (q:Pf h g)=>b0x (ct:=ct) (k:=k) (n:=n) (w:=↥g) (bF:=bF) (cells:=cl) (h:=g++[.lst (cl.map clD)]) W f38 f39 f42 K ((show HallAt g n (L0 H) from⟨q.at A.o,q.at A.c1,q.at A.c2,q.at A.c3,q.at A.c4,q.at A.c5,q.at A.c6,q.at A.c7,q.at A.c8⟩).app _) ho b6;generalize ruD r=rr at i2 i3 i4⊢;rw[seq (by simp![i3,a0f,b3Q];rfl)];unfold a6K;have a1:=af r.c ro.c ((cells.drop i).take ↥r.c) h (.refl h);cases e1:a1q H.cs r.c ((cells.drop i).take ↥r.c) with
 |false=>
  rw[e1] at a1;simp![i3,a8v hw,a1,gC];exact gc1 rfl
 | true=>
  rw[e1] at a1;rw[seq (by simp![i3,a8v hw,a1,fL];rfl)];have q1:=(Pf.refl h).app [.lst (((cells.drop i).take ↥r.c).map clD)];generalize h++[Cell.lst (((cells.drop i).take ↥r.c).map clD)]=g at q1⊢;have hp:=q1.at hp;have hw:=q1.at hw;have mx:∀g,biD .max g [.int 0,.int ((↥ps:Int)-(↥r.b:Int))]=.ok ⇑(↥ps-↥r.b) g:=λg=>by show R.ok (D.int (if(↥ps:Int)-(↥r.b:Int)>0 then(↥ps:Int)-(↥r.b:Int) else 0)) g=_;congr 2;split<;>ac_nf
  have sb:op2 .sub g ⇑↥ps ⇑↥r.b=.ok (.int ((↥ps:Int)-(↥r.b:Int))) g:=rfl;have l2:biD .len g [.ref p]=.ok ⇑↥ps g:=by rw[k7 hp,aa]
  have a2:=af r.b ro.b (ps.drop (↥ps-↥r.b)) g q1;cases e2:a1q H.cs r.b (ps.drop (↥ps-↥r.b)) with
  |false=>
   rw[e2] at a2;simp![i2,a0f,l2,sb,mx,b0U hp,a2,gC];exact b0j (q1.app _) rfl
  |true=>
   rw[e2] at a2;rw[seq (by simp![i2,a0f,l2,sb,mx,b0U hp,a2,fL];rfl)];have q2:=q1.app [.lst ((ps.drop (↥ps-↥r.b)).map clD)];have hw:=b5 (g:=[.lst ((ps.drop (↥ps-↥r.b)).map clD)]) hw;generalize g++[Cell.lst ((ps.drop (↥ps-↥r.b)).map clD)]=g2 at q2 hw⊢;have a3:=af r.a ro.a ((cells.drop (i+↥r.c)).take ↥r.a) g2 q2;simp![i4,a0f,b3Q,a8v hw,a3];exact b0j (q2.app _) rfl
end
noncomputable def a6N(p:List Int×Int)(c:Cl):List Int×Int:=match c.2 with
 |[]=>(p.1++[p.2],p.2)
 |x::r=>(p.1++[x],(x::r).getLastD 0)
def hmI(cs:List Cl):List Int:=(cs.foldl a6N ([],0)).1
def HdL:List Cl->Prop
 |[]=>True
 |c::_=>c.2≠[]
theorem a9a:∀(cs:List Cl) (q:List Int×Int),cs.foldl J1 (q.1.map .int,.int q.2)=((cs.foldl a6N q).1.map .int,.int (cs.foldl a6N q).2)
 |[],q=>rfl
 |c::r,q=>by rw[foldl_cons,foldl_cons,←a9a r (a6N q c)];congr 1;unfold J1 a6N;cases c.2<;>simp
theorem b8u{cs:List Cl}(h:HdL cs):hmD cs=(hmI cs).map .int:=by
 cases cs with
 |nil=>rfl
 | cons c r=>
  unfold hmD hmI;rw[foldl_cons,foldl_cons];have e:J1 ([],.non) c=(([a6N ([],0) c].flatMap (·.1)).map .int,.int (a6N ([],0) c).2):=by
   unfold J1 a6N;have h:c.2≠[]:=h;cases q:c.2 with
   |nil=>exact absurd q h
   |cons x t=>simp
  rw[e,List.flatMap_singleton,a9a]
def a8g(H:HL)(ss:List Sg)(r:Ru)(ps cells:List Cl)(i:Nat)(c:Cl):Bool:=(decide (c.1∈a1c H.cs (r.c.headD ""))&&a6K H.cs r ps cells i)&&(((hmI cells).drop i).take ↥r.c).all (a7R H.fe ss r.f)
def dnL(H:HL)(ss:List Sg)(r:Ru)(cells:List Cl):Nat->Nat->List Cl->Nat->List Cl×Nat
 |0,_,ps,n=>(ps,n)
 |m+1,i,ps,n=>match cells[i]? with
  |none=>(ps,n)
  |some c=>if a8g H ss r ps cells i c=true then dnL H ss r cells m (i+↥r.c) (ps++S8 r.o ((cells.drop i).take ↥r.c)) (n+1) else dnL H ss r cells m (i+1) (ps++[c]) n
def K6(H:HL)(ss:List Sg)(cells:List Cl)(r:Ru):List Cl×Nat:=dnL H ss r cells ↥cells 0 [] 0
theorem b0P(o:List Str)(cs:List Cl):o8 (S8 o cs)=o8 cs:=by
 have:∀l:List Str,((l.map λs=>((s,[]):Cl)).map (·.2)).flatten=[]:=λl=>by
  induction l with
  |nil=>rfl
  |cons a t ih=>rw[map_cons,map_cons,List.flatten_cons,ih];rfl
 show o8 cs++(((o.drop 1).map λs=>((s,[]):Cl)).map (·.2)).flatten=_;rw[this,aZ]
theorem a1C(a b:List Cl):o8 (a++b)=o8 a++o8 b:=by unfold o8;rw[ao,List.flatten_append]
theorem b5q(cs:List Cl)(i m:Nat):↥(o8 ((cs.drop i).take m))<=↥(o8 cs):=by
 have:=b2h (cs.drop i) m;have e:o8 cs=o8 (cs.take i)++o8 (cs.drop i):=by rw[←a1C,take_append_drop]
 rw[e,aq];ac_nf
theorem b2x{a b:List Cl}(h1:HdL a)(h2:a=[]->HdL b):HdL (a++b):=by
 cases a with
 |nil=>exact h2 rfl
 |cons x t=>exact h1
theorem a8e {H:HL} {ss:List Sg} {r:Ru} {cells:List Cl} (hc:1<=↥r.c) (h3:↥r.o<=3) (ho:HdL cells):∀(m i:Nat) (ps:List Cl) (n:Nat),↥cells<=i+m->HdL ps->(ps=[]->i=0)->o8 (dnL H ss r cells m i ps n).1=o8 ps++o8 (cells.drop i)/\HdL (dnL H ss r cells m i ps n).1/\(dnL H ss r cells m i ps n).1.length<=↥ps+3*(↥cells-i)
 |0,i,ps,n,hm,hp,_=>by rw[gL nofun];exact⟨(aZ _).symm,hp,by show ↥ps<=_;ac_nf⟩
 | m + 1,i,ps,n,hm,hp,he=>by
  unfold dnL;cases e:cells[i]? with
  |none=>
   have:=List.getElem?_eq_none_iff.mp e;rw[gL nofun];exact⟨(aZ _).symm,hp,by show ↥ps<=_;ac_nf⟩
  | some c=>
   obtain⟨hi,rfl⟩:=ac.mp e;have h0:ps=[]->cells[i].2≠[]:=λz=>by
    have z:=he z;subst z;cases cells with
    |nil=>cases hi
    |cons a t=>exact ho
   simp only;split
   · have hd:HdL (ps++S8 r.o ((cells.drop i).take ↥r.c)):=b2x hp λz=>by show o8 _≠[];obtain⟨m',hm'⟩:∃m',↥r.c=m'+1:=⟨↥r.c-1,by ac_nf⟩;rw[hm',drop_eq_getElem_cons hi,List.take_succ_cons];show cells[i].2++_≠[];have:=h0 z;intro q;exact this (List.append_eq_nil_iff.mp q).1
     obtain⟨a1,a2,a3⟩:=a8e (ss:=ss) hc h3 ho m (i+↥r.c) (ps++S8 r.o ((cells.drop i).take ↥r.c)) (n+1) nofun hd (λz=>by have:=(List.append_eq_nil_iff.mp z).2;cases this)
     refine⟨?_,a2,?_⟩
     · rw[a1,a1C,b0P,aA,←a1C,←List.drop_drop,take_append_drop]
     · refine aR a3 ?_;rw[aq];have:↥(S8 r.o ((cells.drop i).take ↥r.c))=1+(↥r.o-1):=by unfold S8;rw[length_cons,aa,bz];ac_nf
       ac_nf
   · have hd:HdL (ps++[cells[i]]):=b2x hp λz=>h0 z;obtain⟨a1,a2,a3⟩:=a8e (ss:=ss) hc h3 ho m (i+1) (ps++[cells[i]]) n nofun hd (λz=>by have:=(List.append_eq_nil_iff.mp z).2;cases this)
     refine⟨?_,a2,?_⟩
     · rw[a1,a1C,aA,←a1C,drop_eq_getElem_cons hi];rfl
     · refine aR a3 ?_;rw[aq,length_singleton];ac_nf
theorem a7c{H:HL}{r:Ru}(hc:1<=↥r.c)(h3:↥r.o<=3)(ho:HdL cells):o8 (K6 H ss cells r).1=o8 cells/\HdL (K6 H ss cells r).1/\(K6 H ss cells r).1.length<=3*↥cells:=by obtain⟨a,b,c⟩:=a8e (H:=H) (ss:=ss) hc h3 ho ↥cells 0 [] 0 nofun trivial (λ_=>rfl);refine⟨a,b,?_⟩;rw[length_nil] at c;unfold K6;ac_nf
theorem b5k(e:h[n]? =some (.lst xs)):mtT .extend h (.ref n)=true:=by simp only[mtT,rdL,e,Option.isSome_some]
theorem b8y{k:Nat}{ys:List D}(e1:h[n]? =some (.lst xs))(e2:h[k]? =some (.lst ys))(hl:↥xs+↥ys<=1000000):mtD .extend h (.ref n) [.ref k]=.ok .non (h.set n (.lst (xs++ys))):=by simp only[mtD,e1,e2];rw[ay (show ↥xs+↥ys<=16777216 by ac_nf)]
theorem HallAt.pf{H:HD}(A:HallAt h n H)(q:Pf h g):HallAt g n H:=⟨q.at A.o,q.at A.c1,q.at A.c2,q.at A.c3,q.at A.c4,q.at A.c5,q.at A.c6,q.at A.c7,q.at A.c8⟩
structure DF(F:Nat->Option Fn):Prop where
 f38:F 38=some a1i
 f39:F 39=some y7
 f40:F 40=some a8c
 f41:F 41=some U1
 f42:F 42=some W5
 f43:F 43=some Q9
 f44:F 44=some Y5
 f45:F 45=some J7
 f46:F 46=some a1K
 f47:F 47=some M0
variable{hm:List Int}{e10:Option D}
section
variable{ct:CT}{F:Nat->Option Fn}{H:HL}
structure DSt(h g:AH)(ps:List Cl)(hm:List Int):Prop where
 pf:Pf h g
 p:g[↥h]? =some (.lst (ps.map clD))
 q:g[↥h+1]? =some (.lst (hm.map .int))
theorem DSt.app(S:DSt h g ps hm)(t:AH):DSt h (g++t) ps hm:=⟨S.pf.app t,b5 S.p,b5 S.q⟩
theorem DSt.put{qs:List Cl}(S:DSt h g ps hm):DSt h (g.set ↥h (.lst ((ps++qs).map clD))) (ps++qs) hm:=⟨S.pf.set (aj _),B0 S.p,b7 nofun S.q⟩
theorem a6h{o:List Str}(h1:1<=↥o):(∀h,ixD h (.tup (o.map .str)) (.int 0)=.ok (.str (o.headD "")) h)/\(∀h,slD h (some 1) none (.tup (o.map .str))=.ok (.tup ((o.drop 1).map .str)) h):=by
 cases o with
 |nil=>cases h1
 | cons x t=>
  refine⟨λh=>ix_tup (i:=0) rfl,λh=>?_⟩;have c:=M3 1 ((x::t).map D.str);rw[←map_drop] at c;have n0:¬(HT.sIx ↥((x::t).map D.str) 0 (some 1)=0/\HT.sIx ↥((x::t).map D.str) ↥((x::t).map D.str) none=↥((x::t).map D.str)):=λz=>by have z:=z.1;unfold HT.sIx at z;simp only at z;rw[az nofun] at z;have z:min 1 ↥((x::t).map D.str)=0:=z;rw[aa,length_cons] at z;ac_nf
  show(if HT.sIx ↥((x::t).map D.str) 0 (some 1)=0/\HT.sIx ↥((x::t).map D.str) ↥((x::t).map D.str) none=↥((x::t).map D.str) then R.no else R.ok (D.tup (L6 ((x::t).map D.str) (some 1) none)) h)=_;rw[az n0];exact fM (λl=>R.ok (D.tup l) h) c
variable(W:PF F)(Q:DF F)
include W Q
theorem b0r{k s i cnt:Nat}{r:Ru}{T:D}{e9:Option D}(hT:T=.tup ((a1c H.cs (r.c.headD "")).map .str))(K:HLok H)(A:HallAt h n (L0 H))(ro:RuOk H.sh H.cs H.fe r)(hw:h[w]? =some (.lst (cells.map clD)))(hs:h[s]? =some (.lst (ss.map sgD)))(hl:↥cells<=100000)(hL:↥(o8 cells)<=1000)(hp:↥ps<=3*i)(S:DSt h g ps (hmI cells))(hi:i<↥cells):
 ∃g' e9' dE,exs ct (b4 ct F (k+5)) dnB [~~~n,some (ruD r),~~~w,~~~s,~~~↥h,some (.ref (↥h+1)),some T,i⁻¹,cnt⁻¹,e9,e10] g=
  .ok (.nx [~~~n,some (ruD r),~~~w,~~~s,~~~↥h,some (.ref (↥h+1)),some T,some ⇑(if a8g H ss r ps cells i cells[i]=true then i+↥r.c else i+1),some ⇑(if a8g H ss r ps cells i cells[i]=true then cnt+1 else cnt),e9',dE]) g'/\DSt h g' (if a8g H ss r ps cells i cells[i]=true then ps++S8 r.o ((cells.drop i).take ↥r.c) else ps++[cells[i]]) (hmI cells):=by
 obtain⟨i1,i2,i3,i4,i5⟩:(∀h,_)/\(∀h,_)/\(∀h,_)/\(∀h,_)/\(∀h,_):=⟨λh=>(a1w r h).1,λh=>(a1w r h).2.1,λh=>(a1w r h).2.2.1,λh=>(a1w r h).2.2.2.1,λh=>(a1w r h).2.2.2.2⟩;have fi:=a6I (ct:=ct) (k:=k) (i:=i) W Q.f38 Q.f39 Q.f42 Q.f41 K (A.pf S.pf) ro S.p (S.pf.at hw);have c0:ixD g (.ref w) ⇑i=.ok (clD cells[i]) g:=v5 (S.pf.at hw) (by rw[ak,ai hi];rfl);have inT:op2 .isin g (.str cells[i].1) T=.ok (.bl (decide (cells[i].1∈a1c H.cs (r.c.headD "")))) g:=by subst hT;simp only[op2,O4];rw[ay (by rw[W4];rfl),a1D];simp
 have hsl:slD g (some (i:Int)) (some ((i+↥r.c:Nat):Int)) (.ref (↥h+1))=.ok (.ref ↥g) (g++[.lst ((((hmI cells).drop i).take ↥r.c).map .int)]):=by rw[F0 S.q,a5N,←map_drop,←map_take]
 have c4:=ro.c4;have o3:=ro.o3;have S1:=S.app [.lst ((((hmI cells).drop i).take ↥r.c).map .int)];have oa:=b1O (ct:=ct) (k:=k+3) (ls:=((hmI cells).drop i).take ↥r.c) Q.f46 Q.f47 (A.pf S1.pf) (S1.pf.at hs) b6 ro.fe (by rw[aM];ac_nf);generalize ruD r=rr at i1 i2 i3 i4 i5 fi⊢;have apC:∀(g:AH),DSt h g ps (hmI cells)->∀e9 e10,exs ct (b4 ct F (k+5)) b8M [~~~n,some rr,~~~w,~~~s,~~~↥h,some (.ref (↥h+1)),some T,i⁻¹,cnt⁻¹,e9,e10] g=.ok (.nx [~~~n,some rr,~~~w,~~~s,~~~↥h,some (.ref (↥h+1)),some T,some ⇑(i+1),cnt⁻¹,e9,e10]) (g.set ↥h (.lst ((ps++[cells[i]]).map clD))):=λg S e9 e10=>by have c0:ixD g (.ref w) ⇑i=.ok (clD cells[i]) g:=v5 (S.pf.at hw) (by rw[ak,ai hi];rfl);unfold b8M;simp![E2 S.p,c0,K1 S.p (by rw[aa];ac_nf),b3Q (j:=1)];rw[ao];rfl
 unfold dnB;rw[seq (by simp![i3,a0f,b3Q];rfl)];rw[seq (bG:=[~~~n,some rr,~~~w,~~~s,~~~↥h,some (.ref (↥h+1)),some T,i⁻¹,cnt⁻¹,some ⇑(i+↥r.c),some (.bl (decide (cells[i].1∈a1c H.cs (r.c.headD ""))&&a6K H.cs r ps cells i))]) (h':=g) (by
  cases e:decide (cells[i].1∈a1c H.cs (r.c.headD "")) with
  |false=>
   rw[e] at inT;simp![c0,a3P.1,inT,gd]
  |true=>
   rw[e] at inT;simp![c0,a3P.1,inT,fi,gi])]
 unfold a8g;cases e1:decide (cells[i].1∈a1c H.cs (r.c.headD ""))&&a6K H.cs r ps cells i with
 |false=>
  rw[az ⋯,az ⋯,az ⋯];refine⟨_,some ⇑(i+↥r.c),some (.bl false),?_,S.put⟩;simp![apC g S]
 | true=>
  cases e2:(((hmI cells).drop i).take ↥r.c).all (a7R H.fe ss r.f) with
  |false=>
   rw[e2] at oa;rw[az ⋯,az ⋯,az ⋯];refine⟨_,some ⇑(i+↥r.c),some (.bl true),?_,S1.put⟩;simp![i1,hsl,oa,apC _ S1]
  | true=>
   rw[e2] at oa;simp only[gA,fV];have S2:=S1.app [.lst (((cells.drop i).take ↥r.c).map clD)];obtain⟨t0,t1⟩:=a6h o3.1;have tc:=b6Z (ct:=ct) (k:=k+4) (w:=↥(g++[Cell.lst ((((hmI cells).drop i).take ↥r.c).map .int)])) (cs:=(cells.drop i).take ↥r.c) (h:=g++[.lst ((((hmI cells).drop i).take ↥r.c).map .int)]++[.lst (((cells.drop i).take ↥r.c).map clD)]) Q.f43 t0 t1 (by rw[bz];ac_nf) b6 (by have:=b5q cells i ↥r.c;ac_nf);have S3:=S2.app [.lst ((S8 r.o ((cells.drop i).take ↥r.c)).map clD)];have sl2:=a8v (i:=i) (m:=↥r.c) (S1.pf.at hw);have tcl:↥(S8 r.o ((cells.drop i).take ↥r.c))<=3:=by unfold S8;rw[length_cons,aa,bz];ac_nf
   have ex:=b8y S3.p (k:=↥(g++[Cell.lst ((((hmI cells).drop i).take ↥r.c).map .int)]++[Cell.lst (((cells.drop i).take ↥r.c).map clD)])) b6 (by rw[aa,aa];ac_nf);have mt:=b5k S1.p;refine⟨_,some ⇑(i+↥r.c),some (.bl true),?_,S3.put⟩;rw[ao];change b4 ct F (k+4+1) 43 _ _=.ok _ (_++[.lst ((S8 r.o ((cells.drop i).take ↥r.c)).map clD)]) at tc;generalize S8 r.o ((cells.drop i).take ↥r.c)=tcs at*
   have b1:exs ct (b4 ct F (k+5)) b8N [~~~n,some rr,~~~w,~~~s,~~~↥h,some (.ref (↥h+1)),some T,i⁻¹,cnt⁻¹,some ⇑(i+↥r.c),some (.bl true)] (g++[.lst ((((hmI cells).drop i).take ↥r.c).map .int)])=.ok (.nx [~~~n,some rr,~~~w,~~~s,~~~↥h,some (.ref (↥h+1)),some T,some ⇑(i+↥r.c),some ⇑(cnt+1),some ⇑(i+↥r.c),some (.bl true)]) ((g++[Cell.lst ((((hmI cells).drop i).take ↥r.c).map .int)]++[Cell.lst (((cells.drop i).take ↥r.c).map clD)]++[Cell.lst (tcs.map clD)]).set ↥h (.lst (ps.map clD++tcs.map clD))):=by unfold b8N;simp![mt,i5,sl2,tc,ex,b3Q (j:=1)];rfl
   simp![i1,hsl,oa,b1]
theorem a3O{k n w s:Nat}{r:Ru}{cells:List Cl}{ss:List Sg}{h:AH}{T:D}(hT:T=.tup ((a1c H.cs (r.c.headD "")).map .str))(K:HLok H)(A:HallAt h n (L0 H))(ro:RuOk H.sh H.cs H.fe r)(hw:h[w]? =some (.lst (cells.map clD)))(hs:h[s]? =some (.lst (ss.map sgD)))(hl:↥cells<=100000)(hL:↥(o8 cells)<=1000):∀(m i cnt eu:Nat) (ps:List Cl) (g:AH) (e9 e10:Option D),↥cells<=i+m->m<eu->↥ps<=3*i->DSt h g ps (hmI cells)→
 ∃g' e7 e9' dE,a4b (tst ct (b4 ct F (k+5)) dnT) (exs ct (b4 ct F (k+5)) dnB) eu [~~~n,some (ruD r),~~~w,~~~s,~~~↥h,some (.ref (↥h+1)),some T,i⁻¹,cnt⁻¹,e9,e10] g=
  .ok (.nx [~~~n,some (ruD r),~~~w,~~~s,~~~↥h,some (.ref (↥h+1)),some T,e7,some (.int ((dnL H ss r cells m i ps cnt).2:Int)),e9',dE]) g'/\DSt h g' (dnL H ss r cells m i ps cnt).1 (hmI cells)
 |m,i,cnt,0,ps,g,e9,e10,_,hf,_,_=>absurd hf nofun
 | m, i,cnt,f+1,ps,g,e9,e10,hm,hf,hp,S=>by
  have l2:biD .len g [.ref w]=.ok ⇑↥cells g:=by rw[k7 (S.pf.at hw),aa]
  have lt:op2 .lt g ⇑i ⇑↥cells=.ok (.bl (decide (i<↥cells))) g:=by show R.ok (D.bl (decide ((i:Int)<(↥cells:Int)))) g=_;congr 2;exact decide_eq_decide.mpr ⟨λe=>by ac_nf,λe=>by ac_nf⟩
  have t:tst ct (b4 ct F (k+5)) dnT [~~~n,some (ruD r),~~~w,~~~s,~~~↥h,some (.ref (↥h+1)),some T,i⁻¹,cnt⁻¹,e9,e10] g=.ok (decide (i<↥cells)) g:=by unfold dnT;simp![l2,lt]
  rw[a4b,t,b8]
  by_cases hi:i<↥cells
  · rw[ay (ba hi)];obtain⟨m,rfl⟩:∃m',m=m'+1:=⟨m-1,by ac_nf⟩;obtain⟨g',e9',dE,q1,q2⟩:=b0r (ct:=ct) (k:=k) (cnt:=cnt) (e9:=e9) (e10:=e10) W Q hT K A ro hw hs hl hL hp S hi;rw[q1,b8];have c4:=ro.c4;have o3:=ro.o3;have e:dnL H ss r cells (m+1) i ps cnt=(if a8g H ss r ps cells i cells[i]=true then dnL H ss r cells m (i+↥r.c) (ps++S8 r.o ((cells.drop i).take ↥r.c)) (cnt+1) else dnL H ss r cells m (i+1) (ps++[cells[i]]) cnt):=by rw[dnL,ai hi]
    rw[e]
    by_cases on:a8g H ss r ps cells i cells[i]=true
    · simp only[ay on] at q2⊢;refine a3O hT K A ro hw hs hl hL m (i+↥r.c) (cnt+1) f _ g' e9' dE nofun nofun ?_ q2;rw[aq];unfold S8;rw[length_cons,aa,bz];ac_nf
    · simp only[az on] at q2⊢;exact a3O hT K A ro hw hs hl hL m (i+1) cnt f _ g' e9' dE nofun nofun (by rw[aq,length_singleton];ac_nf) q2
  · rw[az (by rw[bx hi];decide)];have e:dnL H ss r cells m i ps cnt=(ps,cnt):=by
     cases m with
     |zero=>rfl
     |succ m=>rw[dnL,List.getElem?_eq_none_iff.mpr nofun]
    rw[e];exact⟨g,_,_,_,rfl,S⟩
theorem b6b{k s:Nat}{r:Ru}(K:HLok H)(A:HallAt h n (L0 H))(ro:RuOk H.sh H.cs H.fe r)(hw:h[w]? =some (.lst (cells.map clD)))(hs:h[s]? =some (.lst (ss.map sgD)))(dC:∀p∈ss,p.f∈H.fe.map (·.1))(hl:↥cells<=100000)(hL:↥(o8 cells)<=1000)(ho:HdL cells):
 ∃g,b4 ct F (k+6) 40 [.ref n,ruD r,.ref w,.ref s] h=.ok (.tup [.ref ↥h,.int ((K6 H ss cells r).2:Int)]) g/\Pf h g/\g[↥h]? =some (.lst ((K6 H ss cells r).1.map clD)):=by
 have c4:=ro.c4;have cf:=a2q (ct:=ct) (k:=k+4) Q.f45 A hs dC;have hm:=b2w (ct:=ct) (k:=k+4) (h:=h++[.lst []]) Q.f44 (b5 hw) hl;rw[b8u ho,show(h++[Cell.lst []]).length=h.length+1 by simp] at hm;have S:DSt h (h++[.lst []]++[.lst ((hmI cells).map .int)]) [] (hmI cells):=⟨((Pf.refl h).app _).app _,b5 b6,by rw[show h.length+1=(h++[Cell.lst []]).length by simp];exact b6⟩;have rc:∀h,ixD h (.tup (r.c.map .str)) (.int 0)=.ok (.str (r.c.headD "")) h:=(a6h c4.1).1;have hm0:r.c.headD ""∈r.c:=by
  cases e:r.c with
  |nil=>rw[e] at c4;exact absurd c4.1 ∅
  |cons a t=>exact .head _
 have fs:=(b2Z (ct:=ct) (k:=k+3) (s:="") W Q.f38 Q.f39 K (A.pf S.pf) (ro.c _ hm0)).2;have i3:=λh=>(a1w r h).2.2.1;obtain⟨g',e7,e9,e10,q1,q2⟩:=a3O (ct:=ct) (k:=k) W Q rfl K A ro hw hs hl hL ↥cells 0 0 a4T [] _ none none nofun (by show _<1000000;ac_nf) (ga _) S;refine⟨g',?_,q2.pf,q2.p⟩;rw[c9 Q.f40 rfl,a8c];rw[gc0];generalize ruD r=rr at i3 q1⊢;rw[seq (by simp![cf];rfl),seq (by simp![v8];rfl),seq (by simp![hm];rfl),seq (by simp![i3,rc,fs];rfl),seq (by simp![];rfl),seq (by simp![];rfl)];rw[show((0:Nat):Int)=0 from rfl] at q1;rw[seq (b3i.trans q1)];simp![ay (show 2<=SL by decide)];rfl
end
def fcL:Nat->List Str->List Cl
 |_,[]=>[]
 |i,s::r=>(s,[(i:Int)])::fcL (i+1) r
def fcF(x:D):D:=match x with
 |.tup [a,b]=>.tup [b,.tup [a]]
 |_=>.non
theorem b3f:∀(fs:List Str) (i:Nat),(t9 i (fs.map .str)).map fcF=(fcL i fs).map clD
 |[],_=>rfl
 |s::r,i=>by rw[map_cons,t9,map_cons,b3f r (i+1)];rfl
theorem a8a:∀(fs:List Str) (i:Nat),↥(fcL i fs)=↥fs/\↥(o8 (fcL i fs))=↥fs
 |[],_=>⟨rfl,rfl⟩
 |s::r,i=>by obtain⟨a,b⟩:=a8a r (i+1);refine⟨by rw[fcL,length_cons,a];rfl,?_⟩;show((i:Int)::o8 (fcL (i+1) r)).length=_;rw[length_cons,b];rfl
theorem b6I(fs:List Str)(i:Nat):HdL (fcL i fs):=by
 cases fs with
 |nil=>trivial
 |cons s r=>exact cons_ne_nil _ _
theorem a8d:∀{l:List Str} {i:Nat} {x:D},x∈t9 i (l.map .str)->∃(j:Nat) (s:Str),x=.tup [.int (j:Int),.str s]
 |s::r,i,x,h=>by
  rw[map_cons,t9] at h;rcases aF.mp h with rfl|h
  · exact⟨i,s,rfl⟩
  · exact a8d h
theorem a3M:∀(l:List D) (i:Nat),↥(t9 i l)=↥l
 |[],_=>rfl
 |x::r,i=>by rw[t9,length_cons,length_cons,a3M r]
def shF(H:HL)(ss:List Sg):List Ru->List Cl->List Nat->List Cl×List Nat
 |[],cs,ns=>(cs,ns)
 |r::t,cs,ns=>shF H ss t (K6 H ss cs r).1 (ns++[(K6 H ss cs r).2])
abbrev nsD(ns:List Nat):List D:=ns.map λi:Nat=>D.int (i:Int)
variable{h1:AH}
section
variable{ct:CT}{F:Nat->Option Fn}{H:HL}
theorem b3c{fs:List Str}(ha:ev ct c a env h=.ok (.ref w) h1)(hw:h1[w]? =some (.lst (fs.map .str)))(hl:↥fs<=1000):ev ct c (frE a) env h=.ok (.ref ↥h1) (h1++[.lst ((fcL 0 fs).map clD)]):=by
 unfold frE;rw[o9 (l:=t9 0 (fs.map .str)) (g:=[(w,.lst (fs.map .str))]) (h1:=h1) (by rw[a6Z,ha,b8];simp only[T4,hw]) (by simp only[gOk,all_cons,all_nil,hw];simp) fcF (λx=>match x with
  |.tup [a,b]=>[some a,some b]
  |_=>[]) (λx hx=>by
  obtain⟨j,s,rfl⟩:=a8d hx;refine⟨rfl,?_⟩;simp![ay (show 2<=SL by decide),ay (show 1<=SL by decide)];rfl) (by rw[a3M,aa];show _<=16777216;ac_nf),b3f]
theorem b3b{k:Nat}{fs:List Str}(hF:F 49=some K4)(hw:h[w]? =some (.lst (fs.map .str)))(hl:↥fs<=1000):b4 ct F (k+1) 49 [.ref w] h=.ok (.ref ↥h) (h++[.lst ((fcL 0 fs).map clD)]):=by rw[c9 hF rfl];simp only[K4];show gcR 2 h (a4h (exs ct (b4 ct F k) (.o (.ret (frE (.v 0)))) [~~~w] h))=_;rw[J3,a0r,b3c (h1:=h) (w:=w) (by simp![]) hw hl];exact gc2 b6 (aj _) (a9p _)
theorem a6w{a t:Nat}(h:a*3^(t+1)<=100000)(hb:b<=3*a):b*3^t<=100000:=by refine aR (gm _ hb) ?_;rw[Nat.pow_succ] at h;rw[Nat.mul_comm 3 a,Nat.mul_assoc,Nat.mul_comm 3];exact h
theorem b1x{a t:Nat}(h:a*3^t<=100000):a<=100000:=aR (Nat.le_mul_of_pos_right _ (Nat.pow_pos ∅)) h
theorem a3o(A:HallAt h n (L0 H)):h[n+8]? =some (.lst (H.ru.map ruD)):=by rw[A.c8];show some (Cell.lst (rd (EV.hR H.ru)))=_;unfold rd EV.hR;rw[aI];rfl
variable(W:PF F)(Q:DF F)
include W Q
theorem a8w{k n s cc:Nat}{l:D}{ss:List Sg}{h:AH}(K:HLok H)(A:HallAt h n (L0 H))(hs:h[s]? =some (.lst (ss.map sgD)))(dC:∀p∈ss,p.f∈H.fe.map (·.1))(hc:↥h<=cc):∀(rs:List Ru) (cells:List Cl) (ns:List Nat) (w:Nat) (g:AH) (e5 e6:Option D),(∀r∈rs,r∈H.ru)->Pf h g->g[w]? =some (.lst (cells.map clD))->g[cc]? =some (.lst (nsD ns))->↥h<=w->w≠cc->↥cells*3^↥rs<=100000->↥(o8 cells)<=1000->HdL cells->↥ns+↥rs<=1000→
 ∃g' w' fq fm,E1 [(n+8,.lst (H.ru.map ruD))] (.nm 5) (exs ct (b4 ct F (k+6)) shB) (rs.map ruD) [~~~n,some l,~~~s,~~~w,~~~cc,e5,e6] g=.ok (.nx [~~~n,some l,~~~s,~~~w',~~~cc,fq,fm]) g'/\Pf h g'/\g'[w']? =some (.lst ((shF H ss rs cells ns).1.map clD))/\g'[cc]? =some (.lst (nsD (shF H ss rs cells ns).2))/\↥h<=w'/\w'≠cc
 |[],cells,ns,w,g,e5,e6,_,P,hw,dD,h1,h2,_,_,_,_=>⟨g,w,e5,e6,by rw[map_nil,E1,ay (by simp only[gOk,all_cons,all_nil,P.at (a3o A)];simp)],P,hw,dD,h1,h2⟩
 | r::t,cells,ns,w,g,e5,e6,hrs,P,hw,dD,h1,h2,hl,hL,ho,hn=>by
  rw[length_cons] at hl hn;have ro:=K.ruo r (hrs r (.head _));obtain⟨g1,q1,q2,q3⟩:=b6b (ct:=ct) (k:=k) W Q K (A.pf P) ro hw (P.at hs) dC (b1x hl) hL ho;obtain⟨a1,a2,a3⟩:=a7c (H:=H) (ss:=ss) ro.c4.1 ro.o3.2 ho;have gl:cc<↥g:=(ac.mp dD).1;have c1:=q2.at dD;have P1:Pf h (g1.set cc (.lst (nsD (ns++[(K6 H ss cells r).2])))):=(P.trans q2).set hc;obtain⟨g',w',fq,fm,b⟩:=a8w (k:=k) (l:=l) K A hs dC hc t (K6 H ss cells r).1 (ns++[(K6 H ss cells r).2]) ↥g (g1.set cc (.lst (nsD (ns++[(K6 H ss cells r).2])))) (some (ruD r)) (some (.tup [.ref ↥g,.int ((K6 H ss cells r).2:Int)])) (λx hx=>hrs x (.tail _ hx)) P1 (b7 nofun q3) (B0 c1) P.len nofun (a6w hl a3) (by rw[a1];exact hL) a2 (by rw[aq,length_singleton];ac_nf);refine⟨g',w',fq,fm,?_,b.2⟩;rw[map_cons,E1,ay (by simp only[gOk,all_cons,all_nil,P.at (a3o A)];simp)];show(exs ct (b4 ct F (k+6)) shB [~~~n,some l,~~~s,~~~w,~~~cc,some (ruD r),e6] g).bind _=_;have ap:=K1 (d:=.int ((K6 H ss cells r).2:Int)) c1 (by rw[aa];ac_nf);have bd:exs ct (b4 ct F (k+6)) shB [~~~n,some l,~~~s,~~~w,~~~cc,some (ruD r),e6] g=.ok (.nx [~~~n,some l,~~~s,~~~↥g,~~~cc,some (ruD r),some (.tup [.ref ↥g,.int ((K6 H ss cells r).2:Int)])]) (g1.set cc (.lst (nsD (ns++[(K6 H ss cells r).2])))):=by unfold shB;have t0:∀h,ixD h (.tup [.ref ↥g,.int ((K6 H ss cells r).2:Int)]) (.int 0)=.ok (.ref ↥g) h:=λh=>ix_tup (i:=0) rfl;have t1:∀h,ixD h (.tup [.ref ↥g,.int ((K6 H ss cells r).2:Int)]) (.int 1)=.ok (.int ((K6 H ss cells r).2:Int)) h:=λh=>ix_tup (i:=1) rfl;simp![q1,t0,t1,E2 c1,ap];rw[show nsD (ns++[(K6 H ss cells r).2])=nsD ns++[.int ((K6 H ss cells r).2:Int)] by unfold nsD;rw[ao];rfl]
  rw[bd,b8];exact b.1
theorem a9G{k l s:Nat}(f33:F 33=some D0)(f34:F 34=some T3)(f35:F 35=some E4)(f36:F 36=some F7)(f37:F 37=some J6)(f48:F 48=some a1J)(f49:F 49=some K4)(K:HLok H)(A:HallAt h n (L0 H))(hr:h[l]? =some (.lst (row.map .str)))(hx:∀x∈row,x∈H.ls.map (·.n))(hl:row.length<=63)(hs:h[s]? =some (.lst (ss.map sgD)))(dC:∀p∈ss,p.f∈H.fe.map (·.1))(hp:row.length*3^↥H.ru<=100000):
 ∃g w c,b4 ct F (k+7) 48 [.ref n,.ref l,.ref s] h=.ok (.tup [.ref w,.ref c]) g/\Pf h g/\g[w]? =some (.lst ((shF H ss H.ru (fcL 0 (o7 H.ls row)) []).1.map clD))/\g[c]? =some (.lst (nsD (shF H ss H.ru (fcL 0 (o7 H.ls row)) []).2))/\↥h<=w/\↥h<=c/\w≠c:=by
 have fl:↥(o7 H.ls row)=row.length:=by unfold o7;rw[aa,aK]
 obtain⟨c1,c2⟩:=a8a (o7 H.ls row) 0;have fo:=a8b (ct:=ct) (k:=k+3) f33 f34 f35 f36 f37 K A hr hx hl;have fi:=b3b (ct:=ct) (k:=k+5) (w:=↥h) (h:=h++[.lst ((o7 H.ls row).map .str)]) f49 b6 nofun;have P:Pf h (h++[.lst ((o7 H.ls row).map .str)]++[.lst ((fcL 0 (o7 H.ls row)).map clD)]++[.lst []]):=(((Pf.refl h).app _).app _).app _;have ln:↥h+1=↥(h++[Cell.lst ((o7 H.ls row).map .str)]):=by simp
 have hw:(h++[Cell.lst ((o7 H.ls row).map .str)]++[.lst ((fcL 0 (o7 H.ls row)).map clD)]++[.lst []])[↥h+1]? =some (.lst ((fcL 0 (o7 H.ls row)).map clD)):=by rw[ln];exact b5 b6
 have ln2:↥h+2=↥(h++[Cell.lst ((o7 H.ls row).map .str)]++[Cell.lst ((fcL 0 (o7 H.ls row)).map clD)]):=by simp
 have hc:(h++[Cell.lst ((o7 H.ls row).map .str)]++[.lst ((fcL 0 (o7 H.ls row)).map clD)]++[.lst []])[↥h+2]? =some (.lst (nsD [])):=by rw[ln2];exact b6
 have rul:=K.rul;obtain⟨g,w,e5,e6,q1,q2,q3,q4,q5,q6⟩:=a8w (k:=k) (cc:=↥h+2) (l:=.ref l) W Q K A hs dC nofun H.ru (fcL 0 (o7 H.ls row)) [] (↥h+1) _ none none (λ_ h=>h) P hw hc nofun nofun (by rw[c1,fl];exact hp) (by rw[c2];ac_nf) (b6I _ _) (by rw[length_nil];ac_nf);refine⟨g,w,↥h+2,?_,q2,q3,q4,q5,by ac_nf,q6⟩;have cf:=a2q (ct:=ct) (k:=k+5) (h:=h++[.lst ((o7 H.ls row).map .str)]++[.lst ((fcL 0 (o7 H.ls row)).map clD)]) Q.f45 ((A.app _).app _) (b5 (b5 hs)) dC;rw[c9 f48 rfl,a1J];rw[gc0,seq (bG:=[~~~n,~~~l,~~~s,some (.ref (↥h+1)),none,none,none]) (h':=h++[.lst ((o7 H.ls row).map .str)]++[.lst ((fcL 0 (o7 H.ls row)).map clD)]) (by simp![fo,fi];rw[ln])]
 rw[seq (by simp![cf];rfl),seq (bG:=[~~~n,~~~l,~~~s,some (.ref (↥h+1)),some (.ref (↥h+2)),none,none]) (h':=h++[.lst ((o7 H.ls row).map .str)]++[.lst ((fcL 0 (o7 H.ls row)).map clD)]++[.lst []]) (by simp![v8];rw[ln2])]
 have A3:=A.pf P;rw[seq (by simp![A3.fld8,M4,a3o A3];exact q1)];simp![ay (show 2<=SL by decide)]
end
theorem b7j(hw:h[w]? =some (.rol xs)):slD h lo hi (.ref w)=.ok (.ref ↥h) (h++[.lst (L6 xs lo hi)]):=by
 have:rdL h w=some xs:=by unfold rdL;rw[hw]
 simp only[slD,this,v8]
theorem a9i:∀{l:List Int} {i:Nat} {x:D},x∈t9 i (l.map .int)->∃(j:Nat) (z:Int),x=.tup [.int (j:Int),.int z]/\j<i+↥l
 |s::r,i,x,h=>by
  rw[map_cons,t9] at h;rw[length_cons];rcases aF.mp h with rfl|h
  · exact⟨i,s,rfl,by ac_nf⟩
  · obtain⟨j,z,a,b⟩:=a9i h;exact⟨j,z,a,by ac_nf⟩
theorem a2W{xs:List Int}{i:Nat}(hi:i<↥xs):∃z,ixD (h++[.lst (xs.map .int)]) (.ref ↥h) ⇑i=.ok (.int z) (h++[.lst (xs.map .int)]):=⟨xs[i],v5 b6 (by rw[ak,ai hi];rfl)⟩
section
variable{ct:CT}{F:Nat->Option Fn}{H:HL}
theorem a7j{α:Type}{g:List (Nat×Cell)}{p:Pat}{e:u5->AH->R D}{env0:u5}{h:AH}{c:CF}(hg:gOk g h=true)(f:α->D)(P:α->Prop):∀(l bP:List D),(∀x∈l,∃en y,D9 p x env0=some en/\e en h=.ok (f y) h/\P y)->↥bP+↥l<=SL->∃ys:List α,↥ys=↥l/\(∀y∈ys,P y)/\P0 g p (tst ct c .yes) e env0 l bP h=.ok (bP++ys.map f) h
 |[],bP,_,_=>⟨[],rfl,(λ_ h=>nomatch h),by rw[P0,ay hg];simp⟩
 |x::r,bP,hx,hl=>by
  rw[length_cons] at hl;obtain⟨en,y,h1,h2,h3⟩:=hx x aY;obtain⟨ys,a1,a2,a3⟩:=a7j (c:=c) hg f P r (bP++[f y]) (λz hz=>hx z (aE _ hz)) (by rw[aq,length_singleton];ac_nf);refine⟨y::ys,by rw[length_cons,length_cons,a1],λz hz=>?_,?_⟩
  · rcases aF.mp hz with rfl|hz
    · exact h3
    · exact a2 z hz
  · rw[P0,ay hg,h1];simp only;rw[a4U,b8,ay rfl,h2,b8,ay nofun,a3,aA];rfl
theorem b7n{k d m:Nat}(bO:F 202=some o6)(hF:F 216=some K5)(hr:h[n]? =some (.rol (ns.map .int)))(hd:h[d]? =some (.lst (ls.map ltD)))(h1:1<=↥ls)(hm:m<=50):
 ∃row:List Str,row.length=↥((ns.drop 6).take m)/\(∀x∈row,x∈ls.map (·.n))/\b4 ct F (k+2) 216 [.ref n,.int 6,.int (m:Int),.ref d] h=.ok (.ref ↥h) (h++[.lst (row.map .str)]):=by
 have sl:slD h (some 6) (some ((6+m:Nat):Int)) (.ref n)=.ok (.ref ↥h) (h++[.lst (((ns.drop 6).take m).map .int)]):=by rw[b7j hr,map_take,map_drop];exact fM (λl=>R.ok (D.ref ↥h) (h++[Cell.lst l])) (a5N 6 m (ns.map .int))
 have zl:↥((ns.drop 6).take m)<=50:=by rw[aM];ac_nf
 generalize (ns.drop 6).take m=zs at sl zl⊢;have hd:=b5 (g:=[.lst (zs.map .int)]) hd;have ll:biD .len (h++[.lst (zs.map .int)]) [.ref d]=.ok ⇑↥ls (h++[.lst (zs.map .int)]):=by rw[k7 hd,aa]
 obtain⟨row,a1,a2,a3⟩:=a7j (ct:=ct) (c:=b4 ct F (k+1)) (g:=[(↥h,.lst (zs.map .int))]) (p:=.tp (.nm 0>=>.nm 1>=>.nil)) (e:=ev ct (b4 ct F (k+1)) (.ix (.ix (.v 2) (.bin .mod (.call 202 (.v 1>=>.o (.v 0))) (.bi .len (.o (.v 2))))) (.i 0))) (env0:=[none,none,~~~d]) (h:=h++[.lst (zs.map .int)]) (by simp only[gOk,all_cons,all_nil,b6];simp) D.str (λx=>x∈ls.map (·.n)) (t9 0 (zs.map .int)) [] (λx hx=>by obtain⟨j,z,rfl,hj⟩:=a9i hx;obtain⟨M,hM⟩:=C2 (ct:=ct) (k:=k) (c:=z) (j:=(j:Int)) (h:=h++[.lst (zs.map .int)]) bO nofun;obtain⟨y,y1,y2⟩:=a2r ltD h1 M;have i1:=v5 hd y2;have i0:∀h,ixD h (ltD y) (.int 0)=.ok (.str y.n) h:=λh=>ix_tup (i:=0) rfl;refine⟨[j⁻¹,some (.int z),~~~d],y.n,rfl,?_,al.mpr ⟨y,y1,rfl⟩⟩;simp![hM,ll,op2,C1 ls.length h1,i1,i0]) (by rw[a3M,aa,length_nil];show _<=16777216;ac_nf)
 rw[a3M,aa] at a1;refine⟨row,a1,a2,?_⟩;rw[c9 hF rfl];simp only[K5];rw[seq (by simp![show op2 .add h (.int 6) ⇑m=.ok ⇑(6+m) h from rfl,sl];rfl)];have cm:=a2Y (ct:=ct) (c:=b4 ct F (k+1)) (fr:=[3]) (n:=2) (env:=[~~~n,some (.int 6),m⁻¹,~~~d,~~~↥h]) (it:=.enum (.v 4)) (h:=h++[.lst (zs.map .int)]) (by simp![T4,b6];rfl) a3;rw[J3,a0r,cm];exact a2j (((Pf.refl h).app _).app _) b6 ⋯ (E3 _)
theorem b3v{k m:Nat}(hF:F 218=some G0)(hm:bJ<=1000):∃z:Int,b4 ct F (k+1) 218 [.int (m:Int),.int (bJ:Int)] h=.ok (.int z) h:=by
 have d64:∀h,u6 h ⇑m (.int 64)=.ok ⇑(m/64) h:=λh=>J9 64 ∅ ∅;have m5:∀(a:Nat) h,p8 h ⇑a (.int 5)=.ok ⇑(a%5) h:=λa h=>C1 5 ∅;have m3:∀(a:Nat) h,p8 h ⇑a (.int 3)=.ok ⇑(a%3) h:=λa h=>C1 3 ∅;have a1:∀h,M8 h ⇑bJ (.int 1)=.ok ⇑(bJ+1) h:=λh=>by rw[bt];rfl
 have a7:∀h,M8 h ⇑bJ (.int 7)=.ok ⇑(bJ+7) h:=λh=>by rw[bt];rfl
 obtain⟨p,hp⟩:∃p:Int,∀h,a6B h (.int 10) (.int 20)=.ok (.int p) h:=⟨10^20,λh=>rfl⟩;have sb:∀(i j:Int) h,a3v h (.int i) (.int j)=.ok (.int (i-j)) h:=λ_ _ _=>rfl;obtain⟨z,hz⟩:=a2W (xs:=[((m%(bJ+1):Nat):Int),((m%(bJ+7):Nat):Int)-3,p+(m:Int),-p-(m:Int),((m%3:Nat):Int)]) (i:=m/64%5) (h:=h) (fJ _ ∅);rw[map_cons,map_cons,map_cons,map_cons,map_cons,map_nil] at hz;refine⟨z,?_⟩;rw[c9 hF rfl];simp only[G0];simp![op2,a1,a7,C1 (bJ+1) nofun,C1 (bJ+7) nofun,sb,hp,o0,m3,d64,m5,v8,hz];exact gc1 rfl
theorem a8y(ss:List Sg):D.flats (ss.map sgD)=true:=C6 λd hd=>by obtain⟨p,_,rfl⟩:=al.mp hd;rfl
theorem a6n{k i cell:Nat}(bO:F 202=some o6)(eO:F 218=some G0)(hF:F 219=some C9)(hi:h[i]? =some (.lst (fe.map feD)))(h1:1<=↥fe)(hm:bJ<=1000):
 ∃ss:List Sg,↥ss<=6/\(∀p∈ss,p.f∈fe.map (·.1))/\b4 ct F (k+2) 219 [.int (cell:Int),.ref i,.int (bJ:Int)] h=.ok (.ref ↥h) (h++[.lst (ss.map sgD)]):=by
 obtain⟨bG,g',q1,ss,e4,e5,e6,e7,rfl,q2,q3,q4,q5⟩:=D6 (g:=[]) (p:=.nm 4) (body:=exs ct (b4 ct F (k+1)) stB) (λj env g=>∃ss:List Sg,∃e4 e5 e6 e7,env=[cell⁻¹,~~~i,bJ⁻¹,~~~↥h,e4,e5,e6,e7]/\Pf h g/\g[↥h]? =some (.lst (ss.map sgD))/\↥ss=j/\∀p∈ss,p.f∈fe.map (·.1)) (λ_ _ _ _=>rfl) ((List.range (cell%6)).map λi=>.int ((0:Int)+(i:Nat))) 0 [cell⁻¹,~~~i,bJ⁻¹,~~~↥h,none,none,none,none] (h++[.lst []]) (λj x env g hx hP=>by
  obtain⟨ss,e4,e5,e6,e7,rfl,p1,p2,p3,p4⟩:=hP;obtain⟨hj,rfl⟩:=a1Z hx;have j6:j<6:=Nat.lt_trans hj (fJ _ ∅);rw[aB] at p3⊢;obtain⟨M,hM⟩:=C2 (ct:=ct) (k:=k) (c:=(cell:Int)) (j:=((j+300:Nat):Int)) (h:=g) bO nofun;have a300:op2 .add g ⇑j (.int 300)=.ok ⇑(j+300) g:=by rw[bt];rfl
  have dv:∀(b:Nat) (hb:0<b) (h2:b<1073741824) h,u6 h ⇑M ⇑b=.ok ⇑(M/b) h:=λb hb h2 h=>J9 b hb h2;have d7:∀h,u6 h ⇑M (.int 7)=.ok ⇑(M/7) h:=dv 7 ∅ ∅;have d11:∀h,u6 h ⇑M (.int 11)=.ok ⇑(M/11) h:=dv 11 ∅ ∅;have d13:∀h,u6 h ⇑M (.int 13)=.ok ⇑(M/13) h:=dv 13 ∅ ∅;have d2:∀h,u6 h ⇑M (.int 2)=.ok ⇑(M/2) h:=dv 2 ∅ ∅;have d5:∀h,u6 h ⇑M (.int 5)=.ok ⇑(M/5) h:=dv 5 ∅ ∅;have d3:∀h,u6 h ⇑M (.int 3)=.ok ⇑(M/3) h:=dv 3 ∅ ∅;have m2:∀(a:Nat) h,p8 h ⇑a (.int 2)=.ok ⇑(a%2) h:=λa h=>C1 2 ∅;have m7:∀(a:Nat) h,p8 h ⇑a (.int 7)=.ok ⇑(a%7) h:=λa h=>C1 7 ∅;have a1:∀h,M8 h ⇑bJ (.int 1)=.ok ⇑(bJ+1) h:=λh=>by rw[bt];rfl
  obtain⟨y1,hy1⟩:=b3v (ct:=ct) (k:=k) (m:=M/7) (bJ:=bJ) (h:=g) eO hm;obtain⟨z1,hz1⟩:=a2W (xs:=[((M/7%(bJ+1):Nat):Int),y1]) (i:=M%2) (h:=g) (fJ _ ∅);rw[map_cons,map_cons,map_nil] at hz1;have P2:=p1.app [.lst [.int ((M/7%(bJ+1):Nat):Int),.int y1]];have p2':=b5 (g:=[.lst [.int ((M/7%(bJ+1):Nat):Int),.int y1]]) p2;have s1:ex ct (b4 ct F (k+1)) (.set 6 (.ix (.lst (.bin .mod (.bin .div (.v 5) (.i 7)) (.bin .add (.v 2) (.i 1))>=>.o (.call 218 (.bin .div (.v 5) (.i 7)>=>.o (.v 2))))) (.bin .mod (.v 5) (.i 2)))) [cell⁻¹,~~~i,bJ⁻¹,~~~↥h,j⁻¹,M⁻¹,e6,e7] g=.ok (.nx [cell⁻¹,~~~i,bJ⁻¹,~~~↥h,j⁻¹,M⁻¹,some (.int z1),e7]) (g++[.lst [.int ((M/7%(bJ+1):Nat):Int),.int y1]]):=by simp![op2,d7,a1,C1 (bJ+1) nofun,hy1,m2,v8,hz1]
  generalize g++[Cell.lst [.int ((M/7%(bJ+1):Nat):Int),.int y1]]=g2 at P2 p2' s1;obtain⟨y2,hy2⟩:=b3v (ct:=ct) (k:=k) (m:=M/13) (bJ:=bJ) (h:=g2) eO hm;obtain⟨z2,hz2⟩:=a2W (xs:=[z1+((M/11%7:Nat):Int),y2]) (i:=M/2%2) (h:=g2) (fJ _ ∅);rw[map_cons,map_cons,map_nil] at hz2;have P3:=P2.app [.lst [.int (z1+((M/11%7:Nat):Int)),.int y2]];have p3':=b5 (g:=[.lst [.int (z1+((M/11%7:Nat):Int)),.int y2]]) p2';have s2:ex ct (b4 ct F (k+1)) (.set 7 (.ix (.lst (.bin .add (.v 6) (.bin .mod (.bin .div (.v 5) (.i 11)) (.i 7))>=>.o (.call 218 (.bin .div (.v 5) (.i 13)>=>.o (.v 2))))) (.bin .mod (.bin .div (.v 5) (.i 2)) (.i 2)))) [cell⁻¹,~~~i,bJ⁻¹,~~~↥h,j⁻¹,M⁻¹,some (.int z1),e7] g2=.ok (.nx [cell⁻¹,~~~i,bJ⁻¹,~~~↥h,j⁻¹,M⁻¹,some (.int z1),some (.int z2)]) (g2++[.lst [.int (z1+((M/11%7:Nat):Int)),.int y2]]):=by simp![op2,d11,m7,o0,d13,hy2,d2,m2,v8,hz2]
  generalize g2++[Cell.lst [.int (z1+((M/11%7:Nat):Int)),.int y2]]=g3 at P3 p3' s2;obtain⟨y,y1,y2⟩:=a2r feD h1 (M/5);have hi3:=P3.at hi;have fx:=v5 hi3 y2;have f0:∀h,ixD h (feD y) (.int 0)=.ok (.str y.1) h:=λh=>ix_tup (i:=0) rfl;have fl:biD .len g3 [.ref i]=.ok ⇑↥fe g3:=by rw[k7 hi3,aa]
  have eq:G7 g3 ⇑(M/3%2) (.int 0)=.ok (.bl (decide (((M/3%2:Nat):Int)=0))) g3:=rfl;have ap:=K1 (d:=sgD ⟨y.1,z1,z2,decide (((M/3%2:Nat):Int)=0)⟩) p3' (by rw[aa];ac_nf);refine⟨_,[cell⁻¹,~~~i,bJ⁻¹,~~~↥h,j⁻¹,M⁻¹,some (.int z1),some (.int z2)],_,rfl,?_,ss++[⟨y.1,z1,z2,decide (((M/3%2:Nat):Int)=0)⟩],_,_,_,_,rfl,P3.set (aj _),B0 p3',by rw[aq,length_singleton,p3],λp hp=>?_⟩
  · show exs ct (b4 ct F (k+1)) stB [cell⁻¹,~~~i,bJ⁻¹,~~~↥h,j⁻¹,e5,e6,e7] g=_;unfold stB;rw[seq (by simp![a300,hM];rfl),seq s1,seq s2];rw[ao];simp![E2 p3',op2,d5,fl,C1 fe.length h1,fx,f0,d3,m2,eq,ay (show 4<=SL by decide),show D.tup [.str y.1,.int z1,.int z2,.bl (decide (((M/3%2:Nat):Int)=0))]=sgD ⟨y.1,z1,z2,decide (((M/3%2:Nat):Int)=0)⟩ from rfl,ap]
  · rcases aL.mp hp with hp|hp
    · exact p4 p hp
    · rw[aO.mp hp];exact al.mpr ⟨y,y1,rfl⟩) ⟨[],none,none,none,none,rfl,(Pf.refl h).app _,b6,rfl,λ_ h=>nomatch h⟩
 refine⟨ss,by rw[q4,aB,aa,aK];exact Nat.le_of_lt (fJ _ ∅),q5,?_⟩
 have m6:p8 (h++[.lst []]) ⇑cell (.int 6)=.ok ⇑(cell%6) (h++[.lst []]):=C1 6 ∅;have l6:cell%6<6:=fJ _ ∅;rw[c9 hF rfl,C9,seq (by simp![v8];rfl),seq (by simp![op2,m6,a0V (h:=h++[.lst []]) (m:=cell%6) nofun];exact q1)];simp![];exact a2j q2 q3 (aj _) (a8y _)
end
end EV
namespace CUT
def a0u(n:Nat)(G:Nat->Bool):List Nat:=((List.range n).filter λi=>decide (i+1=n)||G i).map (· +1)
def after(n:Nat)(G:Nat->Bool)(f:Nat):List Nat:=(a0u n G).filter λe=>decide (f<e)
def next(n:Nat)(G:Nat->Bool)(wd:Nat->Nat->Int)(lim:Int)(f:Nat):Nat:=((after n G f).reverse.find? λe=>decide (wd f e<=lim)).getD ((after n G f).headD 0)
variable{n f e:Nat}{G:Nat->Bool}{wd:Nat->Nat->Int}{lim:Int}
theorem a0H:e∈after n G f↔f<e/\e<=n/\(e=n∨G (e-1)=true):=by
 unfold after a0u;simp only[bh,al,aN,bw,bp];constructor
 · rintro⟨⟨i,⟨h1,h2⟩,rfl⟩,h3⟩;refine⟨h3,h1,?_⟩
   simpa using h2
 · rintro⟨h1,h2,h3⟩;refine⟨⟨e-1,⟨by ac_nf,?_⟩,by ac_nf⟩,h1⟩;rw[show e-1+1=e by ac_nf];exact h3
theorem a1t:(after n G f).Pairwise (· < ·):=by unfold after a0u;refine List.Pairwise.filter _ (List.pairwise_map.mpr ((List.Pairwise.filter _ List.pairwise_lt_range).imp λh=>by ac_nf))
theorem a3Z(h:f<n):after n G f≠[]:=λq=>by
 have:=a0H (n:=n) (G:=G) (f:=f) (e:=n)|>.mpr ⟨h,aj _,.inl rfl⟩
 rw[q] at this;cases this
theorem a8L(h:f<n):f<next n G wd lim f/\next n G wd lim f<=n/\(next n G wd lim f<n->G (next n G wd lim f-1)=true)/\(lim<wd f (next n G wd lim f)->∀i,f<=i->i+1<next n G wd lim f->G i=false):=by
 have ne:=a3Z (G:=G) h;have sr:=a1t (n:=n) (G:=G) (f:=f);have ma:=λe=>a0H (n:=n) (G:=G) (f:=f) (e:=e);unfold next;generalize after n G f=es at ne sr ma⊢
 match es,ne with
 | x::xs,_=>
  have hx:=(ma x).mp aY;cases q:(x::xs).reverse.find? λe=>decide (wd f e<=lim) with
  |some e=>
   have he:=(ma e).mp (mem_reverse.mp (gT q));have hw:wd f e<=lim:=by simpa using List.find?_some q
   exact⟨he.1,he.2.1,λhl=>he.2.2.resolve_left (by show e≠n;have:e<n:=hl;ac_nf),λhl=>absurd hw (Int.not_le.mpr hl)⟩
  | none=>
   refine⟨hx.1,hx.2.1,λhl=>hx.2.2.resolve_left (by show x≠n;have:x<n:=hl;ac_nf),λ_ i h1 h2=>?_⟩;cases g:G i with
   |false=>rfl
   |true=>
    have h2:i+1<x:=h2;have:=(ma (i+1)).mpr ⟨by ac_nf,by ac_nf,.inr g⟩;rcases aF.mp this with r|r
    · ac_nf
    · have:=(List.pairwise_cons.mp sr).1 _ r;ac_nf
theorem b1R(h:f<n)(hw:∀e,wd f e<=lim):next n G wd lim f=n:=by
 have ne:=a3Z (G:=G) h;have sr:=a1t (n:=n) (G:=G) (f:=f);have ma:=λe=>a0H (n:=n) (G:=G) (f:=f) (e:=e);unfold next;generalize after n G f=es at ne sr ma⊢;have hn:=(ma n).mpr ⟨h,aj _,.inl rfl⟩
 cases q:es.reverse with
 |nil=>exact absurd (List.reverse_eq_nil_iff.mp q) ne
 |cons y ys=>
  have hy:y∈es:=mem_reverse.mp (q▸aY);rw[List.find?_cons_of_pos (by simpa using hw y)];show y=n;have s2:es.reverse.Pairwise λa b=>b<a:=List.pairwise_reverse.mpr sr;rw[q] at s2;have hn2:n∈y::ys:=q▸mem_reverse.mpr hn;rcases aF.mp hn2 with r|r
  · exact r.symm
  · have:=(List.pairwise_cons.mp s2).1 _ r;have:=((ma y).mp hy).2.1;ac_nf
def cut(n:Nat)(G:Nat->Bool)(wd:Nat->Nat->Int)(lim:Int):Nat->Nat->List (Nat×Nat)
 |0,_=>[]
 |k+1,f=>if f<n then(f,next n G wd lim f)::cut n G wd lim k (next n G wd lim f) else[]
def chn:List (Nat×Nat)->Nat->Nat->Prop
 |[],a,n=>a=n
 |p::r,a,n=>p.1=a/\chn r p.2 n
theorem a8k:∀(k f:Nat),n<=f+k->f<=n->(∀p∈cut n G wd lim k f,p.1<p.2/\p.2<=n/\(p.2<n->G (p.2-1)=true)/\(lim<wd p.1 p.2->∀i,p.1<=i->i+1<p.2->G i=false))/\chn (cut n G wd lim k f) f n
 |0,f,h1,h2=>⟨λp hp=>(not_mem_nil hp).elim,by show f=n;ac_nf⟩
 |k+1,f,h1,h2=>by
  unfold cut
  by_cases hf:f<n
  · rw[ay hf];have nx:=a8L (n:=n) (G:=G) (wd:=wd) (lim:=lim) hf;obtain⟨c1,c2⟩:=a8k k (next n G wd lim f) nofun nx.2.1;refine⟨λp hp=>?_,rfl,c2⟩;rcases aF.mp hp with rfl|hp
    · exact nx
    · exact c1 p hp
  · rw[az hf];exact⟨λp hp=>(not_mem_nil hp).elim,by show f=n;ac_nf⟩
theorem b6f{k:Nat}(h:0<n)(hw:∀e,wd 0 e<=lim)(hk:0<k):cut n G wd lim k 0=[(0,n)]:=by
 obtain⟨k,rfl⟩:∃j,k=j+1:=⟨k-1,by ac_nf⟩;unfold cut;rw[ay h,b1R h hw];cases k with
 |zero=>rfl
 |succ k=>unfold cut;rw[az (aQ _)]
theorem b0p{m:Nat}:a0u (m+1) G=((List.range m).filter G).map (· +1)++[m+1]:=by
 unfold a0u;rw[List.range_succ,List.filter_append,ao];congr 1
 · congr 1;refine List.filter_congr λi hi=>?_;have:=aN.mp hi;rw[bx nofun,hV]
 · simp
end CUT
namespace EV
open PySem L2 L2T
def wOf(sh:List (Str×Nat))(n:Str):Int:=((sh.find? λp=>decide (p.1=n)).map λp=>(p.2:Int)).getD 0
def shK(sh:List (Str×Nat)):List (D×D):=kd (sh.map λp=>(p.1,.int (p.2:Int)))
theorem b6G{n:Str}:∀{sh:List (Str×Nat)},n∈sh.map (·.1)->n8 (shK sh) (.str n)=some (.int (wOf sh n))
 |[],h=>absurd h ⋯
 | p ::r,h=>by
  by_cases e:p.1=n
  · have e1:n8 (shK (p::r)) (.str n)=some (.int (p.2:Int)):=by unfold n8 shK kd;rw[map_cons,map_cons,List.find?_cons];simp[e]
    have e2:wOf (p::r) n=(p.2:Int):=by unfold wOf;rw[List.find?_cons];simp[e]
    rw[e1,e2]
  · have ih:=b6G (n:=n) (sh:=r) (by
     rw[map_cons] at h;rcases aF.mp h with h|h
     · exact absurd h.symm e
     · exact h)
    have e1:n8 (shK (p::r)) (.str n)=n8 (shK r) (.str n):=by have e':¬(D.str p.1=D.str n):=λz=>e (by injection z);unfold n8 shK kd;rw[map_cons,map_cons,List.find?_cons];simp only[e',fK]
    have e2:wOf (p::r) n=wOf r n:=by unfold wOf;rw[List.find?_cons];simp only[e,fK]
    rw[e1,e2,ih]
variable{h:AH}{n:Nat}{x:Str}{sh:List (Str×Nat)}
theorem c2F(e:h[n]? =some (.dict (shK sh)))(hx:x∈sh.map (·.1)):ixD h (.ref n) (.str x)=.ok (.int (wOf sh x)) h:=by have k:D8 (.str x) (shK sh)=true:=X3 _ _;simp only[ixD,e,k,fV,b6G hx]
noncomputable def wsm(sh:List (Str×Nat))(mk:List Str)(cs:List Cl):Int:=((cs.filter λc=>!decide (c.1∈mk)).map λc=>wOf sh c.1).sum
theorem a6L:∀l:List Int,a4E (l.map D.int)=some l
 |[]=>rfl
 |i::l=>by rw[map_cons];unfold a4E;rw[a6L l];rfl
theorem b4n{l:List Int}:biD .sum (h++[.lst (l.map D.int)]) [.ref ↥h]=.ok (.int l.sum) (h++[.lst (l.map D.int)]):=by show bi1 .sum (h++[.lst (l.map D.int)]) (.ref ↥h)=_;unfold bi1;simp only[b6];unfold biL;simp only[a6L]
def cNm:D->Str
 |.tup (.str n::_)=>n
 |_=>""
variable{w:Nat}
section
variable{ct:CT}{F:Nat->Option Fn}
theorem b6Q{k:Nat}{H:HL}{cs:List Cl}(hF:F 60=some X9)(A:HallAt h n (L0 H))(hw:h[w]? =some (.lst (cs.map clD)))(hc:∀c∈cs,c.1∈H.sh.map (·.1))(hl:↥cs<=100000):b4 ct F (k+1) 60 [.ref n,.ref w] h=.ok (.int (wsm H.sh (H.mr.map (·.n)) cs)) h:=by
 have c1:h[n+1]? =some (.dict (shK H.sh)):=A.c1;have k2:(hM H.mr).map (·.1)=H.mr.map (·.n):=a2g _ _ _;rw[c9 hF rfl];simp only[X9];have cm:ev ct (b4 ct F k) (.comp (.nm 0) (.seq (.v 1)) 1 [0] (.cmp .notin (.ix (.v 0) (.i 0)) (.fld (.v 1) "marks")) (.ix (.fld (.v 1) "shapes") (.ix (.v 0) (.i 0)))) [~~~n,~~~w] h=.ok (.ref ↥h) (h++[.lst (((cs.filter λc=>!decide (c.1∈H.mr.map (·.n))).map λc=>wOf H.sh c.1).map .int)]):=by
  rw [A9 (l:=cs.map clD) (g:=[(w,.lst (cs.map clD))]) (h1:=h) (by simp![M4,hw]) (by simp[gOk,hw]) (λx=>!decide (cNm x∈H.mr.map (·.n))) (λx=>.int (wOf H.sh (cNm x))) (λx=>[some x,~~~n]) (λx hx=>by
   obtain⟨c,eM,rfl⟩:=al.mp hx;refine⟨rfl,?_,λ_=>?_⟩
   · unfold clD;simp![a1U,A.fld2,op2,a7J A.c2];rw[show(L0 H).marks=hM H.mr from rfl,k2];rfl
   · unfold clD;simp![a1U,A.fld1,c2F c1 (hc c eM)];rfl) (by rw[aa];show _<=16777216;ac_nf)]
  congr 3;rw[filter_map,aI,aI];rfl
 simp![cm,b4n];exact gc1 rfl
theorem b6P{mk:List Str}{cs:List Cl}:0<=wsm sh mk cs:=by
 unfold wsm;generalize cs.filter _=l
 induction l with
 |nil=>exact Int.le_refl _
 | cons c l ih=>
  rw[map_cons,sum_cons];have:0<=wOf sh c.1:=by
   unfold wOf;cases sh.find? λp=>decide (p.1=c.1) with
   |none=>exact Int.le_refl _
   |some p=>exact Int.natCast_nonneg _
  ac_nf
end
def shC(H:HL)(ss:List Sg)(row:List Str):List Cl:=(shF H ss H.ru (fcL 0 (o7 H.ls row)) []).1
variable{f:Nat}
section
variable{H:HL}{ss:List Sg}{row:List Str}
theorem a6U{l:List Str}{i:Nat}(h:i<↥l):l.getD i x∈l:=by rw[bv,ai h];exact br h
theorem b5N(K:HLok H)(hx:∀x∈row,x∈H.ls.map (·.n)):∀f∈o7 H.ls row,f∈H.sh.map (·.1):=λf hf=>by
 obtain⟨k,hk,rfl⟩:=al.mp hf;have hk:=aN.mp hk;have o:=K.lso _ (b2a (hx (row.getD k "") (a6U hk)));have few:=o.few;have at':∀i,i<(U9 H.ls (row.getD k "")).fs.length->(U9 H.ls (row.getD k "")).fs.getD i ""∈H.sh.map (·.1):=λi hi=>o.fs _ (a6U hi);unfold a3J a5I;cases e:jgB (B9 H.ls row) k with
 |true=>
  have:=b6N o (a8Q hk e);split
  · exact at' 2 nofun
  · exact at' 1 nofun
 |false=>
  rw[Bool.and_false,az ∅,az ∅];split
  · exact at' _ nofun
  · exact at' 0 nofun
def Nin(H:HL)(cs:List Cl):Prop:=∀c∈cs,c.1∈H.sh.map (·.1)
theorem b0Q{o:List Str}{cs:List Cl}(h1:1<=↥o)(h:∀i∈o,i∈H.sh.map (·.1)):Nin H (S8 o cs):=λc hc=>by
 rcases aF.mp hc with rfl|hc
 · cases o with
   |nil=>cases h1
   |cons a t=>exact h a (.head _)
 · obtain⟨s,hs,rfl⟩:=al.mp hc;exact h s (mem_of_mem_drop hs)
theorem a8f{r:Ru}{cells:List Cl}(ro:RuOk H.sh H.cs H.fe r)(hc:Nin H cells):∀(m i:Nat) (ps:List Cl) (n:Nat),Nin H ps->Nin H (dnL H ss r cells m i ps n).1
 |0,_,_,_,h=>h
 |m+1,i,ps,n,h=>by
  rw[dnL];split
  · exact h
  · rename_i c e;split
    · exact a8f ro hc m _ _ _ λx hx=>(aL.mp hx).elim (h x) (b0Q ro.o3.1 ro.o x)
    · exact a8f ro hc m _ _ _ λx hx=>(aL.mp hx).elim (h x) λz=>by rw[aO.mp z];exact hc c (aH e)
theorem b0Y(K:HLok H):∀(rs:List Ru) (cells:List Cl) (ns:List Nat),(∀r∈rs,r∈H.ru)->Nin H cells->HdL cells->↥cells*3^↥rs<=100000->Nin H (shF H ss rs cells ns).1/\(shF H ss rs cells ns).1.length<=100000
 |[],_,_,_,h,_,hl=>⟨h,b1x hl⟩
 |r::t,cells,ns,hr,h,ho,hl=>by have ro:=K.ruo r (hr r (.head _));obtain⟨a1,a2,a3⟩:=a7c (H:=H) (ss:=ss) ro.c4.1 ro.o3.2 ho;rw[length_cons] at hl;exact b0Y K t _ _ (λx hx=>hr x (.tail _ hx)) (a8f ro h _ _ _ _ (λ_ h=>nomatch h)) a2 (a6w hl a3)
theorem b3g:∀(fs:List Str) (i:Nat),(∀f∈fs,f∈H.sh.map (·.1))->Nin H (fcL i fs)
 |[],_,_=>λ_ h=>nomatch h
 |s::r,i,h=>λc hc=>by
  rcases aF.mp hc with rfl|hc
  · exact h s (.head _)
  · exact b3g r (i+1) (λf hf=>h f (.tail _ hf)) c hc
theorem a8x(K:HLok H)(hx:∀x∈row,x∈H.ls.map (·.n))(hp:row.length*3^↥H.ru<=100000):Nin H (shC H ss row)/\↥(shC H ss row)<=100000:=
 b0Y K H.ru _ [] (λ_ h=>h) (b3g _ _ (b5N K hx)) (b6I _ _) (by
  have fl:↥(o7 H.ls row)=row.length:=by unfold o7;rw[aa,aK]
  rw[(a8a _ _).1,fl];exact hp)
theorem b0C{sh:List (Str×Nat)}{mk:List Str}(hs:∀p∈sh,p.2<99999):∀cs:List Cl,wsm sh mk cs<=99999*(↥cs:Int)
 |[]=>Int.le_refl _
 | c::cs=>by
  have ih:=b0C (mk:=mk) hs cs;have w:wOf sh c.1<=99999:=by
   unfold wOf;cases e:sh.find? λp=>decide (p.1=c.1) with
   |none=>show(0:Int)<=99999;ac_nf
   |some p=>
    have:=hs p (gT e);show(p.2:Int)<=99999;ac_nf
  unfold wsm at ih⊢;rw[length_cons,List.filter_cons];split
  · rw[map_cons,sum_cons];ac_nf
  · ac_nf
def mvS(ss:List Sg)(f:Nat):List Sg:=ss.map λs=>⟨s.f,s.a-(f:Int),s.b-(f:Int),s.o⟩
def wdR(H:HL)(ss:List Sg)(row:List Str)(f e:Nat):Int:=wsm H.sh (H.mr.map (·.n)) (shC H (mvS ss f) ((row.drop f).take (e-f)))
abbrev gpR(H:HL)(row:List Str)(i:Nat):Bool:=decide (row.getD i "clear"∈H.gp)
abbrev a1M(H:HL)(ss:List Sg)(row:List Str)(lim:Int)(k f:Nat):List (Nat×Nat):=CUT.cut row.length (gpR H row) (wdR H ss row) lim k f
theorem a4Z{e:Nat}:(∀x∈(row.drop f).take e,x∈row)/\↥((row.drop f).take e)<=row.length:=⟨λx hx=>mem_of_mem_drop (List.mem_of_mem_take hx),by rw[aM,bz];ac_nf⟩
theorem b6R(K:HLok H)(hx:∀x∈row,x∈H.ls.map (·.n))(hp:row.length*3^↥H.ru<=100000)(f e:Nat):0<=wdR H ss row f e/\wdR H ss row f e<=100000000000000000000:=by obtain⟨s1,s2⟩:=a4Z (row:=row) (f:=f) (e:=e-f);have a:=(a8x (ss:=mvS ss f) K (λx h=>hx x (s1 x h)) (aR (gm _ s2) hp)).2;have b:=b0C (mk:=H.mr.map (·.n)) (λp h=>(K.sh.ok p h).2) (shC H (mvS ss f) ((row.drop f).take (e-f)));refine⟨b6P,?_⟩;unfold wdR;ac_nf
end
noncomputable def mvD(f:Nat)(x:D):D:=match x with
 |.tup [a,.int b,.int c,d]=>.tup [a,.int (b-(f:Int)),.int (c-(f:Int)),d]
 |_=>.non
theorem b1T(ss:List Sg)(f:Nat):(ss.map sgD).map (mvD f)=(mvS ss f).map sgD:=by unfold mvS;rw[aI,aI];rfl
theorem b8Q(xs:List D):L6 xs none (some (-1))=xs.take (↥xs-1):=by unfold L6 HT.sIx;simp only;rw[ay ∅,drop_zero,Nat.sub_zero];congr 1;ac_nf
theorem b3A(j:Nat)(xs:List D)(h:j<=↥xs):L6 xs none (some (j:Int))=xs.take j:=by unfold L6 HT.sIx;simp only;rw[az nofun,drop_zero,Nat.sub_zero,Int.toNat_natCast,bc h]
theorem b5g(l:List Nat):D.flats (nsD l)=true:=C6 λd hd=>by obtain⟨p,_,rfl⟩:=al.mp hd;rfl
def egB(gp:List Str)(x:D):Bool:=match x with
 |.tup [_,.str s]=>decide (s∈gp)
 |_=>false
def egF(x:D):D:=match x with
 |.tup [.int j,_]=>.int (j+1)
 |_=>.non
theorem b2v{gp:List Str}(e:h[n]? =some (.lst (gp.map .str))):op2 .isin h (.str x) (.ref n)=.ok (.bl (decide (x∈gp))) h/\op2 .notin h (.str x) (.ref n)=.ok (.bl (!decide (x∈gp))) h:=by simp only[op2,O4,e];rw[ay (by rw[W4];rfl),ay (by rw[W4];rfl),a1D];simp
section
variable{ct:CT}{F:Nat->Option Fn}{H:HL}{ss:List Sg}{row:List Str}
theorem b5J{k s:Nat}(hF:F 65=some K8)(hs:h[s]? =some (.lst (ss.map sgD)))(hl:↥ss<=6):b4 ct F (k+1) 65 [.ref s,.int (f:Int)] h=.ok (.ref ↥h) (h++[.lst ((mvS ss f).map sgD)]):=by
 have cm:ev ct (b4 ct F k) (.comp (.nm 0) (.seq (.v 0)) 1 [1] .yes (.tup (.ix (.v 0) (.i 0)>=>.bin .sub (.ix (.v 0) (.i 1)) (.v 1)>=>.bin .sub (.ix (.v 0) (.i 2)) (.v 1)>=>.o (.ix (.v 0) (.i 3))))) [~~~s,f⁻¹] h=.ok (.ref ↥h) (h++[.lst ((mvS ss f).map sgD)]):=by
  rw[o9 (l:=ss.map sgD) (g:=[(s,.lst (ss.map sgD))]) (h1:=h) (by simp![M4,hs]) (by simp only[gOk,all_cons,all_nil,hs];simp) (mvD f) (λx=>[some x,f⁻¹]) (λx hx=>by obtain⟨p,_,rfl⟩:=al.mp hx;refine⟨rfl,?_⟩;simp![a4r.1,a4r.2.1,a4r.2.2.1,a4r.2.2.2,ay (show 4<=SL by decide),show∀i j:Int,op2 .sub h (.int i) (.int j)=.ok (.int (i-j)) h from λ_ _=>rfl];rfl) (by rw[aa];show _<=16777216;ac_nf),b1T]
 rw[c9 hF rfl];simp only[K8];simp![cm];exact gc2 b6 (aj _) (a8y _)
theorem b5W{k l:Nat}(hF:F 62=some R5)(A:HallAt h n (L0 H))(hr:h[l]? =some (.lst (row.map .str)))(hl:row.length<=63)(h0:0<row.length):b4 ct F (k+1) 62 [.ref n,.ref l] h=.ok (.ref ↥h) (h++[.lst (nsD (CUT.a0u row.length (gpR H row)))]):=by
 obtain⟨m,hm⟩:∃m,row.length=m+1:=⟨row.length-1,by ac_nf⟩;have s1:slD h none (some (-1)) (.ref l)=.ok (.ref ↥h) (h++[.lst ((row.take m).map .str)]):=by rw[F0 hr,b8Q,aa,hm,map_take];rfl
 have tl:↥(row.take m)=m:=by rw[aM];ac_nf
 have P1:=(Pf.refl h).app [.lst ((row.take m).map .str)];have n1:(h++[Cell.lst ((row.take m).map .str)])[↥h]? =some (.lst ((row.take m).map .str)):=b6;have l1:↥(h++[Cell.lst ((row.take m).map .str)])=↥h+1:=by simp
 generalize h++[Cell.lst ((row.take m).map .str)]=h1 at s1 P1 n1 l1;have A1:=A.pf P1;have cm:ev ct (b4 ct F k) (.comp (.tp (.nm 0>=>.nm 1>=>.nil)) (.enum (.sl (.v 1) .no (.at (.neg (.i 1))))) 2 [0] (.cmp .isin (.v 1) (.fld (.v 2) "gaps")) (.bin .add (.v 0) (.i 1))) [~~~n,~~~l,none] h=.ok (.ref ↥h1) (h1++[.lst (nsD (((List.range m).filter (gpR H row)).map (· +1)))]):=by
  rw [A9 (l:=t9 0 ((row.take m).map .str)) (g:=[(↥h,.lst ((row.take m).map .str))]) (h1:=h1) (by simp![show(-(1:Int))= -1 from rfl,s1,T4,n1]) (by simp only[gOk,all_cons,all_nil,n1];simp) (egB H.gp) egF (λx=>match x with
   |.tup [a,b]=>[some a,some b,~~~n]
   |_=>[]) (λx hx=>by
   obtain⟨j,s,rfl⟩:=a8d hx;refine⟨rfl,?_,λ_=>?_⟩
   · have:=(b2v (x:=s) (h:=h1) (n:=n+5) A1.c5).1;simp![A1.fld5,this];rfl
   · simp![];rfl) (by rw[a3M,aa,tl];show _<=16777216;ac_nf)]
  congr 3;rw[a3L,tl,filter_map,aI];unfold nsD;rw[aI];have e:(List.range m).filter (egB H.gp∘λi:Nat=>D.tup [.int (i:Int),.str ((row.take m).getD i "clear")])=(List.range m).filter (gpR H row):=List.filter_congr λi hi=>by have hi:=aN.mp hi;show decide ((row.take m).getD i "clear"∈H.gp)=decide (row.getD i "clear"∈H.gp);rw[bv,bv,bA hi]
  rw[e];rfl
 have ll:∀t,biD .len (h1++t) [.ref l]=.ok ⇑(m+1) (h1++t):=λt=>by rw[k7 (b5 (P1.at hr)),aa,hm]
 have fl:↥(nsD (((List.range m).filter (gpR H row)).map (· +1)))<=m:=by rw[aa,aa];exact aR (bu _ _) (by rw[aK];exact aj _)
 rw[hm,CUT.b0p];rw[show nsD (((List.range m).filter (gpR H row)).map (· +1)++[m+1])=nsD (((List.range m).filter (gpR H row)).map (· +1))++[.int ((m+1:Nat):Int)] by unfold nsD;rw[ao];rfl];have nf:=b5g (((List.range m).filter (gpR H row)).map (· +1)++[m+1]);rw[show nsD (((List.range m).filter (gpR H row)).map (· +1)++[m+1])=nsD (((List.range m).filter (gpR H row)).map (· +1))++[.int ((m+1:Nat):Int)] by unfold nsD;rw[ao];rfl] at nf;generalize nsD (((List.range m).filter (gpR H row)).map (· +1))=xs at cm fl nf⊢;have P2:=P1.app [.lst xs];have n2:(h1++[Cell.lst xs])[↥h1]? =some (.lst xs):=b6;have ll:=ll [.lst xs];generalize h1++[Cell.lst xs]=h2 at cm P2 n2 ll;have ad:op2 .add (h2++[.lst [.int ((m+1:Nat):Int)]]) (.ref ↥h1) (.ref ↥h2)=.ok (.ref ↥(h2++[Cell.lst [.int ((m+1:Nat):Int)]])) (h2++[.lst [.int ((m+1:Nat):Int)]]++[.lst (xs++[.int ((m+1:Nat):Int)])]):=by simp only[op2,M8,b5 n2,b6];rw[ay (by show _+1<=16777216;ac_nf)];rfl
 rw[c9 hF rfl];simp only[R5];rw[seq (by simp![cm];rfl)];simp![ll,v8,ad];exact a2j ((P2.app _).app _) b6 (by have:=P2.len;simp;ac_nf) nf
end
structure CF9(F:Nat->Option Fn):Prop where
 f33:F 33=some D0
 f34:F 34=some T3
 f35:F 35=some E4
 f36:F 36=some F7
 f37:F 37=some J6
 f48:F 48=some a1J
 f49:F 49=some K4
 f60:F 60=some X9
 f61:F 61=some a1j
 f62:F 62=some R5
 f63:F 63=some a1f
 f64:F 64=some Y4
 f65:F 65=some K8
structure Rw(H:HL)(h:AH)(n l s:Nat)(row:List Str)(ss:List Sg):Prop where
 K:HLok H
 A:HallAt h n (L0 H)
 r:h[l]? =some (.lst (row.map .str))
 x:∀x∈row,x∈H.ls.map (·.n)
 s:h[s]? =some (.lst (ss.map sgD))
 i:∀p∈ss,p.f∈H.fe.map (·.1)
 sl:↥ss<=6
 rl:row.length<=63
 p:row.length*3^↥H.ru<=100000
variable{g:AH}{row:List Str}{ss:List Sg}
theorem Rw.pf{H:HL}{l s:Nat}(R:Rw H h n l s row ss)(P:Pf h g):Rw H g n l s row ss:=⟨R.K,R.A.pf P,P.at R.r,R.x,P.at R.s,R.i,R.sl,R.rl,R.p⟩
theorem b6C{P:Str->Prop}(h:∀p∈ss,P p.f):∀p∈mvS ss f,P p.f:=λp hp=>by obtain⟨q,hq,rfl⟩:=al.mp hp;exact h q hq
def c2P(o:Option Nat)(x:Out)(h:AH):R Out:=match o with
 |some e=>.ok (.rt ⇑e) h
 |none=>.ok x h
variable{lim:Int}
section
variable{ct:CT}{F:Nat->Option Fn}{H:HL}{l s:Nat}(W:PF F)(Q:DF F)(C:CF9 F)
include W Q C
theorem b0F{k:Nat}(R:Rw H h n l s row ss):∃g w c,b4 ct F (k+7) 48 [.ref n,.ref l,.ref s] h=.ok (.tup [.ref w,.ref c]) g/\Pf h g/\b4 ct F (k+7) 60 [.ref n,.ref w] g=.ok (.int (wsm H.sh (H.mr.map (·.n)) (shC H ss row))) g:=by obtain⟨g,w,c,q1,q2,q3,-⟩:=a9G (ct:=ct) (k:=k) W Q C.f33 C.f34 C.f35 C.f36 C.f37 C.f48 C.f49 R.K R.A R.r R.x R.rl R.s R.i R.p;obtain⟨a,b⟩:=a8x (ss:=ss) R.K R.x R.p;exact⟨g,w,c,q1,q2,b6Q (ct:=ct) (k:=k+6) (cs:=shC H ss row) C.f60 (R.A.pf q2) q3 a b⟩
theorem c0u{k e:Nat}(R:Rw H h n l s row ss)(hf:f<e)(he:e<=row.length):b4 ct F (k+8) 64 [.ref n,.ref l,.ref s,.int (f:Int),.int (e:Int)] h=.ok (.int (wdR H ss row f e)) h:=by
 have s1:slD h (some (f:Int)) (some (e:Int)) (.ref l)=.ok (.ref ↥h) (h++[.lst (((row.drop f).take (e-f)).map .str)]):=by rw[F0 R.r,N2 f e _ nofun (by rw[aa];exact he),map_take,map_drop]
 obtain⟨z1,z2⟩:=a4Z (row:=row) (f:=f) (e:=e-f);have P1:=(Pf.refl h).app [.lst (((row.drop f).take (e-f)).map .str)];have n1:(h++[Cell.lst (((row.drop f).take (e-f)).map .str)])[↥h]? =some (.lst (((row.drop f).take (e-f)).map .str)):=b6;generalize h++[Cell.lst (((row.drop f).take (e-f)).map .str)]=h1 at s1 P1 n1;have s2:=b5J (ct:=ct) (k:=k+6) (f:=f) C.f65 (P1.at R.s) R.sl;have P2:=P1.app [.lst ((mvS ss f).map sgD)];have n2:(h1++[Cell.lst ((mvS ss f).map sgD)])[↥h1]? =some (.lst ((mvS ss f).map sgD)):=b6;have n1':=b5 (g:=[Cell.lst ((mvS ss f).map sgD)]) n1;generalize h1++[Cell.lst ((mvS ss f).map sgD)]=h2 at s2 P2 n2 n1';obtain⟨g,w,c,q1,q2,q3⟩:=b0F (ct:=ct) (k:=k) W Q C (R:=(⟨R.K,R.A.pf P2,n1',λx hx=>R.x x (z1 x hx),n2,b6C R.i,by unfold mvS;rw[aa];exact R.sl,aR z2 R.rl,aR (gm _ z2) R.p⟩:Rw H h2 n ↥h ↥h1 ((row.drop f).take (e-f)) (mvS ss f)));have t0:∀h,ixD h (.tup [.ref w,.ref c]) (.int 0)=.ok (.ref w) h:=λh=>ix_tup (i:=0) rfl;rw[c9 C.f64 rfl];simp only[Y4];simp![s1,s2,q1,t0,q3];exact b0j (P2.trans q2) rfl
theorem a8O{k f w:Nat}{lim:Int}{g:List (Nat×Cell)}(hg:gOk g h=true)(R:Rw H h n l s row ss):∀(rs:List Nat) (e6:Option D),(∀e∈rs,f<e/\e<=row.length)->∃fm,E1 g (.nm 6) (exs ct (b4 ct F (k+8)) a5v) (nsD rs) [~~~n,~~~l,~~~s,some (.int lim),f⁻¹,~~~w,e6] h=c2P (rs.find? λe=>decide (wdR H ss row f e<=lim)) (.nx [~~~n,~~~l,~~~s,some (.int lim),f⁻¹,~~~w,fm]) h
 |[],e6,_=>⟨e6,by unfold nsD;rw[map_nil,E1,ay hg];rfl⟩
 | e::rs,e6,he=>by
  obtain⟨a,b⟩:=he e (.head _);have lw:=c0u (ct:=ct) (k:=k) W Q C R a b;have le:op2 .le h (.int (wdR H ss row f e)) (.int lim)=.ok (.bl (decide (wdR H ss row f e<=lim))) h:=rfl;unfold nsD;rw[map_cons,List.find?_cons];cases q:decide (wdR H ss row f e<=lim) with
  | true=>
   rw[q] at le;refine⟨none,?_⟩;have bd:exs ct (b4 ct F (k+8)) a5v [~~~n,~~~l,~~~s,some (.int lim),f⁻¹,~~~w,e⁻¹] h=.ok (.rt ⇑e) h:=by unfold a5v;simp![lw,le]
   rw[E1,ay hg];show(exs ct (b4 ct F (k+8)) a5v [~~~n,~~~l,~~~s,some (.int lim),f⁻¹,~~~w,e⁻¹] h).bind _=_;rw[bd];rfl
  | false=>
   rw[q] at le;obtain⟨fm,ih⟩:=a8O (k:=k) (w:=w) hg R rs (e⁻¹) λx hx=>he x (.tail _ hx);refine⟨fm,?_⟩;have bd:exs ct (b4 ct F (k+8)) a5v [~~~n,~~~l,~~~s,some (.int lim),f⁻¹,~~~w,e⁻¹] h=.ok (.nx [~~~n,~~~l,~~~s,some (.int lim),f⁻¹,~~~w,e⁻¹]) h:=by unfold a5v;simp![lw,le]
   rw[E1,ay hg];show(exs ct (b4 ct F (k+8)) a5v [~~~n,~~~l,~~~s,some (.int lim),f⁻¹,~~~w,e⁻¹] h).bind _=_;rw[bd];exact ih
theorem c0v{k:Nat}{es:List Nat}(R:Rw H h n l s row ss)(hw:h[w]? =some (.lst (nsD es)))(he:∀e∈es,f<e/\e<=row.length)(ne:es≠[]):b4 ct F (k+9) 63 [.ref n,.ref l,.ref s,.int lim,.int (f:Int),.ref w] h=.ok ⇑((es.reverse.find? λe=>decide (wdR H ss row f e<=lim)).getD (es.headD 0)) h:=by
 have rv:b1i h (.ref w)=.ok ((nsD es.reverse),[(w,.lst (nsD es))]) h:=by simp only[b1i,W3,hw];unfold nsD;rw[List.map_reverse]
 obtain⟨e6,q⟩:=a8O (ct:=ct) (k:=k) (w:=w) (lim:=lim) (g:=[(w,.lst (nsD es))]) W Q C (by simp only[gOk,all_cons,all_nil,hw];simp) R es.reverse none λe he'=>he e (mem_reverse.mp he');rw[c9 C.f63 rfl];simp only[a1f];cases o:es.reverse.find? λe=>decide (wdR H ss row f e<=lim) with
 |some e=>
  rw[o] at q;rw[J3];unfold le0;rw[a5K,a9g];simp![rv];rw[show E1 [(w,.lst (nsD es))] (.nm 6) (exs ct (b4 ct F (k+8)) a5v) (nsD es.reverse) [~~~n,~~~l,~~~s,some (.int lim),f⁻¹,~~~w,none] h=_ from q];exact u7 rfl
 | none=>
  rw[o] at q;rw[seq (by unfold le0;rw[a5K,a9g];simp![rv];exact q)];cases es with
  |nil=>exact absurd rfl ne
  |cons e t=>
   have i0:ixD h (.ref w) (.int 0)=.ok ⇑e h:=v5 (i:=0) hw rfl;unfold le1;simp![i0];exact u7 rfl
end
theorem b4K(l:List (Nat×Nat)):D.flats (l.map prD)=true:=C6 λd hd=>by obtain⟨p,_,rfl⟩:=al.mp hd;rfl
def gtF(f:Nat)(x:D):Bool:=match x with
 |.int i=>decide ((f:Int)<i)
 |_=>false
section
variable{ct:CT}{F:Nat->Option Fn}{H:HL}{l s:Nat}(W:PF F)(Q:DF F)(C:CF9 F)
include W Q C
theorem b6i{k c:Nat}{ps:List (Nat×Nat)}{e6 e7:Option D}(R:Rw H h n l s row ss)(hc:↥h<=c)(P:Pf h g)(hg:g[c]? =some (.lst (ps.map prD)))(hf:f<row.length)(hl:↥ps<=f):
 ∃g' e7',exs ct (b4 ct F (k+9)) b6j [~~~n,~~~l,~~~s,some (.int lim),~~~c,f⁻¹,e6,e7] g=.ok (.nx [~~~n,~~~l,~~~s,some (.int lim),~~~c,some ⇑(CUT.next row.length (gpR H row) (wdR H ss row) lim f),some ⇑(CUT.next row.length (gpR H row) (wdR H ss row) lim f),e7']) g'/\Pf h g'/\g'[c]? =some (.lst ((ps++[(f,CUT.next row.length (gpR H row) (wdR H ss row) lim f)]).map prD)):=by
 have R1:=R.pf P;have rl:=R.rl;have en:=b5W (ct:=ct) (k:=k+8) C.f62 R1.A R1.r rl nofun;have P1:=P.app [.lst (nsD (CUT.a0u row.length (gpR H row)))];have n1:(g++[Cell.lst (nsD (CUT.a0u row.length (gpR H row)))])[↥g]? =some (.lst (nsD (CUT.a0u row.length (gpR H row)))):=b6;have c1:=b5 (g:=[Cell.lst (nsD (CUT.a0u row.length (gpR H row)))]) hg;generalize g++[Cell.lst (nsD (CUT.a0u row.length (gpR H row)))]=g1 at en P1 n1 c1;have el:↥(CUT.a0u row.length (gpR H row))<=row.length:=by unfold CUT.a0u;rw[aa];exact aR (bu _ _) (by rw[aK];exact aj _)
 have cm:ev ct (b4 ct F (k+9)) (.comp (.nm 0) (.seq (.call 62 (.v 0>=>.o (.v 1)))) 1 [5] (.cmp .gt (.v 0) (.v 1)) (.v 0)) [~~~n,~~~l,~~~s,some (.int lim),~~~c,f⁻¹,e6,e7] g=.ok (.ref ↥g1) (g1++[.lst (nsD (CUT.after row.length (gpR H row) f))]):=by
  rw [A9 (l:=nsD (CUT.a0u row.length (gpR H row))) (g:=[(↥g,.lst (nsD (CUT.a0u row.length (gpR H row))))]) (h1:=g1) (by simp![en,M4,n1]) (by simp only[gOk,all_cons,all_nil,n1];simp) (gtF f) id (λx=>[some x,f⁻¹]) (λx hx=>by
   obtain⟨e,_,rfl⟩:=al.mp hx;have gt:op2 .gt g1 ⇑e ⇑f=.ok (.bl (decide ((f:Int)<(e:Int)))) g1:=rfl;refine⟨rfl,?_,λ_=>?_⟩
   · simp![gt];rfl
   · simp![];rfl) (by rw[aa];show _<=16777216;ac_nf)]
  congr 3;unfold nsD CUT.after;rw[map_id,filter_map];rw[show(CUT.a0u row.length (gpR H row)).filter (gtF f∘λi:Nat=>D.int (i:Int))=(CUT.a0u row.length (gpR H row)).filter λe=>decide (f<e) from List.filter_congr λi _=>decide_eq_decide.mpr (by show(f:Int)<(i:Int)↔f<i;ac_nf)]
 have P2:=P1.app [.lst (nsD (CUT.after row.length (gpR H row) f))];have n2:(g1++[Cell.lst (nsD (CUT.after row.length (gpR H row) f))])[↥g1]? =some (.lst (nsD (CUT.after row.length (gpR H row) f))):=b6;have c2:=b5 (g:=[Cell.lst (nsD (CUT.after row.length (gpR H row) f))]) c1;generalize g1++[Cell.lst (nsD (CUT.after row.length (gpR H row) f))]=g2 at cm P2 n2 c2;have le:=c0v (ct:=ct) (k:=k) (lim:=lim) W Q C (R.pf P2) n2 (λe he=>by have:=CUT.a0H.mp he;exact⟨this.1,this.2.1⟩) (CUT.a3Z hf);change b4 ct F (k+9) 63 _ _=.ok ⇑(CUT.next row.length (gpR H row) (wdR H ss row) lim f) g2 at le;generalize CUT.next row.length (gpR H row) (wdR H ss row) lim f=e at le⊢;have ap:=K1 (d:=.tup [.int (f:Int),.int (e:Int)]) c2 (by rw[aa];ac_nf);refine⟨g2.set c (.lst (ps.map prD++[.tup [.int (f:Int),.int (e:Int)]])),~~~↥g1,?_,P2.set hc,by rw[ao];exact B0 c2⟩;unfold b6j;rw[seq (by simp![cm];rfl),seq (by simp![le];rfl),seq (by simp![E2 c2,ay (show 2<=SL by decide),ap];rfl)];simp![]
theorem b3B{k c:Nat}{lim:Int}(R:Rw H h n l s row ss)(hc:↥h<=c):∀(m f eu:Nat) (ps:List (Nat×Nat)) (g:AH) (e6 e7:Option D),row.length<=f+m->f<=row.length->m<eu->↥ps<=f->Pf h g->g[c]? =some (.lst (ps.map prD))→
 ∃g' e5 fm e7',a4b (tst ct (b4 ct F (k+9)) (.cmp .lt (.v 5) (.bi .len (.o (.v 1))))) (exs ct (b4 ct F (k+9)) b6j) eu [~~~n,~~~l,~~~s,some (.int lim),~~~c,f⁻¹,e6,e7] g=.ok (.nx [~~~n,~~~l,~~~s,some (.int lim),~~~c,e5,fm,e7']) g'/\Pf h g'/\g'[c]? =some (.lst ((ps++a1M H ss row lim m f).map prD))
 |m,f,0,ps,g,e6,e7,_,_,hf,_,_,_=>absurd hf nofun
 | m,f,eu+1,ps,g,e6,e7,hm,hn,hf,hp,P,hg=>by
  have l2:biD .len g [.ref l]=.ok ⇑row.length g:=by rw[k7 (P.at R.r),aa]
  have lt:op2 .lt g ⇑f ⇑row.length=.ok (.bl (decide (f<row.length))) g:=by show EV.R.ok (D.bl (decide ((f:Int)<(row.length:Int)))) g=_;congr 2;exact decide_eq_decide.mpr ⟨λe=>by ac_nf,λe=>by ac_nf⟩
  have t:tst ct (b4 ct F (k+9)) (.cmp .lt (.v 5) (.bi .len (.o (.v 1)))) [~~~n,~~~l,~~~s,some (.int lim),~~~c,f⁻¹,e6,e7] g=.ok (decide (f<row.length)) g:=by simp![l2,lt]
  rw[a4b,t,b8]
  by_cases hi:f<row.length
  · rw[ay (ba hi)];obtain⟨m,rfl⟩:∃m',m=m'+1:=⟨m-1,by ac_nf⟩;obtain⟨g',e7',q1,q2,q3⟩:=b6i (ct:=ct) (k:=k) (lim:=lim) (e6:=e6) (e7:=e7) W Q C R hc P hg hi hp;have nx:=CUT.a8L (G:=gpR H row) (wd:=wdR H ss row) (lim:=lim) hi;rw[q1,b8];obtain⟨g'',e5,fm,e7'',b1,b2,b3⟩:=b3B (k:=k) (lim:=lim) R hc m (CUT.next row.length (gpR H row) (wdR H ss row) lim f) eu _ g' (some ⇑(CUT.next row.length (gpR H row) (wdR H ss row) lim f)) e7' nofun nx.2.1 nofun (by rw[aq,length_singleton];ac_nf) q2 q3;refine⟨g'',e5,fm,e7'',b1,b2,?_⟩;rw[b3,aA];congr 4;show _=CUT.cut row.length (gpR H row) (wdR H ss row) lim (m+1) f;rw[CUT.cut,ay hi];rfl
  · rw[az (by rw[bx hi];decide)];have e:a1M H ss row lim m f=[]:=by
     show CUT.cut row.length (gpR H row) (wdR H ss row) lim m f=[];cases m with
     |zero=>rfl
     |succ m=>rw[CUT.cut,az hi]
    rw[e,aZ];exact⟨g,_,_,_,rfl,P,hg⟩
theorem a9n{k:Nat}(R:Rw H h n l s row ss):b4 ct F (k+10) 61 [.ref n,.ref l,.ref s,.int lim] h=.ok (.ref ↥h) (h++[.lst ((a1M H ss row lim row.length 0).map prD)]):=by have rl:=R.rl;have c1:=a7l (ct:=ct) (k:=k+8) C.f33 R.A R.r R.x;have c2:=a2q (ct:=ct) (k:=k+8) Q.f45 R.A R.s R.i;obtain⟨g',e5,e6,e7,q1,q2,q3⟩:=b3B (ct:=ct) (k:=k) (c:=↥h) (lim:=lim) W Q C R (aj _) row.length 0 a4T [] (h++[.lst []]) none none nofun (ga _) (by show _<1000000;ac_nf) (ga _) ((Pf.refl h).app _) b6;rw[nil_append] at q3;rw[c9 C.f61 rfl];simp only[a1j];rw[seq (by unfold cr0;simp![c1];rfl),seq (by unfold cr1;simp![c2];rfl),seq (by unfold cr2;simp![v8];rfl),seq (by unfold cr3;simp![];rfl)];rw[show((0:Nat):Int)=0 from rfl] at q1;rw[seq (show ex ct (b4 ct F (k+9)) cr4 _ _=_ from b3i.trans q1)];unfold cr5;simp![];exact a2j q2 q3 (aj _) (b4K _)
end
variable{j:Nat}
theorem b3D{i:Nat}:op2 .ne h ⇑i ⇑j=.ok (.bl (!decide (i=j))) h/\op2 .le h ⇑i ⇑j=.ok (.bl (decide (i<=j))) h/\op2 .gt h ⇑i ⇑j=.ok (.bl (decide (j<i))) h/\op2 .lt h ⇑i ⇑j=.ok (.bl (decide (i<j))) h:=by
 refine⟨?_,?_,?_,?_⟩
 · show R.ok (D.bl (!decide ((i:Int)=(j:Int)))) h=_;rw[decide_eq_decide.mpr (show(i:Int)=(j:Int)↔i=j by ac_nf)]
 · show R.ok (D.bl (decide ((i:Int)<=(j:Int)))) h=_;rw[decide_eq_decide.mpr (show(i:Int)<=(j:Int)↔i<=j by ac_nf)]
 · show R.ok (D.bl (decide ((j:Int)<(i:Int)))) h=_;rw[decide_eq_decide.mpr (show(j:Int)<(i:Int)↔j<i by ac_nf)]
 · show R.ok (D.bl (decide ((i:Int)<(j:Int)))) h=_;rw[decide_eq_decide.mpr (show(i:Int)<(j:Int)↔i<j by ac_nf)]
variable{M:Nat}{x0:Option D}{x4:Option D}{e10:Option D}
section
variable{ct:CT}{F:Nat->Option Fn}{H:HL}{l s:Nat}
theorem a4w{k e lo hi:Nat}{T:D}(hF:F 233=some v0)(t4:∀h,ixD h T (.int 4)=.ok (.ref e) h)(hl:h[l]? =some (.lst (row.map .str)))(he:h[e]? =some (.lst (H.gp.map .str)))(h1:lo<hi)(h2:hi<=row.length)(rl:row.length<=63)(hG:∀i,lo<=i->i+1<hi->gpR H row i=false):b4 ct F (k+1) 233 [T,.ref l,.int (lo:Int),.int (hi:Int)] h=.ok (.int 1) h:=by
 have sb:op2 .sub h ⇑hi (.int 1)=.ok ⇑(hi-1) h:=by show R.ok (D.int ((hi:Int)-1)) h=_;rw[show(hi:Int)-1=((hi-1:Nat):Int) by ac_nf]
 have rg:a4g h ⇑lo ⇑(hi-1)=.ok (a6u (lo:Int) (((hi-1:Nat):Int)-(lo:Int)).toNat,[]) h:=by simp only[a4g];rw[ay ⟨a0C nofun,a0C nofun⟩]
 have cm:ev ct (b4 ct F k) (.comp (.nm 0) (.rng2 (.v 2) (.bin .sub (.v 3) (.i 1))) 1 [0,1] (.cmp .isin (.ix (.v 2) (.v 0)) (.ix (.v 1) (.i 4))) (.v 0)) [some T,~~~l,lo⁻¹,hi⁻¹] h=.ok (.ref ↥h) (h++[.lst []]):=by
  rw[A9 (l:=a6u (lo:Int) (((hi-1:Nat):Int)-(lo:Int)).toNat) (g:=[]) (h1:=h) (by rw[b3n];simp![sb,rg]) rfl (λ_=>false) id (λx=>[some x,some T,~~~l]) (λx hx=>by
   obtain⟨i,hi',rfl⟩:=al.mp hx;have hi':=aN.mp hi';have lt:lo+i<row.length:=by ac_nf
   have ix:ixD h (.ref l) (.int ((lo:Int)+(i:Nat)))=.ok (.str row[lo+i]) h:=by rw[←bt];exact v5 hl (by rw[ak,ai lt];rfl)
   have g:=hG (lo+i) nofun nofun;have g:decide (row[lo+i]∈H.gp)=false:=by rw[←g];show _=decide (row.getD (lo+i) "clear"∈H.gp);rw[bv,ai lt];rfl
   refine⟨rfl,?_,λz=>absurd z ∅⟩;simp![ix,t4,(b2v he).1,g]) (by unfold a6u;rw[aa,aK];show _<=16777216;ac_nf)]
  simp
 have ln:biD .len (h++[.lst []]) [.ref ↥h]=.ok (.int 0) (h++[.lst []]):=k7 b6;rw[c9 hF rfl];simp only[v0];simp![cm,ln,show∀h:AH,op2 .add h (.int 1) (.int 0)=.ok (.int 1) h from λ_=>rfl];exact gc1 rfl
variable(W:PF F)(Q:DF F)(C:CF9 F)
include W Q C
theorem b2f{k:Nat}(hF:F 232=some R6)(R:Rw H h n l s row ss):∃z,b4 ct F (k+8) 232 [.ref n,.ref l,.ref s,.int (M:Int)] h=.ok (.int z) h:=by
 have rl:=R.rl;have d8:∀h,u6 h ⇑M (.int 8)=.ok ⇑(M/8) h:=λh=>J9 8 ∅ ∅;have ll:biD .len h [.ref l]=.ok ⇑row.length h:=by rw[k7 R.r,aa]
 have a1:M8 h ⇑row.length (.int 1)=.ok ⇑(row.length+1) h:=by rw[bt];rfl
 have j1:M/8%(row.length+1)<=row.length:=Nat.le_of_lt_succ (fJ _ nofun);have md:=C1 (row.length+1) nofun (a:=M/8) (h:=h);generalize M/8%(row.length+1)=j at j1 md;have s1:slD h none (some (j:Int)) (.ref l)=.ok (.ref ↥h) (h++[.lst ((row.take j).map .str)]):=by rw[F0 R.r,b3A j _ (by rw[aa];exact j1),map_take]
 have P1:=(Pf.refl h).app [.lst ((row.take j).map .str)];have n1:(h++[Cell.lst ((row.take j).map .str)])[↥h]? =some (.lst ((row.take j).map .str)):=b6;generalize h++[Cell.lst ((row.take j).map .str)]=h1 at s1 P1 n1;have tl:↥(row.take j)<=row.length:=by rw[aM];ac_nf
 obtain⟨g,w,c,q1,q2,q3⟩:=b0F (ct:=ct) (k:=k) W Q C (R:=(⟨R.K,R.A.pf P1,n1,λx hx=>R.x x (List.mem_of_mem_take hx),P1.at R.s,R.i,R.sl,aR tl rl,aR (gm _ tl) R.p⟩:Rw H h1 n ↥h s (row.take j) ss));generalize wsm H.sh (H.mr.map (·.n)) (shC H ss (row.take j))=wd at q3;have t0:∀h,ixD h (.tup [.ref w,.ref c]) (.int 0)=.ok (.ref w) h:=λh=>ix_tup (i:=0) rfl;have mN:∀(b:Nat) (hb:0<b),p8 g ⇑M ⇑b=.ok ⇑(M%b) g:=λb hb=>C1 b hb;have m3:p8 g ⇑M (.int 3)=.ok ⇑(M%3) g:=mN 3 ∅;have m100:p8 g ⇑M (.int 100)=.ok ⇑(M%100) g:=mN 100 ∅;have m8:∀h,p8 h ⇑M (.int 8)=.ok ⇑(M%8) h:=λh=>C1 8 ∅;have dv:u6 g (.int wd) (.int 2)=.ok (.int (wd/2)) g:=b3y ∅ ∅;obtain⟨p,hp⟩:∃p:Int,a6B g (.int 10) (.int 20)=.ok (.int p) g:=⟨10^20,rfl⟩;have sb:∀i j:Int,a3v g (.int i) (.int j)=.ok (.int (i-j)) g:=λ_ _=>rfl;obtain⟨z,hz⟩:=a2W (xs:=[-1-(M:Int),0,wd,wd-1,wd+((M%3:Nat):Int),wd/2,p,((M%100:Nat):Int)]) (i:=M%8) (h:=g) (fJ _ ∅);simp only[map_cons,map_nil] at hz;refine⟨z,?_⟩;rw[c9 hF rfl];simp only[R6];rw[seq (by simp![op2,d8,ll,a1,md,s1];rfl),seq (by simp![q1,t0,q3];rfl)];simp![op2,show(-(1:Int))= -1 from rfl,sb,o0,m3,dv,hp,m100,m8,v8,ay (show 8<=SL by decide),hz];exact b0j ((P1.trans q2).app _) rfl
theorem b5p{k e lo hi:Nat}{T:D}{e11:Option D}(dj:F 233=some v0)(t4:∀h,ixD h T (.int 4)=.ok (.ref e) h)(R:Rw H h n l s row ss)(he:h[e]? =some (.lst (H.gp.map .str)))(h1:lo<hi)(h2:hi<=row.length)(h3:hi<row.length->gpR H row (hi-1)=true)(h4:lim<wdR H ss row lo hi->∀i,lo<=i->i+1<hi->gpR H row i=false):
 ∃g dE e11',exs ct (b4 ct F (k+10)) b5m [x0,some T,~~~l,~~~s,x4,~~~n,some (.int lim),lo⁻¹,lo⁻¹,hi⁻¹,e10,e11] h=.ok (.nx [x0,some T,~~~l,~~~s,x4,~~~n,some (.int lim),hi⁻¹,lo⁻¹,hi⁻¹,dE,e11']) g/\Pf h g:=by
 have rl:=R.rl;have ll:biD .len h [.ref l]=.ok ⇑row.length h:=by rw[k7 R.r,aa]
 have c1:=(b3D (h:=h) (i:=lo) (j:=lo)).1;rw[ba rfl] at c1;have c2:=(b3D (h:=h) (i:=hi) (j:=lo)).2.1;rw[bx nofun] at c2;have c3:=(b3D (h:=h) (i:=hi) (j:=row.length)).2.2.1;rw[bx nofun] at c3;have c4:=(b3D (h:=h) (i:=hi) (j:=row.length)).2.2.2;have sb:op2 .sub h ⇑hi (.int 1)=.ok ⇑(hi-1) h:=by show EV.R.ok (D.int ((hi:Int)-1)) h=_;rw[show(hi:Int)-1=((hi-1:Nat):Int) by ac_nf]
 have lt:hi-1<row.length:=by ac_nf
 have ix:ixD h (.ref l) ⇑(hi-1)=.ok (.str row[hi-1]) h:=v5 R.r (by rw[ak,ai lt];rfl);have g3:=(b2v (x:=row[hi-1]) he).2;have g4:hi<row.length->decide (row[hi-1]∈H.gp)=true:=λz=>by rw[←h3 z];show _=decide (row.getD (hi-1) "clear"∈H.gp);rw[bv,ai lt];rfl
 obtain⟨z1,z2⟩:=a4Z (row:=row) (f:=lo) (e:=hi-lo);have cm:ev ct (b4 ct F (k+10)) (.comp (.tp (.nm 0>=>.nm 1>=>.nm 2>=>.nm 3>=>.nil)) (.seq (.v 3)) 4 [8] .yes (.tup (.v 0>=>.bin .sub (.v 1) (.v 4)>=>.bin .sub (.v 2) (.v 4)>=>.o (.v 3)))) [x0,some T,~~~l,~~~s,x4,~~~n,some (.int lim),lo⁻¹,lo⁻¹,hi⁻¹,e10,e11] h=.ok (.ref ↥h) (h++[.lst ((mvS ss lo).map sgD)]):=by
  have sl:=R.sl;rw[o9 (l:=ss.map sgD) (g:=[(s,.lst (ss.map sgD))]) (h1:=h) (by simp![M4,R.s]) (by simp only[gOk,all_cons,all_nil,R.s];simp) (mvD lo) (λx=>match x with
   |.tup [a,b,c,d]=>[some a,some b,some c,some d,lo⁻¹]
   |_=>[]) (λx hx=>by
   obtain⟨p,_,rfl⟩:=al.mp hx;refine⟨rfl,?_⟩;unfold sgD;simp![ay (show 4<=SL by decide),show∀i j:Int,op2 .sub h (.int i) (.int j)=.ok (.int (i-j)) h from λ_ _=>rfl];rfl) (by rw[aa];show _<=16777216;ac_nf),b1T]
 have P1:=(Pf.refl h).app [.lst ((mvS ss lo).map sgD)];have n1:(h++[Cell.lst ((mvS ss lo).map sgD)])[↥h]? =some (.lst ((mvS ss lo).map sgD)):=b6;generalize h++[Cell.lst ((mvS ss lo).map sgD)]=a1 at cm P1 n1;have s1:slD a1 (some (lo:Int)) (some (hi:Int)) (.ref l)=.ok (.ref ↥a1) (a1++[.lst (((row.drop lo).take (hi-lo)).map .str)]):=by rw[F0 (P1.at R.r),N2 lo hi _ nofun (by rw[aa];exact h2),map_take,map_drop]
 have P2:=P1.app [.lst (((row.drop lo).take (hi-lo)).map .str)];have n2:(a1++[Cell.lst (((row.drop lo).take (hi-lo)).map .str)])[↥a1]? =some (.lst (((row.drop lo).take (hi-lo)).map .str)):=b6;have n1':=b5 (g:=[Cell.lst (((row.drop lo).take (hi-lo)).map .str)]) n1;generalize a1++[Cell.lst (((row.drop lo).take (hi-lo)).map .str)]=a2 at s1 P2 n2 n1';obtain⟨g,w,c,q1,q2,q3⟩:=b0F (ct:=ct) (k:=k+3) W Q C (R:=(⟨R.K,R.A.pf P2,n2,λx hx=>R.x x (z1 x hx),n1',b6C R.i,by unfold mvS;rw[aa];exact R.sl,aR z2 R.rl,aR (gm _ z2) R.p⟩:Rw H a2 n ↥a1 ↥h ((row.drop lo).take (hi-lo)) (mvS ss lo)));change b4 ct F (k+10) 60 _ _=.ok (.int (wdR H ss row lo hi)) g at q3;change b4 ct F (k+10) 48 _ _=_ at q1;have t0:∀h,ixD h (.tup [.ref w,.ref c]) (.int 0)=.ok (.ref w) h:=λh=>ix_tup (i:=0) rfl;have Pg:=P2.trans q2;have gt:op2 .gt g (.int (wdR H ss row lo hi)) (.int lim)=.ok (.bl (decide (lim<wdR H ss row lo hi))) g:=rfl;refine⟨g,~~~↥h,some (.int (wdR H ss row lo hi)),?_,Pg⟩;unfold b5m;rw[seq (by simp![c1,c2,c3,ll,fL];rfl)];rw[seq (bG:=[x0,some T,~~~l,~~~s,x4,~~~n,some (.int lim),lo⁻¹,lo⁻¹,hi⁻¹,e10,e11]) (h':=h) (by
  by_cases z:hi<row.length
  · rw[ba z] at c4;rw[g4 z] at g3;simp![c4,ll,sb,ix,t4,g3,fL]
  · rw[bx z] at c4;simp![c4,ll])]
 rw[seq (by simp![cm];rfl),seq (by simp![s1,q1,t0,q3];rfl)];rw[seq (bG:=[x0,some T,~~~l,~~~s,x4,~~~n,some (.int lim),lo⁻¹,lo⁻¹,hi⁻¹,~~~↥h,some (.int (wdR H ss row lo hi))]) (h':=g) (by
  by_cases z:lim<wdR H ss row lo hi
  · rw[ba z] at gt;have pc:=a4w (ct:=ct) (k:=k+9) dj t4 (Pg.at R.r) (Pg.at he) h1 h2 rl (h4 z);simp![gt,pc,show op2 .gt g (.int 1) (.int 1)=.ok (.bl false) g from rfl]
  · rw[bx z] at gt;simp![gt])]
 simp![]
end
variable{p:Pat}{env:u5}{bG:u5}{h2:AH}
theorem b2R{g:List (Nat×Cell)}{body:u5->AH->R Out}{x:D}{r:List D}{e2:u5}(hg:gOk g h=true)(hb:D9 p x env=some bG)(hx:body bG h=.ok (.nx e2) h2):E1 g p body (x::r) env h=E1 g p body r e2 h2:=by rw[E1,ay hg,hb];simp only;rw[hx,b8]
variable{b:Nat}
theorem HAt.pf{H:HL}{a c d e i:Nat}(A:HAt H h a b c d e f i j)(P:Pf h g):HAt H g a b c d e f i j:=⟨P.at A.sh,P.at A.mr,P.at A.pt,P.at A.ls,P.at A.gp,P.at A.cs,P.at A.fe,P.at A.ru⟩
abbrev pr2:Pat:=.tp (.nm 8>=>.nm 9>=>.nil)
variable{ns:List Int}
section
variable{ct:CT}{F:Nat->Option Fn}{H:HL}{l s:Nat}
theorem b2d{k e c:Nat}{T:D}{L:List D}{lim a:Int}{x0 x4 e10 e11:Option D}(dj:F 233=some v0)(t4:∀h,ixD h T (.int 4)=.ok (.ref e) h)(R:Rw H h n l s row ss)(he:h[e]? =some (.lst (H.gp.map .str)))(hc:h[c]? =some (.lst L)):∀(ps:List (Nat×Nat)) (e8 e9:Option D),(∀p∈ps,p.1<p.2/\p.2<=row.length/\∀i,p.1<=i->i+1<p.2->gpR H row i=false)→
 ∃e8' e9',E1 [(c,.lst L)] pr2 (exs ct (b4 ct F (k+10)) b8b) (ps.map prD) [x0,some T,~~~l,~~~s,x4,~~~n,some (.int lim),some (.int a),e8,e9,e10,e11] h=.ok (.nx [x0,some T,~~~l,~~~s,x4,~~~n,some (.int lim),some (.int a),e8',e9',e10,e11]) h
 |[],e8,e9,_=>⟨e8,e9,by rw[map_nil,E1,ay (by simp only[gOk,all_cons,all_nil,hc];simp)]⟩
 | p::ps,e8,e9,hp=>by
  obtain⟨lo,hi⟩:=p;obtain⟨h1,h2,h3⟩:=hp (lo,hi) (.head _);have pc:=a4w (ct:=ct) (k:=k+9) dj t4 R.r he h1 h2 R.rl h3;rw[map_cons,b2R (bG:=[x0,some T,~~~l,~~~s,x4,~~~n,some (.int lim),some (.int a),lo⁻¹,hi⁻¹,e10,e11]) (e2:=[x0,some T,~~~l,~~~s,x4,~~~n,some (.int lim),some (.int a),lo⁻¹,hi⁻¹,e10,e11]) (h2:=h) (by simp only[gOk,all_cons,all_nil,hc];simp) rfl (by unfold b8b;simp![pc,show op2 .gt h (.int 1) (.int 1)=.ok (.bl false) h from rfl])]
  exact b2d dj t4 R he hc ps _ _ λq hq=>hp q (.tail _ hq)
theorem b3w{k:Nat}(cY:F 201=some E8)(bO:F 202=some o6)(bZ:F 203=some n9)(eU:F 204=some C7)(cP:F 205=some A8)(eT:F 206=some D1)(eS:F 207=some C8)(eR:F 208=some B7)(eQ:F 209=some B8)(dl:F 210=some C0)(eP:F 211=some w5)(f212:F 212=some J2)(f216:F 216=some K5)(eO:F 218=some G0)(f219:F 219=some C9)(f231:F 231=some R7)(hr:h[0]? =some (.rol (ns.map .int))):
 ∃(H:HL) (g:AH) (a b c d e f i j:Nat) (row:List Str) (ss:List Sg) (l s:Nat) (w:Str),HLok H/\↥H.ru=2/\Pf h g/\HAt H g a b c d e f i j/\g[l]? =some (.lst (row.map .str))/\(∀x∈row,x∈H.ls.map (·.n))/\row.length<=16/\g[s]? =some (.lst (ss.map sgD))/\(∀p∈ss,p.f∈H.fe.map (·.1))/\↥ss<=6/\b4 ct F (k+4) 231 [.ref 0,.int 2,.int 16] h=.ok (.tup [.tup [.ref a,.ref b,.ref c,.ref d,.ref e,.ref f,.ref i,.ref j],.ref l,.ref s,.str w]) g:=by
 obtain⟨H,g,a,b,c,d,e,f,i,j,K,bR,P,A,hH⟩:=b5C (ct:=ct) (k:=k) (n:=0) (m:=2) (ns:=ns) (h:=h) cY bO bZ eU cP eT eS eR eQ dl eP f212 hr ∅;have t3:∀h,ixD h (.tup [.ref a,.ref b,.ref c,.ref d,.ref e,.ref f,.ref i,.ref j]) (.int 3)=.ok (.ref d) h:=λh=>ix_tup (i:=3) rfl;have t6:∀h,ixD h (.tup [.ref a,.ref b,.ref c,.ref d,.ref e,.ref f,.ref i,.ref j]) (.int 6)=.ok (.ref i) h:=λh=>ix_tup (i:=6) rfl;generalize hT:D.tup [.ref a,.ref b,.ref c,.ref d,.ref e,.ref f,.ref i,.ref j]=T at hH t3 t6;obtain⟨row,r1,r2,r3⟩:=b7n (ct:=ct) (k:=k+1) (m:=16) bO f216 (P.at hr) A.ls K.ls.1 ∅;have z16:row.length<=16:=by rw[r1,aM];ac_nf
 have P1:=P.app [.lst (row.map .str)];have A1:=A.pf ((Pf.refl g).app [.lst (row.map .str)]);have n1:(g++[Cell.lst (row.map .str)])[↥g]? =some (.lst (row.map .str)):=b6;generalize g++[Cell.lst (row.map .str)]=g1 at r3 P1 A1 n1;obtain⟨c5,hc5⟩:=U4 (ct:=ct) (k:=k+2) (j:=5) cY (P1.at hr);obtain⟨M,hM⟩:=C2 (ct:=ct) (k:=k+2) (c:=c5) (j:=7) (h:=g1) bO ∅;have l1:biD .len g1 [.ref ↥g]=.ok ⇑row.length g1:=by rw[k7 n1,aa]
 obtain⟨ss,s0,s1,s2⟩:=a6n (ct:=ct) (k:=k+1) (cell:=M) (bJ:=row.length) bO eO f219 A1.fe K.fe.1 nofun;have P2:=P1.app [.lst (ss.map sgD)];have A2:=A1.pf ((Pf.refl g1).app [.lst (ss.map sgD)]);have n2:(g1++[Cell.lst (ss.map sgD)])[↥g1]? =some (.lst (ss.map sgD)):=b6;have n1':=b5 (g:=[Cell.lst (ss.map sgD)]) n1;generalize g1++[Cell.lst (ss.map sgD)]=g2 at s2 P2 A2 n2 n1';have P3:=P2.app [.lst [.str "left",.str "right"]];have A3:=A2.pf ((Pf.refl g2).app [.lst [.str "left",.str "right"]]);have n3:(g2++[Cell.lst [.str "left",.str "right"]])[↥g2]? =some (.lst [.str "left",.str "right"]):=b6;have n13:=b5 (g:=[Cell.lst [.str "left",.str "right"]]) n1';have n23:=b5 (g:=[Cell.lst [.str "left",.str "right"]]) n2;have nc:v8 (.lst [.str "left",.str "right"]) g2=.ok (.ref ↥g2) (g2++[.lst [.str "left",.str "right"]]):=rfl;generalize g2++[Cell.lst [.str "left",.str "right"]]=g3 at P3 A3 n3 n13 n23 nc;obtain⟨c4,hc4⟩:=U4 (ct:=ct) (k:=k+2) (j:=4) cY (P3.at hr);have m2:p8 g3 (.int c4) (.int 2)=.ok (.int (c4%2)) g3:=a5s ∅;obtain⟨w,hw⟩:∃w,ixD g3 (.ref ↥g2) (.int (c4%2))=.ok (.str w) g3:=by
  have b0:=Int.emod_nonneg c4 (show(2:Int)≠0 by decide);have b1:=Int.emod_lt_of_pos c4 (show(0:Int)<2 by decide);rcases(by ac_nf:c4%2=0∨c4%2=1) with z|z
  · exact⟨"left",by rw[z];exact v5 (i:=0) n3 rfl⟩
  · exact⟨"right",by rw[z];exact v5 (i:=1) n3 rfl⟩
 refine⟨H,g3,a,b,c,d,e,f,i,j,row,ss,↥g,↥g1,w,K,bR,P3,A3,n13,r2,z16,n23,s1,s0,?_⟩;rw[hT,c9 f231 rfl];simp only[R7];rw[gc0,seq (by simp![show b4 ct F (k+3) 212 [.ref 0,.int 2] h=_ from hH];rfl),seq (by simp![t3,show b4 ct F (k+3) 216 [.ref 0,.int 6,.int 16,.ref d] g=_ from r3];rfl),seq (by simp![show b4 ct F (k+3) 201 [.ref 0,.int 5] g1=.ok (.int c5) g1 from hc5,hM,t6,l1,s2];rfl)];simp![nc,show b4 ct F (k+3) 201 [.ref 0,.int 4] g3=.ok (.int c4) g3 from hc4,op2,m2,hw,ay (show 2<=SL by decide),ay (show 4<=SL by decide)]
variable(W:PF F)(Q:DF F)(C:CF9 F)
include W Q C
theorem b2e{k e c:Nat}{T:D}{L:List D}{lim:Int}{x0 x4:Option D}(dj:F 233=some v0)(t4:∀h,ixD h T (.int 4)=.ok (.ref e) h)(R:Rw H h n l s row ss)(he:h[e]? =some (.lst (H.gp.map .str)))(hc:h[c]? =some (.lst L)):∀(ps:List (Nat×Nat)) (a:Nat) (g:AH) (e8 e9 e10 e11:Option D),CUT.chn ps a row.length->(∀p∈ps,p.1<p.2/\p.2<=row.length/\(p.2<row.length->gpR H row (p.2-1)=true)/\(lim<wdR H ss row p.1 p.2->∀i,p.1<=i->i+1<p.2->gpR H row i=false))->Pf h g→
 ∃g' e8' e9' dE e11',E1 [(c,.lst L)] pr2 (exs ct (b4 ct F (k+10)) b5m) (ps.map prD) [x0,some T,~~~l,~~~s,x4,~~~n,some (.int lim),a⁻¹,e8,e9,e10,e11] g=.ok (.nx [x0,some T,~~~l,~~~s,x4,~~~n,some (.int lim),row.length⁻¹,e8',e9',dE,e11']) g'/\Pf h g'
 |[],a,g,e8,e9,e10,e11,ed,_,P=>⟨g,e8,e9,e10,e11,by rw[map_nil,E1,ay (by simp only[gOk,all_cons,all_nil,P.at hc];simp),show a=row.length from ed],P⟩
 |p::ps,a,g,e8,e9,e10,e11,ed,hp,P=>by obtain⟨lo,hi⟩:=p;obtain⟨rfl,ed⟩:lo=a/\CUT.chn ps hi row.length:=ed;obtain⟨h1,h2,h3,h4⟩:=hp (lo,hi) (.head _);obtain⟨g1,y10,y11,q1,q2⟩:=b5p (ct:=ct) (k:=k) (x0:=x0) (x4:=x4) (e10:=e10) (e11:=e11) W Q C dj t4 (R.pf P) (P.at he) h1 h2 h3 h4;rw[map_cons,b2R (by simp only[gOk,all_cons,all_nil,P.at hc];simp) (show D9 pr2 (prD (lo,hi)) _=some _ from rfl) q1];exact b2e dj t4 R he hc ps hi g1 _ _ _ _ ed (λq hq=>hp q (.tail _ hq)) (P.trans q2)
end
section
variable{ct:CT}{F:Nat->Option Fn}{H:HL}(W:PF F)(Q:DF F)(C:CF9 F)
include W Q C
theorem b5s{k l s e:Nat}{T:D}(dj:F 233=some v0)(t4:∀h,ixD h T (.int 4)=.ok (.ref e) h)(R:Rw H h n l s row ss)(he:h[e]? =some (.lst (H.gp.map .str))):
 ∃h',exs ct (b4 ct F (k+10)) (.cons lw4 (.cons lw5 (.cons lw6 (.o lw7)))) [x0,some T,~~~l,~~~s,x4,~~~n,some (.int lim),some (.int 0),none,none,none,none] h=.ok (.rt (.bl true)) h':=by
 have wd:=λf e=>b6R (ss:=ss) R.K R.x R.p f e;have rl:=R.rl
 -- the first walk
 obtain⟨k1,k2⟩:=CUT.a8k (n:=row.length) (G:=gpR H row) (wd:=wdR H ss row) (lim:=lim) row.length 0 nofun (ga _);have c1:=a9n (ct:=ct) (k:=k) (lim:=lim) W Q C R;have P1:=(Pf.refl h).app [.lst ((a1M H ss row lim row.length 0).map prD)];have n1:(h++[Cell.lst ((a1M H ss row lim row.length 0).map prD)])[↥h]? =some (.lst ((a1M H ss row lim row.length 0).map prD)):=b6;generalize h++[Cell.lst ((a1M H ss row lim row.length 0).map prD)]=h1 at c1 P1 n1;obtain⟨g,e8,e9,e10,e11,q1,q2⟩:=b2e (ct:=ct) (k:=k) (x0:=x0) (x4:=x4) W Q C dj t4 (R.pf P1) (P1.at he) n1 (a1M H ss row lim row.length 0) 0 h1 none none none none k2 k1 (Pf.refl h1);have P2:=P1.trans q2
 -- no letters
 have ll:biD .len g [.ref l]=.ok ⇑row.length g:=by rw[k7 (P2.at R.r),aa]
 have ne1:=(b3D (h:=g) (i:=row.length) (j:=row.length)).1;rw[ba rfl,fL] at ne1;have nc:v8 (.lst []) g=.ok (.ref ↥g) (g++[.lst []]):=rfl;have P3:=P2.app [.lst []];have n3:(g++[Cell.lst []])[↥g]? =some (.lst (([]:List Str).map .str)):=b6;generalize g++[Cell.lst []]=g3 at nc P3 n3;have R3:Rw H g3 n ↥g s [] ss:=⟨R.K,R.A.pf P3,n3,(λ_ h=>nomatch h),P3.at R.s,R.i,R.sl,by decide,by rw[length_nil,Nat.zero_mul];exact ga _⟩;have c3:=a9n (ct:=ct) (k:=k) (lim:=lim) W Q C R3;change _=EV.R.ok _ (g3++[.lst []]) at c3;have nc4:v8 (.lst []) (g3++[.lst []])=.ok (.ref ↥(g3++[Cell.lst []])) (g3++[.lst []]++[.lst []]):=rfl;have P4:=(P3.app [.lst []]).app [.lst []];have ne4:op2 .ne (g3++[.lst []]++[.lst []]) (.ref ↥g3) (.ref ↥(g3++[Cell.lst []]))=.ok (.bl false) (g3++[.lst []]++[.lst []]):=by have r1:rdL (g3++[.lst []]++[.lst []]) ↥g3=some []:=rd_of (b5 b6);have r2:rdL (g3++[.lst []]++[.lst []]) ↥(g3++[Cell.lst []])=some []:=rd_of b6;simp only[op2,a2I,eqS,eqL,a7N,r1,r2];rfl
 generalize g3++[Cell.lst []]++[Cell.lst []]=g4 at nc4 P4 ne4
 -- the second walk
 obtain⟨j1,-⟩:=CUT.a8k (n:=row.length) (G:=gpR H row) (wd:=wdR H ss row) (lim:= -1) row.length 0 nofun (ga _);have R4:=R.pf P4;have c5:=a9n (ct:=ct) (k:=k) (lim:= -1) W Q C R4;have P5:=P4.app [.lst ((a1M H ss row (-1) row.length 0).map prD)];have n5:(g4++[Cell.lst ((a1M H ss row (-1) row.length 0).map prD)])[↥g4]? =some (.lst ((a1M H ss row (-1) row.length 0).map prD)):=b6;generalize g4++[Cell.lst ((a1M H ss row (-1) row.length 0).map prD)]=g5 at c5 P5 n5;obtain⟨y8,y9,q5⟩:=b2d (ct:=ct) (k:=k) (lim:=lim) (a:=(row.length:Int)) (x0:=x0) (x4:=x4) (e10:=e10) (e11:=e11) dj t4 (R.pf P5) (P5.at he) n5 (a1M H ss row (-1) row.length 0) e8 e9 λp hp=>by obtain⟨a,b,-,d⟩:=j1 p hp;exact⟨a,b,d (by have:=(wd p.1 p.2).1;ac_nf)⟩
 -- all in one line
 have nc6:v8 (.lst []) g5=.ok (.ref ↥g5) (g5++[.lst []]):=rfl;have P6:=P5.app [.lst []];have n6:(g5++[Cell.lst []])[↥g5]? =some (.lst []):=b6;generalize g5++[Cell.lst []]=g6 at nc6 P6 n6;have rr:rdL g6 l=some (row.map .str):=rd_of (P6.at R.r);have r0:rdL g6 ↥g5=some []:=rd_of n6;have st:∀h',ev ct (b4 ct F (k+10)) (.orr (.bin .eq (.v 2) (.lst .nil)) (.bin .eq (.call 61 (.v 5>=>.v 2>=>.v 3>=>.o (.bin .pow (.i 10) (.i 20)))) (.lst (.o (.tup (.i 0>=>.o (.bi .len (.o (.v 2))))))))) [x0,some T,~~~l,~~~s,x4,~~~n,some (.int lim),row.length⁻¹,y8,y9,e10,e11] g5=.ok (.bl true) h'->∃h',exs ct (b4 ct F (k+10)) (.cons lw4 (.cons lw5 (.cons lw6 (.o lw7)))) [x0,some T,~~~l,~~~s,x4,~~~n,some (.int lim),some (.int 0),none,none,none,none] h=.ok (.rt (.bl true)) h':=λh' q=>by refine⟨h',?_⟩;rw[seq (by unfold lw4;simp![c1,M4,n1];exact q1),seq (by unfold lw5;simp![ll,ne1,nc,c3,nc4,ne4];rfl),seq (by unfold lw6;simp![show(-(1:Int))= -1 from rfl,c5,M4,n5];exact q5)];unfold lw7;rw[J3,a0r,q];rfl
 by_cases hz:row=[]
 · subst hz;refine st g6 ?_;have eq:op2 .eq g6 (.ref l) (.ref ↥g5)=.ok (.bl true) g6:=by simp only[op2,G7,eqS,eqL,a7N,rr,r0];rfl
   simp![nc6,eq]
 · have pos:0<row.length:=List.length_pos_iff.mpr hz;have eq:op2 .eq g6 (.ref l) (.ref ↥g5)=.ok (.bl false) g6:=by simp only[op2,G7,eqS,eqL,a7N,rr,r0,aa,length_nil];rw[bx nofun,gd,az ∅,az nofun]
   have pw:op2 .pow g6 (.int 10) (.int 20)=.ok (.int 100000000000000000000) g6:=rfl;have c7:=a9n (ct:=ct) (k:=k) (lim:=100000000000000000000) W Q C (R.pf P6);rw[show a1M H ss row 100000000000000000000 row.length 0=[(0,row.length)] from CUT.b6f pos (λe=>(wd 0 e).2) pos] at c7;have P7:=P6.app [.lst ([(0,row.length)].map prD)];have n7:(g6++[Cell.lst ([(0,row.length)].map prD)])[↥g6]? =some (.lst ([(0,row.length)].map prD)):=b6;generalize g6++[Cell.lst ([(0,row.length)].map prD)]=g7 at c7 P7 n7;have l7:biD .len g7 [.ref l]=.ok ⇑row.length g7:=by rw[k7 (P7.at R.r),aa]
   have nc8:v8 (.lst [.tup [.int 0,.int (row.length:Int)]]) g7=.ok (.ref ↥g7) (g7++[.lst [.tup [.int 0,.int (row.length:Int)]]]):=rfl;have eq8:op2 .eq (g7++[.lst [.tup [.int 0,.int (row.length:Int)]]]) (.ref ↥g6) (.ref ↥g7)=.ok (.bl true) (g7++[.lst [.tup [.int 0,.int (row.length:Int)]]]):=by
    have r1:rdL (g7++[.lst [.tup [.int 0,.int (row.length:Int)]]]) ↥g6=some [.tup [.int 0,.int (row.length:Int)]]:=rd_of (b5 n7);have r2:rdL (g7++[.lst [.tup [.int 0,.int (row.length:Int)]]]) ↥g7=some [.tup [.int 0,.int (row.length:Int)]]:=rd_of b6;simp only[op2,G7,eqS,a7a r1 r2 λx hx=>by rw[aO.mp hx];simp[same,z8]]
   refine st (g7++[.lst [.tup [.int 0,.int (row.length:Int)]]]) ?_;simp![nc6,eq,pw,c7,l7,ay (show 2<=SL by decide),nc8,eq8]
theorem b8e{d:Nat}(cY:F 201=some E8)(bO:F 202=some o6)(bZ:F 203=some n9)(eU:F 204=some C7)(cP:F 205=some A8)(eT:F 206=some D1)(eS:F 207=some C8)(eR:F 208=some B7)(eQ:F 209=some B8)(dl:F 210=some C0)(eP:F 211=some w5)(f212:F 212=some J2)(dW:F 213=some E7)(f214:F 214=some E6)(f215:F 215=some J8)(f216:F 216=some K5)(eO:F 218=some G0)(f219:F 219=some C9)(f231:F 231=some R7)(f232:F 232=some R6)(dj:F 233=some v0)(f221:F 221=some a9e)(dC:ct.init 6=32):∃h',b4 ct F (d+11) 221 [.ref 0] [.rol (ns.map .int)]=.ok (.bl true) h':=by
 generalize hg0:[Cell.rol (ns.map .int)]=g0;have hr:g0[0]? =some (.rol (ns.map .int)):=by rw[←hg0];rfl
 obtain⟨H,g,a,b,c,d',e,f,i,j,row,ss,l,s,w,K,bR,P,A,hl,hx,h16,hs,hi,h6,hD⟩:=b3w (ct:=ct) (k:=d+6) cY bO bZ eU cP eT eS eR eQ dl eP f212 f216 eO f219 f231 hr;have hT:=b2B (ct:=ct) (k:=d+8) K dW f214 f215 A;obtain⟨g4,ht,hA,hR⟩:=a5i (ct:=ct) (d:=d+8) (h:=g) (text:=a9c H) (H':=L0 H) W dC (by have:=b3Z K;ac_nf) (by rw[a9x K];exact a9K W K);have P4:Pf g g4:=⟨by rw[←ht,aM];ac_nf,λi hi=>by
  have:(g4.take ↥g)[i]? =g[i]? :=by rw[ht]
  rw[←this,bA hi]⟩
 have t4:∀h,ixD h (.tup [.ref a,.ref b,.ref c,.ref d',.ref e,.ref f,.ref i,.ref j]) (.int 4)=.ok (.ref e) h:=λh=>ix_tup (i:=4) rfl;have bd:D9 (.tp (.nm 1>=>.nm 2>=>.nm 3>=>.nm 4>=>.nil)) (.tup [.tup [.ref a,.ref b,.ref c,.ref d',.ref e,.ref f,.ref i,.ref j],.ref l,.ref s,.str w]) [some (.ref 0),none,none,none,none,none,none,none,none,none,none,none]=some [some (.ref 0),some (.tup [.ref a,.ref b,.ref c,.ref d',.ref e,.ref f,.ref i,.ref j]),~~~l,~~~s,some (.str w),none,none,none,none,none,none,none]:=rfl;generalize D.tup [.ref a,.ref b,.ref c,.ref d',.ref e,.ref f,.ref i,.ref j]=T at hD hT t4 bd;have R:Rw H g4 ↥g l s row ss:=⟨K,hA,P4.at hl,hx,P4.at hs,hi,h6,by ac_nf,by rw[bR];show row.length*9<=_;ac_nf⟩;obtain⟨c4,hc4⟩:=U4 (ct:=ct) (k:=d+9) (j:=4) cY (P4.at (P.at hr));obtain⟨M,hM⟩:=C2 (ct:=ct) (k:=d+9) (c:=c4) (j:=11) (h:=g4) bO ∅;obtain⟨lim,hL⟩:=b2f (ct:=ct) (k:=d+2) (M:=M) W Q C f232 R;obtain⟨h',le⟩:=b5s (ct:=ct) (k:=d) (T:=T) (x0:=some (.ref 0)) (x4:=some (.str w)) (lim:=lim) W Q C dj t4 R (P4.at A.gp);refine⟨h',?_⟩;rw[c9 f221 rfl];simp only[a9e];rw[gc0,seq (bG:=[some (.ref 0),some T,~~~l,~~~s,some (.str w),none,none,none,none,none,none,none]) (h':=g) (by unfold lw0;rw[b8B];simp![show b4 ct F (d+10) 231 [.ref 0,.int 2,.int 16] g0=_ from hD,bd])]
 rw[seq (by unfold lw1;simp![hT,hR];rfl),seq (by unfold lw2;simp![show b4 ct F (d+10) 201 [.ref 0,.int 4] g4=.ok (.int c4) g4 from hc4,hM,show b4 ct F (d+10) 232 [.ref ↥g,.ref l,.ref s,.int (M:Int)] g4=_ from hL];rfl),seq (by unfold lw3;simp![];rfl)];rw[show exs ct (b4 ct F (d+10)) (.cons lw4 (.cons lw5 (.cons lw6 (.o lw7)))) _ g4=_ from le];rfl
end
end EV
namespace K49
open PySem L2 EV
theorem pf:PF F:=⟨rfl,rfl,rfl,rfl,rfl,rfl,rfl,rfl,rfl,rfl,rfl,rfl,rfl,rfl,rfl,rfl,rfl,rfl,rfl,rfl,rfl,rfl,rfl,rfl,rfl,rfl,rfl,rfl,rfl,rfl,rfl,rfl⟩
end K49
theorem a7P:∀ns:List Int,↥ns<=63->∃h',EV.b4 K49.ct K49.F 20 221 [.ref 0] [.rol (ns.map .int)]=.ok (.bl true) h':=λns _=>EV.b8e (d:=9) K49.pf ⟨rfl,rfl,rfl,rfl,rfl,rfl,rfl,rfl,rfl,rfl⟩ ⟨rfl,rfl,rfl,rfl,rfl,rfl,rfl,rfl,rfl,rfl,rfl,rfl,rfl⟩ rfl rfl rfl rfl rfl rfl rfl rfl rfl rfl rfl rfl rfl rfl rfl rfl rfl rfl rfl rfl rfl rfl rfl
open PySem PySem.W PyProof.Rows
end
namespace PySem.W.Fast
def tw7659340966439452433:=0
def tw3094701115853657799:=0
def tw11100391777658011057:=0
def tw3781349724814161512:=0
def tw1647960591809683682:=0
def tw3284460612954699542:=0
def tw12444894573219911983:=0
def tw8287839632210352066:=0
def tw15724212988503489715:=0
def tw12298059772915329892:=0
def tw11590701138224086900:=0
def tw1944925098504758534:=0
def tw16300117556180546336:=0
def tw16366832468508596192:=0
def tw4636031889025220839:=0
def tw234749781942434899:=0
def tw5017801796808468123:=0
def tw1733859077932722978:=0
def tw12858064304517436243:=0
def tw4674102799890499726:=0
def tw4901958682385802004:=0
def tw10241233070082051121:=0
def tw1532905827683784112:=0
def tw13236131704021521816:=0
def tw3528903376305711396:=0
def tw2335157872551914648:=0
def tw11717690317537128808:=0
def tw16459021049253542911:=0
def tw10661956449011590994:=0
def tw13708279966662545973:=0
def tw15790453512448054794:=0
def tw12978678129208030876:=0
def tw14734032772098568817:=0
def tw9218752888244210615:=0
def tw11224361182253327997:=0
def tw8060744490709563079:=0
def tw15772355805533515408:=0
def tw14712817762504950641:=0
def tw550859730669387710:=0
def tw6664951462986138201:=0
def tw7942853410682446962:=0
def tw3414106826494052011:=0
def tw5426448371682200115:=0
def tw9156678896304099913:=0
def tw5388663596951873645:=0
def tw8131721106225051767:=0
def tw16803143847538834185:=0
def tw14827384380277173613:=0
def tw12027893231959348502:=0
def tw5363195699714531557:=0
def tw316514102143019080:=0
def tw16317983856663788926:=0
def tw2747774915501398362:=0
def tw4188684199736651882:=0
def tw6538605402662969193:=0
def tw3555141088238359772:=0
def tw16002967266952078866:=0
def tw1462193419119380569:=0
def tw11973505968982382900:=0
def tw2294854397974045510:=0
def tw14191745827877185554:=0
def tw9316670756482807701:=0
def tw6728313399510405491:=0
def tw5847202018973711932:=0
def tw11289143093466461953:=0
def tw6381902497316938245:=0
def tw11732214188671553305:=0
def tw3101917741504857134:=0
def tw1313047135445303594:=0
def tw6708892414054319099:=0
def tw2283480497557504744:=0
def tw11630328935867623959:=0
def tw3904583755211930517:=0
def tw3373145609055282853:=0
def tw10762484250532422250:=0
def tw1998032249293215463:=0
def tw14199714164133228370:=0
def tw14650769484350525481:=0
def tw6285040191614719466:=0
def tw4799189423077775474:=0
def tw10155365746132046468:=0
def tw8621336744817483243:=0
def tw16968176118458789586:=0
def tw5623994078177797194:=0
def tw1099786997935966427:=0
def tw13673065589402620214:=0
def tw3092117133297227249:=0
def tw13231743877010270464:=0
def tw2456577590951144490:=0
def tw11887224372650548316:=0
def tw2484844197603217540:=0
def tw10209164474934016114:=0
def tw305048472116853797:=0
def tw17338234738716814015:=0
def tw1354003750591732747:=0
def tw1349615225243010270:=0
def tw4843473975253519250:=0
def tw8667492640987031791:=0
def tw14749253800190834908:=0
def tw1176975735165151067:=0
def tw4248988804066548162:=0
def tw517312751163448032:=0
def tw17186741509365979835:=0
def tw14900259974334564751:=0
def tw14987661418082201831:=0
def tw13055661147411815287:=0
def tw4185518321428705831:=0
def tw4543556514994620149:=0
def tw16745343075639119971:=0
def tw13508602156133886167:=0
def tw8789256864460932259:=0
def tw18277388166739348960:=0
def tw11990459337992974956:=0
def tw12661032092557703082:=0
def tw15078095837771203109:=0
def tw8839083969933755074:=0
def tw11586196018267737339:=0
def tw2450569374399577549:=0
def tw5835942142707902020:=0
def tw6784790241324674965:=0
def tw15943592676296772274:=0
def tw4842887358765978389:=0
def tw16607927582987124570:=0
def tw15536387163757344236:=0
def tw11069628954808310989:=0
def tw17643754061406199020:=0
def tw3482820431698744051:=0
def tw17925384258215065573:=0
def tw12487779173672901959:=0
def tw4626940704210403192:=0
def tw1322031339247656150:=0
def tw15724745641170818534:=0
def tw3345597093286824917:=0
def tw11712190458185945011:=0
def tw5713610079918043996:=0
def tw12018387782679925087:=0
def tw5310652868755799522:=0
def tw17427895641331663283:=0
def tw6731276024794131016:=0
def tw112567504061534027:=0
def tw15221209806709932071:=0
def tw4033379813872489195:=0
def tw15261137711255440680:=0
def tw9455475090630465045:=0
def tw729466047920990731:=0
def tw9508736203920968164:=0
def tw18042889414512086050:=0
def tw12976177241038019767:=0
def tw11654023200298843171:=0
def tw16915470645016011554:=0
def tw15632992782082381434:=0
def tw5015507407206683207:=0
def tw18329075359065952542:=0
def tw4153491320931672185:=0
def tw10335527622381539264:=0
def tw17619882183920601743:=0
def tw14245618210516037357:=0
def tw7910172739516966087:=0
def tw16131593051203169754:=0
def tw14722794537435163219:=0
def tw5353813085845620550:=0
def tw5916140570258018564:=0
def tw17513604867990543079:=0
def tw6873971014812347169:=0
def tw14267268813261638861:=0
def tw1391549112126926301:=0
def tw7618804249908900691:=0
def tw12532165626772418067:=0
def tw6760056911573607715:=0
def tw4589182232624314844:=0
def tw10069975712529536831:=0
def tw17004574920194074796:=0
def tw9305391788130653963:=0
def tw16950569574821323974:=0
def tw16172578528114110199:=0
def tw16286715671046524454:=0
def tw8697654515486363317:=0
def tw16266442582153907279:=0
def tw14442895186254868694:=0
def tw11269825475406603969:=0
def tw12694112234171929671:=0
def tw11309342325655673037:=0
def tw5107255825281412738:=0
def tw4961949625528378942:=0
def tw11320351676317602388:=0
def tw5552461122284547459:=0
def tw17590088832654516399:=0
def tw539595736760451978:=0
def tw15155859288707382567:=0
def tw14949513074056673275:=0
def tw14501001857826371202:=0
def tw1096354831752916523:=0
def tw1165732905965986049:=0
def tw7328447075739424539:=0
def tw11519117686961666697:=0
def tw7215932318001415403:=0
def tw704147369595269066:=0
def tw8126552424372712672:=0
def tw15213048550514571353:=0
def tw4425046354534653865:=0
def tw17969941481158815411:=0
def tw10412780308102683651:=0
def tw11118301316682269745:=0
def tw10561106145012299093:=0
def tw10846345724684618374:=0
def tw10390157646234782899:=0
def tw6623812351622530092:=0
def tw17960848765466677729:=0
def tw10199354318988768051:=0
def tw6822529714786804032:=0
def tw14869557710840242666:=0
def tw2969480146181677978:=0
def tw6793172497655745189:=0
def tw3822784309164373692:=0
def tw17093224777342109595:=0
def tw9835382159548102362:=0
def tw3103751414666246812:=0
def tw15545184769064153574:=0
def tw15069716523494295500:=0
def tw13101539525013915119:=0
def tw2962324470309885386:=0
def tw8008005557923197168:=0
def tw13436231055378572716:=0
def tw5485572742587201778:=0
def tw4968929673044707356:=0
def tw3285859953031059425:=0
def tw16472409268878238316:=0
def tw7894344252036594922:=0
def tw17802128708061929859:=0
def tw17698735102306075112:=0
def tw14788362278542820120:=0
def tw13402640891724300857:=0
def tw11843833423457600547:=0
def tw5891177449180782854:=0
def tw2257529940240947247:=0
def tw14048895322960730393:=0
def tw5055051069096525434:=0
def tw11187973929812520656:=0
def tw9840342860782594374:=0
def tw529536973988259948:=0
def tw3520363519792060846:=0
def tw16550838102048051623:=0
def tw17704188385166749297:=0
def tw13323373534744806615:=0
def tw897888412878121761:=0
def tw6771182271545134960:=0
def tw670427922429333600:=0
def tw3083371992184736890:=0
def tw1620389302784492585:=0
def tw5030944203280556702:=0
def tw1349388230604553621:=0
def tw7317234293075219:=0
def tw734138898119960010:=0
def tw9897558803702562313:=0
def tw8436589768386056944:=0
def tw16970792351503237766:=0
def tw8903238766108814736:=0
def tw13829591483307370896:=0
def tw804092199982636349:=0
def tw7363425622247834253:=0
def tw16364373167927100580:=0
def tw9296360433889664002:=0
def tw4179031660912777645:=0
def tw18431155831084640082:=0
def tw18182889222666715495:=0
def tw13792483299354683862:=0
def tw12319047049370110589:=0
def tw7343611390307366373:=0
def tw16749348522385944071:=0
def tw7340446101256811000:=0
end PySem.W.Fast
open_top head for PySem.Challenge.rw_glyphhall_k49_pieces_kept
theorem PySem.Challenge.cw_glyphhall_k49_pieces_kept_holds : PySem.Challenge.rw_glyphhall_k49_pieces_kept.Holds :=
 head (by
 refine K49.b9B (l:=PySem.Challenge.rw_glyphhall_k49_pieces_kept) (n:=63) (k:=46) (x:="_law_script") (CX:=fun _=>L2.CX0) (sp:=K49.spK) rfl (by decide) rfl ⟨rfl,by decide,by decide⟩ (fun w h Y=>PySem.W.kIn_of Y) ?F ?S ?C
 case F=>
  intro w mg fa h KX G hmg;have T:∃cA,K49.DfE (L2.KOf KX) "law" (K49.top 108)/\∀{h:Heap} {mg:Str->Option Value},(L2.KOf KX).In h->h.Ns mainGlobals mg->EV.Stat PySem.Challenge.rw_glyphhall_k49_pieces_kept.prog w ⟨L2.KOf KX,cA,[6],[]⟩ K49.G K49.ct K49.F mg:=by
   dsimp only[L2.KOf]
   clear hmg;refine' K49.b4q ?a0 ?a1 ?a2 ?a3 ?a4 ?a5 ?a6 ?a7 ?a8 ?a9 ?a10 ?a11 ?a12 ?a13 ?a14 ?a15 ?a16 ?a17 ?a18 ?a19 ?a20 ?a21 ?a22 ?a23 ?a24 ?a25 ?a26 ?a27 ?a28 ?a29 ?a30 ?a31 ?a32 ?a33 ?a34 ?a35 ?a36 ?a37 ?a38 ?a39 ?a40 ?a41 ?a42 ?a43 ?a44 ?a45 ?a46
   (case a0|a23|a24|a25|a26|a27|a28|a29|a30|a31|a32|a33|a34|a35|a36|a37|a38|a39|a40|a41|a42|a43|a44|a45|a46=>k_is)
   (case a1=>(repeat (refine' K49.ds1 ?f _;(case f=>refine' K49.c0T ?x ?y ?z ?u;(case x=>k_is);(case y=>k_is);(case z=>k_is);(case u=>k_is))));exact True.intro)
   (case a2|a3|a4=>refine' K49.b7g ?e1;(case e1=>k_is))
   (case a5|a6|a7|a8|a9|a10|a11|a12|a13|a14|a15=>refine' K49.b8q ?e1;(case e1=>k_is))
   (case a16|a17|a19=>refine' K49.b4c ?e1 ?e2;(case e1=>k_is);(case e2=>k_is))
   (case a18=>refine' K49.b4b ?e1 ?e2;(case e1=>k_is);(case e2=>k_is))
   (case a20=>refine' K49.b6d ?e1 ?e2 ?e3 ?e4 ?e5 ?e6 ?e7 ?e8;(case e1=>k_is);(case e2=>k_is);(case e3=>decide);(case e4=>rfl);(case e5=>rfl);(case e6=>rfl);(case e7=>rfl);(case e8=>decide))
   (case a21=>refine' K49.b5D ?m1 ?m2 ?m3 ?m4 ?e2 ?e3 ?e4;(case m1=>k_is);(case m2=>k_is);(case m3=>k_is);(case m4=>k_is);(case e2=>k_is);(case e3=>k_is);(case e4=>k_is))
   (case a22=>refine' ⟨?p1,?p2,?p3,?p4⟩;(case p1=>k_is);(case p2=>k_is);(case p3=>k_is);(case p4=>k_is))
  obtain⟨cA,D,T⟩:=T;obtain⟨fd,h1,h2⟩:=K49.b8x D (T KX G) KX G hmg;exact⟨fd,h1,fun base _ _=>h2 base⟩
 case S=>
  intro w H a ns hl hO hS;refine K49.b8d a7P ?nl hl hO hS
  (case nl=>kernel_rfl)
 case C=>exact fun w H s e s' z=>z)
