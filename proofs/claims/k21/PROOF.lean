import PyProof.Rows.All
import Wide.All
import OpenK.AllK
import Wide.FinOn
import PyProof.EqAt
import PyProof.EqKinds
import PyProof.TupleCall
import OpenK.KOwn
import PyProof.CompUse
import PyProof.NeKinds
import PyProof.StrOps2
import KE.KDictOf
import PyProof.AttrMissHeap
import PyProof.ListRange
import PyProof.TupleOfGen
import PyProof.CollectStr
import KE.KRevIter
import PyProof.ListCopy
import KE.KRevSl
import PyProof.StrLawsTight
import PyProof.StrLawsChain
import PyProof.StrLawsIn
import PyProof.StrLawsIdx
import PyProof.Rows.CatFin
import PyProof.Rows.StrItems
import KE.IntTextLaws
import PyProof.Rows.ReprOcc
import PyProof.FitsInt
import KE.KIntText
import Lean
import PySem.Challenge.RW_glyphhall_k21_homes
set_option Elab.async false
set_option linter.all false
set_option maxRecDepth 100000
set_option maxHeartbeats 0
set_option genSizeOf false
def aa:=@List.length_map
def ac:=@List.getElem?_eq_some_iff
def ae:=@Bool.and_eq_true
def ai:=@List.getElem?_eq_getElem
def aj:=@Nat.le_refl
def ak:=@List.getElem?_map
def al:=@List.mem_map
def ao:=@List.map_append
def aq:=@List.length_append
def au:=@List.getElem?_append_right
def av:=@List.getElem?_append_left
def aw:=@of_decide_eq_true
def ax:=@Option.some.inj
def ay:=@if_pos
def az:=@if_neg
def aA:=@List.append_assoc
def aB:=@Nat.zero_add
def aC:=@Nat.lt_of_lt_of_le
def aE:=@List.mem_cons_of_mem
def aF:=@List.mem_cons
def aH:=@List.mem_of_getElem?
def aI:=@List.map_map
def aK:=@List.length_range
def aL:=@List.mem_append
def aM:=@List.length_take
def aN:=@List.mem_range
def aO:=@List.mem_singleton
def aQ:=@Nat.lt_irrefl
def aR:=@Nat.le_trans
def aT:=@Nat.lt_succ_self
def aU:=@Nat.le_of_not_lt
def aV:=@List.nodup_cons
def aW:=@List.getElem?_eq_none
def aX:=@List.map_congr_left
def aY:=@List.mem_cons_self
def aZ:=@List.append_nil
def ba:=@decide_eq_true
def bc:=@Nat.min_eq_left
def bf:=@List.take_length
def bg:=@List.take_of_length_le
def bh:=@List.mem_filter
def bj:=@List.length_replicate
def bm:=@List.all_eq_true
def bn:=@List.any_eq_true
def bp:=@Bool.or_eq_true
def bq:=@Bool.false_ne_true
def br:=@List.getElem_mem
def bt:=@List.length_filter_le
def bu:=@List.getD_eq_getElem?_getD
def bv:=@decide_eq_true_eq
def bw:=@decide_eq_false
def bx:=@List.length_drop
def bz:=@List.getElem?_take_of_lt
def bA:=@List.getElem?_replicate
def fv:=@PySem.wpAny_bind
def fF:=@PySem.Heap.get?_push_of_some
def fG:=@PySem.wpAny_pure
def fH:=@PySem.Heap.lt_size
def fI:=@PySem.Heap.get?_push_size
def fJ:=@decide_false
def fK:=@Bool.not_true
def fL:=@Nat.mod_lt
def fM:=@decide_true
def fN:=@congrArg
def fO:=@List.getElem?_set_ne
def fP:=@Nat.ne_of_lt
def fQ:=@PySem.wpAny_field
def fR:=@Ne.symm
def fS:=@Nat.le_of_ble_eq_true
def fT:=@Bool.true_and
def fU:=@if_true
def fV:=@PySem.Heap.SameBut.update
def fW:=@Bool.false_and
def fX:=@PySem.wpAny_seqItems
def fY:=@List.getElem?_set_self
def fZ:=@Bool.false_eq_true
def ga:=@Nat.le_add_right
def gb:=@PySem.wpAny_callSpecial?_slot
def gd:=@Nat.zero_le
def gf:=@PySem.wpAny_truthy_bool
def gi:=@PyProof.Rows.callWith_type1
def gj:=@of_decide_eq_false
def gm:=@PySem.wpAny_nextOf_list_item
def gq:=@Bool.not_false
def gr:=@PySem.wpAny_holding
def gu:=@PySem.Heap.size_push
def gw:=@PySem.wpAny_setField_rec
def gx:=@PyProof.Rows.slot_tuple_getitem
def gy:=@PySem.wpAny_mono
def gz:=@if_false
def gA:=@or_false
def gB:=@PySem.wpAny_updateSeq_pair
def gC:=@PySem.wpAny_onRaise
def gD:=@Bool.and_self
def gE:=@PySem.wpAny_setField
def gF:=@Nat.ne_of_gt
def gG:=@decide_eq_true_iff
def gH:=@PySem.wpAny_passesOwn
def gI:=@Bool.eq_iff_iff
def gJ:=@PySem.wpAny_nextOf_list_end
def gK:=@PySem.StrLaws.glued_eq_join
def gL:=@PySem.wpAny_getItem_str_slice
def gM:=@PySem.tupleKind_room_in1
def gO:=@List.drop_of_length_le
def gP:=@PySem.wpAny_newObj_type
def gQ:=@PySem.Heap.get?_update_self
def gR:=@PySem.wpAny_call_entry
def gS:=@PySem.wpAny_pyIter_zip
def gT:=@PySem.wpAny_rule
def gU:=@PySem.codeAny_call_builtin
def gV:=@PySem.strKind_is
def gX:=@PySem.sizeLine_eq
def gY:=@PySem.Calls.spliced_cons
def gZ:=@PySem.wpAny_Call_Name_kw
def hU:=@PySem.Txt.slice_le
def hV:=@PySem.call_meets
def hW:=@PySem.wpAny_pyIter_list
def hZ:=@Option.isSome_map
def ie:=@PySem.wpAny_letGo
open PySem.W (instObj methodObj Frag lookIn plainGet hasDictIn handedIn plainOver takerIn makesIn emptyDict mroIn kitOne kia_one kitx_list kitx_dict isFn fnOf mg_of ns_none_of)
open PyProof.Rows (boot_tuple boot_str boot_int boot_list boot_all boot_any boot_max boot_dict split_pos slice_from_eq)
open PySem.F (slot_tuple_add entry_tuple_add args_tuple_add_2 slot_dict_get slot_str_split entry_str_split args_str_split_2 plainAttrs_str)
open PySem.Builtin.SmallTypes (ownedTupleIsFree nextOf ownedTupleHandOut stopIteration)
open PySem.Builtin.Str (occurrences strKind partsBetween tooLong glued)
open PySem.Builtin.Slice (sliceAdjust slicePlaces sliceApplied sliceFields)
open PySem.Builtin.List (listTooLong listExtendWith listItems)
open PySem.Builtin.Tuple (tupleItemsOf tupleExact)
open List (mem_append_left getElem_inj mem_append_right size_toArray length_cons map_cons of_mem_zip all_cons any_cons length_singleton length_nil map_nil lookup_cons forIn_cons all_map not_mem_nil replicate_succ foldl_cons drop_eq_getElem_cons drop_zero forIn_nil nodup_append ext_getElem? length_eq_zero_iff nil_append isEmpty_iff nodup_nil drop_length cons_ne_nil cons_append map_id filter_map all_nil drop_succ_cons mem_of_mem_drop length_zip take_succ_eq_append_getElem take_append_drop map_drop foldl_append map_take)
local macro_rules
  | `(↥$x) => `(($x).length)
local macro_rules
  | `(~~~$x) => `(some (.ref $x))
local macro_rules
  | `($x⁻¹) => `(some (.int ($x : Int)))
local macro_rules
  | `(∅) => `(by decide)
local macro_rules
  | `(nofun) => `(by ac_nf)
local macro_rules
  | `(⇑($x)) => `(.int (($x : Nat) : Int))
  | `(⇑$x) => `(.int ($x : Int))
local macro_rules
  | `(tactic| ac_nf) => `(tactic| first | assumption | exact Nat.le_trans (by assumption) (by decide) | exact Nat.lt_of_le_of_lt (by assumption) (by decide) | exact (Int.natCast_add _ _).symm | exact Nat.le_of_lt (by assumption) | omega)
local macro_rules
  | `($a >=> $b) => `(.cons $a $b)
local macro_rules
  | `(⋯) => `(by simp)
noncomputable section
set_option compiler.extract_closed false
namespace L2
open PySem PySem.Spec PyProof.Rows
abbrev Key:=Sum Int Str
def a4C:Key->Value->Bool
 |.inl k,v=>Value.isInt k v
 |.inr x,v=>Value.isStrOf x v
def c2w(w:World):Key->Int
 |.inl k=>hashInt k
 |.inr x=>hashStr w x
theorem C6:∀{k:Key}{v:Value},a4C k v=true->(∃i t,k=Sum.inl i/\v=Value.int i t)∨(∃x t,k=Sum.inr x/\v=Value.str x t)
 |.inl i,v,h=>by obtain⟨t,e⟩:=Value.isInt_shape (k:=i) (v:=v) h;exact .inl ⟨i,t,rfl,e⟩
 |.inr x,v,h=>by obtain⟨t,e⟩:=Value.isStrOf_shape (x:=x) (v:=v) h;exact .inr ⟨x,t,rfl,e⟩
theorem a9U(i:Int)(t:Tok):a4C (.inl i) (.int i t)=true:=by simp[a4C,Value.isInt]
theorem a9T(x:Str)(t:Tok):a4C (.inr x) (.str x t)=true:=by simp[a4C,Value.isStrOf]
theorem b8b(a b:Int):decide ((Sum.inl a:Key)=Sum.inl b)=(a==b):=by
 by_cases e:a=b
 · subst e;simp
 · have h:¬(Sum.inl a:Key)=Sum.inl b:=λq=>e (Sum.inl.inj q);rw[bw h];exact(beq_eq_false_iff_ne.mpr e).symm
theorem b7Y(a b:Str):decide ((Sum.inr a:Key)=Sum.inr b)=decide (a=b):=by
 by_cases e:a=b
 · subst e;simp
 · have h:¬(Sum.inr a:Key)=Sum.inr b:=λq=>e (Sum.inr.inj q);rw[bw h,bw e]
theorem b8a(a:Int)(b:Str):decide ((Sum.inl a:Key)=Sum.inr b)=false:=bw (λq=>nomatch q)
theorem b7Z(a:Str)(b:Int):decide ((Sum.inr a:Key)=Sum.inl b)=false:=bw (λq=>nomatch q)
noncomputable def x5(prog:Program)(w:World):PySem.KeyKind prog w Key where
 is:=a4C
 hash:=c2w w
 inj:=λv a b ha hb=>by
  rcases C6 ha with⟨i,t,rfl,rfl⟩|⟨x,t,rfl,rfl⟩
  · rcases C6 hb with⟨j,u,rfl,e⟩|⟨y,u,rfl,e⟩
    · injection e with e1 _;rw[e1]
    · exact nomatch e
  · rcases C6 hb with⟨j,u,rfl,e⟩|⟨y,u,rfl,e⟩
    · exact nomatch e
    · injection e with e1 _;rw[e1]
 byValue:=λk v h=>by rcases C6 h with⟨i,t,rfl,rfl⟩|⟨x,t,rfl,rfl⟩<;>rfl
 pyHash:=λhv h=>by
  rcases C6 hv with⟨i,t,rfl,rfl⟩|⟨x,t,rfl,rfl⟩
  · exact wpAny_pyHash_int h
  · exact wpAny_pyHash_str h
 eqBool:=λhu hv h=>by
  rcases C6 hu with⟨i,t,rfl,rfl⟩|⟨x,t,rfl,rfl⟩
  · rcases C6 hv with⟨j,u,rfl,rfl⟩|⟨y,u,rfl,rfl⟩
    · rw[b8b] at h;exact wpAny_eqBool_int h
    · rw[b8a] at h;exact SeqAt.EqAt.int_str i t y u _ _ _ _ h
  · rcases C6 hv with⟨j,u,rfl,rfl⟩|⟨y,u,rfl,rfl⟩
    · rw[b7Z] at h;exact SeqAt.EqAt.str_int x t j u _ _ _ _ h
    · rw[b7Y] at h;exact wpAny_eqBool_str h
 «strs»:=λk x t v h=>by
  rcases C6 h with⟨i,u,rfl,e⟩|⟨y,u,rfl,e⟩
  · exact nomatch e
  · injection e with e1 _;subst e1;cases v<;>rfl
theorem a6H(prog:Program)(w:World)(i:Int)(t:Tok):(x5 prog w).is (.inl i) (.int i t)=true:=a9U i t
theorem a6G(prog:Program)(w:World)(x:Str)(t:Tok):(x5 prog w).is (.inr x) (.str x t)=true:=a9T x t
inductive V where
 |non|bl (b:Bool)|int (i:Int)|str (x:Str)|byt (b:Array UInt8)|flt (b:UInt64)|ref (a:Addr)|ty (n:String)
 deriving DecidableEq
def m8:V->Value->Prop
 |.non,u=>u=Value.none
 |.bl b,u=>u=Value.bool b
 |.int i,u=>∃t,u=Value.int i t
 |.str x,u=>∃t,u=Value.str x t
 |.byt b,u=>∃t,u=Value.bytes b t
 |.flt b,u=>∃t,u=Value.float b t
 |.ref a,u=>u=Value.ref a
 |.ty n,u=>u=Value.type n
abbrev p7:List V->List Value->Prop:=Paired m8
variable{us:List Value}
theorem p7.length{xs:List V}(r:p7 xs us):↥xs=↥us:=Paired.length r
theorem p7.get:∀{xs:List V}{us:List Value}{i:Nat}{x:V},p7 xs us->xs[i]? =some x->∃u,us[i]? =some u/\m8 x u
 |_,_,_,_,.nil,e=>by simp at e
 |_,_,0,_,.cons r _,e=>by simp at e;subst e;exact⟨_,rfl,r⟩
 |_,_,i+1,x,.cons _ t,e=>by obtain⟨u,h1,h2⟩:=p7.get (i:=i) (x:=x) t (by simpa using e);exact⟨u,by simpa using h1,h2⟩
theorem p7.set{x:V}{u:Value}(r:m8 x u):∀{xs:List V}{us:List Value}(i:Nat),p7 xs us->p7 (xs.set i x) (us.set i u)
 |_,_,_,.nil=>.nil
 |_,_,0,.cons _ t=>.cons r t
 |_,_,i+1,.cons q t=>.cons q (p7.set r i t)
theorem p7.append:∀{xs ys:List V}{us ws:List Value},p7 xs us->p7 ys ws->p7 (xs++ys) (us++ws)
 |_,_,_,_,.nil,s=>s
 |_,_,_,_,.cons r t,s=>.cons r (p7.append t s)
theorem p7.take:∀{xs:List V}{us:List Value}(n:Nat),p7 xs us->p7 (xs.take n) (us.take n)
 |_,_,0,_=>.nil
 |_,_,_+1,.nil=>.nil
 |_,_,n+1,.cons r t=>.cons r (p7.take n t)
theorem p7.drop:∀{xs:List V}{us:List Value}(n:Nat),p7 xs us->p7 (xs.drop n) (us.drop n)
 |_,_,0,r=>r
 |_,_,_+1,.nil=>.nil
 |_,_,n+1,.cons _ t=>p7.drop n t
def a0R:Option V->Option Value->Prop
 |some v,some u=>m8 v u
 |none,none=>True
 |_,_=>False
def KV{κ:Type}:List (κ×V)->List (κ×Value)->Prop:=Paired fun(p:κ×V) (q:κ×Value)=>p.1=q.1/\m8 p.2 q.2
def kV:Key->V
 |.inl i=>.int i
 |.inr x=>.str x
inductive HO where
 /-- a list -/
 |lst (xs:List V)
 /-- a tuple (never changes) -/
 |tup (xs:List V)
 /-- a dict whose dz are ints and texts; one whose dz are tuples of ints and texts (the empty one is both) -/
 |dK (bC:List (Key×V))|dT (bC:List (List Key×V))
 /-- a set of ints: bD members, bD size -/
 |set (S:Int->Bool) (n:Nat)
 /-- an instance of the class at C, bD dict at dx, bD attributes -/
 |ins (C dx:Addr) (fs:List (Str×V))
 /-- the dict of the instance at x -/
 |own (x:Addr)
 /-- the dict of an exception -/
 |xd (fs:List (Str×V))
 /-- a bound method, f of x -/
 |met (f x:Addr)
 /-- a range object lo, lo + 1, .. below hi -/
 |rng (lo hi:Int)
 /-- a thing that is known to the object (the script; a dict while a loop walks it): read, never written while it is so -/
 |frz (o:Obj) (u:HO)
 /-- a code object's table -/
 |tbl (ps:Array Value)
 /-- any other thing, by what is true of bD one object (a def of one's own: SetO a S n := HO.ext λh => ..) -/
 |ext (φ:Heap->Prop)
abbrev Hp:=Addr->Option HO
def upd(H:Hp)(a:Addr)(o:HO):Hp:=λb=>if b=a then some o else H b
variable{H:Hp}{a:Addr}
theorem i7{o:HO}:upd H a o a=some o:=by unfold upd;rw[ay rfl]
variable{b:Addr}
theorem n0{o:HO}(h:b≠a):upd H a o b=H b:=by unfold upd;rw[az h]
theorem c0n{o u:HO}(h:H a=some o)(h':H b=some u)(d:o≠u):a≠b:=by intro e;subst e;rw[h] at h';exact d (ax h')
theorem w6{o:HO}(h:H a=some o)(h':H b=none):a≠b:=by intro e;subst e;rw[h] at h';cases h'
def a0G(h:Heap)(a:Addr)(items:Array Value):Prop:=∃o,h.get? a=some o/\o.cls=.type "tuple"/\o.dict=none/\∃n,o.data=.seq items n
theorem a0G.tup{h:Heap}{a:Addr}{items:Array Value}(x:a0G h a items):IsTup h a items:=let⟨o,e,c,_,n⟩:=x;⟨o,e,c,n⟩
theorem a0G.new(h:Heap)(items:Array Value):a0G (h.push {cls:=.type "tuple",data:=.seq items}) h.objs.size items:=⟨_,fI _ rfl,rfl,rfl,_,rfl⟩
section
variable(P:Program)(w:World)
def D6(H:Hp)(h:Heap)(a:Addr):HO->Prop
 |.lst xs=>↥xs<=sizeLine/\∃(bD:List Value)(n:Nat),p7 xs bD/\h.get? a=some {cls:=.type "list",data:=.seq bD.toArray n}
 |.tup xs=>↥xs<=sizeLine/\∃bD:List Value,p7 xs bD/\a0G h a bD.toArray
 |.dK bC=>↥bC<=sizeLine/\(a==sysModules)=false/\∃vs,KV bC vs/\h.DictOf (x5 P w) a vs
 |.dT bC=>↥bC<=sizeLine/\(a==sysModules)=false/\∃xs:List (List Key×Addr×Value),
  Paired (fun(p:List Key×V) (q:List Key×Addr×Value)=>p.1=q.1/\H q.2.1=some (.tup (p.1.map kV))/\m8 p.2 q.2.2) bC xs∧
  ∃o es ep,h.get? a=some o/\o.ExactDict/\o.data=.dict es ep/\es.toList=xs.map (entryOfKey (tupleKind (x5 P w)))/\(xs.map (·.1)).Nodup
 |.set S n=>h.SetOf (intKind P w) a S n
 |.ins C dx fs=>H dx=some (.own a)/\↥fs<=1000/\dx≠a/\h.get? a=some (instObj C dx)∧
  ∃mA,h.Ns1 dx mA/\(∀f,a0R (fs.lookup f) (mA f))/\PySem.Within mA (fs.map (·.1))
 |.own _=>∃o,h.get? a=some o
 |.xd fs=>∃mA,h.Ns1 a mA/\∀f,a0R (fs.lookup f) (mA f)
 |.rng lo hi=>∃t u v,h.get? a=some {cls:=.type "range",data:=.fields #[.int lo t,.int hi u,.int 1 v]}
 |.frz o u=>h.get? a=some o/\D6 H h a u
 |.tbl ps=>h.get? a=some {cls:=.none,data:=.fields ps}
 |.met f x=>h.get? a=some (methodObj (.ref f) (.ref x))
 |.ext φ=>φ h/\(∃o,h.get? a=some o)/\∀h1 h2:Heap,φ h1->(∀o,h1.get? a=some o->h2.get? a=some o)->φ h2
def HOk(H:Hp)(h:Heap):Prop:=∀a o,H a=some o->D6 P w H h a o
end
variable{α:Type}
section
variable{P:Program}{w:World}{H':Hp}{h h':Heap}{o:HO}
theorem D6.lt(x:D6 P w H h a o):a<h.objs.size:=by
 cases o with
 |lst xs=>obtain⟨_,_,_,_,e⟩:=x;exact fH e
 |tup xs=>obtain⟨_,_,_,p⟩:=x;exact p.tup.lt
 |dK bC=>obtain⟨_,_,_,_,o,_,_,e,_⟩:=x;exact fH e
 |dT bC=>obtain⟨_,_,_,_,o,_,_,e,_⟩:=x;exact fH e
 |set S n=>obtain⟨o,_,_,_,e,_⟩:=x;exact fH e
 |ins C dx fs=>obtain⟨_,_,_,e,_⟩:=x;exact fH e
 |own y=>obtain⟨_,e⟩:=x;exact fH e
 |xd fs=>obtain⟨_,⟨_,_,_,e,_⟩,_⟩:=x;exact fH e
 |rng lo hi=>obtain⟨_,_,_,e⟩:=x;exact fH e
 |frz ob u=>obtain⟨e,_⟩:=x;exact fH e
 |tbl ps=>exact fH (show h.get? a=some _ from x)
 |met f y=>exact fH (show h.get? a=some _ from x)
 |ext φ=>obtain⟨_,⟨_,e⟩,_⟩:=x;exact fH e
theorem Paired.mapP{α β:Type}{F G:α->β->Prop}:∀{l₁:List α}{l₂:List β},Paired F l₁ l₂->(∀a b,F a b->G a b)->Paired G l₁ l₂
 |_,_,.nil,_=>.nil
 |_,_,.cons r t,f=>.cons (f _ _ r) (Paired.mapP t f)
theorem D6.stay(x:D6 P w H h a o)(k:∀b u,(b=a∨H b=some (.own a))->h.get? b=some u->h'.get? b=some u)
 (ho:∀b,H b=some (.own a)->H' b=some (.own a)) (ht:∀b xs,H b=some (.tup xs)->H' b=some (.tup xs)):D6 P w H' h' a o:=by
 induction o with
 |lst xs=>obtain⟨z,bD,n,r,e⟩:=x;exact⟨z,bD,n,r,k _ _ (.inl rfl) e⟩
 |tup xs=>obtain⟨z,bD,r,ob,e,c⟩:=x;exact⟨z,bD,r,ob,k _ _ (.inl rfl) e,c⟩
 |dK bC=>obtain⟨z,y,vs,r,ob,es,ep,e,c⟩:=x;exact⟨z,y,vs,r,ob,es,ep,k _ _ (.inl rfl) e,c⟩
 |dT bC=>
  obtain⟨z,y,xs,r,ob,es,ep,e,c⟩:=x;exact⟨z,y,xs,Paired.mapP r λp q z=>⟨z.1,ht _ _ z.2.1,z.2.2⟩,ob,es,ep,k _ _ (.inl rfl) e,c⟩
 |set S n=>obtain⟨ob,es,ep,t,e,c⟩:=x;exact⟨ob,es,ep,t,k _ _ (.inl rfl) e,c⟩
 |ins C dx fs=>
  obtain⟨d,z,ne,e,mA,⟨od,es,ep,e2,c⟩,r⟩:=x;exact⟨ho _ d,z,ne,k _ _ (.inl rfl) e,mA,⟨od,es,ep,k _ _ (.inr d) e2,c⟩,r⟩
 |own y=>obtain⟨ob,e⟩:=x;exact⟨ob,k _ _ (.inl rfl) e⟩
 |xd fs=>obtain⟨mA,⟨od,es,ep,e,c⟩,r⟩:=x;exact⟨mA,⟨od,es,ep,k _ _ (.inl rfl) e,c⟩,r⟩
 |rng lo hi=>obtain⟨t,u,v,e⟩:=x;exact⟨t,u,v,k _ _ (.inl rfl) e⟩
 |frz ob u ih=>obtain⟨e,q⟩:=x;exact⟨k _ _ (.inl rfl) e,ih q⟩
 |tbl ps=>
  have e:h.get? a=some {cls:=.none,data:=.fields ps}:=x;show h'.get? a=some {cls:=.none,data:=.fields ps};exact k a _ (.inl rfl) e
 |met f y=>
  have e:h.get? a=some (methodObj (.ref f) (.ref y)):=x;show h'.get? a=some (methodObj (.ref f) (.ref y));exact k a _ (.inl rfl) e
 |ext φ=>obtain⟨p,⟨o,e⟩,st⟩:=x;exact⟨st _ _ p λo q=>k _ _ (.inl rfl) q,⟨o,k _ _ (.inl rfl) e⟩,st⟩
theorem HOk.lt(x:HOk P w H h)(e:H a=some o):a<h.objs.size:=(x a o e).lt
theorem HOk.fresh(x:HOk P w H h)(e:h.objs.size<=a):H a=none:=by
 cases q:H a with
 |none=>rfl
 |some u=>exact absurd (aC (x.lt q) e) (aQ _)
theorem HOk.kept(x:HOk P w H h)(k:∀b u,h.get? b=some u->h'.get? b=some u):HOk P w H h':=λa o e=>
 (x a o e).stay (λb u _ q=>k b u q) (λ_ q=>q) λ_ _ q=>q
theorem HOk.laid(x:HOk P w H h)(k:∀b u,h.get? b=some u->h'.get? b=some u)(hp:h.objs.size<=a)(new:D6 P w (upd H a o) h' a o):HOk P w (upd H a o) h':=λb u e=>by
 have hn:=x.fresh hp
 by_cases hb:b=a
 · subst hb;rw[i7] at e;cases e;exact new
 · rw[n0 hb] at e;exact(x b u e).stay (λc v _ q=>k c v q) (λc q=>by rw[n0 (w6 q hn)];exact q) λc xs q=>by rw[n0 (w6 q hn)];exact q
end
def Rd(H:Hp)(a:Addr)(u:HO):Prop:=H a=some u∨∃o,H a=some (.frz o u)
variable{P:Program}{w:World}{h:Heap}
theorem Rd.ok{u:HO}(r:Rd H a u)(x:HOk P w H h):D6 P w H h a u:=by
 rcases r with r|⟨o,r⟩
 · exact x a u r
 · obtain⟨_,q⟩:=x a _ r;exact q
def Mut:Option HO->Prop
 |some (.lst _)=>True
 |some (.dK _)=>True
 |some (.dT _)=>True
 |some (.set _ _)=>True
 |some (.ins _ _ _)=>True
 |some (.ext _)=>True
 |_=>False
section
variable{h':Heap}{x e:Addr}{o':HO}
theorem HOk.write(ok:HOk P w H h)(mu:Mut (H x))(he:e=x∨H e=some (.own x))(k:∀b u,b≠e->h.get? b=some u->h'.get? b=some u)(heo:∃u,h'.get? e=some u)
 (new:D6 P w (upd H x o') h' x o'):HOk P w (upd H x o') h':=λb u q=>by
 have nown:∀c y,H c=some (.own y)->c≠x:=λc y r z=>by subst z;rw[r] at mu;exact mu
 have ntup:∀c xs,H c=some (.tup xs)->c≠x:=λc xs r z=>by subst z;rw[r] at mu;exact mu
 by_cases hb:b=x
 · subst hb;rw[i7] at q;cases q;exact new
 · rw [n0 hb] at q
   by_cases hbe:b=e
   · have q':H b=some (.own x):=by
      rcases he with z|z
      · exact absurd (hbe.trans z) hb
      · rw[hbe];exact z
     rw[q] at q';cases q';obtain⟨v,hv⟩:=heo;exact⟨v,by rw[hbe];exact hv⟩
   · refine(ok b u q).stay (λc v hc r=>k c v ?_ r) (λc r=>by rw[n0 (nown c b r)];exact r) λc xs r=>by rw[n0 (ntup c xs r)];exact r
     rcases hc with rfl|hc
     · exact hbe
     · rintro rfl;rcases he with z|z
       · exact nown c b hc z
       · rw[hc] at z;cases z;exact hb rfl
end
structure Un(fs ex:List Addr)(H H':Hp)(h h':Heap):Prop where
 keep:∀b o,h.get? b=some o->H b=none->b∉fs->b∉ex->h'.get? b=some o
 slot:∀b o,h.get? b=some o->H b=none->b∈fs->b∉ex->∃sl,h'.get? b=some {o with slots:=sl}
 free:∀b o,h.get? b=some o->H b=none->b∉ex->H' b=none
 there:∀b o,h.get? b=some o->b∉ex->∃o',h'.get? b=some o'
 tups:∀b xs,H b=some (.tup xs)->H' b=some (.tup xs)
 frzs:∀b o u,H b=some (.frz o u)->H' b=some (.frz o u)
 tbls:∀b ps,H b=some (.tbl ps)->∃di,H' b=some (.tbl (ps++di))
section
variable{fs fs' ex ex':List Addr}{H1 H2:Hp}{h1 h2 h':Heap}{x e:Addr}{o:HO}
theorem Un.any(u:Un fs ex H H1 h h1){ob:Obj}(q:h.get? b=some ob)(n:H b=none)(hx:b∉ex):∃sl,h1.get? b=some {ob with slots:=sl}:=by
 by_cases hb:b∈fs
 · exact u.slot b ob q n hb hx
 · exact⟨ob.slots,u.keep b ob q n hb hx⟩
theorem Un.kept(k:∀b u,h.get? b=some u->h'.get? b=some u):Un fs ex H H h h':=
 ⟨λb ob q _ _ _=>k b ob q,λb ob q _ _ _=>⟨ob.slots,k b ob q⟩,λ_ _ _ n _=>n,λb ob q _=>⟨ob,k b ob q⟩,λ_ _ q=>q,λ_ _ _ q=>q,λ_ ps q=>⟨#[],by rw[q];simp⟩⟩
theorem Un.refl:Un fs ex H H h h:=Un.kept λ_ _ q=>q
theorem Un.laid(k:∀b u,h.get? b=some u->h'.get? b=some u)(hp:h.objs.size<=a)(hn:H a=none):Un fs ex H (upd H a o) h h' where
 keep:=λb u q _ _ _=>k b u q
 slot:=λb u q _ _ _=>⟨u.slots,k b u q⟩
 free:=λb u q n _=>by rw[n0 (fP (aC (fH q) hp))];exact n
 there:=λb u q _=>⟨u,k b u q⟩
 tups:=λb xs q=>by rw[n0 (w6 q hn)];exact q
 frzs:=λb u xs q=>by rw[n0 (w6 q hn)];exact q
 tbls:=λb ps q=>⟨#[],by rw[n0 (w6 q hn),q];simp⟩
theorem Un.write(mu:Mut (H x))(he:e=x∨H e=some (.own x))(k:∀b u,b≠e->h.get? b=some u->h'.get? b=some u)(heo:∃u,h'.get? e=some u):Un fs ex H (upd H x o) h h':=by
 have hx:∀b,H b=none->b≠x:=λb n z=>by subst z;rw[n] at mu;exact mu
 have hb:∀b,H b=none->b≠e:=λb n z=>by
  subst z;rcases he with r|r
  · exact hx b n r
  · rw[n] at r;cases r
 have hm:∀b u,H b=some u->¬Mut (some u)->b≠x:=λb u q nm z=>by subst z;rw[q] at mu;exact nm mu
 refine⟨λb u q n _ _=>k b u (hb b n) q,λb u q n _ _=>⟨u.slots,k b u (hb b n) q⟩,λb u q n _=>by rw[n0 (hx b n)];exact n,λb u q _=>?_,
  λb xs q=>by rw[n0 (hm b _ q λz=>z)];exact q,λb u xs q=>by rw[n0 (hm b _ q λz=>z)];exact q,λb ps q=>⟨#[],by rw[n0 (hm b _ q λz=>z),q];simp⟩⟩
 by_cases hbe:b=e
 · subst hbe;exact heo
 · exact⟨u,k b u hbe q⟩
end
def trk(h:Heap)(H:Hp):List Addr:=(List.range h.objs.size).filter λa=>(H a).isSome
def a5D(h:Heap)(H:Hp):Heap:=PySem.W.hideAll h (trk h H)
theorem a9Y(h:Heap)(H:Hp):(a5D h H).objs.size=h.objs.size:=PySem.W.hideAll_size _ _
theorem b2o{o:Obj}(e:h.get? b=some o)(n:H b=none):(a5D h H).get? b=some o:=
 PySem.W.hideAll_get _ e λhm=>by have q:(H b).isSome=true:=(bh.mp hm).2;rw[n] at q;simp at q
theorem b4Z{o:Obj}(e:(a5D h H).get? b=some o):h.get? b=some o/\H b=none:=by
 have e':h.get? b=some o:=PySem.W.of_hideAll (trk h H) e;refine⟨e',?_⟩;cases q:H b with
 |none=>rfl
 |some x=>
  have hm:b∈trk h H:=bh.mpr ⟨aN.mpr (fH e'),by simp[q]⟩;have z:(a5D h H).get? b=none:=PySem.W.hideAll_none (trk h H) hm;rw[z] at e;cases e
def b6m(g h:Heap)(L:Addr):List (Addr×Obj):=(List.range h.objs.size).filterMap λa=>if a=L∨(g.get? a).isSome=true then none else(h.get? a).map λo=>(a,o)
variable{g:Heap}{L:Addr}
def d9(g h:Heap)(L d:Addr):List (Addr×Obj):=(b6m g h L).filter λp=>decide (p.1≠d)
variable{d:Addr}{h':Heap}{m:Str->Option Value}
structure Mod(K:Frag)(mg:Str->Option Value)(base:Heap):Prop where
 kin:K.In base
 glob:base.Ns mainGlobals mg
 blt:∃mb,base.Ns builtinsNs mb/\∀x:Str,x≠"__name__"->mb x=bootBuiltins x
 nolimit:base.NoLimit
structure Cx where
 prog:Program
 w:World
 K:Frag
 mg:Str->Option Value
 base:Heap
 A:Around
 N:List Str
 s₀:Shared
 H₀:Hp
 env:Env
 outer:List Env
 stack:List Env
 ex:List Addr
 fn:Str->Bool
 calm:Bool
 pn:List (Addr×Obj)
 xe:Value->Shared->Prop
def frs(l:List Env):List Addr:=l.filterMap (·.frame)
abbrev Cx.fs(X:Cx):List Addr:=frs X.outer
def Vis(sc:Scope)(x:Str):Prop:=sc.names.lookup x=some .local∨sc.names.lookup x=some .cell∨sc.names.lookup x=some .free
def Loc(sc:Scope)(x:Str):Prop:=sc.names.lookup x=some .local∨sc.names.lookup x=some .cell
def c3b(env:Env)(h:Heap)(m:Str->Option Value)(x:Str)(u:Value):Prop:=
 (env.kindOf x=some .local/\m x=some u)∨((env.kindOf x=some .cell∨env.kindOf x=some .free)/\∃c,env.cells.lookup x=some c/\h.IsCell c (some u))
structure Cx.Ok(X:Cx):Prop where
 mod:Mod X.K X.mg X.base
 kind:X.env.scope.kind=.function
 glob:X.env.globals=mainGlobals
 blt:X.env.builtins=builtinsNs
 above:X.s₀.heap.objs.size<=X.env.locals
 inj:∀x y c,X.env.cells.lookup x=some c->X.env.cells.lookup y=some c->x=y
 has:∀x,(X.env.kindOf x=some .cell∨X.env.kindOf x=some .free)->∃c,X.env.cells.lookup x=some c
 cab:∀x c,X.fn x=true->X.env.cells.lookup x=some c->X.s₀.heap.objs.size<=c
 hd:X.calm=true->X.A.handled=none
 frames:X.A.frames=some X.stack
 stk:X.stack=X.outer∨(X.stack=X.env::X.outer/\X.env.frame=some X.env.locals)
 exf:∀b∈X.ex,b≠X.env.locals/\∀x c,X.env.cells.lookup x=some c->c≠b
 bs:∀b o,X.base.get? b=some o->X.s₀.heap.get? b=some o/\X.H₀ b=none
 bsz:X.base.objs.size<=X.s₀.heap.objs.size
 noex:∀b o,X.base.get? b=some o->b∉X.ex
 exfs:∀b∈X.ex,b∉X.fs
 funs:X.s₀.heap.FunFrames X.base X.outer
 frf:∀b∈X.fs,X.H₀ b=none
structure Inv(X:Cx)(bB:List (Addr×Obj))(σ:List (Option V))(H:Hp)(s:Shared):Prop where
 ok:X.Ok
 os:s.os=X.s₀.os
 bare:AllBare s.gens
 base:Un X.fs X.ex X.H₀ H X.s₀.heap s.heap
 loc:∃m,s.heap.Ns X.env.locals m/\∀(i:Nat)(x:Str)(v:V),X.N[i]? =some x->σ[i]? =some (some v)->Vis X.env.scope x->∃u,m8 v u/\c3b X.env s.heap m x u
 cell:∀x c,X.env.cells.lookup x=some c->∃v,s.heap.IsCell c v
 free:H X.env.locals=none
 freeC:∀x c,X.env.cells.lookup x=some c->H c=none
 pin:∀p∈X.pn++bB,s.heap.get? p.1=some p.2/\H p.1=none/\p.1≠X.env.locals/\p.1∉X.fs/\∀v,p.2.data≠.cell v
 hok:HOk X.prog X.w H s.heap
 len:↥σ=↥X.N
variable{g':Array GenState}{ch:List Addr}{it:Addr}{N:List Str}{j:Nat}{x:Str}{M:Model}{A:Around}{v:V}{u:Value}{s':Shared}
section
variable{X:Cx}{bB:List (Addr×Obj)}{σ:List (Option V)}{H':Hp}{s:Shared}
theorem Cx.Ok.nofr(ok:X.Ok){o:Obj}(e:X.base.get? b=some o):b∉X.fs:=λhb=>by have:=(ok.funs.mem hb).1;rw[e] at this;cases this
theorem Inv.bs(I:Inv X bB σ H s):∀b o,X.base.get? b=some o->s.heap.get? b=some o/\H b=none:=λb o e=>
 ⟨I.base.keep b o (I.ok.bs b o e).1 (I.ok.bs b o e).2 (I.ok.nofr e) (I.ok.noex b o e),I.base.free b o (I.ok.bs b o e).1 (I.ok.bs b o e).2 (I.ok.noex b o e)⟩
theorem Inv.bk(I:Inv X bB σ H s):∀b o,X.base.get? b=some o->s.heap.get? b=some o:=λb o e=>(I.bs b o e).1
theorem Inv.mod(I:Inv X bB σ H s):Mod X.K X.mg X.base:=I.ok.mod
theorem Inv.kIn(I:Inv X bB σ H s):X.K.In s.heap:=I.ok.mod.kin.keeps I.bk
theorem Inv.lt(I:Inv X bB σ H s):X.env.locals<s.heap.objs.size:=let⟨_,hn,_⟩:=I.loc;hn.lt
theorem Inv.sz(I:Inv X bB σ H s):X.s₀.heap.objs.size<=s.heap.objs.size:=aR I.ok.above (Nat.le_of_lt I.lt)
theorem Inv.nofs(I:Inv X bB σ H s)(h:s.heap.objs.size<=a):a∉X.fs:=λhb=>by obtain⟨_,o,ho,_⟩:=I.ok.funs.mem hb;exact absurd (aC (fH ho) (aR I.sz h)) (aQ _)
theorem Inv.cne(I:Inv X bB σ H s):∀x c,X.env.cells.lookup x=some c->c≠X.env.locals:=λx c e z=>by obtain⟨v,o,ho,hd⟩:=I.cell x c e;obtain⟨m,⟨o',es,ep,dE,eQ,_⟩,_⟩:=I.loc;rw[z,dE] at ho;cases ho;rw[eQ] at hd;cases hd
theorem Inv.funs(I:Inv X bB σ H s):s.heap.FunFrames X.base X.outer:=by
 have all:∀(l:List Env),(∀b∈frs l,b∈X.fs)->X.s₀.heap.FunFrames X.base l->s.heap.FunFrames X.base l:=by
  intro l
  induction l with
  |nil=>intro _ _;trivial
  |cons env r ih=>
   intro hs hl;obtain⟨hk,⟨L,o,hf,hn,ho,hd⟩,hr⟩:=hl;have hL:L∈X.fs:=hs L (by unfold frs;rw[List.filterMap_cons,hf];exact aY);obtain⟨sl,e⟩:=I.base.slot L o ho (I.ok.frf L hL) hL λz=>I.ok.exfs L z hL;exact⟨hk,⟨L,_,hf,hn,e,hd⟩,ih (λb hb=>hs b (by unfold frs;rw[List.filterMap_cons,hf];exact aE _ hb)) hr⟩
 exact all X.outer (λ_ hb=>hb) I.ok.funs
theorem Inv.stack(I:Inv X bB σ H s):s.heap.FunFrames X.base X.stack:=by
 rcases I.ok.stk with e|⟨e,hf⟩
 · rw[e];exact I.funs
 · rw[e];obtain⟨m,hn,_⟩:=I.loc;refine .cons (by rw[I.ok.kind];decide) hf hn ?_ I.funs;exact Heap.get?_none_of_le (aR I.ok.bsz I.ok.above)
theorem Inv.stkSub(I:Inv X bB σ H s):∀b∈frs X.stack,b∈X.env.locals::X.fs:=λb hb=>by
 rcases I.ok.stk with e|⟨e,hf⟩
 · rw[e] at hb;exact aE _ hb
 · rw[e] at hb;unfold frs at hb;rw[List.filterMap_cons,hf] at hb;exact hb
theorem Inv.stkFree(I:Inv X bB σ H s):∀b∈frs X.stack,H b=none:=λb hb=>by
 rcases aF.mp (I.stkSub b hb) with e|hb
 · rw[e];exact I.free
 · obtain⟨_,o,ho,_⟩:=I.ok.funs.mem hb;exact I.base.free b o ho (I.ok.frf b hb) λz=>I.ok.exfs b z hb
theorem Inv.step{t':Nat}{d':Drawn}(I:Inv X bB σ H s)
 (hch:∀b∈ch,(b∈X.ex∨X.s₀.heap.objs.size<=b)/\b≠X.env.locals/\(∀x c,X.env.cells.lookup x=some c->c≠b)/\∀p∈X.pn++bB,p.1≠b)
 (keep:∀b o,b≠X.env.locals->b∉X.fs->b∉ch->s.heap.get? b=some o->H b=none->h'.get? b=some o)
 (slot:∀b o,b≠X.env.locals->b∈X.fs->b∉ch->s.heap.get? b=some o->H b=none->∃sl,h'.get? b=some {o with slots:=sl}) (free:∀b o,b∉ch->s.heap.get? b=some o->H b=none->H' b=none)
 (there:∀b o,b∉ch->s.heap.get? b=some o->∃o',h'.get? b=some o')
 (tups:∀b xs,H b=some (.tup xs)->H' b=some (.tup xs)) (frzs:∀b o u,H b=some (.frz o u)->H' b=some (.frz o u)) (tbls:∀b ps,H b=some (.tbl ps)->∃di,H' b=some (.tbl (ps++di)))
 (ns:∀m,s.heap.Ns X.env.locals m->h'.Ns X.env.locals m) (hok:HOk X.prog X.w H' h') (hg:AllBare g'):
 Inv X bB σ H' {s with heap:=h',gens:=g',drawn:=d',toks:=t'}:=by
 have neL:∀b o,X.s₀.heap.get? b=some o->b≠X.env.locals:=λb o e=>fP (aC (fH e) I.ok.above);have neC:∀b o,X.s₀.heap.get? b=some o->b∉X.ex->b∉ch:=λb o e hx hb=>by
  rcases(hch b hb).1 with z|z
  · exact hx z
  · exact absurd (aC (fH e) z) (aQ _)
 have cellK:∀x c,X.env.cells.lookup x=some c->∀v,s.heap.IsCell c v->h'.IsCell c v:=λx c e v ⟨o,ho,hd⟩=>by
  have nch:c∉ch:=λz=>(hch c z).2.2.1 x c e rfl
  by_cases hc:c∈X.fs
  · obtain⟨sl,q⟩:=slot c o (I.cne x c e) hc nch ho (I.freeC x c e);exact⟨_,q,hd⟩
  · exact⟨o,keep c o (I.cne x c e) hc nch ho (I.freeC x c e),hd⟩
 refine⟨I.ok,I.os,hg,⟨λb o e n hb hx=>?_,λb o e n hb hx=>?_,λb o e n hx=>?_,λb o e hx=>?_,λb xs e=>tups b xs (I.base.tups b xs e),λb o xs e=>frzs b o xs (I.base.frzs b o xs e),λb ps e=>?_⟩,?_,λx c e=>?_,?_,λx c e=>?_,λp hp=>?_,hok,I.len⟩
 · exact keep b o (neL b o e) hb (neC b o e hx) (I.base.keep b o e n hb hx) (I.base.free b o e n hx)
 · obtain⟨sl,e1⟩:=I.base.slot b o e n hb hx;obtain⟨sl',e2⟩:=slot b _ (neL b o e) hb (neC b o e hx) e1 (I.base.free b o e n hx);exact⟨sl',e2⟩
 · obtain⟨o',e1⟩:=I.base.there b o e hx;exact free b o' (neC b o e hx) e1 (I.base.free b o e n hx)
 · obtain⟨o',e1⟩:=I.base.there b o e hx;exact there b o' (neC b o e hx) e1
 · obtain⟨m1,e1⟩:=I.base.tbls b ps e;obtain⟨m2,e2⟩:=tbls b _ e1;exact⟨m1++m2,by rw[e2,Array.append_assoc]⟩
 · obtain⟨m,hn,hl⟩:=I.loc;refine⟨m,ns m hn,λi x v e1 e2 e3=>?_⟩;obtain⟨u,r,l⟩:=hl i x v e1 e2 e3;refine⟨u,r,?_⟩;rcases l with l|⟨k,c,e,z⟩
   · exact .inl l
   · exact .inr ⟨k,c,e,cellK x c e _ z⟩
 · obtain⟨v,z⟩:=I.cell x c e;exact⟨v,cellK x c e v z⟩
 · obtain⟨m,⟨o,_,_,ho,_⟩,_⟩:=I.loc;exact free _ o (λz=>(hch _ z).2.1 rfl) ho I.free
 · obtain⟨v,o,ho,hd⟩:=I.cell x c e;exact free c o (λz=>(hch c z).2.2.1 x c e rfl) ho (I.freeC x c e)
 · obtain⟨e,n,ne,nf,d⟩:=I.pin p hp;have nch:p.1∉ch:=λz=>(hch p.1 z).2.2.2 p hp rfl;exact⟨keep p.1 p.2 ne nf nch e n,free p.1 p.2 nch e n,ne,nf,d⟩
theorem Inv.un{t':Nat}(I:Inv X bB σ H s)(u:Un X.fs [] H H' s.heap h')(hok:HOk X.prog X.w H' h'):Inv X bB σ H' {s with heap:=h',toks:=t'}:=by
 obtain⟨m,⟨o,es,ep,ho,r⟩,_⟩:=id I.loc;obtain⟨sl,hL⟩:=u.any ho I.free ⋯;exact I.step (g':=s.gens) (d':=s.drawn) (ch:=[]) (λ_ z=>nomatch z) (λb o _ hb _ e n=>u.keep b o e n hb ⋯) (λb o _ hb _ e n=>u.slot b o e n hb ⋯) (λb o _ e n=>u.free b o e n ⋯) (λb o _ e=>u.there b o e ⋯) u.tups u.frzs u.tbls (λm' hm=>by obtain⟨o',es',ep',dE,r'⟩:=hm;rw[ho] at dE;cases dE;exact⟨_,es',ep',hL,r'⟩) hok I.bare
theorem Inv.call{t':Nat}{d':Drawn}(I:Inv X bB σ H s)(u:Un (frs X.stack) ch H H' s.heap h')(hok:HOk X.prog X.w H' h')(hg:AllBare g')
 (hch:∀b∈ch,(b∈X.ex∨X.s₀.heap.objs.size<=b)/\b≠X.env.locals/\(∀x c,X.env.cells.lookup x=some c->c≠b)/\∀p∈X.pn++bB,p.1≠b):
 Inv X bB σ H' {s with heap:=h',gens:=g',drawn:=d',toks:=t'}:=by
 obtain⟨m,⟨o,es,ep,ho,r⟩,_⟩:=id I.loc;obtain⟨sl,hL⟩:=u.any ho I.free λz=>(hch _ z).2.1 rfl;exact I.step (ch:=ch) hch (λb o hL hb hc e n=>u.keep b o e n (λz=>(aF.mp (I.stkSub b z)).elim hL hb) hc) (λb o _ _ hc e n=>u.any e n hc) (λb o hc e n=>u.free b o e n hc) (λb o hc e=>u.there b o e hc) u.tups u.frzs u.tbls (λm' hm=>by obtain⟨o',es',ep',dE,r'⟩:=hm;rw[ho] at dE;cases dE;exact⟨_,es',ep',hL,r'⟩) hok hg
theorem Inv.turned{t':Nat}(I:Inv X bB σ H s)(k:∀b o,b≠it->s.heap.get? b=some o->h'.get? b=some o)(hn:H it=none)(hL:it≠X.env.locals)
 (h1:it∈X.ex∨X.s₀.heap.objs.size<=it) (h2:∀x c,X.env.cells.lookup x=some c->c≠it) (h3:∀p∈X.pn++bB,p.1≠it):Inv X bB σ H {s with heap:=h',toks:=t'}:=by
 have nit:∀b u,H b=some u->b≠it:=λb u e z=>by rw[z,hn] at e;cases e
 refine I.step (g':=s.gens) (d':=s.drawn) (ch:=[it]) (λb hb=>?_) (λb o _ _ hc e _=>k b o (λz=>hc (by simp[z])) e) (λb o _ _ hc e _=>⟨o.slots,k b o (λz=>hc (by simp[z])) e⟩) (λ_ _ _ _ n=>n)
  (λb o hc e=>⟨o,k b o (λz=>hc (by simp[z])) e⟩) (λ_ _ e=>e) (λ_ _ _ e=>e) (λb ps e=>⟨#[],by rw[e];simp⟩) (λm hm=>?_) (λb u e=>?_) I.bare
 · have e:b=it:=by simpa using hb
   subst e;exact⟨h1,hL,h2,h3⟩
 · obtain⟨o,es,ep,ho,r⟩:=hm;exact⟨o,es,ep,k _ o (fR hL) ho,r⟩
 · refine(I.hok b u e).stay (λc v hc q=>k c v ?_ q) (λ_ q=>q) λ_ _ q=>q;rcases hc with z|z
   · rw[z];exact nit b u e
   · exact nit c _ z
theorem Inv.tok(I:Inv X bB σ H s)(t:Nat):Inv X bB σ H {s with toks:=t}:=I.un (h':=s.heap) (t':=t) Un.refl I.hok
theorem Inv.kept{t':Nat}(I:Inv X bB σ H s)(k:∀b u,s.heap.get? b=some u->h'.get? b=some u):Inv X bB σ H {s with heap:=h',toks:=t'}:=I.un (Un.kept k) (I.hok.kept k)
theorem Inv.laid{o:HO}{t':Nat}(I:Inv X bB σ H s)(k:∀b u,s.heap.get? b=some u->h'.get? b=some u)(hp:s.heap.objs.size<=a)(new:D6 X.prog X.w (upd H a o) h' a o):
 Inv X bB σ (upd H a o) {s with heap:=h',toks:=t'}:=I.un (Un.laid k hp (I.hok.fresh hp)) (I.hok.laid k hp new)
theorem Inv.write{x e:Addr}{o:HO}{t':Nat}(I:Inv X bB σ H s)(mu:Mut (H x))(he:e=x∨H e=some (.own x))(k:∀b u,b≠e->s.heap.get? b=some u->h'.get? b=some u)(heo:∃u,h'.get? e=some u)
 (new:D6 X.prog X.w (upd H x o) h' x o):Inv X bB σ (upd H x o) {s with heap:=h',toks:=t'}:=I.un (Un.write mu he k heo) (I.hok.write mu he k heo new)
theorem Inv.weak{bO:List (Option V)}(I:Inv X bB σ H s)(hl:↥bO=↥σ)(w:∀(i:Nat) v,bO[i]? =some (some v)->σ[i]? =some (some v)):Inv X bB bO H s:=
 ⟨I.ok,I.os,I.bare,I.base,let⟨m,hn,hl'⟩:=I.loc;⟨m,hn,λi x v e1 e2 e3=>hl' i x v e1 (w i v e2) e3⟩,I.cell,I.free,I.freeC,I.pin,I.hok,hl.trans I.len⟩
theorem Inv.pins_of{pins':List (Addr×Obj)}(I:Inv X bB σ H s)(h:∀p∈pins',s.heap.get? p.1=some p.2/\H p.1=none/\p.1≠X.env.locals/\p.1∉X.fs/\∀v,p.2.data≠.cell v):Inv X pins' σ H s:=
 ⟨I.ok,I.os,I.bare,I.base,I.loc,I.cell,I.free,I.freeC,λp hp=>(aL.mp hp).elim (λz=>I.pin p (mem_append_left _ z)) (h p),I.hok,I.len⟩
theorem a6D(hN:N.Nodup){i:Nat}(a:N[i]? =some x)(b:N[j]? =some x):i=j:=by obtain⟨h1,e1⟩:=ac.mp a;obtain⟨h2,e2⟩:=ac.mp b;exact(getElem_inj hN).mp (e1.trans e2.symm)
theorem a4r{E:Value->Shared->Prop}{i:Nat}{Q:Unit->Shared->Prop}(I:Inv X bB σ H s)(hN:X.N.Nodup)(hi:X.N[i]? =some x)(hx:Loc X.env.scope x)(r:m8 v u)
 (h:∀s',Inv X bB (σ.set i (some v)) H s'->(∃a,Heap.SameBut a s.heap s'.heap/\(a=X.env.locals∨X.env.cells.lookup x=some a))->Q () s') (hf:X.fn x=true∨X.env.scope.names.lookup x=some .local:=by first|exact .inl rfl|exact .inr rfl|assumption):wpAny M A (storeName X.env x u) Q E s:=by
 obtain⟨m,hn,hl⟩:=id I.loc;have hcls:(X.env.scope.kind==.class||(X.env.scope.kind==.module&&X.env.locals !=X.env.globals))=false:=by rw[I.ok.kind];rfl
 have hiσ:i<↥σ:=by rw[I.len];exact(ac.mp hi).1
 have cne:=I.cne;have tracked:∀{a:Addr}{h':Heap},(∃o,s.heap.get? a=some o/\H a=none)->Heap.SameBut a s.heap h'->HOk X.prog X.w H h':=fun{a h'} ha hs b ob e=>by
  obtain⟨_,_,hfree⟩:=ha;refine(I.hok b ob e).stay (λc w' hc q=>(hs.2 c ?_).trans q) (λ_ q=>q) λ_ _ q=>q;rintro rfl;rcases hc with rfl|hc
  · rw[hfree] at e;cases e
  · rw[hfree] at hc;cases hc
 rcases hx with hk|hk
 · refine wpAny_storeName_local hk hn (λh' hn' hs=>?_) hcls;obtain⟨oL,_,_,hoL,_⟩:=id hn;refine h _ ⟨I.ok,I.os,I.bare,⟨λb o e n hb hx=>?_,λb o e n hb hx=>?_,I.base.free,λb o e hx=>?_,I.base.tups,I.base.frzs,I.base.tbls⟩,⟨_,hn',λj y v' e1 e2 e3=>?_⟩,λy c e=>?_,I.free,I.freeC,λp hp=>?_,tracked ⟨oL,hoL,I.free⟩ hs,by simpa using I.len⟩ ⟨_,hs,.inl rfl⟩
   · exact(hs.2 b (fP (aC (fH e) I.ok.above))).trans (I.base.keep b o e n hb hx)
   · obtain⟨sl,e1⟩:=I.base.slot b o e n hb hx;exact⟨sl,(hs.2 b (fP (aC (fH e) I.ok.above))).trans e1⟩
   · obtain⟨o',e1⟩:=I.base.there b o e hx;exact⟨o',(hs.2 b (fP (aC (fH e) I.ok.above))).trans e1⟩
   · by_cases hj:j=i
     · subst hj;rw[hi] at e1;cases e1;rw[fY hiσ] at e2;cases e2;exact⟨u,r,.inl ⟨hk,by simp⟩⟩
     · rw[fO (fR hj)] at e2;obtain⟨u',r',q⟩:=hl j y v' e1 e2 e3;refine⟨u',r',?_⟩;rcases q with⟨k,e⟩|⟨k,c,e,z⟩
       · refine .inl ⟨k,?_⟩;have:y≠x:=λe=>hj (a6D hN e1 (e▸hi));simp[this,e]
       · exact .inr ⟨k,c,e,z.sameBut hs (cne y c e)⟩
   · obtain⟨w',z⟩:=I.cell y c e;exact⟨w',z.sameBut hs (cne y c e)⟩
   · obtain⟨e,n,ne,nf,d⟩:=I.pin p hp;exact⟨(hs.2 p.1 ne).trans e,n,ne,nf,d⟩
 · have hfn:X.fn x=true:=by
    rcases hf with z|z
    · exact z
    · rw[z] at hk;cases hk
   obtain⟨c,hc⟩:=I.ok.has x (.inl hk);obtain⟨w',z⟩:=I.cell x c hc;refine wpAny_storeName_cell I.ok.kind hk hc z (λh' fq hs=>?_);obtain⟨oc,hoc,hocd⟩:=id z;refine h {s with heap:=h'} ⟨I.ok,I.os,I.bare,⟨λb o e n hb hx=>?_,λb o e n hb hx=>?_,I.base.free,λb o e hx=>?_,I.base.tups,I.base.frzs,I.base.tbls⟩,⟨m,hn.sameBut hs (fR (cne x c hc)),λj y v' e1 e2 e3=>?_⟩,λy c' e=>?_,I.free,I.freeC,λp hp=>?_,tracked ⟨oc,hoc,I.freeC x c hc⟩ hs,by simpa using I.len⟩ ⟨c,hs,.inr hc⟩
   · exact(hs.2 b (fP (aC (fH e) (I.ok.cab x c hfn hc)))).trans (I.base.keep b o e n hb hx)
   · obtain⟨sl,e1⟩:=I.base.slot b o e n hb hx;exact⟨sl,(hs.2 b (fP (aC (fH e) (I.ok.cab x c hfn hc)))).trans e1⟩
   · obtain⟨o',e1⟩:=I.base.there b o e hx;exact⟨o',(hs.2 b (fP (aC (fH e) (I.ok.cab x c hfn hc)))).trans e1⟩
   · by_cases hj:j=i
     · subst hj;rw[hi] at e1;cases e1;rw[fY hiσ] at e2;cases e2;exact⟨u,r,.inr ⟨.inl hk,c,hc,fq⟩⟩
     · rw[fO (fR hj)] at e2;obtain⟨u',r',q⟩:=hl j y v' e1 e2 e3;refine⟨u',r',?_⟩;rcases q with q|⟨k,c',e,z'⟩
       · exact .inl q
       · refine .inr ⟨k,c',e,z'.sameBut hs ?_⟩;rintro rfl;exact hj (a6D hN e1 (I.ok.inj _ _ _ e hc▸hi))
   · by_cases ed:c'=c
     · subst ed;exact⟨_,fq⟩
     · obtain⟨w2,z2⟩:=I.cell y c' e;exact⟨w2,z2.sameBut hs ed⟩
   · obtain⟨e,n,ne,nf,d⟩:=I.pin p hp;refine⟨(hs.2 p.1 ?_).trans e,n,ne,nf,d⟩;intro q;rw[q,hoc] at e;have q':oc=p.2:=ax e;exact d w' (by rw[←q'];exact hocd)
theorem a6k{E:Value->Shared->Prop}{i:Nat}{Q:Unit->Shared->Prop}(I:Inv X bB σ H s)(hN:X.N.Nodup)(hi:X.N[i]? =some x)(hx:Loc X.env.scope x)(r:m8 v u)
 (h:∀s',Inv X bB (σ.set i (some v)) H s'->Q () s') (hf:X.fn x=true∨X.env.scope.names.lookup x=some .local:=by first|exact .inl rfl|exact .inr rfl|assumption):wpAny M A (storeName X.env x u) Q E s:=
 a4r I hN hi hx r (λs' I' _=>h s' I') hf
theorem Inv.call'(I:Inv X bB σ H s)(ho:s'.os=s.os)(u:Un (frs X.stack) ch H H' s.heap s'.heap)(hok:HOk X.prog X.w H' s'.heap)(hg:AllBare s'.gens)
 (hch:∀b∈ch,(b∈X.ex∨X.s₀.heap.objs.size<=b)/\b≠X.env.locals/\(∀x c,X.env.cells.lookup x=some c->c≠b)/\∀p∈X.pn++bB,p.1≠b):Inv X bB σ H' s':=by
 obtain⟨h',g',d',t',o'⟩:=s';have e:o'=s.os:=ho;subst e;exact I.call (g':=g') (t':=t') (d':=d') u hok hg hch
end
abbrev XK:=Value->Option Addr->Hp->Prop
abbrev St:=List (Option V)
abbrev VK:=V->Hp->Prop
abbrev TE:=St->Hp->VK->Prop
abbrev TT:=St->Hp->(Bool->Hp->Prop)->Prop
abbrev TA:=St->Hp->(List V->Hp->Prop)->Prop
structure Ends where
 nx:St->Hp->Prop
 rt:VK
 bk:St->Hp->Prop:=λ_ _=>False
 ct:St->Hp->Prop:=λ_ _=>False
abbrev TS:=Ends->St->Hp->Prop
def EP(X:Cx)(bB:List (Addr×Obj))(σ:St)(Q:VK)(u:Value)(s':Shared):Prop:=∃v H',Inv X bB σ H' s'/\m8 v u/\Q v H'
def TP(X:Cx)(bB:List (Addr×Obj))(σ:St)(Q:Bool->Hp->Prop)(b:Bool)(s':Shared):Prop:=∃H',Inv X bB σ H' s'/\Q b H'
def AP(X:Cx)(bB:List (Addr×Obj))(σ:St)(Q:List V->Hp->Prop)(us:List Value)(s':Shared):Prop:=∃vs H',Inv X bB σ H' s'/\p7 vs us/\Q vs H'
def SP(X:Cx)(bB:List (Addr×Obj))(D:Ends)(f:Flow)(s':Shared):Prop:=
 match f with
 |.next=>∃bO H',Inv X bB bO H' s'/\D.nx bO H'
 |.brk=>∃bO H',Inv X bB bO H' s'/\D.bk bO H'
 |.cont=>∃bO H',Inv X bB bO H' s'/\D.ct bO H'
 |.ret u=>∃v bO H',Inv X bB bO H' s'/\m8 v u/\D.rt v H'
def PE(X:Cx)(e:Expr)(t:TE):Prop:=
 ∀(bB:List (Addr×Obj))(s:Shared)(σ:St)(H:Hp)(Q:VK),Inv X bB σ H s->t σ H Q->wpAny (model X.prog X.w) X.A (eval e X.env) (EP X bB σ Q) X.xe s
def PT(X:Cx)(e:Expr)(t:TT):Prop:=
 ∀(bB:List (Addr×Obj))(s:Shared)(σ:St)(H:Hp)(Q:Bool->Hp->Prop),Inv X bB σ H s->t σ H Q->wpAny (model X.prog X.w) X.A (isTrue e X.env (eval e X.env)) (TP X bB σ Q) X.xe s
def PW(X:Cx)(e:Expr)(t:TT):Prop:=
 ∀(db:Sem Value)(bB:List (Addr×Obj))(s:Shared)(σ:St)(H:Hp)(Q:Bool->Hp->Prop),Inv X bB σ H s->t σ H Q->wpAny (model X.prog X.w) X.A (isTrue e X.env db) (TP X bB σ Q) X.xe s
variable{X:Cx}{e:Expr}
theorem PW.pt{t:TT}(h:PW X e t):PT X e t:=h _
def PA(X:Cx)(es:List Expr)(t:TA):Prop:=
 ∀(pos:Pos)(bB:List (Addr×Obj))(s:Shared)(σ:St)(H:Hp)(Q:List V->Hp->Prop),Inv X bB σ H s->t σ H Q->wpAny (model X.prog X.w) X.A (spliced (backTo pos (starEach es X.env))) (AP X bB σ Q) X.xe s
def PS(X:Cx)(st:Stmt)(t:TS):Prop:=
 ∀(bB:List (Addr×Obj))(s:Shared)(σ:St)(H:Hp)(D:Ends),Inv X bB σ H s->t D σ H->wpAny (model X.prog X.w) X.A (exec st X.env) (SP X bB D) X.xe s
def PSs(X:Cx)(st:List Stmt)(t:TS):Prop:=
 ∀(bB:List (Addr×Obj))(s:Shared)(σ:St)(H:Hp)(D:Ends),Inv X bB σ H s->t D σ H->wpAny (model X.prog X.w) X.A (execs st X.env) (SP X bB D) X.xe s
theorem thn{t:Sem α}{Q Q':α->Shared->Prop}{E:Value->Shared->Prop}{s:Shared}(h:wpAny M A t Q E s)(hQ:∀a s,Q a s->Q' a s):wpAny M A t Q' E s:=gy h hQ λ_ _ x=>x
variable{bB:List (Addr×Obj)}{σ:St}{pos:Pos}{Q:Value->Shared->Prop}{op:CmpOp}{c:Expr}
section
theorem bin{a b:Expr}{ta tb:TE}(ha:PE X a ta)(hb:PE X b tb){s:Shared}{R:V->V->Hp->Prop}(I:Inv X bB σ H s)(h:ta σ H λx H1=>tb σ H1 λy H2=>R x y H2)
 {Q :α->Shared->Prop} {f:Value->Value->Sem α}
    (hf:∀v u s2 x y H2,Inv X bB σ H2 s2->m8 x v->m8 y u->R x y H2->wpAny (model X.prog X.w) X.A (f v u) Q X.xe s2):
    wpAny (model X.prog X.w) X.A (eval a X.env) (λv bH=>wpAny (model X.prog X.w) X.A (eval b X.env) (λu dh=>wpAny (model X.prog X.w) X.A (f v u) Q X.xe dh) X.xe bH) X.xe s:=by
  refine thn (ha bB s σ H _ I h) λv s1 zz=>?_;obtain⟨x,H1,I1,r1,q1⟩:=zz;refine thn (hb bB s1 σ H1 _ I1 q1) λu s2 zz=>?_;obtain⟨y,H2,I2,r2,q2⟩:=zz;exact hf v u s2 x y H2 I2 r1 r2 q2
def c1V(i:Nat):TE:=λσ H Q=>∃v,σ[i]? =some (some v)/\Q v H
def tC(v:V):TE:=λ_ H Q=>Q v H
theorem b7v{i:Nat}(hN:X.N[i]? =some x)(hv:Vis X.env.scope x)(hd:(x==("__debug__":Str))=false:=by decide)(ff:(x==("__classdict__":Str))=false:=by decide):PE X (.Name x pos) (c1V i):=by
 intro bB s σ H Q I h;obtain⟨v,e,h⟩:=h;obtain⟨m,hn,hl⟩:=I.loc;obtain⟨u,r,l⟩:=hl i x v hN e hv;have cL:EP X bB σ Q u s:=⟨v,H,I,r,h⟩;rcases l with⟨hk,hm⟩|⟨hk,c,hc,hcell⟩
 · exact wpAny_Name (wpAny_loadName_local I.ok.kind hk hn hm cL) hd
 · rcases hk with hk|hk
   · exact wpAny_Name (wpAny_loadName_cell I.ok.kind hk hc hcell cL) hd
   · exact wpAny_Name (wpAny_loadName_free I.ok.kind hk hc hcell cL ff) hd
theorem b1x{i j pos}:PE X (.Constant (.int i) j pos) (tC (.int i)):=λ_ _ _ H _ I h=>wpAny_Constant_int ⟨.int i,H,I.tok _,⟨_,rfl⟩,h⟩
theorem c0e{b j pos}:PE X (.Constant (.bool b) j pos) (tC (.bl b)):=λ_ _ _ H _ I h=>Constant_bool ⟨.bl b,H,I,rfl,h⟩
theorem b7z{j pos}:PE X (.Constant .none j pos) (tC .non):=λ_ _ _ H _ I h=>Constant_none ⟨.non,H,I,rfl,h⟩
theorem b1u{x j pos}:PE X (.Constant (.str x) j pos) (tC (.str x)):=λ_ _ _ H _ I h=>Calls.Constant_str ⟨.str x,H,I.tok _,⟨_,rfl⟩,h⟩
def Gl(X:Cx)(x:Str):Prop:=X.env.kindOf x=some .globalImplicit
theorem a5w{E:Value->Shared->Prop}{s:Shared}(I:Inv X bB σ H s)(hg:Gl X x)(hm:X.mg x=some u)(h:Q u s)
 (hd:(x==("__debug__":Str))=false:=by decide):wpAny (model X.prog X.w) X.A (eval (.Name x pos) X.env) Q E s:=
 Calls.Name_function_global I.ok.kind hg (Calls.loadGlobal_global (by rw[I.ok.glob];exact I.mod.glob.keeps I.bk) hm h) hd
theorem a0i{E:Value->Shared->Prop}{s:Shared}(I:Inv X bB σ H s)(hg:Gl X x)(hm:X.mg x=none)(hv:bootBuiltins x=some u)(h:Q u s)
 (hn:x≠"__name__":=by decide) (hd:(x==("__debug__":Str))=false:=by decide):wpAny (model X.prog X.w) X.A (eval (.Name x pos) X.env) Q E s:=by
 obtain⟨mb,h1,h2⟩:=I.mod.blt;exact Calls.Name_function_global I.ok.kind hg (Calls.loadGlobal_builtin (by rw[I.ok.glob];exact I.mod.glob.keeps I.bk) hm (by rw[I.ok.blt];exact h1.keeps I.bk) ((h2 x hn).trans hv) h) hd
theorem a2R(hg:Gl X x)(hm:X.mg x=some u)(r:m8 v u)(hd:(x==("__debug__":Str))=false:=by decide):PE X (.Name x pos) (tC v):=
 λ_ _ _ H _ I h=>a5w I hg hm ⟨v,H,I,r,h⟩ hd
theorem b4P(hg:Gl X x)(hm:X.mg x=none)(hv:bootBuiltins x=some u)(r:m8 v u)(hn:x≠"__name__":=by decide)(hd:(x==("__debug__":Str))=false:=by decide):PE X (.Name x pos) (tC v):=
 λ_ _ _ H _ I h=>a0i I hg hm hv ⟨v,H,I,r,h⟩ hn hd
variable{a b:Expr}{ta tb:TE}
def PC(X:Cx)(op:CmpOp)(a b:Expr)(t:TE):Prop:=
 ∀(bB:List (Addr×Obj))(s:Shared)(σ:St)(H:Hp)(Q:VK),Inv X bB σ H s->t σ H Q→
  wpAny (model X.prog X.w) X.A (eval a X.env) (λv bH=>wpAny (model X.prog X.w) X.A (eval b X.env) (λu dh=>wpAny (model X.prog X.w) X.A (compareOp op v u) (EP X bB σ Q) X.xe dh) X.xe bH) X.xe s
theorem a6E(b:Expr)(h:op≠.In)(h2:op≠.NotIn):behindInMarks op b=false:=by
 have e1:(op==CmpOp.In)=false:=by cases op<;>first|rfl|exact absurd rfl h
 have e2:(op==CmpOp.NotIn)=false:=by cases op<;>first|rfl|exact absurd rfl h2
 cases b<;>simp[behindInMarks,e1,e2]
def c2c(ta:TE):TE:=λσ H Q=>ta σ H λx H1=>Q (.bl (decide (x=.non))) H1
def b9B(ta:TE):TE:=λσ H Q=>ta σ H λx H1=>Q (.bl (!decide (x=.non))) H1
theorem m8.none_iff{x:V}{v:Value}(r:m8 x v):(v==Value.none)=decide (x=.non):=by
 cases x with
 |non=>cases r;rfl
 |bl _=>cases r;rfl
 |int _=>obtain⟨t,rfl⟩:=r;rfl
 |str _=>obtain⟨t,rfl⟩:=r;rfl
 |byt _=>obtain⟨t,rfl⟩:=r;rfl
 |flt _=>obtain⟨t,rfl⟩:=r;rfl
 |ref _=>cases r;rfl
 |ty _=>cases r;rfl
theorem b1C{j cV}(ha:PE X a ta):PC X .Is a (.Constant .none j cV) (c2c ta):=by intro bB s σ H Q I h;refine thn (ha bB s σ H _ I h) λv s1 zz=>?_;obtain⟨x,H1,I1,r1,q1⟩:=zz;exact Constant_none (is_none_gen ⟨.bl _,H1,I1,by rw[r1.none_iff];rfl,q1⟩)
theorem a8z{j cV}(ha:PE X a ta):PC X .IsNot a (.Constant .none j cV) (b9B ta):=by intro bB s σ H Q I h;refine thn (ha bB s σ H _ I h) λv s1 zz=>?_;obtain⟨x,H1,I1,r1,q1⟩:=zz;exact Constant_none (isnot_none_gen ⟨.bl _,H1,I1,by rw[r1.none_iff];rfl,q1⟩)
def tB(t:TE):TT:=λσ H Q=>t σ H λx H1=>∃c,x=.bl c/\Q c H1
theorem b1A{t:TE}(h:PC X op a b t)(h1:behindInMarks op b=false:=by first|exact a6E _ ∅ ∅|rfl):PE X (.Compare a [op] [b] pos) t:=λbB s σ H Q I hw=>wpAny_Compare1 (h bB s σ H Q I hw) h1
theorem b1g{t:TE}(h:PC X op a b t)(h1:behindInMarks op b=false:=by first|exact a6E _ ∅ ∅|rfl):PT X (.Compare a [op] [b] pos) (tB t):=by intro bB s σ H Q I hw;refine wpAny_isTrue_Compare1 (thn (h bB s σ H _ I hw) λv s1 h1=>thn h1 λu s2 h2=>thn h2 λc s3 zz=>?_) h1;obtain⟨x,H1,I1,r1,q1⟩:=zz;obtain⟨d,rfl,q⟩:=q1;cases r1;exact gf ⟨H1,I1,q⟩
variable{tA tB':TT}{d9:List Expr}
def c2g(t u:TT):TT:=λσ H Q=>t σ H λc H1=>if c=true then u σ H1 Q else Q false H1
def tOr(t u:TT):TT:=λσ H Q=>t σ H λc H1=>if c=true then Q true H1 else u σ H1 Q
def c2a(t:TT):TT:=λσ H Q=>t σ H λc H1=>Q (!c) H1
theorem b4y(ha:PT X a tA):PW X (.BoolOp .And [a] pos) tA:=by
 intro wh bB s σ H Q I h;refine isTrue_and (thn (ha bB s σ H Q I h) λc s1 e=>?_);cases c with
 |true=>exact isTrue_and_nil e
 |false=>exact e
theorem b7h(ha:PT X a tA):PW X (.BoolOp .Or [a] pos) tA:=by
 intro wh bB s σ H Q I h;refine isTrue_or (thn (ha bB s σ H Q I h) λc s1 e=>?_);cases c with
 |false=>exact isTrue_or_nil e
 |true=>exact e
theorem b7i(ha:PT X a tA)(hb:PW X (.BoolOp .And (b::d9) pos) tB'):PW X (.BoolOp .And (a::b::d9) pos) (c2g tA tB'):=by
 intro wh bB s σ H Q I h;refine isTrue_and (thn (ha bB s σ H _ I h) λc s1 zz=>?_);obtain⟨H1,I1,q1⟩:=zz;cases c with
 |true=>exact hb wh bB s1 σ H1 Q I1 q1
 |false=>exact⟨H1,I1,q1⟩
theorem b9Z(ha:PT X a tA)(hb:PW X (.BoolOp .Or (b::d9) pos) tB'):PW X (.BoolOp .Or (a::b::d9) pos) (tOr tA tB'):=by
 intro wh bB s σ H Q I h;refine isTrue_or (thn (ha bB s σ H _ I h) λc s1 zz=>?_);obtain⟨H1,I1,q1⟩:=zz;cases c with
 |true=>exact⟨H1,I1,q1⟩
 |false=>exact hb wh bB s1 σ H1 Q I1 q1
theorem b7k(ha:PT X a tA):PT X (.UnaryOp .Not a pos) (c2a tA):=by intro bB s σ H Q I h;exact isTrue_not (ha bB s σ H (λc H1=>Q (!c) H1) I h)
def b9H(ta tb:TE):TE:=λσ H Q=>ta σ H λx H1=>∃c,x=.bl c/\if c=true then tb σ H1 Q else Q (.bl false) H1
def c1Z(ta tb:TE):TE:=λσ H Q=>ta σ H λx H1=>∃c,x=.bl c/\if c=true then Q (.bl true) H1 else tb σ H1 Q
def b9A(ta:TE):TE:=λσ H Q=>ta σ H λx H1=>∃c,x=.bl c/\Q (.bl (!c)) H1
theorem b7x{op}{t:TE}(h:PE X a t):PE X (.BoolOp op [a] pos) t:=λbB s σ H Q I hw=>BoolOp_one (h bB s σ H Q I hw)
theorem b7C(ha:PE X a ta)(hb:PE X (.BoolOp .And (b::d9) pos) tb):PE X (.BoolOp .And (a::b::d9) pos) (b9H ta tb):=by
 intro bB s σ H Q I h;refine BoolOp_and (thn (ha bB s σ H _ I h) λv s1 zz=>?_);obtain⟨x,H1,I1,r1,q1⟩:=zz;obtain⟨c,rfl,q1⟩:=q1;cases r1;refine gf ?_;cases c with
 |true=>exact hb bB s1 σ H1 Q I1 q1
 |false=>exact⟨.bl false,H1,I1,rfl,q1⟩
theorem c0c(ha:PE X a ta)(hb:PE X (.BoolOp .Or (b::d9) pos) tb):PE X (.BoolOp .Or (a::b::d9) pos) (c1Z ta tb):=by
 intro bB s σ H Q I h;refine BoolOp_or (thn (ha bB s σ H _ I h) λv s1 zz=>?_);obtain⟨x,H1,I1,r1,q1⟩:=zz;obtain⟨c,rfl,q1⟩:=q1;cases r1;refine gf ?_;cases c with
 |false=>exact hb bB s1 σ H1 Q I1 q1
 |true=>exact⟨.bl true,H1,I1,rfl,q1⟩
theorem b7y(ha:PE X a ta):PE X (.UnaryOp .Not a pos) (b9A ta):=by intro bB s σ H Q I h;refine UnaryOp_ (thn (ha bB s σ H _ I h) λv s1 zz=>?_);obtain⟨x,H1,I1,r1,q1⟩:=zz;obtain⟨c,rfl,q1⟩:=q1;cases r1;exact not_of (gf ⟨.bl (!c),H1,I1,rfl,q1⟩)
end
def SqL(K:Frag)(H:Hp)(a:Addr)(xs:List V):Prop:=
 Rd H a (.lst xs)∨
  ∃(o:Obj)(bD:Array Value)(n:Nat),K.lookup a=some o/\o.cls=.type "list"/\o.dict=none/\o.data=.seq bD n/\bD.size<=sizeLine/\p7 xs bD.toList
def SqT(K:Frag)(H:Hp)(a:Addr)(xs:List V):Prop:=
 Rd H a (.tup xs)∨
  ∃(o:Obj)(bD:Array Value)(n:Nat),K.lookup a=some o/\o.cls=.type "tuple"/\o.data=.seq bD n/\bD.size<=sizeLine/\p7 xs bD.toList
noncomputable def c2O:Value->Option V
 |.none=>some .non
 |.bool b=>some (.bl b)
 |.int i _=>some (.int i)
 |.str x _=>some (.str x)
 |.bytes b _=>some (.byt b)
 |.float b _=>some (.flt b)
 |.ref a=>~~~a
 |.type n=>some (.ty n)
 |_=>none
theorem m8.abs{x:V}(r:m8 x u):c2O u=some x:=by
 cases x with
 |non=>cases r;rfl
 |bl _=>cases r;rfl
 |int _=>obtain⟨t,rfl⟩:=r;rfl
 |str _=>obtain⟨t,rfl⟩:=r;rfl
 |byt _=>obtain⟨t,rfl⟩:=r;rfl
 |flt _=>obtain⟨t,rfl⟩:=r;rfl
 |ref _=>cases r;rfl
 |ty _=>cases r;rfl
variable{y:V}
theorem m8.inj{x:V}(r:m8 x u)(q:m8 y u):x=y:=ax (r.abs.symm.trans q.abs)
theorem p7.inj:∀{xs ys:List V}{us:List Value},p7 xs us->p7 ys us->xs=ys
 |_,_,_,.nil,.nil=>rfl
 |_,_,_,.cons r t,.cons r' t'=>by rw[r.inj r',p7.inj t t']
variable{K:Frag}
section
variable{s:Shared}{xs ys:List V}
theorem Inv.list(I:Inv X bB σ H s)(h:SqL X.K H a xs):∃bD:List Value,p7 xs bD/\PlainL s.heap a bD.toArray/\↥xs<=sizeLine:=by
 rcases h with h|⟨o,bD,n,hk,hc,hd,hs,hz,r⟩
 · obtain⟨z,bD,n,r,e⟩:=h.ok I.hok;exact⟨bD,r,⟨_,n,e,rfl,rfl,rfl⟩,z⟩
 · refine⟨bD.toList,r,⟨o,n,I.kIn a o hk,hc,hd,by simpa using hs⟩,?_⟩;have e:=↥r;simp only[Array.length_toList] at e;ac_nf
theorem Inv.tuple(I:Inv X bB σ H s)(h:SqT X.K H a xs):∃bD:List Value,p7 xs bD/\IsTup s.heap a bD.toArray/\↥xs<=sizeLine:=by
 rcases h with h|⟨o,bD,n,hk,hc,hs,hz,r⟩
 · obtain⟨z,bD,r,p⟩:=h.ok I.hok;exact⟨bD,r,p.tup,z⟩
 · refine⟨bD.toList,r,⟨o,I.kIn a o hk,hc,n,by simpa using hs⟩,?_⟩;have e:=↥r;simp only[Array.length_toList] at e;ac_nf
theorem Inv.list_inj(I:Inv X bB σ H s)(h:SqL X.K H a xs)(h':SqL X.K H a ys):xs=ys:=by
 obtain⟨bD,r,⟨o,n,e,_,_,d⟩,_⟩:=I.list h;obtain⟨its',r',⟨o',n',e',_,_,d'⟩,_⟩:=I.list h';rw[e] at e';cases e';rw[d] at d';injection d' with d1 _;have:bD=its':=by simpa using fN Array.toList d1
 subst this;exact r.inj r'
theorem Inv.tuple_inj(I:Inv X bB σ H s)(h:SqT X.K H a xs)(h':SqT X.K H a ys):xs=ys:=by
 obtain⟨bD,r,⟨o,e,_,n,d⟩,_⟩:=I.tuple h;obtain⟨its',r',⟨o',e',_,n',d'⟩,_⟩:=I.tuple h';rw[e] at e';cases e';rw[d] at d';injection d' with d1 _;have:bD=its':=by simpa using fN Array.toList d1
 subst this;exact r.inj r'
end
variable{tc:TT}
section
variable{st:Stmt}{d9:List Stmt}{t u:TS}{te:TE}
def b9C:TS:=λD σ H=>D.nx σ H
def c1X(t u:TS):TS:=λD σ H=>t {D with nx:=u D} σ H
theorem b4z:PSs X [] b9C:=λ_ _ σ H _ I h=>wpAny_execs_nil ⟨σ,H,I,h⟩
theorem b1j(h1:PS X st t)(h2:PSs X d9 u):PSs X (st::d9) (c1X t u):=by
 intro bB s σ H D I h;refine wpAny_execs_cons (thn (h1 bB s σ H {D with nx:=u D} I h) λf s1 q=>?_);cases f with
 |next=>
  obtain⟨bO,H',I',q⟩:=q;exact h2 bB s1 bO H' D I' q
 |ret v=>exact q
 |brk=>exact q
 |cont=>exact q
theorem Inv.quiet{s:Shared}(I:Inv X bB σ H s):interactive X.env=false:=by simp[interactive,I.ok.kind]
def b9E(te:TE):TS:=λD σ H=>te σ H λ_ H1=>D.nx σ H1
theorem b4A(he:PE X e te)(hs:swapsWith e none pos.line X.env=pure false:=by rfl):PS X (.Expr e pos) (b9E te):=by intro bB s σ H D I h;exact wpAny_Expr_any (thn (he bB s σ H _ I h) λv s1 ⟨x,H1,I1,r1,q1⟩=>⟨σ,H1,I1,q1⟩) I.quiet hs
def c1Y(te:TE):TS:=λD σ H=>te σ H D.rt
theorem b7l(he:PE X e te):PS X (.Return (some e) pos) (c1Y te):=by intro bB s σ H D I h;exact wpAny_Return_some (thn (he bB s σ H _ I h) λv s1 ⟨x,H1,I1,r1,q1⟩=>⟨x,σ,H1,I1,r1,q1⟩)
def c2d(c:TT)(t u:TS):TS:=λD σ H=>c σ H λb H1=>if b=true then t D σ H1 else u D σ H1
theorem c0a{a b:List Stmt}(hc:PT X c tc)(ha:PSs X a t)(hb:PSs X b u):PS X (.If c a b pos) (c2d tc t u):=by
 intro bB s σ H D I h;refine wpAny_If (thn (hc bB s σ H _ I h) λd s1 zz=>?_);obtain⟨H1,I1,q1⟩:=zz;cases d with
 |true=>exact ha bB s1 σ H1 D I1 q1
 |false=>exact hb bB s1 σ H1 D I1 q1
end
abbrev TG:=V->St->Hp->(St->Hp->Prop)->Prop
abbrev TGs:=List V->St->Hp->(St->Hp->Prop)->Prop
def PG(X:Cx)(target:Expr)(t:TG):Prop:=
 ∀(bB:List (Addr×Obj))(s:Shared)(σ:St)(H:Hp)(v:V)(u:Value)(Q:St->Hp->Prop),Inv X bB σ H s->m8 v u->t v σ H Q→
  wpAny (model X.prog X.w) X.A (assign target X.env u) (λ_ s'=>∃bO H',Inv X bB bO H' s'/\Q bO H') X.xe s
def PGs(X:Cx)(ts:List Expr)(t:TGs):Prop:=
 ∀(bB:List (Addr×Obj))(s:Shared)(σ:St)(H:Hp)(vs:List V)(us:List Value)(Q:St->Hp->Prop),Inv X bB σ H s->p7 vs us->t vs σ H Q→
  wpAny (model X.prog X.w) X.A (assignInOrder ((assignEach ts X.env).map (·.2)) us) (λ_ s'=>∃bO H',Inv X bB bO H' s'/\Q bO H') X.xe s
abbrev b9n:=V->V->V->Hp->(Hp->Prop)->Prop
def b9o(X:Cx)(t:b9n):Prop:=
 ∀(bB:List (Addr×Obj))(s:Shared)(σ:St)(H:Hp)(o i v:V)(ov iv u:Value)(Q:Hp->Prop),Inv X bB σ H s->m8 o ov->m8 i iv->m8 v u->t o i v H Q→
  wpAny (model X.prog X.w) X.A (setItem ov iv u) (λ_ s'=>∃H',Inv X bB σ H' s'/\Q H') X.xe s
variable{es:List Expr}{n:Nat}{to:TE}{ti:TE}{tg:Expr}{te:TE}{cV:Pos}{ta:TA}
section
def b2D(i:Nat):TG:=λv σ H Q=>Q (σ.set i (some v)) H
theorem b4M{i:Nat}(hN:X.N.Nodup)(hi:X.N[i]? =some x)(hx:Loc X.env.scope x)(hf:X.fn x=true∨X.env.scope.names.lookup x=some .local:=by first|exact .inl rfl|exact .inr rfl|assumption):PG X (.Name x pos) (b2D i):=by intro bB s σ H v u Q I r h;exact wpAny_assign_Name (a6k I hN hi hx r (λs' I'=>⟨_,H,I',h⟩) hf)
def c2F:TGs:=λvs σ H Q=>vs=[]/\Q σ H
def c0K(t:TG)(u:TGs):TGs:=λvs σ H Q=>∃v r,vs=v::r/\t v σ H λbO H'=>u r bO H' Q
theorem b4L:PGs X [] c2F:=by intro bB s σ H vs us Q I r h;obtain⟨e,h⟩:=h;subst e;cases r;exact assignInOrder_nil ⟨σ,H,I,h⟩
theorem b1t{t:TG}{u:TGs}(h1:PG X e t)(h2:PGs X es u)
 (hs:(assignEach (e::es) X.env).map (·.2)=assign e X.env::(assignEach es X.env).map (·.2):=by rfl):PGs X (e::es) (c0K t u):=by
 intro bB s σ H vs us Q I r h;obtain⟨v,vr,e1,h⟩:=h;subst e1;cases r with
 |cons r rr=>
  rw[hs];refine assignInOrder_cons (thn (h1 bB s σ H _ _ _ I r h) λ_ s1 zz=>?_);obtain⟨σ1,H1,I1,q1⟩:=zz;exact h2 bB s1 σ1 H1 _ _ Q I1 rr q1
def c2D(K:Frag)(n:Nat)(t:TGs):TG:=λv σ H Q=>∃a xs,v=.ref a/\SqT K H a xs/\↥xs=n/\t xs σ H Q
theorem b7t{k:Nat}{t:TGs}(hc:X.calm=true)(h:PGs X es t)
 (hn:↥(assignEach es X.env)=n:=by rfl) (dL:(assignEach es X.env).findIdx? (·.1)=none:=by rfl):PG X (.Tuple es k pos) (c2D X.K n t):=by
 intro bB s σ H v u Q I r hw;obtain⟨a,xs,e1,hq,hl,hw⟩:=hw;subst e1;cases r;obtain⟨bD,rv,ht,hz⟩:=I.tuple hq;refine assign_Tuple_tuple (I.ok.hd hc) ht (by simp[hn,←hl,rv.length]) dL λh' hx=>?_;have I1:Inv X bB σ H {s with heap:=h'}:=I.kept (t':=s.toks) λb o e=>hx b o (fP (fH e)) e;exact h bB _ σ H xs _ Q I1 (by simpa using rv) hw
def c0J(to ti:TE)(t:b9n):TG:=λv σ H Q=>to σ H λo H1=>ti σ H1 λi H2=>t o i v H2 λH3=>Q σ H3
theorem b7u{o i:Expr}{t:b9n}(ho:PE X o to)(hi:PE X i ti)(hs:b9o X t)
 (ha:∀v,assign (.Subscript o i pos) X.env v=(do
  let ov←holding [v] (eval o X.env)
  let iv←holding [v,ov] (eval i X.env)
  standAt pos
  holding [v,ov,iv] (setItem ov iv v)
  release [v,ov,iv] []):=by intro _;rfl):PG X (.Subscript o i pos) (c0J to ti t):=by
 intro bB s σ H v u Q I r h;rw[ha];refine fv (gr (thn (ho bB s σ H _ I h) λov s1 zz=>?_));obtain⟨x,H1,I1,r1,q1⟩:=zz;refine fv (gr (thn (hi bB s1 σ H1 _ I1 q1) λiv s2 zz=>?_));obtain⟨y,H2,I2,r2,q2⟩:=zz;refine fv (wpAny_standAt (fv (gr (thn (hs bB s2 σ H2 x y v ov iv u _ I2 r1 r2 r q2) λ_ s3 zz=>?_))));obtain⟨H3,I3,q3⟩:=zz;exact wpAny_release ⟨σ,H3,I3,q3⟩
def b6W(te:TE)(g:TG):TS:=λD σ H=>te σ H λx H1=>g x σ H1 D.nx
theorem b1m{g:TG}(he:PE X e te)(hg:PG X tg g)(hs:swapsWithSole [tg] e pos.line X.env=pure false:=by rfl)(hw:swappedStores [tg] e X.env=pure none:=by rfl)
 (h1:(assignEach [tg] X.env).map (·.2)=[assign tg X.env]:=by rfl):PS X (.Assign [tg] e pos) (b6W te g):=by
 intro bB s σ H D I h;refine wpAny_Assign_stores (thn (he bB s σ H _ I h) λv s1 zz=>?_) hs hw;obtain⟨x,H1,I1,r1,q1⟩:=zz;rw[h1];exact thn (hg bB s1 σ H1 x v _ I1 r1 q1) λ_ s2 q=>q
theorem b1l{i:Nat}(hN:X.N.Nodup)(hi:X.N[i]? =some x)(hx:Loc X.env.scope x)(he:PE X e te)(hs:swapsWith e (some (.Name x cV)) pos.line X.env=pure false:=by rfl)(hf:X.fn x=true∨X.env.scope.names.lookup x=some .local:=by first|exact .inl rfl|exact .inr rfl|assumption):
 PS X (.Assign [.Name x cV] e pos) (b6W te (b2D i)):=by
 intro bB s σ H D I h;refine wpAny_Assign_Name (thn (he bB s σ H _ I h) λv s1 zz=>?_) hs;obtain⟨y,H1,I1,r1,q1⟩:=zz;exact a6k I1 hN hi hx r1 (λs2 I2=>⟨_,H1,I2,q1⟩) hf
end
variable{body:List Stmt}{tb:TS}
section
noncomputable def b6S(c:TT)(tb:TS):TS:=λD σ H=>∃W:Nat->St->Hp->Prop,(∃m,W m σ H)/\∀m σ H,W m σ H→
 c σ H λb H1=>if b=true then∃N:St->Hp->Prop,(∀bO H',N bO H'->∃m',m'<m/\W m' bO H')/\tb {D with nx:=N,ct:=N,bk:=D.nx} σ H1 else D.nx σ H1
theorem b1k(hp:PassesOwn (model X.prog X.w) X.A X.env X.xe)(hc:PT X c tc)(hb:PSs X body tb):PS X (.While c body [] pos) (b6S tc tb):=by
 intro bB s σ H D I h;obtain⟨W,⟨m0,w0⟩,ee⟩:=h;refine wpAny_While (codeAny_whileLoop (λn s'=>∃bO H',Inv X bB bO H' s'/\W n bO H') ?_ m0 ⟨σ,H,I,w0⟩);rintro n s1 ⟨σ1,H1,I1,w1⟩;refine gH hp (thn (hc bB s1 σ1 H1 _ I1 (ee n σ1 H1 w1)) λb s2 zz=>?_);obtain⟨H2,I2,q2⟩:=zz;cases b with
 | true=>
  obtain⟨N,hN,q2⟩:=q2;rw[ay rfl];refine gH hp (thn (hb bB s2 σ1 H2 _ I2 q2) λf s3 q3=>?_);cases f with
  |next=>
   obtain⟨σ3,H3,I3,n3⟩:=q3;obtain⟨m',hm,w3⟩:=hN σ3 H3 n3;exact⟨m',hm,σ3,H3,I3,w3⟩
  |cont=>
   obtain⟨σ3,H3,I3,n3⟩:=q3;obtain⟨m',hm,w3⟩:=hN σ3 H3 n3;exact⟨m',hm,σ3,H3,I3,w3⟩
  |brk=>exact q3
  |ret v=>exact q3
 |false=>
  rw[az bq];exact wpAny_execs_nil ⟨σ1,H2,I2,q2⟩
end
structure It where
 go:Nat->Hp->Prop
 yld:Nat->Hp->V->Hp->Prop
 stop:Nat->Hp->Prop
def a2K(X:Cx)(bB:List (Addr×Obj))(H:Hp)(b:Addr):Prop:=
 H b=none/\b≠X.env.locals/\b∉X.fs/\(b∈X.ex∨X.s₀.heap.objs.size<=b)/\(∀x c,X.env.cells.lookup x=some c->c≠b)/\∀p∈X.pn++bB,p.1≠b
variable{H':Hp}
theorem Inv.fpOk{s:Shared}(I:Inv X bB σ H s)(hb:s.heap.objs.size<=b)(hn:H' b=none):a2K X bB H' b:=by
 refine⟨hn,gF (aC I.lt hb),I.nofs hb,.inr (aR I.sz hb),λx c e z=>?_,λp hp z=>?_⟩
 · obtain⟨v,q⟩:=I.cell x c e;exact absurd (aC q.lt (by rw[z];exact hb)) (aQ _)
 · exact absurd (aC (fH (I.pin p hp).1) (by rw[z];exact hb)) (aQ _)
structure Turn(P:Program)(w:World)(K:Frag)(tg:Expr)(J:It)(fp:List Addr)(it:Addr)(tn:Nat->Heap->Prop):Prop where
 mem:it∈fp
 obj:∀i h,tn i h->∀b∈fp,∃o,h.get? b=some o/\∀v,o.data≠.cell v
 keep:∀i h h',tn i h->(∀b∈fp,∀o,h.get? b=some o->h'.get? b=some o)->tn i h'
 item:∀(X:Cx),X.prog=P->X.w=w->X.K=K->X.calm=true->∀(i:Nat)(bB:List (Addr×Obj))(s:Shared)(σ:St)(H:Hp)(E:Value->Shared->Prop),Inv X bB σ H s->(∀b∈fp,a2K X bB H b)->tn i s.heap->J.go i H→
  wpAny (model P w) X.A (pyNext (.ref it)) (λr s1=>∃u,r=some u∧
   wpAny (model P w) X.A (letOwnedTupleGo tg (.ref it) u) (λ_ s2=>∃x H',Inv X bB σ H' s2/\m8 x u/\J.yld i H x H'/\tn (i+1) s2.heap/\∀b∈fp,H' b=none) E s1) E s
 done:∀(X:Cx),X.prog=P->X.w=w->X.K=K->X.calm=true->∀(i:Nat)(bB:List (Addr×Obj))(s:Shared)(σ:St)(H:Hp)(E:Value->Shared->Prop),Inv X bB σ H s->(∀b∈fp,a2K X bB H b)->tn i s.heap->J.stop i H→
  wpAny (model P w) X.A (pyNext (.ref it)) (λr s1=>r=none/\Inv X bB σ H s1) E s
 self:∀(A:Around)(i:Nat)(s:Shared)(Q:Value->Shared->Prop)(E:Value->Shared->Prop),tn i s.heap->Q (.ref it) s->wpAny (model P w) A (pyIter (.ref it)) Q E s
abbrev TI:=St->Hp->(It->Hp->Prop)->Prop
def PIE(X:Cx)(bB:List (Addr×Obj))(σ:St)(tg:Expr)(R:It->Hp->Prop)(itv:Value)(s2:Shared):Prop:=
 ∃(it:Addr)(fp:List Addr)(tn:Nat->Heap->Prop)(J:It)(H':Hp),itv=.ref it/\Inv X bB σ H' s2/\Turn X.prog X.w X.K tg J fp it tn/\tn 0 s2.heap/\(∀b∈fp,a2K X bB H' b)/\R J H'
def PI(X:Cx)(tg iter:Expr)(wi:TI):Prop:=
 ∀(bB:List (Addr×Obj))(s:Shared)(σ:St)(H:Hp)(R:It->Hp->Prop),Inv X bB σ H s->wi σ H R→
  wpAny (model X.prog X.w) X.A (eval iter X.env) (λv s1=>wpAny (model X.prog X.w) X.A (pyIter v) (PIE X bB σ tg R) X.xe s1) X.xe s
theorem a6S{E:Value->Shared->Prop}{s:Shared}{o:Obj}{n:String}{vs:Array Value}{Q:Unit->Shared->Prop}(ho:s.heap.get? it=some o)(hc:o.cls=.type n)(hd:o.data=.fields vs)
   (hn:["enumerate","zip","dict_itemiterator","dict_reverseitemiterator","odict_iterator","itertools.zip_longest","itertools.pairwise"].contains n=false) (hQ:Q () s):wpAny M A (letOwnedTupleGo tg (.ref it) u) Q E s:=by
 unfold letOwnedTupleGo;cases tg <;>first
   |exact fG hQ
   |(cases u<;>first
       |exact fG hQ
       | (refine fv (wpAny_load ho ?_)
          rw[hc,hd];show wpAny M A (if(["enumerate","zip","dict_itemiterator","dict_reverseitemiterator","odict_iterator","itertools.zip_longest","itertools.pairwise"].contains n&&vs[0]? ==some (rawInt _))=true then _ else _) Q E s;rw[az (by intro h;rw[hn,fW] at h;cases h)];exact fG hQ))
def Itl(K:Frag)(a:Addr):It:=
 ⟨λi H=>∃xs x,SqL K H a xs/\xs[i]? =some x,λi H x H'=>H'=H/\∀xs,SqL K H a xs->xs[i]? =some x,λi H=>∃xs,SqL K H a xs/\↥xs<=i⟩
def Itt(K:Frag)(a:Addr):It:=
 ⟨λi H=>∃xs x,SqT K H a xs/\xs[i]? =some x,λi H x H'=>H'=H/\∀xs,SqT K H a xs->xs[i]? =some x,λi H=>∃xs,SqT K H a xs/\↥xs<=i⟩
def Itr(lo:Int)(n:Nat):It:=⟨λi _=>i<n,λi H x H'=>H'=H/\x=.int (lo+i),λi _=>n<=i⟩
theorem a9t(a it:Addr):Turn P w K tg (Itl K a) [it] it (λi h=>h.IsListIter it a i) where
 mem:=by simp
 obj:=λi h st b hb=>by
  have e:b=it:=by simpa using hb
  subst e;obtain⟨o,e,c,d⟩:=st;exact⟨o,e,λv z=>by rw[d] at z;cases z⟩
 keep:=λi h h' st k=>st.at λo e=>k it ⋯ o e
 item:=by intro X hP hw hK hc i bB s σ H E I hf st hg;subst hP hw hK;obtain⟨xs,x,hq,hx⟩:=hg;obtain⟨bD,rv,p,hz⟩:=I.list hq;obtain⟨u,hu,ru⟩:=rv.get hx;obtain⟨f0,f1,f2,f3,f4,f5⟩:=hf it ⋯;refine wpAny_pyNext_list_item st p.isList (x:=u) (by simpa using hu) λh' eh sb=>?_;have I1:Inv X bB σ H {s with heap:=h'}:=I.turned (t':=s.toks) (λb o hb e=>(sb.2 b hb).trans e) f0 f1 f3 f4 f5;obtain⟨o,e,c,d⟩:=id eh;exact⟨u,rfl,a6S (s:={s with heap:=h'}) e c d ∅ ⟨x,H,I1,ru,⟨rfl,λys hy=>by rw[I.list_inj hy hq];exact hx⟩,eh,λb hb=>(hf b hb).1⟩⟩
 done:=by intro X hP hw hK hc i bB s σ H E I hf st hg;subst hP hw hK;obtain⟨xs,hq,hx⟩:=hg;obtain⟨bD,rv,p,hz⟩:=I.list hq;obtain⟨f0,f1,f2,f3,f4,f5⟩:=hf it ⋯;have hl:=↥rv;exact wpAny_pyNext_list_end (I.ok.hd hc) st p.isList (by simp;ac_nf) λh' eb=>⟨rfl,I.turned (t':=s.toks) (λb o hb e=>eb b o hb e) f0 f1 f3 f4 f5⟩
 self:=λ_ _ _ _ _ st h=>wpAny_pyIter_listiter st h
theorem a7s(a it:Addr):Turn P w K tg (Itt K a) [it] it (λi h=>h.IsTupleIter it a i) where
 mem:=by simp
 obj:=λi h st b hb=>by
  have e:b=it:=by simpa using hb
  subst e;obtain⟨o,e,c,d⟩:=st;exact⟨o,e,λv z=>by rw[d] at z;cases z⟩
 keep:=λi h h' st k=>st.at λo e=>k it ⋯ o e
 item:=by intro X hP hw hK hc i bB s σ H E I hf st hg;subst hP hw hK;obtain⟨xs,x,hq,hx⟩:=hg;obtain⟨bD,rv,p,hz⟩:=I.tuple hq;obtain⟨u,hu,ru⟩:=rv.get hx;obtain⟨f0,f1,f2,f3,f4,f5⟩:=hf it ⋯;refine wpAny_pyNext_tuple_item st (show s.heap.IsTuple a bD.toArray from p) (x:=u) (by simpa using hu) λh' eh sb=>?_;have I1:Inv X bB σ H {s with heap:=h'}:=I.turned (t':=s.toks) (λb o hb e=>(sb.2 b hb).trans e) f0 f1 f3 f4 f5;obtain⟨o,e,c,d⟩:=id eh;exact⟨u,rfl,a6S (s:={s with heap:=h'}) e c d ∅ ⟨x,H,I1,ru,⟨rfl,λys hy=>by rw[I.tuple_inj hy hq];exact hx⟩,eh,λb hb=>(hf b hb).1⟩⟩
 done:=by intro X hP hw hK hc i bB s σ H E I hf st hg;subst hP hw hK;obtain⟨xs,hq,hx⟩:=hg;obtain⟨bD,rv,p,hz⟩:=I.tuple hq;obtain⟨f0,f1,f2,f3,f4,f5⟩:=hf it ⋯;have hl:=↥rv;exact wpAny_pyNext_tuple_end (I.ok.hd hc) st (show s.heap.IsTuple a bD.toArray from p) (by simp;ac_nf) λh' eb=>⟨rfl,I.turned (t':=s.toks) (λb o hb e=>eb b o hb e) f0 f1 f3 f4 f5⟩
 self:=λ_ _ _ _ _ st h=>wpAny_pyIter_tupleiter st h
theorem a7t(it:Addr)(lo:Int)(n:Nat):Turn P w K tg (Itr lo n) [it] it (λi h=>IsRangeIter h it (lo+(i:Nat)*1) ((n:Int)-(i:Nat)) 1) where
 mem:=by simp
 obj:=λi h st b hb=>by
  have e:b=it:=by simpa using hb
  subst e;exact⟨_,st,λv z=>by have z':Data.fields _=Data.cell v:=z;cases z'⟩
 keep:=λi h h' st k=>k it ⋯ _ st
 item:=by intro X hP hw hK hc i bB s σ H E I hf st hg;subst hP hw hK;obtain⟨f0,f1,f2,f3,f4,f5⟩:=hf it ⋯;have W:=Walks.range (prog:=X.prog) (w:=X.w) (I.ok.hd hc) it lo 1 n;refine W.item i s _ _ hg st λv h' tk hv eh kk=>?_;obtain⟨t,rfl⟩:=hv;have I1:Inv X bB σ H {s with heap:=h',toks:=tk}:=I.turned (λb o hb e=>kk b o (by simpa using hb) e) f0 f1 f3 f4 f5;refine⟨_,rfl,a6S (s:={s with heap:=h',toks:=tk}) (n:="range_iterator") eh rfl rfl ∅ ⟨.int (lo+i),H,I1,⟨t,?_⟩,⟨rfl,rfl⟩,eh,λb hb=>(hf b hb).1⟩⟩;rw[Int.mul_one]
 done:=by intro X hP hw hK hc i bB s σ H E I hf st hg;subst hP hw hK;obtain⟨f0,f1,f2,f3,f4,f5⟩:=hf it ⋯;exact wpAny_pyNext_range_end (I.ok.hd hc) st (by have:n<=i:=hg;ac_nf) λh' eb=>⟨rfl,I.turned (t':=s.toks) (λb o hb e=>eb b o hb e) f0 f1 f3 f4 f5⟩
 self:=λ_ _ _ _ _ st h=>wpAny_pyIter_rangeiter st h
variable{lo:Int}{p:Pos}{fp:List Addr}{iter:Expr}
section
def c0y(K:Frag)(tl:TE):TI:=λσ H R=>tl σ H λx H1=>∃a,x=.ref a/\(∃xs,SqL K H1 a xs)/\R (Itl K a) H1
def c2A(K:Frag)(tl:TE):TI:=λσ H R=>tl σ H λx H1=>∃a,x=.ref a/\(∃xs,SqT K H1 a xs)/\R (Itt K a) H1
theorem b4J{l:Expr}{tl:TE}(hl:PE X l tl):PI X tg l (c0y X.K tl):=by
 intro bB s σ H R I h;refine thn (hl bB s σ H _ I h) λv s1 zz=>?_;obtain⟨x,H1,I1,r1,q1⟩:=zz;obtain⟨a,e,⟨xs,hq⟩,q⟩:=q1;subst e;cases r1;obtain⟨bD,rv,p,hz⟩:=I1.list hq;refine hW p.isList ?_;refine⟨s1.heap.objs.size,[s1.heap.objs.size],_,_,H1,rfl,I1.kept (t':=s1.toks) λb o e=>fF _ e,a9t a _,⟨_,fI _ rfl,rfl,rfl⟩,λb hb=>?_,q⟩;have e:b=s1.heap.objs.size:=by simpa using hb
 subst e;exact I1.fpOk (aj _) (I1.hok.fresh (aj _))
theorem b7q{l:Expr}{tl:TE}(hl:PE X l tl):PI X tg l (c2A X.K tl):=by
 intro bB s σ H R I h;refine thn (hl bB s σ H _ I h) λv s1 zz=>?_;obtain⟨x,H1,I1,r1,q1⟩:=zz;obtain⟨a,e,⟨xs,hq⟩,q⟩:=q1;subst e;cases r1;obtain⟨bD,rv,p,hz⟩:=I1.tuple hq;refine wpAny_pyIter_tuple (show s1.heap.IsTuple a bD.toArray from p) ?_;refine⟨s1.heap.objs.size,[s1.heap.objs.size],_,_,H1,rfl,I1.kept (t':=s1.toks) λb o e=>fF _ e,a7s a _,⟨_,fI _ rfl,rfl,rfl⟩,λb hb=>?_,q⟩;have e:b=s1.heap.objs.size:=by simpa using hb
 subst e;exact I1.fpOk (aj _) (I1.hok.fresh (aj _))
theorem b1a{s:Shared}{R:It->Hp->Prop}{E:Value->Shared->Prop}{hi:Int}{t u v:Tok}{tk:Nat}(I:Inv X bB σ H s)(h1: -(2^62)<=lo)(h2:lo<2^62)(h3: -(2^62)<=hi)(h4:hi<2^62)
 (q:R (Itr lo (hi-lo).toNat) H):wpAny (model X.prog X.w) X.A (pyIter (.ref s.heap.objs.size)) (PIE X bB σ tg R) E {s with heap:=s.heap.push {cls:=.type "range",data:=.fields #[.int lo t,.int hi u,.int 1 v]},toks:=tk}:=by
 refine wpAny_pyIter_range (IsRange.new ..) (small_one h1 h2 h3 h4) ?_;have I1:Inv X bB σ H {s with heap:=s.heap.push {cls:=.type "range",data:=.fields #[.int lo t,.int hi u,.int 1 v]},toks:=tk}:=I.kept λb o e=>fF _ e;refine⟨(s.heap.push {cls:=.type "range",data:=.fields #[.int lo t,.int hi u,.int 1 v]}).objs.size,[(s.heap.push {cls:=.type "range",data:=.fields #[.int lo t,.int hi u,.int 1 v]}).objs.size],_,_,H,rfl,
  I1.kept (t':=tk) λb o e=>fF _ e,a7t _ lo (hi-lo).toNat,?_,λb hb=>?_,q⟩
 · have e1:lo+((0:Nat):Int)*1=lo:=by simp
   have e2:(((hi-lo).toNat:Nat):Int)-((0:Nat):Int)=Builtin.Range.rangeSize lo hi 1:=by rw[rangeSize_one];split<;>ac_nf
   show IsRangeIter _ _ (lo+((0:Nat):Int)*1) ((((hi-lo).toNat:Nat):Int)-((0:Nat):Int)) 1;rw[e1,e2];exact fI _ rfl
 · have e:b=(s.heap.push {cls:=.type "range",data:=.fields #[.int lo t,.int hi u,.int 1 v]}).objs.size:=by simpa using hb
   subst e;exact I1.fpOk (aj _) (I1.hok.fresh (aj _))
def c0x(ta:TA):TI:=λσ H R=>ta σ H λvs H1=>∃j:Int,vs=[.int j]/\ -(2^62)<=j/\j<2^62/\R (Itr 0 j.toNat) H1
theorem a9I{a:Expr}(hg:Gl X "range")(hm:X.mg "range"=none)(ha:PA X [a] ta)(hs:starEach [a] X.env=[(false,eval a X.env)]:=by rfl):PI X tg (.Call (.Name "range" p) [a] [] pos) (c0x ta):=by
 intro bB s σ H R I h;refine Call_ (a0i I hg hm boot_range (gi (thn (ha pos bB s σ H _ I h) λus s1 zz=>?_) hs rfl));obtain⟨vs,H1,I1,r1,q1⟩:=zz;obtain⟨j,e,q1,q2,q⟩:=q1;subst e;cases r1 with
 |cons r rr=>
  cases rr;obtain⟨t,rfl⟩:=r;exact call_range_1 (b1a I1 nofun nofun q1 q2 (by simpa using q))
noncomputable def c2e(wi:TI)(g:TG)(tb:TS):TS:=λD σ H=>wi σ H λJ H1=>∃W:Nat->Nat->St->Hp->Prop,(∃m,W 0 m σ H1)/\∀i m σ H,W i m σ H→
 (J.stop i H/\D.nx σ H)∨(J.go i H/\∃N:St->Hp->Prop,(∀bO H',N bO H'->∃m',m'<m/\W (i+1) m' bO H')/\∀x H',J.yld i H x H'->g x σ H' λσ2 H2=>tb {D with nx:=N,ct:=N,bk:=D.nx} σ2 H2)
def a3v(fp:List Addr)(h:Heap):List (Addr×Obj):=fp.filterMap λb=>(h.get? b).map λo=>(b,o)
theorem X5{o:Obj}(hb:b∈fp)(e:h.get? b=some o):(b,o)∈a3v fp h:=List.mem_filterMap.mpr ⟨b,hb,by rw[e];rfl⟩
theorem a9M{p:Addr×Obj}(hp:p∈a3v fp h):p.1∈fp/\h.get? p.1=some p.2:=by
 obtain⟨b,hb,e⟩:=List.mem_filterMap.mp hp;cases q:h.get? b with
 |none=>rw[q] at e;cases e
 |some o=>
  rw[q] at e;have e':(b,o)=p:=ax e;subst e';exact⟨hb,q⟩
theorem Inv.pinned{s:Shared}(I:Inv X bB σ H s)(hf:∀b∈fp,a2K X bB H b)(ho:∀b∈fp,∃o,s.heap.get? b=some o/\∀v,o.data≠.cell v):Inv X (bB++a3v fp s.heap) σ H s:=
 I.pins_of λp hp=>(aL.mp hp).elim (λz=>I.pin p (mem_append_right _ z)) λz=>by obtain⟨hb,e⟩:=a9M z;obtain⟨f0,f1,f2,_⟩:=hf p.1 hb;obtain⟨o,e',d⟩:=ho p.1 hb;rw[e] at e';cases e';exact⟨e,f0,f1,f2,d⟩
theorem Inv.unpinned{pl:List (Addr×Obj)}{s:Shared}(I:Inv X (bB++pl) σ H s):Inv X bB σ H s:=I.pins_of λp hp=>I.pin p (mem_append_right _ (mem_append_left _ hp))
theorem b7m{wi:TI}{g:TG}(hp:PassesOwn (model X.prog X.w) X.A X.env X.xe)(hc:X.calm=true)(hi:PI X tg iter wi)(hg:PG X tg g)(hb:PSs X body tb)
 (hs:∀x,foldedSetIterable iter X.env x=pure x:=by intro _;rfl):PS X (.For tg iter body [] pos) (c2e wi g tb):=by
 intro bB s σ H D I h;refine wpAny_For (thn (hi bB s σ H _ I h) λv s1 h1=>thn h1 λitv s2 h2=>?_) hs;obtain⟨it,fp,tn,J,H2,e,I2,T,st2,f2,W,⟨m0,w0⟩,ee⟩:=h2;subst e
 -- what stays true of the iterator's objects through the loop
 have stat:∀{H':Hp},(∀b∈fp,H' b=none)->∀b∈fp,a2K X bB H' b:=λhn b hb=>⟨hn b hb,(f2 b hb).2⟩;refine codeAny_forLoop_any (λn s'=>∃i bO H',Inv X bB bO H' s'/\tn i s'.heap/\(∀b∈fp,H' b=none)/\W i n bO H') ?_ m0 ⟨0,σ,H2,I2,st2,λb hb=>(f2 b hb).1,w0⟩;rintro n s3 ⟨i,σ3,H3,I3,st3,fr3,w3⟩;rcases ee i n σ3 H3 w3 with⟨stop,qn⟩|⟨go,N,hN,step⟩
 · refine gH hp (thn (T.done X rfl rfl rfl hc i bB s3 σ3 H3 X.xe I3 (stat fr3) st3 stop) λr s4 zz=>?_);obtain⟨hr,I4⟩:=zz;subst hr;exact wpAny_execs_nil ⟨σ3,H3,I4,qn⟩
 · refine gH hp (thn (T.item X rfl rfl rfl hc i bB s3 σ3 H3 X.xe I3 (stat fr3) st3 go) λr s4 zz=>?_);obtain⟨u,hr,h4⟩:=zz;subst hr;refine gH hp (thn h4 λ_ s5 zz=>?_);obtain⟨x,H5,I5,r5,y5,st5,fr5⟩:=zz;have I5':=I5.pinned (stat fr5) (T.obj _ _ st5);refine gH hp (thn (hg _ s5 σ3 H5 x u _ I5' r5 (step x H5 y5)) λ_ s6 zz=>?_);obtain⟨σ6,H6,I6,q6⟩:=zz;refine gH hp (thn (hb _ s6 σ6 H6 _ I6 q6) λf s7 q7=>?_);have again:∀{dX:St}{H7:Hp},Inv X (bB++a3v fp s5.heap) dX H7 s7->N dX H7->∃m,m<n/\∃i bO H',Inv X bB bO H' s7/\tn i s7.heap/\(∀b∈fp,H' b=none)/\W i m bO H':=fun{dX H7} I7 n7=>by obtain⟨m',hm,w7⟩:=hN dX H7 n7;refine⟨m',hm,i+1,dX,H7,I7.unpinned,T.keep _ _ _ st5 λb hb o e=>(I7.pin (b,o) (mem_append_right _ (mem_append_right _ (X5 hb e)))).1,λb hb=>?_,w7⟩;obtain⟨o,e,d⟩:=T.obj _ _ st5 b hb;exact(I7.pin (b,o) (mem_append_right _ (mem_append_right _ (X5 hb e)))).2.1
   cases f with
   |next=>obtain⟨dX,H7,I7,n7⟩:=q7;exact again I7 n7
   |cont=>obtain⟨dX,H7,I7,n7⟩:=q7;exact again I7 n7
   |brk=>obtain⟨dX,H7,I7,q7⟩:=q7;exact⟨dX,H7,I7.unpinned,q7⟩
   |ret v=>obtain⟨x7,dX,H7,I7,r7,q7⟩:=q7;exact⟨x7,dX,H7,I7.unpinned,r7,q7⟩
end
abbrev R2:=V->V->Hp->VK->Prop
def OpR(X:Cx)(f:Value->Value->Sem Value)(r:R2):Prop:=
 ∀(bB:List (Addr×Obj))(s:Shared)(σ:St)(H:Hp)(x y:V)(v u:Value)(Q:VK),Inv X bB σ H s->m8 x v->m8 y u->r x y H Q→
  wpAny (model X.prog X.w) X.A (f v u) (EP X bB σ Q) X.xe s
def UnR(X:Cx)(f:Value->Sem Value)(r:V->Hp->VK->Prop):Prop:=
 ∀(bB:List (Addr×Obj))(s:Shared)(σ:St)(H:Hp)(x:V)(v:Value)(Q:VK),Inv X bB σ H s->m8 x v->r x H Q→
  wpAny (model X.prog X.w) X.A (f v) (EP X bB σ Q) X.xe s
def J0(X:Cx)(f:Value)(r:List V->Hp->VK->Prop):Prop:=
 ∀(bB:List (Addr×Obj))(s:Shared)(σ:St)(H:Hp)(xs:List V)(us:List Value)(Q:VK),Inv X bB σ H s->p7 xs us->r xs H Q→
  wpAny (model X.prog X.w) X.A (call f us) (EP X bB σ Q) X.xe s
def c2Y(X:Cx)(r:V->Hp->(Bool->Hp->Prop)->Prop):Prop:=
 ∀(bB:List (Addr×Obj))(s:Shared)(σ:St)(H:Hp)(x:V)(v:Value)(Q:Bool->Hp->Prop),Inv X bB σ H s->m8 x v->r x H Q→
  wpAny (model X.prog X.w) X.A (truthy v) (TP X bB σ Q) X.xe s
def tOp(r:R2)(ta tb:TE):TE:=λσ H Q=>ta σ H λx H1=>tb σ H1 λy H2=>r x y H2 Q
def tUn(r:V->Hp->VK->Prop)(ta:TE):TE:=λσ H Q=>ta σ H λx H1=>r x H1 Q
def rI(C:Int->Int->Prop)(g:Int->Int->V):R2:=λx y H Q=>∃i j,x=.int i/\y=.int j/\C i j/\Q (g i j) H
def rI0(g:Int->Int->V):R2:=λx y H Q=>∃i j,x=.int i/\y=.int j/\Q (g i j) H
def rU(g:Int->V):V->Hp->VK->Prop:=λx H Q=>∃i,x=.int i/\Q (g i) H
variable{f:Value->Value->Sem Value}
section
variable{a b:Expr}{ta tb tc:TE}
theorem b8T(ha:PE X a ta)(hb:PE X b tb){s:Shared}{R:V->V->Hp->Prop}(I:Inv X bB σ H s)
 (h:ta σ H λx H1=>tb σ H1 λy H2=>R x y H2)
 (hf:∀v u s2 x y H2,Inv X bB σ H2 s2->m8 x v->m8 y u->R x y H2->wpAny (model X.prog X.w) X.A (f v u) Q X.xe s2):
 wpAny (model X.prog X.w) X.A (eval a X.env) (λv bH=>wpAny (model X.prog X.w) X.A (eval b X.env) (λu dh=>wpAny (model X.prog X.w) X.A (f v u) Q X.xe dh) X.xe bH) X.xe s:=by
 refine thn (ha bB s σ H _ I h) λv s1 zz=>?_;obtain⟨x,H1,I1,r1,q1⟩:=zz;refine thn (hb bB s1 σ H1 _ I1 q1) λu s2 zz=>?_;obtain⟨y,H2,I2,r2,q2⟩:=zz;exact hf v u s2 x y H2 I2 r1 r2 q2
theorem c0d{op:Operator}{r:R2}(ho:OpR X (binaryOp op) r)(ha:PE X a ta)(hb:PE X b tb):PE X (.BinOp a op b pos) (tOp r ta tb):=by intro bB s σ H Q I h;exact wpAny_BinOp (b8T ha hb I h λv u s2 x y H2 I2 rx ry q=>ho bB s2 σ H2 x y v u Q I2 rx ry q)
theorem c0b{op:UnaryOp}{r:V->Hp->VK->Prop}(ho:UnR X (unaryOp op) r)(ha:PE X a ta):PE X (.UnaryOp op a pos) (tUn r ta):=by intro bB s σ H Q I h;exact UnaryOp_ (thn (ha bB s σ H _ I h) λv s1 ⟨x,H1,I1,r1,q1⟩=>ho bB s1 σ H1 x v Q I1 r1 q1)
theorem opI{C:Int->Int->Prop}{g:Int->Int->Int}
 (rule:∀(i j:Int)(t u:Tok)(s:Shared)(Q:Value->Shared->Prop)(E:Value->Shared->Prop),C i j->Q (.int (g i j) s.toks) {s with toks:=s.toks+1}->wpAny (model X.prog X.w) X.A (f (.int i t) (.int j u)) Q E s):
 OpR X f (rI C λi j=>.int (g i j)):=by
 intro bB s σ H x y v u Q I rx ry h;obtain⟨i,j,rfl,rfl,hc,q⟩:=h;obtain⟨t,rfl⟩:=rx;obtain⟨t',rfl⟩:=ry;exact rule i j t t' s _ _ hc ⟨.int (g i j),H,I.tok _,⟨_,rfl⟩,q⟩
theorem c0m{g:Int->Int->Int}
 (rule:∀(i j:Int)(t u:Tok)(s:Shared)(Q:Value->Shared->Prop)(E:Value->Shared->Prop),Q (.int (g i j) s.toks) {s with toks:=s.toks+1}->wpAny (model X.prog X.w) X.A (f (.int i t) (.int j u)) Q E s):
 OpR X f (rI0 λi j=>.int (g i j)):=by
 intro bB s σ H x y v u Q I rx ry h;obtain⟨i,j,rfl,rfl,q⟩:=h;obtain⟨t,rfl⟩:=rx;obtain⟨t',rfl⟩:=ry;exact rule i j t t' s _ _ ⟨.int (g i j),H,I.tok _,⟨_,rfl⟩,q⟩
theorem b4X{g:Int->Int->Bool}
 (rule:∀(i j:Int)(t u:Tok)(s:Shared)(Q:Value->Shared->Prop)(E:Value->Shared->Prop),Q (.bool (g i j)) s->wpAny (model X.prog X.w) X.A (f (.int i t) (.int j u)) Q E s):
 OpR X f (rI0 λi j=>.bl (g i j)):=by
 intro bB s σ H x y v u Q I rx ry h;obtain⟨i,j,rfl,rfl,q⟩:=h;obtain⟨t,rfl⟩:=rx;obtain⟨t',rfl⟩:=ry;exact rule i j t t' s _ _ ⟨.bl (g i j),H,I,rfl,q⟩
def c3d(i j:Int):Prop:=0<j/\j<1073741824
def b9q(i j:Int):Prop:=(-(2^64)<i/\i<2^64)∨(-(2^64)<j/\j<2^64)
theorem b9q.ok{i j:Int}(h:b9q i j):IntMulOk i j:=by
 rcases h with⟨h1,h2⟩|⟨h1,h2⟩
 · exact .of_left (intBits_le_64 h1 h2)
 · exact .of_right (intBits_le_64 h1 h2)
theorem b7N:OpR X (binaryOp .Add) (rI0 λi j=>.int (i+j)):=c0m λ_ _ _ _ _ _ _ q=>add_int q
theorem b7E:OpR X (binaryOp .Sub) (rI0 λi j=>.int (i-j)):=c0m λ_ _ _ _ _ _ _ q=>sub_int q
theorem b7H:OpR X (binaryOp .Mult) (rI b9q λi j=>.int (i*j)):=opI λ_ _ _ _ _ _ _ hc q=>mul_int q hc.ok
theorem b4V:OpR X (binaryOp .FloorDiv) (rI c3d λi j=>.int (i/j)):=opI λi j _ _ _ _ _ hc q=>by have h1:(0:Int)<j:=hc.1;have h2:j<1073741824:=hc.2;exact floordiv_int nofun (by rw[Int.fdiv_eq_ediv_of_nonneg i nofun];exact q) (.inl (PyProof.noPylong_small nofun))
theorem b7I:OpR X (binaryOp .Mod) (rI (λ_ j=>0<j) λi j=>.int (i%j)):=opI λi j _ _ _ _ _ hc q=>by have h1:(0:Int)<j:=hc;exact mod_int' nofun (by rw[Int.fmod_eq_emod_of_nonneg i nofun];exact q)
theorem unI{f:Value->Sem Value}{g:Int->Int}
 (rule:∀(i:Int)(t:Tok)(s:Shared)(Q:Value->Shared->Prop)(E:Value->Shared->Prop),Q (.int (g i) s.toks) {s with toks:=s.toks+1}->wpAny (model X.prog X.w) X.A (f (.int i t)) Q E s):
 UnR X f (rU λi=>.int (g i)):=by
 intro bB s σ H x v Q I rx h;obtain⟨i,rfl,q⟩:=h;obtain⟨t,rfl⟩:=rx;exact rule i t s _ _ ⟨.int (g i),H,I.tok _,⟨_,rfl⟩,q⟩
theorem b6I:UnR X (unaryOp .USub) (rU λi=>.int (-i)):=unI λ_ _ _ _ _ q=>neg_int q
end
noncomputable def scal:V->V->Bool
 |.non,.non=>true|.non,.int _=>true|.int _,.non=>true|.non,.bl _=>true|.bl _,.non=>true|.non,.str _=>true|.str _,.non=>true
 |.int _,.int _=>true|.bl _,.bl _=>true|.str _,.str _=>true|.byt _,.byt _=>true
 |.int _,.str _=>true|.str _,.int _=>true|.bl _,.str _=>true|.str _,.bl _=>true
 |_,_=>false
def rEq:R2:=λx y H Q=>scal x y=true/\Q (.bl (decide (x=y))) H
def rNe:R2:=λx y H Q=>scal x y=true/\Q (.bl (!decide (x=y))) H
theorem a9h{i j:Int}:decide (V.int i=V.int j)=(i==j):=by rw[gI];simp
theorem b3p{i j:Bool}:decide (V.bl i=V.bl j)=(i==j):=by rw[gI];simp
theorem a9g{i j:Str}:decide (V.str i=V.str j)=(i==j):=by rw[gI];simp
theorem a9i{i j:Array UInt8}:decide (V.byt i=V.byt j)=(i.toList==j.toList):=by rw[gI];cases i;cases j;simp
variable{op':CmpOp}{bD:List Value}
section
variable{a b:Expr}{ta tb tc:TE}
theorem u6{s:Shared}{Q:VK}{k k':Bool}(I:Inv X bB σ H s)(q:Q (.bl k) H)(e:k=k'):EP X bB σ Q (.bool k') s:=by subst e;exact⟨.bl k,H,I,rfl,q⟩
theorem c0l:OpR X (compareOp .Eq) rEq:=by
 intro bB s σ H x y v u Q I rx ry h;obtain⟨hs,q⟩:=h;cases x with
 |non=>
  cases rx;cases y with
  |non=>cases ry;exact PySem.EqNone.eq_none_none (u6 I q ⋯)
  |bl j=>cases ry;exact PySem.EqNone.eq_none_bool (u6 I q ⋯)
  |int j=>obtain⟨t',rfl⟩:=ry;exact PySem.EqNone.eq_none_int (u6 I q ⋯)
  |str j=>obtain⟨t',rfl⟩:=ry;exact PySem.EqNone.eq_none_str (u6 I q ⋯)
  |_=>exact absurd (show false=true from hs) bq
 |bl i=>
  cases rx;cases y with
  |non=>cases ry;exact PySem.EqNone.eq_bool_none (u6 I q ⋯)
  |bl j=>cases ry;exact eq_bool (u6 I q b3p)
  |str j=>obtain⟨t',rfl⟩:=ry;exact PySem.EqMixed.eq_bool_str (u6 I q ⋯)
  |_=>exact absurd (show false=true from hs) bq
 |int i=>
  obtain⟨t,rfl⟩:=rx;cases y with
  |non=>cases ry;exact PySem.EqNone.eq_int_none (u6 I q ⋯)
  |int j=>obtain⟨t',rfl⟩:=ry;exact eq_int (u6 I q a9h)
  |str j=>obtain⟨t',rfl⟩:=ry;exact PySem.EqMixed.eq_int_str (u6 I q ⋯)
  |_=>exact absurd (show false=true from hs) bq
 |str i=>
  obtain⟨t,rfl⟩:=rx;cases y with
  |non=>cases ry;exact PySem.EqNone.eq_str_none (u6 I q ⋯)
  |bl j=>cases ry;exact PySem.EqMixed.eq_str_bool (u6 I q ⋯)
  |int j=>obtain⟨t',rfl⟩:=ry;exact PySem.EqMixed.eq_str_int (u6 I q ⋯)
  |str j=>obtain⟨t',rfl⟩:=ry;exact eq_str (u6 I q a9g)
  |_=>exact absurd (show false=true from hs) bq
 |byt i=>
  obtain⟨t,rfl⟩:=rx;cases y with
  |byt j=>obtain⟨t',rfl⟩:=ry;exact PySem.W.eq_bytes (u6 I q a9i)
  |_=>exact absurd (show false=true from hs) bq
 |_=>cases y<;>exact absurd (show false=true from hs) bq
theorem c0g:OpR X (compareOp .NotEq) rNe:=by
 intro bB s σ H x y v u Q I rx ry h;obtain⟨hs,q⟩:=h;cases x with
 |non=>
  cases rx;cases y with
  |non=>cases ry;exact PySem.EqNone.ne_none_none (u6 I q ⋯)
  |bl j=>cases ry;exact PySem.EqNone.ne_none_bool (u6 I q ⋯)
  |int j=>obtain⟨t',rfl⟩:=ry;exact PySem.EqNone.ne_none_int (u6 I q ⋯)
  |str j=>obtain⟨t',rfl⟩:=ry;exact PySem.EqNone.ne_none_str (u6 I q ⋯)
  |_=>exact absurd (show false=true from hs) bq
 |bl i=>
  cases rx;cases y with
  |non=>cases ry;exact PySem.EqNone.ne_bool_none (u6 I q ⋯)
  |bl j=>cases ry;exact ne_bool (u6 I q (fN not b3p))
  |str j=>obtain⟨t',rfl⟩:=ry;exact PySem.EqMixed.ne_bool_str (u6 I q ⋯)
  |_=>exact absurd (show false=true from hs) bq
 |int i=>
  obtain⟨t,rfl⟩:=rx;cases y with
  |non=>cases ry;exact PySem.EqNone.ne_int_none (u6 I q ⋯)
  |int j=>obtain⟨t',rfl⟩:=ry;exact ne_int (u6 I q (fN not a9h))
  |str j=>obtain⟨t',rfl⟩:=ry;exact PySem.EqMixed.ne_int_str (u6 I q ⋯)
  |_=>exact absurd (show false=true from hs) bq
 |str i=>
  obtain⟨t,rfl⟩:=rx;cases y with
  |non=>cases ry;exact PySem.EqNone.ne_str_none (u6 I q ⋯)
  |bl j=>cases ry;exact PySem.EqMixed.ne_str_bool (u6 I q ⋯)
  |int j=>obtain⟨t',rfl⟩:=ry;exact PySem.EqMixed.ne_str_int (u6 I q ⋯)
  |str j=>obtain⟨t',rfl⟩:=ry;exact ne_str (u6 I q (fN not a9g))
  |_=>exact absurd (show false=true from hs) bq
 |byt i=>
  obtain⟨t,rfl⟩:=rx;cases y with
  |byt j=>obtain⟨t',rfl⟩:=ry;exact PySem.W.ne_bytes (u6 I q (fN not a9i))
  |_=>exact absurd (show false=true from hs) bq
 |_=>cases y<;>exact absurd (show false=true from hs) bq
theorem c0h:OpR X (compareOp .Lt) (rI0 λi j=>.bl (decide (i<j))):=b4X λ_ _ _ _ _ _ _ q=>lt_int q
theorem c0i:OpR X (compareOp .LtE) (rI0 λi j=>.bl (decide (i<=j))):=b4X λ_ _ _ _ _ _ _ q=>le_int q
theorem c0j:OpR X (compareOp .Gt) (rI0 λi j=>.bl (decide (j<i))):=b4X λ_ _ _ _ _ _ _ q=>gt_int q
theorem c0k:OpR X (compareOp .GtE) (rI0 λi j=>.bl (decide (j<=i))):=b4X λ_ _ _ _ _ _ _ q=>ge_int q
theorem a9K:OpR X (compareOp .In) (λx y H Q=>∃i j,x=.str i/\y=.str j/\Q (.bl (!(occurrences j i 0 ↥j 1).isEmpty)) H):=by intro bB s σ H x y v u Q I rx ry h;obtain⟨i,j,rfl,rfl,q⟩:=h;obtain⟨t,rfl⟩:=rx;obtain⟨t',rfl⟩:=ry;exact in_str (u6 I q rfl)
theorem OpR.or{r r':R2}(h:OpR X f r)(h':OpR X f r'):OpR X f (λx y H Q=>r x y H Q∨r' x y H Q):=by
 intro bB s σ H x y v u Q I rx ry q;rcases q with q|q
 · exact h bB s σ H x y v u Q I rx ry q
 · exact h' bB s σ H x y v u Q I rx ry q
theorem a5l{r:R2}(ho:OpR X (compareOp op) r)(ha:PE X a ta)(hb:PE X b tb)(hm:behindInMarks op b=false):PE X (.Compare a [op] [b] pos) (tOp r ta tb):=by intro bB s σ H Q I h;exact wpAny_Compare1 (b8T ha hb I h λv u s2 x y H2 I2 rx ry q=>ho bB s2 σ H2 x y v u Q I2 rx ry q) hm
def b0H(t:TE):TT:=λσ H Q=>t σ H λx H'=>∃k,x=.bl k/\Q k H'
theorem a5k{r:R2}(ho:OpR X (compareOp op) r)(ha:PE X a ta)(hb:PE X b tb)(hm:behindInMarks op b=false):PT X (.Compare a [op] [b] pos) (b0H (tOp r ta tb)):=by
 intro bB s σ H Q I h;refine wpAny_isTrue_Compare1 (thn (ha bB s σ H _ I h) λv s1 ⟨x,H1,I1,r1,q1⟩=>thn (hb bB s1 σ H1 _ I1 q1) λu s2 ⟨y,H2,I2,r2,q2⟩=>
  thn (ho bB s2 σ H2 x y v u _ I2 r1 r2 q2) λc s3 ⟨z,H3,I3,r3,k,e,q3⟩=>?_) hm
 subst e;cases r3;exact gf ⟨H3,I3,q3⟩
def a7w(r r':R2)(ta tb tc:TE):TE:=λσ H Q=>ta σ H λx H1=>tb σ H1 λy H2=>r x y H2 λz H3=>∃k,z=.bl k∧
 (if k=true then tc σ H3 λw' H4=>r' y w' H4 Q else Q (.bl false) H3)
theorem b1B{r r':R2}(ho:OpR X (compareOp op) r)(dE:OpR X (compareOp op') r')(ha:PE X a ta)(hb:PE X b tb)(hc:PE X c tc)
 (hm:lastMarks [op,op'] [b,c]=false:=by with_unfolding_all rfl):PE X (.Compare a [op,op'] [b,c] pos) (a7w r r' ta tb tc):=by
 intro bB s σ H Q I h;refine Compare_chain (thn (ha bB s σ H _ I h) λv s1 ⟨x,H1,I1,r1,q1⟩=>chain_link (thn (hb bB s1 σ H1 _ I1 q1) λu s2 ⟨y,H2,I2,r2,q2⟩=>
  thn (ho bB s2 σ H2 x y v u _ I2 r1 r2 q2) λd s3 ⟨z,H3,I3,r3,k,e,q3⟩=>?_)) hm
 subst e;cases r3;refine gf ?_;cases k with
 |false=>exact ite_ff ⟨.bl false,H3,I3,rfl,q3⟩
 |true=>exact ite_tt (chain_last (thn (hc bB s3 σ H3 _ I3 q3) λw' s4 ⟨z',H4,I4,r4,q4⟩=>dE bB s4 σ H4 y z' u w' Q I4 r2 r4 q4))
theorem b1h{r r':R2}(ho:OpR X (compareOp op) r)(dE:OpR X (compareOp op') r')(ha:PE X a ta)(hb:PE X b tb)(hc:PE X c tc)
 (hm:lastMarks [op,op'] [b,c]=false:=by with_unfolding_all rfl):PT X (.Compare a [op,op'] [b,c] pos) (b0H (a7w r r' ta tb tc)):=by
 intro bB s σ H Q I h;refine isTrue_chain (thn (ha bB s σ H _ I h) λv s1 ⟨x,H1,I1,r1,q1⟩=>test_link (thn (hb bB s1 σ H1 _ I1 q1) λu s2 ⟨y,H2,I2,r2,q2⟩=>
  thn (ho bB s2 σ H2 x y v u _ I2 r1 r2 q2) λd s3 ⟨z,H3,I3,r3,k,e,q3⟩=>?_)) hm
 subst e;cases r3;refine gf ?_;cases k with
 |false=>
  obtain⟨k',e',q'⟩:=q3;cases e';exact ite_ff ⟨H3,I3,q'⟩
 |true=>
  refine ite_tt (test_last (thn (hc bB s3 σ H3 _ I3 q3) λw' s4 ⟨z',H4,I4,r4,q4⟩=>thn (dE bB s4 σ H4 y z' u w' _ I4 r2 r4 q4) λd' s5 zz=>?_));obtain⟨z2,H5,I5,r5,k2,e2,q5⟩:=zz;subst e2;cases r5;exact gf ⟨H5,I5,q5⟩
def c1U(K:Frag)(x:V)(H:Hp)(k:Bool):Prop:=
 match x with
 |.non=>k=false
 |.bl b=>k=b
 |.int i=>k=(i !=0)
 |.str y=>↥y<=sizeLine/\k=((↥y:Int) !=0)
 |.byt y=>y.size<=sizeLine/\k=((y.size:Int) !=0)
 |.ref p=>(∃xs,SqL K H p xs/\k=!xs.isEmpty)∨(∃xs,SqT K H p xs/\k=!xs.isEmpty)∨∃bC,H p=some (.dK bC)/\k=!bC.isEmpty
 |_=>False
theorem a7Q{κ:Type}{bC:List (κ×V)}{vs:List (κ×Value)}(r:KV bC vs):(!vs.isEmpty)=!bC.isEmpty:=by cases r<;>rfl
theorem a3L{xs:List V}(r:p7 xs bD):(!bD.toArray.isEmpty)=!xs.isEmpty:=by cases r<;>simp
theorem a1e:(sizeLine:Nat)<2^63:=by rw[gX];decide
theorem b6O:c2Y X (λx H Q=>∃k,c1U X.K x H k/\Q k H):=by
 intro bB s σ H x v Q I rx h;obtain⟨k,e,q⟩:=h;have hl:=a1e;have hs:sizeLine=16777216:=gX;cases x with
 |non=>
  cases rx;have e':k=false:=e;subst e';exact truthy_none ⟨H,I,q⟩
 |bl b=>
  cases rx;have e':k=b:=e;subst e';exact gf ⟨H,I,q⟩
 |int i=>
  obtain⟨t,rfl⟩:=rx;have e':k=(i !=0):=e;subst e';exact PySem.P.truthy_int ⟨H,I,q⟩
 |str y=>
  obtain⟨t,rfl⟩:=rx;obtain⟨hy,e'⟩:↥y<=sizeLine/\k=((↥y:Int) !=0):=e;subst e';exact PySem.P.truthy_str nofun ⟨H,I.tok _,q⟩
 |byt y=>
  obtain⟨t,rfl⟩:=rx;obtain⟨hy,e'⟩:y.size<=sizeLine/\k=((y.size:Int) !=0):=e;subst e';exact PySem.W.truthy_bytes nofun ⟨H,I.tok _,q⟩
 |ref p=>
  cases rx;have e':(∃xs,SqL X.K H p xs/\k=!xs.isEmpty)∨(∃xs,SqT X.K H p xs/\k=!xs.isEmpty)∨∃bC,H p=some (.dK bC)/\k=!bC.isEmpty:=e;rcases e' with⟨xs,hx,e'⟩|⟨xs,hx,e'⟩|⟨bC,hx,e'⟩
  · subst e';obtain⟨bD,r,pl,hz⟩:=I.list hx;have bP:=↥r;exact wpAny_truthy_list pl.isList (by simp only[size_toArray];ac_nf) ⟨H,I.tok _,by rw[a3L r];exact q⟩
  · subst e';obtain⟨bD,r,pl,hz⟩:=I.tuple hx;have bP:=↥r;exact truthy_tuple pl (by simp only[size_toArray];ac_nf) ⟨H,I.tok _,by rw[a3L r];exact q⟩
  · subst e';obtain⟨hz,hS,vs,r,m⟩:↥bC<=sizeLine/\(p==sysModules)=false/\∃vs,KV bC vs/\s.heap.DictOf (x5 X.prog X.w) p vs:=I.hok p _ hx;have bP:↥bC=↥vs:=Paired.length r;exact wpAny_truthy_dict hS m nofun ⟨H,I.tok _,by rw[a7Q r];exact q⟩
 |_=>exact(show False from e).elim
theorem b1e(ha:PE X a ta)(he:∀db,isTrue a X.env db=(do let v←db;standAt a.pos;holding [v] (truthy v))):
 PT X a (λσ H Q=>ta σ H λx H'=>∃k,c1U X.K x H' k/\Q k H'):=by
 intro bB s σ H Q I h;exact isTrue_plain (thn (ha bB s σ H _ I h) λv s1 ⟨x,H1,I1,r1,q1⟩=>b6O bB s1 σ H1 x v Q I1 r1 q1) (he _)
theorem a7F:OpR X (binaryOp .Add) (λx y H Q=>∃i j,x=.str i/\y=.str j/\↥i+↥j<=sizeLine/\Q (.str (i++j)) H):=by intro bB s σ H x y v u Q I rx ry h;obtain⟨i,j,rfl,rfl,hz,q⟩:=h;obtain⟨t,rfl⟩:=rx;obtain⟨t',rfl⟩:=ry;exact add_str (λt' tk=>⟨.str (i++j),H,I.tok _,⟨_,rfl⟩,q⟩) hz
theorem V8{x:V}(r:p7 [x] us):∃u,us=[u]/\m8 x u:=by
 cases r with
 |cons r1 r2=>cases r2;exact⟨_,rfl,r1⟩
theorem a4p{x:V}(r:p7 [x,y] us):∃u w',us=[u,w']/\m8 x u/\m8 y w':=by
 cases r with
 |cons r1 r2=>
  cases r2 with
  |cons r3 r4=>cases r4;exact⟨_,_,rfl,r1,r3⟩
theorem b0n(hc:X.calm=true):J0 X (.builtin "max") (λxs H Q=>∃i j,xs=[.int i,.int j]/\Q (.int (if j>i then j else i)) H):=by
 intro bB s σ H xs us Q I r h;obtain⟨i,j,rfl,q⟩:=h;obtain⟨u,w',rfl,⟨t,rfl⟩,⟨t',rfl⟩⟩:=a4p r;refine max_two_ints (I.ok.hd hc) λh' tk k=>⟨_,H,I.kept k,?_,q⟩
 by_cases hj:j>i
 · rw[ay hj,ay hj];exact⟨_,rfl⟩
 · rw[az hj,az hj];exact⟨_,rfl⟩
theorem a4P:J0 X (.type "int") (λxs H Q=>(∃i,xs=[.int i]/\Q (.int i) H)∨∃k,xs=[.bl k]/\Q (.int (if k then 1 else 0)) H):=by
 intro bB s σ H xs us Q I r h;rcases h with⟨i,rfl,q⟩|⟨k,rfl,q⟩
 · obtain⟨u,rfl,t,rfl⟩:=V8 r;exact call_int_int ⟨.int i,H,I,⟨_,rfl⟩,q⟩
 · obtain⟨u,rfl,r1⟩:=V8 r;cases r1;exact call_int_bool ⟨.int (if k then 1 else 0),H,I.tok _,⟨_,rfl⟩,q⟩
theorem a5U:J0 X (.type "str") (λxs H Q=>∃i,xs=[.int i]/\i.natAbs.log2<1920/\Q (.str (toString i)) H):=by intro bB s σ H xs us Q I r h;obtain⟨i,rfl,hz,q⟩:=h;obtain⟨u,rfl,t,rfl⟩:=V8 r;exact PySem.P.str_of_int hz ⟨.str _,H,I.tok _,⟨_,rfl⟩,q⟩
end
structure ObjM(h:Heap)(x dx C:Addr)(mA:Str->Option Value):Prop where
 obj:h.get? x=some (instObj C dx)
 ns:h.Ns1 dx mA
 ne:dx≠x
variable{dx:Addr}{mA:Str->Option Value}
theorem a9R(n:h.Ns1 dx mA):∃od,h.get? dx=some od/\∀name,lookIn name od=some (mA name):=by
 obtain⟨o,es,ep,ho,hd,hk,_,hm⟩:=n;refine⟨o,ho,λname=>?_⟩;have e:=hm name;unfold nsFind findBy at e;rw[←Array.find?_toList] at e;unfold lookIn;rw[hd]
 dsimp only
 split
 · rename_i y q;rw[q] at e;exact fN some e
 · rename_i q;rw[q] at e;have a:es.toList.any (·.refKey)=false:=by rw[List.any_eq_false];intro y hy;obtain⟨z,t,hkey⟩:=hk y (Array.mem_toList_iff.mp hy);simp[DictEntry.refKey,hkey]
   have a':¬es.toList.any (·.refKey)=true:=by rw[a];exact bq
   rw[az a'];exact fN some e
variable{C:Addr}
theorem ObjM.look{x:Addr}(I:ObjM h x dx C mA):∃od,PySem.W.InstAt h x (instObj C dx) C (some od)/\∀name,lookIn name od=some (mA name):=
 let⟨od,ho,hl⟩:=a9R I.ns
 ⟨od,⟨I.obj,rfl,rfl,ho⟩,hl⟩
variable{expr:Bool}{vs:List Value}{kw:List (Str×Value)}
section
variable{prog:Program}{E:Value->Shared->Prop}{s:Shared}{x f:Addr}{name:Str}{v:Value}
theorem b5y(X:K.In s.heap)(I:ObjM s.heap x dx C mA)(hg:plainGet K C name=true)(hh:hasDictIn K C=true)
 (ha:PySem.W.findIn K (.ref C) name=some none) (hv:mA name=some v) (hv':handedIn v=true) (h:Q v {s with toks:=s.toks+1}):
 wpAny (model prog w) A (getAttr (.ref x) name expr) Q E s:=by
 obtain⟨od,J,hl⟩:=I.look;exact PySem.W.get_value X J (PySem.W.plainGet_of hg).1 (PySem.W.findObj_own hh ha rfl (by rw[hl,hv])) hv' h
theorem b4s{ns:List Str}{Q:Unit->Shared->Prop}(X:K.In s.heap)(I:ObjM s.heap x dx C mA)
 (hs:PySem.W.findIn K (.ref C) "__setattr__"=some (some (.builtin "object.__setattr__"))) (hp:plainOver K C=true) (ht:takerIn K C name=some none) (hh:hasDictIn K C=true)
 (hw:PySem.Within mA ns) (hsz:↥ns<=sizeLine)
 (h:∀h',ObjM h' x dx C (λy=>if y=name then some v else mA y)->Heap.SameBut dx s.heap h'->Q () {s with heap:=h',toks:=s.toks+2}):
 wpAny (model prog w) A (setAttr (.ref x) name v) Q E s:=by
 obtain⟨od,J,hl⟩:=I.look;refine PySem.W.set_plain X J hs (PySem.W.osa_open (s:={s with toks:=s.toks+1}) (r:=none) X J hp ht λb=>?_);obtain⟨cd,hc,eQ⟩:=PySem.W.any_some hh;have hx:s.heap.get? x=some ⟨.ref C,some dx,.plain,#[]⟩:=I.obj;refine fv (fG (fv (fv (wpAny_loadPart hx (fv (PySem.W.Looks.here (s:={s with toks:=s.toks+1}) (PySem.W.looks_clsIn X hc) ?_))))));rw[eQ];refine fG (a:=some dx) (fv (fG (fv ?_)));refine wpAny_nsSet1 (s:={s with toks:=s.toks+1}) I.ns λh' hn2 hs2=>?_;obtain⟨oD,esD,epD,hoD,hdD,hcD⟩:=hn2.count (PySem.Within.cons name v hw);refine fv (wpAny_lookBehind hoD (by rw[hdD];exact pastItsLine_dict (aR hcD (by rw[length_cons];ac_nf))) ?_);exact fG (h _ ⟨(hs2.2 _ (fR I.ne)).trans I.obj,hn2,I.ne⟩ hs2)
theorem b1P{R:Result->Shared->Prop}(X:K.In s.heap)(hm:makesIn K C=true)
 (hi:PySem.W.findIn K (.ref C) "__init__"=some (~~~f)) (hf:PySem.W.typeIn K (.ref f)=some (.type "function"))
 (h:codeAny (model prog w) (A.under (.builtin "type.__call__" ⟨.ref C::vs,kw⟩)) (.call (.ref f) ⟨.ref (s.heap.objs.size+1)::vs,kw⟩) (PySem.W.InitBack (s.heap.objs.size+1) R)
  {s with heap:=(s.heap.push emptyDict).push (instObj C s.heap.objs.size)}):
 codeAny (model prog w) A (.call (.ref C) ⟨vs,kw⟩) R s:=by
 obtain⟨hh,g,d,t,os⟩:=s;exact PySem.W.make_core (PySem.W.makes_of X hm) (PySem.W.looks_findIn X hi) (λself=>PySem.W.bind_fn X self hf) (.inl rfl) h
end
def X3(f:Str)(v:V):List (Str×V)->List (Str×V)
 |[]=>[(f,v)]
 |(g,x)::r=>if g=f then(g,v)::r else(g,x)::X3 f v r
theorem a2u(f g:Str)(v:V):∀fs:List (Str×V),(X3 f v fs).lookup g=if g=f then some v else fs.lookup g
 |[]=>by
  show List.lookup g [(f,v)]=_
  by_cases h:g=f
  · have hb:(g==f)=true:=beq_iff_eq.mpr h;simp only[List.lookup,hb,ay h]
  · have hb:(g==f)=false:=beq_eq_false_iff_ne.mpr h;simp only[List.lookup,hb,az h]
 | (k,x)::r=>by
  have ih:=a2u f g v r;rw[show X3 f v ((k,x)::r)=(if k=f then(k,v)::r else(k,x)::X3 f v r) from rfl]
  by_cases hk:k=f
  · rw[ay hk]
    by_cases h:g=k
    · have hb:(g==k)=true:=beq_iff_eq.mpr h;simp only[List.lookup,hb,ay (h.trans hk)]
    · have hb:(g==k)=false:=beq_eq_false_iff_ne.mpr h;simp only[List.lookup,hb,az (λe:g=f=>h (e.trans hk.symm))]
  · rw[az hk]
    by_cases h:g=k
    · have hb:(g==k)=true:=beq_iff_eq.mpr h;simp only[List.lookup,hb,az (λe:g=f=>hk (h.symm.trans e))]
    · have hb:(g==k)=false:=beq_eq_false_iff_ne.mpr h;simp only[List.lookup,hb];exact ih
theorem a2d(f:Str)(v:V):∀fs:List (Str×V),f∈(X3 f v fs).map (·.1)/\∀g,g∈fs.map (·.1)->g∈(X3 f v fs).map (·.1)
 |[]=>⟨by simp[X3],λg h=>by simp at h⟩
 | (k,x)::r=>by
  obtain⟨i1,i2⟩:=a2d f v r;rw[show X3 f v ((k,x)::r)=(if k=f then(k,v)::r else(k,x)::X3 f v r) from rfl]
  by_cases hk:k=f
  · rw[ay hk];subst hk;exact⟨by simp,λg h=>by simpa using h⟩
  · rw[az hk];refine⟨?_,λg h=>?_⟩
    · rw[map_cons];exact aE _ i1
    · rw[map_cons] at h⊢;rcases aF.mp h with e|e
      · exact aF.mpr (.inl e)
      · exact aE _ (i2 g e)
theorem a2v(f:Str)(v:V):∀fs:List (Str×V),↥(X3 f v fs)<=↥fs+1
 |[]=>by simp[X3]
 |(k,x)::r=>by
  have ih:=a2v f v r;rw[show X3 f v ((k,x)::r)=(if k=f then(k,v)::r else(k,x)::X3 f v r) from rfl]
  by_cases hk:k=f
  · rw[ay hk,length_cons,length_cons];ac_nf
  · rw[az hk,length_cons,length_cons];ac_nf
theorem a0R.some_of{o:Option Value}(r:a0R (some v) o):∃u,o=some u/\m8 v u:=by
 cases o with
 |none=>exact(show False from r).elim
 |some u=>exact⟨u,rfl,r⟩
theorem a9Z(r:m8 v u):handedIn u=true:=by
 cases v with
 |non=>cases (show u=Value.none from r);rfl
 |bl b=>cases (show u=Value.bool b from r);rfl
 |int i=>obtain⟨t,e⟩:=(show∃t,u=Value.int i t from r);cases e;rfl
 |str x=>obtain⟨t,e⟩:=(show∃t,u=Value.str x t from r);cases e;rfl
 |byt b=>obtain⟨t,e⟩:=(show∃t,u=Value.bytes b t from r);cases e;rfl
 |flt b=>obtain⟨t,e⟩:=(show∃t,u=Value.float b t from r);cases e;rfl
 |ref a=>cases (show u=Value.ref a from r);rfl
 |ty n=>cases (show u=Value.type n from r);rfl
section
variable{fs fs':List (Str×V)}
theorem a5B(hok:HOk P w H h)(e:H a=some (.ins C dx fs)):∃mA,ObjM h a dx C mA/\(∀f,a0R (fs.lookup f) (mA f))/\PySem.Within mA (fs.map (·.1))/\↥fs<=1000/\H dx=some (.own a):=by obtain⟨d,z,ne,ob,mA,n,r,q⟩:=(show D6 P w H h a (.ins C dx fs) from hok a _ e);exact⟨mA,⟨ob,n,ne⟩,r,q,z,d⟩
end
structure Cls(K:Frag)(C:Addr):Prop where
 pg:plainGet K C Str.empty=true
 hd:hasDictIn K C=true
 po:plainOver K C=true
 sa:PySem.W.findIn K (.ref C) "__setattr__"=some (some (.builtin "object.__setattr__"))
theorem Cls.get(c:Cls K C)(f:Str):plainGet K C f=true:=c.pg
def a0F(K:Frag)(C:Addr)(f:Str):Prop:=PySem.W.findIn K (.ref C) f=some none
theorem a0F.taker{f:Str}(n:a0F K C f):takerIn K C f=some none:=by unfold takerIn;rw[show PySem.W.findIn K (.ref C) f=some none from n];rfl
variable{prog:Program}{env:Env}
section
variable{s:Shared}{fs:List (Str×V)}{f:Str}{E:Value->Shared->Prop}
theorem a7T{b:Bool}(I:Inv X bB σ H s)(e:H a=some (.ins C dx fs))(c:Cls X.K C)(n:a0F X.K C f)(l:fs.lookup f=some v)
 (h:∀u s',Inv X bB σ H s'->m8 v u->Q u s'):wpAny (model X.prog X.w) A (getAttr (.ref a) f b) Q E s:=by
 obtain⟨mA,O,r,_,_,_⟩:=a5B I.hok e;obtain⟨u,hu,ru⟩:=a0R.some_of (v:=v) (o:=mA f) (by rw[←l];exact r f);exact b5y I.kIn O (c.get f) c.hd n hu (a9Z ru) (h u _ (I.tok _) ru)
theorem a7C{Q:Unit->Shared->Prop}(I:Inv X bB σ H s)(e:H a=some (.ins C dx fs))(c:Cls X.K C)(n:a0F X.K C f)(hl:↥fs<1000)(ry:m8 y u)
 (h:∀s',Inv X bB σ (upd H a (.ins C dx (X3 f y fs))) s'->Q () s'):wpAny (model X.prog X.w) A (setAttr (.ref a) f u) Q E s:=by
 obtain⟨mA,O,r,wi,_,ho⟩:=a5B I.hok e;have hz:↥(fs.map (·.1))<=sizeLine:=by rw[aa,gX];ac_nf
 refine b4s I.kIn O c.sa c.po n.taker c.hd wi hz λh' O' sb=>h _ ?_;have hd:∃o,h'.get? dx=some o:=let⟨o,_,_,e',_⟩:=O'.ns;⟨o,e'⟩;refine I.write (x:=a) (e:=dx) (by rw[e];exact True.intro) (.inr ho) (λb q hb z=>(sb.2 b hb).trans z) hd ?_;refine⟨by rw[n0 O.ne];exact ho,?_,O.ne,O'.obj,_,O'.ns,λg=>?_,λg hg=>?_⟩
 · have:=a2v f y fs;ac_nf
 · show a0R ((X3 f y fs).lookup g) (if g=f then some u else mA g);rw[a2u]
   by_cases q:g=f
   · rw[ay q,ay q];exact ry
   · rw[az q,az q];exact r g
 · by_cases q:g=f
   · rw[q];exact(a2d f y fs).1
   · refine(a2d f y fs).2 g (wi g λz=>hg ?_);show(if g=f then some u else mA g)=none;rw[az q];exact z
theorem Inv.made(I:Inv X bB σ H s):Inv X bB σ (upd (upd H s.heap.objs.size (.own (s.heap.objs.size+1))) (s.heap.objs.size+1) (.ins C s.heap.objs.size []))
 {s with heap:=(s.heap.push emptyDict).push (instObj C s.heap.objs.size)}:=by
 have e1:(s.heap.push emptyDict).get? s.heap.objs.size=some emptyDict:=fI s.heap rfl;have e2:((s.heap.push emptyDict).push (instObj C s.heap.objs.size)).get? (s.heap.objs.size+1)=some (instObj C s.heap.objs.size):=by
  have:=fI (s.heap.push emptyDict) (o:=instObj C s.heap.objs.size) rfl
  rwa [gu] at this
 have e3:(s.heap.push emptyDict).Ns s.heap.objs.size (λ_=>none):=⟨emptyDict,#[],_,e1,rfl,(λe he=>absurd he ⋯),λ_=>rfl⟩;have I1:=I.laid (a:=s.heap.objs.size) (o:=.own (s.heap.objs.size+1)) (h':=s.heap.push emptyDict) (t':=s.toks) (λb u q=>fF _ q) (aj _) ⟨_,e1⟩;refine I1.laid (a:=s.heap.objs.size+1) (o:=.ins C s.heap.objs.size []) (t':=s.toks) (λb u q=>fF _ q) (Nat.le_of_eq (gu _ _)) ?_;have ne:s.heap.objs.size≠s.heap.objs.size+1:=fP (aT _);refine⟨by rw[n0 ne,i7],gd _,ne,e2,λ_=>none,(Heap.Ns1.of_empty e3).at λo q=>fF _ q,λ_=>True.intro,λy hy=>absurd rfl hy⟩
theorem b6j{f:Str}{s:Shared}(hb:attributeBase e f env (eval e env)=eval e env)
 (h:wpAny (model prog w) A (eval e env) (λo bH=>wpAny (model prog w) A (getAttr o f true) Q E bH) E s):wpAny (model prog w) A (eval (.Attribute e f pos) env) Q E s:=
 Attribute_any_ h (by rw[arm_eval_Attribute,hb])
end
def c2f(K:Frag)(ta:TE)(f:Str):TE:=λσ H Q=>ta σ H λx H1=>∃a C dx fs v,x=.ref a/\H1 a=some (.ins C dx fs)/\Cls K C/\a0F K C f/\fs.lookup f=some v/\Q v H1
def c2i(K:Frag)(ta tv:TE)(f:Str):TS:=λD σ H=>tv σ H λy H1=>ta σ H1 λx H2=>∃a C dx fs,x=.ref a/\H2 a=some (.ins C dx fs)/\Cls K C/\a0F K C f/\↥fs<1000∧
 D.nx σ (upd H2 a (.ins C dx (X3 f y fs)))
variable{cu:Pos}
section
variable{o value:Expr}{f:Str}{ef:Pos}{ta tv:TE}
theorem b7B(he:PE X e ta)(hb:attributeBase e f X.env (eval e X.env)=eval e X.env):PE X (.Attribute e f pos) (c2f X.K ta f):=by intro bB s σ H Q I h;refine b6j hb (thn (he bB s σ H _ I h) λu s1 zz=>?_);obtain⟨x,H1,I1,rx,a,C,dx,fs,v,ex,ea,c,n,l,q⟩:=zz;subst ex;obtain rfl:u=Value.ref a:=rx;exact a7T I1 ea c n l λu' s2 I2 ru=>⟨v,H1,I2,ru,q⟩
theorem b7n(ha:PE X o ta)(hv:PE X value tv)(hs:swapsWith value (some (.Attribute o f cV)) pos.line X.env=pure false):PS X (.Assign [.Attribute o f cV] value pos) (c2i X.K ta tv f):=by intro bB s σ H D I h;refine plainObj_wpAny_Assign_Attribute (thn (hv bB s σ H _ I h) λu s1 ⟨y,H1,I1,ry,q⟩=>thn (ha bB s1 σ H1 _ I1 q) λov s2 zz=>?_) hs;obtain⟨x,H2,I2,rx,a,C,dx,fs,ex,ea,c,n,l,q2⟩:=zz;subst ex;obtain rfl:ov=Value.ref a:=rx;exact a7C I2 ea c n l ry λs3 I3=>⟨σ,_,I3,q2⟩
end
section
variable{s:Shared}{E:Value->Shared->Prop}{c:Value}{b:Bool}
inductive TyOf(K:Frag)(H:Hp):V->Value->Prop where
 |non:TyOf K H .non (.type "NoneType")
 |bl (x:Bool):TyOf K H (.bl x) (.type "bool")
 |int (i:Int):TyOf K H (.int i) (.type "int")
 |str (x:Str):TyOf K H (.str x) (.type "str")
 |flt (x:UInt64):TyOf K H (.flt x) (.type "float")
 |lst {a:Addr} {xs:List V} (e:H a=some (.lst xs)):TyOf K H (.ref a) (.type "list")
 |frz {a:Addr} {o:Obj} {xs:List V} (e:H a=some (.frz o (.lst xs))):TyOf K H (.ref a) (.type "list")
 |tup {a:Addr} {xs:List V} (e:H a=some (.tup xs)):TyOf K H (.ref a) (.type "tuple")
 |dK {a:Addr} {bC:List (Key×V)} (e:H a=some (.dK bC)):TyOf K H (.ref a) (.type "dict")
 |dT {a:Addr} {bC:List (List Key×V)} (e:H a=some (.dT bC)):TyOf K H (.ref a) (.type "dict")
 |ins {a C dx:Addr} {fs:List (Str×V)} (e:H a=some (.ins C dx fs)) (cl:Cls K C) (ha:PySem.W.findIn K (.ref C) "__class__"=some (some (.builtin "object.__class__")))
  (hn:PySem.W.specialIn K (.builtin "object.__class__") "__get__"=some (some (.builtin "getset_descriptor.__get__"))) (htk:PySem.W.takesIn K (.builtin "object.__class__")=some true)
  (hm:mroIn K C (.type "object")=some true):TyOf K H (.ref a) (.ref C)
theorem a9W{x:V}{t:Value}(I:Inv X bB σ H s)(rx:m8 x u)(ty:TyOf X.K H x t)(e:kitOne X.K t c=some b)(h:∀tk,Q (.bool b) {s with toks:=tk}):
 wpAny (model X.prog X.w) A (call (.builtin "isinstance") [u,c]) Q E s:=by
 cases ty with
 |non=>cases (show u=Value.none from rx);exact kia_one PySem.W.kitx_none I.kIn True.intro e (λz=>nomatch z) h
 |bl y=>cases (show u=Value.bool y from rx);exact kia_one PySem.W.kitx_bool I.kIn True.intro e (λz=>nomatch z) h
 |int i=>obtain⟨t,q⟩:=(show∃t,u=Value.int i t from rx);cases q;exact kia_one PySem.W.kitx_int I.kIn True.intro e (λz=>nomatch z) h
 |str y=>obtain⟨t,q⟩:=(show∃t,u=Value.str y t from rx);cases q;exact kia_one PySem.W.kitx_str I.kIn True.intro e (λz=>nomatch z) h
 |flt y=>obtain⟨t,q⟩:=(show∃t,u=Value.float y t from rx);cases q;exact kia_one PySem.W.kitx_float I.kIn True.intro e (λz=>nomatch z) h
 | @lst a xs ea=>
  cases (show u=Value.ref a from rx);obtain⟨_,_,n,_,h1⟩:=(show D6 X.prog X.w H s.heap a (.lst xs) from I.hok a _ ea);exact kia_one kitx_list I.kIn ⟨_,h1,rfl⟩ e (λz=>nomatch z) h
 | @frz a ob xs ea=>
  cases (show u=Value.ref a from rx);obtain⟨_,_,_,n,_,h1⟩:=(show D6 X.prog X.w H s.heap a (.frz ob (.lst xs)) from I.hok a _ ea);exact kia_one kitx_list I.kIn ⟨_,h1,rfl⟩ e (λz=>nomatch z) h
 | @tup a xs ea=>
  cases (show u=Value.ref a from rx);obtain⟨_,_,_,p⟩:=(show D6 X.prog X.w H s.heap a (.tup xs) from I.hok a _ ea);obtain⟨o,h1,h2,_⟩:=p;exact kia_one PySem.W.kitx_tuple I.kIn ⟨o,h1,h2⟩ e (λz=>nomatch z) h
 | @dK a bC ea=>
  cases (show u=Value.ref a from rx);obtain⟨_,_,vs,_,p⟩:=(show D6 X.prog X.w H s.heap a (.dK bC) from I.hok a _ ea);obtain⟨o,es,ep,h1,h2,_⟩:=p;exact kia_one kitx_dict I.kIn ⟨o,h1,h2.1⟩ e (λz=>nomatch z) h
 | @dT a bC ea=>
  cases (show u=Value.ref a from rx);obtain⟨_,_,xs,_,o,es,ep,h1,h2,_⟩:=(show D6 X.prog X.w H s.heap a (.dT bC) from I.hok a _ ea);exact kia_one kitx_dict I.kIn ⟨o,h1,h2.1⟩ e (λz=>nomatch z) h
 | @ins a C dx fs ea cl ha hn htk hm=>
  cases (show u=Value.ref a from rx);obtain⟨mA,O,_⟩:=a5B I.hok ea;obtain⟨od,J,_⟩:=O.look;exact kia_one (PySem.W.kitx_own (cl.get _) cl.hd ha hn htk hm) I.kIn J e (λz=>nomatch z) h
end
structure Room(k:Nat)(A:Around):Prop where
 hd:A.handled=none
 dp:A.depth+3*k+5<recursionLimit
 un:A.units+16*k+200<cLine
theorem Room.mono{k:Nat}(r:Room k A)(h:j<=k):Room j A:=⟨r.hd,by have:=r.dp;ac_nf,by have:=r.un;ac_nf⟩
theorem Room.deeper{k:Nat}(r:Room (k+1) A)(env:Env):Room k (A.deeper env):=
 ⟨r.hd,by have:=r.dp;show A.depth+1+3*k+5<_;ac_nf,by have:=r.un;show A.units+3+16*k+200<_;ac_nf⟩
theorem a7L:(A.under (.builtin "type.__call__" ⟨.ref C::us,kw⟩)).depth=A.depth+1:=by first|rfl|simp[Around.under,Code.weight,Code.isCreation,Code.isGuard,Code.isCaller,Code.frames,Code.isFrame,guardIds]
theorem a7K:(A.under (.builtin "type.__call__" ⟨.ref C::us,kw⟩)).units=A.units+1:=by first|rfl|simp[Around.under,Code.cUnits,Code.frames,Code.isFrame]
theorem Room.make{k:Nat}(r:Room (k+1) A)(C:Addr)(us:List Value)(kw:List (Str×Value)):Room k (A.under (.builtin "type.__call__" ⟨.ref C::us,kw⟩)):=
 ⟨r.hd,by have:=r.dp;rw[a7L];ac_nf,by have:=r.un;rw[a7K];ac_nf⟩
theorem Room.depth{k:Nat}(r:Room k A):A.depth<recursionLimit:=by have:=r.dp;ac_nf
theorem Room.units{k:Nat}(r:Room k A):A.units+64<cLine:=by have:=r.un;ac_nf
def b6T:TA:=λ_ H Q=>Q [] H
def b0I(ta:TE)(tr:TA):TA:=λσ H Q=>ta σ H λx H1=>tr σ H1 λxs H2=>Q (x::xs) H2
section
variable{t:TA}
theorem a2b:PA X [] b6T:=λ_ _ _ _ H Q I h=>Calls.spliced_nil ⟨[],H,I,.nil,h⟩
theorem Q9(ha:PE X e te)(hr:PA X es t)(hs:starEach (e::es) X.env=(false,eval e X.env)::starEach es X.env:=by rfl):PA X (e::es) (b0I te t):=by intro pos bB s σ H Q I h;rw[hs];show wpAny _ _ (spliced ((false,eval e X.env)::backTo pos (starEach es X.env))) _ _ s;refine gY (thn (ha bB s σ H _ I h) λu s1 zz=>?_);obtain⟨x,H1,I1,r1,q1⟩:=zz;exact thn (hr pos bB s1 σ H1 _ I1 q1) λus s2 ⟨xs,H2,I2,r2,q2⟩=>⟨x::xs,H2,I2,.cons r1 r2,q2⟩
def c1W(t:TA):TE:=λσ H Q=>t σ H λxs H1=>↥xs<=sizeLine/\∀p,H1 p=none->Q (.ref p) (upd H1 p (.tup xs))
def c2b(t:TA):TE:=λσ H Q=>t σ H λxs H1=>↥xs<=sizeLine/\∀p,H1 p=none->Q (.ref p) (upd H1 p (.lst xs))
theorem b7w{x1}(h:PA X es t):PE X (.Tuple es x1 pos) (c1W t):=by intro bB s σ H Q I hq;refine wpAny_Tuple_spliced (thn (h pos bB s σ H _ I hq) λus s1 ⟨xs,H1,I1,r,z,q⟩=>⟨by rw[←r.length];exact z,?_⟩);have hf:H1 s1.heap.objs.size=none:=I1.hok.fresh (aj _);refine⟨.ref s1.heap.objs.size,upd H1 s1.heap.objs.size (.tup xs),I1.laid (t':=s1.toks) (λb u e=>fF _ e) (aj _) ?_,rfl,q _ hf⟩;exact⟨z,us,r,⟨_,fI _ rfl,rfl,rfl,_,rfl⟩⟩
theorem b7A(h:PA X es t):PE X (.List es pos) (c2b t):=by intro bB s σ H Q I hq;refine wpAny_List_spliced (thn (h pos bB s σ H _ I hq) λus s1 ⟨xs,H1,I1,r,z,q⟩=>⟨by rw[←r.length];exact z,?_⟩);have hf:H1 s1.heap.objs.size=none:=I1.hok.fresh (aj _);refine⟨.ref s1.heap.objs.size,upd H1 s1.heap.objs.size (.lst xs),I1.laid (t':=s1.toks) (λb u e=>fF _ e) (aj _) ?_,rfl,q _ hf⟩;exact⟨z,us,0,r,fI _ rfl⟩
end
abbrev Sp:=List V->Hp->VK->XK->Prop
abbrev CXT:=List Env->Hp->Shared->XK->Value->Shared->Prop
structure Env0(P:Program)(w:World)(K:Frag)(mg:Str->Option Value)(base:Heap)(A:Around)(outer:List Env)(s:Shared)(H:Hp):Prop where
 frames:A.frames=some outer
 mod:Mod K mg base
 bs:∀b o,base.get? b=some o->s.heap.get? b=some o/\H b=none
 bsz:base.objs.size<=s.heap.objs.size
 funs:s.heap.FunFrames base outer
 frf:∀b∈frs outer,H b=none
 hok:HOk P w H s.heap
 bare:AllBare s.gens
def CE(outer:List Env)(P:Program)(w:World)(H:Hp)(s:Shared)(Q:VK)(u:Value)(s':Shared):Prop:=
 ∃v H',s'.os=s.os/\AllBare s'.gens/\Un (frs outer) [] H H' s.heap s'.heap/\HOk P w H' s'.heap/\m8 v u/\Q v H'
def CR(CX:CXT)(outer:List Env)(P:Program)(w:World)(H:Hp)(s:Shared)(Q:VK)(E:XK)(r:Result)(s':Shared):Prop:=
 match r with
 |.ok (.ret u)=>CE outer P w H s Q u s'
 |.ok _=>False
 |.error e=>CX outer H s E e s'
structure FnOk(P:Program)(w:World)(K:Frag)(mg:Str->Option Value)(base:Heap)(CX:CXT)(k:Nat)(f:Addr)(fd:FuncData)(ps:List Str)(sp:Sp):Prop where
 len:∀vs H Q E,sp vs H Q E->↥vs=↥ps
 run:∀(A:Around)(outer:List Env)(s:Shared)(H:Hp)(args:Args)(us:List Value)(vs:List V)(Q:VK)(E:XK),Room k A->Env0 P w K mg base A outer s H->BindsTo s fd args (ps.zip us)->p7 vs us->sp vs H Q E→
  codeAny (model P w) A (.call (.ref f) args) (CR CX outer P w H s Q E) s
variable{mg:Str->Option Value}{base:Heap}{CX:CXT}{fd:FuncData}{ps:List Str}{sp:Sp}{outer:List Env}
theorem Env0.make{s:Shared}(e:Env0 P w K mg base A outer s H)(C:Addr)(us:List Value)(kw:List (Str×Value)):
 Env0 P w K mg base (A.under (.builtin "type.__call__" ⟨.ref C::us,kw⟩)) outer s H:=⟨by first|exact e.frames|(simpa [Around.under,Code.envs,Code.isFrame,pushEnvs] using e.frames),e.mod,e.bs,e.bsz,e.funs,e.frf,e.hok,e.bare⟩
section
variable{s:Shared}
theorem Inv.env0(I:Inv X bB σ H s):Env0 X.prog X.w X.K X.mg X.base X.A X.stack s H:=
 ⟨I.ok.frames,I.ok.mod,I.bs,aR I.ok.bsz I.sz,I.stack,I.stkFree,I.hok,I.bare⟩
theorem Inv.after{Q:VK}(I:Inv X bB σ H s)(h:CE X.stack X.prog X.w H s Q u s'):EP X bB σ Q u s':=by obtain⟨v,H',os,bare,un,hok,r,q⟩:=h;obtain⟨hh,g,d,t,os'⟩:=s';obtain rfl:os'=s.os:=os;exact⟨v,H',I.call (h':=hh) (g':=g) (d':=d) (t':=t) (ch:=[]) un hok bare (λb z=>absurd z ⋯),r,q⟩
end
def b9G(sp:Sp)(eC:List V)(E:XK)(t:TA):TE:=λσ H Q=>t σ H λvs H1=>sp (vs++eC) H1 Q E
noncomputable def b9D(C:Addr)(sp:Sp)(eC:List V)(E:XK)(t:TA):TE:=λσ H Q=>t σ H λvs H1=>∀x dx,H1 x=none->H1 dx=none->dx≠x→
 sp (.ref x::(vs++eC)) (upd (upd H1 dx (.own x)) x (.ins C dx [])) (λv H2=>v=.non/\Q (.ref x) H2) E
def U7(K:Frag)(fd:FuncData)(ps:List Str)(ds:List Value):Prop:=
 ∀(s:Shared)(us:List Value),K.In s.heap->↥(us++ds)=↥ps->BindsTo s fd ⟨us,[]⟩ (ps.zip (us++ds))
theorem U7.all(h:∀us:List Value,↥us=↥ps->bindArgs fd ⟨us,[]⟩=pure (ps.zip us)):U7 K fd ps []:=λs us _ hl=>by rw[aZ] at hl⊢;exact .of_eq (h us hl)
def a4d(CX:CXT)(X:Cx)(E:XK):Prop:=∀(bB:List (Addr×Obj))(σ:St)(H:Hp)(s:Shared)(e:Value)(s':Shared),Inv X bB σ H s->CX X.stack H s E e s'->X.xe e s'
section
variable{k:Nat}{f:Addr}{eC:List V}{ds:List Value}{E:XK}{m:Str}{o:Expr}{ta:TE}{t:TA}
theorem b7d{s:Shared}{Q:VK}{vs:List V}(F:FnOk X.prog X.w X.K X.mg X.base CX k f fd ps sp)(hr:Room k X.A)(hb:U7 X.K fd ps ds)(hd:p7 eC ds)(hx:a4d CX X E)
 (I:Inv X bB σ H s) (r:p7 vs us) (h:sp (vs++eC) H Q E):wpAny (model X.prog X.w) X.A (call (.ref f) us) (EP X bB σ Q) X.xe s:=by
 have r2:p7 (vs++eC) (us++ds):=r.append hd;have hl:↥(us++ds)=↥ps:=by rw[←r2.length];exact F.len _ _ _ _ h
 refine wpAny_call (codeAny_mono (F.run X.A X.stack s H ⟨us,[]⟩ (us++ds) (vs++eC) Q E hr I.env0 (hb s us I.kIn hl) r2 h) λr s' hq=>?_);cases r with
 |error e=>exact hx bB σ H s e s' I hq
 |ok fl=>
  cases fl with
  |ret u=>exact I.after hq
  |next=>exact False.elim hq
  |brk=>exact False.elim hq
  |cont=>exact False.elim hq
theorem b4O(F:FnOk X.prog X.w X.K X.mg X.base CX k f fd ps sp)(hr:Room k X.A)(hg:Gl X x)(hm:X.mg x= ~~~f)(hk:PySem.W.keepIn X.K (.ref f)=true)(hb:U7 X.K fd ps ds)(hd:p7 eC ds)(hx:a4d CX X E)
 (ha:PA X (e::es) t) (hdb:(x==("__debug__":Str))=false:=by decide) (he:starEach (e::es) X.env=(false,eval e X.env)::starEach es X.env:=by rfl) (hpl:(backTo pos (starEach es X.env)).any (·.1)=false:=by rfl):
 PE X (.Call (.Name x p) (e::es) [] pos) (b9G sp eC E t):=by
 intro bB s σ H Q I h;refine gZ (a5w I hg hm ?_ hdb);refine PySem.W.callWith_K (h₀:=X.base) I.ok.mod.kin hk (thn (ha pos bB s σ H _ I h) λus s1 ⟨vs,H1,I1,r,q⟩=>⟨I1.kIn,?_⟩) he hpl;exact b7d F hr hb hd hx I1 r q
structure Mk(K:Frag)(C f:Addr):Prop where
 makes:makesIn K C=true
 init:PySem.W.findIn K (.ref C) "__init__"=some (~~~f)
 fn:isFn K (.ref f)=true
 kp:PySem.W.keepIn K (.ref C)=true
theorem b0R{s:Shared}{Q:VK}{vs:List V}(M:Mk X.K C f)(F:FnOk X.prog X.w X.K X.mg X.base CX k f fd ps sp)(hr:Room (k+1) X.A)(hb:U7 X.K fd ps ds)(hd:p7 eC ds)
 (hx:a4d CX X E) (I:Inv X bB σ H s) (r:p7 vs us)
 (h:∀x dx,H x=none->H dx=none->dx≠x->sp (.ref x::(vs++eC)) (upd (upd H dx (.own x)) x (.ins C dx [])) (λv H2=>v=.non/\Q (.ref x) H2) E):
 wpAny (model X.prog X.w) X.A (call (.ref C) us) (EP X bB σ Q) X.xe s:=by
 have hq:=h (s.heap.objs.size+1) s.heap.objs.size (I.hok.fresh (Nat.le_succ _)) (I.hok.fresh (aj _)) (fP (aT _));have I2:=Inv.made (C:=C) I;have r2:p7 (V.ref (s.heap.objs.size+1)::(vs++eC)) (Value.ref (s.heap.objs.size+1)::(us++ds)):=.cons rfl (r.append hd);have hl:↥(Value.ref (s.heap.objs.size+1)::us++ds)=↥ps:=by have e:=↥r2;rw[F.len _ _ _ _ hq] at e;exact e.symm
 refine wpAny_call (b1P (f:=f) I.kIn M.makes M.init (beq_iff_eq.mp M.fn) (codeAny_mono (F.run _ X.stack _ _ ⟨Value.ref (s.heap.objs.size+1)::us,[]⟩ (Value.ref (s.heap.objs.size+1)::(us++ds)) _ _ E (hr.make C us [])
  (I2.env0.make C us []) (hb _ (Value.ref (s.heap.objs.size+1)::us) I2.kIn hl) r2 hq) λr s' hq'=>?_))
 cases r with
 |error e=>exact hx bB σ _ _ e s' I2 hq'
 | ok fl=>
  cases fl with
  |ret u=>
   obtain⟨v,H',I3,rv,ev,q3⟩:=I2.after hq';subst ev;exact⟨rv,⟨V.ref (s.heap.objs.size+1),H',I3,rfl,q3⟩⟩
  |next=>exact False.elim hq'
  |brk=>exact False.elim hq'
  |cont=>exact False.elim hq'
theorem b1w(M:Mk X.K C f)(F:FnOk X.prog X.w X.K X.mg X.base CX k f fd ps sp)(hr:Room (k+1) X.A)(hg:Gl X x)(hm:X.mg x= ~~~C)(hb:U7 X.K fd ps ds)(hd:p7 eC ds)(hx:a4d CX X E)
 (hdb:(x==("__debug__":Str))=false:=by decide):PE X (.Call (.Name x p) [] [] pos) (b9D C sp eC E b6T):=by
 intro bB s σ H Q I h;refine gZ (a5w I hg hm ?_ hdb);exact PySem.W.callWith_K0 I.kIn M.kp (b0R (us:=[]) M F hr hb hd hx I .nil h)
end
structure FnScope(N P:List Str)(sc:Scope):Prop where
 kind:sc.kind=.function
 co:sc.isCoroutine=false
 gen:sc.isGenerator=false
 nd:N.Nodup
 pre:N.take ↥P=P
 par:∀x∈P,sc.names.lookup x=some .local∨sc.names.lookup x=some .cell
 nofree:∀y∈sc.names,y.2≠.free
theorem a4R{kindOf:Str->Option NameKind}{x:Str}:∀{binds:List (Str×Value)}{m:Str->Option Value},(∀v,(x,v)∉binds)->bindL kindOf binds m x=m x
 |[],_,_=>rfl
 | (n,v)::r,m,h=>by
  unfold bindL;rw[a4R λw hw=>h w (aE _ hw)];split
  · have:x≠n:=by rintro rfl;exact h v aY
    simp[this]
  · rfl
theorem a4T{kindOf:Str->Option NameKind}{x:Str}:∀{binds:List (Str×Value)}{m:Str->Option Value},(∀v,(x,v)∉binds)->bindC kindOf binds m x=m x
 |[],_,_=>rfl
 | (n,v)::r,m,h=>by
  unfold bindC;rw[a4T λw hw=>h w (aE _ hw)];split
  · rfl
  · have:x≠n:=by rintro rfl;exact h v aY
    simp[this]
theorem a4S{kindOf:Str->Option NameKind}{x:Str}{v:Value}:∀{P:List Str}{vs:List Value}{i:Nat}{m:Str->Option Value},P.Nodup->P[i]? =some x->vs[i]? =some v->kindOf x=some .local→
 bindL kindOf (P.zip vs) m x=some v
 |[],_,_,_,_,h,_,_=>by simp at h
 |_::_,[],_,_,_,_,h,_=>by simp at h
 |p::P,w::vs,0,m,nd,h1,h2,hk=>by simp at h1 h2;subst h1;subst h2;show bindL kindOf ((p,w)::P.zip vs) m p=_;unfold bindL;rw[a4R λv hv=>(aV.mp nd).1 (of_mem_zip hv).1,ay hk];simp
 |p::P,w::vs,i+1,m,nd,h1,h2,hk=>by show bindL kindOf ((p,w)::P.zip vs) m x=_;unfold bindL;exact a4S (i:=i) (aV.mp nd).2 (by simpa using h1) (by simpa using h2) hk
theorem a4U{kindOf:Str->Option NameKind}{x:Str}{v:Value}:∀{P:List Str}{vs:List Value}{i:Nat}{m:Str->Option Value},P.Nodup->P[i]? =some x->vs[i]? =some v->kindOf x≠some .local→
 bindC kindOf (P.zip vs) m x=some v
 |[],_,_,_,_,h,_,_=>by simp at h
 |_::_,[],_,_,_,_,h,_=>by simp at h
 |p::P,w::vs,0,m,nd,h1,h2,hk=>by simp at h1 h2;subst h1;subst h2;show bindC kindOf ((p,w)::P.zip vs) m p=_;unfold bindC;rw[a4T λv hv=>(aV.mp nd).1 (of_mem_zip hv).1,az hk];simp
 |p::P,w::vs,i+1,m,nd,h1,h2,hk=>by show bindC kindOf ((p,w)::P.zip vs) m x=_;unfold bindC;exact a4U (i:=i) (aV.mp nd).2 (by simpa using h1) (by simpa using h2) hk
def a1u(N:List Str)(vs:List V):St:=vs.map some++List.replicate (↥N-↥vs) none
noncomputable def a8f(CX:CXT)(P:Program)(w:World)(K:Frag)(mg:Str->Option Value)(base:Heap)(N:List Str)(qual:Str)(scope:Scope)(f:Addr)(cd:Value)(A:Around)(outer:List Env)(s:Shared)(H:Hp)(E:XK):Cx where
 prog:=P
 w:=w
 K:=K
 mg:=mg
 base:=base
 A:=A.deeper (envOfC qual scope s.heap.objs.size f cd)
 N:=N
 s₀:=s
 H₀:=H
 env:=envOfC qual scope s.heap.objs.size f cd
 outer:=outer
 stack:=envOfC qual scope s.heap.objs.size f cd::outer
 ex:=[]
 calm:=true
 fn:=λ_=>true
 pn:=[]
 xe:=λe s'=>wpAny (model P w) (A.deeper (envOfC qual scope s.heap.objs.size f cd)) (leaving (envOfC qual scope s.heap.objs.size f cd) e) (λ_ s''=>CX outer H s E e s'') (λe' s''=>CX outer H s E e' s'') s'
variable{sc:Scope}
theorem a7j(h:sc.names.lookup x=some .cell):∃c,(cellsFrom n sc.names []).lookup x=some c:=by have q:=PySem.W.cellsFrom_some sc.names n [] (.inl h);exact Option.isSome_iff_exists.mp q
variable{qual:Str}{scope:Scope}
theorem a9X{f:Addr}{cd:Value}{s s1:Shared}{E:XK}{vs:List V}
 (S:FnScope N ps scope) (hd:A.handled=none) (e0:Env0 P w K mg base A outer s H) (hl:↥vs=↥ps) (r:p7 vs us)
 (x:InCallC s s.heap.objs.size (bindL (envOfC qual scope s.heap.objs.size f cd).kindOf (ps.zip us) λ_=>none) (cellsFrom (s.heap.objs.size+1) scope.names []) (bindC (envOfC qual scope s.heap.objs.size f cd).kindOf (ps.zip us) λ_=>none) s1):
 Inv (a8f CX P w K mg base N qual scope f cd A outer s H E) [] (a1u N vs) H s1:=by
 have hpl:↥ps<=↥N:=by have:=fN List.length S.pre;rw[aM] at this;ac_nf
 obtain⟨h1,tk,rfl,hk⟩:=x.done;have noA:∀b:Addr,b∉(a8f CX P w K mg base N qual scope f cd A outer s H E).ex:=λb z=>absurd (show b∈([]:List Addr) from z) ⋯;refine⟨⟨e0.mod,S.kind,rfl,rfl,aj _,λy z c h1 h2=>?_,λy hy=>?_,λy c _ h=>?_,λ_=>hd,Around.frames_deeper e0.frames,.inr ⟨rfl,rfl⟩,λb z=>absurd z (noA b),e0.bs,e0.bsz,λb _ _=>noA b,λb z=>absurd z (noA b),e0.funs,e0.frf⟩,
  rfl,e0.bare,Un.kept hk,⟨_,x.toInCall.ns,λi y v h1 h2 h3=>?_⟩,λy c h=>⟨_,x.cell y c h⟩,e0.hok.fresh (aj _),λy c h=>?_,λp hp=>absurd (show p∈([]:List (Addr×Obj)) from hp) ⋯,e0.hok.kept hk,?_⟩
 · exact name_of_addr x.apart (PySem.mem_of_lookup h1) (PySem.mem_of_lookup h2)
 · have hy:scope.names.lookup y=some .cell∨scope.names.lookup y=some .free:=hy;rcases hy with hy|hy
   · exact a7j hy
   · exact absurd rfl (S.nofree _ (PySem.mem_of_lookup hy))
 · exact Nat.le_of_lt (x.above y c (PySem.mem_of_lookup h))
 · have hi:i<↥vs:=by
    unfold a1u at h2
    by_cases hi:i<↥vs
    · exact hi
    · rw[au (by simpa using hi)] at h2;rw[bA] at h2;split at h2<;>cases h2
   have ha:vs[i]? =some v:=by
    unfold a1u at h2;rw[av (by simpa using hi),ak] at h2;cases e:vs[i]? with
    |none=>rw[e] at h2;cases h2
    |some a=>rw[e] at h2;cases h2;rfl
   obtain⟨u,hu,rv⟩:=r.get ha;have hp:ps[i]? =some y:=by rw[←S.pre,bz nofun];exact h1
   have ndP:ps.Nodup:=by rw[←S.pre];exact S.nd.sublist (List.take_sublist _ _)
   refine⟨u,rv,?_⟩;rcases S.par y (aH hp) with k|k
   · exact .inl ⟨k,a4S ndP hp hu k⟩
   · obtain⟨c,e⟩:=a7j (n:=s.heap.objs.size+1) k;refine .inr ⟨.inl k,c,e,?_⟩;have q:=x.cell y c e;rw[a4U ndP hp hu (by show scope.names.lookup y≠_;rw[k];decide)] at q;exact q
 · exact e0.hok.fresh (Nat.le_of_lt (x.above y c (PySem.mem_of_lookup h)))
 · unfold a1u;show _=↥N;rw[aq,aa,bj];ac_nf
variable{df:Value}{pm:Value}{cN:Value}{ct:Value}{oc:Value}{an:Option Addr}{od:Option Addr}{eL:Array (Option Value)}
theorem c0L{k:Nat}{f:Addr}{name:Str}{params:Arguments}{dV kV:Value}
 (lk:K.lookup f=some ⟨oc,od,.func (fnOf name qual params body scope dV kV df pm an cN ct),eL⟩) (ff:PySem.W.codeIn K cN qual=true) (S:FnScope N ps scope)
    (len:∀vs H Q E,sp vs H Q E->↥vs=↥ps)
    (hbody:∀(A:Around)(outer:List Env)(s:Shared)(H:Hp)(vs:List V)(Q:VK)(E:XK),Room k (A.deeper (envOfC qual scope s.heap.objs.size f cN))->sp vs H Q E→
      ∃t,PSs (a8f CX P w K mg base N qual scope f cN A outer s H E) body t/\t {nx:=λ_ H'=>Q .non H',rt:=Q} (a1u N vs) H):
    FnOk P w K mg base CX (k+1) f (fnOf name qual params body scope dV kV df pm an cN ct) ps sp:=by
  refine⟨len,λA outer s H args us vs Q E hr e0 hb r eY=>?_⟩;have hl:=len _ _ _ _ eY;have KX:K.In s.heap:=e0.mod.kin.keeps λb o e=>(e0.bs b o e).1;have lim:s.heap.NoLimit:=e0.mod.nolimit.keeps λb o e=>(e0.bs b o e).1;have hkind:∀y∈ps.zip us,scope.names.lookup y.1=some .local∨(scope.names.lookup y.1=some .cell/\((cellsFrom (s.heap.objs.size+1) scope.names []).lookup y.1).isSome=true):=λ⟨n,v⟩ hy=>by
    rcases S.par n (of_mem_zip hy).1 with q|q
    · exact .inl q
    · exact .inr ⟨q,PySem.W.cellsFrom_some _ _ _ (.inl q)⟩
  refine codeAny_call_function hr.depth (KX _ _ lk) rfl S.co S.gen rfl (PySem.W.codeRec_of KX ff) (hb _ _ _ _ ?_);refine wpAny_newFunctionEnv_cells S.kind hkind λenv he s1 x=>?_;subst he;refine⟨lim.keeps x.toInCall.keep,codeAny_func ?_⟩;obtain⟨t,ht,hq⟩:=hbody A outer s H vs Q E (hr.deeper _) eY;have I:Inv (a8f CX P w K mg base N qual scope f cN A outer s H E) [] (a1u N vs) H s1:=a9X S hr.hd e0 hl r x;refine gy (ht [] s1 (a1u N vs) H _ I hq) (λfl s' hs=>?_) λe s' hs=>hs;have cL:∀{bO:St}{H':Hp}{v:V}{u:Value},Inv (a8f CX P w K mg base N qual scope f cN A outer s H E) [] bO H' s'->m8 v u->Q v H'->CE outer P w H s Q u s':=
    fun{bO H' v u} J rv q=>⟨v,H',J.os,J.bare,J.base,J.hok,rv,q⟩
  cases fl with
  | ret u=>
    obtain⟨v,bO,H',J,rv,q⟩:=hs;exact cL J rv q
  | next=>
    obtain⟨bO,H',J,q⟩:=hs;exact cL (v:=V.non) (u:=Value.none) J rfl q
  | brk=>
    obtain⟨_,_,_,q⟩:=hs;exact False.elim q
  | cont=>
    obtain⟨_,_,_,q⟩:=hs;exact False.elim q
section
variable{t:TA}{id T:String}{r:List V->Hp->VK->Prop}
def tCB(r:List V->Hp->VK->Prop)(t:TA):TE:=λσ H Q=>t σ H λvs H1=>r vs H1 Q
theorem a0c(hc:J0 X (.builtin id) r)(hg:Gl X x)(hm:X.mg x=none)(hv:bootBuiltins x=some (.builtin id))(ha:PA X (e::es) t)(hn:x≠"__name__":=by decide)(hdb:(x==("__debug__":Str))=false:=by decide)
 (he:starEach (e::es) X.env=(false,eval e X.env)::starEach es X.env:=by rfl) (hpl:(backTo pos (starEach es X.env)).any (·.1)=false:=by rfl):PE X (.Call (.Name x p) (e::es) [] pos) (tCB r t):=by
 intro bB s σ H Q I h;refine gZ (a0i I hg hm hv ?_ hn hdb);exact PyProof.Rows.callWith_builtin1 (thn (ha pos bB s σ H _ I h) λus s1 ⟨vs,H1,I1,r1,q1⟩=>hc bB s1 σ H1 vs us Q I1 r1 q1) he hpl
theorem W1(hc:J0 X (.type T) r)(hg:Gl X x)(hm:X.mg x=none)(hv:bootBuiltins x=some (.type T))(ha:PA X (e::es) t)(hn:x≠"__name__":=by decide)(hdb:(x==("__debug__":Str))=false:=by decide)
 (he:starEach (e::es) X.env=(false,eval e X.env)::starEach es X.env:=by rfl) (hpl:(backTo pos (starEach es X.env)).any (·.1)=false:=by rfl):PE X (.Call (.Name x p) (e::es) [] pos) (tCB r t):=by
 intro bB s σ H Q I h;refine gZ (a0i I hg hm hv ?_ hn hdb);exact gi (thn (ha pos bB s σ H _ I h) λus s1 ⟨vs,H1,I1,r1,q1⟩=>hc bB s1 σ H1 vs us Q I1 r1 q1) he hpl
end
end L2
namespace HT
open PySem PyProof.Rows
variable{b:Addr}{items:Array Value}{Q:Value->Shared->Prop}{sl:Addr}{vl:Value}{vu:Value}{lo:Option Int}{hi:Option Int}
section
variable{prog:Program}{w:World}{A:Around}{E:Value->Shared->Prop}{s:Shared}
theorem b6b{t:Addr}{vs ws:List Value}(ht:IsTup s.heap t vs.toArray)(hb:IsTup s.heap b ws.toArray)(hv:vs≠[])
 (h1:ws=[]->Q (.ref t) s) (h2:ws≠[]->Q (.ref s.heap.objs.size) {s with heap:=s.heap.push {cls:=.type "tuple",data:=.seq (vs++ws).toArray}})
 (hsz:↥vs+↥ws<=sizeLine):wpAny (model prog w) A (binaryOp .Add (.ref t) (.ref b)) Q E s:=by
 obtain⟨⟨cls,dd,data,sl⟩,ho,hc,n,hd⟩:=id ht;obtain⟨⟨cls2,dd2,data2,sl2⟩,ho2,hc2,n2,hd2⟩:=id hb;simp only at hc hd hc2 hd2;subst hc hd hc2 hd2;have e:vs.toArray++ws.toArray=(vs++ws).toArray:=by simp
 by_cases hw:ws=[]
 · exact concat_meets ⟨_,ho,rfl⟩ ⟨_,ho2,rfl⟩ noFill_tuple_add seq_tuple_add slot_tuple_add entry_tuple_add (args_tuple_add_2 _ _)
    (tuple_addW1 t b vs.toArray ws.toArray n n2 dd dd2 sl sl2 (by simpa using hv) (by simp[hw])) ⟨ho,ho2,h1 hw⟩
 · refine concat_meets ⟨_,ho,rfl⟩ ⟨_,ho2,rfl⟩ noFill_tuple_add seq_tuple_add slot_tuple_add entry_tuple_add (args_tuple_add_2 _ _)
    (tuple_addW2 t b vs.toArray ws.toArray n n2 dd dd2 sl sl2 (by simpa using hv) (by simpa using hw) (by rw[size_toArray,size_toArray];exact hsz)) ⟨ho,ho2,?_⟩
   rw[e];exact h2 hw
def sIx(n d:Nat):Option Int->Nat
 |none=>d
 |some v=>if v<0 then(v+(n:Int)).toNat else min v.toNat n
theorem b0Q(n d:Nat):sIx n d none=d:=rfl
theorem b4u(n d k:Nat):sIx n d (some (k:Int))=min k n:=by show(if(k:Int)<0 then((k:Int)+(n:Int)).toNat else min (k:Int).toNat n)=min k n;rw[az nofun,Int.toNat_natCast]
theorem b7c(n d:Nat)(hd:d<=n)(o:Option Int):sIx n d o<=n:=by
 cases o with
 |none=>exact hd
 |some v=>
  show(if v<0 then(v+(n:Int)).toNat else min v.toNat n)<=n
  by_cases hv:v<0
  · rw[ay hv];ac_nf
  · rw[az hv];exact Nat.min_le_right _ _
theorem a9j(v:Int)(n d:Nat):(if v<0 then max (v+(n:Int)) 0 else min v (n:Int))=((sIx n d (some v):Nat):Int):=by
 show(if v<0 then max (v+(n:Int)) 0 else min v (n:Int))=(((if v<0 then(v+(n:Int)).toNat else min v.toNat n):Nat):Int)
 by_cases hv:v<0
 · simp only[ay hv];ac_nf
 · simp only[az hv];ac_nf
theorem a8k(lo hi:Option Int)(n:Nat):sliceAdjust lo hi 1 (n:Int)=(((sIx n 0 lo:Nat):Int),((sIx n n hi:Nat):Int)):=by
 have h1:¬((1:Int)<0):=by ac_nf
 unfold sliceAdjust;simp only[h1,gz];refine Prod.ext ?_ ?_
 · cases lo with
   |none=>rfl
   |some v=>exact a9j v n 0
 · cases hi with
   |none=>rfl
   |some v=>exact a9j v n n
theorem a7D(i j:Nat):slicePlaces (i:Int) (j:Int) 1=j-i:=by
 unfold slicePlaces;have h1:(1:Int)>0:=by ac_nf
 simp only[h1,fU,Int.ediv_one];split<;>ac_nf
theorem a3q{v:Value}{o:Option Int}{Q:Option Int->Shared->Prop}(p:IsPart v o)(h:Q o s):wpAny (model prog w) A (Builtin.Slice.slicePartIndex v) Q E s:=by
 cases p with
 |none=>exact slicePart_none h
 |int i t=>exact slicePart_int h
theorem W0{n:Nat}{Q:Int×Int×Nat->Shared->Prop}(hs:s.heap.IsSliceOf sl vl vu .none)(pl:IsPart vl lo)(pu:IsPart vu hi)
 (h:Q (((sIx n 0 lo:Nat):Int),1,sIx n n hi-sIx n 0 lo) s):wpAny (model prog w) A (sliceApplied (.ref sl) (pure (n:Int))) Q E s:=by
 obtain⟨os,hos,hcs,hds⟩:=id hs;unfold sliceApplied sliceFields;refine fv (fv (fQ hos hds (x:=vl) rfl (fv (fQ hos hds (x:=vu) rfl (fv (fQ hos hds (x:=.none) rfl (fG ?_)))))));refine fv (slicePart_none ?_);show wpAny _ _ (if((1:Int)==0)=true then _ else _) _ _ s;rw[az ∅];refine fv (a3q pl (fv (a3q pu (fv (fG ?_)))));show wpAny _ _ (match sliceAdjust lo hi 1 (n:Int) with|(lo,hi)=>pure (lo,(1:Int),slicePlaces lo hi 1)) _ _ s;rw[a8k lo hi n];show wpAny _ _ (pure (((sIx n 0 lo:Nat):Int),(1:Int),slicePlaces ((sIx n 0 lo:Nat):Int) ((sIx n n hi:Nat):Int) 1)) _ _ s;rw[a7D];exact fG h
theorem b1s(xs:Array Value)(i k:Nat):((List.range k).filterMap fun(m:Nat)=>xs[((i:Int)+(m:Int)*1).toNat]?).toArray=((xs.toList.drop i).take k).toArray:=by
 have e:(fun(m:Nat)=>xs[((i:Int)+(m:Int)*1).toNat]?)=λm=>xs[i+m]? :=by
  funext m
  have:((i:Int)+(m:Int)*1).toNat=i+m:=by ac_nf
  rw[this]
 rw[e];have:=pick_run xs i k;rw[List.filterMap_map] at this;have e2:((λx=>xs[x]?)∘λx=>i+x)=λm=>xs[i+m]? :=rfl;rw[e2] at this;rw[this]
theorem a1I{t:Addr}(ht:IsTup s.heap t items)(hs:s.heap.IsSliceOf sl vl vu .none)(pl:IsPart vl lo)(pu:IsPart vu hi)
 (hw:¬(sIx items.size 0 lo=0/\sIx items.size items.size hi=items.size))
 (h:Q (.ref s.heap.objs.size) {s with heap:=s.heap.push {cls:=.type "tuple",data:=.seq ((items.toList.drop (sIx items.size 0 lo)).take (sIx items.size items.size hi-sIx items.size 0 lo)).toArray}})
 (hsz:items.size<=sizeLine):wpAny (model prog w) A (getItem (.ref t) (.ref sl)) Q E s:=by
 have htake:sizeOk (.seq ((items.toList.drop (sIx items.size 0 lo)).take (sIx items.size items.size hi-sIx items.size 0 lo)).toArray):=by show((items.toList.drop (sIx items.size 0 lo)).take (sIx items.size items.size hi-sIx items.size 0 lo)).toArray.size<=sizeLine;rw[size_toArray,aM,bx,Array.length_toList];ac_nf
 have hj:sIx items.size items.size hi<=items.size:=b7c _ _ (aj _) hi;obtain⟨os,hos,hcs,hds⟩:=id hs;have hTs:s.TypeIs (.ref sl) "slice":=⟨os,hos,hcs⟩;unfold getItem
 try with_reducible refine gr ?_
 first|refine fv (fG ?_)|skip
 refine fv (wpAny_sequenceKey ht.typeIs ∅ ?_);refine fv (gb (name:=Str.ofString "__getitem__") ht.typeIs gx
  (gR gx ht.typeIs entry_tuple_getitem ?_ (args_tuple_getitem _ _)))
 show wpAny _ _ (tupleItemsOf (.ref t)>>=_) _ _ s;refine fv (tupleItemsOf_ ht ?_);refine fv (wpAny_typeOf hTs ?_);rw[ay ∅];refine fv (W0 hs pl pu ?_);have hno:¬((((sIx items.size 0 lo:Nat):Int)==0&&(1:Int)==1&&(sIx items.size items.size hi-sIx items.size 0 lo)==items.size)=true):=by intro q;rw[ae,ae] at q;have q1:((sIx items.size 0 lo:Nat):Int)=0:=eq_of_beq q.1.1;have q2:sIx items.size items.size hi-sIx items.size 0 lo=items.size:=eq_of_beq q.2;exact hw ⟨by ac_nf,by ac_nf⟩
 show wpAny _ _ (if(((sIx items.size 0 lo:Nat):Int)==0&&(1:Int)==1&&(sIx items.size items.size hi-sIx items.size 0 lo)==items.size)=true then _ else _) _ _ s;rw[az hno,b1s]
 first
  |exact fv (m:=tupleExact _) (gP (fG ⟨_,rfl,fG h⟩) htake)
  |exact fv (m:=tupleExact _) (gP (fv (fG (fG ⟨_,rfl,fG h⟩))) htake)
  |exact fv (fv (m:=tupleExact _) (gP (fG (fG ⟨_,rfl,fG h⟩)) htake))
  |exact fv (fv (m:=tupleExact _) (gP (fG ⟨_,rfl,fG h⟩) htake))
end
end HT
namespace L2
open PySem PySem.Spec PyProof.Rows
abbrev TO:=St->Hp->(Option Int->Hp->Prop)->Prop
def PO(X:Cx)(e:Option Expr)(t:TO):Prop:=
 ∀(bB:List (Addr×Obj))(s:Shared)(σ:St)(H:Hp)(Q:Option Int->Hp->Prop),Inv X bB σ H s->t σ H Q→
  wpAny (model X.prog X.w) X.A (evalPart e X.env) (λu s'=>∃o H',Inv X bB σ H' s'/\IsPart u o/\Q o H') X.xe s
def b4e:TO:=λ_ H Q=>Q none H
def b9z(t:TE):TO:=λσ H Q=>t σ H λx H1=>∃i,x=.int i/\Q (some i) H1
variable{ns:List Int}{r:V->Option Int->Option Int->Hp->VK->Prop}{us:List Value}
section
variable{X:Cx}{e:Expr}{te:TE}{lo hi:Option Expr}{tl th:TO}{pos p2:Pos}
theorem b4E:PO X none b4e:=by intro bB s σ H Q I h;rw[evalPart_none];exact fG ⟨none,H,I,.none,h⟩
theorem b4D(h:PE X e te):PO X (some e) (b9z te):=by intro bB s σ H Q I hw;rw[evalPart_some];refine thn (h bB s σ H _ I hw) λu s1 zz=>?_;obtain⟨x,H1,I1,r1,q1⟩:=zz;obtain⟨i,rfl,q⟩:=q1;obtain⟨t,rfl⟩:=r1;exact⟨some i,H1,I1,.int i t,q⟩
def SlR(X:Cx)(r:V->Option Int->Option Int->Hp->VK->Prop):Prop:=
 ∀(bB:List (Addr×Obj))(s:Shared)(σ:St)(H:Hp)(x:V)(v vl vu:Value)(lo hi:Option Int)(sl:Addr)(Q:VK),Inv X bB σ H s->m8 x v->s.heap.IsSliceOf sl vl vu .none->IsPart vl lo->IsPart vu hi->r x lo hi H Q→
  ∃T id,typeLookup (.type T) "__getitem__"=pure (some (.builtin id))/\s.TypeIs v T/\wpAny (model X.prog X.w) X.A (getItem v (.ref sl)) (EP X bB σ Q) X.xe s
def tSl(r:V->Option Int->Option Int->Hp->VK->Prop)(te:TE)(tl th:TO):TE:=λσ H Q=>te σ H λx H1=>tl σ H1 λl H2=>th σ H2 λu H3=>r x l u H3 Q
theorem b1v(hr:SlR X r)(he:PE X e te)(hl:PO X lo tl)(hu:PO X hi th):PE X (.Subscript e (.Slice lo hi none p2) pos) (tSl r te tl th):=by intro bB s σ H Q I h;refine Subscript_ (thn (he bB s σ H _ I h) λv s1 zz=>?_);obtain⟨x,H1,I1,r1,q1⟩:=zz;refine wpAny_Slice (thn (hl bB s1 σ H1 _ I1 q1) λvl s2 ⟨l,H2,I2,pl,q2⟩=>thn (hu bB s2 σ H2 _ I2 q2) λvu s3 zz=>?_);obtain⟨u,H3,I3,pu,q3⟩:=zz;rw[evalPart_none];refine fG ?_;have I4:Inv X bB σ H3 {s3 with heap:=s3.heap.push {cls:=.type "slice",data:=.fields #[vl,vu,.none]}}:=I3.kept (t':=s3.toks) λb ob q=>fF _ q;obtain⟨T,id,hT,ht,hg⟩:=hr bB {s3 with heap:=s3.heap.push {cls:=.type "slice",data:=.fields #[vl,vu,.none]}} σ H3 x v vl vu l u s3.heap.objs.size Q I4 r1 (Heap.IsSliceOf.new ..) pl pu q3;show wpAny (model X.prog X.w) X.A (subscriptTail e (.Slice lo hi none p2) v (.ref s3.heap.objs.size)) (EP X bB σ Q) X.xe {s3 with heap:=s3.heap.push {cls:=.type "slice",data:=.fields #[vl,vu,.none]}};exact tail_any (ops:=[.ref s3.heap.objs.size,v]) ht hT hg (by with_unfolding_all rfl)
def a7e(xs:List V)(lo hi:Option Int):List V:=(xs.drop (HT.sIx ↥xs 0 lo)).take (HT.sIx ↥xs ↥xs hi-HT.sIx ↥xs 0 lo)
theorem a2A(xs:List V)(lo hi:Option Int):↥(a7e xs lo hi)<=↥xs:=by unfold a7e;rw[aM,bx];ac_nf
def c2j(K:Frag):V->Option Int->Option Int->Hp->VK->Prop:=λx lo hi H Q=>∃a xs,x=.ref a/\SqT K H a xs∧
 ¬(HT.sIx ↥xs 0 lo=0/\HT.sIx ↥xs ↥xs hi=↥xs)/\∀p,H p=none->Q (.ref p) (upd H p (.tup (a7e xs lo hi)))
theorem b6Y:SlR X (c2j X.K):=by
 intro bB s σ H x v vl vu lo hi sl Q I rx hs pl pu h;obtain⟨a,xs,rfl,hx,hw,q⟩:=h;cases rx;obtain⟨bD,r,ht,hz⟩:=I.tuple hx;have bP:bD.toArray.size=↥xs:=by rw[size_toArray];exact r.length.symm
 refine⟨"tuple",_,PyProof.Rows.slot_tuple_getitem.lookup,ht.typeIs,?_⟩;refine HT.a1I ht hs pl pu (by rw[bP];exact hw) ?_ (by rw[bP];exact hz);rw[bP];refine⟨.ref s.heap.objs.size,_,I.laid (t':=s.toks) (o:=.tup (a7e xs lo hi)) (λb ob q=>fF _ q) (aj _) ?_,rfl,q _ (I.hok.fresh (aj _))⟩;exact⟨aR (a2A xs lo hi) hz,_,(r.drop (HT.sIx ↥xs 0 lo)).take (HT.sIx ↥xs ↥xs hi-HT.sIx ↥xs 0 lo),a0G.new _ _⟩
def b9Y(K:Frag):R2:=λx y H Q=>∃a b xs ys,x=.ref a/\y=.ref b/\SqT K H a xs/\SqT K H b ys/\xs≠[]/\↥xs+↥ys<=sizeLine∧
 (ys=[]->Q (.ref a) H)/\(ys≠[]->∀p,H p=none->Q (.ref p) (upd H p (.tup (xs++ys))))
theorem p7.nil_iff{xs:List V}(r:p7 xs us):us=[]↔xs=[]:=by
 cases r with
 |nil=>simp
 |cons _ _=>simp
theorem b4W:OpR X (binaryOp .Add) (b9Y X.K):=by intro bB s σ H x y v u Q I rx ry h;obtain⟨a,b,xs,ys,rfl,rfl,ha,hb,hx,hz,q1,q2⟩:=h;cases rx;cases ry;obtain⟨bD,r1,p1,_⟩:=I.tuple ha;obtain⟨bJ,r2,p2,_⟩:=I.tuple hb;refine HT.b6b p1 p2 (λz=>hx (r1.nil_iff.mp z)) (λz=>⟨.ref a,H,I,rfl,q1 (r2.nil_iff.mp z)⟩) (λz=>?_) (by rw[←r1.length,←r2.length];exact hz);refine⟨.ref s.heap.objs.size,_,I.laid (t':=s.toks) (o:=.tup (xs++ys)) (λb ob q=>fF _ q) (aj _) ?_,rfl,q2 (λw=>z (r2.nil_iff.mpr w)) _ (I.hok.fresh (aj _))⟩;exact⟨by rw[aq];exact hz,_,r1.append r2,a0G.new _ _⟩
end
def ixN(n:Nat)(i:Int):Option Nat:=if 0<=i then(if i<n then some i.toNat else none) else if-(n:Int)<=i then some (i+n).toNat else none
def atI{α:Type}(xs:List α)(i:Int):Option α:=(ixN ↥xs i).bind λj=>xs[j]?
variable{n:Nat}{j:Nat}
theorem a8N{i:Int}(h:ixN n i=some j):seqIndex? i n=some j/\j<n/\ -(n:Int)<=i/\i<n:=by
 unfold ixN at h
 by_cases h0:0<=i
 · rw[ay h0] at h
   by_cases h1:i<n
   · rw[ay h1] at h;have e:i.toNat=j:=ax h;exact⟨by rw[seqIndex_of h0 h1,e],by ac_nf,by ac_nf,h1⟩
   · rw[az h1] at h;cases h
 · rw[az h0] at h
   by_cases h1: -(n:Int)<=i
   · rw[ay h1] at h;have e:(i+n).toNat=j:=ax h;exact⟨by rw[seqIndex_neg nofun h1,e],by ac_nf,h1,by ac_nf⟩
   · rw[az h1] at h;cases h
variable{α:Type}
theorem a5Y{xs:List α}{i:Int}{v:α}(h:atI xs i=some v):∃j,seqIndex? i ↥xs=some j/\xs[j]? =some v/\j<↥xs/\ -(↥xs:Int)<=i/\i<↥xs:=by
 unfold atI at h;cases e:ixN ↥xs i with
 |none=>rw[e] at h;cases h
 |some j=>
  rw[e] at h;obtain⟨h1,h2,h3,h4⟩:=a8N e;exact⟨j,h1,h,h2,h3,h4⟩
def a3a(b:Expr):Prop:=∀o i,subscripted b false o i=operate [o,i] (getItem o i)
def IxR(X:Cx)(r:R2):Prop:=
 ∀(value slice:Expr)(bB:List (Addr×Obj))(s:Shared)(σ:St)(H:Hp)(x y:V)(v u:Value)(Q:VK),Inv X bB σ H s->m8 x v->m8 y u->r x y H Q→
  subscripted slice false v u=operate [v,u] (getItem v u)->wpAny (model X.prog X.w) X.A (subscriptTail value slice v u) (EP X bB σ Q) X.xe s
def MtR(X:Cx)(id:String)(r:V->List V->Hp->VK->Prop):Prop:=
 ∀(bB:List (Addr×Obj))(s:Shared)(σ:St)(H:Hp)(x:V)(xs:List V)(v:Value)(us:List Value)(Q:VK),Inv X bB σ H s->m8 x v->p7 xs us->r x xs H Q→
  wpAny (model X.prog X.w) X.A (call (.builtin id) (v::us)) (EP X bB σ Q) X.xe s
variable{id:String}{bB:List (Addr×Obj)}{σ:St}{H:Hp}{bD:List Value}{its':List Value}{A:Around}{y:V}{u:Value}
section
variable{X:Cx}{a b:Expr}{ta tb:TE}{pos:Pos}
theorem b6t{r:R2}(hr:IxR X r)(ha:PE X a ta)(hb:PE X b tb)(hs:a3a b):PE X (.Subscript a b pos) (tOp r ta tb):=by intro bB s σ H Q I h;exact Subscript_ (b8T ha hb I h λv u s2 x y H2 I2 rx ry q=>hr a b bB s2 σ H2 x y v u Q I2 rx ry q (hs _ _))
def c2o(K:Frag):R2:=λx y H Q=>∃p xs i v,x=.ref p/\y=.int i/\SqL K H p xs/\atI xs i=some v/\Q v H
def c2m(K:Frag):R2:=λx y H Q=>∃p xs i v,x=.ref p/\y=.int i/\SqT K H p xs/\atI xs i=some v/\Q v H
def c2n:R2:=λx y H Q=>∃z i c,x=.str z/\y=.int i/\↥z<=sizeLine/\atI z.cps.toList i=some c/\Q (.str ⟨#[c]⟩) H
theorem a8M:IxR X (c2o X.K):=by
 intro value slice bB s σ H x y v u Q I rx ry h hs;obtain⟨p,xs,i,z,rfl,rfl,hq,he,q⟩:=h;cases rx;obtain⟨t,rfl⟩:=ry;obtain⟨bD,r,pl,hz⟩:=I.list hq;obtain⟨j,h1,h2,h3,h4,h5⟩:=a5Y he;obtain⟨w,ew,bX⟩:=r.get h2;have hl:=↥r;have hn:=a1e;have cL:EP X bB σ Q w s:=⟨z,H,I,bX,q⟩
 by_cases h0:0<=i
 · have hj:i.toNat=j:=by rw[seqIndex_of h0 h5] at h1;exact ax h1
   exact item_listR pl.isList h0 nofun (by rw[hj];simpa using ew) cL hs
 · have hj:(i+(bD.toArray.size:Int)).toNat=j:=by rw[seqIndex_neg nofun h4] at h1;rw[size_toArray,←hl];exact ax h1
   exact subscriptTail_builtinR (x:=w) pl.isList.typeIs slot_list_getitem.lookup
    (wpAny_getItem_list_neg (Q:=λr s'=>r=w/\EP X bB σ Q r s') pl.isList nofun (by rw[size_toArray]<;>ac_nf) nofun (by rw[hj];simpa using ew) ⟨rfl,cL⟩) hs
theorem ix_tup:IxR X (c2m X.K):=by
 intro value slice bB s σ H x y v u Q I rx ry h hs;obtain⟨p,xs,i,z,rfl,rfl,hq,he,q⟩:=h;cases rx;obtain⟨t,rfl⟩:=ry;obtain⟨bD,r,pl,hz⟩:=I.tuple hq;obtain⟨j,h1,h2,h3,h4,h5⟩:=a5Y he;obtain⟨w,ew,bX⟩:=r.get h2;have hl:=↥r;have hn:=a1e;have cL:EP X bB σ Q w s:=⟨z,H,I,bX,q⟩;exact subscriptTail_builtinR (x:=w) pl.typeIs slot_tuple_getitem.lookup
  (getItem_tuple (j:=j) (Q:=λr s'=>r=w/\EP X bB σ Q r s') pl nofun nofun (by rw[size_toArray,←hl];exact h1) (by simpa using ew) ⟨rfl,cL⟩) hs
theorem ix_str:IxR X c2n:=by
 intro value slice bB s σ H x y v u Q I rx ry h hs;obtain⟨z,i,c,rfl,rfl,hz,he,q⟩:=h;obtain⟨t,rfl⟩:=rx;obtain⟨t',rfl⟩:=ry;obtain⟨j,h1,h2,h3,h4,h5⟩:=a5Y he;have hl:↥z.cps.toList=↥z:=by simp[Str.length]
 rw[hl] at h1 h4 h5;have hn:=a1e;exact tail_any (typeIs_str s z t) slot_str_getitem.lookup (getItem_str (c:=c) (by have e1:decide (i< -(2^63:Int))=false:=bw nofun;have e2:decide (i≥2^63)=false:=bw nofun;rw[e1,e2,Bool.or_false]) (by rw[h1];simpa using h2) ⟨.str ⟨#[c]⟩,H,I.tok _,⟨_,rfl⟩,q⟩) hs
theorem a7J(bD:List Value)(n j:Nat)(u:Value):Obj.mapSeq (·.setIfInBounds j u) {cls:=.type "list",data:=.seq bD.toArray n}={cls:=.type "list",data:=.seq (bD.set j u).toArray n}:=by simp[Obj.mapSeq]
theorem Inv.lst{bB:List (Addr×Obj)}{σ:St}{H:Hp}{s:Shared}{p:Addr}{xs:List V}(I:Inv X bB σ H s)(h:H p=some (.lst xs)):
 ∃(bD:List Value)(n:Nat),p7 xs bD/\s.heap.get? p=some {cls:=.type "list",data:=.seq bD.toArray n}/\↥xs<=sizeLine:=by
 obtain⟨z,bD,n,r,e⟩:=I.hok p _ h;exact⟨bD,n,r,e,z⟩
theorem Inv.lstUpd{s:Shared}{p:Addr}{xs ys:List V}{n':Nat}{f:Obj->Obj}(I:Inv X bB σ H s)(h:H p=some (.lst xs))
 (ho:s.heap.get? p=some {cls:=.type "list",data:=.seq bD.toArray n}) (hf:f {cls:=.type "list",data:=.seq bD.toArray n}={cls:=.type "list",data:=.seq its'.toArray n'}) (r:p7 ys its') (hz:↥ys<=sizeLine) (t:Nat):
 Inv X bB σ (upd H p (.lst ys)) {s with heap:=s.heap.update p f,toks:=t}:=by
 have e:(s.heap.update p f).get? p=some {cls:=.type "list",data:=.seq its'.toArray n'}:=by rw[gQ f ho (by rw[hf]<;>rfl),hf]
 refine I.write (x:=p) (e:=p) (by rw[h];trivial) (.inl rfl) (λb u hb q=>(Heap.get?_update_other _ _ (fR hb)).trans q) ⟨_,e⟩ ?_;exact⟨hz,its',n',r,e⟩
def b9T:V->V->V->Hp->(Hp->Prop)->Prop:=λo i v H Q=>∃p xs k j,o=.ref p/\i=.int k/\H p=some (.lst xs)/\ixN ↥xs k=some j/\Q (upd H p (.lst (xs.set j v)))
theorem b0N:b9o X b9T:=by
 intro bB s σ H o i v ov iv u Q I ro ri rv h;obtain⟨p,xs,k,j,rfl,rfl,hp,hj,q⟩:=h;cases ro;obtain⟨t,rfl⟩:=ri;obtain⟨bD,n,r,ho,hz⟩:=I.lst hp;obtain⟨h1,h2,h3,h4⟩:=a8N hj;have hl:=↥r;have hn:=a1e;have I':Inv X bB σ (upd H p (.lst (xs.set j v))) {s with heap:=s.heap.update p (Obj.mapSeq (·.setIfInBounds j u))}:=
  I.lstUpd hp ho (a7J bD n j u) (r.set rv j) (by rw[List.length_set];exact hz) s.toks
 by_cases h0:0<=k
 · have hk:k.toNat=j:=by rw[seqIndex_of h0 h4] at h1;exact ax h1
   exact PySem.W.ki_setAt ho h0 nofun (by rw[size_toArray,←hl];exact h4) (by rw[hk];exact⟨_,I',q⟩)
 · have hk:(k+(bD.toArray.size:Int)).toNat=j:=by rw[seqIndex_neg nofun h3] at h1;rw[size_toArray,←hl];exact ax h1
   exact PySem.W.ki_setBack ho nofun (by rw[size_toArray,←hl];exact h3) nofun (by rw[hk];exact⟨_,I',q⟩)
theorem a5d(lo hi:Option Int)(n:Nat):(sliceBounds lo hi none n).1=((HT.sIx n 0 lo:Nat):Int)/\(sliceBounds lo hi none n).2.1=((HT.sIx n n hi:Nat):Int)/\(sliceBounds lo hi none n).2.2=1:=by
 refine⟨?_,?_,rfl⟩
 · cases lo with
   |none=>simp[sliceBounds,HT.sIx]
   |some i=>
    simp only[sliceBounds,HT.sIx,Option.getD_none,show(1:Int)>0 by decide,fU]
    by_cases h:i<0
    · simp only[h,fU]<;>ac_nf
    · simp only[h,gz]<;>ac_nf
 · cases hi with
   |none=>simp[sliceBounds,HT.sIx]
   |some i=>
    simp only[sliceBounds,HT.sIx,Option.getD_none,show(1:Int)>0 by decide,fU]
    by_cases h:i<0
    · simp only[h,fU]<;>ac_nf
    · simp only[h,gz]<;>ac_nf
theorem a4i(bD:List Value)(lo hi:Option Int):slicePick bD.toArray lo hi none=((bD.drop (HT.sIx ↥bD 0 lo)).take (HT.sIx ↥bD ↥bD hi-HT.sIx ↥bD 0 lo)).toArray:=by obtain⟨h1,h2,h3⟩:=a5d lo hi bD.toArray.size;unfold slicePick;rw[h1,h2,h3];simp only[sliceRange_one,pick_run,size_toArray]<;>rfl
def c2l(K:Frag):V->Option Int->Option Int->Hp->VK->Prop:=λx lo hi H Q=>∃a xs,x=.ref a/\SqL K H a xs/\∀p,H p=none->Q (.ref p) (upd H p (.lst (a7e xs lo hi)))
theorem b4k:SlR X (c2l X.K):=by intro bB s σ H x v vl vu lo hi sl Q I rx hs pl pu h;obtain⟨a,xs,rfl,hx,q⟩:=h;cases rx;obtain⟨bD,r,ht,hz⟩:=I.list hx;have bP:=↥r;refine⟨"list",_,slot_list_getitem.lookup,ht.isList.typeIs,?_⟩;refine wpAny_getItem_list_slice ht.isList hs pl pu .none ⋯ ?_ (by rw[size_toArray]<;>ac_nf);rw[a4i,←bP];refine⟨.ref s.heap.objs.size,_,I.laid (t':=s.toks) (o:=.lst (a7e xs lo hi)) (λb ob q=>fF _ q) (aj _) ?_,rfl,q _ (I.hok.fresh (aj _))⟩;exact⟨aR (a2A xs lo hi) hz,_,0,(r.drop (HT.sIx ↥xs 0 lo)).take (HT.sIx ↥xs ↥xs hi-HT.sIx ↥xs 0 lo),fI _ rfl⟩
def a0V:V->Bool
 |.non=>true
 |.bl _=>true
 |.int _=>true
 |.str _=>true
 |_=>false
def eqV:V->V->Bool
 |.non,.non=>true
 |.bl a,.bl b=>a==b
 |.bl a,.int b=>(if a then 1 else 0)==b
 |.int a,.bl b=>a==(if b then 1 else 0)
 |.int a,.int b=>a==b
 |.str a,.str b=>a==b
 |_,_=>false
theorem b3k{s:Shared}{x:V}{v:Value}(ry:m8 y u)(rx:m8 x v)(fy:a0V y=true)(fx:a0V x=true):SeqAt.EqAt A s u v (eqV y x):=by
 cases y with
 |non=>
  cases ry;cases x with
  |non=>cases rx;exact SeqAt.EqAt.same _
  |bl b=>cases rx;exact SeqAt.EqAt.none_bool b
  |int b=>obtain⟨t,rfl⟩:=rx;exact SeqAt.EqAt.none_int b t
  |str b=>obtain⟨t,rfl⟩:=rx;exact SeqAt.EqAt.none_str b t
  |_=>exact absurd (show false=true from fx) bq
 |bl a=>
  cases ry;cases x with
  |non=>cases rx;exact SeqAt.EqAt.bool_none a
  |bl b=>cases rx;exact SeqAt.EqAt.bool_bool a b
  |int b=>obtain⟨t,rfl⟩:=rx;exact SeqAt.EqAt.bool_int a b t
  |str b=>obtain⟨t,rfl⟩:=rx;exact SeqAt.EqAt.bool_str a b t
  |_=>exact absurd (show false=true from fx) bq
 |int a=>
  obtain⟨t',rfl⟩:=ry;cases x with
  |non=>cases rx;exact SeqAt.EqAt.int_none a t'
  |bl b=>cases rx;exact SeqAt.EqAt.int_bool a t' b
  |int b=>obtain⟨t,rfl⟩:=rx;exact SeqAt.EqAt.int_int a t' b t
  |str b=>obtain⟨t,rfl⟩:=rx;exact SeqAt.EqAt.int_str a t' b t
  |_=>exact absurd (show false=true from fx) bq
 |str a=>
  obtain⟨t',rfl⟩:=ry;cases x with
  |non=>cases rx;exact SeqAt.EqAt.str_none a t'
  |bl b=>cases rx;exact SeqAt.EqAt.str_bool a t' b
  |int b=>obtain⟨t,rfl⟩:=rx;exact SeqAt.EqAt.str_int a t' b t
  |str b=>obtain⟨t,rfl⟩:=rx;exact SeqAt.EqAt.str_str a t' b t
  |_=>exact absurd (show false=true from fx) bq
 |_=>exact absurd (show false=true from fy) bq
def eqU(x:V)(u:Value):Bool:=match u with
 |.none=>eqV .non x
 |.bool b=>eqV (.bl b) x
 |.int i _=>eqV (.int i) x
 |.str z _=>eqV (.str z) x
 |_=>false
theorem b3g{x:V}(r:m8 y u)(f:a0V y=true):eqU x u=eqV y x:=by
 cases y with
 |non=>cases r;rfl
 |bl b=>cases r;rfl
 |int i=>obtain⟨t,rfl⟩:=r;rfl
 |str z=>obtain⟨t,rfl⟩:=r;rfl
 |_=>exact absurd (show false=true from f) bq
theorem a1T{x:V}:∀{xs:List V}{us:List Value},p7 xs us->xs.all a0V=true->us.any (eqU x)=xs.any λy=>eqV y x
 |_,_,.nil,_=>rfl
 |y::xs,u::us,.cons r t,f=>by rw[all_cons,ae] at f;rw[any_cons,any_cons,b3g r f.1,a1T t f.2]
theorem a0g{A:Around}{s:Shared}{x:V}{v:Value}(rx:m8 x v)(fx:a0V x=true):∀{xs:List V}{us:List Value},p7 xs us->xs.all a0V=true->∀u∈us,SeqAt.EqAt A s u v (eqU x u)
 |_,_,.nil,_=>λu hu=>by cases hu
 |y::xs,u::us,.cons r t,f=>λu' hu=>by
  rw[all_cons,ae] at f;rcases aF.mp hu with rfl|hu
  · rw[b3g r f.1];exact b3k r rx f.1 fx
  · exact a0g rx fx t f.2 u' hu
def inV(x:V)(xs:List V):Bool:=xs.any λy=>eqV y x
def rIn(K:Frag)(neg:Bool):R2:=λx y H Q=>∃p xs,y=.ref p/\(SqL K H p xs∨SqT K H p xs)/\a0V x=true/\xs.all a0V=true/\Q (.bl (if neg then !inV x xs else inV x xs)) H
theorem a0K:OpR X (compareOp .In) (rIn X.K false):=by
 intro bB s σ H x y v u Q I rx ry h;obtain⟨p,xs,rfl,hq,fx,fs,q⟩:=h;cases ry;rcases hq with hq|hq
 · obtain⟨bD,r,pl,hz⟩:=I.list hq;refine SeqAt.in_listAt (eqU x) pl.isList (λw hw=>a0g rx fx r fs w (by simpa using hw)) ⟨.bl _,H,I,rfl,?_⟩;rw[show bD.toArray.any (eqU x)=bD.any (eqU x) by simp,a1T r fs];exact q
 · obtain⟨bD,r,pl,hz⟩:=I.tuple hq;refine SeqAt.in_tupleAt (eqU x) pl (λw hw=>a0g rx fx r fs w (by simpa using hw)) ⟨.bl _,H,I,rfl,?_⟩;rw[show bD.toArray.any (eqU x)=bD.any (eqU x) by simp,a1T r fs];exact q
theorem R3:OpR X (compareOp .NotIn) (rIn X.K true):=by
 intro bB s σ H x y v u Q I rx ry h;obtain⟨p,xs,rfl,hq,fx,fs,q⟩:=h;cases ry;rcases hq with hq|hq
 · obtain⟨bD,r,pl,hz⟩:=I.list hq;refine SeqAt.notIn_listAt (eqU x) pl.isList (λw hw=>a0g rx fx r fs w (by simpa using hw)) ⟨.bl _,H,I,rfl,?_⟩;rw[show bD.toArray.any (eqU x)=bD.any (eqU x) by simp,a1T r fs];exact q
 · obtain⟨bD,r,pl,hz⟩:=I.tuple hq;refine SeqAt.notIn_tupleAt (eqU x) pl (λw hw=>a0g rx fx r fs w (by simpa using hw)) ⟨.bl _,H,I,rfl,?_⟩;rw[show bD.toArray.any (eqU x)=bD.any (eqU x) by simp,a1T r fs];exact q
theorem a5n:OpR X (compareOp .NotIn) (λx y H Q=>∃i j,x=.str i/\y=.str j/\Q (.bl (!(!(occurrences j i 0 ↥j 1).isEmpty))) H):=by intro bB s σ H x y v u Q I rx ry h;obtain⟨i,j,rfl,rfl,q⟩:=h;obtain⟨t,rfl⟩:=rx;obtain⟨t',rfl⟩:=ry;exact notIn_str ⟨.bl _,H,I,rfl,q⟩
theorem a1S:J0 X (.builtin "len") (λxs H Q=>∃p ys,xs=[.ref p]/\(SqL X.K H p ys∨SqT X.K H p ys)/\Q (.int ↥ys) H):=by
 intro bB s σ H xs us Q I r h;obtain⟨p,ys,rfl,hq,q⟩:=h;obtain⟨u,rfl,rx⟩:=V8 r;cases rx;have hn:=a1e;rcases hq with hq|hq
 · obtain⟨bD,r',pl,hz⟩:=I.list hq;have bP:=↥r';exact Calls.call_len_list pl.isList (by simp only[size_toArray]<;>ac_nf) ⟨.int ↥ys,H,I.tok _,⟨s.toks+1,by rw[size_toArray,bP]⟩,q⟩
 · obtain⟨bD,r',pl,hz⟩:=I.tuple hq;have bP:=↥r';exact len_tuple pl (by simp only[size_toArray]<;>ac_nf) ⟨.int ↥ys,H,I.tok _,⟨s.toks+1,by rw[size_toArray,bP]⟩,q⟩
theorem a5V:J0 X (.builtin "len") (λxs H Q=>∃z,xs=[.str z]/\↥z<=sizeLine/\Q (.int ↥z) H):=by intro bB s σ H xs us Q I r h;obtain⟨z,rfl,hz,q⟩:=h;obtain⟨u,rfl,t,rfl⟩:=V8 r;have hn:=a1e;exact len_str nofun ⟨.int ↥z,H,I.tok _,⟨_,rfl⟩,q⟩
theorem a1R:J0 X (.type "list") (λxs H Q=>∃p ys,xs=[.ref p]/\(SqL X.K H p ys∨SqT X.K H p ys)/\∀l,H l=none->Q (.ref l) (upd H l (.lst ys))):=by
 intro bB s σ H xs us Q I r h;obtain⟨p,ys,rfl,hq,q⟩:=h;obtain⟨u,rfl,rx⟩:=V8 r;cases rx;have cL:∀(bD:List Value),p7 ys bD->↥ys<=sizeLine->∀(h':Heap)(c':Nat),(∀b o',s.heap.get? b=some o'->h'.get? b=some o')→
  h'.get? s.heap.objs.size=some {cls:=.type "list",dict:=none,data:=.seq bD.toArray c',slots:= #[]}->EP X bB σ Q (.ref s.heap.objs.size) {s with heap:=h'}:=λbD r' hz h' c' kp e=>
  ⟨.ref s.heap.objs.size,_,I.laid (t':=s.toks) kp (aj _) (show D6 X.prog X.w _ h' _ (.lst ys) from⟨hz,bD,c',r',e⟩),rfl,q _ (I.hok.fresh (aj _))⟩
 rcases hq with hq|hq
 · obtain⟨bD,r',pl,hz⟩:=I.list hq;have bP:=↥r';obtain⟨o,ho,hc,n,hd⟩:=pl.isList;exact call_list_seq p (.inl rfl) ho hc hd (λh' c' kp e=>cL bD r' hz h' c' kp e) (by simp only[size_toArray]<;>ac_nf)
 · obtain⟨bD,r',pl,hz⟩:=I.tuple hq;have bP:=↥r';obtain⟨o,ho,hc,n,hd⟩:=pl;exact call_list_seq p (.inr rfl) ho hc hd (λh' c' kp e=>cL bD r' hz h' c' kp e) (by simp only[size_toArray]<;>ac_nf)
theorem a0Y:J0 X (.type "tuple") (λxs H Q=>∃p ys,xs=[.ref p]/\((SqL X.K H p ys/\∀l,H l=none->Q (.ref l) (upd H l (.tup ys)))∨(SqT X.K H p ys/\Q (.ref p) H))):=by
 intro bB s σ H xs us Q I r h;obtain⟨p,ys,rfl,h⟩:=h;obtain⟨u,rfl,rx⟩:=V8 r;cases rx;rcases h with⟨hq,q⟩|⟨hq,q⟩
 · obtain⟨bD,r',pl,hz⟩:=I.list hq;have bP:=↥r';refine call_tuple_list pl.isList (λh' kp=>?_) (by simp only[size_toArray]<;>ac_nf);have I1:Inv X bB σ H {s with heap:=h'}:=I.kept (t':=s.toks) kp;have I2:Inv X bB σ (upd H h'.objs.size (.tup ys)) {s with heap:=h'.push {cls:=.type "tuple",data:=.seq bD.toArray}}:=
    I1.laid (t':=s.toks) (λb o e=>fF _ e) (aj _) (show D6 X.prog X.w _ _ _ (.tup ys) from⟨hz,bD,r',a0G.new _ _⟩)
   exact⟨.ref h'.objs.size,_,I2,rfl,q _ (I1.hok.fresh (aj _))⟩
 · obtain⟨bD,r',pl,hz⟩:=I.tuple hq;exact call_tuple_same pl ⟨.ref p,H,I,rfl,q⟩
def tyV(K:Frag)(T:String)(x:V)(H:Hp):Prop:=match x with
 |.str _=>T="str"
 |.int _=>T="int"
 |.ref p=>(T="list"/\∃xs,SqL K H p xs)∨(T="tuple"/\∃o,K.lookup p=some o/\o.cls=.type "tuple"/\o.dict=none)∨
  (T="dict"/\((∃bC,H p=some (.dK bC))∨∃bC,H p=some (.dT bC)))∨(T="set"/\∃S n,H p=some (.set S n))
 |_=>False
theorem b6J{s:Shared}{T:String}{x:V}{v:Value}(I:Inv X bB σ H s)(r:m8 x v)(ty:tyV X.K T x H):
 s.TypeIs v T/\∀a,v=.ref a->∃ob,s.heap.get? a=some ob/\ob.dict=none:=by
 cases x with
 |str z=>
  obtain⟨t,rfl⟩:=r;cases (show T="str" from ty);exact⟨typeIs_str s z t,λ_ e=>nomatch e⟩
 |int i=>
  obtain⟨t,rfl⟩:=r;cases (show T="int" from ty);exact⟨typeIs_int s i t,λ_ e=>nomatch e⟩
 |ref p=>
  cases r;rcases ty with⟨rfl,xs,hq⟩|⟨rfl,o,hk,hc,hd⟩|⟨rfl,hk⟩|⟨rfl,S,n,hk⟩
  · obtain⟨bD,_,pl,_⟩:=I.list hq;refine⟨pl.isList.typeIs,λa e=>?_⟩;cases e;obtain⟨o,n,e,c,hd,_⟩:=pl;exact⟨o,e,hd⟩
  · refine⟨⟨o,I.kIn p o hk,hc⟩,λa e=>?_⟩;cases e;exact⟨o,I.kIn _ o hk,hd⟩
  · have z:∃o,s.heap.get? p=some o/\o.ExactDict:=by
     rcases hk with⟨bC,hk⟩|⟨bC,hk⟩
     · obtain⟨_,_,_,_,o,_,_,e,ex,_⟩:=I.hok p _ hk;exact⟨o,e,ex⟩
     · obtain⟨_,_,_,_,o,_,_,e,ex,_⟩:=I.hok p _ hk;exact⟨o,e,ex⟩
    obtain⟨o,e,ex⟩:=z;refine⟨⟨o,e,ex.1⟩,λa e2=>?_⟩;cases e2;exact⟨o,e,ex.2.1⟩
  · obtain⟨o,_,_,_,e,ex,_⟩:=I.hok p _ hk;refine⟨⟨o,e,ex.1⟩,λa e2=>?_⟩;cases e2;exact⟨o,e,ex.2.1⟩
 |_=>exact False.elim ty
def tBM(K:Frag)(T:String)(r:V->List V->Hp->VK->Prop)(to:TE)(t:TA):TE:=λσ H Q=>to σ H λx H1=>tyV K T x H1/\t σ H1 λxs H2=>r x xs H2 Q
variable{o e:Expr}{es:List Expr}{to:TE}{t:TA}{name:Str}{cu bW:Pos}{T:String}{r:V->List V->Hp->VK->Prop}
theorem a6z(pa:PlainAttrs T)(slot:Slot T name id)(hty:typeOf (.builtin id)=pure (.type "method_descriptor"))(hm:MtR X id r)(ho:PE X o to)(ha:PA X (e::es) t)
 (dw:attributeBase o name X.env (eval o X.env)=eval o X.env:=by rfl)
 (et:((backTo bW (starEach (e::es) X.env)).all (λx=>!x.1)&&(backToKw bW (keywordEach [] X.env)).all (λx=>x.1.isSome)
  &&decide (↥(e::es)+↥([]:List Keyword)+(if([]:List Keyword).isEmpty then 0 else 1)<30))=true:=by rfl)
 (cW:(cu.endLine==bW.line)=true:=by rfl) (hs:starEach (e::es) X.env=(false,eval e X.env)::starEach es X.env:=by rfl) (hplain:(backTo bW (starEach es X.env)).any (·.1)=false:=by rfl):
 PE X (.Call (.Attribute o name cu) (e::es) [] bW) (tBM X.K T r to t):=by
 intro bB s σ H Q I h;refine wpAny_Call_method_late dw et cW rfl (thn (ho bB s σ H _ I h) λv s1 zz=>?_);obtain⟨x,H1,I1,r1,ty,q1⟩:=zz;obtain⟨h1,h2⟩:=b6J I1 r1 ty;refine⟨T,id,pa,slot,hty,h1,h2,?_⟩;have hA:=ha bW bB s1 σ H1 _ I1 q1;rw[hs] at hA⊢;refine Calls.callWith_builtin (by show(false||(backTo bW (starEach es X.env)).any (·.1))=false;rw[hplain]<;>rfl) (Calls.evalArgs_plain ?_);exact thn hA λus s2 ⟨vs,H2,I2,r2,q2⟩=>hm bB s2 σ H2 x vs v us Q I2 r1 r2 q2
end
def MtM(X:Cx)(id:String)(r:V->List V->Hp->VK->Prop):Prop:=
 ∀(bB:List (Addr×Obj))(s:Shared)(σ:St)(H:Hp)(x:V)(xs:List V)(v:Value)(us:List Value)(Q:VK),Inv X bB σ H s->m8 x v->p7 xs us->r x xs H Q→
  wpAny (model X.prog X.w) X.A (call (.builtin id) (v::us)) (EP X bB σ Q) X.xe s
theorem p7.one{x:V}(h:p7 [x] us):∃u,us=[u]/\m8 x u:=by obtain- |⟨r,q⟩:=h;cases q;exact⟨_,rfl,r⟩
section
variable{X:Cx}{s:Shared}{l b:Addr}{xs ys zs:List V}
theorem Inv.lset{f:Array Value->Array Value}{t':Nat}(I:Inv X bB σ H s)(hH:H l=some (.lst xs))
 (e:s.heap.get? l=some {cls:=.type "list",data:=.seq bD.toArray n}) (hf:f bD.toArray=its'.toArray) (hv:p7 ys its') (hz:↥ys<=sizeLine):
 Inv X bB σ (upd H l (.lst ys)) {s with heap:=s.heap.update l (Obj.mapSeq f),toks:=t'}:=by
 have q:=PySem.IsL.update e f;rw[hf] at q;refine I.write (x:=l) (e:=l) (by rw[hH];exact trivial) (.inl rfl) (λb' u hb hu=>(Heap.get?_update_other s.heap (Obj.mapSeq f) (fR hb)).trans hu) ⟨_,q⟩ ?_;exact⟨hz,its',_,hv,q⟩
theorem Inv.lnew{t':Nat}(I:Inv X bB σ H s)(hv:p7 ys bD)(hz:↥ys<=sizeLine):
 Inv X bB σ (upd H s.heap.objs.size (.lst ys)) {s with heap:=s.heap.push {cls:=.type "list",data:=.seq bD.toArray},toks:=t'}:=
 I.laid (λ_ _ q=>fF _ q) (aj _) ⟨hz,bD,0,hv,fI _ rfl⟩
theorem Inv.fresh(I:Inv X bB σ H s):H s.heap.objs.size=none:=I.hok.fresh (aj _)
theorem Inv.lstM(I:Inv X bB σ H s)(hH:H l=some (.lst xs)):↥xs<=sizeLine/\∃(bD:List Value)(n:Nat),p7 xs bD/\↥xs=↥bD/\s.heap.get? l=some {cls:=.type "list",data:=.seq bD.toArray n}:=by obtain⟨z,bD,n,r,e⟩:=I.hok l _ hH;exact⟨z,bD,n,r,↥r,e⟩
theorem a6C(h:n<=sizeLine):listTooLong n=false:=by unfold listTooLong;exact bw nofun
end
section
variable{X:Cx}
def b4x:V->List V->Hp->VK->Prop:=λx vs H Q=>∃l xs y,x=.ref l/\vs=[y]/\H l=some (.lst xs)/\↥xs<sizeLine/\Q .non (upd H l (.lst (xs++[y])))
theorem a4A:MtM X "list.append" b4x:=by intro bB s σ H x vs v us Q I rx rv h;obtain⟨l,xs,y,rfl,rfl,hH,hz,q⟩:=h;cases rx;obtain⟨u,rfl,ru⟩:=rv.one;obtain⟨z,bD,n,r,hl,e⟩:=I.lstM hH;refine hV F.slot_list_append ⟨_,e,rfl⟩ F.entry_list_append (F.args_list_append_2 _ _) (PySem.list_append l bD.toArray n u (by rw[size_toArray];ac_nf)) ⟨e,?_⟩;refine⟨.non,_,I.lset (its':=bD++[u]) hH e ⋯ (r.append (.cons ru .nil)) ?_,rfl,q⟩;rw[aq,length_singleton];ac_nf
def b4w:V->List V->Hp->VK->Prop:=λx vs H Q=>∃l b xs zs,x=.ref l/\vs=[.ref b]/\H l=some (.lst xs)/\H b=some (.lst zs)/\↥xs+↥zs<=sizeLine/\Q .non (upd H l (.lst (xs++zs)))
theorem a9P:MtM X "list.extend" b4w:=by
 intro bB s σ H x vs v us Q I rx rv h;obtain⟨l,b,xs,zs,rfl,rfl,hH,hB,hz,q⟩:=h;cases rx;obtain⟨u,rfl,ru⟩:=rv.one;cases ru;obtain⟨z,bD,n,r,hl,e⟩:=I.lstM hH;obtain⟨z2,bJ,n2,r2,eJ,e2⟩:=I.lstM hB;have hsz:bD.toArray.size+bJ.toArray.size<=sizeLine:=by rw[size_toArray,size_toArray];ac_nf
 have hlong:¬(!bD.toArray.isEmpty&&listTooLong (bD.toArray.size+bJ.toArray.size))=true:=by rw[a6C hsz,Bool.and_false];exact bq
 refine hV F.slot_list_extend ⟨_,e,rfl⟩ F.entry_list_extend (F.args_list_extend_2 _ _)
  (AutoSeq1.list_extend_list_list_0 l bD.toArray n b bJ.toArray n2 hlong (by rw[size_toArray];ac_nf) nofun) ⟨e,e2,?_⟩
 refine⟨.non,_,I.lset (its':=bD++bJ) hH e ⋯ (r.append r2) ?_,rfl,q⟩;rw[aq];ac_nf
def c2q:R2:=λx y H Q=>∃l b xs zs,x=.ref l/\y=.ref b/\H l=some (.lst xs)/\H b=some (.lst zs)/\↥xs+↥zs<=sizeLine/\∀p,H p=none->Q (.ref p) (upd H p (.lst (xs++zs)))
theorem b7M:OpR X (binaryOp .Add) c2q:=by
 intro bB s σ H x y v u Q I rx ry h;obtain⟨l,b,xs,zs,rfl,rfl,hH,hB,hz,q⟩:=h;cases rx;cases ry;obtain⟨z,bD,n,r,hl,e⟩:=I.lstM hH;obtain⟨z2,bJ,n2,r2,eJ,e2⟩:=I.lstM hB;refine PySem.P.add_list e e2 ?_ (by rw[size_toArray,size_toArray];ac_nf);have ea:bD.toArray++bJ.toArray=(bD++bJ).toArray:=by simp
 rw[ea];exact⟨.ref _,_,I.lnew (t':=s.toks) (r.append r2) (by rw[aq];ac_nf),rfl,q _ I.fresh⟩
end
variable{b:Addr}{sl:Addr}{items:Array Value}{vl:Value}{vu:Value}
section
variable{κ:Type}[DecidableEq κ]
def V9(bC:List (κ×V))(k:κ):Option V:=(bC.find? λkv=>decide (kv.1=k)).map (·.2)
def Q2(bC:List (κ×V))(k:κ)(v:V):List (κ×V):=
 if(bC.any λkv=>decide (kv.1=k))=true then bC.map (λkv=>if kv.1=k then(kv.1,v) else kv) else bC++[(k,v)]
theorem Z7{p:κ×V}{r:List (κ×V)}{k:κ}(e:p.1=k):V9 (p::r) k=some p.2:=by simp[V9,List.find?_cons,e]
theorem Z8{p:κ×V}{r:List (κ×V)}{k:κ}(e:¬p.1=k):V9 (p::r) k=V9 r k:=by simp[V9,List.find?_cons,e]
theorem a6g(k:κ):∀bC:List (κ×V),(bC.any λkv=>decide (kv.1=k))=(V9 bC k).isSome
 |[]=>rfl
 |p::r=>by
  rw[any_cons]
  by_cases e:p.1=k
  · simp only[Z7 e,ba e,Bool.true_or,Option.isSome_some]
  · rw[Z8 e,bw e,Bool.false_or];exact a6g k r
theorem a0h(bC:List (κ×V))(k:κ)(v:V):↥(Q2 bC k v)<=↥bC+1:=by
 unfold Q2;split
 · rw[aa];ac_nf
 · rw[aq,length_cons,length_nil];ac_nf
theorem a0R.isSome_eq{o:Option V}{u:Option Value}(r:a0R o u):o.isSome=u.isSome:=by
 cases o with
 |none=>cases u with
  |none=>rfl
  |some _=>exact(show False from r).elim
 |some _=>cases u with
  |none=>exact(show False from r).elim
  |some _=>rfl
theorem a0R.getD{o:Option V}{u:Option Value}{d:V}{d':Value}(r:a0R o u)(rd:m8 d d'):m8 (o.getD d) (u.getD d'):=by
 cases o with
 |none=>cases u with
  |none=>exact rd
  |some _=>exact(show False from r).elim
 |some _=>cases u with
  |none=>exact(show False from r).elim
  |some _=>exact r
theorem KV.val{bC:List (κ×V)}{vs:List (κ×Value)}(r:KV bC vs)(k:κ):a0R (V9 bC k) (valueAt vs k):=by
 unfold KV at r
 induction r with
 |nil=>exact True.intro
 | @cons p q ps qs h t ih=>
  obtain⟨h1,h2⟩:=h
  by_cases e:p.1=k
  · have e':q.1=k:=h1.symm.trans e;have b:valueAt (q::qs) k=some q.2:=by simp[valueAt,List.find?_cons,e']
    rw[Z7 e,b];exact h2
  · have e':¬q.1=k:=λz=>e (h1.trans z);have b:valueAt (q::qs) k=valueAt qs k:=by simp[valueAt,List.find?_cons,e']
    rw[Z8 e,b];exact ih
theorem KV.any{bC:List (κ×V)}{vs:List (κ×Value)}(r:KV bC vs)(k:κ):(bC.any λkv=>decide (kv.1=k))=vs.any λkv=>decide (kv.1=k):=by
 unfold KV at r
 induction r with
 |nil=>rfl
 |cons h t ih=>rw[any_cons,any_cons,ih,h.1]
theorem KV.repl{bC:List (κ×V)}{vs:List (κ×Value)}(r:KV bC vs)(k:κ)(ry:m8 y u):
 KV (bC.map λkv=>if kv.1=k then(kv.1,y) else kv) (vs.map λkv=>if kv.1=k then(kv.1,u) else kv):=by
 unfold KV at r⊢
 induction r with
 |nil=>exact .nil
 | @cons p q ps qs h t ih=>
  rw[map_cons,map_cons];refine .cons ?_ ih;obtain⟨h1,h2⟩:=h
  by_cases e:p.1=k
  · rw[ay e,ay (h1.symm.trans e)];exact⟨h1,ry⟩
  · rw[az e,az (λz=>e (h1.trans z))];exact⟨h1,h2⟩
theorem KV.put{bC:List (κ×V)}{vs:List (κ×Value)}(r:KV bC vs)(k:κ)(ry:m8 y u):KV (Q2 bC k y) (stored vs k u):=by
 unfold Q2 stored;rw[r.any k]
 by_cases e:(vs.any λkv=>decide (kv.1=k))=true
 · rw[ay e,ay e];exact r.repl k ry
 · rw[az e,az e];exact Paired.snoc r ⟨rfl,ry⟩
theorem KV.length{bC:List (κ×V)}{vs:List (κ×Value)}(r:KV bC vs):↥bC=↥vs:=Paired.length r
end
variable{P:Program}{w:World}
theorem a0k{k:Key}(r:m8 (kV k) u):(x5 P w).is k u=true:=by
 cases k with
 |inl i=>obtain⟨t,e⟩:=(show∃t,u=Value.int i t from r);subst e;exact a6H P w i t
 |inr x=>obtain⟨t,e⟩:=(show∃t,u=Value.str x t from r);subst e;exact a6G P w x t
theorem a4E{P:Program}{w:World}:∀{ks:List Key}{us:List Value},p7 (ks.map kV) us->ItemsAre (x5 P w) ks us
 |[],_,r=>by rw[map_nil] at r;cases r;exact .nil
 |k::ks,_,r=>by
  rw[map_cons] at r;cases r with
  |cons h t=>exact .cons (a0k h) (a4E t)
abbrev KT(H:Hp):List (List Key×V)->List (List Key×Addr×Value)->Prop:=Paired λp q=>p.1=q.1/\H q.2.1=some (.tup (p.1.map kV))/\m8 p.2 q.2.2
variable{bC:List (List Key×V)}{xs:List (List Key×Addr×Value)}
theorem KT.val(r:KT H bC xs)(k:List Key):a0R (V9 bC k) ((atKey xs k).map (·.2)):=by
 induction r with
 |nil=>exact True.intro
 | @cons p q ps qs h t ih=>
  obtain⟨h1,_,h2⟩:=h
  by_cases e:p.1=k
  · have e':q.1=k:=h1.symm.trans e;have b:atKey (q::qs) k=some q.2:=by simp[atKey,List.find?_cons,e']
    rw[Z7 e,b];exact h2
  · have e':¬q.1=k:=λz=>e (h1.trans z);have b:atKey (q::qs) k=atKey qs k:=by simp[atKey,List.find?_cons,e']
    rw[Z8 e,b];exact ih
theorem KT.repl(r:KT H bC xs)(k:List Key)(ry:m8 y u):
 KT H (bC.map λkv=>if kv.1=k then(kv.1,y) else kv) (xs.map (putAt k u)):=by
 induction r with
 |nil=>exact .nil
 | @cons p q ps qs h t ih=>
  rw[map_cons,map_cons];refine .cons ?_ ih;obtain⟨h1,h2,h3⟩:=h;unfold putAt
  by_cases e:p.1=k
  · rw[ay e,ay (h1.symm.trans e)];exact⟨h1,h2,ry⟩
  · rw[az e,az (λz=>e (h1.trans z))];exact⟨h1,h2,h3⟩
theorem KT.put(r:KT H bC xs)(k:List Key)(hb:H b=some (.tup (k.map kV)))(ry:m8 y u):
 KT H (Q2 bC k y) (storedH xs k b u):=by
 have e:(bC.any λkv=>decide (kv.1=k))=(atKey xs k).isSome:=by rw[a6g,(r.val k).isSome_eq,hZ]
 unfold Q2 storedH;rw[e]
 by_cases q:(atKey xs k).isSome=true
 · rw[ay q,ay q];exact r.repl k ry
 · rw[az q,az q];exact Paired.snoc r ⟨rfl,hb,ry⟩
variable{H':Hp}
theorem KT.keeps(r:KT H bC xs)(ht:∀b ys,H b=some (.tup ys)->H' b=some (.tup ys)):KT H' bC xs:=
 Paired.mapP r λ_ _ z=>⟨z.1,ht _ _ z.2.1,z.2.2⟩
section
variable{h:Heap}{a:Addr}
theorem rd_of{u:HO}(ok:HOk P w H h)(e:Rd H a u):D6 P w H h a u:=e.ok ok
theorem a2z{bC:List (Key×V)}(ok:HOk P w H h)(e:Rd H a (.dK bC)):↥bC<=sizeLine/\(a==sysModules)=false/\∃vs,KV bC vs/\h.DictOf (x5 P w) a vs:=
 show D6 P w H h a (.dK bC) from rd_of ok e
theorem b6D{bC:List (Key×V)}(ok:HOk P w H h)(e:H a=some (.dK bC)):↥bC<=sizeLine/\(a==sysModules)=false/\∃vs,KV bC vs/\h.DictOf (x5 P w) a vs:=a2z ok (.inl e)
theorem a2f{ks:List Key}(ok:HOk P w H h)(e:H a=some (.tup (ks.map kV))):(tupleKind (x5 P w)).is h ks a:=by obtain⟨_,bD,r,o,h1,h2,_,n,h3⟩:=(show D6 P w H h a (.tup (ks.map kV)) from ok a _ e);exact⟨o,bD.toArray,n,h1,h2,h3,by simpa using a4E r⟩
theorem a3R(ok:HOk P w H h)(e:Rd H a (.dT bC)):↥bC<=sizeLine/\(a==sysModules)=false∧
 ∃xs,KT H bC xs/\h.DictOfH (tupleKind (x5 P w)) a xs:=by
 obtain⟨z,y,xs,r,o,es,ep,h1,h2,h3,h4,h5⟩:=(show D6 P w H h a (.dT bC) from rd_of ok e);refine⟨z,y,xs,r,o,es,ep,h1,h2,h3,h4,λx hx=>?_,h5⟩;have all:∀{l:List (List Key×V)}{m:List (List Key×Addr×Value)},KT H l m->∀x∈m,(tupleKind (x5 P w)).is h x.1 x.2.1:=by
  intro l m q
  induction q with
  |nil=>intro x hx;exact nomatch hx
  | @cons p q ps qs hq t ih=>
   intro x hx;rcases aF.mp hx with e|hx
   · subst e;exact a2f ok (by rw[←hq.1];exact hq.2.1)
   · exact ih x hx
 exact all r x hx
theorem c1e(ok:HOk P w H h)(e:H a=some (.dT bC)):↥bC<=sizeLine/\(a==sysModules)=false∧
 ∃xs,KT H bC xs/\h.DictOfH (tupleKind (x5 P w)) a xs:=a3R ok (.inl e)
end
def a8m(H:Hp)(a:Addr)(y:V)(r:Option V):Prop:=
 (∃bC k,Rd H a (.dK bC)/\y=kV k/\r=V9 bC k)∨∃bC k b,Rd H a (.dT bC)/\y=.ref b/\H b=some (.tup (k.map kV))/\r=V9 bC k
def c3c(H:Hp)(a:Addr)(y v:V)(H':Hp):Prop:=
 (∃bC k,H a=some (.dK bC)/\y=kV k/\↥bC<sizeLine/\H'=upd H a (.dK (Q2 bC k v)))∨
 ∃bC k b,H a=some (.dT bC)/\y=.ref b/\H b=some (.tup (k.map kV))/\↥bC<sizeLine/\H'=upd H a (.dT (Q2 bC k v))
variable{a:Addr}{v:V}{Q:Value->Shared->Prop}{h':Heap}
section
variable{X:Cx}{s:Shared}{r:Value}{o:Option V}{E:Value->Shared->Prop}
theorem Inv.big(I:Inv X bB σ H s):sysModules<s.heap.objs.size:=by have h:mainGlobals<s.heap.objs.size:=(I.mod.glob.keeps I.bk).lt;exact Nat.lt_trans ∅ h
theorem b0j(hu:A.units+1<cLine)(I:Inv X bB σ H s)(g:a8m H a y (some v))(ry:m8 y u)(h:∀w' s',Inv X bB σ H s'->m8 v w'->Q w' s'):
 wpAny (model X.prog X.w) A (getItem (.ref a) u) Q E s:=by
 rcases g with⟨bC,k,e,ey,l⟩|⟨bC,k,b,e,ey,eb,l⟩
 · subst ey;obtain⟨z,hd,vs,cv,dd⟩:=a2z I.hok e;obtain⟨w',hw,bX⟩:=a0R.some_of (v:=v) (o:=valueAt vs k) (by rw[l];exact cv.val k);exact wpAny_getItem_of (a0k ry) dd.mapOf hw (h w' _ (I.tok _) bX)
 · subst ey;cases (show u=Value.ref b from ry);obtain⟨z,hd,xs,cv,dd⟩:=a3R I.hok e;obtain⟨w',hw,bX⟩:=a0R.some_of (v:=v) (o:=(atKey xs k).map (·.2)) (by rw[l];exact cv.val k);obtain⟨p,hp,hp2⟩:=Option.map_eq_some_iff.mp hw;refine wpAny_getItem_heap (gM hu) (a2f I.hok eb) dd hp ?_;rw[hp2];exact h w' _ (I.tok _) bX
theorem c2L(hu:A.units+1<cLine)(I:Inv X bB σ H s)(g:a8m H a y o)(ry:m8 y u)(h:∀s',Inv X bB σ H s'->Q (.bool o.isSome) s'):
 wpAny (model X.prog X.w) A (compareOp .In u (.ref a)) Q E s:=by
 rcases g with⟨bC,k,e,ey,l⟩|⟨bC,k,b,e,ey,eb,l⟩
 · subst ey;obtain⟨z,hd,vs,cv,dd⟩:=a2z I.hok e;refine wpAny_in_of (a0k ry) hd dd.mapOf ?_;rw[←(cv.val k).isSome_eq,←l];exact h _ (I.tok _)
 · subst ey;cases (show u=Value.ref b from ry);obtain⟨z,hd,xs,cv,dd⟩:=a3R I.hok e;refine wpAny_in_heap (gM hu) (a2f I.hok eb) hd dd ?_;have q:=(cv.val k).isSome_eq;rw[hZ] at q;rw[←q,←l];exact h _ (I.tok _)
theorem b5V(hu:A.units+1<cLine)(I:Inv X bB σ H s)(g:a8m H a y o)(ry:m8 y u)(h:∀s',Inv X bB σ H s'->Q (.bool (!o.isSome)) s'):
 wpAny (model X.prog X.w) A (compareOp .NotIn u (.ref a)) Q E s:=by
 rcases g with⟨bC,k,e,ey,l⟩|⟨bC,k,b,e,ey,eb,l⟩
 · subst ey;obtain⟨z,hd,vs,cv,dd⟩:=a2z I.hok e;refine wpAny_notIn_of (a0k ry) hd dd.mapOf ?_;rw[←(cv.val k).isSome_eq,←l];exact h _ (I.tok _)
 · subst ey;cases (show u=Value.ref b from ry);obtain⟨z,hd,xs,cv,dd⟩:=a3R I.hok e;refine wpAny_notIn_heap (gM hu) (a2f I.hok eb) hd dd ?_;have q:=(cv.val k).isSome_eq;rw[hZ] at q;rw[←q,←l];exact h _ (I.tok _)
theorem a5P{t':Nat}{ob:HO}(I:Inv X bB σ H s)(mu:Mut (H a))(hs:Heap.SameBut a s.heap h')(he:∃q,h'.get? a=some q)(new:D6 X.prog X.w (upd H a ob) h' a ob):
 Inv X bB σ (upd H a ob) {s with heap:=h',toks:=t'}:=
 I.write (x:=a) (e:=a) mu (.inl rfl) (λb q hb z=>(hs.2 b hb).trans z) he new
theorem a8d{bC:List (Key×V)}{vs:List (Key×Value)}(z:↥bC<=sizeLine)(hd:(a==sysModules)=false)(cv:KV bC vs)(dd:h'.DictOf (x5 P w) a vs):
 D6 P w H' h' a (.dK bC):=⟨z,hd,vs,cv,dd⟩
theorem a4M{Q:Unit->Shared->Prop}(hu:A.units+1<cLine)(I:Inv X bB σ H s)(g:c3c H a y v H')(ry:m8 y u)(rv:m8 v r)(h:∀s',Inv X bB σ H' s'->Q () s'):
 wpAny (model X.prog X.w) A (setItem (.ref a) u r) Q E s:=by
 rcases g with⟨bC,k,e,ey,l,eH⟩|⟨bC,k,b,e,ey,eb,l,eH⟩
 · subst ey eH;obtain⟨z,hd,vs,cv,dd⟩:=b6D I.hok e;have hz:↥vs<=sizeLine:=by rw[←cv.length];exact z
   have hl:↥(Q2 bC k v)<=sizeLine:=by have:=a0h bC k v;ac_nf
   refine wpAny_setItem_pairs (hsz:=hz) (a0k ry) dd λh' dd' hs=>h _ ?_;have he:∃q,h'.get? a=some q:=let⟨q,_,_,hq,_⟩:=dd';⟨q,hq⟩;exact a5P I (by rw[e];exact True.intro) hs he (a8d hl hd (cv.put k rv) dd')
 · subst ey eH;cases (show u=Value.ref b from ry);obtain⟨z,hd,xs,cv,dd⟩:=c1e I.hok e;have hz:↥xs<=sizeLine:=by rw[←Paired.length cv];exact z
   have hl:↥(Q2 bC k v)<=sizeLine:=by have:=a0h bC k v;ac_nf
   refine wpAny_setItem_heap (hsz:=hz) (gM hu) (a2f I.hok eb) dd λh' dd' hs=>h _ ?_;obtain⟨q,es,ep,hq,h2,h3,h4,_,h5⟩:=dd';refine a5P I (by rw[e];exact True.intro) hs ⟨q,hq⟩ ⟨hl,hd,_,(cv.put k eb rv).keeps λc ys ec=>?_,q,es,ep,hq,h2,h3,h4,h5⟩;rw[n0 (c0n ec e (λz=>nomatch z))];exact ec
end
section
variable{X:Cx}{s:Shared}{bC:List (Key×V)}{k:Key}{E:Value->Shared->Prop}
theorem c1g(I:Inv X bB σ H s)(e:Rd H a (.dK bC))(h:∀t s',Inv X bB σ H s'->Q (.int ↥bC t) s'):wpAny (model X.prog X.w) A (call (.builtin "len") [.ref a]) Q E s:=by obtain⟨z,hd,vs,cv,dd⟩:=a2z I.hok e;refine call_len_dict hd dd (by rw[←cv.length];rw[gX] at z;ac_nf) ?_;rw[←cv.length];exact h _ _ (I.tok _)
end
variable{prog:Program}{env:Env}{pos:Pos}{X:Cx}
theorem a7b{s:Shared}{o:Option V}(I:Inv X bB σ H s)(g:a8m H a y o):s.TypeIs (.ref a) "dict":=by
 rcases g with⟨bC,k,e,_,_⟩|⟨bC,k,b,e,_,_,_⟩
 · obtain⟨_,_,vs,_,dd⟩:=a2z I.hok e;exact dd.typeIs
 · obtain⟨_,_,xs,_,dd⟩:=a3R I.hok e;exact dd.typeIs
theorem a7a(h:Heap)(hb:sysModules<h.objs.size):D6 P w H (h.push {cls:=.type "dict",data:=.dict #[]}) h.objs.size (.dK []):=
 ⟨gd _,beq_eq_false_iff_ne.mpr (fR (fP hb)),[],.nil,Heap.DictOf.new h⟩
def b6U:TE:=λ_ H Q=>∀p,H p=none->Q (.ref p) (upd H p (.dK []))
section
theorem b1y:PE X (.Dict [] [] pos) b6U:=λbB s σ H Q I h=>
 wpAny_Dict_empty ⟨.ref s.heap.objs.size,_,I.laid (a:=s.heap.objs.size) (o:=.dK []) (t':=s.toks) (λ_ _ q=>fF _ q) (aj _) (a7a s.heap I.big),rfl,h _ (I.hok.fresh (aj _))⟩
end
def a4Z:List (TE×TE)->St->Hp->(List (V×V)->Hp->Prop)->Prop
 |[],_,H,Q=>Q [] H
 |(tk,tv)::r,σ,H,Q=>tk σ H λx H1=>tv σ H1 λy H2=>a4Z r σ H2 λps H3=>Q ((x,y)::ps) H3
abbrev VV:List (V×V)->List (Value×Value)->Prop:=Paired λp q=>m8 p.1 q.1/\m8 p.2 q.2
def PPs(X:Cx)(pos:Pos)(dz:List (Option Expr))(dm:List Expr)(eG:List (TE×TE)):Prop:=
 ∀(bB:List (Addr×Obj))(s:Shared)(σ:St)(H:Hp)(Q:List (V×V)->Hp->Prop),Inv X bB σ H s->a4Z eG σ H Q→
  wpAny (model X.prog X.w) X.A (evalPairs (pairTrees dz dm X.env pos)) (λvs s'=>∃ps H',Inv X bB σ H' s'/\VV ps vs/\Q ps H') X.xe s
theorem b4C:PPs X pos [] [] []:=λbB s σ H Q I h=>pairTrees_nil_walk ⟨[],H,I,.nil,h⟩
variable{eG:List (TE×TE)}
theorem b1p{k v:Expr}{ks:List (Option Expr)}{vs:List Expr}{tk tv:TE}(hk:PE X k tk)(hv:PE X v tv)(hr:PPs X pos ks vs eG):
 PPs X pos (some k::ks) (v::vs) ((tk,tv)::eG):=λbB s σ H Q I h=>
 pairTrees_cons_walk (thn (hk bB s σ H _ I h) λu s1 ⟨x,H1,I1,rx,q1⟩=>thn (hv bB s1 σ H1 _ I1 q1) λw2 s2 ⟨y,H2,I2,ry,q2⟩=>
  thn (hr bB s2 σ H2 _ I2 q2) λws s3 ⟨ps,H3,I3,cv,q3⟩=>⟨(x,y)::ps,H3,I3,.cons ⟨rx,ry⟩ cv,q3⟩)
def X4(bC di:List (Key×V)):List (Key×V):=di.foldl (λbM kv=>Q2 bM kv.1 kv.2) bC
theorem KV.merge:∀{di:List (Key×V)}{rs:List (Key×Value)}{bC:List (Key×V)}{vs:List (Key×Value)},KV di rs->KV bC vs->KV (X4 bC di) (merged vs rs):=by
 intro di rs bC vs r;unfold KV at r
 induction r generalizing bC vs with
 |nil=>intro q;exact q
 | @cons p q ps qs h t ih=>
  intro r0;have e:KV (Q2 bC p.1 p.2) (stored vs q.1 q.2):=by have:=r0.put p.1 h.2;rw[←h.1];exact this
  exact ih e
theorem V2:∀(di bC:List (Key×V)),↥(X4 bC di)<=↥bC+↥di
 |[],bC=>by show ↥bC<=↥bC+0;ac_nf
 |p::r,bC=>by have h1:=V2 r (Q2 bC p.1 p.2);have h2:=a0h bC p.1 p.2;show(X4 (Q2 bC p.1 p.2) r).length<=_;rw[length_cons];ac_nf
theorem a3T{P:Program}{w:World}:∀{bC:List (Key×V)}{ws:List (Value×Value)},VV (bC.map λkv=>(kV kv.1,kv.2)) ws->∃rs,Carries (x5 P w) ws rs/\KV bC rs
 |[],_,r=>by rw[map_nil] at r;cases r;exact⟨[],True.intro,.nil⟩
 | p::bC,_,r=>by
  rw[map_cons] at r;cases r with
  | @cons a b as bs h t=>
   obtain⟨rs,c,q⟩:=a3T (P:=P) (w:=w) t;obtain⟨b1,b2⟩:=b;exact⟨(p.1,b2)::rs,⟨a0k h.1,rfl,c⟩,.cons ⟨rfl,h.2⟩ q⟩
noncomputable def b9F(eG:List (TE×TE)):TE:=λσ H Q=>∀p,H p=none->a4Z eG σ (upd H p (.dK [])) λps H2=>H2 p=some (.dK [])/\∃bC:List (Key×V),ps=bC.map (λkv=>(kV kv.1,kv.2))/\↥bC<=15/\Q (.ref p) (upd H2 p (.dK (X4 [] bC)))
theorem b4N{dz:List (Option Expr)}{dm:List Expr}(h:PPs X pos dz dm eG)(hall:dz.all (·.isSome)=true)(hl:↥dz=↥dm)(h0:dz≠[])
 (h15:↥dz<=15):PE X (.Dict dz dm pos) (b9F eG):=by
 intro bB s σ H Q I q;have hn:=I.hok.fresh (aj s.heap.objs.size);have I1:=I.laid (a:=s.heap.objs.size) (o:=.dK []) (h':=s.heap.push {cls:=.type "dict",data:=.dict #[]}) (t':=s.toks) (λ_ _ q=>fF _ q) (aj _) (a7a s.heap I.big);refine wpAny_Dict_walk (knd:=x5 X.prog X.w) hall hl h0 h15 (thn (h bB _ σ _ _ I1 (q _ hn)) λws s2 zz=>?_);obtain⟨ps,H2,I2,cv,e,bC,ep,lk,q2⟩:=zz;subst ep;obtain⟨rs,c,rk⟩:=a3T (P:=X.prog) (w:=X.w) cv;obtain⟨z,hd,vs0,r0,dd⟩:=b6D I2.hok e;cases r0;refine⟨rs,c,dd,λh' dd' hs=>⟨.ref s.heap.objs.size,_,?_,rfl,q2⟩⟩;have hz:↥(X4 [] bC)<=sizeLine:=by have h1:=V2 bC [];rw[length_nil] at h1;rw[gX];ac_nf
 have he:∃q,h'.get? s.heap.objs.size=some q:=let⟨q,_,_,hq,_⟩:=dd';⟨q,hq⟩;exact a5P I2 (by rw[e];exact True.intro) hs he (a8d hz hd (rk.merge .nil) dd')
structure M2(X:Cx)(o:Expr)(m:Str)(cu:Pos)(e f:Expr)(bW:Pos):Prop where
 base:attributeBase o m X.env (eval o X.env)=eval o X.env
 few:((backTo bW (starEach [e,f] X.env)).all (λx=>!x.1)&&(backToKw bW (keywordEach [] X.env)).all (λx=>x.1.isSome)
  &&decide (↥([e,f]:List Expr)+↥([]:List Keyword)+(if([]:List Keyword).isEmpty then 0 else 1)<30))=true
 line:(cu.endLine==bW.line)=true
 trees:backTo bW (starEach [e,f] X.env)=[(false,eval e X.env),(false,eval f X.env)]
def IsD(H:Hp)(a:Addr):Prop:=(∃bC,Rd H a (.dK bC))∨∃bC,Rd H a (.dT bC)
theorem b8j{s:Shared}(I:Inv X bB σ H s)(d:IsD H a):
 s.TypeIs (.ref a) "dict"/\(∀b,Value.ref a=.ref b->∃ob,s.heap.get? b=some ob/\ob.dict=none)/\(a==sysModules)=false:=by
 rcases d with⟨bC,e⟩|⟨bC,e⟩
 · obtain⟨_,hd,vs,_,dd⟩:=a2z I.hok e;refine⟨dd.typeIs,λb q=>?_,hd⟩;cases q;obtain⟨ob,_,_,h1,h2,_⟩:=dd;exact⟨ob,h1,h2.2.1⟩
 · obtain⟨_,hd,xs,_,dd⟩:=a3R I.hok e;refine⟨dd.typeIs,λb q=>?_,hd⟩;cases q;obtain⟨ob,_,_,h1,h2,_⟩:=dd;exact⟨ob,h1,h2.2.1⟩
section
variable{s:Shared}{d:V}{r:Value}{o:Option V}{E:Value->Shared->Prop}
theorem b8L(hu:A.units+1<cLine)(I:Inv X bB σ H s)(g:a8m H a y o)(ry:m8 y u)(rd:m8 d r)(h:∀w' s',Inv X bB σ H s'->m8 (o.getD d) w'->Q w' s'):
 wpAny (model X.prog X.w) A (call (.builtin "dict.get") [.ref a,u,r]) Q E s:=by
 rcases g with⟨bC,k,e,ey,l⟩|⟨bC,k,b,e,ey,eb,l⟩
 · subst ey;obtain⟨z,hd,vs,cv,dd⟩:=a2z I.hok e;refine call_meetsIn slot_dict_get dd.typeIs PySem.F.entry_dict_get (PySem.F.args_dict_get_3 _ _ _) (meets_dict_get_default (x5 X.prog X.w) a (a0k ry) hd r) ⟨_,dd.mapOf,h _ _ (I.tok _) ?_⟩;rw[l];exact(cv.val k).getD rd
 · subst ey;cases (show u=Value.ref b from ry);obtain⟨z,hd,xs,cv,dd⟩:=a3R I.hok e;refine call_meetsIn slot_dict_get dd.typeIs PySem.F.entry_dict_get (PySem.F.args_dict_get_3 _ _ _) (meetsH_dict_get_default (tupleKind (x5 X.prog X.w)) a b hd r) ⟨gM hu,k,xs,a2f I.hok eb,dd,h _ _ (I.tok _) ?_⟩;rw[l];exact(cv.val k).getD rd
end
end L2
namespace Att
open PySem PySem.W PySem.Calls PyProof.Rows
variable{P:Params}{h:Heap}
theorem a2H:∀(ns:List Int)(vs:List Value),WellAll P h vs (ns.map WData.int)->IntsAre vs ns:=by
 intro ns
 induction ns with
 |nil=>
  intro vs w;rw[map_nil] at w;cases w;exact .nil
 | cons n ns ih=>
  intro vs w;rw[map_cons] at w;cases w with
  |cons a b=>
   cases a;exact .cons _ _ (ih _ b)
variable{l:OpenLaw}{n:Nat}
theorem a9A(hn:l.most=some n){args:List WData}{vals:List Value}
 (hpre:l.row.toRowW.claim.pre args=true) (hwl:WellAll P h vals args):
 ∃a vs ns,vals=[Value.ref a]/\args=[WData.list (ns.map WData.int)]/\h.get? a=some {cls:=.type "list",data:=.seq vs.toArray}/\IntsAre vs ns/\↥ns<=n:=by
 have hsh:WShape.hasAll [] args [.list .int]=true:=(pre_splitW hpre).1;have hc:l.pre.holds [] {args:=args}=true:=(pre_splitW hpre).2;obtain⟨d,r,rfl,h1,h2⟩:=hasAllW_cons hsh;obtain rfl:=hasAllW_nil h2;obtain⟨xs,rfl,h3⟩:=hasW_list h1;obtain⟨ns,rfl⟩:=items_int h3;have bP:↥ns<=n:=by
  unfold OpenLaw.pre at hc;have h4:(WTm.not (.lt (.lit ⇑n) (.len (.arg 0)))).holds [] {args:=[.list (ns.map .int)]}=true:=by have h4:=(holds_andW hc).1;rw[hn] at h4;exact h4
  have h5:=condW_of h4 (w_not (w_lt w_lit (w_len_list (w_arg rfl))));rw[aa] at h5;refine aU λq=>?_;have q':(n:Int)<((↥ns:Nat):Int):=by ac_nf
  first
   |(rw[ba q'] at h5;exact absurd h5 ∅)
   |(simp at h5;ac_nf)
 cases hwl with
 |cons w1 w2=>
  cases w2;cases w1 with
  |list ho hall=>exact⟨_,_,ns,rfl,rfl,ho,a2H ns _ hall,bP⟩
theorem a9G(l:OpenLaw)(args:List WData):l.row.toRowW.claim.post args (.bool true) args=true:=
 postW_of (r:=l.row.toRowW) (X:=(true==true))
  (show WShape.has [] (.bool true) .bool=true by first|rfl|decide|simp[WShape.has,WShape.arms,WShape.armsAll])
  (show(WTm.eq .res (.lit (.bool true))).value [] {args:=args,res:=some (.bool true),after:=args}=some (.bool (true==true)) from w_eq_bool (w_res rfl) w_lit) rfl
variable{q:Program}{dD:List Str}{XP:(Str->Option Value)->Heap->Prop}{YP:World->Heap->Prop}{d:DefRec}
theorem a7o
 (hn:l.most=some n) (hdf:d.params.defaults=[])
 (call:∀(w:World)(s₀ bH:Shared)(mg mb:Str->Option Value)(fa:Addr)(o:Obj)(pm cd df:Value)(a:Addr)(vs:List Value)(ns:List Int),
  Ground q dD [] XP w s₀ mg mb bH.heap->YP w bH.heap→
  bH.heap.get? fa=some o->o.data=.func (docDef d.name d.params d.body d.scope pm cd df)->bH.heap.CodeRec cd d.name->mg d.name= ~~~fa→
  bH.heap.get? a=some {cls:=.type "list",data:=.seq vs.toArray}->IntsAre vs ns->↥ns<=n->bH.gens= #[]→
  codeAny (model l.prog w) callerA (.call (.ref fa) ⟨[.ref a],[]⟩) (λr s'=>r=.ok (.ret (.bool true))/\OldK bH.heap s'.heap/\s'.os=bH.os/\AllBare s'.gens) bH):
 WalkO q dD XP YP l.row.toRowW d [] (λf vs=>PySem.call f vs):=by
 intro w s₀ bH mg mb G Y fa o pm cd df dV kV ho hd ff hD hmg hg args vals as hpre hlay hrd hwl hlo;obtain rfl:dV=.none:=Dflts.none hD hdf;obtain rfl:kV=.none:=Dflts.noKw hD;obtain⟨a,vs,ns,rfl,rfl,hobj,fm,bP⟩:=a9A hn hpre hwl;refine enter_call (codeAny_mono (call w s₀ bH mg mb fa o pm cd df a vs ns G Y ho (fd_plain hd) ff hmg hobj fm bP hg) λr s' hq=>?_);obtain⟨rfl,h2,h3,h4⟩:=hq;exact⟨.inl ⟨.bool true,.bool true,[],rfl,λ_=>rfl,.bool true,a9G l _,λ_=>⟨List.Pairwise.nil,λ_ hm=>(nomatch hm)⟩⟩,h2,h3,h4⟩
variable{f:Addr}{C:Addr}{x:Addr}{ox:Obj}{es:List DictEntry}{v:Value}{L:Addr}{m:Str->Option Value}
end Att
namespace L2
open PySem PySem.Spec PyProof.Rows
theorem a4o:∀{vs:List Value}{ns:List Int},IntsAre vs ns->p7 (ns.map V.int) vs
 |_,_,.nil=>.nil
 |_,_,.cons n t h=>.cons ⟨t,rfl⟩ (a4o h)
def b3J(H:Hp):Prop:=∀b,H b=none∨∃o xs,H b=some (.frz o (.lst xs))
variable{P:Program}{w:World}{K:Frag}{mg:Str->Option Value}{CX:CXT}{a:Addr}{fd:FuncData}{x:Str}{sp:Sp}{vs:List Value}{ns:List Int}
theorem b1Y{mb:Str->Option Value}{k:Nat}{fa:Addr}{bH:Shared}
 (KX:K.In bH.heap) (hns:bH.heap.Ns mainGlobals mg) (hb:bH.heap.Ns builtinsNs mb) (hbb:∀x:Str,x≠"__name__"->mb x=bootBuiltins x) (hlim:bH.heap.NoLimit) (hg:bH.gens= #[])
 (ha:bH.heap.get? a=some {cls:=.type "list",data:=.seq vs.toArray}) (hi:IntsAre vs ns) (hl:↥ns<=sizeLine) (hr:Room k callerA)
 (F:∀base:Heap,K.In base->base.Ns mainGlobals mg->FnOk P w K mg base CX k fa fd [x] sp) (hbind:∀(s:Shared)(u:Value),BindsTo s fd ⟨[u],[]⟩ [(x,u)])
 (eY:∀H:Hp,b3J H->SqL K H a (ns.map V.int)->sp [.ref a] H (λv _=>v=.bl true) λ_ _ _=>False)
 (hCX:∀H e s',CX [] H bH (λ_ _ _=>False) e s'->False):
 codeAny (model P w) callerA (.call (.ref fa) ⟨[.ref a],[]⟩) (λr s'=>r=.ok (.ret (.bool true))/\OldK bH.heap s'.heap/\s'.os=bH.os/\AllBare s'.gens) bH:=by
 have rv:=a4o hi;have lenV:=↥hi
 -- from an abstract heap in which nothing but the script may be tracked
 have bE:∀H:Hp,b3J H->SqL K H a (ns.map V.int)->HOk P w H bH.heap->(∀b,H b≠none->b=a)->(H a≠none->K.lookup a=none)→
  codeAny (model P w) callerA (.call (.ref fa) ⟨[.ref a],[]⟩) (λr s'=>r=.ok (.ret (.bool true))/\OldK bH.heap s'.heap/\s'.os=bH.os/\AllBare s'.gens) bH:=by
  intro H hO hS hok hA hK;have base_of:∀{b:Addr}{o:Obj},bH.heap.get? b=some o->H b=none->(a5D bH.heap H).get? b=some o:=λe n=>b2o e n;have noA:∀{b:Addr}{o:Obj}{es:Array DictEntry}{ep:Nat},bH.heap.get? b=some o->o.data=.dict es ep->H b=none:=fun{b o es ep} e d=>by
   cases q:H b with
   |none=>rfl
   |some u=>
    have e':b=a:=hA b (by rw[q];simp);subst e';rw[ha] at e;cases e;have d':Data.seq vs.toArray _=Data.dict es ep:=d;cases d'
  have nsK:∀{b:Addr}{m:Str->Option Value},bH.heap.Ns b m->(a5D bH.heap H).Ns b m:=fun{b m} ⟨o,es,ep,e,d,r⟩=>⟨o,es,ep,base_of e (noA e d),d,r⟩;have hKb:K.In (a5D bH.heap H):=λb o e=>base_of (KX b o e) (by
   cases q:H b with
   |none=>rfl
   |some u=>
    have e':b=a:=hA b (by rw[q];simp);subst e';rw[hK (by rw[q];simp)] at e;cases e)
  have hM:Mod K mg (a5D bH.heap H):=⟨hKb,nsK hns,⟨mb,nsK hb,hbb⟩,let⟨mc,h1,h2⟩:=hlim;⟨mc,nsK h1,h2⟩⟩;have e0:Env0 P w K mg (a5D bH.heap H) callerA [] bH H:=⟨rfl,hM,λb o e=>b4Z e,Nat.le_of_eq (a9Y _ _),trivial,λb hb=>absurd (show b∈([]:List Addr) from hb) ⋯,hok,.of_eq hg⟩;refine codeAny_mono ((F _ hKb (nsK hns)).run callerA [] bH H ⟨[.ref a],[]⟩ [.ref a] [.ref a] _ _ hr e0 (hbind bH (.ref a)) (.cons rfl .nil) (eY H hO hS)) λr s' h=>?_;cases r with
  |error e=>exact(hCX H e s' h).elim
  | ok fl=>
   cases fl with
   |next=>exact False.elim h
   |brk=>exact False.elim h
   |cont=>exact False.elim h
   | ret u=>
    obtain⟨v,H',os,bare,un,hok',r',q⟩:=h;have q':v=.bl true:=q;subst q';obtain rfl:u=Value.bool true:=r';refine⟨rfl,OldK.of_keep λb o e=>?_,os,bare⟩;cases q:H b with
    |none=>exact un.keep b o e q (by intro z;exact absurd (show b∈([]:List Addr) from z) ⋯) ⋯
    |some u=>
     rcases hO b with z|⟨ob,xs,z⟩
     · rw[q] at z;cases z
     · have z2:=un.frzs b ob _ z;obtain⟨e1,_⟩:=hok b _ z;obtain⟨e2,_⟩:=hok' b _ z2;rw[e] at e1;cases e1;exact e2
 cases hk:K.lookup a with
 |some o=>
  -- the script is one of the module's own objects
  have e:=KX a o hk;rw[ha] at e;cases e;refine bE (λ_=>none) (λ_=>.inl rfl) (.inr ⟨_,vs.toArray,_,hk,rfl,rfl,rfl,by rw[size_toArray,lenV];exact hl,by simpa using rv⟩) (λb u z=>by have z':(none:Option HO)=some u:=z;cases z') (λb z=>absurd rfl z) λz=>absurd rfl z
 |none=>
  refine bE (λb=>if b=a then some (.frz {cls:=.type "list",data:=.seq vs.toArray} (.lst (ns.map V.int))) else none) (λb=>?_) (.inl (.inr ⟨{cls:=.type "list",data:=.seq vs.toArray},ay rfl⟩)) (λb u z=>?_) (λb z=>?_) λ_=>hk
  · by_cases hb:b=a
    · exact .inr ⟨_,_,ay hb⟩
    · exact .inl (az hb)
  · by_cases hb:b=a
    · have z':=(ay hb).symm.trans z;cases z';subst hb;exact⟨ha,by rw[aa];exact hl,vs,_,rv,ha⟩
    · have z':=(az hb).symm.trans z;cases z'
  · by_cases hb:b=a
    · exact hb
    · exact absurd (az hb) z
abbrev KOf{K:Frag}{h:Heap}(_:K.In h):Frag:=K
variable{n:Nat}{q:Program}{dD:List Str}{XP:(Str->Option Value)->Heap->Prop}{YP:World->Heap->Prop}
theorem b3O{l:PySem.W.OpenLaw}{k:Nat}{d:DefRec}{K:Params->Frag}{CX:World->CXT}{sp:World->Sp}
 (hn:l.most=some n) (hn2:n<=sizeLine) (hdf:d.params.defaults=[]) (hr:Room k callerA)
 (hY:∀(w:World)(h:Heap),YP w h->(K w.params).In h)
 (F:∀(w:World)(mg:Str->Option Value)(fa:Addr)(h:Heap),(K w.params).In h->h.Ns mainGlobals mg->mg d.name= ~~~fa→
  ∃fd:FuncData,(∀(s:Shared)(u:Value),BindsTo s fd ⟨[u],[]⟩ [(x,u)])∧
   ∀base:Heap,(K w.params).In base->base.Ns mainGlobals mg->FnOk l.prog w (K w.params) mg base (CX w) k fa fd [x] (sp w))
 (eY:∀(w:World)(H:Hp)(a:Addr)(ns:List Int),↥ns<=n->b3J H->SqL (K w.params) H a (ns.map V.int)->sp w [.ref a] H (λv _=>v=.bl true) λ_ _ _=>False)
 (hCX:∀(w:World)(H:Hp)(s:Shared)(e:Value)(s':Shared),CX w [] H s (λ_ _ _=>False) e s'->False):
 PySem.W.WalkO q dD XP YP l.row.toRowW d [] (λf vs=>PySem.call f vs):=by
 refine Att.a7o hn hdf λw s₀ bH mg mb fa o pm cd df a vs ns G Y ho hd ff hmg hobj fm bP hg=>?_;have KX:=hY w _ Y;obtain⟨fd,hb,hF⟩:=F w mg fa _ KX G.T.g hmg;exact b1Y KX G.T.g G.T.b G.T.builtins G.T.nolimit hg hobj fm (aR bP hn2) hr hF hb (λH hO hS=>eY w H a ns bP hO hS) λH e s'=>hCX w H bH e s'
def b5o(s:Stmt)(j:Nat):Stmt:=match s with
 |.ClassDef _ _ _ body _ _ _ _ _ _ _=>body.getD j (.Pass ⟨0,0,0,0⟩)
 |_=>.Pass ⟨0,0,0,0⟩
def U6(s:Stmt):Arguments:=match s with
 |.FunctionDef _ a _ _ _ _ _ _ _ _=>a
 |_=>{posonlyargs:=[],args:=[],vararg:=none,kwonlyargs:=[],kw_defaults:=[],kwarg:=none,defaults:=[]}
def O3(s:Stmt):List Stmt:=match s with
 |.FunctionDef _ _ b _ _ _ _ _ _ _=>b
 |_=>[]
def v7(s:Stmt):Scope:=match s with
 |.FunctionDef _ _ _ _ _ _ sc _ _ _=>sc
 |_=>{kind:=.function,names:=[],isGenerator:=false,isCoroutine:=false}
abbrev CX0:CXT:=λ_ _ _ _ _ _=>False
abbrev E0:XK:=λ_ _ _=>False
variable{X:Cx}
theorem b6u:a4d CX0 X E0:=λ_ _ _ _ _ _ _ h=>h.elim
structure Fun(K:Frag)(x qual:Str)(st:Stmt)(f:Addr)(fd:FuncData):Prop where
 ex:∃(oc:Value)(od:Option Addr)(kV df pm:Value)(an:Option Addr)(cN ct:Value)(eL:Array (Option Value)),
  fd=fnOf x qual (U6 st) (O3 st) (v7 st) .none kV df pm an cN ct/\K.lookup f=some ⟨oc,od,.func fd,eL⟩/\PySem.W.codeIn K cN qual=true
 kp:PySem.W.keepIn K (.ref f)=true
variable{qual:Str}{st:Stmt}{N:List Str}{ps:List Str}{oc:Value}{od:Option Addr}{an:Option Addr}{eL:Array (Option Value)}{df:Value}{pm:Value}{cN:Value}{ct:Value}
section
variable{base:Heap}
theorem Fun.binds{f:Addr}(F:Fun K x qual st f fd)
 (h:∀(kV df pm:Value)(an:Option Addr)(cN ct:Value)(us:List Value),↥us=↥ps->bindArgs (fnOf x qual (U6 st) (O3 st) (v7 st) .none kV df pm an cN ct) ⟨us,[]⟩=pure (ps.zip us)):U7 K fd ps []:=by
 obtain⟨oc,od,kV,df,pm,an,cN,ct,eL,rfl,lk,ff⟩:=F.ex;exact .all (h kV df pm an cN ct)
theorem b2E{f:Addr}{kV:Value}(l:K.lookup f=some ⟨oc,od,.func (fnOf x qual (U6 st) (O3 st) (v7 st) .none kV df pm an cN ct),eL⟩)
 (c:PySem.W.codeIn K cN qual=true) (k:PySem.W.keepIn K (.ref f)=true):Fun K x qual st f (fnOf x qual (U6 st) (O3 st) (v7 st) .none kV df pm an cN ct):=⟨⟨oc,od,kV,df,pm,an,cN,ct,eL,rfl,l,c⟩,k⟩
end
variable{A:Around}{pos:Pos}
theorem b8d{A B:Prop}(h:B):if false=true then A else B:=by rw[az bq];exact h
theorem b8c{A B:Prop}(h:A):if true=true then A else B:=by rw[ay rfl];exact h
def c3a(H H':Hp):Prop:=∀b o,H b=some o->H' b=some o
variable{H:Hp}{H':Hp}
noncomputable def L1(cells:List (Str×Addr)):List (Str×NameKind)->List (Str×Addr)->List (Str×Addr)
 |[],bM=>bM
 |(n,k)::r,bM=>if k=NameKind.free then(match cells.lookup n with|some c=>L1 cells r ((n,c)::bM)|none=>L1 cells r bM) else L1 cells r bM
theorem W4{cells:List (Str×Addr)}{x:Str}{c:Addr}:∀{l:List (Str×NameKind)}{bM:List (Str×Addr)},(x,c)∈L1 cells l bM->(x,c)∈bM∨((x,NameKind.free)∈l/\cells.lookup x=some c)
 |[],_,h=>.inl h
 | (n, k)::r,bM,h=>by
  unfold L1 at h
  by_cases hk:k=NameKind.free
  · rw [ay hk] at h;cases e:cells.lookup n with
    |none=>
     rw[e] at h;rcases W4 h with q|⟨q,z⟩
     · exact .inl q
     · exact .inr ⟨aE _ q,z⟩
    |some d=>
     rw[e] at h;rcases W4 h with q|⟨q,z⟩
     · rcases aF.mp q with q|q
       · cases q;exact .inr ⟨by rw[hk];exact aY,e⟩
       · exact .inl q
     · exact .inr ⟨aE _ q,z⟩
  · rw[az hk] at h;rcases W4 h with q|⟨q,z⟩
    · exact .inl q
    · exact .inr ⟨aE _ q,z⟩
theorem a0P{cells:List (Str×Addr)}{p:Str×Addr}:∀{l:List (Str×NameKind)}{bM:List (Str×Addr)},p∈bM->p∈L1 cells l bM
 |[],_,h=>h
 | (n,k)::r,bM,h=>by
  unfold L1
  by_cases hk:k=NameKind.free
  · rw[ay hk];cases e:cells.lookup n with
    |none=>exact a0P h
    |some d=>exact a0P (aE _ h)
  · rw[az hk];exact a0P h
theorem a1G{cells:List (Str×Addr)}{x:Str}{c:Addr}(hc:cells.lookup x=some c):∀{l:List (Str×NameKind)}{bM:List (Str×Addr)},(x,NameKind.free)∈l->(x,c)∈L1 cells l bM
 | (n,k)::r,bM,h=>by
  unfold L1;rcases aF.mp h with q|q
  · cases q;rw[ay rfl,hc];exact a0P aY
  · by_cases hk:k=NameKind.free
    · rw[ay hk];cases e:cells.lookup n with
      |none=>exact a1G hc q
      |some d=>exact a1G hc q
    · rw[az hk];exact a1G hc q
theorem a4j{cl:List (Str×Addr)}{c:Addr}:(∀d,(x,d)∈cl->d=c)->(x,c)∈cl->cl.lookup x=some c:=by
 induction cl with
 |nil=>intro _ h;cases h
 |cons p r ih=>
  intro ha h;obtain⟨n,d⟩:=p;rw[lookup_cons]
  by_cases e:x=n
  · subst e;rw[beq_self_eq_true];rw[ha d aY]
  · rw[show(x==n)=false from beq_eq_false_iff_ne.mpr e];refine ih (λd' eQ=>ha d' (aE _ eQ)) ?_;rcases aF.mp h with q|q
    · cases q;exact absurd rfl e
    · exact q
variable{cells:List (Str×Addr)}{l:List (Str×NameKind)}
theorem a1C{c:Addr}(hl:(x,NameKind.free)∈l)(hc:cells.lookup x=some c):(L1 cells l []).lookup x=some c:=
 a4j (λd hd=>by
  rcases W4 hd with q|⟨_,z⟩
  · cases q
  · rw[hc] at z;exact(ax z).symm) (a1G hc hl)
theorem R8{c:Addr}(h:(L1 cells l []).lookup x=some c):cells.lookup x=some c:=by
 rcases W4 (PySem.mem_of_lookup h) with q|⟨_,z⟩
 · cases q
 · exact z
theorem a1f{env:Env}{f:Str×NameKind->List (Str×Addr)->Sem (ForInStep (List (Str×Addr)))}
 (hf:∀n k r,f (n,k) r=if(k==NameKind.free)=true then(cellOf env n>>=λa=>pure (ForInStep.yield ((n,a)::r))) else pure (ForInStep.yield r)):
 ∀(l:List (Str×NameKind))(bM:List (Str×Addr)),(∀y∈l,y.2=NameKind.free->∃c,env.cells.lookup y.1=some c)->(forIn l bM f:Sem (List (Str×Addr)))=pure (L1 env.cells l bM)
 |[],bM,_=>rfl
 | (n,k)::r,bM,h=>by
  rw[forIn_cons,hf];unfold L1
  by_cases hk:k=NameKind.free
  · subst hk;obtain⟨c,hc⟩:=h (n,.free) aY rfl;have fq:env.cells.lookup n=some c:=hc;have e1:cellOf env n=pure c:=by unfold cellOf;rw[fq]
    rw[ay (beq_self_eq_true _),ay rfl,e1,fq];simp only[pure_bind];exact a1f hf r _ λy hy=>h y (aE _ hy)
  · have hb:¬(k==NameKind.free)=true:=λz=>hk (by simpa using z);rw[az hb,az hk];simp only[pure_bind];exact a1f hf r _ λy hy=>h y (aE _ hy)
variable{scope:Scope}{env:Env}
theorem a0X(h:∀y∈scope.names,y.2=NameKind.free->∃c,env.cells.lookup y.1=some c):closureFor scope env=pure (L1 env.cells scope.names []):=by
 unfold closureFor
 dsimp only
 rw[a1f (env:=env) (λn k r=>by rfl) scope.names [] h];rfl
theorem a2r{k:NameKind}(h:(relabel scope env).names.lookup x=some k):(x,k)∈scope.names∨((x,NameKind.free)∈scope.names/\k=.cell):=by
 obtain⟨⟨n,k'⟩,hm,e⟩:=al.mp (PySem.mem_of_lookup h)
 dsimp only at e
 split at e
 · rename_i hc;cases e;have hk:k'=NameKind.free:=by simp only[ae,beq_iff_eq] at hc;exact hc.1.1
   exact .inr ⟨hk▸hm,rfl⟩
 · cases e;exact .inl hm
theorem a1y{env:Env}:∀{names:List (Str×NameKind)}{x:Str},names.lookup x=some .free→
 (names.map fun(n,k)=>if(k==NameKind.free&&env.scope.kind==.function&&env.kindOf n==some .cell) then(n,NameKind.cell) else(n,k)).lookup x=some .cell∨
 (names.map fun(n,k)=>if(k==NameKind.free&&env.scope.kind==.function&&env.kindOf n==some .cell) then(n,NameKind.cell) else(n,k)).lookup x=some .free
 |[],_,h=>by simp at h
 | (n,k)::r,x,h=>by
  have ih:= @a1y env r x;rw[map_cons];cases hx:x==n with
  |true=>
   simp only[lookup_cons,hx] at h;cases h
   by_cases hc:(NameKind.free==NameKind.free&&env.scope.kind==.function&&env.kindOf n==some .cell)=true
   · refine .inl ?_;simp only[ay hc,lookup_cons,hx]
   · refine .inr ?_;simp only[az hc,lookup_cons,hx]
  |false=>
   simp only[lookup_cons,hx] at h
   by_cases hc:(k==NameKind.free&&env.scope.kind==.function&&env.kindOf n==some .cell)=true
   · simp only[ay hc,lookup_cons,hx];exact ih h
   · simp only[az hc,lookup_cons,hx];exact ih h
structure CompScope(sc scope:Scope)(own frees:List Str):Prop where
 kind:scope.kind=.function
 nocell:∀y∈scope.names,y.2≠.cell
 locs:∀y∈scope.names,y.2=.local->scope.names.lookup y.1=some .local
 out:∀y∈scope.names,y.2=.free->sc.names.lookup y.1=some .cell
 nd:(own++frees).Nodup
 ownL:∀x∈own,scope.names.lookup x=some .local
 fr:∀x∈frees,scope.names.lookup x=some .free
def v0(X:Cx)(own frees:List Str)(scope:Scope)(C:Addr)(s₀:Shared)(H₀:Hp)(ex:List Addr):Cx:=
 { prog:=X.prog,w:=X.w,K:=X.K,mg:=X.mg,base:=X.base,A:=X.A,N:=own++frees,s₀:=s₀,H₀:=H₀,env:=compEnvC scope (L1 X.env.cells scope.names []) C X.env,
   outer:=X.stack,stack:=X.stack,ex:=ex,fn:=λ_=>false,calm:=X.calm,pn:=[],xe:=λ_ _=>False}
def E9(own:List Str)(js:List Nat)(σ:St):St:=own.map (λ_=>none)++js.map (λj=>(σ[j]?).join)
def Wk(σ bO:St):Prop:=↥σ=↥bO/\∀(i:Nat)(v:V),σ[i]? =some (some v)->bO[i]? =some (some v)
variable{σ:St}{v:V}
def a7p(X:Cx)(ifs:List Expr)(t:TT):Prop:=
 ∀(bB:List (Addr×Obj))(s:Shared)(σ:St)(H:Hp)(Q:Bool->Hp->Prop),Inv X bB σ H s->t σ H Q→
  wpAny (model X.prog X.w) X.A (forIn ifs true λc r=>if r=true then do let ok←isTrue c X.env (eval c X.env);pure (ForInStep.yield ok) else pure (ForInStep.yield r)) (TP X bB σ Q) X.xe s
theorem b4G:a7p X [] (λ_ H Q=>Q true H):=λ_ _ _ H _ I h=>wpAny_tests_nil ⟨H,I,h⟩
variable{c:Expr}
theorem b4F{t:TT}(h:PT X c t):a7p X [c] t:=λbB s σ H Q I q=>wpAny_tests_one (h bB s σ H Q I q)
variable{iter:Expr}
section
variable{prog:Program}{R:Result->Shared->Prop}{s:Shared}
theorem a5R{cM target:Expr}{ifs:List Expr}{it bM:Value}(I:Nat->Shared->Prop)
 (ee:∀n s,I n s->wpAny (model prog w) A (pyNext it) (λr bH=>match r with
  |none=>R (.ok .next) bH
  | some v=>wpAny (model prog w) A (letOwnedTupleGo target it v) (λ_ s₁'=>wpAny (model prog w) A (assign target env v) (λ_ dh=>
   wpAny (model prog w) A (forIn ifs true λc r=>if r=true then do let ok←isTrue c env (eval c env);pure (ForInStep.yield ok) else pure (ForInStep.yield r)) (λok eK=>
    if ok=true then wpAny (model prog w) A (eval cM env) (λx s₄=>
     wpAny (model prog w) A (call (.builtin "list.append") [bM,x]) (λ_ s₅=>∃m,m<n/\I m s₅) (λ_ _=>False) s₄) (λ_ _=>False) eK
    else∃m,m<n/\I m eK) (λ_ _=>False) dh) (λ_ _=>False) s₁') (λ_ _=>False) bH) (λ_ _=>False) s)
 (n:Nat) (h:I n s):codeAny (model prog w) A (.compLoop (.ListComp cM [⟨target,iter,ifs,0⟩] scope pos) 0 it bM env) R s:=by
 have no:∀{α:Type}{t:Sem α}{Q:α->Shared->Prop}{E:Value->Shared->Prop}{s:Shared},wpAny (model prog w) A t Q (λ_ _=>False) s->wpAny (model prog w) A t Q E s:=
  λh=>gy h (λ_ _ q=>q) λ_ _ z=>z.elim
 refine codeAny_loop rfl I (λn s hI=>?_) n h;show wpAny _ A ((compTurn (.ListComp cM [⟨target,iter,ifs,0⟩] scope pos) 0 it bM env).onRaise (λx=>do noteFrame x env;theTreesLotGoes x)) _ _ s;refine wpAny_noted ?_;rw[compTurn_list];refine fv (wpAny_standAt (fv (no (gy (ee n s hI) (λr bH dR=>?_) λ_ _ h'=>h'))));cases r with
 |none=>exact fG dR
 | some v=>
  refine fv (no (gy dR (λ_ s₁' h₁'=>?_) λ_ _ h'=>h'));refine fv (no (gy h₁' (λ_ dh h₂=>fv (no (gy h₂ (λok eK h₃=>?_) λ_ _ h'=>h'))) λ_ _ h'=>h'));cases ok with
  |false=>exact fG ⟨rfl,h₃⟩
  |true=>
   exact fv (fv (no (gy h₃ (λx s₄ h₄=>fv (no (gy h₄ (λ_ s₅ h₅=>fG (fG ⟨rfl,h₅⟩)) λ_ _ h'=>h'))) λ_ _ h'=>h')))
end
variable{h:Heap}{h':Heap}
noncomputable def a8p(own:List Str)(js:List Nat)(wi:TI)(g:TG)(tc:TT)(te:TE):TE:=λσ H Q=>wi σ H λJ H1=>∀D,H1 D=none→
 ∃ W:Nat->Nat->List V->Hp->Prop,(∃m,W 0 m [] (upd H1 D (.lst [])))/\∀i m ys H2,W i m ys H2→
  (J.stop i H2/\Q (.ref D) H2)∨(J.go i H2/\∀x H3,J.yld i H2 x H3->g x (E9 own js σ) H3 λσ4 H4=>Wk (E9 own js σ) σ4/\tc σ4 H4 λb H5=>
   if b=true then te σ4 H5 λy H6=>H6 D=some (.lst ys)/\↥ys<sizeLine/\∃m',m'<m/\W (i+1) m' (ys++[y]) (upd H6 D (.lst (ys++[y])))
   else∃m',m'<m/\W (i+1) m' ys H5)
variable{bB:List (Addr×Obj)}{C:Addr}{fp:List Addr}{s':Shared}{m:Str->Option Value}
section
variable{cM tg:Expr}{ifs:List Expr}{own frees:List Str}{js:List Nat}{wi:TI}{g:TG}{tc:TT}{te:TE}
theorem b5Z{s:Shared}(I:Inv X bB σ H s)(S:CompScope X.env.scope scope own frees)(hC:s.heap.objs.size<=C)
 (hf:∀b∈fp,a2K X bB H b) (ho:∀b∈fp,∃o,s.heap.get? b=some o):(v0 X own frees scope C s H fp).Ok:=by
 have cellX:∀x c,(L1 X.env.cells scope.names []).lookup x=some c->X.env.cells.lookup x=some c:=λx c e=>R8 e;refine⟨I.ok.mod,S.kind,I.ok.glob,I.ok.blt,hC,λx y c h1 h2=>I.ok.inj x y c (cellX x c h1) (cellX y c h2),λx hx=>?_,λx c h=>(bq h).elim,I.ok.hd,I.ok.frames,.inl rfl,λb hb=>⟨?_,λx c e=>(hf b hb).2.2.2.2.1 x c (cellX x c e)⟩,
  I.bs,aR I.ok.bsz I.sz,λb o e hb=>?_,λb hb hm=>?_,I.stack,I.stkFree⟩
 · have dY:(relabel scope X.env).names.lookup x=some .cell∨(relabel scope X.env).names.lookup x=some .free:=hx;have hm:(x,NameKind.free)∈scope.names:=by
    rcases dY with q|q
    · rcases a2r q with z|z
      · exact absurd rfl (S.nocell _ z)
      · exact z.1
    · rcases a2r q with z|z
      · exact z
      · exact z.1
   obtain⟨c,hc⟩:=I.ok.has x (.inl (S.out _ hm rfl));exact⟨c,a1C hm hc⟩
 · intro e;obtain⟨o,q⟩:=ho b hb;have e':b=C:=e;have:=fH q;rw[e'] at this;exact absurd (aC this hC) (aQ _)
 · rcases(hf b hb).2.2.2.1 with z|z
   · exact I.ok.noex b o e z
   · exact absurd (aC (aC (fH e) I.ok.bsz) z) (aQ _)
 · rcases aF.mp (I.stkSub b hm) with z|z
   · exact(hf b hb).2.1 z
   · exact(hf b hb).2.2.1 z
theorem b3q{s:Shared}(I:Inv X bB σ H s)(S:CompScope X.env.scope scope own frees)(hj:frees.map some=js.map (X.N[·]?))(hC:s.heap.objs.size<=C)
 (hf:∀b∈fp,a2K X bB H b) (ho:∀b∈fp,∃o,s.heap.get? b=some o) (os:s'.os=s.os) (bare:AllBare s'.gens) (k:∀b o,s.heap.get? b=some o->s'.heap.get? b=some o) (un:Un (frs X.stack) fp H H' s.heap s'.heap)
 (hn:s'.heap.Ns C m) (hCn:H' C=none) (hok:HOk X.prog X.w H' s'.heap) (hcl:∀x c,X.env.cells.lookup x=some c->H' c=none):
 Inv (v0 X own frees scope C s H fp) [] (E9 own js σ) H' s':=by
 have bP:↥frees=↥js:=by have:=fN List.length hj;simpa using this
 refine⟨b5Z I S hC hf ho,os,bare,un,⟨m,hn,λi x v h1 h2 h3=>?_⟩,λx c e=>?_,hCn,λx c e=>hcl x c (R8 e),λp hp=>absurd (show p∈([]:List (Addr×Obj)) from hp) ⋯,hok,?_⟩
 · have h1':(own++frees)[i]? =some x:=h1;unfold E9 at h2
   by_cases hi:i<↥own
   · rw[av (by simpa using hi),ak] at h2;cases q:own[i]? with
     |none=>rw[q] at h2;cases h2
     |some z=>rw[q] at h2;cases h2
   · have hi':↥own<=i:=aU hi;rw[au hi'] at h1';rw[au (by simpa using hi'),aa,ak] at h2;cases q:js[i-↥own]? with
     |none=>rw[q] at h2;cases h2
     | some j=>
      rw[q] at h2;have h2':(σ[j]?).join=some v:=ax h2;have hσ:σ[j]? =some (some v):=by
       cases z:σ[j]? with
       |none=>rw[z] at h2';cases h2'
       |some w'=>rw[z] at h2';exact fN some h2'
      have hX:X.N[j]? =some x:=by have e:=fN (λl=>l[i-↥own]?) hj;rw[ak,ak,h1',q] at e;exact(ax e).symm
      have hm:(x,NameKind.free)∈scope.names:=PySem.mem_of_lookup (S.fr x (aH h1'));have dE:=S.out _ hm rfl;obtain⟨m0,hn0,hl0⟩:=I.loc;obtain⟨u,ru,l⟩:=hl0 j x v hX hσ (.inr (.inl dE));refine⟨u,ru,?_⟩;rcases l with⟨q1,_⟩|⟨_,c,e,z⟩
      · have q1':X.env.scope.names.lookup x=some .local:=q1;rw[dE] at q1';cases q1'
      · refine .inr ⟨a1y (S.fr x (aH h1')),c,a1C hm e,?_⟩;obtain⟨o,eo,d⟩:=z;exact⟨o,k c o eo,d⟩
 · obtain⟨v,o,eo,d⟩:=I.cell x c (R8 e);exact⟨v,o,k c o eo,d⟩
 · show(E9 own js σ).length=↥(own++frees);unfold E9;rw[aq,aa,aa,aq,bP]
end
variable{Q:Value->Shared->Prop}
section
def c2k:V->Option Int->Option Int->Hp->VK->Prop:=λx lo hi H Q=>∃z,x=.str z/\↥z<=sizeLine/\Q (.str (Txt.slice z lo hi)) H
theorem b6Z:SlR X c2k:=by
 intro bB s σ H x v vl vu lo hi sl Q I rx hs pl pu h;obtain⟨z,rfl,hz,q⟩:=h;obtain⟨t,rfl⟩:=rx;have cL:∀(t':Tok)(k:Nat),EP X bB σ Q (.str (Txt.slice z lo hi) t') {s with toks:=k}:=λt' k=>⟨.str _,H,I.tok _,⟨_,rfl⟩,q⟩;refine⟨"str",_,PySem.F.slot_str_getitem.lookup,typeIs_str _ _ _,?_⟩;obtain⟨o,e1,e2,e3⟩:=hs;cases pl with
 |none=>
  cases pu with
  |none=>exact gL (l:=none) (u:=none) (st:=none) ⟨o,e1,e2,e3⟩ rfl (post_val_or_str ⟨aR (hU z _ _) hz,λt' k=>cL t' k⟩)
  |int j uj=>exact gL (l:=none) (u:=some (j,uj)) (st:=none) ⟨o,e1,e2,e3⟩ rfl (post_val_or_str ⟨aR (hU z _ _) hz,λt' k=>cL t' k⟩)
 |int i ui=>
  cases pu with
  |none=>exact gL (l:=some (i,ui)) (u:=none) (st:=none) ⟨o,e1,e2,e3⟩ rfl (post_val_or_str ⟨aR (hU z _ _) hz,λt' k=>cL t' k⟩)
  |int j uj=>exact gL (l:=some (i,ui)) (u:=some (j,uj)) (st:=none) ⟨o,e1,e2,e3⟩ rfl (post_val_or_str ⟨aR (hU z _ _) hz,λt' k=>cL t' k⟩)
theorem a4n:∀l:List (Str×Tok),p7 ((l.map (·.1)).map V.str) (strValues l)
 |[]=>.nil
 |(x,t)::r=>.cons ⟨t,rfl⟩ (a4n r)
theorem a4q:∀{xs:List Str}{us:List Value},p7 (xs.map V.str) us->∃l:List (Str×Tok),us=strValues l/\l.map (·.1)=xs
 |[],us,r=>by rw[map_nil] at r;cases r;exact⟨[],rfl,rfl⟩
 | x::xs,us,r=>by
  rw[map_cons] at r;cases r with
  |cons r1 r2=>
   obtain⟨t,rfl⟩:=r1;obtain⟨l,rfl,rfl⟩:=a4q r2;exact⟨(x,t)::l,rfl,rfl⟩
def b7g:V->List V->Hp->VK->Prop:=λx vs H Q=>∃z y,x=.str z/\vs=[.str y]/\0<↥y/\↥z+2<=sizeLine/\∀p,H p=none->Q (.ref p) (upd H p (.lst ((Txt.split z y).map V.str)))
theorem b1N:MtR X "str.split" b7g:=by
 intro bB s σ H x vs v us Q I rx rv h;obtain⟨z,y,rfl,rfl,hy0,hz,q⟩:=h;obtain⟨t,rfl⟩:=rx;obtain⟨u,rfl,tu,rfl⟩:=rv.one;have hy:(↥y==0)=false:=by rw[beq_eq_false_iff_ne];ac_nf
 have cL:∀(l:List (Str×Tok))(k:Nat),l.map (·.1)=Txt.split z y->EP X bB σ Q (.ref s.heap.objs.size) {s with toks:=k,heap:=s.heap.push {cls:=.type "list",data:=.seq (strValues l).toArray}}:=λl k e=>by
  refine⟨.ref s.heap.objs.size,upd H s.heap.objs.size (.lst ((Txt.split z y).map V.str)),?_,rfl,q _ (I.hok.fresh (aj _))⟩;refine I.laid (t':=k) (λb o e=>fF _ e) (aj _) ⟨?_,strValues l,0,?_,fI _ rfl⟩
  · rw[aa];exact aR (split_le z y) hz
  · rw[←e];exact a4n l
 cases h1:(decide (↥z<↥y)||decide (strKind z<strKind y))
 · cases hf:(occurrences z y 0 ↥z (↥z+1)).isEmpty
   · have es:Txt.split z y=partsBetween z (occurrences z y 0 ↥z (↥z+1)) ↥y:=(az (ne_true_of_eq_false h1)).trans (az (ne_true_of_eq_false hf));refine hV slot_str_split (typeIs_str _ _ _) entry_str_split (args_str_split_2 _ _) (meets_str_split_sep z y t tu h1 hy hf nofun (by rw[←es];exact aR (split_le z y) hz)) ?_;show wants _ _ _ {s with toks:=_,heap:=s.heap.push {cls:=.type "list",data:=.seq (strsFrom s.toks (partsBetween z (occurrences z y 0 ↥z (↥z+1)) ↥y)).toArray}};rw[strsFrom_eq];exact cL (numbered s.toks _) _ ((numbered_texts _ _).trans es.symm)
   · exact hV slot_str_split (typeIs_str _ _ _) entry_str_split (args_str_split_2 _ _) (meets_str_split_not_found z y t tu h1 hy hf)
      (cL [(z,t)] s.toks ((az (ne_true_of_eq_false h1)).trans (ay hf)).symm)
 · exact hV slot_str_split (typeIs_str _ _ _) entry_str_split (args_str_split_2 _ _) (meets_str_split_cannot_occur z y t tu h1)
    (cL [(z,t)] s.toks (ay h1).symm)
def b4v:V->List V->Hp->VK->Prop:=λx vs H Q=>∃z y,x=.str z/\vs=[.str y]/\Q (.bl (Txt.startswith z y)) H
theorem a9O:MtR X "str.startswith" b4v:=by intro bB s σ H x vs v us Q I rx rv h;obtain⟨z,y,rfl,rfl,q⟩:=h;obtain⟨t,rfl⟩:=rx;obtain⟨u,rfl,tu,rfl⟩:=rv.one;exact call_gives PySem.F.slot_str_startswith (typeIs_str _ _ _) PySem.F.entry_str_startswith (PySem.F.args_str_startswith_2 _ _) (gives_str_startswith z y t tu) ⟨.bl _,H,I,rfl,q⟩
def b9W(K:Frag):V->List V->Hp->VK->Prop:=λx vs H Q=>∃z p ts,x=.str z/\vs=[.ref p]/\SqL K H p (ts.map V.str)/\JoinOk z ts=true/\Q (.str (Txt.join z ts)) H
theorem b5e:MtR X "str.join" (b9W X.K):=by intro bB s σ H x vs v us Q I rx rv h;obtain⟨z,p,ts,rfl,rfl,hp,hok,q⟩:=h;obtain⟨t,rfl⟩:=rx;obtain⟨u,rfl,ru⟩:=rv.one;cases ru;obtain⟨bD,r,pl,hz⟩:=I.list hp;obtain⟨l,rfl,e⟩:=a4q r;exact SC.join pl.isList e hok λt' k=>⟨.str _,H,I.tok _,⟨_,rfl⟩,q⟩
theorem a7m:∀{bs:List Bool}{us:List Value},p7 (bs.map V.bl) us->us=bs.map Value.bool
 |[],us,r=>by rw[map_nil] at r;cases r;rfl
 | b::bs,us,r=>by
  rw[map_cons] at r;cases r with
  |cons r1 r2=>
   cases r1;rw[a7m r2];rfl
theorem a9F(bs:List Bool)(p:Bool->Bool):(List.range ↥bs).all (λi=>p (bs.getD i true))=bs.all p:=by
 induction bs with
 |nil=>rfl
 |cons b r ih=>
  rw[length_cons,List.range_succ_eq_map,all_cons,all_map,all_cons,←ih];rfl
theorem a9E(bs:List Bool)(p:Bool->Bool):(List.range ↥bs).any (λi=>p (bs.getD i true))=bs.any p:=by
 induction bs with
 |nil=>rfl
 |cons b r ih=>
  rw[length_cons,List.range_succ_eq_map,any_cons,List.any_map,any_cons,←ih];rfl
theorem a4Q{s:Shared}{p:Addr}{bs:List Bool}(hc:X.calm=true)(I:Inv X bB σ H s)(hp:SqL X.K H p (bs.map V.bl)){E:Value->Shared->Prop}{f:(Nat->Bool)->Bool}
 (hq:∀s',Inv X bB σ H s'->Q (.bool (f λi=>bs.getD i true)) s'):
 wpAny (model X.prog X.w) X.A.in1 (pyIter (.ref p)) (λit dh=>∃I fp wr n P St tr,it=.ref I/\Walks X.prog X.w X.A.in1 I fp wr n P St/\St 0 dh.heap/\TruthOf X.prog X.w X.A.in1 P tr/\n=↥bs∧
  ∀h' tk,(∀b o,b∉wr->dh.heap.get? b=some o->h'.get? b=some o)->Q (.bool (f tr)) {dh with heap:=h',toks:=tk}) E s:=by
 obtain⟨bD,r,pl,hz⟩:=I.list hp;have e:=a7m r;subst e;have eZ:p≠s.heap.objs.size:=by obtain⟨o,n,e,_⟩:=pl;exact fP (fH e)
 refine hW pl.isList ⟨s.heap.objs.size,_,_,_,_,_,λi=>bs.getD i true,rfl,Walks.list (A:=X.A.in1) (I.ok.hd hc) s.heap.objs.size p eZ (bs.map Value.bool).toArray,⟨⟨_,fI _ rfl,rfl,rfl⟩,?_⟩,?_,?_,?_⟩
 · exact pl.isList.at λo e=>fF _ e
 · intro i v s' Q' E' hP hQ;have hP':(bs.map Value.bool).toArray[i]? =some v:=hP;rw[List.getElem?_toArray,ak] at hP';cases q:bs[i]? with
   |none=>rw[q] at hP';cases hP'
   |some b=>
    rw[q] at hP';cases hP';have:bs.getD i true=b:=by rw[bu,q];rfl
    have hQ':Q' b s':=this▸hQ;exact gf hQ'
 · simp
 · intro h' tk k;exact hq _ (I.kept λb o e=>k b o (by
    have:=fP (fH e)
    simpa using this) (fF _ e))
theorem b3v(hc:X.calm=true):J0 X (.builtin "all") (λxs H Q=>∃(p:Addr)(bs:List Bool),xs=[.ref p]/\SqL X.K H p (bs.map V.bl)/\Q (.bl (bs.all id)) H):=by
 intro bB s σ H xs us Q I r h;obtain⟨p,bs,rfl,hp,q⟩:=h;obtain⟨u,rfl,ru⟩:=V8 r;cases ru;refine call_all_walk (thn (a4Q (f:=λtr=>(List.range ↥bs).all tr) (Q:=EP X bB σ Q) hc I hp λs' I'=>⟨.bl (bs.all id),H,I',?_,q⟩) λit s2 zz=>?_)
 · show Value.bool _=Value.bool _;exact fN Value.bool (a9F bs id)
 · obtain⟨i,fp,wr,n,P,St,tr,e1,e2,e3,e4,e5,e6⟩:=zz;refine⟨i,fp,wr,n,P,St,tr,e1,e2,e3,e4,?_⟩;subst e5;exact e6
theorem b3u(hc:X.calm=true):J0 X (.builtin "any") (λxs H Q=>∃(p:Addr)(bs:List Bool),xs=[.ref p]/\SqL X.K H p (bs.map V.bl)/\Q (.bl (bs.any id)) H):=by
 intro bB s σ H xs us Q I r h;obtain⟨p,bs,rfl,hp,q⟩:=h;obtain⟨u,rfl,ru⟩:=V8 r;cases ru;refine call_any_walk (thn (a4Q (f:=λtr=>(List.range ↥bs).any tr) (Q:=EP X bB σ Q) hc I hp λs' I'=>⟨.bl (bs.any id),H,I',?_,q⟩) λit s2 zz=>?_)
 · show Value.bool _=Value.bool _;exact fN Value.bool (a9E bs id)
 · obtain⟨i,fp,wr,n,P,St,tr,e1,e2,e3,e4,e5,e6⟩:=zz;refine⟨i,fp,wr,n,P,St,tr,e1,e2,e3,e4,?_⟩;subst e5;exact e6
theorem a5W:J0 X (.type "int") (λxs H Q=>∃z n,xs=[.str z]/\↥z<=640/\PySem.intText? z=some n/\Q (.int n) H):=by intro bB s σ H xs us Q I r h;obtain⟨z,n,rfl,hz,hn,q⟩:=h;obtain⟨u,rfl,t,rfl⟩:=V8 r;exact PySem.W.KIN.call_text hn hz ⟨.int n,H,I.tok _,⟨_,rfl⟩,q⟩
end
section
variable{s:Shared}
theorem Inv.turnedF{t':Nat}(I:Inv X bB σ H s)(hf:∀b∈fp,a2K X bB H b)(k:∀b u,b∉fp->s.heap.get? b=some u->h'.get? b=some u):Inv X bB σ H {s with heap:=h',toks:=t'}:=by
 have nit:∀b u,H b=some u->b∉fp:=λb u e z=>by rw[(hf b z).1] at e;cases e
 refine I.step (g':=s.gens) (d':=s.drawn) (ch:=fp) (λb hb=>⟨(hf b hb).2.2.2.1,(hf b hb).2.1,(hf b hb).2.2.2.2.1,(hf b hb).2.2.2.2.2⟩) (λb o _ _ hc e _=>k b o hc e) (λb o _ _ hc e _=>⟨o.slots,k b o hc e⟩) (λ_ _ _ _ n=>n)
  (λb o hc e=>⟨o,k b o hc e⟩) (λ_ _ e=>e) (λ_ _ _ e=>e) (λb ps e=>⟨#[],by rw[e];simp⟩) (λm hm=>?_) (λb u e=>?_) I.bare
 · obtain⟨o,es,ep,ho,r⟩:=hm;exact⟨o,es,ep,k _ o (λz=>(hf _ z).2.1 rfl) ho,r⟩
 · refine(I.hok b u e).stay (λc v hc q=>k c v ?_ q) (λ_ q=>q) λ_ _ q=>q;rcases hc with z|z
   · rw[z];exact nit b u e
   · exact nit c _ z
theorem Inv.turnedN{t':Nat}{T:Addr}{o:HO}(I:Inv X bB σ H s)(hf:∀b∈fp,a2K X bB H b)(k:∀b u,b∉fp->s.heap.get? b=some u->h'.get? b=some u)(hT:s.heap.objs.size<=T)(new:D6 X.prog X.w (upd H T o) h' T o):
 Inv X bB σ (upd H T o) {s with heap:=h',toks:=t'}:=by
 have hn:H T=none:=I.hok.fresh hT;have nit:∀b u,H b=some u->b∉fp:=λb u e z=>by rw[(hf b z).1] at e;cases e
 have ne:∀b u,s.heap.get? b=some u->b≠T:=λb u e=>fP (aC (fH e) hT);have up:∀b u,H b=some u->upd H T o b=some u:=λb u e=>by rw[n0 (w6 e hn)];exact e
 refine I.step (g':=s.gens) (d':=s.drawn) (ch:=fp) (λb hb=>⟨(hf b hb).2.2.2.1,(hf b hb).2.1,(hf b hb).2.2.2.2.1,(hf b hb).2.2.2.2.2⟩) (λb u _ _ hc e _=>k b u hc e) (λb u _ _ hc e _=>⟨u.slots,k b u hc e⟩) (λb u _ e n=>by rw[n0 (ne b u e)];exact n)
  (λb u hc e=>⟨u,k b u hc e⟩) (λb xs e=>up b _ e) (λb u xs e=>up b _ e) (λb ps e=>⟨#[],by rw[up b _ e];simp⟩) (λm hm=>?_) (λb u e=>?_) I.bare
 · obtain⟨u,es,ep,ho,r⟩:=hm;exact⟨u,es,ep,k _ u (λz=>(hf _ z).2.1 rfl) ho,r⟩
 · by_cases hb:b=T
   · subst hb;rw[i7] at e;cases e;exact new
   · rw[n0 hb] at e;refine(I.hok b u e).stay (λc v hc q=>k c v ?_ q) (λc q=>up c _ q) λc xs q=>up c _ q;rcases hc with z|z
     · rw[z];exact nit b u e
     · exact nit c _ z
end
def Its(x:Str):It:=⟨λi _=>i<x.cps.size,λi H v H'=>H'=H/\∃c,x.cps[i]? =some c/\v=.str ⟨#[c]⟩,λi _=>i=x.cps.size⟩
variable{tg:Expr}
theorem a6h{K:Frag}{ty:String}(x:Str)(t:Tok)(it:Addr)(hty:["enumerate","zip","dict_itemiterator","dict_reverseitemiterator","odict_iterator","itertools.zip_longest","itertools.pairwise"].contains ty=false)
 (W:∀A:Around,A.handled=none->Walks P w A it [it] [it] x.cps.size (SignAt x) (λi h=>h.IsStrIter it ty x t i))
 (Sf:∀(A:Around)(i:Nat)(s:Shared)(Q:Value->Shared->Prop)(E:Value->Shared->Prop),s.heap.IsStrIter it ty x t i->Q (.ref it) s->wpAny (model P w) A (pyIter (.ref it)) Q E s):Turn P w K tg (Its x) [it] it (λi h=>h.IsStrIter it ty x t i) where
 mem:=by simp
 obj:=λi h st b hb=>by
  have e:b=it:=by simpa using hb
  subst e;obtain⟨o,e,c,d⟩:=st;exact⟨o,e,λv z=>by rw[d] at z;cases z⟩
 keep:=λi h h' st k=>let⟨o,e,r⟩:=st;⟨o,k it ⋯ o e,r⟩
 item:=by intro X hP hw hK hc i bB s σ H E I hf st hg;subst hP hw hK;refine(W X.A (I.ok.hd hc)).item i s _ _ hg st λv h' tk hv eh kk=>?_;obtain⟨c,u,hcx,rfl⟩:=hv;have I1:Inv X bB σ H {s with heap:=h',toks:=tk}:=I.turnedF hf λb o hb e=>kk b o hb e;obtain⟨o,e,hcl,d⟩:=id eh;exact⟨_,rfl,a6S (s:={s with heap:=h',toks:=tk}) e hcl d hty ⟨.str ⟨#[c]⟩,H,I1,⟨u,rfl⟩,⟨rfl,c,hcx,rfl⟩,eh,λb hb=>(hf b hb).1⟩⟩
 done:=by intro X hP hw hK hc i bB s σ H E I hf st hg;subst hP hw hK;have hg':i=x.cps.size:=hg;subst hg';exact(W X.A (I.ok.hd hc)).done s _ _ st λh' tk k=>⟨rfl,I.turnedF (t':=tk) hf λb o hb e=>k b o hb e⟩
 self:=λA i s Q E st h=>Sf A i s Q E st h
variable{tb:TS}
section
def c2B(tl:TE):TI:=λσ H R=>tl σ H λx H1=>∃z,x=.str z/\R (Its z) H1
theorem b7r{l:Expr}{tl:TE}(hl:PE X l tl):PI X tg l (c2B tl):=by
 intro bB s σ H R I h;refine thn (hl bB s σ H _ I h) λv s1 zz=>?_;obtain⟨x,H1,I1,r1,z,e,q⟩:=zz;subst e;obtain⟨t,rfl⟩:=r1;have fp:∀b∈[s1.heap.objs.size],a2K X bB H1 b:=λb hb=>by
  have e:b=s1.heap.objs.size:=by simpa using hb
  subst e;exact I1.fpOk (aj _) (I1.hok.fresh (aj _))
 cases ha:z.cps.all (· <128)
 · exact wpAny_pyIter_wide ha ⟨s1.heap.objs.size,[s1.heap.objs.size],_,_,H1,rfl,I1.kept (t':=s1.toks) λb o e=>fF _ e,a6h (ty:="str_iterator") z t _ ∅ (λA hA=>Walks.strWide hA _ z t) (λA i s Q E st h=>wpAny_pyIter_striter_wide st h),
    ⟨_,fI _ rfl,rfl,rfl⟩,fp,q⟩
 · exact wpAny_pyIter_ascii ha ⟨s1.heap.objs.size,[s1.heap.objs.size],_,_,H1,rfl,I1.kept (t':=s1.toks) λb o e=>fF _ e,a6h (ty:="str_ascii_iterator") z t _ ∅ (λA hA=>Walks.strAscii hA _ z t) (λA i s Q E st h=>wpAny_pyIter_striter_ascii st h),
    ⟨_,fI _ rfl,rfl,rfl⟩,fp,q⟩
end
noncomputable def Ite(K:Frag)(l:Addr):It:=⟨λi H=>∃xs x,SqL K H l xs/\xs[i]? =some x,λi H v H'=>∃T x,H T=none/\v=.ref T/\(∀xs,SqL K H l xs->xs[i]? =some x)/\H'=upd H T (.tup [.int i,x]),λi H=>∃xs,SqL K H l xs/\↥xs<=i⟩
variable{dN:List Expr}
theorem a9u{k:Nat}(e it l:Addr)(hei:e≠it):
 Turn P w K (.Tuple dN k pos) (Ite K l) [e,it] e (λi h=>(∃eM,IsEnum h e it i eM)/\h.IsListIter it l i) where
 mem:=by simp
 obj :=λi h st b hb=>by
  obtain⟨⟨eM,he⟩,o,e1,c,d⟩:=st;rcases aF.mp hb with z|z
  · subst z;exact⟨_,he,λv z=>by have z':Data.fields _=Data.cell v:=z;cases z'⟩
  · have z':b=it:=by simpa using z
    subst z';exact⟨o,e1,λv z=>by rw[d] at z;cases z⟩
 keep:=λi h h' st k=>by obtain⟨⟨eM,he⟩,em⟩:=st;exact⟨⟨eM,k e ⋯ _ he⟩,em.at λo x=>k it ⋯ o x⟩
 item:=by
  intro X hP hw hK hc i bB s σ H E I hf st hg;subst hP hw hK;obtain⟨⟨eM,he⟩,em⟩:=st;obtain⟨xs,x,hq,hx⟩:=hg;obtain⟨bD,rv,p,hz⟩:=I.list hq;obtain⟨u,hu,ru⟩:=rv.get hx;have helt:e<s.heap.objs.size:=fH he;refine wpAny_pyNext_enum_item he em p.isList (x:=u) (by simpa using hu) hei λh' ho hit' hT hsz hk=>?_;refine⟨_,rfl,wpAny_letOwnedTupleGo_enum ho λh2 he2 hs2=>?_⟩;have kk:∀b o,b∉[e,it]->s.heap.get? b=some o->h2.get? b=some o:=λb o hb q=>by have h1:b≠e:=λz=>hb (by simp[z]);have h2':b≠it:=λz=>hb (by simp[z]);exact(hs2.2 b h1).trans (hk b o h1 h2' q)
  have hT2:h2.get? s.heap.objs.size=some {cls:=.type "tuple",data:=.seq #[.int i s.toks,u]}:=(hs2.2 _ (gF helt)).trans hT;have I1:Inv X bB σ (upd H s.heap.objs.size (.tup [.int i,x])) {s with heap:=h2,toks:=s.toks+1}:=
   I.turnedN (fp:=[e,it]) hf kk (aj _) ⟨by show 2<=sizeLine;decide,[.int i s.toks,u],.cons ⟨_,rfl⟩ (.cons ru .nil),_,hT2,rfl,rfl,_,rfl⟩
  refine⟨.ref s.heap.objs.size,_,I1,rfl,⟨s.heap.objs.size,x,I.hok.fresh (aj _),rfl,λys hy=>by rw[I.list_inj hy hq];exact hx,rfl⟩,⟨⟨_,by simpa using he2⟩,hit'.at λo x=>(hs2.2 it (fR hei)).trans x⟩,λb hb=>?_⟩;have hbs:b<s.heap.objs.size:=by
   rcases aF.mp hb with z|z
   · rw[z];exact helt
   · have z':b=it:=by simpa using z
     rw[z'];obtain⟨o,e1,_⟩:=em;exact fH e1
  rw[n0 (fP hbs)];exact(hf b hb).1
 done:=by intro X hP hw hK hc i bB s σ H E I hf st hg;subst hP hw hK;obtain⟨⟨eM,he⟩,em⟩:=st;obtain⟨xs,hq,hx⟩:=hg;obtain⟨bD,rv,p,hz⟩:=I.list hq;have hl:=↥rv;exact wpAny_pyNext_enum_end (I.ok.hd hc) he em p.isList (by simp;ac_nf) λh' eb=>⟨rfl,I.turnedF (t':=s.toks) hf λb o hb q=>eb b o (λz=>hb (by simp[z])) q⟩
 self:=λA i s Q E st h=>by obtain⟨⟨eM,he⟩,_⟩:=st;exact wpAny_pyIter_enum he h
variable{ta:TA}{p:Pos}
section
variable{k:Nat}{ef:Pos}
def c0z(K:Frag)(ta:TA):TI:=λσ H R=>ta σ H λvs H1=>∃l xs,vs=[.ref l]/\SqL K H1 l xs/\R (Ite K l) H1
theorem b4K{a:Expr}(hg:Gl X "enumerate")(hm:X.mg "enumerate"=none)(ha:PA X [a] ta)(hs:starEach [a] X.env=[(false,eval a X.env)]:=by rfl):
 PI X (.Tuple dN k ef) (.Call (.Name "enumerate" p) [a] [] pos) (c0z X.K ta):=by
 intro bB s σ H R I h;refine Call_ (a0i I hg hm boot_enumerate (gi (thn (ha pos bB s σ H _ I h) λus s1 zz=>?_) hs rfl));obtain⟨vs,H1,I1,r1,q1⟩:=zz;obtain⟨l,xs,e,hq,q⟩:=q1;subst e;obtain⟨u,rfl,ru⟩:=V8 r1;cases ru;obtain⟨bD,rv,pl,hz⟩:=I1.list hq;refine call_enumerate_list pl.isList λh' he em hsz hk=>?_;have I2:Inv X bB σ H1 {s1 with heap:=h'}:=I1.kept (t':=s1.toks) hk;refine wpAny_pyIter_enum he ⟨s1.heap.objs.size+1,[s1.heap.objs.size+1,s1.heap.objs.size],_,_,H1,rfl,I2,a9u (s1.heap.objs.size+1) s1.heap.objs.size l (gF (aT _)),⟨⟨_,he⟩,em⟩,λb hb=>?_,q⟩;have hb':s1.heap.objs.size<=b:=by
  rcases aF.mp hb with z|z
  · rw[z];exact Nat.le_succ _
  · have z':b=s1.heap.objs.size:=by simpa using z
    rw[z'];exact aj _
 exact I1.fpOk hb' (I1.hok.fresh hb')
end
section
def c2p(K:Frag):List V->Hp->VK->Prop:=λxs H Q=>∃x T t b,xs=[x,.ty T]/\TyOf K H x t/\kitOne K t (.type T)=some b/\Q (.bl b) H
theorem b3t:J0 X (.builtin "isinstance") (c2p X.K):=by intro bB s σ H xs us Q I r h;obtain⟨x,T,t,b,rfl,ty,e,q⟩:=h;obtain⟨u1,u2,rfl,ru1,ru2⟩:=a4p r;cases ru2;exact a9W I ru1 ty e λtk=>⟨.bl b,H,I.tok _,rfl,q⟩
end
def b9x:TT:=λ_ H Q=>Q true H
theorem b7p:a7p X [] b9x:=b4G
noncomputable def b8O(sc scope:Scope)(own frees:List Str):Bool:=
 decide (scope.kind=.function)&&scope.names.all (λy=>decide (y.2≠.cell))&&scope.names.all (λy=>decide (y.2=.local->scope.names.lookup y.1=some .local))&&
 scope.names.all (λy=>decide (y.2=.free->sc.names.lookup y.1=some .cell))&&decide ((own++frees).Nodup)&&own.all (λx=>decide (scope.names.lookup x=some .local))&&frees.all (λx=>decide (scope.names.lookup x=some .free))
variable{sc:Scope}
theorem c1i{own frees:List Str}(h:b8O sc scope own frees=true):CompScope sc scope own frees:=by unfold b8O at h;simp only[ae,bv,bm] at h;obtain⟨⟨⟨⟨⟨⟨a,b⟩,c⟩,d⟩,e⟩,f⟩,g⟩:=h;exact⟨a,b,c,d,e,f,g⟩
variable{cV:Pos}
section
variable{cM:Expr}{ifs:List Expr}{own frees:List Str}{js:List Nat}{wi:TI}{g:TG}{tc:TT}{te:TE}
theorem a4O{s:Shared}{Q:VK}{RR:Value->Addr->Result->Shared->Prop}(dr:X.calm=true)(hi:PI X tg iter wi)(S:CompScope X.env.scope scope own frees)(hj:frees.map some=js.map (X.N[·]?))
 (hg:∀C s₀ H₀ ex,PG (v0 X own frees scope C s₀ H₀ ex) tg g) (hc:∀C s₀ H₀ ex,a7p (v0 X own frees scope C s₀ H₀ ex) ifs tc) (he:∀C s₀ H₀ ex,PE (v0 X own frees scope C s₀ H₀ ex) cM te)
 (I:Inv X bB σ H s) (h:a8p own js wi g tc te σ H Q)
 (cL:∀D C s5 H4 m5,Inv X bB σ H4 s5->s5.heap.Ns C m5->H4 C=none->X.s₀.heap.objs.size<=C->C≠X.env.locals->(∀x c,X.env.cells.lookup x=some c->c≠C)->(∀p∈X.pn++bB,p.1≠C)->Q (.ref D) H4->RR (.ref D) C (.ok .next) s5):
 wpAny (model X.prog X.w) X.A (eval iter X.env) (λv s1=>wpAny (model X.prog X.w) X.A (pyIter v) (λit s2=>wpAny (model X.prog X.w) X.A (newList []) (λbM s3=>
  wpAny (model X.prog X.w) X.A (newFunctionEnv scope X.env.globals (L1 X.env.cells scope.names []) [] X.env.qual none .none (some X.env)) (λcenv s4=>
   codeAny (model X.prog X.w) X.A (.compStart (.ListComp cM [⟨tg,iter,ifs,0⟩] scope pos) 0 it bM {cenv with scope:=relabel scope X.env}) (RR bM cenv.locals) s4) X.xe s3) X.xe s2) X.xe s1) X.xe s:=by
 refine thn (hi bB s σ H _ I h) λv s1 h1=>thn h1 λitv s2 h2=>?_;obtain⟨it,fp,tn,J,H2,e,I2,T,st2,f2,R2⟩:=h2;subst e;have hD:H2 s2.heap.objs.size=none:=I2.hok.fresh (aj _);obtain⟨W,⟨m0,w0⟩,ee⟩:=R2 s2.heap.objs.size hD;have hcells:∀x c,X.env.cells.lookup x=some c->c<s2.heap.objs.size:=λx c e=>by obtain⟨v,z⟩:=I2.cell x c e;exact z.lt
 refine gP (wpAny_newFunctionEnv S.nocell (by intro y hy;simp at hy) (λdR ek dM=>?_) S.kind)
 dsimp only at ek dM⊢
 generalize hHH:s2.heap.push {cls:=.type "list",dict:=none,data:=.seq ([]:List Value).toArray}=HH at ek dM⊢;have hC:HH.objs.size=s2.heap.objs.size+1:=by rw[←hHH,gu]
 have hCle:s2.heap.objs.size<=HH.objs.size:=by rw[hC];exact Nat.le_succ _
 have hDC:s2.heap.objs.size≠HH.objs.size:=by rw[hC];exact fP (aT _)
 have neC:∀b,b<s2.heap.objs.size->b≠HH.objs.size:=λb hb=>by rw[hC];exact fP (Nat.lt_succ_of_lt hb)
 have eM:∀b o,s2.heap.get? b=some o->dR.get? b=some o:=λb o e=>dM.extBut b o (neC b (fH e)) (fF _ (hHH▸fF _ e));have accAt:dR.get? s2.heap.objs.size=some {cls:=.type "list",dict:=none,data:=.seq ([]:List Value).toArray}:=dM.extBut _ _ hDC (fF _ (hHH▸fI _ rfl));have hfo:∀b∈fp,∃o,s2.heap.get? b=some o:=λb hb=>let⟨o,e,_⟩:=T.obj _ _ st2 b hb;⟨o,e⟩;have hnD:∀b,b<s2.heap.objs.size->upd H2 s2.heap.objs.size (.lst []) b=H2 b:=λb hb=>n0 (fP hb);have hok1:HOk X.prog X.w (upd H2 s2.heap.objs.size (.lst [])) dR:=I2.hok.laid eM (aj _) ⟨gd _,[],0,.nil,accAt⟩;have I3:∀s3:Shared,s3={s2 with heap:=dR,toks:=s2.toks+↥([]:List (Str×Value))}->Inv (v0 X own frees scope HH.objs.size s2 H2 fp) [] (E9 own js σ) (upd H2 s2.heap.objs.size (.lst [])) s3:=by
  rintro s3 rfl;refine b3q I2 S hj hCle f2 hfo rfl I2.bare eM (Un.laid eM (aj _) hD) ek ?_ hok1 (λx c e=>?_)
  · rw[n0 (fR hDC)];exact I2.hok.fresh hCle
  · rw[hnD c (hcells x c e)];exact I2.freeC x c e
 -- what stays true of the iterator's objects
 have stat:∀{H':Hp},(∀b∈fp,H' b=none)->∀b∈fp,a2K (v0 X own frees scope HH.objs.size s2 H2 fp) [] H' b:=fun{H'} hn b hb=>by
  obtain⟨o,q⟩:=hfo b hb;refine⟨hn b hb,neC b (fH q),λhm=>?_,.inl hb,λx c e=>(f2 b hb).2.2.2.2.1 x c (R8 e),λp hp=>absurd (show p∈([]:List (Addr×Obj)) from hp) ⋯⟩;rcases aF.mp (I2.stkSub b hm) with z|z
  · exact(f2 b hb).2.1 z
  · exact(f2 b hb).2.2.1 z
 have loop:∀s3:Shared,s3={s2 with heap:=dR,toks:=s2.toks+↥([]:List (Str×Value))}→
  codeAny (model X.prog X.w) X.A (.compLoop (.ListComp cM [⟨tg,iter,ifs,0⟩] scope pos) 0 (.ref it) (.ref s2.heap.objs.size) (compEnvC scope (L1 X.env.cells scope.names []) HH.objs.size X.env))
   (RR (.ref s2.heap.objs.size) HH.objs.size) s3:=by
  intro s3 dZ;refine a5R (λn s'=>∃i ys H',Inv (v0 X own frees scope HH.objs.size s2 H2 fp) [] (E9 own js σ) H' s'/\tn i s'.heap/\(∀b∈fp,H' b=none)/\W i n ys H') ?_ m0
   ⟨0,[],_,I3 s3 dZ,T.keep _ _ _ st2 (λb hb o e=>by rw[dZ];exact eM b o e),λb hb=>by obtain⟨o,q⟩:=hfo b hb;rw[hnD b (fH q)];exact(f2 b hb).1,w0⟩
  rintro n s4 ⟨i,ys,H4,I4,st4,fr4,w4⟩;rcases ee i n ys H4 w4 with⟨stop,qn⟩|⟨go,step⟩
  · refine thn (T.done (v0 X own frees scope HH.objs.size s2 H2 fp) rfl rfl rfl dr i [] s4 (E9 own js σ) H4 _ I4 (stat fr4) st4 stop) λr s5 zz=>?_;obtain⟨hr,I5⟩:=zz;subst hr;obtain⟨m5,hn5,_⟩:=I5.loc;have ub:Un (frs X.stack) fp H2 H4 s2.heap s5.heap:=I5.base;refine cL _ _ s5 H4 m5 (I2.call' (ch:=fp) I5.os ub I5.hok I5.bare λb hb=>⟨(f2 b hb).2.2.2.1,(f2 b hb).2.1,(f2 b hb).2.2.2.2.1,(f2 b hb).2.2.2.2.2⟩) hn5 I5.free (aR I2.sz hCle) ?_ ?_ ?_ qn
    · exact fR (neC _ I2.lt)
    · exact λx c e=>neC c (hcells x c e)
    · exact λp hp=>neC _ (fH (I2.pin p hp).1)
  · refine thn (T.item (v0 X own frees scope HH.objs.size s2 H2 fp) rfl rfl rfl dr i [] s4 (E9 own js σ) H4 _ I4 (stat fr4) st4 go) λr s5 zz=>?_;obtain⟨u,hr,h5⟩:=zz;subst hr;refine thn h5 λ_ s6 zz=>?_;obtain⟨x,H6,I6,r6,y6,st6,fr6⟩:=zz;have I6':=I6.pinned (stat fr6) (T.obj _ _ st6);refine thn (hg _ _ _ _ _ s6 _ H6 x u _ I6' r6 (step x H6 y6)) λ_ s7 zz=>?_;obtain⟨dX,H7,I7,wk7,q7⟩:=zz;refine thn (hc _ _ _ _ _ s7 dX H7 _ I7 q7) λb s8 zz=>?_;obtain⟨H8,I8,q8⟩:=zz;have again:∀{s9:Shared}{H9:Hp}{zs:List V},Inv (v0 X own frees scope HH.objs.size s2 H2 fp) ([]++a3v fp s6.heap) dX H9 s9->(∃m',m'<n/\W (i+1) m' zs H9)→
     ∃m,m<n/\∃i ys H',Inv (v0 X own frees scope HH.objs.size s2 H2 fp) [] (E9 own js σ) H' s9/\tn i s9.heap/\(∀b∈fp,H' b=none)/\W i m ys H':=fun{s9 H9 zs} I9 ⟨m',hm,w9⟩=>by
     refine⟨m',hm,i+1,zs,H9,(I9.weak wk7.1 wk7.2).unpinned,T.keep _ _ _ st6 λb hb o e=>(I9.pin (b,o) (mem_append_right _ (mem_append_right _ (X5 hb e)))).1,λb hb=>?_,w9⟩;obtain⟨o,e,d⟩:=T.obj _ _ st6 b hb;exact(I9.pin (b,o) (mem_append_right _ (mem_append_right _ (X5 hb e)))).2.1
    cases b with
    |false=>
     rw[az bq] at q8⊢;exact again I8 q8
    | true=>
     rw[ay rfl] at q8⊢;refine thn (he _ _ _ _ _ s8 dX H8 _ I8 q8) λy s9 zz=>?_;obtain⟨v9,H9,I9,r9,hD9,hz9,q9⟩:=zz;refine thn (a4A (X:=v0 X own frees scope HH.objs.size s2 H2 fp) _ s9 dX H9 (.ref s2.heap.objs.size) [v9] (.ref s2.heap.objs.size) [y] (λ_ H'=>∃m',m'<n/\W (i+1) m' (ys++[v9]) H') I9 rfl (.cons r9 .nil)
      ⟨_,ys,v9,rfl,rfl,hD9,hz9,q9⟩) λ_ s10 ⟨_,H10,I10,_,q10⟩=>?_
     exact again I10 q10
 exact codeAny_compStart_list (loop _ rfl) (T.self _ 0 _ _ _ (T.keep _ _ _ st2 λb hb o e=>eM b o e) (loop _ rfl))
theorem a6y(dr:X.calm=true)(hi:PI X tg iter wi)(S:CompScope X.env.scope scope own frees)(hj:frees.map some=js.map (X.N[·]?))
 (hg:∀C s₀ H₀ ex,PG (v0 X own frees scope C s₀ H₀ ex) tg g) (hc:∀C s₀ H₀ ex,a7p (v0 X own frees scope C s₀ H₀ ex) ifs tc) (he:∀C s₀ H₀ ex,PE (v0 X own frees scope C s₀ H₀ ex) cM te)
 (hs:∀x,foldedSetIterable iter X.env x=pure x):PE X (.ListComp cM [⟨tg,iter,ifs,0⟩] scope pos) (a8p own js wi g tc te):=by
 intro bB s σ H Q I h;rw[eval_ListComp];have hcl:closureFor scope X.env=pure (L1 X.env.cells scope.names []):=a0X λy hy e=>I.ok.has y.1 (.inl (S.out y hy e));refine wpAny_comprehension_free (use:=none) rfl hs hcl S.kind S.locs (a4O dr hi S hj hg hc he I h λD C s5 H4 m5 I5 hn5 c1 c2 c3 c4 c5 q=>?_);exact⟨m5,hn5,λh' dA=>⟨.ref D,H4,I5.turned (t':=s5.toks) (λb o hb e=>(dA.2 b hb).trans e) c1 (fR (fR c3)) (.inr c2) c4 c5,rfl,q⟩⟩
theorem b4B{i:Nat}{spos:Pos}(dr:X.calm=true)(hi:PI X tg iter wi)(S:CompScope X.env.scope scope own frees)(hj:frees.map some=js.map (X.N[·]?))
 (hg:∀C s₀ H₀ ex,PG (v0 X own frees scope C s₀ H₀ ex) tg g) (hc:∀C s₀ H₀ ex,a7p (v0 X own frees scope C s₀ H₀ ex) ifs tc) (he:∀C s₀ H₀ ex,PE (v0 X own frees scope C s₀ H₀ ex) cM te)
 (hs:∀x,foldedSetIterable iter X.env x=pure x) (hN:X.N.Nodup) (hix:X.N[i]? =some x) (hx:Loc X.env.scope x) (hf:X.fn x=true∨X.env.scope.names.lookup x=some .local):
 PS X (.Assign [.Name x cV] (.ListComp cM [⟨tg,iter,ifs,0⟩] scope pos) spos) (b6W (a8p own js wi g tc te) (b2D i)):=by
 obtain⟨b,hb⟩:∃b,swapsWith (.ListComp cM [⟨tg,iter,ifs,0⟩] scope pos) (some (.Name x cV)) spos.line X.env=pure b:=⟨_,rfl⟩;cases b with
 |false=>exact b1l hN hix hx (a6y dr hi S hj hg hc he hs) hb hf
 | true=>
  intro bB s σ H Dn I h;rw[exec_Assign_Name_used _ _ _ _ hb];have hcl:closureFor scope X.env=pure (L1 X.env.cells scope.names []):=a0X λy hy e=>I.ok.has y.1 (.inl (S.out y hy e));refine fv (wpAny_standAt (fv ?_));show wpAny _ X.A (do let _←comprehension (.ListComp cM [⟨tg,iter,ifs,0⟩] scope pos) scope X.env _ (newList []) false (eval iter X.env) (some (assign (.Name x cV) X.env))) _ _ s;refine fv (gy (wpAny_comprehension_free (use:=some (assign (.Name x cV) X.env)) (Q:=λ_ s'=>SP X bB Dn .next s') rfl hs hcl S.kind S.locs
   (a4O dr hi S hj hg hc he I h λD C s5 H4 m5 I5 hn5 c1 c2 c3 c4 c5 q=>?_)) (λ_ s' hq=>fG (fG hq)) λ_ _ e=>e)
  show wpAny _ X.A (assign (.Name x cV) X.env (.ref D)) _ _ s5;refine wpAny_assign_Name (a4r (v:=.ref D) I5 hN hix hx rfl (λs6 I6 zz=>?_) hf);obtain⟨a,sb,ea⟩:=zz;have hCa:C≠a:=λz=>by
   rcases ea with y|y
   · exact c3 (z.trans y)
   · exact c4 x a y z.symm
  exact⟨m5,hn5.sameBut sb hCa,λh' dA=>⟨_,H4,I6.turned (t':=s6.toks) (λb o hb e=>(dA.2 b hb).trans e) c1 c3 (.inr c2) c4 c5,q⟩⟩
end
noncomputable def Itz(K:Frag)(l1 l2:Addr):It:=⟨λi H=>∃xs ys x y,SqL K H l1 xs/\SqL K H l2 ys/\xs[i]? =some x/\ys[i]? =some y,
 λi H v H'=>∃T x y,H T=none/\v=.ref T/\(∀xs,SqL K H l1 xs->xs[i]? =some x)/\(∀ys,SqL K H l2 ys->ys[i]? =some y)/\H'=upd H T (.tup [x,y]),
 λi H=>∃xs ys,SqL K H l1 xs/\SqL K H l2 ys/\(↥xs<=i∨↥ys<=i)⟩
theorem b0x{k:Nat}(z TI TO i1 i2 l1 l2:Addr)(D:ZipApart z TI TO i1 i2 l1 l2):
 Turn P w K (.Tuple dN k pos) (Itz K l1 l2) [z,TI,TO,i1,i2] z (λi h=>IsZip h z TI TO .none/\IsPair h TI (.ref i1) (.ref i2)/\(∃a b,IsPair h TO a b)/\h.IsListIter i1 l1 i/\h.IsListIter i2 l2 i) where
 mem:=by simp
 obj:=λi h st b hb=>by
  obtain⟨hz,ce,⟨a,c,cp⟩,⟨o1,e1,c1,d1⟩,⟨o2,e2,c2,d2⟩⟩:=st;simp only[aF,not_mem_nil,gA] at hb;rcases hb with rfl|rfl|rfl|rfl|rfl
  · exact⟨_,hz,λv q=>by have q':Data.fields _=Data.cell v:=q;cases q'⟩
  · exact⟨_,ce,λv q=>by have q':Data.seq _ _=Data.cell v:=q;cases q'⟩
  · exact⟨_,cp,λv q=>by have q':Data.seq _ _=Data.cell v:=q;cases q'⟩
  · exact⟨o1,e1,λv q=>by rw[d1] at q;cases q⟩
  · exact⟨o2,e2,λv q=>by rw[d2] at q;cases q⟩
 keep:=λi h h' st k=>by obtain⟨hz,ce,⟨a,c,cp⟩,h1,h2⟩:=st;exact⟨k z ⋯ _ hz,k TI ⋯ _ ce,⟨a,c,k TO ⋯ _ cp⟩,h1.at λo x=>k i1 ⋯ o x,h2.at λo x=>k i2 ⋯ o x⟩
 item:=by
  intro X hP hw hK hc i bB s σ H E I hf st hg;subst hP hw hK;obtain⟨hz,ce,⟨a,c,cp⟩,h1,h2⟩:=st;obtain⟨xs,ys,x,y,hq1,hq2,hx,hy⟩:=hg;obtain⟨bD,rv,p,hz1⟩:=I.list hq1;obtain⟨its',rv',p',eN⟩:=I.list hq2;obtain⟨u,hu,ru⟩:=rv.get hx;obtain⟨u',hu',ru'⟩:=rv'.get hy;have hzlt:z<s.heap.objs.size:=fH hz;refine wpAny_pyNext_zip_item D hz ce cp h1 h2 p.isList p'.isList (x:=u) (y:=u') (by simpa using hu) (by simpa using hu') λh' a1 a2 a3 a4 a5 a6 hk=>?_;refine⟨_,rfl,wpAny_letOwnedTupleGo_zip a1 λh3 hz3 dZ=>?_⟩;have kk:∀b o,b∉[z,TI,TO,i1,i2]->s.heap.get? b=some o->h3.get? b=some o:=λb o hb q=>by have n1:b≠z:=λw=>hb (by simp[w]);exact(dZ.2 b n1).trans (hk b o n1 (λw=>hb (by simp[w])) (λw=>hb (by simp[w])) (λw=>hb (by simp[w])) q)
  have hT3:h3.get? s.heap.objs.size=some {cls:=.type "tuple",data:=.seq #[u,u']}:=(dZ.2 _ (gF hzlt)).trans a5;have I1:Inv X bB σ (upd H s.heap.objs.size (.tup [x,y])) {s with heap:=h3,toks:=s.toks}:=
   I.turnedN (fp:=[z,TI,TO,i1,i2]) hf kk (aj _) ⟨by show 2<=sizeLine;decide,[u,u'],.cons ru (.cons ru' .nil),_,hT3,rfl,rfl,_,rfl⟩
  refine⟨.ref s.heap.objs.size,_,I1,rfl,⟨s.heap.objs.size,x,y,I.hok.fresh (aj _),rfl,λzs hy=>by rw[I.list_inj hy hq1];exact hx,λzs hy'=>by rw[I.list_inj hy' hq2];exact hy,rfl⟩,
   ⟨hz3,(dZ.2 _ D.TIz).trans (hk _ _ D.TIz D.TITO D.TIi1 D.TIi2 ce),⟨_,_,(dZ.2 _ D.TOz).trans a2⟩,a3.at λo x=>(dZ.2 _ D.i1z).trans x,a4.at λo x=>(dZ.2 _ D.i2z).trans x⟩,λb hb=>?_⟩
  have hbs:b<s.heap.objs.size:=by
   obtain⟨o1,e1,_⟩:=h1;obtain⟨o2,e2,_⟩:=h2;simp only[aF,not_mem_nil,gA] at hb;rcases hb with rfl|rfl|rfl|rfl|rfl
   · exact hzlt
   · exact fH ce
   · exact fH cp
   · exact fH e1
   · exact fH e2
  rw[n0 (fP hbs)];exact(hf b hb).1
 done:=by
  intro X hP hw hK hc i bB s σ H E I hf st hg;subst hP hw hK;obtain⟨hz,ce,⟨a,c,cp⟩,h1,h2⟩:=st;obtain⟨xs,ys,hq1,hq2,hx⟩:=hg;obtain⟨bD,rv,p,hz1⟩:=I.list hq1;obtain⟨its',rv',p',eN⟩:=I.list hq2;have hl:=↥rv;have hl':=↥rv';refine wpAny_pyNext_zip_end (I.ok.hd hc) D hz ce cp h1 h2 p.isList p'.isList ?_ λh' eb=>⟨rfl,I.turnedF (t':=s.toks) hf λb o hb q=>eb b o (λz=>hb (by simp[z])) (λz=>hb (by simp[z])) (λz=>hb (by simp[z])) (λz=>hb (by simp[z])) q⟩;rcases hx with hx|hx
  · exact .inl (by simp;ac_nf)
  · exact .inr (by simp;ac_nf)
 self:=λA i s Q E st h=>gS st.1 h
section
variable{k:Nat}{ef:Pos}
def c2z(K:Frag)(ta:TA):TI:=λσ H R=>ta σ H λvs H1=>∃l1 l2 xs ys,vs=[.ref l1,.ref l2]/\SqL K H1 l1 xs/\SqL K H1 l2 ys/\R (Itz K l1 l2) H1
end
def F8(n:Nat)(x:Str):Str:=⟨(List.replicate n x.cps).foldl (· ++ ·) #[]⟩
theorem a4G(x:Array Nat):∀(n:Nat)(a:Array Nat),((List.replicate n x).foldl (· ++ ·) a).toList=a.toList++(List.replicate n x.toList).flatten
 |0,a=>by simp
 |n+1,a=>by rw[replicate_succ,foldl_cons,a4G x n,replicate_succ,List.flatten_cons];simp
theorem a6j(n:Nat)(x:Str):(F8 n x).cps.toList=(List.replicate n x.cps.toList).flatten:=by unfold F8;rw[a4G];simp
theorem a3j(n:Nat)(x:Str):↥(F8 n x)=↥x*n:=by show(F8 n x).cps.size=x.cps.size*n;rw[←Array.length_toList,a6j];simp[List.length_flatten,Nat.mul_comm]
theorem a7y(x:Str):F8 1 x=x:=by unfold F8;simp
theorem a7z(n:Nat)(x:Str)(h:↥x=0):F8 n x=x:=by
 have h1:(F8 n x).cps.size=0:=by have:=a3j n x;rw[h,Nat.zero_mul] at this;exact this
 have h2:x.cps.size=0:=h;have e1:=Array.eq_empty_of_size_eq_zero h1;have e2:=Array.eq_empty_of_size_eq_zero h2;cases x;simp only at e2;subst e2;generalize hq:F8 n ⟨#[]⟩=q at e1;cases q;simp only at e1;rw[e1]
variable{us:List Value}
section
def b9V:R2:=λx y H Q=>∃t k,x=.str t/\y=.int k/\ -(2^63)<=k/\k<2^63/\↥t*k.toNat<=sizeLine/\Q (.str (F8 k.toNat t)) H
theorem b4U:OpR X (binaryOp .Mult) b9V:=by
 intro bB s σ H x y v u Q I rx ry h;obtain⟨t,k,rfl,rfl,h1,h2,h3,q⟩:=h;obtain⟨a,rfl⟩:=rx;obtain⟨b,rfl⟩:=ry;refine P.mul_str ?_ ?_ ?_ ?_
 · rw[bw nofun,bw nofun];rfl
 · intro h4 h5 h6;have hk:0<k:=by ac_nf
   have h8:(↥t:Int)*k<=2^62:=by have h9:((↥t*k.toNat:Nat):Int)<=((sizeLine:Nat):Int):=Int.ofNat_le.mpr h3;rw[Int.natCast_mul,Int.toNat_of_nonneg nofun,gX] at h9;exact Int.le_trans h9 ∅
   have h7:(↥t:Int)<=(2^63-1)/k:=by rw[Int.le_ediv_iff_mul_le hk];ac_nf
   ac_nf
 · intro h4 h5;simp only[tooLong,decide_eq_false_iff_not];ac_nf
 · by_cases c1:k<1
   · rw[ay c1];have:k.toNat=0:=by ac_nf
     rw[this] at q;exact⟨gd _,.str _,H,I.tok _,⟨_,rfl⟩,q⟩
   · rw [az c1]
     by_cases c2:(k==1||↥t==0)=true
     · rw [ay c2];have e:F8 k.toNat t=t:=by
        rw[bp] at c2;rcases c2 with c|c
        · have:k=1:=by simpa using c
          subst this;exact a7y t
        · exact a7z _ _ (by simpa using c)
       rw[e] at q;exact⟨.str _,H,I,⟨_,rfl⟩,q⟩
     · rw[az c2];refine⟨?_,.str _,H,I.tok _,⟨_,rfl⟩,q⟩;show(F8 k.toNat t).length<=sizeLine;rw[a3j];exact h3
end
end L2
namespace PySem
open Sem (wp)
theorem a5x:typeLookup (.type "list") "keys"=pure none:=by rw[typeLookup_type,builtinLookup_eq_fast];kernel_rfl
variable{A:Around}{xs:Array Value}
theorem a9Q{prog:Program}{w:World}{E:Value->Shared->Prop}{s:Shared}{a:Addr}{o:Obj}{k:Nat}{Q:Option Value->Shared->Prop}
 (hx:s.heap.get? a=some o) (hc:o.cls=.type "list") (eP:o.data=.seq xs k) (hd:o.dict=none) (hA:A.handled=none)
 (h:∀h' tk,(∀b ob,s.heap.get? b=some ob->h'.get? b=some ob)->Q none {s with heap:=h',toks:=tk}):wpAny (model prog w) A (getAttr? (.ref a) "keys") Q E s:=by
 obtain⟨c,dct,dat,sl⟩:=o;simp only at hc eP hd;subst hc eP hd;obtain⟨hp,g,d,tk,os⟩:=s;have hT:∀tk',(⟨hp,g,d,tk',os⟩:Shared).TypeIs (.ref a) "list":=λ_=>⟨_,hx,rfl⟩;have f1:=sub_AttributeError;have f3:=F.slot_list_getattribute.lookup;have f4:=F.slot_list_getattribute.bind (.ref a);have f5:=am_list_getattr_none;unfold getAttr? getAttrBy? getAttrBy
 repeat (any_goals (first|assumption|exact hT _|((with_reducible show wpAny _ _ (call (Value.builtin "list.__getattribute__") _ _) _ _ _);refine hV F.slot_list_getattribute (hT _) am_entry_list_getattribute (F.args_list_getattribute_2 _ _) (meets_getattribute_miss_list a xs k sl "keys" _ a5x ∅ ∅) ⟨hx,hA,λh' tk' e dY=>?_⟩)|wp_step))
 obtain⟨t2,u2,he⟩:=dY.there;show wpAny _ _ (getattributeRaised _ _ _ _ _ _ _) _ _ _;unfold getattributeRaised
 repeat (any_goals (first|assumption|wp_step))
 exact h _ _ dY.keeps
open PyProof.Rows
theorem L4:plainId "dict.update.loop"=true:=by decide+kernel
theorem a0x:entryFor table "dict.update.loop"=some Builtin.«dict.update.loop»:=entryFor_of_tree (by kernel_rfl)
variable{a:Value}{b:Value}{l:Addr}{items:Array Value}{Q:Value->Shared->Prop}
section
variable{prog:Program}{w:World}{K:Type}[DecidableEq K]{knd:KeyKind prog w K}
theorem a7E{E:Value->Shared->Prop}{s:Shared}{t:Addr}{Q:List Value->Shared->Prop}(ht:IsTup s.heap t #[a,b])(h:Q [a,b] s):wpAny (model prog w) A (Builtin.Dict.pairItems (.ref t)) Q E s:=by
 obtain⟨o,ho,hc,n,hd⟩:=ht;obtain⟨hp,g,d,tk,os⟩:=s;have hT:(⟨hp,g,d,tk,os⟩:Shared).TypeIs (.ref t) "tuple":=⟨_,ho,hc⟩;unfold Builtin.Dict.pairItems
 repeat (any_goals (first|assumption|wp_step))
 rw[hd];exact fG (fG h)
theorem b0w{d it:Addr}{ps:List (K×Value)}(n1:d≠it)(n2:d≠l)(n3:it≠l)(hsz:items.size=↥ps)(k:Nat):∀(i:Nat)(bC:List (K×Value)),↥ps-i=k->i<=↥ps->MeetsIn prog w (Builtin.«dict.update.loop» ⟨[.ref d,.ref it,rawInt i,.none],[]⟩)
 (λA R s=>A.handled=none/\s.heap.IsListIter it l i/\s.heap.IsList l items/\s.heap.DictOf knd d bC/\↥bC+(↥ps-i)<=sizeLine∧
  (∀(j:Nat)(p:K×Value),ps[j]? =some p->∃t kv,items[j]? = ~~~t/\t≠d/\t≠it/\IsTup s.heap t #[kv,p.2]/\knd.is p.1 kv=true)∧
  ∀h' tk,h'.DictOf knd d (merged bC (ps.drop i))->(∀b o,b≠d->b≠it->s.heap.get? b=some o->h'.get? b=some o)->R (.ok (.ret .none)) {s with heap:=h',toks:=tk}):=by
 induction k with
 |zero=>
  intro i bC hk hi A R s h;obtain⟨hA,em,hl,hd,hz,hq,h⟩:=h;have hx:items[i]? =none:=by rw[Array.getElem?_eq_none];ac_nf
  have hdr:ps.drop i=[]:=List.drop_eq_nil_of_le nofun;rw[hdr] at h;unfold Builtin.«dict.update.loop»;refine fv (wpAny_pyNext_list_end hA em hl hx λh' eb=>?_);refine fv ?_;unfold Builtin.Dict.addKeywords;refine fG (fG (h h' s.toks ?_ λb o n1 n2 e=>eb b o n2 e));exact hd.extBut eb n1
 | succ k ih=>
  intro i bC hk hi A R s h;obtain⟨hA,em,hl,hd,hz,hq,h⟩:=h;have hlt:i<↥ps:=by ac_nf
  obtain⟨t,kv,e1,e2,e3,e4,e5⟩:=hq i ps[i] (ai hlt);have hdr:ps.drop i=ps[i]::ps.drop (i+1):=drop_eq_getElem_cons hlt;unfold Builtin.«dict.update.loop»;refine fv (wpAny_pyNext_list_item em hl e1 λh1 st sb=>?_);have k1:∀b o,b≠it->s.heap.get? b=some o->h1.get? b=some o:=λb o n e=>(sb.2 b n).trans e;refine fv (gr (fv (wpAny_tryCatch (a7E (show IsTup h1 t #[kv,ps[i].2] from let⟨o,ho,r⟩:=e4;⟨o,k1 t o e3 ho,r⟩) ?_))));refine gr (wpAny_dictSet_pairs (hsz:=by ac_nf) e5 (hd.sameBut sb n1) λh2 dd ei=>?_);have k2:∀b o,b≠d->b≠it->s.heap.get? b=some o->h2.get? b=some o:=λb o n n' e=>(ei.2 b n).trans (k1 b o n' e);refine fG ⟨plainId_quiet L4 _,codeAny_builtin a0x (by
   rw[Around.under_plainId L4 _,show((i:Nat):Int)+1=((i+1:Nat):Int) by ac_nf];refine ih (i+1) (stored bC ps[i].1 ps[i].2) nofun nofun A R _ ⟨hA,?_,?_,dd,?_,λj p hj=>?_,λh' tk d1 d2=>?_⟩
   · obtain⟨o,ho,r⟩:=st;exact⟨o,(ei.2 it n1.symm).trans ho,r⟩
   · obtain⟨o,ho,r⟩:=hl;exact⟨o,k2 l o n2.symm n3.symm ho,r⟩
   · have:=stored_length_le bC ps[i].1 ps[i].2;ac_nf
   · obtain⟨t,kv,q1,q2,q3,⟨o,ho,r⟩,q5⟩:=hq j p hj;exact⟨t,kv,q1,q2,q3,⟨o,k2 t o q2 q3 ho,r⟩,q5⟩
   · refine h h' tk ?_ λb o n n' e=>d2 b o n n' (k2 b o n n' e);rw[hdr];exact d1)⟩
theorem a2J{E:Value->Shared->Prop}{s:Shared}{ol:Obj}{n:Nat}{ps:List (K×Value)}(hA:A.handled=none)(hx:s.heap.get? l=some ol)(hc:ol.cls=.type "list")(eP:ol.data=.seq items n)(hd:ol.dict=none)(hsz:items.size=↥ps)(hz:↥ps<=sizeLine)
 (hq:∀(j:Nat)(p:K×Value),ps[j]? =some p->∃t kv,items[j]? = ~~~t/\IsTup s.heap t #[kv,p.2]/\knd.is p.1 kv=true)
 (h:∀h' tk,h'.DictOf knd s.heap.objs.size (merged [] ps)->(∀b o,s.heap.get? b=some o->h'.get? b=some o)->Q (.ref s.heap.objs.size) {s with heap:=h',toks:=tk}):
 wpAny (model prog w) A (call (.type "dict") [.ref l]) Q E s:=by
 refine callType_codes (Q₁:=λobj bH=>obj=.ref s.heap.objs.size/\bH={s with heap:=s.heap.push {cls:=.type "dict",data:=.dict #[]}}) F.kt_called_dict (F.kt_typeCall_dict_1 _) F.entry_dict_init (kt_code_dict_new _ ⟨rfl,rfl⟩) ?_;rintro obj bH ⟨rfl,rfl⟩;have hnew:(s.heap.push {cls:=.type "dict",data:=.dict #[]}).DictOf knd s.heap.objs.size []:=Heap.DictOf.new s.heap;have hx1:(s.heap.push {cls:=.type "dict",data:=.dict #[]}).get? l=some ol:=fF _ hx;have ty:Shared.TypeIs {s with heap:=s.heap.push {cls:=.type "dict",data:=.dict #[]}} (.ref l) "list":=⟨_,hx1,hc⟩;have nl:s.heap.objs.size≠l:=λe=>absurd (fH hx) (by rw[e];exact aQ _);refine⟨hnew.typeIs,F.args_dict_init_2 _ _,?_⟩;unfold Builtin.«dict.__init__»;refine fv ?_;unfold Builtin.Dict.selfAndRest;refine fv (wpAny_notOrdered_dict hnew.typeIs ?_);show wpAny _ _ (pure (s.heap.objs.size,[Value.ref l])) _ _ _;refine fG ?_;show wpAny _ _ (Builtin.Dict.updateFrom "dict.__init__" s.heap.objs.size (.ref l) [] .none) _ _ _;unfold Builtin.Dict.updateFrom;refine fv (wpAny_typeOf ty ?_);rw[ay ∅];refine fv (a9Q hx1 hc eP hd ?_ λh1 tk1 k1=>?_)
 · exact hA
 · rw [ay (show(none:Option Value).isNone=true from rfl)];have hx2:h1.get? l=some ol:=k1 l _ hx1;have hd2:h1.DictOf knd s.heap.objs.size []:=hnew.keep k1;have lt1:s.heap.objs.size<h1.objs.size:=by obtain⟨o,_,_,ho,_⟩:=hd2;exact fH ho
   refine fv (gT (fv (hW (items:=items) ⟨ol,hx2,hc,n,eP⟩ ?_)));refine fG ⟨plainId_quiet L4 _,codeAny_builtin a0x (by
    rw[Around.under_plainId L4 _];refine b0w (knd:=knd) (d:=s.heap.objs.size) (it:=h1.objs.size) (l:=l) (ps:=ps) (fP lt1) nl (λe=>absurd (fH hx2) (by rw[←e];exact aQ _)) hsz _ 0 [] rfl (gd _) A.in1 _ _ ⟨hA,⟨_,fI _ rfl,rfl,rfl⟩,⟨ol,fF _ hx2,hc,n,eP⟩,hd2.push _,by simpa using hz,λj p hj=>?_,λh' tk d1 d2=>⟨rfl,?_⟩⟩
    · obtain⟨t,kv,q1,⟨o,ho,r⟩,q3⟩:=hq j p hj;have ho1:=k1 t o (fF _ ho);exact⟨t,kv,q1,λe=>absurd (fH ho) (by rw[e];exact aQ _),λe=>absurd (fH ho1) (by rw[e];exact aQ _),⟨o,fF _ ho1,r⟩,q3⟩
    · refine h h' tk (by rwa [drop_zero] at d1) λb o e=>d2 b o (λz=>absurd (fH e) (by rw[z];exact aQ _)) (λz=>?_) (fF _ (k1 b o (fF _ e)));have:=fH (k1 b o (fF _ e));rw[z] at this;exact absurd this (aQ _))⟩
end
end PySem
namespace L2
open PySem PySem.Spec PyProof.Rows
def PrT(H:Hp):List V->List (Key×V)->Prop:=Paired λy p=>∃t,y=.ref t/\H t=some (.tup [kV p.1,p.2])
variable{bB:List (Addr×Obj)}{σ:St}{H:Hp}
section
variable{X:Cx}
theorem prs_of{s:Shared}(I:Inv X bB σ H s){ys:List V}{bC:List (Key×V)}(hp:PrT H ys bC):∀{bD:List Value},p7 ys bD->∃ps:List (Key×Value),KV bC ps/\↥ps=↥bD/\∀(j:Nat)(p:Key×Value),ps[j]? =some p->∃t kv,bD[j]? = ~~~t/\IsTup s.heap t #[kv,p.2]/\(x5 X.prog X.w).is p.1 kv=true:=by
 unfold PrT at hp
 induction hp with
 |nil=>
  intro bD r;cases r;exact⟨[],.nil,rfl,λj p h=>by simp at h⟩
 | cons h t ih=>
  intro bD r;obtain- |⟨r,q⟩:=r;obtain⟨ps,k1,k2,k3⟩:=ih q;obtain⟨a,rfl,ha⟩:=h;cases r;obtain⟨_,bD,rv,pa⟩:=I.hok a _ ha;obtain⟨u,w,rfl,ru,bX⟩:=a4p rv;refine⟨(_,w)::ps,.cons ⟨rfl,bX⟩ k1,by rw[length_cons,length_cons,k2],λj p hj=>?_⟩
  cases j with
  |zero=>
   cases hj;exact⟨a,u,rfl,pa.tup,a0k ru⟩
  |succ j=>exact k3 j p hj
theorem a5X(hc:X.calm=true):J0 X (.type "dict") (λxs H Q=>∃p ys bC,xs=[.ref p]/\SqL X.K H p ys/\PrT H ys bC/\∀d,H d=none->Q (.ref d) (upd H d (.dK (X4 [] bC)))):=by
 intro bB s σ H xs us Q I r h;obtain⟨p,ys,bC,rfl,hq,pr,q⟩:=h;obtain⟨u,rfl,rx⟩:=V8 r;cases rx;obtain⟨bD,rv,pl,hz⟩:=I.list hq;obtain⟨o,n,e,c,hd,dat⟩:=pl;obtain⟨ps,k1,k2,k3⟩:=prs_of I pr rv;have l1:=↥rv;have l2:=Paired.length pr;refine a2J (knd:=x5 X.prog X.w) (items:=bD.toArray) (ps:=ps) (I.ok.hd hc) e c dat hd (by simp[k2]) nofun (λj p hj=>?_) λh' tk dd kp=>?_
 · obtain⟨t,kv,q1,q2,q3⟩:=k3 j p hj;exact⟨t,kv,by simpa using q1,q2,q3⟩
 · have hl:=V2 bC [];rw[length_nil] at hl;exact⟨.ref s.heap.objs.size,_,I.laid (t':=tk) (λb o e=>kp b o e) (aj _) (a8d nofun (beq_eq_false_iff_ne.mpr (gF I.big)) (k1.merge .nil) dd),rfl,q _ (I.hok.fresh (aj _))⟩
end
end L2
namespace PySem
open Sem (wp)
abbrev ZAt(h:Heap)(z TI TO:Addr)(f0:Value)(b:Bool):Prop:=
 h.get? z=some {cls:=.type "zip",dict:=none,data:=.fields #[f0,.bool b,.bool false,.ref TI,.ref TO],slots:= #[]}
def a7q(f0:Value):Prop:=f0=.none∨∃T:Addr,f0=rawInt T
variable{z:Addr}{f0:Value}{l1:Addr}{l2:Addr}{k1:Nat}{k2:Nat}{xs:Array Value}{ys:Array Value}{x:Value}{y:Value}{a:Value}{b:Value}{b0:Bool}{Q:Value->Shared->Prop}
section
variable{prog:Program}{w:World}{A:Around}{E:Value->Shared->Prop}{s:Shared}
theorem b0u{a:Addr}{Q:Option Obj->Shared->Prop}(h:Q (s.heap.get? a) s):wpAny (model prog w) A (loadIfAlive a) Q E s:=λ_ _ _=>h
theorem a6V{TI TO:Addr}{b:Bool}{Q:Bool->Shared->Prop}(hz:ZAt s.heap z TI TO f0 b)(hf:a7q f0)(h1:Q true s)(h2:∀h',ZAt h' z TI TO f0 true->Heap.SameBut z s.heap h'->Q false {s with heap:=h'}):wpAny (model prog w) A (ownedTupleIsFree (.ref z)) Q E s:=by
 unfold ownedTupleIsFree;refine fv (fQ hz rfl (x:=f0) rfl ?_);rcases hf with rfl|⟨T,rfl⟩
 · exact fG h1
 · show wpAny _ _ (loadIfAlive ((T:Int).toNat)>>=_) _ _ _;refine fv (b0u ?_);cases s.heap.get? ((T:Int).toNat) with
   |none=>exact fG h1
   | some o=>
    refine fv (fQ hz rfl (x:=.bool b) rfl ?_);cases b with
    |true=>
     have:Q false {s with heap:=s.heap}:=h2 s.heap hz ⟨rfl,λ_ _=>rfl⟩;exact fv (fG (fG this))
    |false=>
     refine fv (gw hz ⋯ λh' hz' dA=>fG (h2 h' hz' dA))
theorem a9n{TI TO i1 i2:Addr}(D:ZipApart z TI TO i1 i2 l1 l2)(hz:ZAt s.heap z TI TO f0 b0)(hf:a7q f0)(ce:IsPair s.heap TI (.ref i1) (.ref i2))(cp:IsPair s.heap TO a b)
 (h1:s.heap.IsListIter i1 l1 k1) (h2:s.heap.IsListIter i2 l2 k2) (dS:s.heap.IsList l1 xs) (eJ:s.heap.IsList l2 ys) (hx:xs[k1]? =some x) (hy:ys[k2]? =some y)
 (hQ:∀h' f1 b1,a7q f1->ZAt h' z TI TO f1 b1->(∃a b,IsPair h' TO a b)->h'.IsListIter i1 l1 (k1+1)->h'.IsListIter i2 l2 (k2+1)->IsPair h' s.heap.objs.size x y->h'.objs.size=s.heap.objs.size+1→
  (∀c o,c≠z->c≠TO->c≠i1->c≠i2->s.heap.get? c=some o->h'.get? c=some o)->Q (.ref s.heap.objs.size) {s with heap:=h'}):
 wpAny (model prog w) A (Builtin.«zip.__next__» ⟨[.ref z],[]⟩) (λcL s'=>∃v,cL=.done (.ret v)/\Q v s') E s:=by
 change wpAny (model prog w) A (field (Value.ref z) 2>>=_) _ E s;refine fv (fQ hz rfl (x:=.bool false) rfl ?_);change wpAny (model prog w) A (field (Value.ref z) 3>>=_) _ E s;refine fv (fQ hz rfl (x:=.ref TI) rfl (fv (fX ce rfl ?_)));change wpAny (model prog w) A (ownedTupleIsFree (Value.ref z)>>=_) _ E s;refine fv (a6V hz hf ?free λh' hz' dA=>?held)
 case held=>
  have n1:h'.IsListIter i1 l1 k1:=h1.extBut dA.extBut D.i1z;have n2:h'.IsListIter i2 l2 k2:=h2.extBut dA.extBut D.i2z;simp only[fZ,gz,←Array.forIn_toList,forIn_cons,forIn_nil];refine fv (fv (fv (gr ?_)));change wpAny (model prog w) A (nextOf (Value.ref i1)>>=_) _ E _;refine fv (gm n1 (dS.extBut dA.extBut D.l1z) hx λg1 m1 t1=>fG (fG ?_));refine fv (fv (gr ?_));change wpAny (model prog w) A (nextOf (Value.ref i2)>>=_) _ E _;refine fv (gm (n2.extBut t1.extBut D.i12.symm) ((eJ.extBut dA.extBut D.l2z).extBut t1.extBut D.l2i1) hy λg2 m2 t2=>fG (fG (fG (fv (wpAny_newTuple ?_ (show 2<=sizeLine by decide))))));have sz:g2.objs.size=s.heap.objs.size:=by rw[t2.1,t1.1,dA.1]
  have up:∀c o,c≠z->c≠i1->c≠i2->s.heap.get? c=some o->(g2.push {cls:=.type "tuple",data:=.seq #[x,y]}).get? c=some o:=λc o c1 c2 c3 e=>fF _ (t2.extBut _ _ c3 (t1.extBut _ _ c2 (dA.extBut _ _ c1 e)));have zz:ZAt (g2.push {cls:=.type "tuple",data:=.seq #[x,y]}) z TI TO f0 true:=fF _ (t2.extBut _ _ D.i2z.symm (t1.extBut _ _ D.i1z.symm hz'));refine fG ⟨_,rfl,?_⟩;change Q (Value.ref g2.objs.size) _;have hp:IsPair (g2.push {cls:=.type "tuple",data:=.seq #[x,y]}) g2.objs.size x y:=fI _ rfl;have h8:(g2.push {cls:=.type "tuple",data:=.seq #[x,y]}).objs.size=g2.objs.size+1:=gu ..;rw[sz] at hp h8⊢;exact hQ _ f0 true hf zz ⟨a,b,up TO _ D.TOz D.TOi1 D.TOi2 cp⟩ ((m1.extBut t2.extBut D.i12).at λo e=>fF _ e) (m2.at λo e=>fF _ e) hp h8 λc o c1 _ c3 c4 e=>up c o c1 c3 c4 e
 case free=>
  simp only[fU];refine fv (gT (fv (fQ hz rfl (x:=.ref TO) rfl (fv (gw hz ⋯ λg1 e1 t1=>?_)))));replace e1:ZAt g1 z TI TO .ellipsis b0:=e1;simp only[List.zipIdx_cons,List.zipIdx_nil,forIn_cons,forIn_nil];refine fv (fv (fv (gC ?_)));change wpAny (model prog w) A (nextOf (Value.ref i1)>>=_) _ _ _;refine fv (gm (h1.extBut t1.extBut D.i1z) (dS.extBut t1.extBut D.l1z) hx λg2 m2 t2=>fG ?_);have o2:IsPair g2 TO a b:=t2.extBut _ _ D.TOi1 (t1.extBut _ _ D.TOz cp);refine fv (fX o2 rfl (fv (gB o2 λg3 o3 t3=>fv (ie (fG ?_)))));replace o3:IsPair g3 TO x b:=o3;refine fv (fv (gC ?_));change wpAny (model prog w) A (nextOf (Value.ref i2)>>=_) _ _ _;refine fv (gm (((h2.extBut t1.extBut D.i2z).extBut t2.extBut D.i12.symm).extBut t3.extBut D.TOi2.symm) (((eJ.extBut t1.extBut D.l2z).extBut t2.extBut D.l2i1).extBut t3.extBut D.l2TO) hy λg4 m4 t4=>fG ?_);have o4:IsPair g4 TO x b:=t4.extBut _ _ D.TOi2 o3;refine fv (fX o4 rfl (fv (gB o4 λg5 o5 t5=>fv (ie (fG (fG ?_))))));replace o5:IsPair g5 TO x y:=o5;refine fv (fX o5 rfl (fv (wpAny_newTuple ?_)));have sz:g5.objs.size=s.heap.objs.size:=by rw[t5.1,t4.1,t3.1,t2.1,t1.1]
  have e5:ZAt g5 z TI TO .ellipsis b0:=t5.extBut _ _ D.TOz.symm (t4.extBut _ _ D.i2z.symm (t3.extBut _ _ D.TOz.symm (t2.extBut _ _ D.i1z.symm e1)));have zl:z<g5.objs.size:=fH e5;change wpAny (model prog w) A (ownedTupleHandOut (Value.ref z) (Value.ref g5.objs.size)>>=_) _ E _;refine fv ?_;unfold ownedTupleHandOut;have e6:ZAt (g5.push {cls:=.type "tuple",data:=.seq #[x,y]}) z TI TO .ellipsis b0:=fF _ e5;refine fv (gw e6 ⋯ λg7 e7 t7=>?_);replace e7:ZAt g7 z TI TO (rawInt g5.objs.size) b0:=e7;refine gw e7 ⋯ λg8 e8 t8=>fG ⟨_,rfl,?_⟩;replace e8:ZAt g8 z TI TO (rawInt g5.objs.size) false:=e8;have up:∀c o,c≠z->g5.get? c=some o->g8.get? c=some o:=λc o c1 e=>t8.extBut _ _ c1 (t7.extBut _ _ c1 (fF _ e));have hp:IsPair g8 g5.objs.size x y:=t8.extBut _ _ (gF zl) (t7.extBut _ _ (gF zl) (fI _ rfl));have h8:g8.objs.size=g5.objs.size+1:=by rw[t8.1,t7.1,gu]
  change Q (Value.ref g5.objs.size) _;rw[sz] at e8 hp h8⊢;have m5:g5.IsListIter i1 l1 (k1+1):=((m2.extBut t3.extBut D.TOi1.symm).extBut t4.extBut D.i12).extBut t5.extBut D.TOi1.symm;exact hQ _ _ _ (.inr ⟨_,rfl⟩) e8 ⟨x,y,up _ _ D.TOz o5⟩ (m5.at λo e=>up _ o D.i1z e) ((m4.extBut t5.extBut D.TOi2.symm).at λo e=>up _ o D.i2z e) hp h8 λc o c1 c2 c3 c4 e=>up c o c1 (t5.extBut _ _ c2 (t4.extBut _ _ c4 (t3.extBut _ _ c2 (t2.extBut _ _ c3 (t1.extBut _ _ c1 e)))))
theorem b0t{TI TO i1 i2:Addr}{Q:Fin->Shared->Prop}(hh:A.handled=none)(D:ZipApart z TI TO i1 i2 l1 l2)(hz:ZAt s.heap z TI TO f0 b0)(hf:a7q f0)(ce:IsPair s.heap TI (.ref i1) (.ref i2))(cp:IsPair s.heap TO a b)
 (h1:s.heap.IsListIter i1 l1 k1) (h2:s.heap.IsListIter i2 l2 k2) (dS:s.heap.IsList l1 xs) (eJ:s.heap.IsList l2 ys) (dj:xs[k1]? =none∨ys[k2]? =none)
 (hE:∀h' e,(∀c o,c≠z->c≠TO->c≠i1->c≠i2->s.heap.get? c=some o->h'.get? c=some o)->(∃o,h'.get? e=some o/\o.cls=.type "StopIteration")->E (.ref e) {s with heap:=h'}):
 wpAny (model prog w) A (Builtin.«zip.__next__» ⟨[.ref z],[]⟩) Q E s:=by
 change wpAny (model prog w) A (field (Value.ref z) 2>>=_) _ E s;refine fv (fQ hz rfl (x:=.bool false) rfl ?_);change wpAny (model prog w) A (field (Value.ref z) 3>>=_) _ E s;refine fv (fQ hz rfl (x:=.ref TI) rfl (fv (fX ce rfl ?_)));change wpAny (model prog w) A (ownedTupleIsFree (Value.ref z)>>=_) _ E s;refine fv (a6V hz hf ?free λh' hz' dA=>?held)
 case held=>
  simp only[fZ,gz,←Array.forIn_toList,forIn_cons,forIn_nil];refine fv (fv (fv (gr ?_)));change wpAny (model prog w) A (nextOf (Value.ref i1)>>=_) _ E _;cases hx:xs[k1]? with
  |none=>exact fv (gJ hh (h1.extBut dA.extBut D.i1z) (dS.extBut dA.extBut D.l1z) hx λg e t he=>hE g e (λc o c1 _ c3 _ q=>t _ _ c3 (dA.extBut _ _ c1 q)) he)
  |some x=>
   have hy:ys[k2]? =none:=dj.resolve_left (by rw[hx];exact λq=>nomatch q);refine fv (gm (h1.extBut dA.extBut D.i1z) (dS.extBut dA.extBut D.l1z) hx λg1 m1 t1=>fG (fG ?_));refine fv (fv (gr ?_));change wpAny (model prog w) A (nextOf (Value.ref i2)>>=_) _ E _;exact fv (gJ hh ((h2.extBut dA.extBut D.i2z).extBut t1.extBut D.i12.symm) ((eJ.extBut dA.extBut D.l2z).extBut t1.extBut D.l2i1) hy λg e t he=>hE g e (λc o c1 _ c3 c4 q=>t _ _ c4 (t1.extBut _ _ c3 (dA.extBut _ _ c1 q))) he)
 case free=>
  simp only[fU];refine fv (gT (fv (fQ hz rfl (x:=.ref TO) rfl (fv (gw hz ⋯ λg1 e1 t1=>?_)))));replace e1:ZAt g1 z TI TO .ellipsis b0:=e1;simp only[List.zipIdx_cons,List.zipIdx_nil,forIn_cons,forIn_nil];refine fv (fv (fv (gC ?_)));change wpAny (model prog w) A (nextOf (Value.ref i1)>>=_) _ _ _;cases hx:xs[k1]? with
  |none=>
   refine fv (gJ hh (h1.extBut t1.extBut D.i1z) (dS.extBut t1.extBut D.l1z) hx λg2 e t2 he=>?_);obtain⟨oe,p1,p2⟩:=he;have e2:ZAt g2 z TI TO .ellipsis b0:=t2 _ _ D.i1z.symm e1;have ez:e≠z:=λq=>by subst q;rw[e2] at p1;cases p1;simp at p2
   exact gw e2 ⋯ λg3 _ t3=>hE g3 e (λc o c1 _ c3 _ q=>t3.extBut _ _ c1 (t2 _ _ c3 (t1.extBut _ _ c1 q))) ⟨oe,t3.extBut _ _ ez p1,p2⟩
  |some x=>
   have hy:ys[k2]? =none:=dj.resolve_left (by rw[hx];exact λq=>nomatch q);refine fv (gm (h1.extBut t1.extBut D.i1z) (dS.extBut t1.extBut D.l1z) hx λg2 m2 t2=>fG ?_);have o2:IsPair g2 TO a b:=t2.extBut _ _ D.TOi1 (t1.extBut _ _ D.TOz cp);refine fv (fX o2 rfl (fv (gB o2 λg3 o3 t3=>fv (ie (fG ?_)))));refine fv (fv (gC ?_));change wpAny (model prog w) A (nextOf (Value.ref i2)>>=_) _ _ _;refine fv (gJ hh (((h2.extBut t1.extBut D.i2z).extBut t2.extBut D.i12.symm).extBut t3.extBut D.TOi2.symm) (((eJ.extBut t1.extBut D.l2z).extBut t2.extBut D.l2i1).extBut t3.extBut D.l2TO) hy λg4 e t4 he=>?_);obtain⟨oe,p1,p2⟩:=he;have e4:ZAt g4 z TI TO .ellipsis b0:=t4 _ _ D.i2z.symm (t3.extBut _ _ D.TOz.symm (t2.extBut _ _ D.i1z.symm e1));have ez:e≠z:=λq=>by subst q;rw[e4] at p1;cases p1;simp at p2
   exact gw e4 ⋯ λg5 _ t5=>hE g5 e (λc o c1 c2 c3 c4 q=>t5.extBut _ _ c1 (t4 _ _ c4 (t3.extBut _ _ c2 (t2.extBut _ _ c3 (t1.extBut _ _ c1 q))))) ⟨oe,t5.extBut _ _ ez p1,p2⟩
theorem a9N{TI TO i1 i2:Addr}{Q:Option Value->Shared->Prop}(D:ZipApart z TI TO i1 i2 l1 l2)(hz:ZAt s.heap z TI TO f0 b0)(hf:a7q f0)(ce:IsPair s.heap TI (.ref i1) (.ref i2))(cp:IsPair s.heap TO a b)
 (h1:s.heap.IsListIter i1 l1 k1) (h2:s.heap.IsListIter i2 l2 k2) (dS:s.heap.IsList l1 xs) (eJ:s.heap.IsList l2 ys) (hx:xs[k1]? =some x) (hy:ys[k2]? =some y)
 (hQ:∀h' f1 b1,a7q f1->ZAt h' z TI TO f1 b1->(∃a b,IsPair h' TO a b)->h'.IsListIter i1 l1 (k1+1)->h'.IsListIter i2 l2 (k2+1)->IsPair h' s.heap.objs.size x y->h'.objs.size=s.heap.objs.size+1→
  (∀c o,c≠z->c≠TO->c≠i1->c≠i2->s.heap.get? c=some o->h'.get? c=some o)->Q (~~~s.heap.objs.size) {s with heap:=h'}):wpAny (model prog w) A (pyNext (.ref z)) Q E s:=by
 have hT:s.TypeIs (.ref z) "zip":=⟨_,hz,rfl⟩;unfold pyNext;exact fv (wpAny_attempt (gb (name:=Str.ofString "__next__") hT F.slot_zip_next (gR F.slot_zip_next hT F.entry_zip_next (a9n D hz hf ce cp h1 h2 dS eJ hx hy λh' f1 b1 q0 q1 q2 q3 q4 q5 q6 q7=>fG (hQ h' f1 b1 q0 q1 q2 q3 q4 q5 q6 q7)) (F.args_zip_next_1 _))))
theorem b0g{TI TO i1 i2:Addr}{Q:Option Value->Shared->Prop}(hh:A.handled=none)(D:ZipApart z TI TO i1 i2 l1 l2)(hz:ZAt s.heap z TI TO f0 b0)(hf:a7q f0)(ce:IsPair s.heap TI (.ref i1) (.ref i2))(cp:IsPair s.heap TO a b)
 (h1:s.heap.IsListIter i1 l1 k1) (h2:s.heap.IsListIter i2 l2 k2) (dS:s.heap.IsList l1 xs) (eJ:s.heap.IsList l2 ys) (dj:xs[k1]? =none∨ys[k2]? =none)
 (hQ:∀h',(∀c o,c≠z->c≠TO->c≠i1->c≠i2->s.heap.get? c=some o->h'.get? c=some o)->Q none {s with heap:=h'}):wpAny (model prog w) A (pyNext (.ref z)) Q E s:=by
 have hT:s.TypeIs (.ref z) "zip":=⟨_,hz,rfl⟩;unfold pyNext;refine fv (wpAny_attempt (gb (name:=Str.ofString "__next__") hT F.slot_zip_next (gR F.slot_zip_next hT F.entry_zip_next (b0t hh D hz hf ce cp h1 h2 dS eJ dj λh' e hk he=>?_) (F.args_zip_next_1 _))));obtain⟨o,ho,hc⟩:=he;exact fv (wpAny_isInstance (T:="StopIteration") (b:=true) ⟨o,ho,hc⟩ isSubtype_stop (fG (hQ _ hk)))
end
end PySem
namespace L2
open PySem PySem.Spec PyProof.Rows
variable{P:Program}{w:World}{K:Frag}{pos:Pos}
theorem a9s{nm:Str}(z TI TO i1 i2 l1 l2:Addr)(D:ZipApart z TI TO i1 i2 l1 l2):
 Turn P w K (.Name nm pos) (Itz K l1 l2) [z,TI,TO,i1,i2] z (λi h=>(∃f0 b0,a7q f0/\ZAt h z TI TO f0 b0)/\IsPair h TI (.ref i1) (.ref i2)/\(∃a b,IsPair h TO a b)/\h.IsListIter i1 l1 i/\h.IsListIter i2 l2 i) where
 mem:=by simp
 obj:=λi h st b hb=>by
  obtain⟨⟨f0,b0,hf0,hz⟩,ce,⟨a,c,cp⟩,⟨o1,e1,c1,d1⟩,⟨o2,e2,c2,d2⟩⟩:=st;simp only[aF,not_mem_nil,gA] at hb;rcases hb with rfl|rfl|rfl|rfl|rfl
  · exact⟨_,hz,λv q=>by have q':Data.fields _=Data.cell v:=q;cases q'⟩
  · exact⟨_,ce,λv q=>by have q':Data.seq _ _=Data.cell v:=q;cases q'⟩
  · exact⟨_,cp,λv q=>by have q':Data.seq _ _=Data.cell v:=q;cases q'⟩
  · exact⟨o1,e1,λv q=>by rw[d1] at q;cases q⟩
  · exact⟨o2,e2,λv q=>by rw[d2] at q;cases q⟩
 keep:=λi h h' st k=>by obtain⟨⟨f0,b0,hf0,hz⟩,ce,⟨a,c,cp⟩,h1,h2⟩:=st;exact⟨⟨f0,b0,hf0,k z ⋯ _ hz⟩,k TI ⋯ _ ce,⟨a,c,k TO ⋯ _ cp⟩,h1.at λo x=>k i1 ⋯ o x,h2.at λo x=>k i2 ⋯ o x⟩
 item:=by
  intro X hP hw hK hc i bB s σ H E I hf st hg;subst hP hw hK;obtain⟨⟨f0,b0,hf0,hz⟩,ce,⟨a,c,cp⟩,h1,h2⟩:=st;obtain⟨xs,ys,x,y,hq1,hq2,hx,hy⟩:=hg;obtain⟨bD,rv,p,hz1⟩:=I.list hq1;obtain⟨its',rv',p',eN⟩:=I.list hq2;obtain⟨u,hu,ru⟩:=rv.get hx;obtain⟨u',hu',ru'⟩:=rv'.get hy;have hzlt:z<s.heap.objs.size:=fH hz;refine a9N D hz hf0 ce cp h1 h2 p.isList p'.isList (x:=u) (y:=u') (by simpa using hu) (by simpa using hu') λh3 f1 b1 a0 a1 a2 a3 a4 a5 a6 hk=>?_;refine⟨_,rfl,fG ?_⟩;have kk:∀b o,b∉[z,TI,TO,i1,i2]->s.heap.get? b=some o->h3.get? b=some o:=λb o hb q=>by have n1:b≠z:=λw=>hb (by simp[w]);exact(hk b o n1 (λw=>hb (by simp[w])) (λw=>hb (by simp[w])) (λw=>hb (by simp[w])) q)
  have hT3:h3.get? s.heap.objs.size=some {cls:=.type "tuple",data:=.seq #[u,u']}:=a5;have I1:Inv X bB σ (upd H s.heap.objs.size (.tup [x,y])) {s with heap:=h3,toks:=s.toks}:=
   I.turnedN (fp:=[z,TI,TO,i1,i2]) hf kk (aj _) ⟨by show 2<=sizeLine;decide,[u,u'],.cons ru (.cons ru' .nil),_,hT3,rfl,rfl,_,rfl⟩
  refine⟨.ref s.heap.objs.size,_,I1,rfl,⟨s.heap.objs.size,x,y,I.hok.fresh (aj _),rfl,λzs hy=>by rw[I.list_inj hy hq1];exact hx,λzs hy'=>by rw[I.list_inj hy' hq2];exact hy,rfl⟩,
   ⟨⟨f1,b1,a0,a1⟩,hk _ _ D.TIz D.TITO D.TIi1 D.TIi2 ce,a2,a3,a4⟩,λb hb=>?_⟩
  have hbs:b<s.heap.objs.size:=by
   obtain⟨o1,e1,_⟩:=h1;obtain⟨o2,e2,_⟩:=h2;simp only[aF,not_mem_nil,gA] at hb;rcases hb with rfl|rfl|rfl|rfl|rfl
   · exact hzlt
   · exact fH ce
   · exact fH cp
   · exact fH e1
   · exact fH e2
  rw[n0 (fP hbs)];exact(hf b hb).1
 done:=by
  intro X hP hw hK hc i bB s σ H E I hf st hg;subst hP hw hK;obtain⟨⟨f0,b0,hf0,hz⟩,ce,⟨a,c,cp⟩,h1,h2⟩:=st;obtain⟨xs,ys,hq1,hq2,hx⟩:=hg;obtain⟨bD,rv,p,hz1⟩:=I.list hq1;obtain⟨its',rv',p',eN⟩:=I.list hq2;have hl:=↥rv;have hl':=↥rv';refine b0g (I.ok.hd hc) D hz hf0 ce cp h1 h2 p.isList p'.isList ?_ λh' eb=>⟨rfl,I.turnedF (t':=s.toks) hf λb o hb q=>eb b o (λz=>hb (by simp[z])) (λz=>hb (by simp[z])) (λz=>hb (by simp[z])) (λz=>hb (by simp[z])) q⟩;rcases hx with hx|hx
  · exact .inl (by simp;ac_nf)
  · exact .inr (by simp;ac_nf)
 self:=λA i s Q E st h=>by obtain⟨⟨f0,b0,hf0,hz⟩,_⟩:=st;have hT:s.TypeIs (.ref z) "zip":=⟨_,hz,rfl⟩;refine wpAny_pyIter_slot hT F.slot_zip_iter (gR F.slot_zip_iter hT F.entry_zip_iter ?_ (F.args_zip_iter_1 _));change wpAny (model P w) _ (ret (.ref z)) _ E s;exact fG ⟨_,rfl,"zip",_,hT,F.slot_zip_next.lookup,h⟩
variable{ta:TA}{p:Pos}
section
variable{X:Cx}{nm:Str}{ef:Pos}
theorem b4H{a b:Expr}(hg:Gl X "zip")(hm:X.mg "zip"=none)(ha:PA X [a,b] ta)(hs:starEach [a,b] X.env=(false,eval a X.env)::starEach [b] X.env)(hp:(backTo pos (starEach [b] X.env)).any (·.1)=false):
 PI X (.Name nm ef) (.Call (.Name "zip" p) [a,b] [] pos) (c2z X.K ta):=by
 intro bB s σ H R I h;refine Call_ (a0i I hg hm boot_zip (gi (thn (ha pos bB s σ H _ I h) λus s1 zz=>?_) hs hp));obtain⟨vs,H1,I1,r1,q1⟩:=zz;obtain⟨l1,l2,xs,ys,e,hq1,hq2,q⟩:=q1;subst e;obtain⟨u,u',rfl,ru,ru'⟩:=a4p r1;cases ru;cases ru';obtain⟨bD,rv,pl,hz⟩:=I1.list hq1;obtain⟨its',rv',pl',hz'⟩:=I1.list hq2;refine call_zip_2 pl.isList pl'.isList λh' a1 a2 a3 a4 a5 a6 hk=>?_;have I2:Inv X bB σ H1 {s1 with heap:=h'}:=I1.kept (t':=s1.toks) hk;have lt1:l1<s1.heap.objs.size:=by obtain⟨o,e,_⟩:=pl.isList;exact fH e
 have lt2:l2<s1.heap.objs.size:=by obtain⟨o,e,_⟩:=pl'.isList;exact fH e
 refine gS a1 ⟨s1.heap.objs.size+4,[s1.heap.objs.size+4,s1.heap.objs.size+2,s1.heap.objs.size+3,s1.heap.objs.size,s1.heap.objs.size+1],_,_,H1,rfl,I2,a9s _ _ _ _ _ l1 l2 (zipApart_new lt1 lt2),⟨⟨.none,false,.inl rfl,a1⟩,a2,⟨_,_,a3⟩,a4,a5⟩,λb hb=>?_,q⟩;have hb':s1.heap.objs.size<=b:=by
  simp only[aF,not_mem_nil,gA] at hb;rcases hb with rfl|rfl|rfl|rfl|rfl
  · exact ga _ _
  · exact ga _ _
  · exact ga _ _
  · exact aj _
  · exact ga _ _
 exact I1.fpOk hb' (I1.hok.fresh hb')
end
variable{h:Heap}{a:Addr}
theorem b2z{o:Obj}{vs:Array Value}(f:Array Value->Array Value)(e:h.get? a=some o)(d:o.data=.fields vs):∃o',(h.update a (Obj.mapFields f)).get? a=some o'/\o'.cls=o.cls/\o'.data=.fields (f vs):=by
 refine⟨Obj.mapFields f o,gQ _ e ?_,?_,?_⟩
 · cases o;subst d;rfl
 · cases o;subst d;rfl
 · cases o;subst d;rfl
variable{prog:Program}{A:Around}{it:Addr}{items:Array Value}{Q:Value->Shared->Prop}
theorem Z1{E:Value->Shared->Prop}{s:Shared}{t:Addr}{i:Nat}{x:Value}(st:s.heap.IsTupleIter it t i)(hl:s.heap.IsTuple t items)(hx:items[i]? =some x)
 (h:∀h':Heap,h'.IsTupleIter it t (i+1)->Heap.SameBut it s.heap h'->Q x {s with heap:=h'}):wpAny (model prog w) A (nextOf (.ref it)) Q E s:=by
 unfold nextOf;refine fv (gb st.typeIs slot_tupleiter_next (wpAny_call (gU slot_tupleiter_next.plain entry_tupleiter_next (slot_tupleiter_next.check _ _ _ _ _ _ _ _ st.typeIs (args_tupleiter_next _) ?_))));obtain⟨o,e,c,d⟩:=st;obtain⟨o2,e2,c2,n,d2⟩:=hl;refine fv (fG (a:=(Value.ref it,[])) ?_);refine fv (fQ e d rfl ?_);refine fv (fQ e d rfl ?_);refine fv (fX e2 d2 ?_);have dY:items[((i:Nat):Int).toNat]? =some x:=hx;simp only[dY];refine fv (gE e d (show 1<2 by decide) (fG ?_));obtain⟨o',e',c',d'⟩:=b2z (λx=>x.setIfInBounds 1 (rawInt (↑i+1))) e d;exact fG (h _ ⟨o',e',c'.trans c,d'⟩ (fV _ _ _))
variable{α:Type}{M:Model}
theorem b4f{E:Value->Shared->Prop}{s:Shared}{Q:α->Shared->Prop}(hh:A.handled=none)
 (h:∀(h':Heap)(e:Addr),(∀b o,s.heap.get? b=some o->h'.get? b=some o)->(∃o,h'.get? e=some o/\o.cls=Value.type "StopIteration")->E (.ref e) {s with heap:=h'}):wpAny M A (stopIteration (α:=α)) Q E s:=by
 unfold stopIteration newExc;refine fv (fv (wpAny_newTuple (fv (fG (a:=Value.none) ?_)) ∅));refine fv (wpAny_alloc (fG (wpAny_raiseNew_none hh (h _ _ (λb o e=>fF _ (fF _ e)) ⟨_,fI _ rfl,rfl⟩))))
theorem a3D{E:Value->Shared->Prop}{s:Shared}{t:Addr}{i:Nat}(hh:A.handled=none)(st:s.heap.IsTupleIter it t i)(hl:s.heap.IsTuple t items)(hx:items[i]? =none)
 (h:∀(h':Heap)(e:Addr),Heap.ExtBut it s.heap h'->(∃o,h'.get? e=some o/\o.cls=Value.type "StopIteration")->E (.ref e) {s with heap:=h'}):wpAny (model prog w) A (nextOf (.ref it)) Q E s:=by
 unfold nextOf;refine fv (gb st.typeIs slot_tupleiter_next (wpAny_call (gU slot_tupleiter_next.plain entry_tupleiter_next (slot_tupleiter_next.check _ _ _ _ _ _ _ _ st.typeIs (args_tupleiter_next _) ?_))));obtain⟨o,e,c,d⟩:=st;obtain⟨o2,e2,c2,n,d2⟩:=hl;refine fv (fG (a:=(Value.ref it,[])) ?_);refine fv (fQ e d rfl ?_);refine fv (fQ e d rfl ?_);refine fv (fX e2 d2 ?_);have dY:items[((i:Nat):Int).toNat]? =none:=hx;simp only[dY];refine fv (gT (fv (gE e d (show 0<2 by decide) ?_)));exact b4f hh λh' ea k t=>h _ ea (λb o hb q=>k b o (((fV _ _ _).2 b hb).trans q)) t
variable{z:Addr}{f0:Value}{v1:Value}
theorem a1H{TI TO:Addr}(v:Value)(e:h.get? z=some {cls:=Value.type "zip",data:=Data.fields #[f0,v1,Value.bool false,Value.ref TI,Value.ref TO]}):
 (h.update z (Obj.mapFields λx=>x.setIfInBounds 0 v)).get? z=some {cls:=Value.type "zip",data:=Data.fields #[v,v1,Value.bool false,Value.ref TI,Value.ref TO]}:=gQ _ e rfl
theorem b2w{TI TO:Addr}(v:Value)(e:h.get? z=some {cls:=Value.type "zip",data:=Data.fields #[f0,v1,Value.bool false,Value.ref TI,Value.ref TO]}):
 (h.update z (Obj.mapFields λx=>x.setIfInBounds 1 v)).get? z=some {cls:=Value.type "zip",data:=Data.fields #[f0,v,Value.bool false,Value.ref TI,Value.ref TO]}:=gQ _ e rfl
variable{l1:Addr}{l2:Addr}{k1:Nat}{k2:Nat}{ys:Array Value}
theorem a9m{E:Value->Shared->Prop}{s:Shared}{TI TO i1 i2:Addr}{xs:Array Value}{x y a b:Value}
 (D:ZipApart z TI TO i1 i2 l1 l2) (hz:IsZip s.heap z TI TO .none) (ce:IsPair s.heap TI (.ref i1) (.ref i2)) (cp:IsPair s.heap TO a b) (h1:s.heap.IsTupleIter i1 l1 k1) (h2:s.heap.IsListIter i2 l2 k2) (p1:s.heap.IsTuple l1 xs) (p2:s.heap.IsList l2 ys) (hx:xs[k1]? =some x) (hy:ys[k2]? =some y)
 (h:∀h':Heap,IsZip h' z TI TO (rawInt ↑s.heap.objs.size)->IsPair h' TO x y->h'.IsTupleIter i1 l1 (k1+1)->h'.IsListIter i2 l2 (k2+1)->IsPair h' s.heap.objs.size x y->h'.objs.size=s.heap.objs.size+1->(∀(c:Addr)(o:Obj),c≠z->c≠TO->c≠i1->c≠i2->s.heap.get? c=some o->h'.get? c=some o)->Q (.ref s.heap.objs.size) {s with heap:=h'}):
 wpAny (model prog w) A (Builtin.«zip.__next__» {pos:=[.ref z]}) (λcL s'=>∃v,cL=.done (.ret v)/\Q v s') E s:=by
 unfold Builtin.«zip.__next__»;refine fv (fG (a:=(Value.ref z,[])) ?_);refine fv (fQ hz rfl rfl ?_);refine fv (fQ hz rfl rfl ?_);refine fv (fX ce rfl ?_);refine fv (fv (fQ hz rfl rfl (fG ?_)));refine fv (gT (fv (fQ hz rfl rfl ?_)));refine fv (gE hz rfl (show 0<5 by decide) ?_);have sb1:=fV s.heap z (Obj.mapFields λx=>x.setIfInBounds 0 Value.ellipsis);have hz1:=a1H Value.ellipsis hz;generalize s.heap.update z (Obj.mapFields λx=>x.setIfInBounds 0 Value.ellipsis)=g1 at sb1 hz1⊢;have t1:g1.get? TO=_:=(sb1.2 _ D.TOz).trans cp;have i1':=h1.at λo e=>(sb1.2 _ D.i1z).trans e;have i2':=h2.at λo e=>(sb1.2 _ D.i2z).trans e;refine fv (fv (fv (gC (fv (Z1 i1' (p1.at λo e=>(sb1.2 _ D.l1z).trans e) hx λg2 j1 ei=>fG ?_)))));have t2:g2.get? TO=_:=(ei.2 _ D.TOi1).trans t1;have eN:=(ei.2 _ (fR D.i1z)).trans hz1;refine fv (fX t2 rfl ?_);refine fv (gB t2 λg3 t3 fj=>?_);refine fv (ie (fG ?_));have hz3:=(fj.2 _ (fR D.TOz)).trans eN;have m1:=j1.at λo e=>(fj.2 _ (fR D.TOi1)).trans e;have m2:=i2'.at λo e=>(fj.2 _ (fR D.TOi2)).trans ((ei.2 _ (fR D.i12)).trans e);refine fv (fv (gC (fv (gm m2 (p2.at λo e=>(fj.2 _ D.l2TO).trans ((ei.2 _ D.l2i1).trans ((sb1.2 _ D.l2z).trans e))) hy λg4 j2 sb4=>fG ?_))));have t4:g4.get? TO=some {cls:=.type "tuple",data:=.seq #[x,b]}:=(sb4.2 _ D.TOi2).trans t3;have hz4:=(sb4.2 _ (fR D.i2z)).trans hz3;have n1:=m1.at λo e=>(sb4.2 _ D.i12).trans e;refine fv (fX t4 rfl ?_);refine fv (gB t4 λg5 t5 sb5=>?_);refine fv (ie (fG (fG ?_)));have t5':g5.get? TO=some {cls:=.type "tuple",data:=.seq #[x,y]}:=t5;have hz5:=(sb5.2 _ (fR D.TOz)).trans hz4;have q1:=n1.at λo e=>(sb5.2 _ (fR D.TOi1)).trans e;have q2:=j2.at λo e=>(sb5.2 _ (fR D.TOi2)).trans e;refine fv (fX t5' rfl ?_);refine fv (wpAny_newTuple ?_ (show 2<=sizeLine by decide));have zs:g5.objs.size=s.heap.objs.size:=by rw[sb5.1,sb4.1,fj.1,ei.1,sb1.1]
 have zlt:z<g5.objs.size:=fH hz5;have hz6:=fF {cls:=Value.type "tuple",data:=Data.seq #[x,y].toList.toArray} hz5;refine fv (fv (gE hz6 rfl (show 0<5 by decide) (gE (a1H _ hz6) rfl (show 1<5 by decide) (fG ⟨_,rfl,?_⟩))));have nz:g5.objs.size≠z:=gF zlt;have ot:∀c,c≠z->(((g5.push {cls:=Value.type "tuple",data:=Data.seq #[x,y].toList.toArray}).update z (Obj.mapFields λx=>x.setIfInBounds 0 (rawInt ↑g5.objs.size))).update z (Obj.mapFields λx=>x.setIfInBounds 1 (.bool false))).get? c=(g5.push {cls:=Value.type "tuple",data:=Data.seq #[x,y].toList.toArray}).get? c:=λc hc=>
  ((fV _ _ _).2 c hc).trans ((fV _ _ _).2 c hc)
 have hz7:=b2w (Value.bool false) (a1H (rawInt ↑g5.objs.size) hz6);have sz7:(((g5.push {cls:=Value.type "tuple",data:=Data.seq #[x,y].toList.toArray}).update z (Obj.mapFields λx=>x.setIfInBounds 0 (rawInt ↑g5.objs.size))).update z (Obj.mapFields λx=>x.setIfInBounds 1 (.bool false))).objs.size=g5.objs.size+1:=by rw[(fV _ _ _).1,(fV _ _ _).1];exact Array.size_push ..
 have r:=h _ (zs▸hz7) ((ot _ D.TOz).trans (fF _ t5')) (q1.at λo e=>(ot _ D.i1z).trans (fF _ e)) (q2.at λo e=>(ot _ D.i2z).trans (fF _ e)) (by rw[←zs];exact(ot _ nz).trans (fI _ rfl)) (by rw[←zs];exact sz7)
  (λc o c1 c2 c3 c4 e=>(ot _ c1).trans (fF _ ((sb5.2 _ c2).trans ((sb4.2 _ c4).trans ((fj.2 _ c2).trans ((ei.2 _ c3).trans ((sb1.2 _ c1).trans e)))))))
 rw[←zs] at r;exact r
theorem a2a{E:Value->Shared->Prop}{s:Shared}{TI TO i1 i2:Addr}{xs:Array Value}{x y a b:Value}{Q:Option Value->Shared->Prop}
 (D:ZipApart z TI TO i1 i2 l1 l2) (hz:IsZip s.heap z TI TO .none) (ce:IsPair s.heap TI (.ref i1) (.ref i2)) (cp:IsPair s.heap TO a b) (h1:s.heap.IsTupleIter i1 l1 k1) (h2:s.heap.IsListIter i2 l2 k2) (p1:s.heap.IsTuple l1 xs) (p2:s.heap.IsList l2 ys) (hx:xs[k1]? =some x) (hy:ys[k2]? =some y)
 (h:∀h':Heap,IsZip h' z TI TO (rawInt ↑s.heap.objs.size)->IsPair h' TO x y->h'.IsTupleIter i1 l1 (k1+1)->h'.IsListIter i2 l2 (k2+1)->IsPair h' s.heap.objs.size x y->h'.objs.size=s.heap.objs.size+1->(∀(c:Addr)(o:Obj),c≠z->c≠TO->c≠i1->c≠i2->s.heap.get? c=some o->h'.get? c=some o)->Q (~~~s.heap.objs.size) {s with heap:=h'}):
 wpAny (model prog w) A (pyNext (.ref z)) Q E s:=by
 have ti:s.TypeIs (.ref z) "zip":=⟨_,hz,rfl⟩;unfold pyNext;refine fv (wpAny_attempt (gb ti PySem.F.slot_zip_next (wpAny_call (gU PySem.F.slot_zip_next.plain PySem.F.entry_zip_next (PySem.F.slot_zip_next.check _ _ _ _ _ _ _ _ ti (PySem.F.args_zip_next_1 _) ?_)))));refine gy (a9m (E:=λ_ _=>False) (Q:=λv s'=>Q (some v) s') D hz ce cp h1 h2 p1 p2 hx hy h) ?_ ?_
 · rintro cL s' ⟨v,rfl,q⟩;exact fG q
 · exact λe s' q=>q.elim
theorem b0s{E:Value->Shared->Prop}{s:Shared}{TI TO i1 i2:Addr}{xs:Array Value}{a b:Value}{Q:Fin->Shared->Prop}(hh:A.handled=none)
 (D:ZipApart z TI TO i1 i2 l1 l2) (hz:IsZip s.heap z TI TO .none) (ce:IsPair s.heap TI (.ref i1) (.ref i2)) (cp:IsPair s.heap TO a b) (h1:s.heap.IsTupleIter i1 l1 k1) (h2:s.heap.IsListIter i2 l2 k2) (p1:s.heap.IsTuple l1 xs) (p2:s.heap.IsList l2 ys) (hn:xs[k1]? =none∨ys[k2]? =none)
 (h:∀(h':Heap)(e:Addr),(∀(c:Addr)(o:Obj),c≠z->c≠TO->c≠i1->c≠i2->s.heap.get? c=some o->h'.get? c=some o)->(∃o,h'.get? e=some o/\o.cls=Value.type "StopIteration")->E (.ref e) {s with heap:=h'}):
 wpAny (model prog w) A (Builtin.«zip.__next__» {pos:=[.ref z]}) Q E s:=by
 unfold Builtin.«zip.__next__»;refine fv (fG (a:=(Value.ref z,[])) ?_);refine fv (fQ hz rfl rfl ?_);refine fv (fQ hz rfl rfl ?_);refine fv (fX ce rfl ?_);refine fv (fv (fQ hz rfl rfl (fG ?_)));refine fv (gT (fv (fQ hz rfl rfl ?_)));refine fv (gE hz rfl (show 0<5 by decide) ?_);have sb1:=fV s.heap z (Obj.mapFields λx=>x.setIfInBounds 0 Value.ellipsis);have hz1:=a1H Value.ellipsis hz;generalize s.heap.update z (Obj.mapFields λx=>x.setIfInBounds 0 Value.ellipsis)=g1 at sb1 hz1⊢;have t1:g1.get? TO=_:=(sb1.2 _ D.TOz).trans cp;have i1':=h1.at λo e=>(sb1.2 _ D.i1z).trans e;have i2':=h2.at λo e=>(sb1.2 _ D.i2z).trans e;have pp1:g1.IsTuple l1 xs:=p1.at λo e=>(sb1.2 _ D.l1z).trans e;cases hx:xs[k1]? with
 | none=>
  refine fv (fv (fv (gC (fv (a3D hh i1' pp1 hx λg2 e eb st=>?_)))));have q1:=eb _ _ (fR D.i1z) hz1;refine gE q1 rfl (show 0<5 by decide) (h _ e (λc o c1 c2 c3 c4 q=>((fV _ _ _).2 c c1).trans (eb _ _ c3 ((sb1.2 _ c1).trans q))) ?_);obtain⟨o,w1,w2⟩:=st;have ez:e≠z:=by rintro rfl;have q3:=w1.symm.trans q1;injection q3 with q3;subst q3;exact absurd (show Value.type "zip"=Value.type "StopIteration" from w2) ∅
  exact⟨o,((fV _ _ _).2 _ ez).trans w1,w2⟩
 | some x=>
  have hy:ys[k2]? =none:=by
   rcases hn with hn|hn
   · rw[hx] at hn;cases hn
   · exact hn
  refine fv (fv (fv (gC (fv (Z1 i1' pp1 hx λg2 j1 ei=>fG ?_)))));have t2:g2.get? TO=_:=(ei.2 _ D.TOi1).trans t1;have eN:=(ei.2 _ (fR D.i1z)).trans hz1;refine fv (fX t2 rfl ?_);refine fv (gB t2 λg3 t3 fj=>?_);refine fv (ie (fG ?_));have hz3:=(fj.2 _ (fR D.TOz)).trans eN;have m2:=i2'.at λo e=>(fj.2 _ (fR D.TOi2)).trans ((ei.2 _ (fR D.i12)).trans e);refine fv (fv (gC (fv (gJ hh m2 (p2.at λo e=>(fj.2 _ D.l2TO).trans ((ei.2 _ D.l2i1).trans ((sb1.2 _ D.l2z).trans e))) hy λg4 e eb st=>?_))));have q1:=eb _ _ (fR D.i2z) hz3;refine gE q1 rfl (show 0<5 by decide) (h _ e (λc o c1 c2 c3 c4 q=>((fV _ _ _).2 c c1).trans (eb _ _ c4 ((fj.2 _ c2).trans ((ei.2 _ c3).trans ((sb1.2 _ c1).trans q))))) ?_);obtain⟨o,w1,w2⟩:=st;have ez:e≠z:=by rintro rfl;have q3:=w1.symm.trans q1;injection q3 with q3;subst q3;exact absurd (show Value.type "zip"=Value.type "StopIteration" from w2) ∅
  exact⟨o,((fV _ _ _).2 _ ez).trans w1,w2⟩
theorem a2E{E:Value->Shared->Prop}{s:Shared}{TI TO i1 i2:Addr}{xs:Array Value}{a b:Value}{Q:Option Value->Shared->Prop}(hh:A.handled=none)
 (D:ZipApart z TI TO i1 i2 l1 l2) (hz:IsZip s.heap z TI TO .none) (ce:IsPair s.heap TI (.ref i1) (.ref i2)) (cp:IsPair s.heap TO a b) (h1:s.heap.IsTupleIter i1 l1 k1) (h2:s.heap.IsListIter i2 l2 k2) (p1:s.heap.IsTuple l1 xs) (p2:s.heap.IsList l2 ys) (hn:xs[k1]? =none∨ys[k2]? =none)
 (h:∀(h':Heap),(∀(c:Addr)(o:Obj),c≠z->c≠TO->c≠i1->c≠i2->s.heap.get? c=some o->h'.get? c=some o)->Q none {s with heap:=h'}):
 wpAny (model prog w) A (pyNext (.ref z)) Q E s:=by
 have ti:s.TypeIs (.ref z) "zip":=⟨_,hz,rfl⟩;unfold pyNext;refine fv (wpAny_attempt (gb ti PySem.F.slot_zip_next (wpAny_call (gU PySem.F.slot_zip_next.plain PySem.F.entry_zip_next (PySem.F.slot_zip_next.check _ _ _ _ _ _ _ _ ti (PySem.F.args_zip_next_1 _) ?_)))));refine b0s (A:=A.in1) hh D hz ce cp h1 h2 p1 p2 hn λh' e k st=>?_;exact fv (wpAny_isInstance (T:="StopIteration") (b:=true) st rfl (fG (h h' k)))
def oIt(a:Addr):Obj:={cls:=.type "tuple_iterator",data:=.fields #[.ref a,.int 0 0]}
def oIl(a:Addr):Obj:={cls:=.type "list_iterator",data:=.fields #[.ref a,.int 0 0]}
def oTp(l:List Value):Obj:={cls:=.type "tuple",data:=.seq l.toArray}
def oZp(i j:Nat):Obj:={cls:=.type "zip",data:=.fields #[.none,.bool false,.bool false,.ref i,.ref j]}
def zA(h:Heap)(a:Addr):Heap:=h.push (oIt a)
def zB(h:Heap)(a b:Addr):Heap:=(zA h a).push (oIl b)
def zC(h:Heap)(a b:Addr):Heap:=(zB h a b).push (oTp [.ref h.objs.size,.ref (zA h a).objs.size])
def zD(h:Heap)(a b:Addr):Heap:=(zC h a b).push (oTp [.none,.none])
def zE(h:Heap)(a b:Addr):Heap:=(zD h a b).push (oZp (zB h a b).objs.size (zC h a b).objs.size)
theorem b5c(a b:Addr)(xs ys:Array Value):Meets (Builtin.«zip.__new__» ⟨[.type "zip",.ref a,.ref b],[]⟩) (λ_ R s=>s.heap.IsTuple a xs/\s.heap.IsList b ys/\R (.ok (.ret (.ref (zD s.heap a b).objs.size))) {s with heap:=zE s.heap a b}):=
 .of_wp λprog w A R s h=>by
  obtain⟨u,g,d,tk,os⟩:=s;obtain⟨h1,h2,h⟩:=h;have hsub:=sub_zip;have e1:Heap.IsTuple (Shared.heap ⟨u,g,d,tk,os⟩) a xs:=h1;have e2:Heap.IsList (Shared.heap ⟨u.push {cls:=.type "tuple_iterator",data:=.fields #[.ref a,.int 0 0]},g,d,tk,os⟩) b ys:=h2.at λo e=>fF _ e
  wp_walk using wpAny_pyIter_tuple e1,hW e2
  exact⟨_,rfl,h⟩
variable{b:Addr}
theorem b3w{E:Value->Shared->Prop}{s:Shared}{xs:Array Value}(h1:s.heap.IsTuple a xs)(h2:s.heap.IsList b ys)
 (h:∀h':Heap,IsZip h' (s.heap.objs.size+4) (s.heap.objs.size+2) (s.heap.objs.size+3) .none->IsPair h' (s.heap.objs.size+2) (.ref s.heap.objs.size) (.ref (s.heap.objs.size+1))->IsPair h' (s.heap.objs.size+3) .none .none->h'.IsTupleIter s.heap.objs.size a 0->h'.IsListIter (s.heap.objs.size+1) b 0->(∀c o,s.heap.get? c=some o->h'.get? c=some o)->Q (.ref (s.heap.objs.size+4)) {s with heap:=h'}):
 wpAny (model prog w) A (call (.type "zip") [.ref a,.ref b]) Q E s:=by
 refine callType_new F.called_zip ∅ (F.typeCall_zip_2 _ _) (F.newCall_zip_2 _ _) (λobj=>F.args_object_init_3 obj _ _) F.entry_zip_new (b5c a b xs ys) ⟨h1,h2,?_⟩;have n1:(zA s.heap a).objs.size=s.heap.objs.size+1:=gu ..;have n2:(zB s.heap a b).objs.size=s.heap.objs.size+2:=(gu ..).trans (by rw[n1]);have n3:(zC s.heap a b).objs.size=s.heap.objs.size+3:=(gu ..).trans (by rw[n2]);have n4:(zD s.heap a b).objs.size=s.heap.objs.size+4:=(gu ..).trans (by rw[n3]);have k4:(zE s.heap a b).get? (zD s.heap a b).objs.size=some (oZp (zB s.heap a b).objs.size (zC s.heap a b).objs.size):=fI _ rfl;have k3:(zE s.heap a b).get? (zC s.heap a b).objs.size=some (oTp [.none,.none]):=fF _ (fI _ rfl);have k2:(zE s.heap a b).get? (zB s.heap a b).objs.size=some (oTp [.ref s.heap.objs.size,.ref (zA s.heap a).objs.size]):=fF _ (fF _ (fI _ rfl));have k1:(zE s.heap a b).get? (zA s.heap a).objs.size=some (oIl b):=fF _ (fF _ (fF _ (fI _ rfl)));have k0:(zE s.heap a b).get? s.heap.objs.size=some (oIt a):=fF _ (fF _ (fF _ (fF _ (fI _ rfl))));rw[n2,n3,n4] at k4;rw[n3] at k3;rw[n1,n2] at k2;rw[n1] at k1;show _/\_;rw[n4];exact⟨⟨_,k4,rfl⟩,h _ k4 k2 k3 ⟨_,k0,rfl,rfl⟩ ⟨_,k1,rfl,rfl⟩ λc o e=>fF _ (fF _ (fF _ (fF _ (fF _ e))))⟩
noncomputable def b9p(K:Frag)(l1 l2:Addr):It:=⟨λi H=>∃xs ys x y,SqT K H l1 xs/\SqL K H l2 ys/\xs[i]? =some x/\ys[i]? =some y,
 λi H v H'=>∃T x y,H T=none/\v=.ref T/\(∀xs,SqT K H l1 xs->xs[i]? =some x)/\(∀ys,SqL K H l2 ys->ys[i]? =some y)/\H'=upd H T (.tup [x,y]),
 λi H=>∃xs ys,SqT K H l1 xs/\SqL K H l2 ys/\(↥xs<=i∨↥ys<=i)⟩
variable{dN:List Expr}
theorem a9r{k:Nat}(z TI TO i1 i2 l1 l2:Addr)(D:ZipApart z TI TO i1 i2 l1 l2):
 Turn P w K (.Tuple dN k pos) (b9p K l1 l2) [z,TI,TO,i1,i2] z (λi h=>IsZip h z TI TO .none/\IsPair h TI (.ref i1) (.ref i2)/\(∃a b,IsPair h TO a b)/\h.IsTupleIter i1 l1 i/\h.IsListIter i2 l2 i) where
 mem:=by simp
 obj:=λi h st b hb=>by
  obtain⟨hz,ce,⟨a,c,cp⟩,⟨o1,e1,c1,d1⟩,⟨o2,e2,c2,d2⟩⟩:=st;simp only[aF,not_mem_nil,gA] at hb;rcases hb with rfl|rfl|rfl|rfl|rfl
  · exact⟨_,hz,λv q=>by have q':Data.fields _=Data.cell v:=q;cases q'⟩
  · exact⟨_,ce,λv q=>by have q':Data.seq _ _=Data.cell v:=q;cases q'⟩
  · exact⟨_,cp,λv q=>by have q':Data.seq _ _=Data.cell v:=q;cases q'⟩
  · exact⟨o1,e1,λv q=>by rw[d1] at q;cases q⟩
  · exact⟨o2,e2,λv q=>by rw[d2] at q;cases q⟩
 keep:=λi h h' st k=>by obtain⟨hz,ce,⟨a,c,cp⟩,h1,h2⟩:=st;exact⟨k z ⋯ _ hz,k TI ⋯ _ ce,⟨a,c,k TO ⋯ _ cp⟩,h1.at λo x=>k i1 ⋯ o x,h2.at λo x=>k i2 ⋯ o x⟩
 item:=by
  intro X hP hw hK hc i bB s σ H E I hf st hg;subst hP hw hK;obtain⟨hz,ce,⟨a,c,cp⟩,h1,h2⟩:=st;obtain⟨xs,ys,x,y,hq1,hq2,hx,hy⟩:=hg;obtain⟨bD,rv,p,hz1⟩:=I.tuple hq1;obtain⟨its',rv',p',eN⟩:=I.list hq2;obtain⟨u,hu,ru⟩:=rv.get hx;obtain⟨u',hu',ru'⟩:=rv'.get hy;have hzlt:z<s.heap.objs.size:=fH hz;refine a2a D hz ce cp h1 h2 (show s.heap.IsTuple l1 bD.toArray from p) p'.isList (x:=u) (y:=u') (by simpa using hu) (by simpa using hu') λh' a1 a2 a3 a4 a5 a6 hk=>?_;refine⟨_,rfl,wpAny_letOwnedTupleGo_zip a1 λh3 hz3 dZ=>?_⟩;have kk:∀b o,b∉[z,TI,TO,i1,i2]->s.heap.get? b=some o->h3.get? b=some o:=λb o hb q=>by have n1:b≠z:=λw=>hb (by simp[w]);exact(dZ.2 b n1).trans (hk b o n1 (λw=>hb (by simp[w])) (λw=>hb (by simp[w])) (λw=>hb (by simp[w])) q)
  have hT3:h3.get? s.heap.objs.size=some {cls:=.type "tuple",data:=.seq #[u,u']}:=(dZ.2 _ (gF hzlt)).trans a5;have I1:Inv X bB σ (upd H s.heap.objs.size (.tup [x,y])) {s with heap:=h3,toks:=s.toks}:=
   I.turnedN (fp:=[z,TI,TO,i1,i2]) hf kk (aj _) ⟨by show 2<=sizeLine;decide,[u,u'],.cons ru (.cons ru' .nil),_,hT3,rfl,rfl,_,rfl⟩
  refine⟨.ref s.heap.objs.size,_,I1,rfl,⟨s.heap.objs.size,x,y,I.hok.fresh (aj _),rfl,λzs hy=>by rw[I.tuple_inj hy hq1];exact hx,λzs hy'=>by rw[I.list_inj hy' hq2];exact hy,rfl⟩,
   ⟨hz3,(dZ.2 _ D.TIz).trans (hk _ _ D.TIz D.TITO D.TIi1 D.TIi2 ce),⟨_,_,(dZ.2 _ D.TOz).trans a2⟩,a3.at λo x=>(dZ.2 _ D.i1z).trans x,a4.at λo x=>(dZ.2 _ D.i2z).trans x⟩,λb hb=>?_⟩
  have hbs:b<s.heap.objs.size:=by
   obtain⟨o1,e1,_⟩:=h1;obtain⟨o2,e2,_⟩:=h2;simp only[aF,not_mem_nil,gA] at hb;rcases hb with rfl|rfl|rfl|rfl|rfl
   · exact hzlt
   · exact fH ce
   · exact fH cp
   · exact fH e1
   · exact fH e2
  rw[n0 (fP hbs)];exact(hf b hb).1
 done:=by
  intro X hP hw hK hc i bB s σ H E I hf st hg;subst hP hw hK;obtain⟨hz,ce,⟨a,c,cp⟩,h1,h2⟩:=st;obtain⟨xs,ys,hq1,hq2,hx⟩:=hg;obtain⟨bD,rv,p,hz1⟩:=I.tuple hq1;obtain⟨its',rv',p',eN⟩:=I.list hq2;have hl:=↥rv;have hl':=↥rv';refine a2E (I.ok.hd hc) D hz ce cp h1 h2 (show s.heap.IsTuple l1 bD.toArray from p) p'.isList ?_ λh' eb=>⟨rfl,I.turnedF (t':=s.toks) hf λb o hb q=>eb b o (λz=>hb (by simp[z])) (λz=>hb (by simp[z])) (λz=>hb (by simp[z])) (λz=>hb (by simp[z])) q⟩;rcases hx with hx|hx
  · exact .inl (by simp;ac_nf)
  · exact .inr (by simp;ac_nf)
 self:=λA i s Q E st h=>gS st.1 h
section
variable{X:Cx}{k:Nat}{ef:Pos}
def c0w(K:Frag)(ta:TA):TI:=λσ H R=>ta σ H λvs H1=>∃l1 l2 xs ys,vs=[.ref l1,.ref l2]/\((SqL K H1 l1 xs/\SqL K H1 l2 ys/\R (Itz K l1 l2) H1)∨(SqT K H1 l1 xs/\SqL K H1 l2 ys/\R (b9p K l1 l2) H1))
theorem b4I{a b:Expr}(hg:Gl X "zip")(hm:X.mg "zip"=none)(ha:PA X [a,b] ta)(hs:starEach [a,b] X.env=(false,eval a X.env)::starEach [b] X.env)(hp:(backTo pos (starEach [b] X.env)).any (·.1)=false):
 PI X (.Tuple dN k ef) (.Call (.Name "zip" p) [a,b] [] pos) (c0w X.K ta):=by
 intro bB s σ H R I h;refine Call_ (a0i I hg hm boot_zip (gi (thn (ha pos bB s σ H _ I h) λus s1 zz=>?_) hs hp));obtain⟨vs,H1,I1,r1,q1⟩:=zz;obtain⟨l1,l2,xs,ys,e,⟨hq1,hq2,q⟩|⟨hq1,hq2,q⟩⟩:=q1<;>subst e
 · obtain⟨u,u',rfl,ru,ru'⟩:=a4p r1;cases ru;cases ru';obtain⟨bD,rv,pl,hz⟩:=I1.list hq1;obtain⟨its',rv',pl',hz'⟩:=I1.list hq2;refine call_zip_2 pl.isList pl'.isList λh' a1 a2 a3 a4 a5 a6 hk=>?_;have I2:Inv X bB σ H1 {s1 with heap:=h'}:=I1.kept (t':=s1.toks) hk;have lt1:l1<s1.heap.objs.size:=by obtain⟨o,e,_⟩:=pl.isList;exact fH e
   have lt2:l2<s1.heap.objs.size:=by obtain⟨o,e,_⟩:=pl'.isList;exact fH e
   refine gS a1 ⟨s1.heap.objs.size+4,[s1.heap.objs.size+4,s1.heap.objs.size+2,s1.heap.objs.size+3,s1.heap.objs.size,s1.heap.objs.size+1],_,_,H1,rfl,I2,b0x _ _ _ _ _ l1 l2 (zipApart_new lt1 lt2),⟨a1,a2,⟨_,_,a3⟩,a4,a5⟩,λb hb=>?_,q⟩;have hb':s1.heap.objs.size<=b:=by
    simp only[aF,not_mem_nil,gA] at hb;rcases hb with rfl|rfl|rfl|rfl|rfl
    · exact ga _ _
    · exact ga _ _
    · exact ga _ _
    · exact aj _
    · exact ga _ _
   exact I1.fpOk hb' (I1.hok.fresh hb')
 · obtain⟨u,u',rfl,ru,ru'⟩:=a4p r1;cases ru;cases ru';obtain⟨bD,rv,pl,hz⟩:=I1.tuple hq1;obtain⟨its',rv',pl',hz'⟩:=I1.list hq2;refine b3w (show s1.heap.IsTuple l1 bD.toArray from pl) pl'.isList λh' a1 a2 a3 a4 a5 hk=>?_;have I2:Inv X bB σ H1 {s1 with heap:=h'}:=I1.kept (t':=s1.toks) hk;have lt1:l1<s1.heap.objs.size:=by obtain⟨o,e,_⟩:=pl;exact fH e
   have lt2:l2<s1.heap.objs.size:=by obtain⟨o,e,_⟩:=pl'.isList;exact fH e
   refine gS a1 ⟨s1.heap.objs.size+4,[s1.heap.objs.size+4,s1.heap.objs.size+2,s1.heap.objs.size+3,s1.heap.objs.size,s1.heap.objs.size+1],_,_,H1,rfl,I2,a9r _ _ _ _ _ l1 l2 (zipApart_new lt1 lt2),⟨a1,a2,⟨_,_,a3⟩,a4,a5⟩,λb hb=>?_,q⟩;have hb':s1.heap.objs.size<=b:=by
    simp only[aF,not_mem_nil,gA] at hb;rcases hb with rfl|rfl|rfl|rfl|rfl
    · exact ga _ _
    · exact ga _ _
    · exact ga _ _
    · exact aj _
    · exact ga _ _
   exact I1.fpOk hb' (I1.hok.fresh hb')
end
variable{n:Nat}
section
variable{s:Shared}{P:Fin->Shared->Prop}{E:Value->Shared->Prop}
theorem a7Z(S it:Addr)(c₀:Nat){o:Obj}{bD:Array Value}
 (hS:s.heap.get? S=some {cls:=.type "list",data:=.seq bD c₀}) (ho:s.heap.get? it=some o) (hc:o.cls=.type "tuple") (hd:o.data=.seq items n)
 (hl:¬(!bD.isEmpty&&listTooLong (bD.size+items.size))=true) (hz:bD.size<=sizeLine) (eN:(bD++items).size<=sizeLine+1)
 (hR:P (.done (.ret .none)) {s with heap:=s.heap.update S (Obj.mapSeq (· ++items))}):wpAny (model prog w) A.in1 (Builtin.«list.extend» ⟨[.ref S,.ref it],[]⟩) P E s:=by
 show wpAny _ A.in1 (listExtendWith (.ref S) (.ref it) .none) _ _ s;unfold listExtendWith;refine fv (wpAny_typeOf ⟨o,ho,hc⟩ ?_);have h1:(Builtin.List.listSameRef (.ref S) (.ref it)||Value.type "tuple"==Value.type "list"||Value.type "tuple"==Value.type "tuple")=true:=by simp
 simp only[h1,fU];refine fv ?_;unfold listItems;refine fv (fX ho hd (fG ?_));refine fv ?_;refine fv (fX hS rfl (fG ?_));rw[az hl];show wpAny _ A.in1 (updateSeq S (· ++items)>>=λ_=>ret .none) _ _ s;refine fv (wpAny_updateSeq hS rfl (hz:=hz) (_hz':=eN) ?_);exact fG hR
end
theorem b0d(l b:Addr)(bD bJ:Array Value)(n:Nat)(hl:¬(!bD.isEmpty&&listTooLong (bD.size+bJ.size))=true)(hz:bD.size<=sizeLine)(eN:(bD++bJ).size<=sizeLine+1):
 Meets (Builtin.«list.extend» ⟨[.ref l,.ref b],[]⟩) (λ_ R s=>s.heap.get? l=some {cls:=.type "list",dict:=none,data:=.seq bD n,slots:= #[]}/\IsTup s.heap b bJ/\R (.ok (.ret .none)) {s with heap:=s.heap.update l (Obj.mapSeq λx=>x++bJ),toks:=s.toks}):=
 .of_wp λprog w A R s h=>by obtain⟨h1,h2,h3⟩:=h;obtain⟨o,e1,e2,m,e3⟩:=h2;exact a7Z l b n h1 e1 e2 e3 hl hz eN ⟨_,rfl,h3⟩
section
variable{X:Cx}
def b9X:V->List V->Hp->VK->Prop:=λx vs H Q=>∃l b xs zs,x=.ref l/\vs=[.ref b]/\H l=some (.lst xs)/\SqT X.K H b zs/\↥xs+↥zs<=sizeLine/\Q .non (upd H l (.lst (xs++zs)))
theorem b5f:MtM X "list.extend" (b9X (X:=X)):=by
 intro bB s σ H x vs v us Q I rx rv h;obtain⟨l,b,xs,zs,rfl,rfl,hH,hB,hz,q⟩:=h;cases rx;obtain⟨u,rfl,ru⟩:=rv.one;cases ru;obtain⟨z,bD,n,r,hl,e⟩:=I.lstM hH;obtain⟨bJ,r2,e2,eJ⟩:=I.tuple hB;have l1:=↥r;have l2:=↥r2;have hsz:bD.toArray.size+bJ.toArray.size<=sizeLine:=by rw[size_toArray,size_toArray];ac_nf
 have hlong:¬(!bD.toArray.isEmpty&&listTooLong (bD.toArray.size+bJ.toArray.size))=true:=by rw[a6C hsz,Bool.and_false];exact bq
 refine hV F.slot_list_extend ⟨_,e,rfl⟩ F.entry_list_extend (F.args_list_extend_2 _ _)
  (b0d l b bD.toArray bJ.toArray n hlong (by rw[size_toArray];ac_nf) (by rw[Array.size_append];ac_nf)) ⟨e,e2,?_⟩
 refine⟨.non,_,I.lset (its':=bD++bJ) hH e ⋯ (r.append r2) ?_,rfl,q⟩;rw[aq];ac_nf
end
variable{tg:Expr}
section
variable{X:Cx}{a:Expr}{ta:TE}{p2:Pos}
def Itv(K:Frag)(a:Addr)(n:Nat):It:=
 ⟨λi H=>∃xs x,SqL K H a xs/\i<n/\xs[n-1-i]? =some x,λi H x H'=>H'=H/\∀xs,SqL K H a xs->xs[n-1-i]? =some x,λi _=>i=n⟩
theorem b0y(a it:Addr)(n:Nat):Turn P w K tg (Itv K a n) [it] it (λi h=>h.IsRevIter it a ((n:Int)-1-(i:Int))) where
 mem:=.head _
 obj:=λi h st b hb=>by obtain rfl:=aO.mp hb;obtain⟨o,e,c,d⟩:=st;exact⟨o,e,λv z=>by rw[d] at z;cases z⟩
 keep:=λi h h' st k=>st.at λo e=>k it (.head _) o e
 item:=by
  intro X hP hw hK hc i bB s σ H E I hf st hg;subst hP hw hK;obtain⟨xs,x,hq,hi,hx⟩:=hg;obtain⟨bD,rv,p,hz⟩:=I.list hq;obtain⟨u,hu,ru⟩:=rv.get hx;obtain⟨f0,f1,f2,f3,f4,f5⟩:=hf it (.head _);have e:(n:Int)-1-(i:Int)=((n-1-i:Nat):Int):=by ac_nf
  have e2:((n-1-i:Nat):Int)-1=(n:Int)-1-((i+1:Nat):Int):=by ac_nf
  replace st:s.heap.IsRevIter it a ((n:Int)-1-(i:Int)):=st;rw[e] at st;refine wpAny_pyNext_rev_item st p.isList (x:=u) (by simpa using hu) λh' eh sb=>?_;rw[e2] at eh;have I1:Inv X bB σ H {s with heap:=h'}:=I.turned (t':=s.toks) (λb o hb e=>(sb.2 b hb).trans e) f0 f1 f3 f4 f5;obtain⟨o,e,c,d⟩:=id eh;exact⟨u,rfl,a6S (s:={s with heap:=h'}) e c d ∅ ⟨x,H,I1,ru,⟨rfl,λys hy=>by rw[I.list_inj hy hq];exact hx⟩,eh,λb hb=>(hf b hb).1⟩⟩
 done:=by intro X hP hw hK hc i bB s σ H E I hf st hg;subst hP hw hK;obtain rfl:i=n:=hg;obtain⟨f0,f1,f2,f3,f4,f5⟩:=hf it (.head _);replace st:s.heap.IsRevIter it a ((i:Int)-1-(i:Int)):=st;rw[show(i:Int)-1-(i:Int)= -1 by ac_nf] at st;exact wpAny_pyNext_rev_end (I.ok.hd hc) st λh' eb=>⟨rfl,I.turned (t':=s.toks) (λb o hb e=>eb b o hb e) f0 f1 f3 f4 f5⟩
 self:=λ_ _ _ _ _ st h=>wpAny_pyIter_revIter st h
def c2C(K:Frag)(ta:TE):TI:=λσ H R=>ta σ H λx H1=>∃l xs,x=.ref l/\SqL K H1 l xs/\R (Itv K l ↥xs) H1
theorem b7s(hg:Gl X "reversed")(hm:X.mg "reversed"=none)(ha:PE X a ta)(hp:starEach [a] X.env=[(false,eval a X.env)]):PI X tg (.Call (.Name "reversed" p) [a] [] pos) (c2C X.K ta):=by
 intro bB s σ H R I h;refine Call_ (a0i I hg hm boot_reversed (gi ?_ (by rw[hp];rfl) rfl));rw[hp];refine gY (thn (ha bB s σ H _ I h) λv s1 zz=>Calls.spliced_nil ?_);obtain⟨x,H1,I1,r1,l,xs,rfl,hd,q1⟩:=zz;cases r1;obtain⟨bD,rv,p,hz⟩:=I1.list hd;have hl:=↥rv;refine call_reversed_list p.isList ?_;have st:(s1.heap.push (revObj l ((bD.toArray.size:Int)-1))).IsRevIter s1.heap.objs.size l ((↥xs:Int)-1-((0:Nat):Int)):=⟨_,fI _ rfl,rfl,by rw[hl,size_toArray,Int.ofNat_zero,Int.sub_zero];rfl⟩
 refine wpAny_pyIter_revIter st ⟨s1.heap.objs.size,[s1.heap.objs.size],_,_,H1,rfl,I1.kept (t':=s1.toks) λb o e=>fF _ e,b0y l _ ↥xs,st,λb hb=>?_,q1⟩;obtain rfl:=aO.mp hb;exact I1.fpOk (aj _) (I1.hok.fresh (aj _))
end
end L2
namespace HT
open PySem PySem.Spec PyProof.Rows
variable{sl:Addr}{items:Array Value}{vl:Value}{vu:Value}{lo:Option Int}{hi:Option Int}{Q:Value->Shared->Prop}
section
variable{prog:Program}{w:World}{A:Around}{E:Value->Shared->Prop}{s:Shared}
theorem a1J{t:Addr}(ht:IsTup s.heap t items)(hs:s.heap.IsSliceOf sl vl vu .none)(pl:IsPart vl lo)(pu:IsPart vu hi)
 (hw:sIx items.size 0 lo=0/\sIx items.size items.size hi=items.size) (h:Q (.ref t) s):wpAny (model prog w) A (getItem (.ref t) (.ref sl)) Q E s:=by
 obtain⟨os,hos,hcs,hds⟩:=id hs;have hTs:s.TypeIs (.ref sl) "slice":=⟨os,hos,hcs⟩;unfold getItem
 try with_reducible refine gr ?_
 first|refine fv (fG ?_)|skip
 refine fv (wpAny_sequenceKey ht.typeIs ∅ ?_);refine fv (gb (name:=Str.ofString "__getitem__") ht.typeIs gx
  (gR gx ht.typeIs entry_tuple_getitem ?_ (args_tuple_getitem _ _)))
 show wpAny _ _ (tupleItemsOf (.ref t)>>=_) _ _ s;refine fv (tupleItemsOf_ ht ?_);refine fv (wpAny_typeOf hTs ?_);rw[ay ∅];refine fv (W0 hs pl pu ?_);show wpAny _ _ (if(((sIx items.size 0 lo:Nat):Int)==0&&(1:Int)==1&&(sIx items.size items.size hi-sIx items.size 0 lo)==items.size)=true then _ else _) _ _ s;rw[hw.1,hw.2,ay ⋯];refine fv ?_;unfold Builtin.Tuple.tupleIsExact;refine fv (wpAny_typeOf ht.typeIs (fG ?_));rw[ay ∅]
 first
  |exact fv (gT (fG ⟨_,rfl,fG h⟩))
  |exact fv (gT (fv (fG (fG ⟨_,rfl,fG h⟩))))
end
end HT
namespace L2
open PySem PySem.Spec PyProof.Rows
variable{X:Cx}
theorem b4j:SlR X (λx lo hi H Q=>∃a xs,x=.ref a/\SqT X.K H a xs/\(HT.sIx ↥xs 0 lo=0/\HT.sIx ↥xs ↥xs hi=↥xs)/\Q (.ref a) H):=by
 intro bB s σ H x v vl vu lo hi sl Q I rx hs pl pu h;obtain⟨a,xs,rfl,hx,hw,q⟩:=h;cases rx;obtain⟨bD,r,ht,hz⟩:=I.tuple hx;have bP:bD.toArray.size=↥xs:=by rw[size_toArray];exact r.length.symm
 refine⟨"tuple",_,PyProof.Rows.slot_tuple_getitem.lookup,ht.typeIs,?_⟩;exact HT.a1J ht hs pl pu (by rw[bP];exact hw) ⟨.ref a,H,I,rfl,q⟩
end L2
namespace EV
open PySem L2
inductive D where
 |non|bl (b:Bool)|int (i:Int)|str (x:Str)|tup (l:List D)|ref (n:Nat)
 deriving Inhabited
mutual
def D.dec:(a b:D)->Decidable (a=b)
  | .non,b=>match b with
    |.non=>Decidable.isTrue rfl
    |.bl _=>Decidable.isFalse (λh=>nomatch h)|.int _=>Decidable.isFalse (λh=>nomatch h)|.str _=>Decidable.isFalse (λh=>nomatch h)|.tup _=>Decidable.isFalse (λh=>nomatch h)|.ref _=>Decidable.isFalse (λh=>nomatch h)
  | .bl x,b=>match b with
    |.bl y=>if h:x=y then Decidable.isTrue (by rw[h]) else Decidable.isFalse (λe=>h (by injection e))
    |.non=>Decidable.isFalse (λh=>nomatch h)|.int _=>Decidable.isFalse (λh=>nomatch h)|.str _=>Decidable.isFalse (λh=>nomatch h)|.tup _=>Decidable.isFalse (λh=>nomatch h)|.ref _=>Decidable.isFalse (λh=>nomatch h)
  | .int x,b=>match b with
    |.int y=>if h:x=y then Decidable.isTrue (by rw[h]) else Decidable.isFalse (λe=>h (by injection e))
    |.non=>Decidable.isFalse (λh=>nomatch h)|.bl _=>Decidable.isFalse (λh=>nomatch h)|.str _=>Decidable.isFalse (λh=>nomatch h)|.tup _=>Decidable.isFalse (λh=>nomatch h)|.ref _=>Decidable.isFalse (λh=>nomatch h)
  | .str x,b=>match b with
    |.str y=>if h:x=y then Decidable.isTrue (by rw[h]) else Decidable.isFalse (λe=>h (by injection e))
    |.non=>Decidable.isFalse (λh=>nomatch h)|.bl _=>Decidable.isFalse (λh=>nomatch h)|.int _=>Decidable.isFalse (λh=>nomatch h)|.tup _=>Decidable.isFalse (λh=>nomatch h)|.ref _=>Decidable.isFalse (λh=>nomatch h)
  | .tup x,b=>match b with
    | .tup y=>match D.decs x y with
      |.isTrue h=>Decidable.isTrue (by rw[h])
      |.isFalse h=>Decidable.isFalse (λe=>h (by injection e))
    |.non=>Decidable.isFalse (λh=>nomatch h)|.bl _=>Decidable.isFalse (λh=>nomatch h)|.int _=>Decidable.isFalse (λh=>nomatch h)|.str _=>Decidable.isFalse (λh=>nomatch h)|.ref _=>Decidable.isFalse (λh=>nomatch h)
  | .ref x,b=>match b with
    |.ref y=>if h:x=y then Decidable.isTrue (by rw[h]) else Decidable.isFalse (λe=>h (by injection e))
    |.non=>Decidable.isFalse (λh=>nomatch h)|.bl _=>Decidable.isFalse (λh=>nomatch h)|.int _=>Decidable.isFalse (λh=>nomatch h)|.str _=>Decidable.isFalse (λh=>nomatch h)|.tup _=>Decidable.isFalse (λh=>nomatch h)
def D.decs:(a b:List D)->Decidable (a=b)
  | [],b=>match b with
    |[]=>Decidable.isTrue rfl
    |_::_=>Decidable.isFalse (λh=>nomatch h)
  | x ::xs,b=>match b with
    |[]=>Decidable.isFalse (λh=>nomatch h)
    | y ::ys=>match D.dec x y with
      | .isTrue h1=>match D.decs xs ys with
        |.isTrue h2=>Decidable.isTrue (by rw[h1,h2])
        |.isFalse h2=>Decidable.isFalse (λe=>h2 (by injection e))
      |.isFalse h1=>Decidable.isFalse (λe=>h1 (by injection e))
end
instance:DecidableEq D:=D.dec
inductive Cell where
 |lst (l:List D)|rol (l:List D)|dict (l:List (D×D))|obj (c:Nat) (fs:List (Str×D))
 deriving DecidableEq
abbrev AH:=List Cell
inductive R(α:Type)where
 |ok (a:α) (h:AH)|no
def R.bind{α β:Type}(r:R α)(k:α->AH->R β):R β:=match r with
 |.ok a h=>k a h
 |.no=>.no
@[simp] theorem b9 {α β:Type} (a:α) (h:AH) (k:α->AH->R β):(R.ok a h).bind k=k a h:=rfl
@[simp] theorem b6h {α β:Type} (k:α->AH->R β):(R.no).bind k=.no:=rfl
mutual
def D.flat:D->Bool
  |.tup l=>D.flats l
  |.ref _=>false
  |_=>true
def D.flats:List D->Bool
  |[]=>true
  |d::r=>d.flat&&D.flats r
end
abbrev SL:Nat:=16777216
def v8(c:Cell)(h:AH):R D:=.ok (.ref ↥h) (h++[c])
def rdL(h:AH)(n:Nat):Option (List D):=match h[n]? with
 |some (.lst l)=>some l
 |some (.rol l)=>some l
 |_=>none
def a2N:Int->Bool
 |.ofNat n=>Nat.ble n 18446744073709551615
 |.negSucc n=>Nat.ble n 18446744073709551614
def a3l:Int->Bool
 |.ofNat n=>Nat.ble n 16777216
 |.negSucc n=>Nat.ble n 16777216
theorem a3m:∀{i:Int},a2N i=true-> -(2^64)<i/\i<2^64
 |.ofNat n,h=>by have h:=fS h;show-(2^64)<(n:Int)/\(n:Int)<2^64;ac_nf
 |.negSucc n,h=>by have h:=fS h;rw[Int.negSucc_eq];ac_nf
theorem a0H:∀{i:Int},a3l i=true-> -(2^62)<=i/\i<2^62
 |.ofNat n,h=>by have h:=fS h;show-(2^62)<=(n:Int)/\(n:Int)<2^62;ac_nf
 |.negSucc n,h=>by have h:=fS h;rw[Int.negSucc_eq];ac_nf
noncomputable def T0(h:AH):D->D->R D
 |.int i,.int j=>.ok (.int (i+j)) h
 |.str x,.str y=>if ↥x+↥y<=SL then .ok (.str (x++y)) h else .no
 |.ref a,.ref b=>match h[a]?,h[b]? with
  |some (.lst xs),some (.lst ys)=>if ↥xs+↥ys<=SL then v8 (.lst (xs++ys)) h else .no
  |_,_=>.no
 |.tup xs,.tup ys=>if ↥xs+↥ys<=SL then .ok (.tup (xs++ys)) h else .no
 |_,_=>.no
def a6B(h:AH):D->D->R D
 |.int i,.int j=>.ok (.int (i-j)) h
 |_,_=>.no
def O6(h:AH):D->D->R D
 |.int i,.int j=>if(a2N i||a2N j)=true then .ok (.int (i*j)) h else .no
 |.str x,.int k=>if a3l k=true/\↥x*k.toNat<=SL then .ok (.str (F8 k.toNat x)) h else .no
 |_,_=>.no
def z8(h:AH):D->D->R D
 |.int i,.int j=>if 0<j/\j<1073741824 then .ok (.int (i/j)) h else .no
 |_,_=>.no
def u8(h:AH):D->D->R D
 |.int i,.int j=>if 0<j then .ok (.int (i%j)) h else .no
 |_,_=>.no
def eqS(a b:D):Option Bool:=match a with
 |.int i=>(match b with
  |.int j=>some (decide (i=j))
  |_=>none)
 |.str i=>(match b with
  |.str j=>some (decide (i=j))
  |_=>none)
 |_=>none
def G3(p:Int->Int->Bool)(h:AH):D->D->R D
 |.int i,.int j=>.ok (.bl (p i j)) h
 |_,_=>.no
def a5p(i j:Str):Bool:=!(occurrences j i 0 ↥j 1).isEmpty
def y7:D->Bool
 |.non=>true|.bl _=>true|.int _=>true|.str _=>true
 |_=>false
noncomputable def eqF(a b:D):Bool:=match a with
 |.str x=>(match b with
  |.str y=>x==y
  |_=>false)
 |.int x=>(match b with
  |.int y=>x==y
  |.bl y=>x==(if y then 1 else 0)
  |_=>false)
 |.bl x=>(match b with
  |.bl y=>x==y
  |.int y=>(if x then 1 else 0)==y
  |_=>false)
 |.non=>(match b with
  |.non=>true
  |_=>false)
 |_=>false
def inD(x:D)(xs:List D):Bool:=xs.any λy=>eqF y x
noncomputable def same(h:AH):Nat->D->D->Bool
 |0,x,y=>decide (x=y)&&y7 x
 | n +1,x,y=>match x with
  |.tup l=>(match y with
   |.tup r=>decide (↥l=↥r)&&(l.zip r).all λp=>same h n p.1 p.2
   |_=>false)
  | .ref i=>(match y with
   | .ref j=>(match rdL h i with
    |some l=>(match rdL h j with
     |some r=>decide (↥l=↥r)&&(l.zip r).all λp=>same h n p.1 p.2
     |none=>false)
    |none=>false)
   |_=>false)
  |x=>decide (x=y)&&y7 x
def b3o(h:AH)(x y:D):Bool:=match x with
 |.ref _=>same h 5 x y
 |_=>false
def a7d(h:AH)(x y:D):Bool:=match x with
 |.tup _=>same h 5 x y
 |_=>false
def b7O(a b:D):Bool:=match a with
 |.tup l=>(match b with
  |.tup r=>!l.isEmpty&&r.isEmpty
  |_=>false)
 |_=>false
def J3(h:AH)(a b:D):R D:=match eqS a b with
 |some c=>.ok (.bl c) h
 |none=>if b3o h a b=true then .ok (.bl true) h else if a7d h a b=true then .ok (.bl true) h else if b7O a b=true then .ok (.bl false) h else .no
def a3y(h:AH)(a b:D):R D:=match eqS a b with
 |some c=>.ok (.bl (!c)) h
 |none=>if b3o h a b=true then .ok (.bl false) h else if a7d h a b=true then .ok (.bl false) h else .no
def K3:D->Option Key
 |.int i=>some (.inl i)
 |.str x=>some (.inr x)
 |_=>none
def G7:List D->Option (List Key)
 |[]=>some []
 |d::r=>match K3 d,G7 r with
  |some k,some ks=>some (k::ks)
  |_,_=>none
def K7:D->Option Bool
 |.int _=>some false
 |.str _=>some false
 |.tup l=>if(G7 l).isSome then some true else none
 |_=>none
def D7(k:D)(bC:List (D×D)):Bool:=(K7 k).isSome&&bC.all λp=>K7 p.1==K7 k
def o7(bC:List (D×D))(k:D):Option D:=(bC.find? λp=>decide (p.1=k)).map (·.2)
def a0b(bC:List (D×D))(k v:D):List (D×D):=if(bC.any λp=>decide (p.1=k))=true then bC.map (λp=>if p.1=k then(p.1,v) else p) else bC++[(k,v)]
def M9(neg:Bool)(h:AH):D->D->R D
 |.str i,.str j=>.ok (.bl (a5p i j !=neg)) h
 |x,.tup xs=>if y7 x&&xs.all y7 then .ok (.bl (inD x xs !=neg)) h else .no
 |x,.ref n=>match h[n]? with
  |some (.lst xs)=>if y7 x&&xs.all y7 then .ok (.bl (inD x xs !=neg)) h else .no
  |some (.rol xs)=>if y7 x&&xs.all y7 then .ok (.bl (inD x xs !=neg)) h else .no
  |some (.dict bC)=>if D7 x bC then .ok (.bl ((o7 bC x).isSome !=neg)) h else .no
  |_=>.no
 |_,_=>.no
inductive B where
 |add|sub|mul|div|mod|eq|ne|lt|le|gt|ge|isin|notin
 deriving DecidableEq
def op2(o:B)(h:AH)(a b:D):R D:=match o with
 |.add=>T0 h a b|.sub=>a6B h a b|.mul=>O6 h a b|.div=>z8 h a b|.mod=>u8 h a b
 |.eq=>J3 h a b|.ne=>a3y h a b
 |.lt=>G3 (λi j=>decide (i<j)) h a b|.le=>G3 (λi j=>decide (i<=j)) h a b|.gt=>G3 (λi j=>decide (j<i)) h a b|.ge=>G3 (λi j=>decide (j<=i)) h a b
 |.isin=>M9 false h a b|.notin=>M9 true h a b
noncomputable def ixD(h:AH):D->D->R D
 |.tup xs,.int i=>match atI xs i with
  |some d=>.ok d h
  |none=>.no
 |.str x,.int i=>if ↥x<=SL then(match atI x.cps.toList i with
  |some c=>.ok (.str ⟨#[c]⟩) h
  |none=>.no) else .no
 | .ref n,k=>match h[n]? with
  | some (.lst xs)=>(match k with
   |.int i=>(match atI xs i with
    |some d=>.ok d h
    |none=>.no)
   |_=>.no)
  | some (.rol xs)=>(match k with
   |.int i=>(match atI xs i with
    |some d=>.ok d h
    |none=>.no)
   |_=>.no)
  |some (.dict bC)=>if D7 k bC then(match o7 bC k with
   |some d=>.ok d h
   |none=>.no) else .no
  |_=>.no
 |_,_=>.no
def N4(xs:List D)(lo hi:Option Int):List D:=(xs.drop (HT.sIx ↥xs 0 lo)).take (HT.sIx ↥xs ↥xs hi-HT.sIx ↥xs 0 lo)
noncomputable def slD(h:AH)(lo hi:Option Int):D->R D
 |.str x=>if ↥x<=SL then .ok (.str (Txt.slice x lo hi)) h else .no
 |.tup xs=>.ok (.tup (N4 xs lo hi)) h
 |.ref n=>match rdL h n with
  |some xs=>v8 (.lst (N4 xs lo hi)) h
  |none=>.no
 |_=>.no
def Y1(h:AH)(f:Str):D->R D
 | .ref n=>match h[n]? with
  |some (.obj _ fs)=>(match fs.lookup f with
   |some d=>.ok d h
   |none=>.no)
  |_=>.no
 |_=>.no
inductive Bi where
 |len|str|int|list|tuple|all|any|max|dict
 deriving DecidableEq
def a7n:List D->Option (List Bool)
 |[]=>some []
 |.bl b::r=>(a7n r).map (b:: ·)
 |_::_=>none
def a3i:List D->Option (List Str)
 |[]=>some []
 |.str x::r=>(a3i r).map (x:: ·)
 |_::_=>none
def a6w:List D->Option (List (D×D))
 |[]=>some []
 |.tup [k,v]::r=>if(K3 k).isSome then(a6w r).map ((k,v):: ·) else none
 |_::_=>none
noncomputable def biL(b:Bi)(h:AH)(xs:List D):R D:=match b with
 |.len=>.ok (.int ↥xs) h
 |.list=>v8 (.lst xs) h
 |.tuple=>.ok (.tup xs) h
 |.all=>(match a7n xs with
  |some bs=>.ok (.bl (bs.all id)) h
  |none=>.no)
 |.any=>(match a7n xs with
  |some bs=>.ok (.bl (bs.any id)) h
  |none=>.no)
 |.dict=>(match a6w xs with
  |some bC=>v8 (.dict (bC.foldl (λa p=>a0b a p.1 p.2) [])) h
  |none=>.no)
 |_=>.no
def bi1(b:Bi)(h:AH)(d:D):R D:=match d with
 | .str x=>(match b with
  |.len=>if ↥x<=SL then .ok (.int ↥x) h else .no
  |.int=>if ↥x<=640 then(match PySem.intText? x with
   |some n=>.ok (.int n) h
   |none=>.no) else .no
  |_=>.no)
 |.tup xs=>(match b with
  |.len=>.ok (.int ↥xs) h
  |.list=>v8 (.lst xs) h
  |.tuple=>.ok (.tup xs) h
  |_=>.no)
 |.int i=>(match b with
  |.str=>if i.natAbs.log2<1920 then .ok (.str (toString i)) h else .no
  |.int=>.ok (.int i) h
  |_=>.no)
 |.bl k=>(match b with
  |.int=>.ok (.int (if k then 1 else 0)) h
  |_=>.no)
 | .ref n=>(match h[n]? with
  |some (.lst xs)=>biL b h xs
  |some (.rol xs)=>biL b h xs
  |some (.dict bC)=>(match b with
   |.len=>if D7 (.int 0) bC then .ok (.int ↥bC) h else .no
   |_=>.no)
  |_=>.no)
 |.non=>.no
def c2t(h:AH)(a b:D):R D:=match a with
 |.int i=>(match b with
  |.int j=>.ok (.int (if j>i then j else i)) h
  |_=>.no)
 |_=>.no
def biD(b:Bi)(h:AH)(ds:List D):R D:=match ds with
 |[]=>.no
 |d::l=>(match l with
  |[]=>bi1 b h d
  |e::l=>if b=.max/\l=[] then c2t h d e else .no)
inductive Mt where
 |append|split|join|starts|extend
 deriving DecidableEq
noncomputable def mtD(b:Mt)(h:AH):D->List D->R D
 | .ref n,[d]=>match b,h[n]? with
  |.append,some (.lst xs)=>if ↥xs<SL then .ok .non (h.set n (.lst (xs++[d]))) else .no
  | .extend,some (.lst xs)=>(match d with
   |.ref k=>(match h[k]? with
    |some (.lst ys)=>if ↥xs+↥ys<=SL then .ok .non (h.set n (.lst (xs++ys))) else .no
    |_=>.no)
   |.tup ys=>if ↥xs+↥ys<=SL then .ok .non (h.set n (.lst (xs++ys))) else .no
   |_=>.no)
  |_,_=>.no
 |.str x,[.str y]=>match b with
  |.split=>if 0<↥y/\↥x+2<=SL then v8 (.lst ((Txt.split x y).map D.str)) h else .no
  |.starts=>.ok (.bl (Txt.startswith x y)) h
  |_=>.no
 | .str x,[.ref n]=>match b with
  | .join=>(match rdL h n with
   |some xs=>(match a3i xs with
    |some ts=>if JoinOk x ts=true then .ok (.str (Txt.join x ts)) h else .no
    |none=>.no)
   |none=>.no)
  |_=>.no
 |_,_=>.no
noncomputable def mtT(b:Mt)(h:AH):D->Bool
 |.str _=>match b with
  |.split=>true|.join=>true|.starts=>true
  |_=>false
 |.ref n=>match b with
  |.append=>(rdL h n).isSome
  |.extend=>(rdL h n).isSome
  |_=>false
 |_=>false
def a7c(h:AH):D->D->D->R D
 |.ref n,k,x=>match h[n]? with
  |some (.dict bC)=>if D7 k bC&&(K3 k).isSome then .ok ((o7 bC k).getD x) h else .no
  |_=>.no
 |_,_,_=>.no
def b2j(h:AH):D->Bool
 |.ref n=>match h[n]? with
  |some (.dict _)=>true
  |_=>false
 |_=>false
noncomputable def a2q(h:AH)(o i v:D):R Unit:=match o with
 | .ref n=>match h[n]? with
  | some (.lst xs)=>(match i with
   |.int k=>(match ixN ↥xs k with
    |some j=>.ok () (h.set n (.lst (xs.set j v)))
    |none=>.no)
   |_=>.no)
  |some (.dict bC)=>if D7 i bC=true/\↥bC<SL then .ok () (h.set n (.dict (a0b bC i v))) else .no
  |_=>.no
 |_=>.no
def a4x(f:Str)(v:D):List (Str×D)->List (Str×D)
 |[]=>[(f,v)]
 |(g,x)::r=>if g=f then(g,v)::r else(g,x)::a4x f v r
def a5e(h:AH)(o:D)(f:Str)(v:D):R Unit:=match o with
 |.ref n=>match h[n]? with
  |some (.obj c fs)=>if ↥fs<1000 then .ok () (h.set n (.obj c (a4x f v fs))) else .no
  |_=>.no
 |_=>.no
variable{α:Type}
theorem ifs{c:Prop}[Decidable c]{a:Option α}{x:α}(h:(if c then a else none)=some x):c/\a=some x:=by
 split at h
 · rename_i z;exact⟨z,h⟩
 · cases h
theorem D.ind{P:D->Prop}{Q:List D->Prop}(h0:P .non)(h1:∀b,P (.bl b))(h2:∀i,P (.int i))(h3:∀x,P (.str x))(h4:∀l,Q l->P (.tup l))(h5:∀n,P (.ref n))(q0:Q [])(q1:∀d r,P d->Q r->Q (d::r)):
 (∀d,P d)/\∀l,Q l:=
 ⟨λd=>D.rec (motive_1:=P) (motive_2:=Q) h0 h1 h2 h3 h4 h5 q0 q1 d,λl=>by
  induction l with
  |nil=>exact q0
  |cons d r ih=>exact q1 d r (D.rec (motive_1:=P) (motive_2:=Q) h0 h1 h2 h3 h4 h5 q0 q1 d) ih⟩
mutual
def Rp(m:List Addr)(H:Hp):D->V->Prop
  |.non,v=>v=.non
  |.bl b,v=>v=.bl b
  |.int i,v=>v=.int i
  |.str x,v=>v=.str x
  |.tup l,v=>∃a vs,v=.ref a/\H a=some (.tup vs)/\Rps m H l vs
  |.ref n,v=>∃a,v=.ref a/\m[n]? =some a
def Rps(m:List Addr)(H:Hp):List D->List V->Prop
  |[],vs=>vs=[]
  |d::r,vs=>∃v t,vs=v::t/\Rp m H d v/\Rps m H r t
end
def Im:HO->Prop
 |.tup _=>True
 |.xd _=>True
 |_=>False
abbrev KIm(H H':Hp):Prop:=∀b o,Im o->H b=some o->H' b=some o
structure Keep(m m':List Addr)(H H':Hp):Prop where
 im:∀b o,Im o->H b=some o->H' b=some o
 out:∀b o,b∉m->H b=some o->H' b=some o
 fr:∀a,a∈m'->a∈m∨H a=none
theorem Keep.refl(m:List Addr)(H:Hp):Keep m m H H:=⟨λ_ _ _ h=>h,λ_ _ _ h=>h,λ_ h=>.inl h⟩
variable{m:List Addr}{m1:List Addr}{H:Hp}{H1:Hp}
theorem Keep.trans{m2:List Addr}{H2:Hp}(a:Keep m m1 H H1)(b:Keep m1 m2 H1 H2):Keep m m2 H H2:=by
 refine⟨λc o i h=>b.im c o i (a.im c o i h),λc o n h=>b.out c o (λz=>?_) (a.out c o n h),λc h=>?_⟩
 · rcases a.fr c z with q|q
   · exact n q
   · rw[h] at q;cases q
 · rcases b.fr c h with q|q
   · exact a.fr c q
   · by_cases hc:c∈m
     · exact .inl hc
     · cases e:H c with
       |none=>exact .inr rfl
       |some o=>rw[a.out c o hc e] at q;cases q
theorem Keep.new{p:Addr}{o:HO}(hp:H p=none):Keep m m H (upd H p o):=
 ⟨λb ob _ h=>by rw[n0 (w6 h hp)];exact h,λb ob _ h=>by rw[n0 (w6 h hp)];exact h,λ_ h=>.inl h⟩
theorem Keep.newc{p:Addr}{o:HO}(hp:H p=none):Keep m (m++[p]) H (upd H p o):=
 ⟨λb ob _ h=>by rw[n0 (w6 h hp)];exact h,λb ob _ h=>by rw[n0 (w6 h hp)];exact h,λa h=>by
  rcases aL.mp h with q|q
  · exact .inl q
  · simp at q;subst q;exact .inr hp⟩
variable{o':HO}
theorem Keep.put{p:Addr}{o:HO}{k:Nat}(hm:m[k]? =some p)(hp:H p=some o)(ni:¬Im o):Keep m m H (upd H p o'):=by
 refine⟨λb ob i h=>?_,λb ob n h=>?_,λ_ h=>.inl h⟩
 · have:b≠p:=λe=>by rw[e,hp] at h;cases h;exact ni i
   rw[n0 this];exact h
 · have:b≠p:=λe=>n (by rw[e];exact aH hm);rw[n0 this];exact h
theorem Keep.tup{m m':List Addr}{H H':Hp}(k:Keep m m' H H'){a:Addr}{vs:List V}(h:H a=some (.tup vs)):H' a=some (.tup vs):=k.im a _ trivial h
abbrev Pre(m m':List Addr):Prop:=∃t,m'=m++t
theorem Pre.refl(m:List Addr):Pre m m:=⟨[],by simp⟩
theorem Pre.trans{a b c:List Addr}(h:Pre a b)(k:Pre b c):Pre a c:=by obtain⟨t,rfl⟩:=h;obtain⟨u,rfl⟩:=k;exact⟨t++u,by simp⟩
theorem Pre.snoc(m:List Addr)(p:Addr):Pre m (m++[p]):=⟨[p],rfl⟩
variable{m':List Addr}{n:Nat}
theorem Pre.get(h:Pre m m'){a:Addr}(e:m[n]? =some a):m'[n]? =some a:=by obtain⟨t,rfl⟩:=h;rw[av (ac.mp e).1];exact e
variable{H':Hp}
theorem a2Q(p:Pre m m')(k:KIm H H'):(∀d v,Rp m H d v->Rp m' H' d v)/\∀l vs,Rps m H l vs->Rps m' H' l vs:=by
 refine D.ind (P:=λd=>∀v,Rp m H d v->Rp m' H' d v) (Q:=λl=>∀vs,Rps m H l vs->Rps m' H' l vs) ?_ ?_ ?_ ?_ ?_ ?_ ?_ ?_
 · intro v h;exact h
 · intro b v h;exact h
 · intro b v h;exact h
 · intro b v h;exact h
 · rintro l ih v ⟨a,vs,rfl,e,q⟩;exact⟨a,vs,rfl,k _ _ trivial e,ih vs q⟩
 · rintro n v ⟨a,rfl,e⟩;exact⟨a,rfl,p.get e⟩
 · intro vs h;exact h
 · rintro d r ih ihs vs ⟨v,t,rfl,q1,q2⟩;exact⟨v,t,rfl,ih v q1,ihs t q2⟩
variable{d:D}{v:V}
theorem Rp.mono(h:Rp m H d v)(p:Pre m m')(k:Keep m m' H H'):Rp m' H' d v:=(a2Q p k.im).1 d v h
theorem Rp.mono'(h:Rp m H d v)(p:Pre m m')(k:KIm H H'):Rp m' H' d v:=(a2Q p k).1 d v h
variable{l:List D}{vs:List V}
theorem Rps.mono(h:Rps m H l vs)(p:Pre m m')(k:Keep m m' H H'):Rps m' H' l vs:=(a2Q p k.im).2 l vs h
theorem Rps.mono'(h:Rps m H l vs)(p:Pre m m')(k:KIm H H'):Rps m' H' l vs:=(a2Q p k).2 l vs h
theorem a5i:(∀d v,D.flat d=true->Rp m H d v->Rp m' H d v)/\∀l vs,D.flats l=true->Rps m H l vs->Rps m' H l vs:=by
 refine D.ind (P:=λd=>∀v,D.flat d=true->Rp m H d v->Rp m' H d v) (Q:=λl=>∀vs,D.flats l=true->Rps m H l vs->Rps m' H l vs) ?_ ?_ ?_ ?_ ?_ ?_ ?_ ?_
 · intro v _ h;exact h
 · intro b v _ h;exact h
 · intro b v _ h;exact h
 · intro b v _ h;exact h
 · rintro l ih v f ⟨a,vs,rfl,e,q⟩;exact⟨a,vs,rfl,e,ih vs f q⟩
 · intro n v f;exact absurd f (by simp[D.flat])
 · intro vs _ h;exact h
 · rintro d r ih ihs vs f ⟨v,t,rfl,q1,q2⟩;rw[D.flats,ae] at f;exact⟨v,t,rfl,ih v f.1 q1,ihs t f.2 q2⟩
section
theorem Rps.len:∀{l:List D}{vs:List V},Rps m H l vs->↥vs=↥l
 |[],vs,h=>by rw[show vs=[] from h];rfl
 |d::r,vs,⟨v,t,e,_,q⟩=>by rw[e,length_cons,length_cons,Rps.len q]
theorem Rps.get:∀{l:List D}{vs:List V}{i:Nat}{d:D},Rps m H l vs->l[i]? =some d->∃v,vs[i]? =some v/\Rp m H d v
 |d'::r,vs,0,d,⟨v,t,e,q,_⟩,h=>by simp at h;subst h;exact⟨v,by rw[e];rfl,q⟩
 |d'::r,vs,i+1,d,⟨v,t,e,_,q⟩,h=>by obtain⟨w,h1,h2⟩:=Rps.get (i:=i) q (by simpa using h);exact⟨w,by rw[e];simpa using h1,h2⟩
 |[],_,_,_,_,h=>by simp at h
theorem Rps.app:∀{l l':List D}{vs eX:List V},Rps m H l vs->Rps m H l' eX->Rps m H (l++l') (vs++eX)
 |[],_,vs,_,h,k=>by rw[show vs=[] from h];exact k
 |d::r,_,vs,_,⟨v,t,e,q1,q2⟩,k=>by subst e;exact⟨v,_,rfl,q1,Rps.app q2 k⟩
theorem Rps.snoc(h:Rps m H l vs)(q:Rp m H d v):Rps m H (l++[d]) (vs++[v]):=h.app ⟨v,[],rfl,q,rfl⟩
theorem Rps.drop:∀{l:List D}{vs:List V}(n:Nat),Rps m H l vs->Rps m H (l.drop n) (vs.drop n)
 |[],vs,n,h=>by rw[show vs=[] from h];simp[Rps]
 |d::r,vs,0,h=>h
 |d::r,vs,n+1,⟨v,t,e,_,q⟩=>by subst e;exact Rps.drop n q
theorem Rps.take:∀{l:List D}{vs:List V}(n:Nat),Rps m H l vs->Rps m H (l.take n) (vs.take n)
 |[],vs,n,h=>by rw[show vs=[] from h];simp[Rps]
 |d::r,vs,0,h=>by simp[Rps]
 |d::r,vs,n+1,⟨v,t,e,q1,q⟩=>by subst e;exact⟨v,_,rfl,q1,Rps.take n q⟩
theorem Rps.set:∀{l:List D}{vs:List V}{d:D}{v:V}(n:Nat),Rps m H l vs->Rp m H d v->Rps m H (l.set n d) (vs.set n v)
 |[],vs,_,_,n,h,_=>by rw[show vs=[] from h];simp[Rps]
 |d::r,vs,_,_,0,⟨v,t,e,q1,q⟩,k=>by subst e;exact⟨_,t,rfl,k,q⟩
 |d::r,vs,_,_,n+1,⟨v,t,e,q1,q⟩,k=>by subst e;exact⟨v,_,rfl,q1,Rps.set n q k⟩
theorem Rps.strs:∀{ts:List Str},Rps m H (ts.map D.str) (ts.map V.str)
 |[]=>rfl
 |x::r=>⟨_,_,rfl,rfl,Rps.strs⟩
theorem Rps.cut(h:Rps m H l vs)(lo hi:Option Int):Rps m H (N4 l lo hi) (a7e vs lo hi):=by unfold N4 a7e;rw[h.len];exact(h.drop _).take _
theorem Rps.at{i:Int}(h:Rps m H l vs)(e:atI l i=some d):∃v,atI vs i=some v/\Rp m H d v:=by
 unfold atI at e⊢;rw[h.len];cases q:ixN ↥l i with
 |none=>rw[q] at e;cases e
 |some j=>rw[q] at e;exact h.get e
theorem a6p:∀{l:List D}{ts:List Str}{vs:List V},a3i l=some ts->Rps m H l vs->vs=ts.map V.str
 |[],ts,vs,e,h=>by cases e;exact h
 |d::r,ts,vs,e,⟨v,t,ev,q1,q2⟩=>by
  subst ev;cases d<;>simp only[a3i] at e<;>try cases e
  rename_i x;cases q:a3i r with
  |none=>rw[q] at e;cases e
  |some us=>rw[q] at e;cases e;rw[a6p q q2,show v=V.str x from q1];rfl
theorem a5f:∀{l:List D}{ts:List Bool}{vs:List V},a7n l=some ts->Rps m H l vs->vs=ts.map V.bl
 |[],ts,vs,e,h=>by cases e;exact h
 |d::r,ts,vs,e,⟨v,t,ev,q1,q2⟩=>by
  subst ev;cases d<;>simp only[a7n] at e<;>try cases e
  rename_i x;cases q:a7n r with
  |none=>rw[q] at e;cases e
  |some us=>rw[q] at e;cases e;rw[a5f q q2,show v=V.bl x from q1];rfl
end
structure Gm where
 K:Frag
 cA:Nat->Addr
 ob:List Nat
 xs:List Nat
def Fl(m:List Addr)(H:Hp):List (Str×D)->List (Str×V)->Prop:=Paired λp q=>p.1=q.1/\Rp m H p.2 q.2
def DK(m:List Addr)(H:Hp):List (D×D)->List (Key×V)->Prop:=Paired λp q=>K3 p.1=some q.1/\Rp m H p.2 q.2
def DT(m:List Addr)(H:Hp):List (D×D)->List (List Key×V)->Prop:=Paired λp q=>(∃l,p.1=.tup l/\G7 l=some q.1)/\Rp m H p.2 q.2
def G2(Γ:Gm)(m:List Addr)(H:Hp)(a:Addr):Cell->Prop
 |.lst l=>∃vs,H a=some (.lst vs)/\Rps m H l vs
 |.rol l=>∃vs,SqL Γ.K H a vs/\Rps m H l vs/\∃o,H a=some (.frz o (.lst vs))
 |.dict l=>(∃bC,H a=some (.dK bC)/\DK m H l bC)∨∃bC,H a=some (.dT bC)/\DT m H l bC
 |.obj c fs=>∃dx gs,H a=some (.ins (Γ.cA c) dx gs)/\Fl m H fs gs/\c∈Γ.ob
variable{Γ:Gm}
theorem G2.there{a:Addr}{c:Cell}(h:G2 Γ m H a c):∃o,H a=some o/\¬Im o:=by
 cases c with
 |lst l=>obtain⟨vs,e,_⟩:=h;exact⟨_,e,λz=>z⟩
 |rol l=>obtain⟨vs,_,_,o,e⟩:=h;exact⟨_,e,λz=>z⟩
 |dict l=>
  rcases h with⟨bC,e,_⟩|⟨bC,e,_⟩
  · exact⟨_,e,λz=>z⟩
  · exact⟨_,e,λz=>z⟩
 |obj c fs=>obtain⟨dx,gs,e,_⟩:=h;exact⟨_,e,λz=>z⟩
theorem Fl.mono{fs:List (Str×D)}{gs:List (Str×V)}(h:Fl m H fs gs)(p:Pre m m')(k:KIm H H'):Fl m' H' fs gs:=Paired.mapP h λ_ _ z=>⟨z.1,z.2.mono' p k⟩
variable{gs:List (Key×V)}
theorem DK.mono{fs:List (D×D)}(h:DK m H fs gs)(p:Pre m m')(k:KIm H H'):DK m' H' fs gs:=Paired.mapP h λ_ _ z=>⟨z.1,z.2.mono' p k⟩
theorem DT.mono{fs:List (D×D)}{gs:List (List Key×V)}(h:DT m H fs gs)(p:Pre m m')(k:KIm H H'):DT m' H' fs gs:=Paired.mapP h λ_ _ z=>⟨z.1,z.2.mono' p k⟩
theorem G2.mono'{a:Addr}{c:Cell}(h:G2 Γ m H a c)(p:Pre m m')(k:KIm H H')(e:H' a=H a):G2 Γ m' H' a c:=by
 cases c with
 |lst l=>obtain⟨vs,q,r⟩:=h;exact⟨vs,e.trans q,r.mono' p k⟩
 |rol l=>obtain⟨vs,s,r,o,q⟩:=h;exact⟨vs,.inl (.inr ⟨o,e.trans q⟩),r.mono' p k,o,e.trans q⟩
 |dict l=>
  rcases h with⟨bC,q,r⟩|⟨bC,q,r⟩
  · exact .inl ⟨bC,e.trans q,r.mono p k⟩
  · exact .inr ⟨bC,e.trans q,r.mono p k⟩
 |obj c fs=>obtain⟨dx,gs,q,r,z⟩:=h;exact⟨dx,gs,e.trans q,r.mono p k,z⟩
theorem G2.mono{a:Addr}{c:Cell}(h:G2 Γ m H a c)(p:Pre m m')(k:Keep m m' H H')(e:H' a=H a):G2 Γ m' H' a c:=h.mono' p k.im e
structure Sim(Γ:Gm)(ah:AH)(m:List Addr)(H:Hp):Prop where
 len:↥m=↥ah
 nd:m.Nodup
 cell:∀(n:Nat)(a:Addr)(c:Cell),m[n]? =some a->ah[n]? =some c->G2 Γ m H a c
section
variable{ah:AH}
theorem Sim.at(s:Sim Γ ah m H){a:Addr}{c:Cell}(h:m[n]? =some a)(e:ah[n]? =some c):G2 Γ m H a c:=s.cell n a c h e
theorem Sim.has(s:Sim Γ ah m H){a:Addr}(h:m[n]? =some a):∃c,ah[n]? =some c:=by have h:=(ac.mp h).1;rw[s.len] at h;exact⟨ah[n],ai h⟩
theorem Sim.fresh(s:Sim Γ ah m H){p:Addr}(hp:H p=none):p∉m:=λhm=>by obtain⟨n,hn⟩:=List.getElem?_of_mem hm;obtain⟨c,hc⟩:=s.has hn;obtain⟨o,e,_⟩:=(s.at hn hc).there;rw[hp] at e;cases e
theorem Sim.keep(s:Sim Γ ah m H)(k:Keep m m H H')(e:∀(n:Nat)(a:Addr),m[n]? =some a->H' a=H a):Sim Γ ah m H':=
 ⟨s.len,s.nd,λn a c h q=>(s.at h q).mono (Pre.refl m) k (e n a h)⟩
theorem Sim.same(s:Sim Γ ah m H)(k:c3a H H'):Sim Γ ah m H':=
 s.keep ⟨λb o _ h=>k b o h,λb o _ h=>k b o h,λ_ h=>.inl h⟩ λn a h=>by obtain⟨c,hc⟩:=s.has h;obtain⟨o,e,_⟩:=(s.at h hc).there;rw[e];exact k a o e
theorem Sim.new{p:Addr}{o:HO}(s:Sim Γ ah m H)(hp:H p=none):Sim Γ ah m (upd H p o):=s.same λb ob h=>by rw[n0 (w6 h hp)];exact h
theorem a1c{m:List Addr}{p:Addr}(nd:m.Nodup)(hp:p∉m):(m++[p]).Nodup:=by rw[nodup_append];refine⟨nd,by simp,λa ha b hb=>?_⟩;simp at hb;subst hb;rintro rfl;exact hp ha
theorem Sim.alloc{p:Addr}{o:HO}{c:Cell}(s:Sim Γ ah m H)(hp:H p=none)(h:G2 Γ (m++[p]) (upd H p o) p c):Sim Γ (ah++[c]) (m++[p]) (upd H p o):=by
 refine⟨by simp[s.len],a1c s.nd (s.fresh hp),λn a c' hn hc=>?_⟩
 by_cases hl:n<↥m
 · rw[av hl] at hn;rw[av (by rw[←s.len];exact hl)] at hc;have ok:=s.at hn hc;refine ok.mono (Pre.snoc m p) (Keep.newc hp) ?_;obtain⟨o',e,_⟩:=ok.there;rw[n0 (w6 e hp)]
 · have hn':n=↥m:=by have:=(ac.mp hn).1;simp at this;ac_nf
   subst hn';rw[au (aj _)] at hn;rw[s.len,au (aj _)] at hc;simp at hn hc;subst hn;subst hc;exact h
theorem Sim.write{k:Nat}{q:Addr}{o:HO}{c:Cell}(s:Sim Γ ah m H)(hk:m[k]? =some q)(hq:H q=some o)(ni:¬Im o)(h:G2 Γ m (upd H q o') q c):Sim Γ (ah.set k c) m (upd H q o'):=by
  refine⟨by simp[s.len],s.nd,λn a c' hn hc=>?_⟩
  by_cases e:n=k
  · subst e;rw[hk] at hn;cases hn;rw[fY (by rw[←s.len];exact(ac.mp hk).1)] at hc;cases hc;exact h
  · rw[fO (fR e)] at hc;have ne:a≠q:=λz=>by subst z;exact e (nodup_ixA s.nd hn hk)
    exact(s.at hn hc).mono (Pre.refl m) (Keep.put hk hq ni) (n0 ne)
where
  nodup_ixA {m:List Addr} (hN:m.Nodup) {i j:Nat} {x:Addr} (a:m[i]? =some x) (b:m[j]? =some x):i=j:=by obtain⟨h1,e1⟩:=ac.mp a;obtain⟨h2,e2⟩:=ac.mp b;exact(getElem_inj hN).mp (e1.trans e2.symm)
theorem Sim.lst(s:Sim Γ ah m H){n:Nat}{l:List D}(e:ah[n]? =some (.lst l)){v:V}(r:Rp m H (.ref n) v):∃a vs,v=.ref a/\m[n]? =some a/\H a=some (.lst vs)/\Rps m H l vs:=by obtain⟨a,rfl,hm⟩:=r;obtain⟨vs,e1,e2⟩:=s.at hm e;exact⟨a,vs,rfl,hm,e1,e2⟩
theorem Sim.rdL(s:Sim Γ ah m H)(e:rdL ah n=some l)(r:Rp m H (.ref n) v):∃a vs,v=.ref a/\m[n]? =some a/\SqL Γ.K H a vs/\Rps m H l vs:=by
 obtain⟨a,rfl,hm⟩:=r;unfold EV.rdL at e;split at e
 · rename_i l' q;cases e;obtain⟨vs,e1,e2⟩:=s.at hm q;exact⟨a,vs,rfl,hm,.inl (.inl e1),e2⟩
 · rename_i l' q;cases e;obtain⟨vs,e1,e2,_⟩:=s.at hm q;exact⟨a,vs,rfl,hm,e1,e2⟩
 · cases e
end
abbrev o8:=List (Option D)
structure EnvRel(m:List Addr)(H:Hp)(env:o8)(σ:St):Prop where
 len:↥env=↥σ
 val:∀(i:Nat)(d:D),env[i]? =some (some d)->∃v,σ[i]? =some (some v)/\Rp m H d v
variable{env:o8}{σ:St}
theorem EnvRel.mono(h:EnvRel m H env σ)(p:Pre m m')(k:Keep m m' H H'):EnvRel m' H' env σ:=
 ⟨h.len,λi d e=>let⟨v,a,b⟩:=h.val i d e;⟨v,a,b.mono p k⟩⟩
theorem EnvRel.set(h:EnvRel m H env σ){i:Nat}(r:Rp m H d v):EnvRel m H (env.set i (some d)) (σ.set i (some v)):=by
 refine⟨by simp[h.len],λj d' e=>?_⟩
 by_cases q:j=i
 · subst q
   by_cases hl:j<↥env
   · rw[fY hl] at e;cases e;exact⟨v,fY (by rw[←h.len];exact hl),r⟩
   · rw[aW (by simp;ac_nf)] at e;cases e
 · rw[fO (fR q)] at e⊢;exact h.val j d' e
structure Rel(Γ:Gm)(env:o8)(ah:AH)(σ:St)(H:Hp)(m:List Addr):Prop where
 sim:Sim Γ ah m H
 env:EnvRel m H env σ
def i8(Γ:Gm)(E:XK)(m:List Addr)(H:Hp)(r:R D)(Q:VK):Prop:=match r with
 |.ok d eW=>∀m' H' v,Pre m m'->Keep m m' H H'->Sim Γ eW m' H'->Rp m' H' d v->Q v H'
 |.no=>False
variable{Q:VK}
theorem ifq{E:XK}{c:Prop}[Decidable c]{a:R D}(q:i8 Γ E m H (if c then a else .no) Q):c/\i8 Γ E m H a Q:=by
 split at q
 · rename_i z;exact⟨z,q⟩
 · exact q.elim
def k7{α:Type}(Γ:Gm)(E:XK)(m:List Addr)(H:Hp)(r:R α)(Q:α->AH->List Addr->Hp->Prop):Prop:=match r with
 |.ok a eW=>∀m' H',Pre m m'->Keep m m' H H'->Sim Γ eW m' H'->Q a eW m' H'
 |.no=>False
variable{β:Type}{ah:AH}
section
variable{E:XK}
theorem i8.later{r:R D}(h:i8 Γ E m H r Q)(p:Pre m m')(k:Keep m m' H H'):i8 Γ E m' H' r Q:=by
 cases r with
 |ok d ah=>exact λm2 H2 v p2 k2 s2 r2=>h m2 H2 v (p.trans p2) (k.trans k2) s2 r2
 |no=>exact h
theorem i8.bind{r:R α}{f:α->AH->R D}(h:i8 Γ E m H (r.bind f) Q):k7 Γ E m H r (λa bI m1 H1=>i8 Γ E m1 H1 (f a bI) Q):=by
 cases r with
 |ok d ah=>exact λm2 H2 p2 k2 s2=>i8.later h p2 k2
 |no=>exact h
theorem k7.later{r:R α}{Q:α->AH->List Addr->Hp->Prop}(h:k7 Γ E m H r Q)(p:Pre m m')(k:Keep m m' H H'):k7 Γ E m' H' r Q:=by
 cases r with
 |ok d ah=>exact λm2 H2 p2 k2 s2=>h m2 H2 (p.trans p2) (k.trans k2) s2
 |no=>exact h
theorem k7.bind{r:R α}{f:α->AH->R β}{Q:β->AH->List Addr->Hp->Prop}(h:k7 Γ E m H (r.bind f) Q):k7 Γ E m H r (λa bI m1 H1=>k7 Γ E m1 H1 (f a bI) Q):=by
 cases r with
 |ok d ah=>exact λm2 H2 p2 k2 s2=>k7.later h p2 k2
 |no=>exact h
theorem k7.val{r:R D}{P:D->AH->List Addr->Hp->Prop}(h:k7 Γ E m H r P)(k:∀d bI m1 H1 v,Pre m m1->Keep m m1 H H1->Sim Γ bI m1 H1->Rp m1 H1 d v->P d bI m1 H1->Q v H1):i8 Γ E m H r Q:=by
 cases r with
 |ok d ah=>exact λm2 H2 v p2 k2 s2 r2=>k d ah m2 H2 v p2 k2 s2 r2 (h m2 H2 p2 k2 s2)
 |no=>exact h
theorem i8.ok(h:i8 Γ E m H (.ok d ah) Q)(s:Sim Γ ah m H)(r:Rp m H d v):Q v H:=h m H v (Pre.refl m) (Keep.refl m H) s r
theorem i8.newc{c:Cell}{p:Addr}{o:HO}(h:i8 Γ E m H (v8 c ah) Q)(s:Sim Γ ah m H)(hp:H p=none)(ok:G2 Γ (m++[p]) (upd H p o) p c):Q (.ref p) (upd H p o):=by refine h (m++[p]) (upd H p o) (.ref p) (Pre.snoc m p) (Keep.newc hp) (s.alloc hp ok) ⟨p,rfl,?_⟩;rw[←s.len,au (aj _)];simp
theorem i8.newt{p:Addr}(h:i8 Γ E m H (.ok (.tup l) ah) Q)(s:Sim Γ ah m H)(hp:H p=none)(r:Rps m H l vs):Q (.ref p) (upd H p (.tup vs)):=
 h m _ (.ref p) (Pre.refl m) (Keep.new hp) (s.new hp) ⟨p,vs,rfl,i7,r.mono (Pre.refl m) (Keep.new hp)⟩
end
open PySem PySem.Spec L2
open PyProof.Rows hiding St
theorem Q8:SL=sizeLine:=by rw[gX]
theorem a3r{l:List α}{x:α}(h:l[n]? =some x):l.set n x=l:=by
 refine ext_getElem? λi=>?_
 by_cases e:i=n
 · subst e;rw[fY (ac.mp h).1,h]
 · rw[fO (fR e)]
variable{A:Around}{op:CmpOp}{u:V}{v':Value}{u':Value}{bB:List (Addr×Obj)}{bC:List (D×D)}
section
variable{X:Cx}{E:XK}
def rOf(Γ:Gm)(E:XK)(g:AH->D->D->R D):R2:=λx y H Q=>∃d1 d2 ah m,Sim Γ ah m H/\Rp m H d1 x/\Rp m H d2 y/\i8 Γ E m H (g ah d1 d2) Q
theorem OpR.imp{f:Value->Value->Sem Value}{r r':R2}(h:OpR X f r)(i:∀x y H Q,r' x y H Q->r x y H Q):OpR X f r':=λbB s σ H x y v u Q I rx ry q=>h bB s σ H x y v u Q I rx ry (i _ _ _ _ q)
open PyProof PyProof.Rows PySem.SeqAt PySem.MeetsSeq PySem.MeetsSeq2 PySem.MeetsSeq3 in
theorem b3s{prog:Program}{w:World}{E:Value->Shared->Prop}{s:Shared}{t b:Addr}{vs ws:List Value}{Q:Value->Shared->Prop}(ht:PyProof.Rows.IsTup s.heap t vs.toArray)(hb:PyProof.Rows.IsTup s.heap b ws.toArray)(hv:vs=[])(h0:Q (.ref b) s):wpAny (model prog w) A (binaryOp .Add (.ref t) (.ref b)) Q E s:=by obtain⟨⟨cls,dd,data,sl⟩,ho,hc,n,hd⟩:=id ht;obtain⟨⟨cls2,dd2,data2,sl2⟩,ho2,hc2,n2,hd2⟩:=id hb;simp only at hc hd hc2 hd2;subst hc hd hc2 hd2;exact concat_meets ⟨_,ho,rfl⟩ ⟨_,ho2,rfl⟩ noFill_tuple_add seq_tuple_add slot_tuple_add entry_tuple_add (args_tuple_add_2 _ _) (tuple_addW0 t b vs.toArray ws.toArray n n2 dd dd2 sl sl2 (by simp[hv])) ⟨ho,ho2,h0⟩
theorem b1E:OpR X (binaryOp .Add) (λx y H Q=>∃a b xs ys,x=.ref a/\y=.ref b/\SqT X.K H a xs/\SqT X.K H b ys/\xs=[]/\Q (.ref b) H):=by intro bB s σ H x y v u Q I rx ry h;obtain⟨a,b,xs,ys,rfl,rfl,ha,hb,hx,q⟩:=h;cases rx;cases ry;obtain⟨bD,r1,p1,_⟩:=I.tuple ha;obtain⟨bJ,r2,p2,_⟩:=I.tuple hb;exact b3s p1 p2 (r1.nil_iff.mpr hx) ⟨.ref b,H,I,rfl,q⟩
theorem c1c:OpR X (binaryOp .Add) (rOf Γ E T0):=by
 refine OpR.imp (b7N.or (a7F.or (b7M.or (b4W.or b1E)))) ?_;rintro x y H Q ⟨d1,d2,ah,m,s,r1,r2,q⟩;unfold T0 at q;split at q
 · cases r1;cases r2;exact .inl ⟨_,_,rfl,rfl,q.ok s rfl⟩
 · cases r1;cases r2;obtain⟨h,q⟩:=ifq q;exact .inr (.inl ⟨_,_,rfl,rfl,by rw[←Q8];exact h,q.ok s rfl⟩)
 · split at q
   · rename_i e1 e2;obtain⟨h,q⟩:=ifq q;obtain⟨a,vs,rfl,ha,h1,q1⟩:=s.lst e1 r1;obtain⟨b,ws,rfl,hb,h2,q2⟩:=s.lst e2 r2;refine .inr (.inr (.inl ⟨a,b,vs,ws,rfl,rfl,h1,h2,by rw[q1.len,q2.len,←Q8];exact h,λp hp=>q.newc s hp ⟨_,i7,?_⟩⟩));exact(q1.app q2).mono (Pre.snoc m p) (Keep.newc hp)
   · exact q.elim
 · split at q
   · rename_i xs ys h;obtain⟨a,vs,rfl,h1,q1⟩:=r1;obtain⟨b,ws,rfl,h2,q2⟩:=r2
     by_cases hx:xs=[]
     · subst hx;have:=q1.len;refine .inr (.inr (.inr (.inr ⟨a,b,vs,ws,rfl,rfl,.inl (.inl h1),.inl (.inl h2),length_eq_zero_iff.mp (by rw[this];rfl),?_⟩)));rw[nil_append] at q;exact q.ok s ⟨b,ws,rfl,h2,q2⟩
     refine .inr (.inr (.inr (.inl ⟨a,b,vs,ws,rfl,rfl,.inl (.inl h1),.inl (.inl h2),λe=>hx ?_,by rw[q1.len,q2.len,←Q8];exact h,λe=>?_,λ_ p hp=>q.newt s hp (q1.app q2)⟩)))
     · have:=q1.len;rw[e] at this;exact length_eq_zero_iff.mp this.symm
     · have:=q2.len;rw[e] at this;have z:ys=[]:=length_eq_zero_iff.mp this.symm;subst z;rw[aZ] at q;exact q.ok s ⟨a,vs,rfl,h1,q1⟩
   · exact q.elim
 · exact q.elim
theorem c0V:OpR X (binaryOp .Sub) (rOf Γ E a6B):=by
 refine OpR.imp b7E ?_;rintro x y H Q ⟨d1,d2,ah,m,s,r1,r2,q⟩;unfold a6B at q;split at q
 · cases r1;cases r2;exact⟨_,_,rfl,rfl,q.ok s rfl⟩
 · exact q.elim
theorem c0W:OpR X (binaryOp .Mult) (rOf Γ E O6):=by
 refine OpR.imp (b7H.or b4U) ?_;rintro x y H Q ⟨d1,d2,ah,m,s,r1,r2,q⟩;unfold O6 at q;split at q
 · cases r1;cases r2;obtain⟨h,q⟩:=ifq q;rw[bp] at h;exact .inl ⟨_,_,rfl,rfl,h.imp a3m a3m,q.ok s rfl⟩
 · cases r1;cases r2;obtain⟨h,q⟩:=ifq q;exact .inr ⟨_,_,rfl,rfl,(by have:=a0H h.1;ac_nf),(by have:=a0H h.1;ac_nf),by rw[←Q8];exact h.2,q.ok s rfl⟩
 · exact q.elim
theorem c1a:OpR X (binaryOp .FloorDiv) (rOf Γ E z8):=by
 refine OpR.imp b4V ?_;rintro x y H Q ⟨d1,d2,ah,m,s,r1,r2,q⟩;unfold z8 at q;split at q
 · cases r1;cases r2;obtain⟨h,q⟩:=ifq q;exact⟨_,_,rfl,rfl,h,q.ok s rfl⟩
 · exact q.elim
theorem c0X:OpR X (binaryOp .Mod) (rOf Γ E u8):=by
 refine OpR.imp b7I ?_;rintro x y H Q ⟨d1,d2,ah,m,s,r1,r2,q⟩;unfold u8 at q;split at q
 · cases r1;cases r2;obtain⟨h,q⟩:=ifq q;exact⟨_,_,rfl,rfl,h,q.ok s rfl⟩
 · exact q.elim
theorem c2K{x y:V}{b:Bool}(h:b=true↔x=y):b=decide (x=y):=by
 by_cases e:x=y
 · rw[ba e];exact h.mpr e
 · rw[bw e];cases b with
   |false=>rfl
   |true=>exact absurd (h.mp rfl) e
theorem b3h{d1 d2:D}{x y:V}{b:Bool}(e:eqS d1 d2=some b)(r1:Rp m H d1 x)(r2:Rp m H d2 y):scal x y=true/\b=decide (x=y):=by unfold eqS at e;split at e<;>first|(cases e;done)|(split at e<;>first|(cases e;done)|(cases e;cases r1;cases r2;refine⟨rfl,c2K ⟨λh=>?_,λh=>?_⟩⟩<;>first|(rw[aw h])|(injection h with h;exact ba h)))
theorem a9d{p:Int->Int->Bool}(h:OpR X (compareOp op) (rI0 λi j=>.bl (p i j))):OpR X (compareOp op) (rOf Γ E (G3 p)):=by
 refine OpR.imp h ?_;rintro x y H Q ⟨d1,d2,ah,m,s,r1,r2,q⟩;unfold G3 at q;split at q
 · cases r1;cases r2;exact⟨_,_,rfl,rfl,q.ok s rfl⟩
 · exact q.elim
theorem O1{x:V}(r:Rp m H d x)(f:y7 d=true):a0V x=true:=by cases d<;>first|(cases r;rfl)|(simp[y7] at f)
theorem O8{m:List Addr}{H:Hp}:∀{l:List D}{vs:List V},Rps m H l vs->l.all y7=true->vs.all a0V=true
 |[],vs,h,_=>by rw[show vs=[] from h];rfl
 |d::r,vs,⟨v,t,e,q1,q2⟩,f=>by subst e;rw[all_cons,ae] at f⊢;exact⟨O1 q1 f.1,O8 q2 f.2⟩
theorem b3j{e:D}{x y:V}(r1:Rp m H d x)(r2:Rp m H e y)(f1:y7 d=true)(f2:y7 e=true):eqF d e=eqV x y:=by cases d<;>first|(simp[y7] at f1;done)|(cases e<;>first|(simp[y7] at f2;done)|(cases r1;cases r2;rfl))
theorem a0n{m:List Addr}{H:Hp}{d:D}{x:V}(r:Rp m H d x)(f:y7 d=true):∀{l:List D}{vs:List V},Rps m H l vs->l.all y7=true->inD d l=inV x vs
 |[],vs,h,_=>by rw[show vs=[] from h];rfl
 |e::t,vs,⟨v,u,ev,q1,q2⟩,fl=>by subst ev;rw[all_cons,ae] at fl;have ih:=a0n r f q2 fl.2;unfold inD inV at ih⊢;rw[any_cons,any_cons,b3j q1 r fl.1 f,ih]
theorem b3i(h:y7 d=true):eqF d d=true:=by cases d<;>simp_all [y7,eqF]
theorem hu1(h:n+8<cLine):n+1<cLine:=Nat.lt_of_le_of_lt nofun h
theorem b5D{s:Shared}(f:y7 d=true)(r1:Rp m H d v)(r2:Rp m H d u)(rv:m8 v v')(ru:m8 u u'):SeqAt.EqAt A s v' u' true:=by have:=b3k (A:=A) (s:=s) rv ru (O1 r1 f) (O1 r2 f);rw[←b3j r1 r2 f f,b3i f] at this;exact this
theorem a0l{s:Shared}{r:List D}{us:List V}{bD bJ:List Value}{f:D->D->Bool}(hs:(decide (↥l=↥r)&&(l.zip r).all λp=>f p.1 p.2)=true)(r1:Rps m H l vs)(r2:Rps m H r us)(ra:p7 vs bD)(rb:p7 us bJ)(k:∀d e,f d e=true->∀v u v' u',Rp m H d v->Rp m H e u->m8 v v'->m8 u u'->SeqAt.EqAt A s v' u' true):
 bD.toArray.size=bJ.toArray.size/\∀j (h1:j<bD.toArray.size) (h2:j<bJ.toArray.size),SeqAt.EqAt A s bD.toArray[j] bJ.toArray[j] true:=by
 rw[ae] at hs;have e0:=aw hs.1;have e1:=↥ra;have e2:=↥rb;have e3:=r1.len;have e4:=r2.len;refine⟨by simp only[size_toArray];ac_nf,λj h1 h2=>?_⟩;simp only[size_toArray] at h1 h2;have hj:j<↥l:=by ac_nf
 have hj':j<↥r:=by ac_nf
 obtain⟨v,g1,p1⟩:=r1.get (ai hj);obtain⟨u,g2,p2⟩:=r2.get (ai hj');obtain⟨v',g3,p3⟩:=ra.get g1;obtain⟨u',g4,p4⟩:=rb.get g2;have:=k l[j] r[j] (bm.mp hs.2 (l[j],r[j]) (List.mem_iff_getElem?.mpr ⟨j,List.getElem?_zip_eq_some.mpr ⟨ai hj,ai hj'⟩⟩)) v u v' u' p1 p2 p3 p4;rw[ai h1] at g3;rw[ai h2] at g4;cases g3;cases g4
 simpa using this
theorem b6y{s:Shared}{e:D}(f:(decide (d=e)&&y7 d)=true)(r1:Rp m H d v)(r2:Rp m H e u)(rv:m8 v v')(ru:m8 u u'):SeqAt.EqAt A s v' u' true:=by rw[ae] at f;cases aw f.1;exact b5D f.2 r1 r2 rv ru
theorem a1O{bB:List (Addr×Obj)}{σ:St}{H:Hp}{s:Shared}(I:Inv X bB σ H s)(hK:X.K=Γ.K){ah:AH}{m:List Addr}(S:Sim Γ ah m H):∀(n:Nat)(A:Around)(d e:D)(v u:V)(v' u':Value),same ah n d e=true->A.units+n<cLine->Rp m H d v->Rp m H e u->m8 v v'->m8 u u'->SeqAt.EqAt A s v' u' true
 |0,A,d,e,v,u,v',u',f,_,r1,r2,rv,ru=>b6y f r1 r2 rv ru
 | n + 1, A,d,e,v,u,v',u',f,hu,r1,r2,rv,ru=>by
  unfold same at f;split at f
  · split at f
    · obtain⟨a,vs,rfl,ha,rs⟩:=r1;obtain⟨b,us,rfl,hb,rt⟩:=r2;cases rv;cases ru
      by_cases hab:a=b
      · subst hab;exact SeqAt.EqAt.same _
      obtain⟨_,bD,ra,pa⟩:=I.hok a _ ha;obtain⟨_,bJ,rb,pb⟩:=I.hok b _ hb;obtain⟨sz,el⟩:=a0l (A:=A.in1) (s:=s) f rs rt ra rb λd e f v u v' u' p1 p2 p3 p4=>a1O I hK S n A.in1 d e v u v' u' f (by show A.units+1+n<cLine;ac_nf) p1 p2 p3 p4;have:=SeqAt.RcAt.tuples (A:=A) (s:=s) (e:=λ_=>true) (show s.heap.IsTuple a bD.toArray from pa.tup) (show s.heap.IsTuple b bJ.toArray from pb.tup) nofun el;rw[show((List.range (min bD.toArray.size bJ.toArray.size)).all (λ_=>true)&&bD.toArray.size==bJ.toArray.size)=true by rw[sz];simp] at this;exact SeqAt.EqAt.of_refs hab this
    · cases f
  · split at f
    · split at f
      · rename_i e1;split at f
        · rename_i e2;obtain⟨a,vs,rfl,_,s1,rs⟩:=S.rdL e1 r1;obtain⟨b,us,rfl,_,s2,rt⟩:=S.rdL e2 r2;cases rv;cases ru
          by_cases hab:a=b
          · subst hab;exact SeqAt.EqAt.same _
          obtain⟨bD,ra,pl,_⟩:=I.list (by rw[hK];exact s1);obtain⟨bJ,rb,pl2,_⟩:=I.list (by rw[hK];exact s2);obtain⟨sz,el⟩:=a0l (A:=A.in1) (s:=s) f rs rt ra rb λd e f v u v' u' p1 p2 p3 p4=>a1O I hK S n A.in1 d e v u v' u' f (by show A.units+1+n<cLine;ac_nf) p1 p2 p3 p4;have:=SeqAt.RcAt.lists (A:=A) (s:=s) (e:=λ_=>true) pl.isList pl2.isList sz nofun el;rw[show(List.range bD.toArray.size).all (λ_=>true)=true by simp] at this;exact SeqAt.EqAt.of_refs hab this
        · cases f
      · cases f
    · cases f
  · exact b6y f r1 r2 rv ru
def b6s(Γ:Gm)(k:Bool):R2:=λx y H Q=>∃i d ah m,Sim Γ ah m H/\Rp m H (.ref i) x/\Rp m H d y/\same ah 5 (.ref i) d=true/\Q (.bl k) H
theorem a9f{s:Shared}{i:Nat}{x y:V}{v u:Value}(I:Inv X bB σ H s)(hK:X.K=Γ.K)(S:Sim Γ ah m H)(hu:X.A.units+8<cLine)(r1:Rp m H (.ref i) x)(r2:Rp m H d y)(rv:m8 x v)(ru:m8 y u)(f:same ah 5 (.ref i) d=true):
 ∃a b bD bJ,v=.ref a/\u=.ref b/\s.heap.IsList a bD/\s.heap.IsList b bJ/\bD.size=bJ.size/\∀j (h1:j<bD.size) (h2:j<bJ.size),SeqAt.EqAt X.A.in1 s bD[j] bJ[j] true:=by
 unfold same at f;simp only at f;split at f
 · split at f
   · rename_i e1;split at f
     · rename_i e2;obtain⟨a,vs,rfl,_,s1,rs⟩:=S.rdL e1 r1;obtain⟨b,us,rfl,_,s2,rt⟩:=S.rdL e2 r2;cases rv;cases ru;obtain⟨bD,ra,pl,_⟩:=I.list (by rw[hK];exact s1);obtain⟨bJ,rb,pl2,_⟩:=I.list (by rw[hK];exact s2);obtain⟨sz,el⟩:=a0l (A:=X.A.in1) (s:=s) f rs rt ra rb λd e f v u v' u' p1 p2 p3 p4=>a1O I hK S 4 X.A.in1 d e v u v' u' f (by show X.A.units+1+4<cLine;ac_nf) p1 p2 p3 p4;exact⟨a,b,_,_,rfl,rfl,pl.isList,pl2.isList,sz,el⟩
     · cases f
   · cases f
 · cases f
def b1b(Γ:Gm)(k:Bool):R2:=λx y H Q=>∃l d ah m,Sim Γ ah m H/\Rp m H (.tup l) x/\Rp m H d y/\same ah 5 (.tup l) d=true/\Q (.bl k) H
theorem b7F(hu:X.A.units+8<cLine)(hK:X.K=Γ.K):OpR X (compareOp .NotEq) (b1b Γ false):=by
 intro bB s σ H x y v u Q I rx ry h;obtain⟨l,d,ah,m,S,r1,r2,f,q⟩:=h;unfold same at f;simp only at f;split at f
 · obtain⟨a,vs,rfl,ha,rs⟩:=r1;obtain⟨b,us,rfl,hb,rt⟩:=r2;cases rx;cases ry;obtain⟨_,bD,ra,pa⟩:=I.hok a _ ha;obtain⟨_,bJ,rb,pb⟩:=I.hok b _ hb;obtain⟨sz,el⟩:=a0l (A:=X.A.in1) (s:=s) f rs rt ra rb λd e f v u v' u' p1 p2 p3 p4=>a1O I hK S 4 X.A.in1 d e v u v' u' f (by show X.A.units+1+4<cLine;ac_nf) p1 p2 p3 p4;refine SeqAt.RcNeAt.tuples (e:=λ_=>true) (show s.heap.IsTuple a bD.toArray from pa.tup) (show s.heap.IsTuple b bJ.toArray from pb.tup) nofun el X.prog X.w _ _ ⟨.bl _,H,I,rfl,?_⟩;rw[show(!((List.range (min bD.toArray.size bJ.toArray.size)).all (λ_=>true)&&bD.toArray.size==bJ.toArray.size))=false by rw[sz];simp];exact q
 · cases f
theorem b7K(hu:X.A.units+8<cLine)(hK:X.K=Γ.K):OpR X (compareOp .Eq) (b1b Γ true):=by
 intro bB s σ H x y v u Q I rx ry h;obtain⟨l,d,ah,m,S,r1,r2,f,q⟩:=h;unfold same at f;simp only at f;split at f
 · obtain⟨a,vs,rfl,ha,rs⟩:=r1;obtain⟨b,us,rfl,hb,rt⟩:=r2;cases rx;cases ry;obtain⟨_,bD,ra,pa⟩:=I.hok a _ ha;obtain⟨_,bJ,rb,pb⟩:=I.hok b _ hb;obtain⟨sz,el⟩:=a0l (A:=X.A.in1) (s:=s) f rs rt ra rb λd e f v u v' u' p1 p2 p3 p4=>a1O I hK S 4 X.A.in1 d e v u v' u' f (by show X.A.units+1+4<cLine;ac_nf) p1 p2 p3 p4;refine SeqAt.RcAt.tuples (e:=λ_=>true) (show s.heap.IsTuple a bD.toArray from pa.tup) (show s.heap.IsTuple b bJ.toArray from pb.tup) nofun el X.prog X.w _ _ ⟨.bl _,H,I,rfl,?_⟩;rw[show((List.range (min bD.toArray.size bJ.toArray.size)).all (λ_=>true)&&bD.toArray.size==bJ.toArray.size)=true by rw[sz];simp];exact q
 · cases f
theorem b7G(hu:X.A.units+8<cLine)(hK:X.K=Γ.K):OpR X (compareOp .NotEq) (b6s Γ false):=by intro bB s σ H x y v u Q I rx ry h;obtain⟨i,d,ah,m,S,r1,r2,f,q⟩:=h;obtain⟨a,b,bD,bJ,rfl,rfl,l1,l2,sz,el⟩:=a9f I hK S hu r1 r2 rx ry f;refine SeqAt.RcNeAt.lists (e:=λ_=>true) l1 l2 sz nofun el X.prog X.w _ _ ⟨.bl _,H,I,rfl,?_⟩;rw[show(List.range bD.size).all (λ_=>true)=true by simp];exact q
theorem b7L(hu:X.A.units+8<cLine)(hK:X.K=Γ.K):OpR X (compareOp .Eq) (b6s Γ true):=by intro bB s σ H x y v u Q I rx ry h;obtain⟨i,d,ah,m,S,r1,r2,f,q⟩:=h;obtain⟨a,b,bD,bJ,rfl,rfl,l1,l2,sz,el⟩:=a9f I hK S hu r1 r2 rx ry f;refine SeqAt.eq_listAt (e:=λ_=>true) l1 l2 sz nofun el ⟨.bl _,H,I,rfl,?_⟩;rw[show(List.range bD.size).all (λ_=>true)=true by simp];exact q
def b9U(Γ:Gm):R2:=λx y H Q=>∃l d m,Rp m H (.tup l) x/\Rp m H d y/\b7O (.tup l) d=true/\Q (.bl false) H
theorem b4T(hu:X.A.units+8<cLine):OpR X (compareOp .Eq) (b9U Γ):=by
 intro bB s σ H x y v u Q I rx ry h;obtain⟨l,d,m,r1,r2,f,q⟩:=h;unfold b7O at f;simp only at f;split at f
 · rename_i r;rw[ae,isEmpty_iff] at f;obtain⟨f1,rfl⟩:=f;obtain⟨a,vs,rfl,ha,rs⟩:=r1;obtain⟨b,us,rfl,hb,rt⟩:=r2;cases rx;cases ry;obtain⟨_,bD,ra,pa⟩:=I.hok a _ ha;obtain⟨_,bJ,rb,pb⟩:=I.hok b _ hb;have e1:=↥ra;have e2:=↥rb;have e3:=rs.len;have e4:=rt.len;have z:bJ.toArray.size=0:=by rw[size_toArray];simp only[length_nil] at e4;ac_nf
   have nz:bD.toArray.size≠0:=by
    rw[size_toArray];cases l with
    |nil=>cases f1
    |cons c t=>rw[length_cons] at e3;ac_nf
   refine SeqAt.RcAt.tuples (e:=λ_=>true) (show s.heap.IsTuple a bD.toArray from pa.tup) (show s.heap.IsTuple b bJ.toArray from pb.tup) nofun (λj h1 h2=>by ac_nf) X.prog X.w _ _ ⟨.bl _,H,I,rfl,?_⟩;rw[show((List.range (min bD.toArray.size bJ.toArray.size)).all (λ_=>true)&&bD.toArray.size==bJ.toArray.size)=false by rw[z];simpa using nz];exact q
 · cases f
theorem c2J(hu:X.A.units+8<cLine)(hK:X.K=Γ.K):OpR X (compareOp .Eq) (rOf Γ E J3):=by
 refine OpR.imp (((c0l.or (b7L hu hK)).or (b7K hu hK)).or (b4T (Γ:=Γ) hu)) ?_;rintro x y H Q ⟨d1,d2,ah,m,s,r1,r2,q⟩;unfold J3 at q;split at q
 · rename_i c e;obtain⟨h1,h2⟩:=b3h e r1 r2;exact .inl (.inl (.inl ⟨h1,by rw[←h2];exact q.ok s rfl⟩))
 · split at q
   · rename_i hd;cases d1<;>first|exact .inl (.inl (.inr ⟨_,_,_,_,s,r1,r2,hd,q.ok s rfl⟩))|cases hd
   · split at q
     · rename_i hd;cases d1<;>first|exact .inl (.inr ⟨_,_,_,_,s,r1,r2,hd,q.ok s rfl⟩)|cases hd
     · split at q
       · rename_i hd;cases d1<;>first|exact .inr ⟨_,_,_,r1,r2,hd,q.ok s rfl⟩|cases hd
       · exact q.elim
theorem c2H(hu:X.A.units+8<cLine)(hK:X.K=Γ.K):OpR X (compareOp .NotEq) (rOf Γ E a3y):=by
 refine OpR.imp ((c0g.or (b7G hu hK)).or (b7F hu hK)) ?_;rintro x y H Q ⟨d1,d2,ah,m,s,r1,r2,q⟩;unfold a3y at q;split at q
 · rename_i c e;obtain⟨h1,h2⟩:=b3h e r1 r2;exact .inl (.inl ⟨h1,by rw[←h2];exact q.ok s rfl⟩)
 · split at q
   · rename_i hd;cases d1<;>first|exact .inl (.inr ⟨_,_,_,_,s,r1,r2,hd,q.ok s rfl⟩)|cases hd
   · split at q
     · rename_i hd;cases d1<;>first|exact .inr ⟨_,_,_,_,s,r1,r2,hd,q.ok s rfl⟩|cases hd
     · exact q.elim
theorem b7f{s:Shared}{a:Addr}(I:Inv X bB σ H s)(h:H a=some (.dK [])):Inv X bB σ (upd H a (.dT [])) s:=by
 obtain⟨z,hd,vs,cv,o,es,ep,ho,hx,hdt,hes,hp,hh⟩:=I.hok a _ h;cases cv;have e0:es.toList=[]:=by cases q:es.toList with
  |nil=>rfl
  |cons x r=>rw[q] at hp;cases hp
 exact I.write (x:=a) (e:=a) (h':=s.heap) (t':=s.toks) (by rw[h];trivial) (.inl rfl) (λb u _ q=>q) ⟨o,ho⟩ ⟨z,hd,[],.nil,o,es,ep,ho,hx,hdt,e0,nodup_nil⟩
theorem b0Z{s:Shared}{a:Addr}(I:Inv X bB σ H s)(h:H a=some (.dT [])):Inv X bB σ (upd H a (.dK [])) s:=by obtain⟨z,hd,xs,cv,o,es,ep,ho,hx,hdt,hes,hh⟩:=I.hok a _ h;cases cv;have e0:es= #[]:=Array.toList_inj.mp hes;subst e0;refine I.write (x:=a) (e:=a) (h':=s.heap) (t':=s.toks) (by rw[h];trivial) (.inl rfl) (λb u _ q=>q) ⟨o,ho⟩ ⟨z,hd,[],.nil,o,#[],ep,ho,hx,hdt,λe he=>?_,.nil,nodup_nil⟩;simp at he
theorem Y0{k:Key}(e:K3 d=some k)(r:Rp m H d v):v=kV k:=by cases d<;>simp only[K3] at e<;>first|(cases e;done)|(cases e;cases r;rfl)
theorem a3I{m:List Addr}{H:Hp}:∀{l:List D}{vs:List V}{ks:List Key},G7 l=some ks->Rps m H l vs->vs=ks.map kV
 |[],vs,ks,e,h=>by cases e;exact h
 |d::r,vs,ks,e,⟨v,t,ev,q1,q2⟩=>by
  subst ev;unfold G7 at e;split at e
  · rename_i k ks' e1 e2;cases e;rw[map_cons,Y0 e1 q1,a3I e2 q2]
  · cases e
theorem a0j{a b:D}{k:Key}(h1:K3 a=some k)(h2:K3 b=some k):a=b:=by cases a<;>simp only[K3] at h1<;>first|(cases h1;done)|(cases h1;cases b<;>simp only[K3] at h2<;>first|(cases h2;done)|(cases h2;rfl))
theorem a2e:∀{a b:List D}{k:List Key},G7 a=some k->G7 b=some k->a=b
 |[],[],_,_,_=>rfl
 |[],y::ys,k,h1,h2=>by cases h1;unfold G7 at h2;split at h2<;>cases h2
 |x::xs,[],k,h1,h2=>by cases h2;unfold G7 at h1;split at h1<;>cases h1
 |x::xs,y::ys,k,h1,h2=>by
  unfold G7 at h1 h2;split at h1
  · rename_i k1 ks1 e1 e2;cases h1;split at h2
    · rename_i k2 ks2 e3 e4;cases h2;rw[a0j e1 e3,a2e e2 e4]
    · cases h2
  · cases h1
theorem a5y(h:K7 d=some false):∃k,K3 d=some k:=by cases d<;>simp only[K7] at h<;>first|(cases h;done)|exact⟨_,rfl⟩|(split at h<;>cases h)
theorem a3J(h:K7 d=some true):∃l ks,d=.tup l/\G7 l=some ks:=by
 cases d<;>simp only[K7] at h<;>first|(cases h;done)|skip
 rename_i l;obtain⟨e,h⟩:=ifs h;obtain⟨ks,hk⟩:=Option.isSome_iff_exists.mp e;exact⟨l,ks,rfl,hk⟩
theorem DK.val{l:List (D×D)}{bC:List (Key×V)}(r:DK m H l bC){k:Key}(e:K3 d=some k):
 (∀c,o7 l d=some c->∃v,V9 bC k=some v/\Rp m H c v)/\(o7 l d=none->V9 bC k=none):=by
 induction r with
 |nil=>exact⟨λc h=>(by cases h),λ_=>rfl⟩
 | @cons p q ps qs h t ih=>
  by_cases z:p.1=d
  · have z':q.1=k:=by have:=h.1;rw[z,e] at this;exact(ax this).symm
    rw[Z7 z',show o7 (p::ps) d=some p.2 from by simp[o7,List.find?_cons,z]];exact⟨λc hc=>by cases hc;exact⟨q.2,rfl,h.2⟩,λhc=>by cases hc⟩
  · have z':¬q.1=k:=λy=>z (a0j (by rw[h.1,y]) e);rw[Z8 z',show o7 (p::ps) d=o7 ps d from by simp[o7,List.find?_cons,z]];exact ih
theorem DT.val{l:List (D×D)}{bC:List (List Key×V)}(r:DT m H l bC){d:List D}{k:List Key}(e:G7 d=some k):
 (∀c,o7 l (.tup d)=some c->∃v,V9 bC k=some v/\Rp m H c v)/\(o7 l (.tup d)=none->V9 bC k=none):=by
 induction r with
 |nil=>exact⟨λc h=>(by cases h),λ_=>rfl⟩
 | @cons p q ps qs h t ih=>
  obtain⟨⟨l',e1,e2⟩,h2⟩:=h
  by_cases z:p.1=.tup d
  · have z':q.1=k:=by rw[e1] at z;injection z with z;rw[z,e] at e2;exact(ax e2).symm
    rw[Z7 z',show o7 (p::ps) (.tup d)=some p.2 from by simp[o7,List.find?_cons,z]];exact⟨λc hc=>by cases hc;exact⟨q.2,rfl,h2⟩,λhc=>by cases hc⟩
  · have z':¬q.1=k:=λy=>z (e1.trans (fN D.tup (a2e (e2.trans (fN some y)) e)));rw[Z8 z',show o7 (p::ps) (.tup d)=o7 ps (.tup d) from by simp[o7,List.find?_cons,z]];exact ih
theorem DK.put{l:List (D×D)}{bC:List (Key×V)}(r:DK m H l bC){c:D}{k:Key}(e:K3 d=some k)(rv:Rp m H c v):DK m H (a0b l d c) (Q2 bC k v):=by
 have any:(l.any λp=>decide (p.1=d))=bC.any λp=>decide (p.1=k):=by
  induction r with
  |nil=>rfl
  | @cons p q ps qs h t ih=>
   rw[any_cons,any_cons,ih];congr 1;refine decide_eq_decide.mpr ⟨fun(z:p.1=d)=>?_,fun(z:q.1=k)=>a0j (by rw[h.1,z]) e⟩;have:=h.1;rw[z,e] at this;exact(ax this).symm
 unfold a0b Q2;rw[any];split
 · clear any
   induction r with
   |nil=>exact .nil
   | @cons p q ps qs h t ih=>
    rename_i hh;rw[map_cons,map_cons];refine .cons ?_ ?_
    · by_cases z:p.1=d
      · have z':q.1=k:=by have:=h.1;rw[z,e] at this;exact(ax this).symm
        rw[ay z,ay z'];exact⟨h.1,rv⟩
      · have z':¬q.1=k:=λy=>z (a0j (by rw[h.1,y]) e);rw[az z,az z'];exact h
    · clear hh ih h
      induction t with
      |nil=>exact .nil
      | @cons p q ps qs h t ih=>
       rw[map_cons,map_cons];refine .cons ?_ ih
       by_cases z:p.1=d
       · have z':q.1=k:=by have:=h.1;rw[z,e] at this;exact(ax this).symm
         rw[ay z,ay z'];exact⟨h.1,rv⟩
       · have z':¬q.1=k:=λy=>z (a0j (by rw[h.1,y]) e);rw[az z,az z'];exact h
 · exact Paired.snoc r ⟨e,rv⟩
theorem DT.put{l:List (D×D)}{bC:List (List Key×V)}(r:DT m H l bC){d:List D}{c:D}{k:List Key}(e:G7 d=some k)(rv:Rp m H c v):DT m H (a0b l (.tup d) c) (Q2 bC k v):=by
 have one:∀{p:D×D}{q:List Key×V},(∃l,p.1=.tup l/\G7 l=some q.1)->(p.1=.tup d↔q.1=k):=by rintro p q ⟨l',e1,e2⟩;refine⟨fun(z:p.1=.tup d)=>?_,fun(z:q.1=k)=>e1.trans (fN D.tup (a2e (e2.trans (fN some z)) e))⟩;rw[e1] at z;injection z with z;rw[z,e] at e2;exact(ax e2).symm
 have any:(l.any λp=>decide (p.1=.tup d))=bC.any λp=>decide (p.1=k):=by
  induction r with
  |nil=>rfl
  | @cons p q ps qs h t ih=>
   rw[any_cons,any_cons,ih];congr 1;exact decide_eq_decide.mpr (one h.1)
 unfold a0b Q2;rw[any];split
 · have go:∀{l:List (D×D)}{bC:List (List Key×V)},DT m H l bC->DT m H (l.map λp=>if p.1=.tup d then(p.1,c) else p) (bC.map λp=>if p.1=k then(p.1,v) else p):=by
    intro l bC r
    induction r with
    |nil=>exact .nil
    | @cons p q ps qs h t ih=>
     rw[map_cons,map_cons];refine .cons ?_ ih
     by_cases z:p.1=.tup d
     · rw[ay z,ay ((one h.1).mp z)];exact⟨h.1,rv⟩
     · rw[az z,az λy=>z ((one h.1).mpr y)];exact h
   exact go r
 · exact Paired.snoc r ⟨⟨d,rfl,e⟩,rv⟩
theorem T5{s:Shared}{k:D}(I:Inv X bB σ H s)(S:Sim Γ ah m H)(e:ah[n]? =some (.dict bC))(ok:D7 k bC=true){a:Addr}(hm:m[n]? =some a):
 ∃H',Inv X bB σ H' s/\Keep m m H H'/\Sim Γ ah m H'/\((∃ks gs,K3 k=some ks/\H' a=some (.dK gs)/\DK m H' bC gs)∨∃l ks gs,k=.tup l/\G7 l=some ks/\H' a=some (.dT gs)/\DT m H' bC gs):=by
 unfold D7 at ok;rw[ae] at ok;obtain⟨ok1,ok2⟩:=ok;obtain⟨b,hb⟩:=Option.isSome_iff_exists.mp ok1;rcases S.at hm e with⟨gs,h1,h2⟩|⟨gs,h1,h2⟩
 · cases b with
   |false=>
    obtain⟨ks,hk⟩:=a5y hb;exact⟨H,I,Keep.refl m H,S,.inl ⟨ks,gs,hk,h1,h2⟩⟩
   | true=>
    obtain⟨l,ks,rfl,hk⟩:=a3J hb;cases h2 with
    |nil=>
     have kp:Keep m m H (upd H a (.dT [])):=Keep.put hm h1 λz=>z;have S':=S.write (o':=.dT []) (c:=.dict []) hm h1 (λz=>z) (.inr ⟨[],i7,.nil⟩);rw[show ah.set n (.dict [])=ah from a3r e] at S';exact⟨_,b7f I h1,kp,S',.inr ⟨l,ks,[],rfl,hk,i7,.nil⟩⟩
    | @cons p q ps qs h t=>
     rw[all_cons,ae,hb] at ok2;exfalso;have:=eq_of_beq ok2.1;obtain⟨l',ks',e1,_⟩:=a3J this;have h1:=h.1;rw[e1] at h1;cases h1
 · cases b with
   |true=>
    obtain⟨l,ks,rfl,hk⟩:=a3J hb;exact⟨H,I,Keep.refl m H,S,.inr ⟨l,ks,gs,rfl,hk,h1,h2⟩⟩
   | false=>
    obtain⟨ks,hk⟩:=a5y hb;cases h2 with
    |nil=>
     have kp:Keep m m H (upd H a (.dK [])):=Keep.put hm h1 λz=>z;have S':=S.write (o':=.dK []) (c:=.dict []) hm h1 (λz=>z) (.inl ⟨[],i7,.nil⟩);rw[show ah.set n (.dict [])=ah from a3r e] at S';exact⟨_,b0Z I h1,kp,S',.inl ⟨ks,[],hk,i7,.nil⟩⟩
    | @cons p q ps qs h t=>
     rw[all_cons,ae,hb] at ok2;exfalso;have:=eq_of_beq ok2.1;obtain⟨ks',hk'⟩:=a5y this;obtain⟨⟨l',e1,_⟩,_⟩:=h;rw[e1] at hk';cases hk'
end
variable{ds:List D}{h:AH}{f:Str}
section
variable{X:Cx}{E:XK}
theorem a3X(b:Bool):(b !=false)=b:=by cases b<;>rfl
theorem a3W(b:Bool):(b !=true)=!b:=by cases b<;>rfl
theorem DK.some_eq{l:List (D×D)}{bC:List (Key×V)}(r:DK m H l bC){k:Key}(e:K3 d=some k):(o7 l d).isSome=(V9 bC k).isSome:=by
 obtain⟨h1,h2⟩:=r.val e;cases q:o7 l d with
 |none=>rw[h2 q];rfl
 |some c=>obtain⟨v,hv,_⟩:=h1 c q;rw[hv];rfl
theorem DT.some_eq{l:List (D×D)}{bC:List (List Key×V)}(r:DT m H l bC){d:List D}{k:List Key}(e:G7 d=some k):(o7 l (.tup d)).isSome=(V9 bC k).isSome:=by
 obtain⟨h1,h2⟩:=r.val e;cases q:o7 l (.tup d) with
 |none=>rw[h2 q];rfl
 |some c=>obtain⟨v,hv,_⟩:=h1 c q;rw[hv];rfl
theorem a1N{k:D}{x:V}{a:Addr}(kp:Keep m m H H')(r:Rp m H k x)
 (h:(∃ks gs,K3 k=some ks/\H' a=some (.dK gs)/\DK m H' bC gs)∨∃l ks gs,k=.tup l/\G7 l=some ks/\H' a=some (.dT gs)/\DT m H' bC gs):
 ∃o,a8m H' a x o/\(o7 bC k).isSome=o.isSome/\∀c,o7 bC k=some c->∃v,o=some v/\Rp m H' c v:=by
 rcases h with⟨ks,gs,hk,ha,dk⟩|⟨l,ks,gs,rfl,hk,ha,dt⟩
 · obtain⟨h1,h2⟩:=dk.val hk;exact⟨V9 gs ks,.inl ⟨gs,ks,.inl ha,Y0 hk r,rfl⟩,dk.some_eq hk,λc hc=>h1 c hc⟩
 · obtain⟨h1,h2⟩:=dt.val hk;obtain⟨b,vs,rfl,hb,rs⟩:=r;have hv:=a3I hk rs;subst hv;exact⟨V9 gs ks,.inr ⟨gs,ks,b,.inl ha,rfl,kp.tup hb,rfl⟩,dt.some_eq hk,λc hc=>h1 c hc⟩
theorem c2I(hu:X.A.units+8<cLine)(hK:X.K=Γ.K):OpR X (compareOp .In) (rOf Γ E (M9 false)):=by
 rintro bB s σ H x y v u Q I rx ry ⟨d1,d2,ah,m,S,r1,r2,q⟩;unfold M9 at q;split at q
 · cases r1;cases r2;rw[a3X] at q;exact a9K bB s σ H _ _ v u Q I rx ry ⟨_,_,rfl,rfl,q.ok S rfl⟩
 · obtain⟨h,q⟩:=ifq q;rw[ae] at h;obtain⟨a,vs,rfl,h1,q1⟩:=r2;refine a0K bB s σ H _ _ v u Q I rx ry ⟨a,vs,rfl,.inr (.inl (.inl h1)),O1 r1 h.1,O8 q1 h.2,?_⟩;rw[a3X,a0n r1 h.1 q1 h.2] at q;exact q.ok S rfl
 · split at q
   · rename_i xs e;obtain⟨h,q⟩:=ifq q;rw[ae] at h;obtain⟨a,vs,rfl,_,h1,q1⟩:=S.lst e r2;refine a0K bB s σ H _ _ v u Q I rx ry ⟨a,vs,rfl,.inl (.inl (.inl h1)),O1 r1 h.1,O8 q1 h.2,?_⟩;rw[a3X,a0n r1 h.1 q1 h.2] at q;exact q.ok S rfl
   · rename_i xs e;obtain⟨h,q⟩:=ifq q;rw[ae] at h;obtain⟨a,vs,rfl,_,h1,q1⟩:=S.rdL (l:=xs) (by unfold rdL;rw[e]) r2;refine a0K bB s σ H _ _ v u Q I rx ry ⟨a,vs,rfl,.inl (by rw[hK];exact h1),O1 r1 h.1,O8 q1 h.2,?_⟩;rw[a3X,a0n r1 h.1 q1 h.2] at q;exact q.ok S rfl
   · rename_i bC e;obtain⟨h,q⟩:=ifq q;obtain⟨a,rfl,hm⟩:=r2;obtain⟨H',I',kp,S',hd⟩:=T5 I S e h hm;obtain⟨o,g,h1,_⟩:=a1N kp r1 hd;cases (show u=Value.ref a from ry);refine c2L (hu1 hu) I' g rx λs' fE=>⟨.bl o.isSome,H',fE,rfl,?_⟩;rw[a3X,h1] at q;exact q m H' _ (Pre.refl m) kp S' rfl
   · exact q.elim
 · exact q.elim
theorem b5Q(hu:X.A.units+8<cLine)(hK:X.K=Γ.K):OpR X (compareOp .NotIn) (rOf Γ E (M9 true)):=by
 rintro bB s σ H x y v u Q I rx ry ⟨d1,d2,ah,m,S,r1,r2,q⟩;unfold M9 at q;split at q
 · cases r1;cases r2;rw[a3W] at q;exact a5n bB s σ H _ _ v u Q I rx ry ⟨_,_,rfl,rfl,q.ok S rfl⟩
 · obtain⟨h,q⟩:=ifq q;rw[ae] at h;obtain⟨a,vs,rfl,h1,q1⟩:=r2;refine R3 bB s σ H _ _ v u Q I rx ry ⟨a,vs,rfl,.inr (.inl (.inl h1)),O1 r1 h.1,O8 q1 h.2,?_⟩;rw[a3W,a0n r1 h.1 q1 h.2] at q;exact q.ok S rfl
 · split at q
   · rename_i xs e;obtain⟨h,q⟩:=ifq q;rw[ae] at h;obtain⟨a,vs,rfl,_,h1,q1⟩:=S.lst e r2;refine R3 bB s σ H _ _ v u Q I rx ry ⟨a,vs,rfl,.inl (.inl (.inl h1)),O1 r1 h.1,O8 q1 h.2,?_⟩;rw[a3W,a0n r1 h.1 q1 h.2] at q;exact q.ok S rfl
   · rename_i xs e;obtain⟨h,q⟩:=ifq q;rw[ae] at h;obtain⟨a,vs,rfl,_,h1,q1⟩:=S.rdL (l:=xs) (by unfold rdL;rw[e]) r2;refine R3 bB s σ H _ _ v u Q I rx ry ⟨a,vs,rfl,.inl (by rw[hK];exact h1),O1 r1 h.1,O8 q1 h.2,?_⟩;rw[a3W,a0n r1 h.1 q1 h.2] at q;exact q.ok S rfl
   · rename_i bC e;obtain⟨h,q⟩:=ifq q;obtain⟨a,rfl,hm⟩:=r2;obtain⟨H',I',kp,S',hd⟩:=T5 I S e h hm;obtain⟨o,g,h1,_⟩:=a1N kp r1 hd;cases (show u=Value.ref a from ry);refine b5V (hu1 hu) I' g rx λs' fE=>⟨.bl (!o.isSome),H',fE,rfl,?_⟩;rw[a3W,h1] at q;exact q m H' _ (Pre.refl m) kp S' rfl
   · exact q.elim
 · exact q.elim
def B.cmp:B->Option CmpOp
 |.eq=>some .Eq|.ne=>some .NotEq|.lt=>some .Lt|.le=>some .LtE|.gt=>some .Gt|.ge=>some .GtE|.isin=>some .In|.notin=>some .NotIn
 |_=>none
def B.bin:B->Option Operator
 |.add=>some .Add|.sub=>some .Sub|.mul=>some .Mult|.div=>some .FloorDiv|.mod=>some .Mod
 |_=>none
theorem c1b{o:B}{op:Operator}(h:o.bin=some op):OpR X (binaryOp op) (rOf Γ E (op2 o)):=by
 cases o<;>cases h
 · exact c1c
 · exact c0V
 · exact c0W
 · exact c1a
 · exact c0X
theorem a2n(hu:X.A.units+8<cLine)(hK:X.K=Γ.K){o:B}(h:o.cmp=some op):OpR X (compareOp op) (rOf Γ E (op2 o)):=by
 cases o<;>cases h
 · exact c2J hu hK
 · exact c2H hu hK
 · exact a9d c0h
 · exact a9d c0i
 · exact a9d c0j
 · exact a9d c0k
 · exact c2I hu hK
 · exact b5Q hu hK
theorem c0Y(hu:X.A.units+8<cLine)(hK:X.K=Γ.K):IxR X (rOf Γ E ixD):=by
  rintro value slice bB s σ H x y v u Q I rx ry ⟨d1,d2,ah,m,S,r1,r2,q⟩ hs;unfold ixD at q;split at q
  · split at q
    · rename_i d e;obtain⟨a,vs,rfl,h1,q1⟩:=r1;cases r2;obtain⟨w,hw,bX⟩:=q1.at e;exact ix_tup value slice bB s σ H _ _ v u Q I rx ry ⟨a,vs,_,w,rfl,rfl,.inl (.inl h1),hw,q.ok S bX⟩ hs
    · exact q.elim
  · obtain⟨hl,q⟩:=ifq q;split at q
    · rename_i c e;cases r1;cases r2;exact ix_str value slice bB s σ H _ _ v u Q I rx ry ⟨_,_,c,rfl,rfl,by rw[←Q8];exact hl,e,q.ok S rfl⟩ hs
    · exact q.elim
  · split at q
    · rename_i xs e;split at q
      · split at q
        · rename_i d e2;obtain⟨a,vs,rfl,_,h1,q1⟩:=S.lst e r1;cases r2;obtain⟨w,hw,bX⟩:=q1.at e2;exact a8M value slice bB s σ H _ _ v u Q I rx ry ⟨a,vs,_,w,rfl,rfl,.inl (.inl h1),hw,q.ok S bX⟩ hs
        · exact q.elim
      · exact q.elim
    · rename_i xs e;split at q
      · split at q
        · rename_i d e2;obtain⟨a,vs,rfl,_,h1,q1⟩:=S.rdL (l:=xs) (by unfold rdL;rw[e]) r1;cases r2;obtain⟨w,hw,bX⟩:=q1.at e2;exact a8M value slice bB s σ H _ _ v u Q I rx ry ⟨a,vs,_,w,rfl,rfl,by rw[hK];exact h1,hw,q.ok S bX⟩ hs
        · exact q.elim
      · exact q.elim
    · rename_i bC e;obtain⟨h,q⟩:=ifq q;split at q
      · rename_i d e2;obtain⟨a,rfl,hm⟩:=r1;obtain⟨H',I',kp,S',hd⟩:=T5 I S e h hm;obtain⟨o,g,h1,h2⟩:=a1N kp r2 hd;obtain⟨w,hw,bX⟩:=h2 d e2;subst hw;cases (show v=Value.ref a from rx);refine ixd_tail (a7b I' g) hs ?_;exact b0j (hu1 hu) I' g ry λw' s' fE r''=>⟨w,H',fE,r'',q m H' _ (Pre.refl m) kp S' bX⟩
      · exact q.elim
    · exact q.elim
  · exact q.elim
where
  ixd_tail {value slice:Expr} {v u:Value} {Q:Value->Shared->Prop} {s:Shared} (hT:s.TypeIs v "dict") (hs:subscripted slice false v u=operate [v,u] (getItem v u)) (h:wpAny (model X.prog X.w) X.A (getItem v u) Q X.xe s):
      wpAny (model X.prog X.w) X.A (subscriptTail value slice v u) Q X.xe s:=by
    unfold subscriptTail;refine fv ?_;rw[getitemInPython_of_ne hT.not_modules];refine fv (wpAny_specialOf hT PySem.F.slot_dict_getitem.lookup ?_);have cL:wpAny (model X.prog X.w) X.A (subscripted slice false v u) (λr eK=>wpAny (model X.prog X.w) X.A (letTemporaryGo value v r>>=λ_=>pure r) Q X.xe eK) X.xe s:=by rw[hs];exact wpAny_operating (gy h (λr eK h₃=>fv (wpAny_letTemporaryGo (fG h₃))) λ_ _ x=>x)
    first
      |exact fG (fv cL)
      |exact fv (fG (fv cL))
      |exact fv cL
theorem c2G(hK:X.K=Γ.K):SlR X (λx lo hi H Q=>∃d ah m,Sim Γ ah m H/\Rp m H d x/\i8 Γ E m H (slD ah lo hi d) Q):=by
 rintro bB s σ H x v vl vu lo hi sl Q I rx hs pl pu ⟨d,ah,m,S,r,q⟩;unfold slD at q;split at q
 · obtain⟨hl,q⟩:=ifq q;cases r;exact b6Z bB s σ H _ v vl vu lo hi sl Q I rx hs pl pu ⟨_,rfl,by rw[←Q8];exact hl,q.ok S rfl⟩
 · rename_i xs;obtain⟨a,vs,rfl,h1,q1⟩:=r
   by_cases hw:HT.sIx ↥vs 0 lo=0/\HT.sIx ↥vs ↥vs hi=↥vs
   · have e:N4 xs lo hi=xs:=by unfold N4;rw[←q1.len,hw.1,hw.2,q1.len];exact bg (aj _)
     rw[e] at q;exact b4j bB s σ H _ v vl vu lo hi sl Q I rx hs pl pu ⟨a,vs,rfl,.inl (.inl h1),hw,q.ok S ⟨a,vs,rfl,h1,q1⟩⟩
   · exact b6Y bB s σ H _ v vl vu lo hi sl Q I rx hs pl pu ⟨a,vs,rfl,.inl (.inl h1),hw,λp hp=>q.newt S hp (q1.cut lo hi)⟩
 · split at q
   · rename_i xs e;obtain⟨a,vs,rfl,_,h1,q1⟩:=S.rdL e r;refine b4k bB s σ H _ v vl vu lo hi sl Q I rx hs pl pu ⟨a,vs,rfl,by rw[hK];exact h1,λp hp=>q.newc S hp ⟨_,i7,(q1.cut lo hi).mono (Pre.snoc m p) (Keep.newc hp)⟩⟩
   · exact q.elim
 · exact q.elim
def rBi(Γ:Gm)(E:XK)(b:Bi):List V->Hp->VK->Prop:=λxs H Q=>∃ds ah m,Sim Γ ah m H/\Rps m H ds xs/\i8 Γ E m H (biD b ah ds) Q
theorem a6r{xs:List V}(h:Rps m H [d] xs):∃x,xs=[x]/\Rp m H d x:=by obtain⟨v,t,rfl,q,e⟩:=h;exact⟨v,by rw[show t=[] from e],q⟩
theorem b9S{e:D}{xs:List V}(h:Rps m H [d,e] xs):∃x y,xs=[x,y]/\Rp m H d x/\Rp m H e y:=by obtain⟨v,t,rfl,q,h2⟩:=h;obtain⟨y,rfl,q2⟩:=a6r h2;exact⟨v,y,rfl,q,q2⟩
theorem a0B{b:Bi}{xs:List V}(hb:b≠.max)(rs:Rps m H ds xs)(q:i8 Γ E m H (biD b ah ds) Q):∃d x,ds=[d]/\xs=[x]/\Rp m H d x/\i8 Γ E m H (bi1 b ah d) Q:=by
 cases ds with
 |nil=>exact q.elim
 | cons d l=>
  cases l with
  |nil=>
   obtain⟨x,rfl,r1⟩:=a6r rs;exact⟨d,x,rfl,rfl,r1,q⟩
  |cons e l=>
   unfold biD at q;simp only at q;rw[az λz=>hb z.1] at q;exact q.elim
theorem a0C{b:Bi}{x:V}(hb:b≠.len)(S:Sim Γ ah m H)(r1:Rp m H (.ref n) x)(q:i8 Γ E m H (bi1 b ah (.ref n)) Q):∃ys a vs,x=.ref a/\SqL Γ.K H a vs/\Rps m H ys vs/\i8 Γ E m H (biL b ah ys) Q:=by
 unfold bi1 at q;simp only at q;split at q
 · rename_i ys e;obtain⟨a,vs,rfl,_,h1,q1⟩:=S.rdL (l:=ys) (by unfold rdL;rw[e]) r1;exact⟨ys,a,vs,rfl,h1,q1,q⟩
 · rename_i ys e;obtain⟨a,vs,rfl,_,h1,q1⟩:=S.rdL (l:=ys) (by unfold rdL;rw[e]) r1;exact⟨ys,a,vs,rfl,h1,q1,q⟩
 · cases b<;>first|exact q.elim|exact absurd rfl hb
 · exact q.elim
theorem c1m(hK:X.K=Γ.K):J0 X (.builtin "len") (rBi Γ E .len):=by
 rintro bB s σ H xs us Q I r ⟨ds,ah,m,S,rs,q⟩;obtain⟨d,x,rfl,rfl,r1,q⟩:=a0B ∅ rs q;have sq:∀{a vs ys},SqL Γ.K H a vs->Rps m H ys vs->m8 (.ref a) (.ref a)->x=.ref a->i8 Γ E m H (biL .len ah ys) Q->_:=fun{a vs ys} h1 q1 _ e q=>a1S bB s σ H [x] us Q I r ⟨a,vs,by rw[e],.inl (by rw[hK];exact h1),by rw[q1.len];exact q.ok S rfl⟩;cases d with
 |non=>exact q.elim
 |bl b=>exact q.elim
 |int i=>exact q.elim
 |str y=>
  cases r1;unfold bi1 at q;simp only at q;obtain⟨hl,q⟩:=ifq q;exact a5V bB s σ H _ us Q I r ⟨_,rfl,by rw[←Q8];exact hl,q.ok S rfl⟩
 |tup l=>
  obtain⟨a,vs,rfl,h1,q1⟩:=r1;exact a1S bB s σ H _ us Q I r ⟨a,vs,rfl,.inr (.inl (.inl h1)),by rw[q1.len];exact q.ok S rfl⟩
 |ref n=>
  unfold bi1 at q;simp only at q;split at q
  · rename_i ys e;obtain⟨a,vs,rfl,_,h1,q1⟩:=S.rdL (l:=ys) (by unfold rdL;rw[e]) r1;exact sq h1 q1 rfl rfl q
  · rename_i ys e;obtain⟨a,vs,rfl,_,h1,q1⟩:=S.rdL (l:=ys) (by unfold rdL;rw[e]) r1;exact sq h1 q1 rfl rfl q
  · rename_i bC e;obtain⟨h,q⟩:=ifq q;obtain⟨a,rfl,hm⟩:=r1;obtain⟨H',I',kp,S',hd⟩:=T5 I S e h hm;rcases hd with⟨ks,gs,hk,ha,dk⟩|⟨l,ks,gs,e0,_⟩
    · obtain⟨u,rfl,ru⟩:=V8 r;cases (show u=Value.ref a from ru);refine c1g I' (.inl ha) λt s' fE=>⟨.int ↥gs,H',fE,⟨t,rfl⟩,?_⟩;rw[←Paired.length dk];exact q m H' _ (Pre.refl m) kp S' rfl
    · cases e0
  · exact q.elim
theorem c1k:J0 X (.type "str") (rBi Γ E .str):=by
 rintro bB s σ H xs us Q I r ⟨ds,ah,m,S,rs,q⟩;obtain⟨d,x,rfl,rfl,r1,q⟩:=a0B ∅ rs q;cases d<;>first|exact q.elim|skip
 · unfold bi1 at q;simp only at q;obtain⟨hl,q⟩:=ifq q;cases r1;exact a5U bB s σ H _ us Q I r ⟨_,rfl,hl,q.ok S rfl⟩
 · obtain⟨_,_,_,_,_,_,q⟩:=a0C ∅ S r1 q;exact q.elim
theorem c1n:J0 X (.type "int") (rBi Γ E .int):=by
 rintro bB s σ H xs us Q I r ⟨ds,ah,m,S,rs,q⟩;obtain⟨d,x,rfl,rfl,r1,q⟩:=a0B ∅ rs q;cases d<;>first|exact q.elim|skip
 · cases r1;exact a4P bB s σ H _ us Q I r (.inr ⟨_,rfl,q.ok S rfl⟩)
 · cases r1;exact a4P bB s σ H _ us Q I r (.inl ⟨_,rfl,q.ok S rfl⟩)
 · unfold bi1 at q;simp only at q;obtain⟨hl,q⟩:=ifq q;split at q
   · rename_i n e;cases r1;exact a5W bB s σ H _ us Q I r ⟨_,n,rfl,hl,e,q.ok S rfl⟩
   · exact q.elim
 · obtain⟨_,_,_,_,_,_,q⟩:=a0C ∅ S r1 q;exact q.elim
theorem b8Q(hK:X.K=Γ.K):J0 X (.type "list") (rBi Γ E .list):=by
 rintro bB s σ H xs us Q I r ⟨ds,ah,m,S,rs,q⟩;obtain⟨d,x,rfl,rfl,r1,q⟩:=a0B ∅ rs q;cases d<;>first|exact q.elim|skip
 · obtain⟨a,vs,rfl,h1,q1⟩:=r1;exact a1R bB s σ H _ us Q I r ⟨a,vs,rfl,.inr (.inl (.inl h1)),λp hp=>i8.newc q S hp ⟨_,i7,q1.mono (Pre.snoc m p) (Keep.newc hp)⟩⟩
 · obtain⟨ys,a,vs,rfl,h1,q1,q⟩:=a0C ∅ S r1 q;exact a1R bB s σ H _ us Q I r ⟨a,vs,rfl,.inl (by rw[hK];exact h1),λp hp=>i8.newc q S hp ⟨_,i7,q1.mono (Pre.snoc m p) (Keep.newc hp)⟩⟩
theorem b6c(hK:X.K=Γ.K):J0 X (.type "tuple") (rBi Γ E .tuple):=by
 rintro bB s σ H xs us Q I r ⟨ds,ah,m,S,rs,q⟩;obtain⟨d,x,rfl,rfl,r1,q⟩:=a0B ∅ rs q;cases d<;>first|exact q.elim|skip
 · obtain⟨a,vs,rfl,h1,q1⟩:=r1;exact a0Y bB s σ H _ us Q I r ⟨a,vs,rfl,.inr ⟨.inl (.inl h1),i8.ok q S ⟨a,vs,rfl,h1,q1⟩⟩⟩
 · obtain⟨ys,a,vs,rfl,h1,q1,q⟩:=a0C ∅ S r1 q;exact a0Y bB s σ H _ us Q I r ⟨a,vs,rfl,.inl ⟨by rw[hK];exact h1,λp hp=>i8.newt q S hp q1⟩⟩
theorem b1n{m:List Addr}{H:Hp}:∀{l:List D}{bC:List (D×D)}{vs:List V},a6w l=some bC->Rps m H l vs->∃gs,PrT H vs gs/\DK m H bC gs
 |[],bC,vs,h,r=>by cases h;rw[show vs=[] from r];exact⟨[],.nil,.nil⟩
 |d::l,bC,vs,h,⟨v,t,e,q1,q2⟩=>by
  unfold a6w at h;split at h
  · rename_i e0;cases e0
  · rename_i k x r e0;cases e0;obtain⟨hk,h⟩:=ifs h;obtain⟨kvs',h1,rfl⟩:=Option.map_eq_some_iff.mp h;obtain⟨gs,g1,g2⟩:=b1n h1 q2;obtain⟨kk,hk⟩:=Option.isSome_iff_exists.mp hk;obtain⟨a,ws,rfl,ha,rs⟩:=q1;obtain⟨y,z,rfl,r1,r2⟩:=b9S rs;have:=Y0 hk r1;subst this;rw[e];exact⟨(kk,z)::gs,.cons ⟨a,rfl,ha⟩ g1,.cons ⟨hk,r2⟩ g2⟩
  · cases h
theorem b3n(h:DK m H bC gs):∀{bM:List (D×D)}{ag:List (Key×V)},DK m H bM ag->DK m H (bC.foldl (λa p=>a0b a p.1 p.2) bM) (X4 ag gs):=by
 unfold DK at h
 induction h with
 |nil=>exact λr=>r
 |cons h t ih=>exact λr=>ih (DK.put r h.1 h.2)
theorem b8R(hc:X.calm=true)(hK:X.K=Γ.K):J0 X (.type "dict") (rBi Γ E .dict):=by
 rintro bB s σ H xs us Q I r ⟨ds,ah,m,S,rs,q⟩;obtain⟨d,x,rfl,rfl,r1,q⟩:=a0B ∅ rs q;cases d<;>first|exact q.elim|skip
 obtain⟨ys,a,vs,rfl,h1,q1,q⟩:=a0C ∅ S r1 q;unfold biL at q;simp only at q;split at q
 · rename_i bC e2;obtain⟨gs,g1,g2⟩:=b1n e2 q1;exact a5X hc bB s σ H _ us Q I r ⟨a,vs,gs,rfl,by rw[hK];exact h1,g1,λd hd=>q.newc S hd (.inl ⟨_,i7,(b3n g2 .nil).mono (Pre.snoc m d) (Keep.newc (m:=m) hd).im⟩)⟩
 · exact q.elim
theorem c1p(hc:X.calm=true)(hK:X.K=Γ.K):J0 X (.builtin "all") (rBi Γ E .all):=by
 rintro bB s σ H xs us Q I r ⟨ds,ah,m,S,rs,q⟩;obtain⟨d,x,rfl,rfl,r1,q⟩:=a0B ∅ rs q;cases d<;>first|exact q.elim|skip
 obtain⟨ys,a,vs,rfl,h1,q1,q⟩:=a0C ∅ S r1 q;unfold biL at q;simp only at q;split at q
 · rename_i bs e2;rw[a5f e2 q1] at h1;exact b3v hc bB s σ H _ us Q I r ⟨a,bs,rfl,by rw[hK];exact h1,q.ok S rfl⟩
 · exact q.elim
theorem c1o(hc:X.calm=true)(hK:X.K=Γ.K):J0 X (.builtin "any") (rBi Γ E .any):=by
 rintro bB s σ H xs us Q I r ⟨ds,ah,m,S,rs,q⟩;obtain⟨d,x,rfl,rfl,r1,q⟩:=a0B ∅ rs q;cases d<;>first|exact q.elim|skip
 obtain⟨ys,a,vs,rfl,h1,q1,q⟩:=a0C ∅ S r1 q;unfold biL at q;simp only at q;split at q
 · rename_i bs e2;rw[a5f e2 q1] at h1;exact b3u hc bB s σ H _ us Q I r ⟨a,bs,rfl,by rw[hK];exact h1,q.ok S rfl⟩
 · exact q.elim
theorem c1l(hc:X.calm=true):J0 X (.builtin "max") (rBi Γ E .max):=by
 rintro bB s σ H xs us Q I r ⟨ds,ah,m,S,rs,q⟩;cases ds with
 |nil=>exact q.elim
 | cons d l=>
  cases l with
  |nil=>
   obtain⟨x,rfl,r1⟩:=a6r rs;cases d<;>first|exact q.elim|skip
   obtain⟨_,_,_,_,_,_,q⟩:=a0C ∅ S r1 q;exact q.elim
  |cons e l=>
   unfold biD at q;simp only at q;obtain⟨z,q⟩:=ifq q;obtain⟨-,rfl⟩:=z;obtain⟨x,y,rfl,r1,r2⟩:=b9S rs;cases d<;>first|exact q.elim|skip
   cases e<;>first|exact q.elim|skip
   cases r1;cases r2;exact b0n hc bB s σ H _ us Q I r ⟨_,_,rfl,q.ok S rfl⟩
def rMt(Γ:Gm)(E:XK)(b:Mt):V->List V->Hp->VK->Prop:=λx xs H Q=>∃d ds ah m,Sim Γ ah m H/\Rp m H d x/\Rps m H ds xs/\i8 Γ E m H (mtD b ah d ds) Q
theorem b1S:MtR X "list.append" (rMt Γ E .append):=by
 rintro bB s σ H x xs v us Q I rx r ⟨d,ds,ah,m,S,rd,rs,q⟩;unfold mtD at q;split at q<;>(try exact q.elim)
 · rename_i n e0;obtain⟨y,rfl,r1⟩:=a6r rs;split at q
   · rename_i l e;obtain⟨hl,q⟩:=ifq q;obtain⟨a,vs,rfl,hm,h1,q1⟩:=S.lst e rd;refine a4A bB s σ H _ _ v us Q I rx r ⟨a,vs,y,rfl,rfl,h1,by rw[q1.len,←Q8];exact hl,?_⟩;have kp:Keep m m H (upd H a (.lst (vs++[y]))):=Keep.put hm h1 λz=>z;exact q m _ _ (Pre.refl m) kp (S.write hm h1 (λz=>z) ⟨_,i7,(q1.snoc r1).mono (Pre.refl m) kp⟩) rfl
   · contradiction
   · exact q.elim
theorem b1R:MtR X "list.extend" (rMt Γ E .extend):=by
 rintro bB s σ H x xs v us Q I rx r ⟨d,ds,ah,m,S,rd,rs,q⟩;unfold mtD at q;split at q<;>(try exact q.elim)
 · rename_i n e0;obtain⟨y,rfl,r1⟩:=a6r rs;split at q
   · contradiction
   · rename_i l e;split at q
     · split at q
       · rename_i ys e2;obtain⟨hl,q⟩:=ifq q;obtain⟨a,vs,rfl,hm,h1,q1⟩:=S.lst e rd;obtain⟨b,ws,rfl,eO,h2,q2⟩:=S.lst e2 r1;refine a9P bB s σ H _ _ v us Q I rx r ⟨a,b,vs,ws,rfl,rfl,h1,h2,by rw[q1.len,q2.len,←Q8];exact hl,?_⟩;have kp:Keep m m H (upd H a (.lst (vs++ws))):=Keep.put hm h1 λz=>z;exact q m _ _ (Pre.refl m) kp (S.write hm h1 (λz=>z) ⟨_,i7,(q1.app q2).mono (Pre.refl m) kp⟩) rfl
       · exact q.elim
     · split at q
       · rename_i hl;obtain⟨a,vs,rfl,hm,h1,q1⟩:=S.lst e rd;obtain⟨b,ws,rfl,h2,q2⟩:=r1;refine b5f bB s σ H _ _ v us Q I rx r ⟨a,b,vs,ws,rfl,rfl,h1,(by first|exact .inl h2|exact .inl (.inl h2)),by rw[q1.len,q2.len,←Q8];exact hl,?_⟩;have kp:Keep m m H (upd H a (.lst (vs++ws))):=Keep.put hm h1 λz=>z;exact q m _ _ (Pre.refl m) kp (S.write hm h1 (λz=>z) ⟨_,i7,(q1.app q2).mono (Pre.refl m) kp⟩) rfl
       · exact q.elim
     · exact q.elim
   · exact q.elim
theorem b5g:MtR X "str.split" (rMt Γ E .split):=by
 rintro bB s σ H x xs v us Q I rx r ⟨d,ds,ah,m,S,rd,rs,q⟩;unfold mtD at q;split at q<;>(try exact q.elim)
 · simp only at q;obtain⟨h,q⟩:=ifq q;obtain⟨y,rfl,r1⟩:=a6r rs;cases rd;cases r1;refine b1N bB s σ H _ _ v us Q I rx r ⟨_,_,rfl,rfl,h.1,by rw[←Q8];exact h.2,λp hp=>q.newc S hp ⟨_,i7,Rps.strs⟩⟩
theorem b1Q:MtR X "str.startswith" (rMt Γ E .starts):=by
 rintro bB s σ H x xs v us Q I rx r ⟨d,ds,ah,m,S,rd,rs,q⟩;unfold mtD at q;split at q<;>(try exact q.elim)
 · obtain⟨y,rfl,r1⟩:=a6r rs;cases rd;cases r1;exact a9O bB s σ H _ _ v us Q I rx r ⟨_,_,rfl,rfl,q.ok S rfl⟩
theorem b7U(hK:X.K=Γ.K):MtR X "str.join" (rMt Γ E .join):=by
 rintro bB s σ H x xs v us Q I rx r ⟨d,ds,ah,m,S,rd,rs,q⟩;unfold mtD at q;split at q<;>(try exact q.elim)
 · simp only at q;split at q
   · rename_i l e;split at q
     · rename_i ts e2;obtain⟨hj,q⟩:=ifq q;obtain⟨y,rfl,r1⟩:=a6r rs;obtain⟨a,vs,rfl,_,h1,q1⟩:=S.rdL e r1;rw[a6p e2 q1] at h1;cases rd;exact b5e bB s σ H _ _ v us Q I rx r ⟨_,a,ts,rfl,rfl,by rw[hK];exact h1,hj,q.ok S rfl⟩
     · exact q.elim
   · exact q.elim
theorem c2h(hu:X.A.units+8<cLine):b9o X (λo i v H Q=>∃d1 d2 d3 ah m,Sim Γ ah m H/\Rp m H d1 o/\Rp m H d2 i/\Rp m H d3 v/\k7 Γ E m H (a2q ah d1 d2 d3) (λ_ _ _ H'=>Q H')):=by
 rintro bB s σ H o i v ov iv u Q I ro ri rv ⟨d1,d2,d3,ah,m,S,r1,r2,r3,q⟩;unfold a2q at q;split at q
 · split at q
   · rename_i xs e;split at q
     · rename_i k;split at q
       · rename_i j e2;obtain⟨a,vs,rfl,hm,h1,q1⟩:=S.lst e r1;cases r2;refine b0N bB s σ H _ _ _ ov iv u Q I ro ri rv ⟨a,vs,_,j,rfl,rfl,h1,by rw[q1.len];exact e2,?_⟩;have kp:Keep m m H (upd H a (.lst (vs.set j v))):=Keep.put hm h1 λz=>z;exact q m _ (Pre.refl m) kp (S.write hm h1 (λz=>z) ⟨_,i7,(q1.set j r3).mono (Pre.refl m) kp⟩)
       · exact q.elim
     · exact q.elim
   · rename_i bC e;split at q
     · rename_i h;obtain⟨a,rfl,hm⟩:=r1;cases (show ov=Value.ref a from ro);obtain⟨H',I',kp,S',hd⟩:=T5 I S e h.1 hm;have r3':=r3.mono (Pre.refl m) kp;rcases hd with⟨ks,gs,hk,ha,dk⟩|⟨l,ks,gs,rfl,hk,ha,dt⟩
       · have kp2:Keep m m H' (upd H' a (.dK (Q2 gs ks v))):=Keep.put hm ha λz=>z;refine a4M (v:=v) (H':=upd H' a (.dK (Q2 gs ks v))) (hu1 hu) I' (.inl ⟨gs,ks,ha,Y0 hk r2,by rw[←Paired.length dk,←Q8];exact h.2,rfl⟩) ri rv λs' fE=>⟨_,fE,?_⟩;exact q m _ (Pre.refl m) (kp.trans kp2) (S'.write hm ha (λz=>z) (.inl ⟨_,i7,(dk.put hk r3').mono (Pre.refl m) kp2.im⟩))
       · have kp2:Keep m m H' (upd H' a (.dT (Q2 gs ks v))):=Keep.put hm ha λz=>z;obtain⟨b,vs,rfl,hb,rs⟩:=r2;have hv:=a3I hk rs;subst hv;refine a4M (v:=v) (H':=upd H' a (.dT (Q2 gs ks v))) (hu1 hu) I' (.inr ⟨gs,ks,b,ha,rfl,kp.tup hb,by rw[←Paired.length dt,←Q8];exact h.2,rfl⟩) ri rv λs' fE=>⟨_,fE,?_⟩;exact q m _ (Pre.refl m) (kp.trans kp2) (S'.write hm ha (λz=>z) (.inr ⟨_,i7,(dt.put hk r3').mono (Pre.refl m) kp2.im⟩))
     · exact q.elim
   · exact q.elim
 · exact q.elim
theorem Fl.put(r:Rp m H d v){fs:List (Str×D)}{gs:List (Str×V)}(h:Fl m H fs gs):Fl m H (a4x f d fs) (X3 f v gs):=by
 induction h with
 |nil=>exact .cons ⟨rfl,r⟩ .nil
 | @cons p q ps qs h t ih=>
  obtain⟨n,x⟩:=p;obtain⟨n',x'⟩:=q;have e:n=n':=h.1;subst e;unfold a4x X3;split
  · exact .cons ⟨rfl,r⟩ t
  · exact .cons h ih
theorem Fl.look{fs:List (Str×D)}{gs:List (Str×V)}(h:Fl m H fs gs)(e:fs.lookup f=some d):∃v,gs.lookup f=some v/\Rp m H d v:=by
 induction h with
 |nil=>cases e
 | @cons p q ps qs h t ih=>
  obtain⟨n,x⟩:=p;obtain⟨n',x'⟩:=q;have e1:n=n':=h.1;subst e1;rw[lookup_cons] at e⊢;cases z:f==n with
  |true=>rw[z] at e;cases e;exact⟨x',rfl,h.2⟩
  |false=>rw[z] at e;exact ih e
end
set_option genInjectivity false
mutual
inductive Pat where
  |nm (i:Nat)|tp (ps:Pats)
inductive Pats where
  |nil|cons (p:Pat) (r:Pats)
end
mutual
inductive E where
  |v (i:Nat)|k (d:D)|bin (o:B) (a b:E)|isN (a:E)|notN (a:E)|neg (a:E)|nt (a:E)|an (a b:E)|orr (a b:E)|chn (o p:B) (a b c:E)
  |ix (a b:E)|sl (a:E) (lo hi:O)|fld (a:E) (f:Str)|lst (es:Es)|tup (es:Es)|dnew|call (f:Nat) (es:Es)|mk (c:Nat) (es:Es)|bi (b:Bi) (es:Es)|mt (b:Mt) (o:E) (es:Es)
  |ins (k:Nat) (a:E)|comp (p:Pat) (it:I) (n:Nat) (fr:List Nat) (t:T) (e:E)|gin (neg:Bool) (a:E) (ds:List D)|gdin (neg:Bool) (a:E) (bC:List (D×D))|gdix (a:E) (bC:List (D×D))|dlit (bC:List (D×D))|dget (a k x:E)
inductive Es where
  |nil|cons (e:E) (r:Es)
inductive T where
  |yes|val (e:E)|cmp (o:B) (a b:E)|isN (a:E)|notN (a:E)|chn (o p:B) (a b c:E)|an (a b:T)|orr (a b:T)|nt (a:T)
inductive O where
  |no|at(e:E)
inductive I where
  |seq (e:E)|rng1 (a:E)|enum (e:E)|rev (e:E)|zip (a b:E)|zipn (a b:E)
end
mutual
inductive S where
  |set (i:Nat) (e:E)|ex (e:E)|ret (e:E)|iff (t:T) (a b:Ss)|for (p:Pat) (it:I) (b:Ss)|whl (t:T) (b:Ss)|pat (p:Pat) (e:E)|bad|six (a i v:E)|sfl (a:E) (f:Str) (v:E)
inductive Ss where
  |nil|cons (s:S) (r:Ss)
end
set_option genInjectivity true
abbrev Es.o(a:E):Es:=.cons a .nil
abbrev Ss.o(a:S):Ss:=.cons a .nil
abbrev E.i(n:Int):E:=.k (.int n)
abbrev E.s(x:Str):E:=.k (.str x)
inductive Out where
 |nx (env:o8)|rt (d:D)
abbrev CF:=Nat->List D->AH->R D
structure CT where
 init:Nat->Nat
mutual
def F7:Pat->D->o8->Option o8
  |.nm i,d,env=>some (env.set i (some d))
  | .tp ps,d,env=>match d with
    |.tup ds=>N5 ps ds env
    |_=>none
def N5:Pats->List D->o8->Option o8
  | .nil,ds,env=>match ds with
    |[]=>some env
    |_::_=>none
  | .cons p r,ds,env=>match ds with
    |[]=>none
    | d::t=>match F7 p d env with
      |some bF=>N5 r t bF
      |none=>none
end
def gOk(g:List (Nat×Cell))(h:AH):Bool:=g.all λp=>decide (h[p.1]? =some p.2)
def asB(r:R D):R Bool:=r.bind λd h=>match d with
 |.bl b=>.ok b h
 |_=>.no
noncomputable def G0(g:List (Nat×Cell))(p:Pat)(body:o8->AH->R Out):List D->o8->AH->R Out
 |[],env,h=>if gOk g h=true then .ok (.nx env) h else .no
 | x::r,env,h=>if gOk g h=true then(match F7 p x env with
  |none=>.no
  |some bF=>(body bF h).bind λo h'=>match o with
   |.nx env''=>G0 g p body r env'' h'
   |.rt d=>.ok (.rt d) h') else .no
noncomputable def Q1(g:List (Nat×Cell))(p:Pat)(t:o8->AH->R Bool)(cM:o8->AH->R D)(env0:o8):List D->List D->AH->R (List D)
 |[],bM,h=>if gOk g h=true then .ok bM h else .no
 | x::r,bM,h=>if gOk g h=true then(match F7 p x env0 with
  |none=>.no
  |some env=>(t env h).bind λb h1=>if b=true then((cM env h1).bind λd h2=>if ↥bM<SL then Q1 g p t cM env0 r (bM++[d]) h2 else .no)
   else Q1 g p t cM env0 r bM h1) else .no
def a4V:Nat:=1000000
noncomputable def a4e(t:o8->AH->R Bool)(body:o8->AH->R Out):Nat->o8->AH->R Out
 |0,_,_=>.no
 |n+1,env,h=>(t env h).bind λb h1=>if b=true then((body env h1).bind λo h'=>match o with
  |.nx env''=>a4e t body n env'' h'
  |.rt d=>.ok (.rt d) h') else .ok (.nx env) h1
def u5:Nat->List D->List D
 |_,[]=>[]
 |n,x::r=>.tup [.int n,x]::u5 (n+1) r
def Y9(x:Str):List D:=x.cps.toList.map λc=>.str ⟨#[c]⟩
def b0X(lo:Int)(n:Nat):List D:=(List.range n).map λi=>.int (lo+(i:Nat))
abbrev Its:=List D×List (Nat×Cell)
def L3(h:AH):D->R Its
 |.str x=>.ok (Y9 x,[]) h
 |.tup l=>.ok (l,[]) h
 |.ref n=>match h[n]? with
  |some (.lst l)=>.ok (l,[(n,.lst l)]) h
  |some (.rol l)=>.ok (l,[(n,.rol l)]) h
  |_=>.no
 |_=>.no
def a9C(h:AH):D->D->R Its
 |.int i,.int j=>if a3l i=true/\a3l j=true then .ok (b0X i (j-i).toNat,[]) h else .no
 |_,_=>.no
def U5(h:AH):D->R Its
 |.ref n=>match h[n]? with
  |some (.lst l)=>.ok (u5 0 l,[(n,.lst l)]) h
  |some (.rol l)=>.ok (u5 0 l,[(n,.rol l)]) h
  |_=>.no
 |_=>.no
def U0(h:AH)(n:Nat):Option (List D×Cell):=match h[n]? with
 |some (.lst l)=>some (l,.lst l)
 |some (.rol l)=>some (l,.rol l)
 |_=>none
def b0Y(h:AH):D->R Its
 |.ref n=>(match U0 h n with
  |some a=>.ok (a.1.reverse,[(n,a.2)]) h
  |none=>.no)
 |_=>.no
def M5:List D->List D->List D
 |x::xs,y::ys=>.tup [x,y]::M5 xs ys
 |_,_=>[]
def a6c(h:AH):D->D->R Its
 |.ref i,.ref j=>match U0 h i,U0 h j with
  |some a,some b=>.ok (M5 a.1 b.1,[(i,a.2),(j,b.2)]) h
  |_,_=>.no
 |_,_=>.no
def a6d(h:AH)(x y:D):R Its:=match x with
 | .tup l=>(match y with
  |.ref j=>(match U0 h j with
   |some b=>.ok (M5 l b.1,[(j,b.2)]) h
   |none=>.no)
  |_=>.no)
 |x=>a6c h x y
def b5n(h:AH)(k:Nat)(x:D):Option Bool:=match x with
 |.tup _=>if k=3 then some true else none
 |_=>none
def F0(n:Nat)(fr:List Nat)(env:o8):o8:=List.replicate n none++fr.map λj=>(env[j]?).join
def a8S(r:R D):R (Option Int):=r.bind λd h=>match d with
 |.int i=>.ok (some i) h
 |_=>.no
section
variable(ct:CT)(c:CF)
mutual
def ev:E->o8->AH->R D
  | .v i,env,h=>match env[i]? with
    |some (some d)=>.ok d h
    |_=>.no
  |.k d,_,h=>.ok d h
  |.bin o a b,env,h=>(ev a env h).bind λx h1=>(ev b env h1).bind λy h2=>op2 o h2 x y
  |.isN a,env,h=>(ev a env h).bind λx h1=>.ok (.bl (decide (x=.non))) h1
  |.notN a,env,h=>(ev a env h).bind λx h1=>.ok (.bl (!decide (x=.non))) h1
  | .neg a,env,h=>(ev a env h).bind λx h1=>match x with
    |.int i=>.ok (.int (-i)) h1
    |_=>.no
  |.nt a,env,h=>(asB (ev a env h)).bind λb h1=>.ok (.bl (!b)) h1
  |.an a b,env,h=>(asB (ev a env h)).bind λx h1=>if x=true then ev b env h1 else .ok (.bl false) h1
  |.orr a b,env,h=>(asB (ev a env h)).bind λx h1=>if x=true then .ok (.bl true) h1 else ev b env h1
  |.chn o p a b e,env,h=>(ev a env h).bind λx h1=>(ev b env h1).bind λy h2=>(asB (op2 o h2 x y)).bind λk h3=>if k=true then(ev e env h3).bind λz h4=>op2 p h4 y z else .ok (.bl false) h3
  |.ix a b,env,h=>(ev a env h).bind λx h1=>(ev b env h1).bind λy h2=>ixD h2 x y
  |.sl a lo hi,env,h=>(ev a env h).bind λx h1=>(evo lo env h1).bind λl h2=>(evo hi env h2).bind λu h3=>slD h3 l u x
  |.fld a f,env,h=>(ev a env h).bind λx h1=>Y1 h1 f x
  |.lst es,env,h=>(evs es env h).bind λds h1=>if ↥ds<=SL then v8 (.lst ds) h1 else .no
  |.tup es,env,h=>(evs es env h).bind λds h1=>if ↥ds<=SL then .ok (.tup ds) h1 else .no
  |.dnew,_,h=>v8 (.dict []) h
  |.call f es,env,h=>(evs es env h).bind λds h1=>c f ds h1
  | .mk k es,env,h=>(evs es env h).bind λds h1=>(c (ct.init k) (.ref ↥h1::ds) (h1++[.obj k []])).bind λr h2=>match r with
    |.non=>.ok (.ref ↥h1) h2
    |_=>.no
  |.bi b es,env,h=>(evs es env h).bind λds h1=>biD b h1 ds
  |.mt b o es,env,h=>(ev o env h).bind λx h1=>if mtT b h1 x=true then(evs es env h1).bind λds h2=>mtD b h2 x ds else .no
  | .ins k a,env,h=>(ev a env h).bind λx h1=>match b5n h1 k x with
    |some b=>.ok (.bl b) h1
    |none=>.no
  |.comp p it n fr t e,env,h=>(evi it env h).bind λx h1=>(Q1 x.2 p (tst t) (ev e) (F0 n fr env) x.1 [] h1).bind λds h2=>v8 (.lst ds) h2
  |.gin neg a ds,env,h=>(ev a env h).bind λx h1=>if y7 x=true/\ds.all y7=true then .ok (.bl (inD x ds !=neg)) h1 else .no
  |.gdin neg a bC,env,h=>(ev a env h).bind λx h1=>if(K3 x).isSome=true then .ok (.bl ((o7 bC x).isSome !=neg)) h1 else .no
  | .gdix a bC,env,h=>(ev a env h).bind λx h1=>if(K3 x).isSome=true then(match o7 bC x with
    |some d=>.ok d h1
    |none=>.no) else .no
  |.dlit bC,_,h=>v8 (.dict bC) h
  |.dget a k x,env,h=>(ev a env h).bind λo h1=>if b2j h1 o=true then(ev k env h1).bind λy h2=>(ev x env h2).bind λz h3=>a7c h3 o y z else .no
def evs:Es->o8->AH->R (List D)
  |.nil,_,h=>.ok [] h
  |.cons e r,env,h=>(ev e env h).bind λd h1=>(evs r env h1).bind λds h2=>.ok (d::ds) h2
def tst:T->o8->AH->R Bool
  |.yes,_,h=>.ok true h
  |.val e,env,h=>asB (ev e env h)
  |.cmp o a b,env,h=>asB ((ev a env h).bind λx h1=>(ev b env h1).bind λy h2=>op2 o h2 x y)
  |.isN a,env,h=>(ev a env h).bind λx h1=>.ok (decide (x=.non)) h1
  |.notN a,env,h=>(ev a env h).bind λx h1=>.ok (!decide (x=.non)) h1
  |.chn o p a b e,env,h=>asB ((ev a env h).bind λx h1=>(ev b env h1).bind λy h2=>(asB (op2 o h2 x y)).bind λk h3=>if k=true then(ev e env h3).bind λz h4=>op2 p h4 y z else .ok (.bl false) h3)
  |.an a b,env,h=>(tst a env h).bind λx h1=>if x=true then tst b env h1 else .ok false h1
  |.orr a b,env,h=>(tst a env h).bind λx h1=>if x=true then .ok true h1 else tst b env h1
  |.nt a,env,h=>(tst a env h).bind λx h1=>.ok (!x) h1
def evo:O->o8->AH->R (Option Int)
  |.no,_,h=>.ok none h
  |.at e,env,h=>a8S (ev e env h)
def evi:I->o8->AH->R Its
  |.seq e,env,h=>(ev e env h).bind λd h1=>L3 h1 d
  |.rng1 a,env,h=>(ev a env h).bind λd h1=>a9C h1 (.int 0) d
  |.enum e,env,h=>(ev e env h).bind λd h1=>U5 h1 d
  |.rev e,env,h=>(ev e env h).bind λd h1=>b0Y h1 d
  |.zip a b,env,h=>(ev a env h).bind λx h1=>(ev b env h1).bind λy h2=>a6d h2 x y
  |.zipn a b,env,h=>(ev a env h).bind λx h1=>(ev b env h1).bind λy h2=>a6c h2 x y
end
mutual
def ex:S->o8->AH->R Out
  |.set i e,env,h=>(ev ct c e env h).bind λd h1=>.ok (.nx (env.set i (some d))) h1
  |.ex e,env,h=>(ev ct c e env h).bind λ_ h1=>.ok (.nx env) h1
  |.ret e,env,h=>(ev ct c e env h).bind λd h1=>.ok (.rt d) h1
  |.iff t a b,env,h=>(tst ct c t env h).bind λx h1=>if x=true then exs a env h1 else exs b env h1
  |.for p it b,env,h=>(evi ct c it env h).bind λx h1=>G0 x.2 p (exs b) x.1 env h1
  |.whl t b,env,h=>a4e (tst ct c t) (exs b) a4V env h
  | .pat p e,env,h=>(ev ct c e env h).bind λd h1=>match F7 p d env with
    |some bF=>.ok (.nx bF) h1
    |none=>.no
  |.bad,_,_=>.no
  |.six a i v,env,h=>(ev ct c v env h).bind λx h1=>(ev ct c a env h1).bind λo h2=>(ev ct c i env h2).bind λk h3=>(a2q h3 o k x).bind λ_ h4=>.ok (.nx env) h4
  |.sfl a f v,env,h=>(ev ct c v env h).bind λx h1=>(ev ct c a env h1).bind λo h2=>(a5e h2 o f x).bind λ_ h3=>.ok (.nx env) h3
def exs:Ss->o8->AH->R Out
  |.nil,env,h=>.ok (.nx env) h
  | .cons s r,env,h=>(ex s env h).bind λo h1=>match o with
    |.nx bF=>exs r bF h1
    |.rt d=>.ok (.rt d) h1
end
end
structure Fn where
 np:Nat
 ns:Nat
 gc:Nat
 body:Ss
def Cell.flat:Cell->Bool
 |.lst l=>D.flats l
 |.dict l=>l.all λp=>p.1.flat&&p.2.flat
 |_=>false
noncomputable def gcR(n:Nat)(h:AH):R D->R D
 | .ok d h'=>if n=0 then .ok d h' else if n=1 then(if h'.take ↥h=h/\d.flat=true then .ok d h else .no)
  else(match d with
   |.ref k=>(match h'[k]? with
    |some c=>if h'.take ↥h=h/\↥h<=k/\c.flat=true then .ok (.ref ↥h) (h++[c]) else .no
    |none=>.no)
   |_=>.no)
 |.no=>.no
def b5(ct:CT)(F:Nat->Option Fn):Nat->CF
 |0=>λ_ _ _=>.no
 | k+1=>λf ds h=>match F f with
  |none=>.no
  |some fd=>if ↥ds=fd.np then gcR fd.gc h (match exs ct (b5 ct F k) fd.body (ds.map some++List.replicate (fd.ns-fd.np) none) h with
   |.ok (.nx _) h'=>.ok .non h'
   |.ok (.rt d) h'=>.ok d h'
   |.no=>.no) else .no
structure GT where
 fn:List (Str×Nat×Nat)
 scal:List (Str×D)
 tups:List (Str×List D)
 dicts:List (Str×List (D×D))
 obj:List (Str×Nat)
 atts:List Str
 blt:List Str
def c1q:Operator->Option B
 |.Add=>some .add|.Sub=>some .sub|.Mult=>some .mul|.FloorDiv=>some .div|.Mod=>some .mod
 |_=>none
def a8g:CmpOp->Option B
 |.Eq=>some .eq|.NotEq=>some .ne|.Lt=>some .lt|.LtE=>some .le|.Gt=>some .gt|.GtE=>some .ge|.In=>some .isin|.NotIn=>some .notin
 |_=>none
def b2h(sc:Scope)(x:Str):Bool:=match sc.names.lookup x with
 |some .local=>true|some .cell=>true|some .free=>true
 |_=>false
def N3(sc:Scope)(x:Str):Bool:=decide (sc.names.lookup x=some .globalImplicit)&&decide (x≠"__debug__")&&decide (x≠"__name__")
def slot(N:List Str)(sc:Scope)(x:Str):Option Nat:=if b2h sc x&&decide (x≠"__debug__")&&decide (x≠"__classdict__") then N.idxOf? x else none
def b2i(bQ:Bool)(sc:Scope)(x:Str):Bool:=match sc.names.lookup x with
 |some .local=>true|some .cell=>bQ
 |_=>false
def a3o(bQ:Bool)(N:List Str)(sc:Scope)(x:Str):Option Nat:=if b2i bQ sc x then N.idxOf? x else none
noncomputable def b8U(x:Str):Option Bi:=if x="len" then some .len else if x="str" then some .str else if x="int" then some .int else if x="tuple" then some .tuple else if x="list" then some .list
 else if x="all" then some .all else if x="any" then some .any else if x="max" then some .max else if x="dict" then some .dict else none
noncomputable def b7T(x:Str):Option Mt:=if x="append" then some .append else if x="extend" then some .extend else if x="split" then some .split else if x="join" then some .join else if x="startswith" then some .starts else none
def u7:Expr->Bool
 |.Starred _ _=>false
 |_=>true
def a1b:Expr->Bool
 |.Call (.Name _ _) [] [] _=>false
 |_=>true
def a2V:Expr->Bool
 |.Slice .. =>false
 |_=>true
def a1A:Expr->Bool
 |.Set .. =>false
 |_=>true
def a8y(sc scope:Scope):Scope:={scope with names:=scope.names.map fun(n,k)=>if(k==NameKind.free&&sc.kind==.function&&sc.names.lookup n==some .cell) then(n,NameKind.cell) else(n,k)}
def b7o:Expr->Bool
 |.Name .. =>true|.Call .. =>true|.Subscript .. =>true|.Attribute .. =>true
 |_=>false
mutual
def a8j(bQ:Bool)(N:List Str)(sc:Scope):Nat->Expr->Option Pat
  |0,_=>none
  | n+1,e=>match e with
    |.Name x _=>(a3o bQ N sc x).map .nm
    |.Tuple es _ _=>(a3V bQ N sc n es).map .tp
    |_=>none
def a3V(bQ:Bool)(N:List Str)(sc:Scope):Nat->List Expr->Option Pats
  |0,_=>none
  | n +1,es=>match es with
    |[]=>some .nil
    | e::r=>match a8j bQ N sc n e,a3V bQ N sc n r with
      |some p,some ps=>some (.cons p ps)
      |_,_=>none
end
mutual
def L5:Pat->List Nat
  |.nm i=>[i]
  |.tp ps=>a0J ps
def a0J:Pats->List Nat
  |.nil=>[]
  |.cons p r=>L5 p++a0J r
end
mutual
def v5:Nat->Expr->List Str
  |0,_=>[]
  | n+1,e=>match e with
    |.Name x _=>[x]
    |.Tuple es _ _=>a4y n es
    |_=>[]
def a4y:Nat->List Expr->List Str
  |0,_=>[]
  | n+1,es=>match es with
    |[]=>[]
    |e::r=>v5 n e++a4y n r
end
def E7(scope:Scope):List Str:=(scope.names.filter λy=>decide (y.2=.free)).map (·.1)
def b5p(N:List Str):List Str->Option (List Nat)
 |[]=>some []
 |x::r=>match N.idxOf? x,b5p N r with
  |some i,some is=>some (i::is)
  |_,_=>none
structure Rec where
 E:List Str->Scope->Expr->Option E
 Es:List Str->Scope->List Expr->Option Es
 T:List Str->Scope->Expr->Option T
 O:List Str->Scope->Option Expr->Option O
 I:List Str->Scope->Expr->Expr->Option I
def b8i:Expr->Bool
 |.Constant k _ _=>(match k with
  |.none=>true
  |_=>false)
 |_=>false
def a7G:CmpOp->Option Bool
 |.Is=>some true
 |.IsNot=>some false
 |_=>none
def b9K:Expr->Option (Option Expr×Option Expr)
 |.Slice lo hi st _=>(match st with
  |none=>some (lo,hi)
  |some _=>none)
 |_=>none
def b9P:Const->Option E
 |.int i=>some (.k (.int i))
 |.str x=>some (.k (.str x))
 |.bool b=>some (.k (.bl b))
 |.none=>some (.k .non)
 |_=>none
def sUn(G:GT)(r:Rec)(N:List Str)(sc:Scope)(a:Expr):UnaryOp->Option E
 |.USub=>(r.E N sc a).map .neg
 |.Not=>(r.E N sc a).map .nt
 |_=>none
noncomputable def sBo (G : GT)(r:Rec)(N:List Str)(sc:Scope)(p:Pos)(op:BoolOp):List Expr->Option E
 |[]=>none
 | a :: t => match t with
   |[]=>r.E N sc a
   | b::l=>match op with
     |.And=>(match r.E N sc a,r.E N sc (.BoolOp .And (b::l) p) with
             |some x,some y=>some (.an x y)
             |_,_=>none)
     |.Or=>(match r.E N sc a,r.E N sc (.BoolOp .Or (b::l) p) with
             |some x,some y=>some (.orr x y)
             |_,_=>none)
noncomputable def b9R(G:GT)(r:Rec)(N:List Str)(sc:Scope)(a:Expr)(op:CmpOp)(b:Expr):Option E:=
 if b8i b&&(a7G op).isSome then(match a7G op with
  |some true=>(r.E N sc a).map .isN
  |_=>(r.E N sc a).map .notN) else
 if a1A b then(match a8g op,r.E N sc a,r.E N sc b with
  |some o,some x,some y=>some (.bin o x y)
  | some o,some x,none=>(match b with
   |.Name y _=>if N3 sc y then(match op,G.tups.lookup y with
    |.In,some ds=>some (.gin false x ds)
    |.NotIn,some ds=>some (.gin true x ds)
    |.In,none=>(G.dicts.lookup y).map (.gdin false x)
    |.NotIn,none=>(G.dicts.lookup y).map (.gdin true x)
    |_,_=>none) else none
   |_=>none)
  |_,_,_=>none) else none
noncomputable def b9Q(G:GT)(r:Rec)(N:List Str)(sc:Scope)(a:Expr)(op op':CmpOp)(b d:Expr):Option E:=if a1A d then(match a8g op,a8g op',r.E N sc a,r.E N sc b,r.E N sc d with
 |some o,some p,some x,some y,some z=>some (.chn o p x y z)
 |_,_,_,_,_=>none) else none
noncomputable def sSl (G:GT)(r:Rec)(N:List Str)(sc:Scope)(a b:Expr):Option E:=match b9K b with
 | some (lo,hi)=>(match r.E N sc a,r.O N sc lo,r.O N sc hi with
         |some x,some l,some u=>some (.sl x l u)
         |_,_,_=>none)
 |none=>if a2V b then(match r.E N sc a,r.E N sc b with
     |some x,some y=>some (.ix x y)
     | none,some y=>(match a with
       |.Name z _=>if N3 sc z then(G.dicts.lookup z).map (.gdix y) else none
       |_=>none)
     |_,_=>none) else none
def b8M:Expr->Option Str
 |.Constant k _ _=>(match k with
  |.str x=>some x
  |_=>none)
 |_=>none
def b8N:Expr->Option Int
 |.Constant k _ _=>(match k with
  |.int i=>some i
  |_=>none)
 |_=>none
noncomputable def b0i:List (Option Expr)->List Expr->Option (List (D×D))
 |[],vs=>if vs.isEmpty then some [] else none
 | k::ks,vs=>(match vs with
  |[]=>none
  |v::r=>(match k.bind b8M,b8N v,b0i ks r with
   |some x,some i,some l=>some ((.str x,.int i)::l)
   |_,_,_=>none))
def a5q:List D->Bool
 |[]=>true
 |d::r=>!(r.any λe=>decide (e=d))&&a5q r
def b8J(bC:List (D×D)):Bool:=decide (↥bC<=15)&&a5q (bC.map (·.1))
def b3Q:List Expr->Option (Expr×Expr)
 |[]=>none
 |a::r=>(match r with
  |[]=>none
  |b::q=>if q.isEmpty then some (a,b) else none)
def b7P:Expr->Option Str
 |.Name x _=>some x
 |_=>none
def b8l(x:Str):Option Nat:=if x="tuple" then some 3 else none
def sCn(G:GT)(r:Rec)(N:List Str)(sc:Scope)(x:Str)(as:List Expr):Option E:=if N3 sc x then(match G.fn.lookup x with
 |some (f,np)=>if ↥as=np&&decide (as≠[]) then(r.Es N sc as).map (.call f) else none
 | none=>match G.obj.lookup x with
  |some k=>if as=[] then some (.mk k .nil) else none
  | none=>if G.blt.contains x then(if x="isinstance" then(match b3Q as with
   | some (a,b)=>(match b7P b with
    |some y=>if u7 a&&(N3 sc y&&G.blt.contains y) then(match b8l y with
     |some k=>(r.E N sc a).map (.ins k)
     |none=>none) else none
    |none=>none)
   |none=>none)
   else match b8U x with
    |some b=>if as≠[] then(r.Es N sc as).map (.bi b) else none
    |none=>none) else none) else none
noncomputable def b9O(G:GT)(r:Rec)(N:List Str)(sc:Scope)(o:Expr)(as:List Expr):Option E:=match b3Q as with
 |some (a,b)=>if u7 a&&u7 b then(match r.E N sc o,r.E N sc a,r.E N sc b with
  |some x,some y,some z=>some (.dget x y z)
  |_,_,_=>none) else none
 |none=>none
def sCa(G:GT)(r:Rec)(N:List Str)(sc:Scope)(o:Expr)(m:Str)(cu:Pos)(as:List Expr)(bW:Pos):Option E:=if a1b o&&(cu.endLine==bW.line)&&decide (m="get") then b9O G r N sc o as else if a1b o&&(cu.endLine==bW.line)&&decide (↥as<20)&&decide (as≠[]) then(match b7T m,r.E N sc o,r.Es N sc as with
 |some b,some x,some xs=>some (.mt b x xs)
 |_,_,_=>none) else none
def sLc(G:GT)(r:Rec)(N:List Str)(sc:Scope)(cM tg iter:Expr)(ifs:List Expr)(scope:Scope):Option E:=match r.I N sc tg iter with
 | some it=>match b5p N (E7 scope) with
  | some js=>if b8O sc scope (v5 8 tg) (E7 scope)&&a1A iter then(match a8j false (v5 8 tg++E7 scope) (a8y sc scope) 8 tg,r.E (v5 8 tg++E7 scope) (a8y sc scope) cM with
   |some p,some x=>if(L5 p).all (λi=>decide (i<↥(v5 8 tg))) then(match ifs with
    |[]=>some (.comp p it ↥(v5 8 tg) js .yes x)
    |[t]=>(r.T (v5 8 tg++E7 scope) (a8y sc scope) t).map λz=>.comp p it ↥(v5 8 tg) js z x
    |_=>none) else none
   |_,_=>none) else none
  |none=>none
 |none=>none
def sE2(G:GT)(r:Rec)(N:List Str)(sc:Scope)(e:Expr):Option E:=match e with
 |.Subscript a b _=>sSl G r N sc a b
 |.Attribute a f _=>if a1b a&&G.atts.contains f then(r.E N sc a).map (.fld · f) else none
 |.List es _=>(r.Es N sc es).map .lst
 |.Tuple es _ _=>(r.Es N sc es).map .tup
 | .Dict ks vs _=>(match ks with
  |[]=>(match vs with
   |[]=>some .dnew
   |_::_=>none)
  |_::_=>(b0i ks vs).bind λbC=>if b8J bC then some (.dlit bC) else none)
 |.Call f as ks bW=>if ks.isEmpty then(match f with
  |.Name x _=>sCn G r N sc x as
  |.Attribute o m cu=>sCa G r N sc o m cu as bW
  |_=>none) else none
 |.ListComp cM gens scope _=>(match gens with
  |[]=>none
  |g::t=>if t.isEmpty&&decide (g.is_async=0) then sLc G r N sc cM g.target g.iter g.ifs scope else none)
 |_=>none
def sE(G:GT)(r:Rec)(N:List Str)(sc:Scope)(e:Expr):Option E:=match e with
 |.Constant k _ _=>b9P k
 |.Name x _=>match slot N sc x with
  |some i=>some (.v i)
  |none=>if N3 sc x then(G.scal.lookup x).map .k else none
 |.BinOp a op b _=>match c1q op,r.E N sc a,r.E N sc b with
  |some o,some x,some y=>some (.bin o x y)
  |_,_,_=>none
 |.UnaryOp op a _=>sUn G r N sc a op
 |.BoolOp op l p=>sBo G r N sc p op l
 | .Compare a ops bs _=>(match ops with
  |[]=>none
  | op::t=>(match bs with
   |[]=>none
   | b::u=>(match t with
    |[]=>(match u with
     |[]=>b9R G r N sc a op b
     |_::_=>none)
    |op'::t'=>(match u with
     |[]=>none
     |d::u'=>if t'.isEmpty&&u'.isEmpty then b9Q G r N sc a op op' b d else none))))
 |e=>sE2 G r N sc e
noncomputable def sEs(G:GT)(r:Rec)(N:List Str)(sc:Scope)(es:List Expr):Option Es:=match es with
 |[]=>some .nil
 |e::l=>if u7 e then(match r.E N sc e,r.Es N sc l with
  |some x,some xs=>some (.cons x xs)
  |_,_=>none) else none
def sTd(G:GT)(r:Rec)(N:List Str)(sc:Scope)(e:Expr):Option T:=if b7o e then(r.E N sc e).map .val else none
noncomputable def b9M(G:GT)(r:Rec)(N:List Str)(sc:Scope)(a:Expr)(op:CmpOp)(b:Expr):Option T:=
 if b8i b&&(a7G op).isSome then(match a7G op with
  |some true=>(r.E N sc a).map .isN
  |_=>(r.E N sc a).map .notN) else
 if a1A b then(match a8g op,r.E N sc a,r.E N sc b with
  |some o,some x,some y=>some (.cmp o x y)
  | some o,some x,none=>(match b with
   |.Name y _=>if N3 sc y then(match op,G.tups.lookup y with
    |.In,some ds=>some (.val (.gin false x ds))
    |.NotIn,some ds=>some (.val (.gin true x ds))
    |.In,none=>(G.dicts.lookup y).map λbC=>.val (.gdin false x bC)
    |.NotIn,none=>(G.dicts.lookup y).map λbC=>.val (.gdin true x bC)
    |_,_=>none) else none
   |_=>none)
  |_,_,_=>none) else none
noncomputable def b9L(G:GT)(r:Rec)(N:List Str)(sc:Scope)(a:Expr)(op op':CmpOp)(b d:Expr):Option T:=if a1A d then(match a8g op,a8g op',r.E N sc a,r.E N sc b,r.E N sc d with
 |some o,some p,some x,some y,some z=>some (.chn o p x y z)
 |_,_,_,_,_=>none) else none
def sT(G:GT)(r:Rec)(N:List Str)(sc:Scope)(e:Expr):Option T:=match e with
 |.UnaryOp op a p=>(match op with
  |.Not=>(r.T N sc a).map .nt
  |op=>sTd G r N sc (.UnaryOp op a p))
 | .BoolOp op l p=>(match l with
  |[]=>sTd G r N sc (.BoolOp op [] p)
  | a::t=>(match t with
   |[]=>r.T N sc a
   | b::l=>(match op with
    |.And=>(match r.T N sc a,r.T N sc (.BoolOp .And (b::l) p) with
     |some x,some y=>some (.an x y)
     |_,_=>none)
    |.Or=>(match r.T N sc a,r.T N sc (.BoolOp .Or (b::l) p) with
     |some x,some y=>some (.orr x y)
     |_,_=>none))))
 | .Compare a ops bs p=>(match ops with
  |[]=>none
  | op::t=>(match bs with
   |[]=>none
   | b::u=>(match t with
    |[]=>(match u with
     |[]=>b9M G r N sc a op b
     |_::_=>none)
    |op'::t'=>(match u with
     |[]=>none
     |d::u'=>if t'.isEmpty&&u'.isEmpty then b9L G r N sc a op op' b d else none))))
 |e=>sTd G r N sc e
def sO(G:GT)(r:Rec)(N:List Str)(sc:Scope)(o:Option Expr):Option O:=match o with
 |none=>some .no
 |some e=>(r.E N sc e).map .at
noncomputable def sI(G:GT)(r:Rec)(N:List Str)(sc:Scope)(tg e:Expr):Option I:=match e with
 | .Call (.Name x p) as [] q=>if N3 sc x&&G.blt.contains x&&decide (x="range") then(match as with
  |[a]=>if u7 a then(r.E N sc a).map .rng1 else none
  |_=>none)
  else if N3 sc x&&G.blt.contains x&&decide (x="enumerate") then(match as,tg with
   |[a],.Tuple _ _ _=>if u7 a then(r.E N sc a).map .enum else none
   |_,_=>none)
  else if N3 sc x&&G.blt.contains x&&decide (x="zip") then(match as,tg with
   |[a,b],.Tuple _ _ _=>if u7 a&&u7 b then(match r.E N sc a,r.E N sc b with
    |some u,some v=>some (.zip u v)
    |_,_=>none) else none
   |[a,b],.Name _ _=>if u7 a&&u7 b then(match r.E N sc a,r.E N sc b with
    |some u,some v=>some (.zipn u v)
    |_,_=>none) else none
   |_,_=>none)
  else if N3 sc x&&G.blt.contains x&&decide (x="reversed") then(match as with
   |[a]=>if u7 a then(r.E N sc a).map .rev else none
   |_=>none)
  else(r.E N sc (.Call (.Name x p) as [] q)).map .seq
 |e=>(r.E N sc e).map .seq
def cR(G:GT):Nat->Rec
 |0=>⟨λ_ _ _=>none,λ_ _ _=>none,λ_ _ _=>none,λ_ _ _=>none,λ_ _ _ _=>none⟩
 |n+1=>⟨sE G (cR G n),sEs G (cR G n),sT G (cR G n),sO G (cR G n),sI G (cR G n)⟩
abbrev cE(G:GT)(N:List Str)(sc:Scope)(n:Nat)(e:Expr):Option E:=(cR G n).E N sc e
abbrev cEs(G:GT)(N:List Str)(sc:Scope)(n:Nat)(es:List Expr):Option Es:=(cR G n).Es N sc es
abbrev cT(G:GT)(N:List Str)(sc:Scope)(n:Nat)(e:Expr):Option T:=(cR G n).T N sc e
abbrev cO(G:GT)(N:List Str)(sc:Scope)(n:Nat)(o:Option Expr):Option O:=(cR G n).O N sc o
abbrev cI(G:GT)(N:List Str)(sc:Scope)(n:Nat)(tg e:Expr):Option I:=(cR G n).I N sc tg e
def V0(e:Expr):Bool:=match e with
 |.ListComp .. =>false|.SetComp .. =>false|.DictComp .. =>false
 |_=>true
def c0t(e:Expr):Bool:=match e with
 |.ListComp .. =>true
 |_=>false
def b6w:Expr->Bool
 |.Name .. =>true
 |.Subscript .. =>true
 |.Call .. =>true
 |_=>false
noncomputable def sAs (G:GT)(N:List Str)(sc:Scope)(e:Expr):Expr->Option S
 | .Name x _=>(match a3o true N sc x,cE G N sc 40 e with
         |some i,some y=>if V0 e||c0t e then some (.set i y) else none
         |_,_=>none)
 |.Subscript a i _=>(match cE G N sc 40 a,cE G N sc 40 i,cE G N sc 40 e with
         |some x,some k,some y=>if V0 e&&a2V i then some (.six x k y) else none
         |_,_,_=>none)
 |.Attribute a f _=>(match cE G N sc 40 a,cE G N sc 40 e with
         |some x,some y=>if V0 e&&G.atts.contains f then some (.sfl x f y) else none
         |_,_=>none)
 |.Tuple es k q=>(match a8j true N sc 8 (.Tuple es k q),cE G N sc 40 e with
         |some p,some y=>if b6w e then some (.pat p y) else none
         |_,_=>none)
 |_=>none
def sS(G:GT)(N:List Str)(sc:Scope)(r:List Stmt->Option Ss)(s:Stmt):Option S:=match s with
 |.Assign tgs e _=>(match tgs with
  |[]=>none
  |t::u=>if u.isEmpty then sAs G N sc e t else none)
 |.Expr e _=>if V0 e then(cE G N sc 40 e).map .ex else none
 |.Return o _=>(match o with
  |some e=>(cE G N sc 40 e).map .ret
  |none=>none)
 |.If t a b _=>match cT G N sc 40 t,r a,r b with
  |some z,some x,some y=>some (.iff z x y)
  |_,_,_=>none
 |.For tg it b els _=>if els.isEmpty then(match a8j true N sc 8 tg,cI G N sc 40 tg it,r b with
  |some p,some i,some y=>if a1A it then some (.for p i y) else none
  |_,_,_=>none) else none
 |.While t b els _=>if els.isEmpty then(match cT G N sc 40 t,r b with
  |some z,some y=>some (.whl z y)
  |_,_=>none) else none
 |.Raise _ _ _=>some .bad
 |_=>none
def sSs(G:GT)(N:List Str)(sc:Scope)(r:List Stmt->Option Ss):List Stmt->Option Ss
 |[]=>some .nil
 |s::l=>match sS G N sc r s,sSs G N sc r l with
  |some x,some y=>some (.cons x y)
  |_,_=>none
def cSs(G:GT)(N:List Str)(sc:Scope):Nat->List Stmt->Option Ss
 |0=>λ_=>none
 |n+1=>sSs G N sc (cSs G N sc n)
variable{a:E}{e:E}{neg:Bool}{p:Pat}
section
variable{ct:CT}{c:CF}
theorem b0e{i:Nat}:ev ct c (.v i) env h=(match env[i]? with
 |some (some d)=>.ok d h
 |_=>.no):=rfl
theorem b3d:ev ct c (.k d) env h=.ok d h:=rfl
theorem b3f{o:B}{b:E}:ev ct c (.bin o a b) env h=(ev ct c a env h).bind λx h1=>(ev ct c b env h1).bind λy h2=>op2 o h2 x y:=rfl
theorem b8z:ev ct c (.isN a) env h=(ev ct c a env h).bind λx h1=>.ok (.bl (decide (x=.non))) h1:=rfl
theorem b5H:ev ct c (.notN a) env h=(ev ct c a env h).bind λx h1=>.ok (.bl (!decide (x=.non))) h1:=rfl
theorem b8y:ev ct c (.neg a) env h=(ev ct c a env h).bind λx h1=>match x with
 |.int i=>.ok (.int (-i)) h1
 |_=>.no:=rfl
theorem c0R:ev ct c (.nt a) env h=(asB (ev ct c a env h)).bind λb h1=>.ok (.bl (!b)) h1:=rfl
theorem c0T{b:E}:ev ct c (.an a b) env h=(asB (ev ct c a env h)).bind λx h1=>if x=true then ev ct c b env h1 else .ok (.bl false) h1:=rfl
theorem b8x{b:E}:ev ct c (.orr a b) env h=(asB (ev ct c a env h)).bind λx h1=>if x=true then .ok (.bl true) h1 else ev ct c b env h1:=rfl
theorem b8D{o p:B}{b:E}:ev ct c (.chn o p a b e) env h=(ev ct c a env h).bind λx h1=>(ev ct c b env h1).bind λy h2=>(asB (op2 o h2 x y)).bind λk h3=>if k=true then(ev ct c e env h3).bind λz h4=>op2 p h4 y z else .ok (.bl false) h3:=rfl
theorem b3e{b:E}:ev ct c (.ix a b) env h=(ev ct c a env h).bind λx h1=>(ev ct c b env h1).bind λy h2=>ixD h2 x y:=rfl
theorem b6A{lo hi:O}:ev ct c (.sl a lo hi) env h=(ev ct c a env h).bind λx h1=>(evo ct c lo env h1).bind λl h2=>(evo ct c hi env h2).bind λu h3=>slD h3 l u x:=rfl
theorem b8C:ev ct c (.fld a f) env h=(ev ct c a env h).bind λx h1=>Y1 h1 f x:=rfl
theorem b3c{es:Es}:ev ct c (.lst es) env h=(evs ct c es env h).bind λds h1=>if ↥ds<=SL then v8 (.lst ds) h1 else .no:=rfl
theorem b8w{es:Es}:ev ct c (.tup es) env h=(evs ct c es env h).bind λds h1=>if ↥ds<=SL then .ok (.tup ds) h1 else .no:=rfl
theorem b5K:ev ct c .dnew env h=v8 (.dict []) h:=rfl
theorem b5N{f:Nat}{es:Es}:ev ct c (.call f es) env h=(evs ct c es env h).bind λds h1=>c f ds h1:=rfl
theorem b6B{k:Nat}{es:Es}:ev ct c (.mk k es) env h=(evs ct c es env h).bind λds h1=>(c (ct.init k) (.ref ↥h1::ds) (h1++[.obj k []])).bind λr h2=>match r with
 |.non=>.ok (.ref ↥h1) h2
 |_=>.no:=rfl
theorem c0S{b:Bi}{es:Es}:ev ct c (.bi b es) env h=(evs ct c es env h).bind λds h1=>biD b h1 ds:=rfl
theorem b3b{b:Mt}{o:E}{es:Es}:ev ct c (.mt b o es) env h=(ev ct c o env h).bind λx h1=>if mtT b h1 x=true then(evs ct c es env h1).bind λds h2=>mtD b h2 x ds else .no:=rfl
theorem b8A{k:Nat}:ev ct c (.ins k a) env h=(ev ct c a env h).bind λx h1=>match b5n h1 k x with
 |some b=>.ok (.bl b) h1
 |none=>.no:=rfl
theorem b8B:ev ct c (.gin neg a ds) env h=(ev ct c a env h).bind λx h1=>if y7 x=true/\ds.all y7=true then .ok (.bl (inD x ds !=neg)) h1 else .no:=rfl
theorem b5J:ev ct c (.gdin neg a bC) env h=(ev ct c a env h).bind λx h1=>if(K3 x).isSome=true then .ok (.bl ((o7 bC x).isSome !=neg)) h1 else .no:=rfl
theorem b5I:ev ct c (.gdix a bC) env h=(ev ct c a env h).bind λx h1=>if(K3 x).isSome=true then(match o7 bC x with
 |some d=>.ok d h1
 |none=>.no) else .no:=rfl
theorem b5L:ev ct c (.dlit bC) env h=v8 (.dict bC) h:=rfl
theorem b5M{k x:E}:ev ct c (.dget a k x) env h=(ev ct c a env h).bind λo h1=>if b2j h1 o=true then(ev ct c k env h1).bind λy h2=>(ev ct c x env h2).bind λz h3=>a7c h3 o y z else .no:=rfl
theorem a2X:evs ct c .nil env h=.ok [] h:=rfl
theorem a3O{r:Es}:evs ct c (.cons e r) env h=(ev ct c e env h).bind λd h1=>(evs ct c r env h1).bind λds h2=>.ok (d::ds) h2:=rfl
theorem a4W:tst ct c .yes env h=.ok true h:=rfl
theorem b3T:tst ct c (.val e) env h=asB (ev ct c e env h):=rfl
theorem b3W{o:B}{b:E}:tst ct c (.cmp o a b) env h=asB ((ev ct c a env h).bind λx h1=>(ev ct c b env h1).bind λy h2=>op2 o h2 x y):=rfl
theorem b3V:tst ct c (.isN a) env h=(ev ct c a env h).bind λx h1=>.ok (decide (x=.non)) h1:=rfl
theorem b0z:tst ct c (.notN a) env h=(ev ct c a env h).bind λx h1=>.ok (!decide (x=.non)) h1:=rfl
theorem b3X{o p:B}{b:E}:tst ct c (.chn o p a b e) env h=asB ((ev ct c a env h).bind λx h1=>(ev ct c b env h1).bind λy h2=>(asB (op2 o h2 x y)).bind λk h3=>if k=true then(ev ct c e env h3).bind λz h4=>op2 p h4 y z else .ok (.bl false) h3):=rfl
theorem b6N{a b:T}:tst ct c (.an a b) env h=(tst ct c a env h).bind λx h1=>if x=true then tst ct c b env h1 else .ok false h1:=rfl
theorem b3U{a b:T}:tst ct c (.orr a b) env h=(tst ct c a env h).bind λx h1=>if x=true then .ok true h1 else tst ct c b env h1:=rfl
theorem b6M{a:T}:tst ct c (.nt a) env h=(tst ct c a env h).bind λx h1=>.ok (!x) h1:=rfl
theorem b2Y:evo ct c .no env h=.ok none h:=rfl
theorem a8a:evo ct c (.at e) env h=a8S (ev ct c e env h):=rfl
theorem R7:evi ct c (.seq e) env h=(ev ct c e env h).bind λd h1=>L3 h1 d:=rfl
theorem a3Q:evi ct c (.rng1 a) env h=(ev ct c a env h).bind λd h1=>a9C h1 (.int 0) d:=rfl
theorem a6Y:evi ct c (.enum e) env h=(ev ct c e env h).bind λd h1=>U5 h1 d:=rfl
theorem b5G:evi ct c (.rev e) env h=(ev ct c e env h).bind λd h1=>b0Y h1 d:=rfl
theorem b5F{b:E}:evi ct c (.zip a b) env h=(ev ct c a env h).bind λx h1=>(ev ct c b env h1).bind λy h2=>a6d h2 x y:=rfl
theorem b3a{b:E}:evi ct c (.zipn a b) env h=(ev ct c a env h).bind λx h1=>(ev ct c b env h1).bind λy h2=>a6c h2 x y:=rfl
theorem a0v{i:Nat}:ex ct c (.set i e) env h=(ev ct c e env h).bind λd h1=>.ok (.nx (env.set i (some d))) h1:=rfl
theorem b2X:ex ct c (.ex e) env h=(ev ct c e env h).bind λ_ h1=>.ok (.nx env) h1:=rfl
theorem a2m:ex ct c (.ret e) env h=(ev ct c e env h).bind λd h1=>.ok (.rt d) h1:=rfl
theorem a5L{t:T}{a b:Ss}:ex ct c (.iff t a b) env h=(tst ct c t env h).bind λx h1=>if x=true then exs ct c a env h1 else exs ct c b env h1:=rfl
theorem a3N{it:I}{b:Ss}:ex ct c (.for p it b) env h=(evi ct c it env h).bind λx h1=>G0 x.2 p (exs ct c b) x.1 env h1:=rfl
theorem b2W{t:T}{b:Ss}:ex ct c (.whl t b) env h=a4e (tst ct c t) (exs ct c b) a4V env h:=rfl
theorem b8u{i v:E}:ex ct c (.six a i v) env h=(ev ct c v env h).bind λx h1=>(ev ct c a env h1).bind λo h2=>(ev ct c i env h2).bind λk h3=>(a2q h3 o k x).bind λ_ h4=>.ok (.nx env) h4:=rfl
theorem b8v{v:E}:ex ct c (.sfl a f v) env h=(ev ct c v env h).bind λx h1=>(ev ct c a env h1).bind λo h2=>(a5e h2 o f x).bind λ_ h3=>.ok (.nx env) h3:=rfl
theorem a2W:exs ct c .nil env h=.ok (.nx env) h:=rfl
theorem D0{s:S}{r:Ss}:exs ct c (.cons s r) env h=(ex ct c s env h).bind λo h1=>match o with
 |.nx bF=>exs ct c r bF h1
 |.rt d=>.ok (.rt d) h1:=rfl
end
def TEv(Γ:Gm)(E:XK)(f:o8->AH->R D):TE:=λσ H Q=>∃env ah m,Rel Γ env ah σ H m/\i8 Γ E m H (f env ah) Q
def TAv(Γ:Gm)(E:XK)(f:o8->AH->R (List D)):TA:=λσ H Q=>∃env ah m,Rel Γ env ah σ H m/\k7 Γ E m H (f env ah) (λds _ m1 H1=>∀vs,Rps m1 H1 ds vs->Q vs H1)
def TTv(Γ:Gm)(E:XK)(f:o8->AH->R Bool):TT:=λσ H Q=>∃env ah m,Rel Γ env ah σ H m/\k7 Γ E m H (f env ah) (λb _ _ H1=>Q b H1)
def TOv(Γ:Gm)(E:XK)(f:o8->AH->R (Option Int)):TO:=λσ H Q=>∃env ah m,Rel Γ env ah σ H m/\k7 Γ E m H (f env ah) (λb _ _ H1=>Q b H1)
variable{t':TE}{es:List Expr}{st:Stmt}{Q':VK}{x:Str}
section
variable{X:Cx}{E:XK}{e a b d:Expr}{pos:Pos}
theorem PE.imp{t:TE}(h:PE X e t)(i:∀σ H Q,t' σ H Q->t σ H Q):PE X e t':=λbB s σ H Q I q=>h bB s σ H Q I (i _ _ _ q)
theorem PT.imp{t t':TT}(h:PT X e t)(i:∀σ H Q,t' σ H Q->t σ H Q):PT X e t':=λbB s σ H Q I q=>h bB s σ H Q I (i _ _ _ q)
theorem PW.imp{t t':TT}(h:PW X e t)(i:∀σ H Q,t' σ H Q->t σ H Q):PW X e t':=λw bB s σ H Q I q=>h w bB s σ H Q I (i _ _ _ q)
theorem PA.imp{t t':TA}(h:PA X es t)(i:∀σ H Q,t' σ H Q->t σ H Q):PA X es t':=λp bB s σ H Q I q=>h p bB s σ H Q I (i _ _ _ q)
theorem PO.imp{e:Option Expr}{t t':TO}(h:PO X e t)(i:∀σ H Q,t' σ H Q->t σ H Q):PO X e t':=λbB s σ H Q I q=>h bB s σ H Q I (i _ _ _ q)
theorem PS.imp{t t':TS}(h:PS X st t)(i:∀D σ H,t' D σ H->t D σ H):PS X st t':=λbB s σ H D I q=>h bB s σ H D I (i _ _ _ q)
theorem PSs.imp{st:List Stmt}{t t':TS}(h:PSs X st t)(i:∀D σ H,t' D σ H->t D σ H):PSs X st t':=λbB s σ H D I q=>h bB s σ H D I (i _ _ _ q)
theorem Rel.on{bI:AH}(r:Rel Γ env ah σ H m)(p:Pre m m1)(k:Keep m m1 H H1)(s:Sim Γ bI m1 H1):Rel Γ env bI σ H1 m1:=⟨s,r.env.mono p k⟩
theorem i8.first{r:R D}{f:D->AH->R D}(rl:Rel Γ env ah σ H m)(h:i8 Γ E m H (r.bind f) Q)
 (k:∀d bI m1 H1 v,Pre m m1->Keep m m1 H H1->Rel Γ env bI σ H1 m1->Rp m1 H1 d v->i8 Γ E m1 H1 (f d bI) Q->Q' v H1):i8 Γ E m H r Q':=
 h.bind.val λd bI m1 H1 v p kp s r q=>k d bI m1 H1 v p kp (rl.on p kp s) r q
theorem k7.first{r:R D}{f:D->AH->R β}{P:β->AH->List Addr->Hp->Prop}(rl:Rel Γ env ah σ H m)(h:k7 Γ E m H (r.bind f) P)
 (k:∀d bI m1 H1 v,Pre m m1->Keep m m1 H H1->Rel Γ env bI σ H1 m1->Rp m1 H1 d v->k7 Γ E m1 H1 (f d bI) P->Q' v H1):i8 Γ E m H r Q':=
 h.bind.val λd bI m1 H1 v p kp s r q=>k d bI m1 H1 v p kp (rl.on p kp s) r q
theorem k7.mp{r:R α}{P P':α->AH->List Addr->Hp->Prop}(h:k7 Γ E m H r P)(k:∀a bI m1 H1,Pre m m1->Keep m m1 H H1->Sim Γ bI m1 H1->P a bI m1 H1->P' a bI m1 H1):k7 Γ E m H r P':=by
 cases r with
 |ok d ah=>exact λm2 H2 p2 k2 s2=>k d ah m2 H2 p2 k2 s2 (h m2 H2 p2 k2 s2)
 |no=>exact h
theorem i8.mp{r:R D}(h:i8 Γ E m H r Q)(k:∀v H',Q v H'->Q' v H'):i8 Γ E m H r Q':=by
 cases r with
 |ok d ah=>exact λm2 H2 v p2 k2 s2 r2=>k v H2 (h m2 H2 v p2 k2 s2 r2)
 |no=>exact h
theorem k7.ok{a:α}{P:α->AH->List Addr->Hp->Prop}(h:k7 Γ E m H (.ok a ah) P)(s:Sim Γ ah m H):P a ah m H:=h m H (Pre.refl m) (Keep.refl m H) s
theorem k7.bool{r:R D}{P:Bool->AH->List Addr->Hp->Prop}(h:k7 Γ E m H (asB r) P):i8 Γ E m H r (λx H1=>∃k,x=.bl k/\∃bI m1,Pre m m1/\Keep m m1 H H1/\Sim Γ bI m1 H1/\P k bI m1 H1):=by
 unfold asB at h;refine h.bind.val λd bI m1 H1 v p kp s r q=>?_;cases d<;>first|exact q.elim|skip
 rename_i k;exact⟨k,r,bI,m1,p,kp,s,q.ok s⟩
theorem a_v{i:Nat}(hN:X.N[i]? =some x)(hv:Vis X.env.scope x)(hd:(x==("__debug__":Str))=false)(ff:(x==("__classdict__":Str))=false)(c:CF)(ct:CT):PE X (.Name x pos) (TEv Γ E (ev ct c (.v i))):=by
 refine PE.imp (b7v hN hv hd ff) ?_;rintro σ H Q ⟨env,ah,m,rl,q⟩;rw[b0e] at q;split at q
 · rename_i d e;obtain⟨v,h1,h2⟩:=rl.env.val i d e;exact⟨v,h1,q.ok rl.sim h2⟩
 · exact q.elim
theorem a_k{dd:D}(h:PE X e (tC v))(hr:∀m H,Rp m H dd v)(c:CF)(ct:CT):PE X e (TEv Γ E (ev ct c (.k dd))):=by refine PE.imp h ?_;rintro σ H Q ⟨env,ah,m,rl,q⟩;exact q.ok rl.sim (hr m H)
end
variable{op':CmpOp}{p2:Pos}
section
variable{X:Cx}{Ex:XK}{e a b d:Expr}{pos:Pos}{ct:CT}{c:CF}{x y z:E}
abbrev Pq(X Γ Ex ct c a x):=PE X a (TEv Γ Ex (ev ct c x))
theorem two{r:R2}{g:AH->D->D->R D}(ha:Pq X Γ Ex ct c a x)(hb:Pq X Γ Ex ct c b y):∀σ H Q,TEv Γ Ex (λenv h=>(ev ct c x env h).bind λu h1=>(ev ct c y env h1).bind λv h2=>g h2 u v) σ H Q→
 tOp (rOf Γ Ex g) (TEv Γ Ex (ev ct c x)) (TEv Γ Ex (ev ct c y)) σ H Q:=by
 rintro σ H Q ⟨env,ah,m,rl,q⟩;refine⟨env,ah,m,rl,i8.first rl q λd1 bI m1 H1 v1 p1 k1 bK r1 q1=>?_⟩;refine⟨env,bI,m1,bK,i8.first bK q1 λd2 ck m2 H2 v2 p2 k2 cG r2 q2=>?_⟩;exact⟨d1,d2,ck,m2,cG.sim,r1.mono p2 k2,r2,q2⟩
theorem c1R{o:B}{op:Operator}(h:o.bin=some op)(ha:Pq X Γ Ex ct c a x)(hb:Pq X Γ Ex ct c b y):PE X (.BinOp a op b pos) (TEv Γ Ex (ev ct c (.bin o x y))):=by
 refine PE.imp (c0d (c1b (Γ:=Γ) (E:=Ex) h) ha hb) λσ H Q q=>two (r:=rOf Γ Ex (op2 o)) ha hb σ H Q ?_
 simpa only[TEv,ev] using q
theorem c1P{o:B}(hu:X.A.units+8<cLine)(hK:X.K=Γ.K)(h:o.cmp=some op)(ha:Pq X Γ Ex ct c a x)(hb:Pq X Γ Ex ct c b y)(hm:behindInMarks op b=false):PE X (.Compare a [op] [b] pos) (TEv Γ Ex (ev ct c (.bin o x y))):=by
 refine PE.imp (a5l (a2n (Γ:=Γ) (E:=Ex) hu hK h) ha hb hm) λσ H Q q=>two (r:=rOf Γ Ex (op2 o)) ha hb σ H Q ?_
 simpa only[TEv,ev] using q
theorem a2M{f:o8->AH->R D}{t:TE}(h:∀σ H Q,TEv Γ Ex f σ H Q->t σ H Q):∀σ H Q,TTv Γ Ex (λenv h=>asB (f env h)) σ H Q->b0H t σ H Q:=by rintro σ H Q ⟨env,ah,m,rl,q⟩;exact h σ H _ ⟨env,ah,m,rl,q.bool.mp λv H1 ⟨k,e,_,_,_,_,_,w⟩=>⟨k,e,w⟩⟩
theorem b9k{o:B}(hu:X.A.units+8<cLine)(hK:X.K=Γ.K)(h:o.cmp=some op)(ha:Pq X Γ Ex ct c a x)(hb:Pq X Γ Ex ct c b y)(hm:behindInMarks op b=false):PT X (.Compare a [op] [b] pos) (TTv Γ Ex (tst ct c (.cmp o x y))):=by
 refine PT.imp (a5k (a2n (Γ:=Γ) (E:=Ex) hu hK h) ha hb hm) λσ H Q q=>a2M (two (r:=rOf Γ Ex (op2 o)) ha hb) σ H Q ?_
 simpa only[TTv,tst] using q
theorem a5h{d:D}(r:Rp m H d v):decide (v=.non)=decide (d=.non):=by
 cases d with
 |non=>cases r;rfl
 |bl _=>cases r;rfl
 |int _=>cases r;rfl
 |str _=>cases r;rfl
 |tup _=>obtain⟨_,_,rfl,_⟩:=r;rfl
 |ref _=>obtain⟨_,rfl,_⟩:=r;rfl
theorem c1M{j p'}(ha:Pq X Γ Ex ct c a x):PE X (.Compare a [.Is] [.Constant .none j p'] pos) (TEv Γ Ex (ev ct c (.isN x))):=by refine PE.imp (b1A (b1C ha)) ?_;rintro σ H Q ⟨env,ah,m,rl,q⟩;refine⟨env,ah,m,rl,i8.first rl q λd1 bI m1 H1 v1 p1 k1 bK r1 q1=>?_⟩;rw[a5h r1];exact q1.ok bK.sim rfl
theorem b9b{j p'}(ha:Pq X Γ Ex ct c a x):PE X (.Compare a [.IsNot] [.Constant .none j p'] pos) (TEv Γ Ex (ev ct c (.notN x))):=by refine PE.imp (b1A (a8z ha)) ?_;rintro σ H Q ⟨env,ah,m,rl,q⟩;refine⟨env,ah,m,rl,i8.first rl q λd1 bI m1 H1 v1 p1 k1 bK r1 q1=>?_⟩;rw[a5h r1];exact q1.ok bK.sim rfl
theorem b9c{j p'}(ha:Pq X Γ Ex ct c a x):PT X (.Compare a [.Is] [.Constant .none j p'] pos) (TTv Γ Ex (tst ct c (.isN x))):=by refine PT.imp (b1g (b1C ha)) ?_;rintro σ H Q ⟨env,ah,m,rl,q⟩;refine⟨env,ah,m,rl,k7.first rl q λd1 bI m1 H1 v1 p1 k1 bK r1 q1=>?_⟩;rw[a5h r1];exact⟨_,rfl,q1.ok bK.sim⟩
theorem b6n{j p'}(ha:Pq X Γ Ex ct c a x):PT X (.Compare a [.IsNot] [.Constant .none j p'] pos) (TTv Γ Ex (tst ct c (.notN x))):=by refine PT.imp (b1g (a8z ha)) ?_;rintro σ H Q ⟨env,ah,m,rl,q⟩;refine⟨env,ah,m,rl,k7.first rl q λd1 bI m1 H1 v1 p1 k1 bK r1 q1=>?_⟩;rw[a5h r1];exact⟨_,rfl,q1.ok bK.sim⟩
theorem c1K(ha:Pq X Γ Ex ct c a x):PE X (.UnaryOp .USub a pos) (TEv Γ Ex (ev ct c (.neg x))):=by
 refine PE.imp (c0b b6I ha) ?_;rintro σ H Q ⟨env,ah,m,rl,q⟩;refine⟨env,ah,m,rl,i8.first rl q λd1 bI m1 H1 v1 p1 k1 bK r1 q1=>?_⟩;cases d1<;>first|exact q1.elim|skip
 cases r1;exact⟨_,rfl,q1.ok bK.sim rfl⟩
theorem i8.firstB{r:R D}{f:Bool->AH->R D}(rl:Rel Γ env ah σ H m)(h:i8 Γ Ex m H ((asB r).bind f) Q)
 (k:∀b bI m1 H1,Pre m m1->Keep m m1 H H1->Rel Γ env bI σ H1 m1->i8 Γ Ex m1 H1 (f b bI) Q->Q' (.bl b) H1):i8 Γ Ex m H r Q':=by
 refine h.bind.bool.mp λv H1 hh=>?_;obtain⟨b,rfl,ck,m2,p2,k2,s2,w⟩:=hh;exact k b ck m2 H1 p2 k2 (rl.on p2 k2 s2) w
theorem c2S(ha:Pq X Γ Ex ct c a x):PE X (.UnaryOp .Not a pos) (TEv Γ Ex (ev ct c (.nt x))):=by refine PE.imp (b7y ha) ?_;rintro σ H Q ⟨env,ah,m,rl,q⟩;exact⟨env,ah,m,rl,i8.firstB rl q λb bI m1 H1 p1 k1 bK q1=>⟨b,rfl,q1.ok bK.sim rfl⟩⟩
theorem c2X{d9:List Expr}(ha:Pq X Γ Ex ct c a x)(hb:PE X (.BoolOp .And (b::d9) pos) (TEv Γ Ex (ev ct c y))):PE X (.BoolOp .And (a::b::d9) pos) (TEv Γ Ex (ev ct c (.an x y))):=by
 refine PE.imp (b7C ha hb) ?_;rintro σ H Q ⟨env,ah,m,rl,q⟩;refine⟨env,ah,m,rl,i8.firstB rl q λk bI m1 H1 p1 k1 bK q1=>⟨k,rfl,?_⟩⟩;cases k with
 |true=>rw[ay rfl] at q1⊢;exact⟨env,bI,m1,bK,q1⟩
 |false=>rw[az ∅] at q1⊢;exact q1.ok bK.sim rfl
theorem c1G{d9:List Expr}(ha:Pq X Γ Ex ct c a x)(hb:PE X (.BoolOp .Or (b::d9) pos) (TEv Γ Ex (ev ct c y))):PE X (.BoolOp .Or (a::b::d9) pos) (TEv Γ Ex (ev ct c (.orr x y))):=by
 refine PE.imp (c0c ha hb) ?_;rintro σ H Q ⟨env,ah,m,rl,q⟩;refine⟨env,ah,m,rl,i8.firstB rl q λk bI m1 H1 p1 k1 bK q1=>⟨k,rfl,?_⟩⟩;cases k with
 |true=>rw[ay rfl] at q1⊢;exact q1.ok bK.sim rfl
 |false=>rw[az ∅] at q1⊢;exact⟨env,bI,m1,bK,q1⟩
variable{t u:T}{v:List Expr}
theorem c1C(he:∀db,isTrue e X.env db=(do let v←db;standAt e.pos;holding [v] (truthy v)))(ha:Pq X Γ Ex ct c e x):PT X e (TTv Γ Ex (tst ct c (.val x))):=by refine PT.imp (b1e ha he) ?_;rintro σ H Q ⟨env,ah,m,rl,q⟩;refine⟨env,ah,m,rl,q.bool.mp λv H1 hh=>?_⟩;obtain⟨b,rfl,ck,m2,p2,k2,s2,w⟩:=hh;exact⟨b,rfl,w⟩
theorem TTv.next{r:R Bool}{f:Bool->AH->R Bool}{Q Q':Bool->Hp->Prop}(rl:Rel Γ env ah σ H m)(h:k7 Γ Ex m H (r.bind f) (λb _ _ H1=>Q b H1))
 (k:∀b bI m1 H1,Pre m m1->Keep m m1 H H1->Rel Γ env bI σ H1 m1->k7 Γ Ex m1 H1 (f b bI) (λb _ _ H1=>Q b H1)->Q' b H1):k7 Γ Ex m H r (λb _ _ H1=>Q' b H1):=
 h.bind.mp λb bI m1 H1 p1 k1 s1 q1=>k b bI m1 H1 p1 k1 (rl.on p1 k1 s1) q1
theorem c1I(ha:PT X a (TTv Γ Ex (tst ct c t))):PT X (.UnaryOp .Not a pos) (TTv Γ Ex (tst ct c (.nt t))):=by refine PT.imp (b7k ha) ?_;rintro σ H Q ⟨env,ah,m,rl,q⟩;exact⟨env,ah,m,rl,TTv.next rl q λb bI m1 H1 p1 k1 bK q1=>q1.ok bK.sim⟩
theorem c1T{d9:List Expr}(ha:PT X a (TTv Γ Ex (tst ct c t)))(hb:PW X (.BoolOp .And (b::d9) pos) (TTv Γ Ex (tst ct c u))):PW X (.BoolOp .And (a::b::d9) pos) (TTv Γ Ex (tst ct c (.an t u))):=by
 refine PW.imp (b7i ha hb) ?_;rintro σ H Q ⟨env,ah,m,rl,q⟩;refine⟨env,ah,m,rl,TTv.next rl q λk bI m1 H1 p1 k1 bK q1=>?_⟩;cases k with
 |true=>rw[ay rfl] at q1⊢;exact⟨env,bI,m1,bK,q1⟩
 |false=>rw[az ∅] at q1⊢;exact q1.ok bK.sim
theorem c1H{d9:List Expr}(ha:PT X a (TTv Γ Ex (tst ct c t)))(hb:PW X (.BoolOp .Or (b::d9) pos) (TTv Γ Ex (tst ct c u))):PW X (.BoolOp .Or (a::b::d9) pos) (TTv Γ Ex (tst ct c (.orr t u))):=by
 refine PW.imp (b9Z ha hb) ?_;rintro σ H Q ⟨env,ah,m,rl,q⟩;refine⟨env,ah,m,rl,TTv.next rl q λk bI m1 H1 p1 k1 bK q1=>?_⟩;cases k with
 |true=>rw[ay rfl] at q1⊢;exact q1.ok bK.sim
 |false=>rw[az ∅] at q1⊢;exact⟨env,bI,m1,bK,q1⟩
theorem b6E{o p:B}{op op':CmpOp}(ha:Pq X Γ Ex ct c a x):∀σ H Q,TEv Γ Ex (λenv h=>(ev ct c x env h).bind λx1 h1=>(ev ct c y env h1).bind λy1 h2=>(asB (op2 o h2 x1 y1)).bind λk h3=>if k=true then(ev ct c z env h3).bind λz1 h4=>op2 p h4 y1 z1 else .ok (.bl false) h3) σ H Q→
 a7w (rOf Γ Ex (op2 o)) (rOf Γ Ex (op2 p)) (TEv Γ Ex (ev ct c x)) (TEv Γ Ex (ev ct c y)) (TEv Γ Ex (ev ct c z)) σ H Q:=by
 rintro σ H Q ⟨env,ah,m,rl,q⟩;refine⟨env,ah,m,rl,i8.first rl q λd1 bI m1 H1 v1 p1 k1 bK r1 q1=>?_⟩;refine⟨env,bI,m1,bK,i8.first bK q1 λd2 ck m2 H2 v2 p2 k2 cG r2 q2=>?_⟩;refine⟨d1,d2,ck,m2,cG.sim,r1.mono p2 k2,r2,i8.firstB cG q2 λk fh m3 H3 p3 k3 eI q3=>⟨k,rfl,?_⟩⟩;cases k with
 |false=>rw[az ∅] at q3⊢;exact q3.ok eI.sim rfl
 |true=>
  rw[ay rfl] at q3⊢;refine⟨env,fh,m3,eI,i8.first eI q3 λd4 ah4 m4 H4 v4 p4 k4 rl4 r4 q4=>?_⟩;exact⟨d2,d4,ah4,m4,rl4.sim,r2.mono (p3.trans p4) (k3.trans k4),r4,q4⟩
theorem c1Q{o p:B}(hu:X.A.units+8<cLine)(hK:X.K=Γ.K)(h:o.cmp=some op)(h':p.cmp=some op')(ha:Pq X Γ Ex ct c a x)(hb:Pq X Γ Ex ct c b y)(hd:Pq X Γ Ex ct c d z)(hm:lastMarks [op,op'] [b,d]=false):
 PE X (.Compare a [op,op'] [b,d] pos) (TEv Γ Ex (ev ct c (.chn o p x y z))):=by
 refine PE.imp (b1B (a2n (Γ:=Γ) (E:=Ex) hu hK h) (a2n (Γ:=Γ) (E:=Ex) hu hK h') ha hb hd hm) λσ H Q q=>b6E (op:=op) (op':=op') ha σ H Q ?_
 simpa only[TEv,ev] using q
theorem b9l{o p:B}(hu:X.A.units+8<cLine)(hK:X.K=Γ.K)(h:o.cmp=some op)(h':p.cmp=some op')(ha:Pq X Γ Ex ct c a x)(hb:Pq X Γ Ex ct c b y)(hd:Pq X Γ Ex ct c d z)(hm:lastMarks [op,op'] [b,d]=false):
 PT X (.Compare a [op,op'] [b,d] pos) (TTv Γ Ex (tst ct c (.chn o p x y z))):=by
 refine PT.imp (b1h (a2n (Γ:=Γ) (E:=Ex) hu hK h) (a2n (Γ:=Γ) (E:=Ex) hu hK h') ha hb hd hm) λσ H Q q=>a2M (b6E (op:=op) (op':=op') (o:=o) (p:=p) (y:=y) (z:=z) ha) σ H Q ?_
 simpa only[TTv,tst] using q
theorem c2V(hu:X.A.units+8<cLine)(hK:X.K=Γ.K)(ha:Pq X Γ Ex ct c a x)(hb:Pq X Γ Ex ct c b y)(hs:a3a b):PE X (.Subscript a b pos) (TEv Γ Ex (ev ct c (.ix x y))):=by
 refine PE.imp (b6t (c0Y (Γ:=Γ) (E:=Ex) hu hK) ha hb hs) λσ H Q q=>two (r:=rOf Γ Ex ixD) ha hb σ H Q ?_
 simpa only[TEv,ev] using q
theorem c2R:PO X none (TOv Γ Ex (evo ct c .no)):=by refine PO.imp b4E ?_;rintro σ H Q ⟨env,ah,m,rl,q⟩;exact q.ok rl.sim
theorem c2Q(ha:Pq X Γ Ex ct c a x):PO X (some a) (TOv Γ Ex (evo ct c (.at x))):=by
 refine PO.imp (b4D ha) ?_;rintro σ H Q ⟨env,ah,m,rl,q⟩;rw[a8a,a8S] at q;refine⟨env,ah,m,rl,k7.first rl q λd1 bI m1 H1 v1 p1 k1 bK r1 q1=>?_⟩;cases d1<;>first|exact q1.elim|skip
 cases r1;exact⟨_,rfl,q1.ok bK.sim⟩
variable{l h:Option Expr}{ol oh:O}
theorem c2P(hK:X.K=Γ.K)(ha:Pq X Γ Ex ct c a x)(hl:PO X l (TOv Γ Ex (evo ct c ol)))(hh:PO X h (TOv Γ Ex (evo ct c oh))):PE X (.Subscript a (.Slice l h none p2) pos) (TEv Γ Ex (ev ct c (.sl x ol oh))):=by refine PE.imp (b1v (c2G (Γ:=Γ) (E:=Ex) hK) ha hl hh) ?_;rintro σ H Q ⟨env,ah,m,rl,q⟩;refine⟨env,ah,m,rl,i8.first rl q λd1 bI m1 H1 v1 p1 k1 bK r1 q1=>?_⟩;refine⟨env,bI,m1,bK,q1.bind.mp λlo ck m2 H2 p2 k2 s2 q2=>?_⟩;refine⟨env,ck,m2,bK.on p2 k2 s2,q2.bind.mp λhi fh m3 H3 p3 k3 s3 q3=>?_⟩;exact⟨d1,fh,m3,s3,r1.mono (p2.trans p3) (k2.trans k3),q3⟩
variable{xs:Es}
theorem c1J:PA X [] (TAv Γ Ex (evs ct c .nil)):=by refine PA.imp a2b ?_;rintro σ H Q ⟨env,ah,m,rl,q⟩;exact q.ok rl.sim [] rfl
theorem b9i(ha:Pq X Γ Ex ct c a x)(hr:PA X es (TAv Γ Ex (evs ct c xs)))(hs:starEach (a::es) X.env=(false,eval a X.env)::starEach es X.env):PA X (a::es) (TAv Γ Ex (evs ct c (.cons x xs))):=by refine PA.imp (Q9 ha hr hs) ?_;rintro σ H Q ⟨env,ah,m,rl,q⟩;refine⟨env,ah,m,rl,k7.first rl q λd1 bI m1 H1 v1 p1 k1 bK r1 q1=>?_⟩;refine⟨env,bI,m1,bK,q1.bind.mp λds ck m2 H2 p2 k2 s2 q2=>λvs rs=>?_⟩;exact q2.ok s2 (v1::vs) ⟨v1,vs,rfl,r1.mono p2 k2,rs⟩
theorem c1L(ha:PA X es (TAv Γ Ex (evs ct c xs))):PE X (.List es pos) (TEv Γ Ex (ev ct c (.lst xs))):=by refine PE.imp (b7A ha) ?_;rintro σ H Q ⟨env,ah,m,rl,q⟩;refine⟨env,ah,m,rl,q.bind.mp λds bI m1 H1 p1 k1 s1 q1=>λvs rs=>?_⟩;obtain⟨hl,q1⟩:=ifq q1;exact⟨by rw[rs.len,←Q8];exact hl,λp hp=>q1.newc s1 hp ⟨_,i7,rs.mono (Pre.snoc m1 p) (Keep.newc hp)⟩⟩
theorem c1D{k:Nat}(ha:PA X es (TAv Γ Ex (evs ct c xs))):PE X (.Tuple es k pos) (TEv Γ Ex (ev ct c (.tup xs))):=by refine PE.imp (b7w ha) ?_;rintro σ H Q ⟨env,ah,m,rl,q⟩;refine⟨env,ah,m,rl,q.bind.mp λds bI m1 H1 p1 k1 s1 q1=>λvs rs=>?_⟩;obtain⟨hl,q1⟩:=ifq q1;exact⟨by rw[rs.len,←Q8];exact hl,λp hp=>q1.newt s1 hp rs⟩
theorem b9f:PE X (.Dict [] [] pos) (TEv Γ Ex (ev ct c .dnew)):=by refine PE.imp b1y ?_;rintro σ H Q ⟨env,ah,m,rl,q⟩;exact λp hp=>q.newc rl.sim hp (.inl ⟨[],i7,.nil⟩)
theorem c1S{b:Bi}(ha:PA X es (TAv Γ Ex (evs ct c xs))):∀σ H Q,TEv Γ Ex (ev ct c (.bi b xs)) σ H Q->tCB (rBi Γ Ex b) (TAv Γ Ex (evs ct c xs)) σ H Q:=by rintro σ H Q ⟨env,ah,m,rl,q⟩;exact⟨env,ah,m,rl,q.bind.mp λds bI m1 H1 p1 k1 s1 q1=>λvs rs=>⟨ds,bI,m1,s1,rs,q1⟩⟩
end
def a5c(Γ:Gm)(c:CF)(f np:Nat):Sp:=λvs H Q E=>∃ds ah m,↥ds=np/\Rps m H ds vs/\Sim Γ ah m H/\i8 Γ E m H (c f ds ah) Q
theorem k8{a:Expr}{env:Env}(h:u7 a=true):starEach (a::es) env=(false,eval a env)::starEach es env:=by cases a<;>first|rfl|cases h
theorem S8{pos:Pos}{env:Env}:∀{es:List Expr},es.all u7=true->(backTo pos (starEach es env)).any (·.1)=false
 |[],_=>rfl
 |a::es,h=>by rw[all_cons,ae] at h;rw[k8 h.1];exact S8 (es:=es) h.2
theorem a4s{pos:Pos}{env:Env}:∀{es:List Expr},es.all u7=true->(backTo pos (starEach es env)).all (λx=>!x.1)=true
 |[],_=>rfl
 |a::es,h=>by rw[all_cons,ae] at h;rw[k8 h.1];exact a4s (es:=es) h.2
theorem a1p{o:Expr}{env:Env}{w:Sem Value}(h:a1b o=true):attributeBase o f env w=w:=by
 unfold attributeBase;split
 · cases h
 · rfl
def b0p(P:Program)(w:World)(K:Frag)(a:Addr)(gs:List (Key×V)):Prop:=(a==sysModules)=false/\∃vs,KV gs vs/\∀h:Heap,K.In h->h.DictOf (x5 P w) a vs
structure Cxt(X:Cx)(Γ:Gm)(G:GT)(ct:CT)(c:CF)(Ex:XK)(N:List Str)(sc:Scope)(bQ:Bool):Prop where
 hN:X.N=N
 nd:N.Nodup
 sc:X.env.scope=sc
 calm:X.calm=true
 hu:X.A.units+8<cLine
 K:X.K=Γ.K
 fnb:bQ=true->∀x,X.fn x=true
 scal:∀x d,G.scal.lookup x=some d->∃u v,X.mg x=some u/\m8 v u/\∀m H,Rp m H d v
 tups:∀x ds,G.tups.lookup x=some ds->∃a vs,X.mg x= ~~~a/\(∀H,SqT X.K H a vs)/\∀m H,Rps m H ds vs
 dicts:∀x bC,G.dicts.lookup x=some bC->∃a gs,X.mg x= ~~~a/\b0p X.prog X.w X.K a gs/\∀m H,DK m H bC gs
 blt:∀x,G.blt.contains x=true->X.mg x=none
 fn:∀x f np,G.fn.lookup x=some (f,np)->∃k a fd ps,↥ps=np/\Room k X.A/\X.mg x= ~~~a/\PySem.W.keepIn X.K (.ref a)=true/\U7 X.K fd ps []/\FnOk X.prog X.w X.K X.mg X.base CX0 k a fd ps (a5c Γ c f np)/\∀ds h,↥ds≠np->c f ds h=.no
 obj:∀x k,G.obj.lookup x=some k->k∈Γ.ob/\∃r a fd ps,↥ps=1/\Room (r+1) X.A/\Mk X.K (Γ.cA k) a/\X.mg x=some (.ref (Γ.cA k))/\U7 X.K fd ps []/\FnOk X.prog X.w X.K X.mg X.base CX0 r a fd ps (a5c Γ c (ct.init k) 1)
 att:∀k,k∈Γ.ob->Cls X.K (Γ.cA k)/\∀f,G.atts.contains f=true->a0F X.K (Γ.cA k) f
variable{np:Nat}{K:Frag}{ad:Addr}{cu:Pos}
section
variable{X:Cx}{G:GT}{ct:CT}{c:CF}{Ex:XK}{N:List Str}{sc:Scope}{bQ:Bool}{e a b:Expr}{pos p:Pos}{x y z:E}{xs:Es}
theorem a0m{n:Str}(h:N3 sc n=true):sc.names.lookup n=some .globalImplicit/\(n==("__debug__":Str))=false/\n≠"__name__":=by unfold N3 at h;rw[ae,ae] at h;exact⟨aw h.1.1,beq_eq_false_iff_ne.mpr (aw h.1.2),aw h.2⟩
theorem Cxt.gl(C:Cxt X Γ G ct c Ex N sc bQ){n:Str}(h:N3 sc n=true):Gl X n:=by show X.env.scope.names.lookup n=_;rw[C.sc];exact(a0m h).1
theorem Cxt.vis(C:Cxt X Γ G ct c Ex N sc bQ){n:Str}(h:b2h sc n=true):Vis X.env.scope n:=by
 rw[C.sc];unfold b2h at h;unfold Vis;split at h
 · rename_i e;exact .inl e
 · rename_i e;exact .inr (.inl e)
 · rename_i e;exact .inr (.inr e)
 · cases h
theorem a5C{N:List Str}{n:Str}{i:Nat}(h:N.idxOf? n=some i):N[i]? =some n:=by unfold List.idxOf? at h;rw[List.findIdx?_eq_some_iff_getElem] at h;obtain⟨h1,h2,_⟩:=h;rw[ai h1];exact fN some (eq_of_beq h2)
theorem b9m{n:Str}{f:Nat}(C:Cxt X Γ G ct c Ex N sc bQ)(hf:G.fn.lookup n=some (f,np))(hg:N3 sc n=true)(hp:(a::es).all u7=true)(ha:PA X (a::es) (TAv Γ Ex (evs ct c xs))):
 PE X (.Call (.Name n p) (a::es) [] pos) (TEv Γ Ex (ev ct c (.call f xs))):=by
 obtain⟨k,ad,fd,ps,h1,h2,h3,h4,h5,h6,h7⟩:=C.fn n f np hf;rw[all_cons,ae] at hp;refine PE.imp (b4O h6 h2 (C.gl hg) h3 h4 h5 .nil b6u ha (a0m hg).2.1 (k8 hp.1) (S8 hp.2)) ?_;rintro σ H Q ⟨env,ah,m,rl,q⟩;refine⟨env,ah,m,rl,q.bind.mp λds bI m1 H1 p1 k1 s1 q1=>λvs rs=>⟨ds,bI,m1,?_,by rw[aZ];exact rs,s1,q1⟩⟩
 by_cases hl:↥ds=np
 · exact hl
 · rw[h7 ds bI hl] at q1;exact q1.elim
theorem c2U{n:Str}{k:Nat}(C:Cxt X Γ G ct c Ex N sc bQ)(hf:G.obj.lookup n=some k)(hg:N3 sc n=true):PE X (.Call (.Name n p) [] [] pos) (TEv Γ Ex (ev ct c (.mk k .nil))):=by
 obtain⟨hk,r,ad,fd,ps,h1,h2,h3,h4,h5,h6⟩:=C.obj n k hf;refine PE.imp (b1w h3 h6 h2 (C.gl hg) h4 h5 .nil b6u (a0m hg).2.1) ?_;rintro σ H Q ⟨env,ah,m,rl,q⟩;rw[b6B,a2X,b9] at q;intro x dx hx hdx eZ;have kp:Keep m (m++[x]) H (upd (upd H dx (.own x)) x (.ins (Γ.cA k) dx [])):=(Keep.new hdx).trans (Keep.newc (by rw[n0 (fR eZ)];exact hx));have s1:Sim Γ (ah++[.obj k []]) (m++[x]) (upd (upd H dx (.own x)) x (.ins (Γ.cA k) dx [])):=(rl.sim.new (o:=.own x) hdx).alloc (by rw[n0 (fR eZ)];exact hx) ⟨dx,[],i7,.nil,hk⟩;refine⟨[.ref ↥ah],ah++[.obj k []],m++[x],rfl,⟨.ref x,[],rfl,⟨x,rfl,?_⟩,rfl⟩,s1,?_⟩
 · rw[←rl.sim.len,au (aj _)];simp
 · refine(q.bind.later (Pre.snoc m x) kp).val λd bI m1 H1 v p1 k1 s1 r1 q1=>?_;cases d<;>first|exact q1.elim|skip
   cases r1;refine⟨rfl,q1.ok s1 ⟨x,rfl,p1.get ?_⟩⟩;rw[←rl.sim.len,au (aj _)];simp
theorem c1O(C:Cxt X Γ G ct c Ex N sc bQ)(hb:a1b a=true)(hf:G.atts.contains f=true)(ha:Pq X Γ Ex ct c a x):PE X (.Attribute a f pos) (TEv Γ Ex (ev ct c (.fld x f))):=by
 refine PE.imp (b7B (pos:=pos) ha (a1p (f:=f) hb)) ?_;rintro σ H Q ⟨env,ah,m,rl,q⟩;refine⟨env,ah,m,rl,i8.first rl q λd1 bI m1 H1 v1 p1 k1 bK r1 q1=>?_⟩;unfold Y1 at q1;split at q1
 · split at q1
   · rename_i k fs e2;split at q1
     · rename_i d e3;obtain⟨ad,rfl,hm1⟩:=r1;obtain⟨dx,gs,g1,g2,g3⟩:=bK.sim.at hm1 e2;obtain⟨w,hw,bX⟩:=g2.look e3;obtain⟨a1,a2⟩:=C.att k g3;exact⟨ad,Γ.cA k,dx,gs,w,rfl,g1,a1,a2 f hf,hw,q1.ok bK.sim bX⟩
     · exact q1.elim
   · exact q1.elim
 · exact q1.elim
theorem c2v{T:String}:kitOne K (.type T) (.type T)=some true:=by unfold kitOne;rw[ay ⋯]
theorem c1N{k:Nat}{y:Str}(hk:b8l y=some k)(C:Cxt X Γ G ct c Ex N sc bQ)(hg:N3 sc "isinstance"=true)(hm:X.mg "isinstance"=none)(hg2:N3 sc y=true)(eO:X.mg y=none)(hp:u7 a=true)(ha:Pq X Γ Ex ct c a x):
 PE X (.Call (.Name "isinstance" p) [a,.Name y p2] [] pos) (TEv Γ Ex (ev ct c (.ins k x))):=by
 obtain⟨T,hT,hi⟩:∃T:String,PE X (.Name y p2) (tC (.ty T))/\∀{ah:AH}{m:List Addr}{H:Hp}{d:D}{v:V}{b:Bool},Sim Γ ah m H->Rp m H d v->b5n ah k d=some b->∃t,TyOf X.K H v t/\kitOne X.K t (.type T)=some b:=by
  unfold b8l at hk;split at hk
  · rename_i e;cases hk;subst e;refine⟨"tuple",b4P (C.gl hg2) eO boot_tuple rfl ∅ ∅,fun{ah m H d v b} S r1 e=>?_⟩;cases d<;>first|(cases e;done)|(cases e;obtain⟨ad,vs,rfl,h1,_⟩:=r1;exact⟨_,.tup h1,c2v⟩)
  · cases hk
 have PAab:PA X [a,.Name y p2] (b0I (TEv Γ Ex (ev ct c x)) (b0I (tC (.ty T)) b6T)):=Q9 ha (Q9 hT a2b (k8 rfl)) (k8 hp);refine PE.imp (a0c b3t (C.gl hg) hm PyProof.Rows.boot_isinstance PAab ∅ ∅ (k8 hp) (S8 rfl)) ?_;rintro σ H Q ⟨env,ah,m,rl,q⟩;refine⟨env,ah,m,rl,i8.first rl q λd1 bI m1 H1 v1 p1 k1' bK r1 q1=>?_⟩;split at q1
 · rename_i b e;obtain⟨t,h1,h2⟩:=hi bK.sim r1 e;exact⟨_,T,t,b,rfl,h1,h2,q1.ok bK.sim rfl⟩
 · exact q1.elim
theorem a8X(h1:∀H,SqT X.K H ad vs)(h2:∀m H,Rps m H ds vs):∀σ H Q,TEv Γ Ex (ev ct c (.gin neg x ds)) σ H Q->tOp (rIn X.K neg) (TEv Γ Ex (ev ct c x)) (tC (.ref ad)) σ H Q:=by
 rintro σ H Q ⟨env,ah,m,rl,q⟩;refine⟨env,ah,m,rl,i8.first rl q λd1 bI m1 H1 v1 p1 k1 bK r1 q1=>?_⟩;obtain⟨hf,q1⟩:=ifq q1;refine⟨ad,vs,rfl,.inr (h1 H1),O1 r1 hf.1,O8 (h2 m1 H1) hf.2,?_⟩;rw[a0n r1 hf.1 (h2 m1 H1) hf.2] at q1;cases neg with
 |false=>rw[a3X] at q1;exact q1.ok bK.sim rfl
 |true=>rw[a3W] at q1;exact q1.ok bK.sim rfl
theorem b6G{n:Str}(C:Cxt X Γ G ct c Ex N sc bQ)(ho:(op=.In/\neg=false)∨(op=.NotIn/\neg=true))(hg:N3 sc n=true)(ht:G.tups.lookup n=some ds)(ha:Pq X Γ Ex ct c a x):
 PE X (.Compare a [op] [.Name n p] pos) (TEv Γ Ex (ev ct c (.gin neg x ds)))/\PT X (.Compare a [op] [.Name n p] pos) (TTv Γ Ex (tst ct c (.val (.gin neg x ds)))):=by
 obtain⟨ad,vs,h1,h2,h3⟩:=C.tups n ds ht;have hb:PE X (.Name n p) (tC (.ref ad)):=a2R (C.gl hg) h1 rfl (a0m hg).2.1;have dE:OpR X (compareOp op) (rIn X.K neg):=by
  rcases ho with⟨rfl,rfl⟩|⟨rfl,rfl⟩
  · exact a0K
  · exact R3
 refine⟨PE.imp (a5l dE ha hb rfl) (a8X h2 h3),PT.imp (a5k dE ha hb rfl) λσ H Q q=>a2M (a8X (neg:=neg) h2 h3) σ H Q ?_⟩
 simpa only[TTv,tst] using q
def rMd(a:Addr)(gs:List (Key×V))(neg:Bool):R2:=λx y H Q=>∃k,x=kV k/\y=.ref a/\Q (.bl ((V9 gs k).isSome !=neg)) H
theorem b7J(d:b0p X.prog X.w X.K ad gs):OpR X (compareOp .In) (rMd ad gs false):=by intro bB s σ H x y v u Q I rx ry h;obtain⟨k,rfl,rfl,q⟩:=h;cases ry;obtain⟨hd,vs,cv,dd⟩:=d;refine wpAny_in_of (a0k rx) hd (dd _ I.kIn).mapOf ?_;rw[←(cv.val k).isSome_eq];rw[a3X] at q;exact⟨.bl _,H,I.tok _,rfl,q⟩
theorem a9J(d:b0p X.prog X.w X.K ad gs):OpR X (compareOp .NotIn) (rMd ad gs true):=by intro bB s σ H x y v u Q I rx ry h;obtain⟨k,rfl,rfl,q⟩:=h;cases ry;obtain⟨hd,vs,cv,dd⟩:=d;refine wpAny_notIn_of (a0k rx) hd (dd _ I.kIn).mapOf ?_;rw[←(cv.val k).isSome_eq];rw[a3W] at q;exact⟨.bl _,H,I.tok _,rfl,q⟩
def rMx(a:Addr)(gs:List (Key×V)):R2:=λx y H Q=>∃k v,x=.ref a/\y=kV k/\V9 gs k=some v/\Q v H
theorem c2x(d:b0p X.prog X.w X.K ad gs):IxR X (rMx ad gs):=by rintro value slice bB s σ H x y v u Q I rx ry ⟨k,z,rfl,rfl,hz,q⟩ hs;cases rx;obtain⟨hd,vs,cv,dd⟩:=d;have dd:=dd _ I.kIn;obtain⟨w',hw,bX⟩:=a0R.some_of (v:=z) (o:=valueAt vs k) (by rw[←hz];exact cv.val k);exact c0Y.ixd_tail dd.typeIs hs (wpAny_getItem_of (a0k ry) dd.mapOf hw ⟨z,H,I.tok _,bX,q⟩)
theorem a6U(h2:∀m H,DK m H bC gs):∀σ H Q,TEv Γ Ex (ev ct c (.gdin neg x bC)) σ H Q->tOp (rMd ad gs neg) (TEv Γ Ex (ev ct c x)) (tC (.ref ad)) σ H Q:=by rintro σ H Q ⟨env,ah,m,rl,q⟩;refine⟨env,ah,m,rl,i8.first rl q λd1 bI m1 H1 v1 p1 k1 bK r1 q1=>?_⟩;obtain⟨hf,q1⟩:=ifq q1;obtain⟨k,hk⟩:=Option.isSome_iff_exists.mp hf;refine⟨k,Y0 hk r1,rfl,?_⟩;rw[(h2 m1 H1).some_eq hk] at q1;exact q1.ok bK.sim rfl
theorem b3H{n:Str}(C:Cxt X Γ G ct c Ex N sc bQ)(ho:(op=.In/\neg=false)∨(op=.NotIn/\neg=true))(hg:N3 sc n=true)(ht:G.dicts.lookup n=some bC)(ha:Pq X Γ Ex ct c a x):
 PE X (.Compare a [op] [.Name n p] pos) (TEv Γ Ex (ev ct c (.gdin neg x bC)))/\PT X (.Compare a [op] [.Name n p] pos) (TTv Γ Ex (tst ct c (.val (.gdin neg x bC)))):=by
 obtain⟨ad,gs,h1,h2,h3⟩:=C.dicts n bC ht;have hb:PE X (.Name n p) (tC (.ref ad)):=a2R (C.gl hg) h1 rfl (a0m hg).2.1;have dE:OpR X (compareOp op) (rMd ad gs neg):=by
  rcases ho with⟨rfl,rfl⟩|⟨rfl,rfl⟩
  · exact b7J h2
  · exact a9J h2
 refine⟨PE.imp (a5l dE ha hb rfl) (a6U h3),PT.imp (a5k dE ha hb rfl) λσ H Q q=>a2M (a6U (neg:=neg) (ad:=ad) h3) σ H Q ?_⟩
 simpa only[TTv,tst] using q
theorem b9d{n:Str}(C:Cxt X Γ G ct c Ex N sc bQ)(hg:N3 sc n=true)(ht:G.dicts.lookup n=some bC)(hb:Pq X Γ Ex ct c b y)(hs:a3a b):
 PE X (.Subscript (.Name n p) b pos) (TEv Γ Ex (ev ct c (.gdix y bC))):=by
 obtain⟨ad,gs,h1,h2,h3⟩:=C.dicts n bC ht;have ha:PE X (.Name n p) (tC (.ref ad)):=a2R (C.gl hg) h1 rfl (a0m hg).2.1;refine PE.imp (b6t (c2x h2) ha hb hs) ?_;rintro σ H Q ⟨env,ah,m,rl,q⟩;refine⟨env,ah,m,rl,i8.first rl q λd1 bI m1 H1 v1 p1 k1 bK r1 q1=>?_⟩;obtain⟨hf,q1⟩:=ifq q1;obtain⟨k,hk⟩:=Option.isSome_iff_exists.mp hf;split at q1
 · rename_i d hd;obtain⟨v,hv,rv⟩:=((h3 m1 H1).val hk).1 d hd;exact⟨k,v,rfl,Y0 hk r1,hv,q1.ok bK.sim rv⟩
 · exact q1.elim
theorem c2W{n:Str}{b:Bi}(C:Cxt X Γ G ct c Ex N sc bQ)(hb:b8U n=some b)(hg:N3 sc n=true)(hm:X.mg n=none)(hp:(a::es).all u7=true)(ha:PA X (a::es) (TAv Γ Ex (evs ct c xs))):
 PE X (.Call (.Name n p) (a::es) [] pos) (TEv Γ Ex (ev ct c (.bi b xs))):=by
 obtain⟨_,hd,hn⟩:=a0m hg;rw[all_cons,ae] at hp;have s1:=k8 (es:=es) (env:=X.env) hp.1;have s2:=S8 (pos:=pos) (env:=X.env) hp.2;have go:∀{b:Bi}{t:TE},PE X (.Call (.Name n p) (a::es) [] pos) (tCB (rBi Γ Ex b) (TAv Γ Ex (evs ct c xs)))->PE X (.Call (.Name n p) (a::es) [] pos) (TEv Γ Ex (ev ct c (.bi b xs))):=λh=>PE.imp h (c1S ha);unfold b8U at hb
 repeat' split at hb
 all_goals (first|(cases hb;done)|(cases hb;rename_i e;subst e))
 · exact go (t:=tCB (rBi Γ Ex .len) (TAv Γ Ex (evs ct c xs))) (a0c (c1m C.K) (C.gl hg) hm PySem.boot_len ha hn hd s1 s2)
 · exact go (t:=tCB (rBi Γ Ex .len) (TAv Γ Ex (evs ct c xs))) (W1 c1k (C.gl hg) hm boot_str ha hn hd s1 s2)
 · exact go (t:=tCB (rBi Γ Ex .len) (TAv Γ Ex (evs ct c xs))) (W1 c1n (C.gl hg) hm boot_int ha hn hd s1 s2)
 · exact go (t:=tCB (rBi Γ Ex .len) (TAv Γ Ex (evs ct c xs))) (W1 (b6c C.K) (C.gl hg) hm boot_tuple ha hn hd s1 s2)
 · exact go (t:=tCB (rBi Γ Ex .len) (TAv Γ Ex (evs ct c xs))) (W1 (b8Q C.K) (C.gl hg) hm boot_list ha hn hd s1 s2)
 · exact go (t:=tCB (rBi Γ Ex .len) (TAv Γ Ex (evs ct c xs))) (a0c (c1p C.calm C.K) (C.gl hg) hm boot_all ha hn hd s1 s2)
 · exact go (t:=tCB (rBi Γ Ex .len) (TAv Γ Ex (evs ct c xs))) (a0c (c1o C.calm C.K) (C.gl hg) hm boot_any ha hn hd s1 s2)
 · exact go (t:=tCB (rBi Γ Ex .len) (TAv Γ Ex (evs ct c xs))) (a0c (c1l C.calm) (C.gl hg) hm boot_max ha hn hd s1 s2)
 · exact go (t:=tCB (rBi Γ Ex .len) (TAv Γ Ex (evs ct c xs))) (W1 (b8R C.calm C.K) (C.gl hg) hm boot_dict ha hn hd s1 s2)
theorem a3F{b:Mt}{T:String}(hK:X.K=Γ.K)(hT:(T="list"/\(b=.append∨b=.extend))∨(T="str"/\(b=.split∨b=.join∨b=.starts))):∀σ H Q,TEv Γ Ex (ev ct c (.mt b x xs)) σ H Q->tBM X.K T (rMt Γ Ex b) (TEv Γ Ex (ev ct c x)) (TAv Γ Ex (evs ct c xs)) σ H Q:=by
 rintro σ H Q ⟨env,ah,m,rl,q⟩;refine⟨env,ah,m,rl,i8.first rl q λd1 bI m1 H1 v1 p1 k1 bK r1 q1=>?_⟩;split at q1
 · rename_i ht;refine⟨?_,env,bI,m1,bK,q1.bind.mp λds ck m2 H2 p2 k2 s2 q2=>λvs rs=>⟨d1,ds,ck,m2,s2,r1.mono p2 k2,rs,q2⟩⟩;unfold mtT at ht;split at ht
   · cases r1;rcases hT with⟨rfl,rfl|rfl⟩|⟨rfl,_⟩
     · cases ht
     · cases ht
     · rfl
   · rename_i n;rcases hT with⟨rfl,hb⟩|⟨rfl,rfl|rfl|rfl⟩
     · have hs:(rdL bI n).isSome=true:=by rcases hb with rfl|rfl<;>exact ht
       obtain⟨l,hl⟩:=Option.isSome_iff_exists.mp hs;obtain⟨ad,vs,rfl,_,h1,_⟩:=bK.sim.rdL hl r1;exact .inl ⟨rfl,vs,by rw[hK];exact h1⟩
     · cases ht
     · cases ht
     · cases ht
   · cases ht
 · exact q1.elim
theorem c2T{n:Str}{b:Mt}(C:Cxt X Γ G ct c Ex N sc bQ)(hb:b7T n=some b)(hpb:a1b e=true)(cW:(cu.endLine==pos.line)=true)(bP:↥(a::es)<20)(hp:(a::es).all u7=true)(ho:Pq X Γ Ex ct c e x)(ha:PA X (a::es) (TAv Γ Ex (evs ct c xs))):
 PE X (.Call (.Attribute e n cu) (a::es) [] pos) (TEv Γ Ex (ev ct c (.mt b x xs))):=by
 have hp':=hp;rw[all_cons,ae] at hp;have s1:=k8 (es:=es) (env:=X.env) hp.1;have s2:=S8 (pos:=pos) (env:=X.env) hp.2;have dw:=a1p (f:=n) (env:=X.env) (w:=eval e X.env) hpb;have et:((backTo pos (starEach (a::es) X.env)).all (λx=>!x.1)&&(backToKw pos (keywordEach [] X.env)).all (λx=>x.1.isSome)
  &&decide (↥(a::es)+↥([]:List Keyword)+(if([]:List Keyword).isEmpty then 0 else 1)<30))=true:=by
  rw[ae,ae];refine⟨⟨a4s hp',rfl⟩,ba ?_⟩;show(a::es).length+0+0<30;ac_nf
 unfold b7T at hb
 repeat' split at hb
 all_goals (first|(cases hb;done)|(cases hb;rename_i e0;subst e0))
 · exact PE.imp (a6z PySem.F.plainAttrs_list PySem.F.slot_list_append PySem.F.type_list_append (b1S (Γ:=Γ) (E:=Ex)) ho ha dw et cW s1 s2) (a3F C.K (.inl ⟨rfl,.inl rfl⟩))
 · exact PE.imp (a6z PySem.F.plainAttrs_list PySem.F.slot_list_extend PySem.F.type_list_extend (b1R (Γ:=Γ) (E:=Ex)) ho ha dw et cW s1 s2) (a3F C.K (.inl ⟨rfl,.inr rfl⟩))
 · exact PE.imp (a6z plainAttrs_str slot_str_split PySem.F.type_str_split (b5g (Γ:=Γ) (E:=Ex)) ho ha dw et cW s1 s2) (a3F C.K (.inr ⟨rfl,.inl rfl⟩))
 · exact PE.imp (a6z plainAttrs_str PySem.F.slot_str_join PySem.F.type_str_join (b7U (Γ:=Γ) (E:=Ex) C.K) ho ha dw et cW s1 s2) (a3F C.K (.inr ⟨rfl,.inr (.inl rfl)⟩))
 · exact PE.imp (a6z plainAttrs_str PySem.F.slot_str_startswith PySem.F.type_str_startswith (b1Q (Γ:=Γ) (E:=Ex)) ho ha dw et cW s1 s2) (a3F C.K (.inr ⟨rfl,.inr (.inr rfl)⟩))
end
end EV
namespace L2
open PySem PySem.Spec PyProof.Rows
theorem a3G:∀(gs bM:List (Key×V)),((bM++gs).map (·.1)).Nodup->X4 bM gs=bM++gs
 |[],bM,_=>by rw[aZ];rfl
 | g::gs,bM,h=>by
  have h2:((bM++[g]++gs).map (·.1)).Nodup:=by rw[aA];exact h
  have hn:(bM.any λkv=>decide (kv.1=g.1))=false:=by
   rw[List.any_eq_false];intro p hp;have e:p.1≠g.1:=by rw[ao,nodup_append] at h;exact h.2.2 p.1 (al.mpr ⟨p,hp,rfl⟩) g.1 ⋯
   simp[e]
  show X4 (Q2 bM g.1 g.2) gs=_;rw[show Q2 bM g.1 g.2=bM++[g] by unfold Q2;rw[hn];rfl,a3G gs _ h2,aA];rfl
variable{H:Hp}
theorem a9p{p:Addr}{a b:HO}:upd (upd H p a) p b=upd H p b:=by
 funext x
 by_cases h:x=p
 · subst h;rw[i7,i7]
 · rw[n0 h,n0 h,n0 h]
def b6V(X:Cx)(td ty tx:TE):TE:=λσ H Q=>td σ H λx H1=>∃a,x=.ref a/\IsD H1 a/\ty σ H1 λy H2=>tx σ H2 λz H3=>∃H4,(∀bB σ s,Inv X bB σ H3 s->Inv X bB σ H4 s)/\∃o,a8m H4 a y o/\Q (o.getD z) H4
variable{X:Cx}{e:Expr}{cu:Pos}
theorem b1z{o f:Expr}{bW:Pos}{td ty tx:TE}(hu:X.A.units+1<cLine)(ho:PE X o td)(he:PE X e ty)(hf:PE X f tx)(m:M2 X o "get" cu e f bW):PE X (.Call (.Attribute o "get" cu) [e,f] [] bW) (b6V X td ty tx):=by intro bB s σ H Q I h;refine wpAny_Call_method m.base m.few m.line PySem.F.plainAttrs_dict slot_dict_get PySem.F.type_dict_get (thn (ho bB s σ H _ I h) λu s1 hh=>?_);obtain⟨x,H1,I1,rx,a,ex,d,q1⟩:=hh;subst ex;obtain rfl:u=Value.ref a:=rx;obtain⟨t1,t2,_⟩:=b8j I1 d;refine⟨t1,t2,?_⟩;rw[m.trees];refine Calls.callWith_builtin rfl (Calls.evalArgs_plain (gY (thn (he bB s1 σ H1 _ I1 q1) λiv s2 hh2=>?_)));obtain⟨y,H2,I2,ry,q2⟩:=hh2;refine gY (thn (hf bB s2 σ H2 _ I2 q2) λfv s3 hh3=>Calls.spliced_nil ?_);obtain⟨z,H3,I3,rz,H4,iv4,ov,g,q3⟩:=hh3;exact b8L hu (iv4 _ _ _ I3) g ry rz λw' s4 I4 bX=>⟨_,H4,I4,bX,q3⟩
end L2
namespace EV
open PySem PySem.Spec L2
open PyProof.Rows hiding St
def kDg:Key->D
 |.inl i=>.int i
 |.inr x=>.str x
theorem a4z:∀{l:List D},a5q l=true->l.Nodup
 |[],_=>.nil
 |d::r,h=>by rw[a5q,ae] at h;refine aV.mpr ⟨λm=>?_,a4z h.2⟩;have:=h.1;rw[bn.mpr ⟨d,m,ba rfl⟩] at this;cases this
variable{bC:List (D×D)}{m:List Addr}{H:Hp}{cu:Pos}
section
variable{X:Cx}{Γ:Gm}{G:GT}{ct:CT}{c:CF}{Ex:XK}{N:List Str}{sc:Scope}{bQ:Bool}{e a b:Expr}{pos p:Pos}{x y z:E}
theorem b5W{e:Expr}{x:Str}(h:b8M e=some x):∃k q,e=.Constant (.str x) k q:=by
 unfold b8M at h;split at h
 · split at h
   · cases h;exact⟨_,_,rfl⟩
   · cases h
 · cases h
theorem b5X{e:Expr}{i:Int}(h:b8N e=some i):∃k q,e=.Constant (.int i) k q:=by
 unfold b8N at h;split at h
 · split at h
   · cases h;exact⟨_,_,rfl⟩
   · cases h
 · cases h
theorem b6C:∀{ks:List (Option Expr)}{vs:List Expr}{bC:List (D×D)},b0i ks vs=some bC->∃eG gs,PPs X pos ks vs eG/\ks.all (·.isSome)=true/\↥ks=↥vs/\↥ks=↥bC/\↥gs=↥bC/\bC.map (·.1)=(gs.map (·.1)).map kDg∧
 (∀σ H Q,Q (gs.map λkv=>(kV kv.1,kv.2)) H->a4Z eG σ H Q)/\∀m H,DK m H bC gs
 |[],vs,bC,h=>by unfold b0i at h;obtain⟨e,h⟩:=ifs h;cases isEmpty_iff.mp e;cases h;exact⟨[],[],b4C,rfl,rfl,rfl,rfl,rfl,λ_ _ _ q=>q,λ_ _=>.nil⟩
 |k::ks,vs,bC,h=>by
  unfold b0i at h;split at h
  · cases h
  · rename_i v r;split at h
    · rename_i s i l h1 h2 h3;cases h;obtain⟨e,rfl,h1⟩:=Option.bind_eq_some_iff.mp h1;obtain⟨_,_,rfl⟩:=b5W h1;obtain⟨_,_,rfl⟩:=b5X h2;obtain⟨eG,gs,g1,g2,g3,g4,g5,g6,g7,g8⟩:=b6C h3;exact⟨(tC (.str s),tC (.int i))::eG,(.inr s,.int i)::gs,b1p b1u b1x g1,g2,fN (· +1) g3,fN (· +1) g4,fN (· +1) g5,by rw[map_cons,g6];rfl,λσ H Q q=>g7 σ H _ q,λm H=>.cons ⟨rfl,rfl⟩ (g8 m H)⟩
    · cases h
theorem b9g{ks:List (Option Expr)}{vs:List Expr}(h0:ks≠[])(h:b0i ks vs=some bC)(hk:b8J bC=true):PE X (.Dict ks vs pos) (TEv Γ Ex (ev ct c (.dlit bC))):=by
 unfold b8J at hk;rw[ae] at hk;have h15:=aw hk.1;obtain⟨eG,gs,g1,g2,g3,g4,g5,g6,g7,g8⟩:=b6C (X:=X) (pos:=pos) h;have nd:(gs.map (·.1)).Nodup:=by have:=a4z hk.2;rw[g6] at this;exact List.Pairwise.of_map _ (λa b h e=>h (by rw[e])) this
 refine PE.imp (b4N g1 g2 g3 h0 nofun) ?_;rintro σ H Q ⟨env,ah,m,rl,q⟩;intro p hp;refine g7 σ _ _ ⟨i7,gs,rfl,by ac_nf,?_⟩;rw[a9p,a3G gs [] nd];exact q.newc rl.sim hp (.inl ⟨gs,i7,g8 _ _⟩)
theorem c1f{k:D}:∀{bC:List (D×D)}{gs:List (List Key×V)},DT m H bC gs->D7 k bC=true->(K3 k).isSome=true->bC.isEmpty=true
 |_,_,.nil,_,_=>rfl
 |p::ps,_,.cons h t,hk,hs=>by obtain⟨⟨l,e1,e2⟩,_⟩:=h;unfold D7 at hk;rw[all_cons,e1] at hk;simp only[K7,e2,Option.isSome_some,fU] at hk;cases k<;>simp[K3,K7] at hk hs
theorem b9h(C:Cxt X Γ G ct c Ex N sc bQ)(hpb:a1b e=true)(cW:(cu.endLine==pos.line)=true)(hpa:u7 a=true)(hpc:u7 b=true)(ho:Pq X Γ Ex ct c e x)(ha:Pq X Γ Ex ct c a y)(hb:Pq X Γ Ex ct c b z):
 PE X (.Call (.Attribute e "get" cu) [a,b] [] pos) (TEv Γ Ex (ev ct c (.dget x y z))):=by
 have t:backTo pos (starEach [a,b] X.env)=[(false,eval a X.env),(false,eval b X.env)]:=by rw[k8 hpa,k8 hpc];rfl
 refine PE.imp (b1z (hu1 C.hu) ho ha hb ⟨a1p hpb,by rw[t];rfl,cW,t⟩) ?_;rintro σ H Q ⟨env,ah,m,rl,q⟩;refine⟨env,ah,m,rl,i8.first rl q λd1 bI m1 H1 v1 p1 k1 bK r1 q1=>?_⟩;split at q1
 · rename_i hd;unfold b2j at hd;split at hd
   · rename_i n;split at hd
     · rename_i kvs0 e0;obtain⟨ad,rfl,hm⟩:=r1;refine⟨ad,rfl,?_,env,bI,m1,bK,i8.first bK q1 λd2 ck m2 H2 v2 p2 k2 cG r2 q2=>⟨env,ck,m2,cG,i8.first cG q2 λd3 fh m3 H3 v3 p3 k3 eI r3 q3=>?_⟩⟩
       · rcases bK.sim.at hm e0 with⟨bC,h1,_⟩|⟨bC,h1,_⟩
         · exact .inl ⟨bC,.inl h1⟩
         · exact .inr ⟨bC,.inl h1⟩
       · unfold a7c at q3;simp only at q3;split at q3
         · rename_i bC e3;obtain⟨hk,q3⟩:=ifq q3;rw[ae] at hk;obtain⟨hk1,hk2⟩:=hk;obtain⟨k,hk⟩:=Option.isSome_iff_exists.mp hk2;have hm3:=p3.get (p2.get hm);rcases eI.sim.at hm3 e3 with⟨gs,h1,h2⟩|⟨gs,h1,h2⟩
           · obtain⟨o,g,o1,o2⟩:=a1N (Keep.refl m3 H3) (r2.mono p3 k3) (.inl ⟨k,gs,hk,h1,h2⟩);refine⟨H3,λ_ _ _ z=>z,o,g,?_⟩;cases hg:o7 bC d2 with
             |none=>
              rw[hg] at o1 q3;cases o with
              |none=>exact q3.ok eI.sim r3
              |some w=>cases o1
             |some w=>
              rw[hg] at q3;obtain⟨v,rfl,rv⟩:=o2 w hg;exact q3.ok eI.sim rv
           · have e0:=isEmpty_iff.mp (c1f h2 hk1 hk2);subst e0;cases h2;have kp:Keep m3 m3 H3 (upd H3 ad (.dK [])):=Keep.put hm3 h1 λz=>z;have S':=eI.sim.write (o':=.dK []) (c:=.dict []) hm3 h1 (λz=>z) (.inl ⟨[],i7,.nil⟩);rw[show fh.set n (.dict [])=fh from a3r e3] at S';refine⟨upd H3 ad (.dK []),λ_ _ _ I=>b0Z I h1,none,.inl ⟨[],k,.inl i7,Y0 hk (r2.mono p3 k3),rfl⟩,?_⟩;exact q3 m3 _ _ (Pre.refl m3) kp S' (r3.mono (Pre.refl m3) kp)
         · exact q3.elim
     · cases hd
   · cases hd
 · exact q1.elim
end
def TGv(Γ:Gm)(p:Pat):TG:=λv σ H Q=>∃env d m bF,EnvRel m H env σ/\Rp m H d v/\F7 p d env=some bF/\∀bO,EnvRel m H bF bO->↥bO=↥σ->(∀(j:Nat),j∉L5 p->bO[j]? =σ[j]?)->Q bO H
def c2Z(Γ:Gm)(p:Pats):TGs:=λvs σ H Q=>∃env ds m bF,EnvRel m H env σ/\Rps m H ds vs/\N5 p ds env=some bF/\∀bO,EnvRel m H bF bO->↥bO=↥σ->(∀(j:Nat),j∉a0J p->bO[j]? =σ[j]?)->Q bO H
def a2S:Pats->Nat
 |.nil=>0
 |.cons _ r=>a2S r+1
theorem a1o:∀(ps:Pats){ds:List D}{env bF:o8},N5 ps ds env=some bF->↥ds=a2S ps
 |.nil,ds,env,bF,h=>by
  cases ds with
  |nil=>rfl
  |cons d r=>simp only[N5] at h;cases h
 | .cons p r,ds,env,bF,h=>by
  cases ds with
  |nil=>simp only[N5] at h;cases h
  |cons d t=>
   simp only[N5] at h;split at h
   · rw[length_cons,a1o r h];rfl
   · cases h
variable{es:List Expr}{n:Nat}{cc:Cell}{ah:AH}{K:Frag}{l:List D}{m0:List Addr}{H0:Hp}{vs:List V}{z:Str}{n':Nat}{a':Addr}{l':List D}{cc':Cell}{dN:List Expr}{kk:Nat}{tp:Pos}
section
variable{X:Cx}{Γ:Gm}{G:GT}{ct:CT}{c:CF}{Ex:XK}{N:List Str}{sc:Scope}{bQ:Bool}
theorem PG.imp{e:Expr}{t t':TG}(h:PG X e t)(i:∀v σ H Q,t' v σ H Q->t v σ H Q):PG X e t':=λbB s σ H v u Q I r q=>h bB s σ H v u Q I r (i _ _ _ _ q)
theorem PGs.imp{t t':TGs}(h:PGs X es t)(i:∀v σ H Q,t' v σ H Q->t v σ H Q):PGs X es t':=λbB s σ H v u Q I r q=>h bB s σ H v u Q I r (i _ _ _ _ q)
theorem a3Z{env:Env}:∀{es:List Expr},↥(assignEach es env)=↥es
 |[]=>rfl
 |e::r=>by have:=a3Z (env:=env) (es:=r);cases e<;>simp only[assignEach,length_cons]<;>rw[this]
theorem Cxt.loc(C:Cxt X Γ G ct c Ex N sc bQ){n:Str}(h:b2i bQ sc n=true):Loc X.env.scope n/\(X.fn n=true∨X.env.scope.names.lookup n=some .local):=by
 rw[C.sc];unfold b2i at h;unfold L2.Loc;split at h
 · rename_i e;exact⟨.inl e,.inr e⟩
 · rename_i e;exact⟨.inr e,.inl (C.fnb h n)⟩
 · cases h
theorem a3n(C:Cxt X Γ G ct c Ex N sc bQ){n:Str}{i:Nat}(h:a3o bQ N sc n=some i):X.N[i]? =some n/\Loc X.env.scope n/\(X.fn n=true∨X.env.scope.names.lookup n=some .local):=by unfold a3o at h;obtain⟨hl,h⟩:=ifs h;rw[C.hN];exact⟨a5C h,C.loc hl⟩
theorem b3G(C:Cxt X Γ G ct c Ex N sc bQ):∀n,(∀e p,a8j bQ N sc n e=some p->PG X e (TGv Γ p)/\u7 e=true)/\∀es ps,a3V bQ N sc n es=some ps->PGs X es (c2Z Γ ps)/\a2S ps=↥es/\(assignEach es X.env).findIdx? (·.1)=none:=by
 intro n
 induction n with
 |zero=>exact⟨λe p h=>(by simp only[a8j] at h;cases h),λes ps h=>(by simp only[a3V] at h;cases h)⟩
 | succ n ih=>
  obtain⟨ih1,ih2⟩:=ih;refine⟨λe p h=>?_,λes ps h=>?_⟩
  · cases e<;>simp only[a8j] at h<;>first|(cases h;done)|skip
    · rename_i nm pos;cases hs:a3o bQ N sc nm with
      |none=>rw[hs] at h;cases h
      |some i=>
       rw[hs] at h;cases h;obtain⟨h1,h2,h3⟩:=a3n C hs;refine⟨PG.imp (b4M (by rw[C.hN];exact C.nd) h1 h2 h3) ?_,rfl⟩;rintro v σ H Q ⟨env,d,m,bF,er,r,hb,q⟩;simp only[F7] at hb;cases hb;exact q _ (er.set r) ⋯ λj hj=>fO (λe=>hj (by simp[L5,e]))
    · rename_i es k pos;cases hs:a3V bQ N sc n es with
      |none=>rw[hs] at h;cases h
      |some ps=>
       rw[hs] at h;cases h;obtain⟨h1,h2,h3⟩:=ih2 es ps hs;refine⟨PG.imp (b7t C.calm h1 a3Z h3) ?_,rfl⟩;rintro v σ H Q ⟨env,d,m,bF,er,r,hb,q⟩;simp only[F7] at hb;cases d<;>first|(cases hb;done)|skip
       rename_i ds;obtain⟨a,vs,rfl,ha,rs⟩:=r;refine⟨a,vs,rfl,.inl (.inl ha),by rw[rs.len,a1o ps hb,h2],env,ds,m,bF,er,rs,hb,λbO r' l' s'=>q bO r' l' s'⟩
  · cases es with
    | nil=>
     simp only[a3V] at h;cases h;refine⟨PGs.imp b4L ?_,rfl,rfl⟩;rintro vs σ H Q ⟨env,ds,m,bF,er,rs,hb,q⟩;have hl:=a1o .nil hb;have:vs=[]:=length_eq_zero_iff.mp (rs.len.trans hl);subst this;cases ds with
     |nil=>
      simp only[N5] at hb;cases hb;exact⟨rfl,q σ er rfl λ_ _=>rfl⟩
     |cons d r=>cases hl
    |cons e r=>
     simp only[a3V] at h;split at h
     · rename_i p ps' h1 h2;cases h;obtain⟨g1,g2⟩:=ih1 e p h1;obtain⟨g3,g4,g5⟩:=ih2 r ps' h2;have dL:(assignEach (e::r) X.env)=(false,assign e X.env)::assignEach r X.env:=by cases e<;>first|rfl|cases g2
       refine⟨PGs.imp (b1t g1 g3 (by rw[dL];rfl)) ?_,by simp only[a2S,length_cons,g4],by rw[dL,List.findIdx?_cons,g5];rfl⟩;rintro vs σ H Q ⟨env,ds,m,bF,er,rs,hb,q⟩;cases ds with
       |nil=>simp only[N5] at hb;cases hb
       |cons d t=>
        simp only[N5] at hb;split at hb
        · rename_i bS hb1;obtain⟨v,vt,rfl,rd,rt⟩:=rs;refine⟨v,vt,rfl,env,d,m,bS,er,rd,hb1,λσ1 er1 l1 s1=>⟨bS,t,m,bF,er1,rt,hb,λbO er' l' s'=>q bO er' (l'.trans l1) λj hj=>?_⟩⟩;simp only[a0J,aL,not_or] at hj;rw[s' j hj.2,s1 j hj.1]
        · cases hb
     · cases h
def a6b(Γ:Gm)(J:It)(bD:List D)(g:List (Nat×Cell))(m0:List Addr)(H0:Hp):Prop:=∀(i:Nat)(ah:AH)(m:List Addr)(H:Hp),Pre m0 m->Keep m0 m H0 H->Sim Γ ah m H->gOk g ah=true→
 (i=↥bD->J.stop i H)/\∀d,bD[i]? =some d->J.go i H/\∀v H',J.yld i H v H'->Keep m m H H'/\Sim Γ ah m H'/\Rp m H' d v
def TIv(Γ:Gm)(E:XK)(f:o8->AH->R Its):TI:=λσ H R=>∃env ah m,Rel Γ env ah σ H m/\k7 Γ E m H (f env ah) (λx bI m1 H1=>Sim Γ bI m1 H1->∀J,a6b Γ J x.1 x.2 m1 H1->R J H1)
theorem b2C(h:gOk [(n,cc)] ah=true):ah[n]? =some cc:=by unfold gOk at h;rw[all_cons,ae] at h;exact aw h.1
theorem C1(hK:K=Γ.K){a:Addr}(h:cc=.lst l∨cc=.rol l)(S:Sim Γ ah m H)(hm:m[n]? =some a)(e:ah[n]? =some cc):∃vs,SqL K H a vs/\Rps m H l vs:=by
 have:rdL ah n=some l:=by unfold rdL;rcases h with rfl|rfl<;>rw[e]
 obtain⟨a',vs,e1,e2,e3,e4⟩:=S.rdL this ⟨a,rfl,hm⟩;rw[hm] at e2;cases e2;exact⟨vs,by rw[hK];exact e3,e4⟩
theorem a8O(hK:K=Γ.K){a:Addr}(h:cc=.lst l∨cc=.rol l)(hm:m0[n]? =some a):a6b Γ (Itl K a) l [(n,cc)] m0 H0:=by intro i ah m H p k0 S g;obtain⟨vs,h1,h2⟩:=C1 hK h S (p.get hm) (b2C g);refine⟨λhi=>⟨vs,h1,by rw[h2.len,hi];exact aj _⟩,λd hd=>?_⟩;obtain⟨v,hv,rv⟩:=h2.get hd;refine⟨⟨vs,v,h1,hv⟩,?_⟩;rintro w H' ⟨rfl,hw⟩;have:=hw vs h1;rw[hv] at this;cases this;exact⟨Keep.refl _ _,S,rv⟩
theorem a4K:∀{l:List D}{n i:Nat}{d:D},(u5 n l)[i]? =some d->∃x,l[i]? =some x/\d=.tup [.int ((n+i:Nat):Int),x]
 |[],_,_,_,h=>by simp[u5] at h
 |x::r,n,0,d,h=>by simp only[u5,List.getElem?_cons_zero] at h;cases h;exact⟨x,rfl,rfl⟩
 |x::r,n,i+1,d,h=>by simp only[u5,List.getElem?_cons_succ] at h;obtain⟨y,h1,h2⟩:=a4K h;exact⟨y,by simpa using h1,by rw[h2];congr 3;ac_nf⟩
theorem a4J:∀{l:List D}{n:Nat},↥(u5 n l)=↥l
 |[],_=>rfl
 |x::r,n=>by simp only[u5,length_cons,a4J]
theorem a8P(hK:K=Γ.K){a:Addr}(h:cc=.lst l∨cc=.rol l)(hm:m0[n]? =some a):a6b Γ (Ite K a) (u5 0 l) [(n,cc)] m0 H0:=by intro i ah m H p k0 S g;obtain⟨vs,h1,h2⟩:=C1 hK h S (p.get hm) (b2C g);refine⟨λhi=>⟨vs,h1,by rw[h2.len,hi,a4J];exact aj _⟩,λd hd=>?_⟩;obtain⟨x,hx,rfl⟩:=a4K hd;obtain⟨v,hv,rv⟩:=h2.get hx;refine⟨⟨vs,v,h1,hv⟩,?_⟩;rintro w H' ⟨T,y,hT,rfl,hw,rfl⟩;have:=hw vs h1;rw[hv] at this;cases this;refine⟨Keep.new hT,S.new hT,T,[.int i,v],rfl,i7,.int i,[v],rfl,?_,v,[],rfl,rv.mono (Pre.refl m) (Keep.new hT),rfl⟩;show V.int (i:Int)=V.int ((0+i:Nat):Int);rw[aB]
theorem b8e{a:Addr}(ha:H0 a=some (.tup vs))(r:Rps m0 H0 l vs):a6b Γ (Itt K a) l [] m0 H0:=by intro i ah m H p k0 S g;have h1:=k0.tup ha;have h2:=r.mono p k0;refine⟨λhi=>⟨vs,.inl (.inl h1),by rw[h2.len,hi];exact aj _⟩,λd hd=>?_⟩;obtain⟨v,hv,rv⟩:=h2.get hd;refine⟨⟨vs,v,.inl (.inl h1),hv⟩,?_⟩;rintro w H' ⟨rfl,hw⟩;have:=hw vs (.inl (.inl h1));rw[hv] at this;cases this;exact⟨Keep.refl _ _,S,rv⟩
theorem b8f:a6b Γ (L2.Its z) (Y9 z) [] m0 H0:=by
 intro i ah m H p k0 S g;refine⟨λhi=>?_,λd hd=>?_⟩
 · show i=z.cps.size;rw[hi];simp[Y9]
 · unfold Y9 at hd;rw[ak] at hd;cases hc:z.cps.toList[i]? with
   |none=>rw[hc] at hd;cases hd
   | some cc=>
    rw[hc] at hd;cases hd;have hi:i<z.cps.size:=by
     have:=(ac.mp hc).1
     simpa using this
    refine⟨hi,?_⟩;rintro v H' ⟨rfl,c',h1,rfl⟩;rw[Array.getElem?_toList] at hc;rw[hc] at h1;cases h1;exact⟨Keep.refl _ _,S,rfl⟩
theorem b8g{lo:Int}:a6b Γ (Itr lo n) (b0X lo n) [] m0 H0:=by
 intro i ah m H p k0 S g;refine⟨λhi=>?_,λd hd=>?_⟩
 · show n<=i;rw[hi];simp[b0X]
 · unfold b0X at hd;rw[ak] at hd;cases hc:(List.range n)[i]? with
   |none=>rw[hc] at hd;cases hd
   |some j=>
    rw[hc] at hd;cases hd;obtain⟨h1,h2⟩:=ac.mp hc;rw[List.getElem_range] at h2;rw[aK] at h1;subst h2;refine⟨h1,?_⟩;rintro v H' ⟨rfl,rfl⟩;exact⟨Keep.refl _ _,S,rfl⟩
variable{tg a b:Expr}{x y:E}{pos p:Pos}
theorem c1E(C:Cxt X Γ G ct c Ex N sc bQ)(ha:Pq X Γ Ex ct c a x):PI X tg a (TIv Γ Ex (evi ct c (.seq x))):=by
 intro bB s σ H R I ⟨env,ah,m,rl,q⟩;rw[R7] at q;cases hr:ev ct c x env ah with
 | ok d bI=>
  rw[hr,b9] at q;unfold L3 at q;split at q
  · refine b7r ha bB s σ H R I ⟨env,ah,m,rl,?_⟩;rw[hr];intro m1 H1 v p1 k1 s1 r1;cases r1;exact⟨_,rfl,(q m1 H1 p1 k1 s1) s1 _ b8f⟩
  · refine b7q ha bB s σ H R I ⟨env,ah,m,rl,?_⟩;rw[hr];intro m1 H1 v p1 k1 s1 r1;obtain⟨ad,vs,rfl,h1,q1⟩:=r1;exact⟨ad,rfl,⟨vs,.inl (.inl h1)⟩,(q m1 H1 p1 k1 s1) s1 _ (b8e h1 q1)⟩
  · rename_i n;refine b4J ha bB s σ H R I ⟨env,ah,m,rl,?_⟩;rw[hr];intro m1 H1 v p1 k1 s1 r1;split at q
    · rename_i l e;obtain⟨ad,vs,rfl,hm,h1,q1⟩:=s1.lst e r1;exact⟨ad,rfl,⟨vs,.inl (.inl h1)⟩,(q m1 H1 p1 k1 s1) s1 _ (a8O C.K (.inl rfl) hm)⟩
    · rename_i l e;obtain⟨ad,vs,rfl,hm,h1,q1⟩:=s1.rdL (l:=l) (by unfold rdL;rw[e]) r1;exact⟨ad,rfl,⟨vs,by rw[C.K];exact h1⟩,(q m1 H1 p1 k1 s1) s1 _ (a8O C.K (.inr rfl) hm)⟩
    · exact q.elim
  · exact q.elim
 |no=>rw[hr] at q;exact q.elim
theorem b9a(C:Cxt X Γ G ct c Ex N sc bQ)(hg:N3 sc "range"=true)(hm:X.mg "range"=none)(hp:u7 a=true)(ha:Pq X Γ Ex ct c a x):PI X tg (.Call (.Name "range" p) [a] [] pos) (TIv Γ Ex (evi ct c (.rng1 x))):=by
 intro bB s σ H R I ⟨env,ah,m,rl,q⟩;refine a9I (C.gl hg) hm (Q9 ha a2b (k8 hp)) (k8 hp) bB s σ H R I ⟨env,ah,m,rl,?_⟩;refine k7.first rl q λd1 bI m1 H1 v1 p1 k1 bK r1 q1=>?_;unfold a9C at q1;split at q1
 · rename_i i j e1;cases e1;cases r1;split at q1
   · rename_i hh;refine⟨j,rfl,(a0H hh.2).1,(a0H hh.2).2,?_⟩;have:=q1.ok bK.sim bK.sim (Itr 0 (j-0).toNat) b8g
     rwa [Int.sub_zero] at this
   · exact q1.elim
 · exact q1.elim
theorem c2E{g:Nat×Cell}{g':List (Nat×Cell)}(h:gOk (g::g') ah=true):ah[g.1]? =some g.2/\gOk g' ah=true:=by unfold gOk at h⊢;rw[all_cons,ae] at h;exact⟨aw h.1,h.2⟩
theorem W5{a:List D×Cell}(h:U0 ah n=some a):ah[n]? =some a.2/\(a.2=.lst a.1∨a.2=.rol a.1):=by
 unfold U0 at h;split at h
 · rename_i l e;cases h;exact⟨e,.inl rfl⟩
 · rename_i l e;cases h;exact⟨e,.inr rfl⟩
 · cases h
theorem a3d:∀{l l':List D}{i:Nat}{d:D},(M5 l l')[i]? =some d->∃x y,l[i]? =some x/\l'[i]? =some y/\d=.tup [x,y]
 |[],l',i,d,h=>by simp[M5] at h
 |x::xs,[],i,d,h=>by simp[M5] at h
 |x::xs,y::ys,0,d,h=>by simp only[M5,List.getElem?_cons_zero] at h;cases h;exact⟨x,y,rfl,rfl,rfl⟩
 |x::xs,y::ys,i+1,d,h=>by simp only[M5,List.getElem?_cons_succ] at h;obtain⟨a,b,h1,h2,h3⟩:=a3d h;exact⟨a,b,by simpa using h1,by simpa using h2,h3⟩
theorem a3c:∀{l l':List D},↥l<=↥(M5 l l')∨↥l'<=↥(M5 l l')
 |[],l'=>.inl (gd _)
 |x::xs,[]=>.inr (gd _)
 |x::xs,y::ys=>by
  simp only[M5,length_cons];rcases a3c (l:=xs) (l':=ys) with h|h
  · exact .inl (Nat.succ_le_succ h)
  · exact .inr (Nat.succ_le_succ h)
theorem b2e(hK:K=Γ.K){a:Addr}(h:cc=.lst l∨cc=.rol l)(h':cc'=.lst l'∨cc'=.rol l')(hm:m0[n]? =some a)(hm':m0[n']? =some a'):
 a6b Γ (Itz K a a') (M5 l l') [(n,cc),(n',cc')] m0 H0:=by
 intro i ah m H p k0 S g;obtain⟨g1,g2⟩:=c2E g;obtain⟨vs,h1,h2⟩:=C1 hK h S (p.get hm) g1;obtain⟨ws,h3,h4⟩:=C1 hK h' S (p.get hm') (b2C g2);refine⟨λhi=>⟨vs,ws,h1,h3,?_⟩,λd hd=>?_⟩
 · rw[h2.len,h4.len,hi];exact a3c
 · obtain⟨x,y,hx,hy,rfl⟩:=a3d hd;obtain⟨v,hv,rv⟩:=h2.get hx;obtain⟨u,hu,ru⟩:=h4.get hy;refine⟨⟨vs,ws,v,u,h1,h3,hv,hu⟩,?_⟩;rintro w H' ⟨T,z,z',hT,rfl,hw,hw',rfl⟩;have e1:=hw vs h1;have e2:=hw' ws h3;rw[hv] at e1;rw[hu] at e2;cases e1;cases e2;exact⟨Keep.new hT,S.new hT,T,[v,u],rfl,i7,v,[u],rfl,rv.mono (Pre.refl m) (Keep.new hT),u,[],rfl,ru.mono (Pre.refl m) (Keep.new hT),rfl⟩
theorem b5l(hK:K=Γ.K){a:Addr}(ha:H0 a=some (.tup vs))(r:Rps m0 H0 l vs)(h':cc'=.lst l'∨cc'=.rol l')(hm':m0[n']? =some a'):a6b Γ (b9p K a a') (M5 l l') [(n',cc')] m0 H0:=by
 intro i ah m H p k0 S g;have h1:SqT K H a vs:=.inl (.inl (k0.tup ha));obtain⟨ws,h3,h4⟩:=C1 hK h' S (p.get hm') (b2C g);have h2:=r.mono p k0;refine⟨λhi=>⟨vs,ws,h1,h3,?_⟩,λd hd=>?_⟩
 · rw[h2.len,h4.len,hi];exact a3c
 · obtain⟨x,y,hx,hy,rfl⟩:=a3d hd;obtain⟨v,hv,rv⟩:=h2.get hx;obtain⟨u,hu,ru⟩:=h4.get hy;refine⟨⟨vs,ws,v,u,h1,h3,hv,hu⟩,?_⟩;rintro w H' ⟨T,z,z',hT,rfl,hw,hw',rfl⟩;have e1:=hw vs h1;have e2:=hw' ws h3;rw[hv] at e1;rw[hu] at e2;cases e1;cases e2;exact⟨Keep.new hT,S.new hT,T,[v,u],rfl,i7,v,[u],rfl,rv.mono (Pre.refl m) (Keep.new hT),u,[],rfl,ru.mono (Pre.refl m) (Keep.new hT),rfl⟩
theorem c1B(C:Cxt X Γ G ct c Ex N sc bQ)(hg:N3 sc "zip"=true)(hm:X.mg "zip"=none)(hp:u7 a=true)(hpb:u7 b=true)(ha:Pq X Γ Ex ct c a x)(hb:Pq X Γ Ex ct c b y):PI X (.Tuple dN kk tp) (.Call (.Name "zip" p) [a,b] [] pos) (TIv Γ Ex (evi ct c (.zip x y))):=by
 intro bB s σ H R I ⟨env,ah,m,rl,q⟩;refine b4I (C.gl hg) hm (Q9 ha (Q9 hb a2b (k8 hpb)) (k8 hp)) (k8 hp) (S8 (by simp[hpb])) bB s σ H R I ⟨env,ah,m,rl,?_⟩;refine k7.first rl q λd1 bI m1 H1 v1 p1 k1 bK r1 q1=>?_;refine⟨env,bI,m1,bK,k7.first bK q1 λd2 ck m2 H2 v2 p2 k2 cG r2 q2=>?_⟩;unfold a6d at q2;split at q2
 · split at q2
   · split at q2
     · rename_i e2;obtain⟨c2,w2⟩:=W5 e2;obtain⟨ad,vs,rfl,h1,g1⟩:=r1.mono p2 k2;obtain⟨ad',rfl,eO⟩:=r2;obtain⟨ws,h2,_⟩:=C1 C.K w2 cG.sim eO c2;exact⟨ad,ad',vs,ws,rfl,.inr ⟨.inl (.inl h1),h2,q2.ok cG.sim cG.sim _ (b5l C.K h1 g1 w2 eO)⟩⟩
     · exact q2.elim
   · exact q2.elim
 · unfold a6c at q2;split at q2
   · split at q2
     · rename_i e1 e2;obtain⟨c1,w1⟩:=W5 e1;obtain⟨c2,w2⟩:=W5 e2;obtain⟨ad,rfl,hm1⟩:=r1.mono p2 k2;obtain⟨ad',rfl,eO⟩:=r2;obtain⟨vs,h1,_⟩:=C1 C.K w1 cG.sim hm1 c1;obtain⟨ws,h2,_⟩:=C1 C.K w2 cG.sim eO c2;exact⟨ad,ad',vs,ws,rfl,.inl ⟨h1,h2,q2.ok cG.sim cG.sim _ (b2e C.K w1 w2 hm1 eO)⟩⟩
     · exact q2.elim
   · exact q2.elim
theorem b8Z{nm:Str}(C:Cxt X Γ G ct c Ex N sc bQ)(hg:N3 sc "zip"=true)(hm:X.mg "zip"=none)(hp:u7 a=true)(hpb:u7 b=true)(ha:Pq X Γ Ex ct c a x)(hb:Pq X Γ Ex ct c b y):PI X (.Name nm tp) (.Call (.Name "zip" p) [a,b] [] pos) (TIv Γ Ex (evi ct c (.zipn x y))):=by
 intro bB s σ H R I ⟨env,ah,m,rl,q⟩;refine b4H (C.gl hg) hm (Q9 ha (Q9 hb a2b (k8 hpb)) (k8 hp)) (k8 hp) (S8 (by simp[hpb])) bB s σ H R I ⟨env,ah,m,rl,?_⟩;refine k7.first rl q λd1 bI m1 H1 v1 p1 k1 bK r1 q1=>?_;refine⟨env,bI,m1,bK,k7.first bK q1 λd2 ck m2 H2 v2 p2 k2 cG r2 q2=>?_⟩;unfold a6c at q2;split at q2
 · split at q2
   · rename_i e1 e2;obtain⟨c1,w1⟩:=W5 e1;obtain⟨c2,w2⟩:=W5 e2;obtain⟨ad,rfl,hm1⟩:=r1.mono p2 k2;obtain⟨ad',rfl,eO⟩:=r2;obtain⟨vs,h1,_⟩:=C1 C.K w1 cG.sim hm1 c1;obtain⟨ws,h2,_⟩:=C1 C.K w2 cG.sim eO c2;exact⟨ad,ad',vs,ws,rfl,h1,h2,q2.ok cG.sim cG.sim _ (b2e C.K w1 w2 hm1 eO)⟩
   · exact q2.elim
 · exact q2.elim
theorem b9e(C:Cxt X Γ G ct c Ex N sc bQ)(hg:N3 sc "enumerate"=true)(hm:X.mg "enumerate"=none)(hp:u7 a=true)(ha:Pq X Γ Ex ct c a x):PI X (.Tuple dN kk tp) (.Call (.Name "enumerate" p) [a] [] pos) (TIv Γ Ex (evi ct c (.enum x))):=by
 intro bB s σ H R I ⟨env,ah,m,rl,q⟩;refine b4K (C.gl hg) hm (Q9 ha a2b (k8 hp)) (k8 hp) bB s σ H R I ⟨env,ah,m,rl,?_⟩;refine k7.first rl q λd1 bI m1 H1 v1 p1 k1 bK r1 q1=>?_;unfold U5 at q1;split at q1
 · split at q1
   · rename_i l e;obtain⟨ad,vs,rfl,hm,h1,_⟩:=bK.sim.lst e r1;exact⟨ad,vs,rfl,.inl (.inl h1),q1.ok bK.sim bK.sim _ (a8P C.K (.inl rfl) hm)⟩
   · rename_i l e;obtain⟨ad,vs,rfl,hm,h1,_⟩:=bK.sim.rdL (l:=l) (by unfold rdL;rw[e]) r1;exact⟨ad,vs,rfl,by rw[C.K];exact h1,q1.ok bK.sim bK.sim _ (a8P C.K (.inr rfl) hm)⟩
   · exact q1.elim
 · exact q1.elim
theorem b8h(hK:K=Γ.K){a:Addr}(h:cc=.lst l∨cc=.rol l)(hm:m0[n]? =some a):a6b Γ (Itv K a ↥l) l.reverse [(n,cc)] m0 H0:=by intro i ah m H p k0 S g;obtain⟨vs,h1,h2⟩:=C1 hK h S (p.get hm) (b2C g);refine⟨λhi=>by rw[hi,List.length_reverse];rfl,λd hd=>?_⟩;have hi:=(ac.mp hd).1;rw[List.length_reverse] at hi;rw[List.getElem?_reverse hi] at hd;obtain⟨v,hv,rv⟩:=h2.get hd;refine⟨⟨vs,v,h1,hi,hv⟩,?_⟩;rintro w H' ⟨rfl,hw⟩;have:=hw vs h1;rw[hv] at this;cases this;exact⟨Keep.refl _ _,S,rv⟩
theorem c1F{tg:Expr}(C:Cxt X Γ G ct c Ex N sc bQ)(hg:N3 sc "reversed"=true)(hm:X.mg "reversed"=none)(hp:u7 a=true)(ha:Pq X Γ Ex ct c a x):PI X tg (.Call (.Name "reversed" p) [a] [] pos) (TIv Γ Ex (evi ct c (.rev x))):=by
 intro bB s σ H R I ⟨env,ah,m,rl,q⟩;refine b7s (C.gl hg) hm ha (k8 hp) bB s σ H R I ⟨env,ah,m,rl,?_⟩;refine k7.first rl q λd1 bI m1 H1 v1 p1 k1 bK r1 q1=>?_;unfold b0Y at q1;split at q1
 · split at q1
   · rename_i a e;obtain⟨c1,w1⟩:=W5 e;obtain⟨ad,rfl,hm1⟩:=r1;obtain⟨vs,h1,h2⟩:=C1 C.K w1 bK.sim hm1 c1;refine⟨ad,vs,rfl,h1,?_⟩;rw[h2.len];exact q1.ok bK.sim bK.sim _ (b8h C.K w1 hm1)
   · exact q1.elim
 · exact q1.elim
end
variable{env:o8}{σ:St}{own:List Str}{p:Pat}{α:Type}{Q:VK}{e:E}{cM:Expr}{iter:Expr}{tg:Expr}{scope:Scope}{pos:Pos}{frees:List Str}{op:CmpOp}{β:Type}
section
variable{X:Cx}{Γ:Gm}{G:GT}{ct:CT}{c:CF}{Ex:XK}{N:List Str}{sc:Scope}{bQ:Bool}
theorem a6Z(h:EnvRel m H env σ)(own:List Str)(js:List Nat):EnvRel m H (F0 ↥own js env) (E9 own js σ):=by
 refine⟨by simp[F0,E9],λi d e=>?_⟩;unfold F0 at e;unfold E9
 by_cases hi:i<↥own
 · rw[av (by simpa using hi),bA,ay hi] at e;cases e
 · have hi':↥own<=i:=aU hi;rw[au (by simpa using hi'),bj,ak] at e;rw[au (by simpa using hi'),aa,ak];cases hj:js[i-↥own]? with
   |none=>rw[hj] at e;cases e
   | some j=>
    rw[hj] at e;have e':(env[j]?).join=some d:=ax e;have e2:env[j]? =some (some d):=by
     cases q:env[j]? with
     |none=>rw[q] at e';cases e'
     |some z=>rw[q] at e';exact fN some e'
    obtain⟨v,h1,h2⟩:=h.val j d e2;exact⟨v,by rw[Option.map_some,h1];rfl,h2⟩
theorem b3N{js:List Nat}{σ4:St}(hp:(L5 p).all (λi=>decide (i<↥own))=true)(hl:↥σ4=↥(E9 own js σ))(hs:∀(j:Nat),j∉L5 p->σ4[j]? =(E9 own js σ)[j]?):Wk (E9 own js σ) σ4:=by
 refine⟨hl.symm,λi v h=>?_⟩;rw[hs i]
 · exact h
 · intro hm;have:=aw (bm.mp hp i hm);unfold E9 at h;rw[av (by simpa using this),ak] at h;cases q:own[i]? with
   |none=>rw[q] at h;cases h
   |some z=>rw[q] at h;cases h
theorem a8C{r:R α}{f:α->AH->R D}(h:i8 Γ Ex m H (r.bind f) Q):∃a ah,r=.ok a ah/\i8 Γ Ex m H (f a ah) Q:=by
 cases r with
 |ok a ah=>exact⟨a,ah,rfl,h⟩
 |no=>exact h.elim
theorem a7g {js:List Nat}{it:I}{t:T}(hp:(L5 p).all (λi=>decide (i<↥own))=true):∀σ H Q,TEv Γ Ex (ev ct c (.comp p it ↥own js t e)) σ H Q->a8p own js (TIv Γ Ex (evi ct c it)) (TGv Γ p) (TTv Γ E0 (tst ct c t)) (TEv Γ E0 (ev ct c e)) σ H Q:=by
 rintro σ H Q ⟨env,ah,m,rl,q⟩;refine⟨env,ah,m,rl,q.bind.mp λx bI m1 H1 p1 k1 s1 q1=>λ_ J hJ D hD=>?_⟩;have er1:=rl.env.mono p1 k1;refine⟨λi mm ys H2=>mm=↥x.1-i/\i<=↥x.1/\∃bM ck m2,Sim Γ ck m2 H2/\Pre m1 m2/\Keep m1 m2 H1 H2/\D∉m2/\H2 D=some (.lst ys)/\Rps m2 H2 bM ys∧
  i8 Γ Ex m1 H1 ((Q1 x.2 p (tst ct c t) (ev ct c e) (F0 ↥own js env) (x.1.drop i) bM ck).bind λds h2=>v8 (.lst ds) h2) Q,?_,?_⟩
 · exact⟨_,rfl,gd _,[],bI,m1,s1.new hD,Pre.refl _,Keep.new hD,s1.fresh hD,i7,rfl,q1⟩
 · rintro i mm ys H2 ⟨hmm,hil,bM,ck,m2,s2,p2,k2,nD,hD2,rs2,q2⟩
   by_cases dj:i=↥x.1
   · refine .inl ?_;rw[dj,drop_length] at q2;obtain⟨ds,fh,e3,q3⟩:=a8C q2;unfold Q1 at e3;split at e3
     · rename_i hgk;cases e3;refine⟨(hJ i ck m2 H2 p2 k2 s2 hgk).1 dj,?_⟩;have sm:Sim Γ (ck++[.lst bM]) (m2++[D]) H2:=by
        refine⟨by simp[s2.len],a1c s2.nd nD,λn a cc hn ed=>?_⟩;have kk:Keep m2 m2 H2 H2:=Keep.refl _ _
        by_cases hl:n<↥m2
        · rw[av hl] at hn;rw[av (by rw[←s2.len];exact hl)] at ed;exact(s2.at hn ed).mono' (Pre.snoc m2 D) (λ_ _ _ z=>z) rfl
        · have hn':n=↥m2:=by have:=(ac.mp hn).1;simp at this;ac_nf
          subst hn';rw[au (aj _)] at hn;rw[s2.len,au (aj _)] at ed;simp at hn ed;subst hn;subst ed;exact⟨ys,hD2,rs2.mono' (Pre.snoc m2 D) λ_ _ _ z=>z⟩
       refine q3 (m2++[D]) H2 (.ref D) (p2.trans (Pre.snoc m2 D)) ⟨k2.im,k2.out,λa ha=>?_⟩ sm ⟨D,rfl,?_⟩
       · rcases aL.mp ha with z|z
         · exact k2.fr a z
         · simp at z;subst z;exact .inr hD
       · rw[←s2.len,au (aj _)];simp
     · cases e3
   · refine .inr ?_;have hlt:i<↥x.1:=Nat.lt_of_le_of_ne hil dj;have hdi:x.1[i]? =some x.1[i]:=ai hlt;rw[drop_eq_getElem_cons hlt] at q2;generalize hdd:x.1[i]=dd at q2 hdi;obtain⟨ds,fh,e3,q3⟩:=a8C q2;unfold Q1 at e3;split at e3
     · rename_i hgk;obtain⟨go,yl⟩:=(hJ i ck m2 H2 p2 k2 s2 hgk).2 dd hdi;refine⟨go,λv H3 hy=>?_⟩;obtain⟨k3,s3,r3⟩:=yl v H3 hy;split at e3
       · cases e3
       · rename_i envb hb;have er3:EnvRel m2 H3 (F0 ↥own js env) (E9 own js σ):=a6Z ((er1.mono p2 k2).mono (Pre.refl m2) k3) own js;refine⟨_,dd,m2,envb,er3,r3,hb,λσ4 er4 l4 s4=>⟨b3N hp l4 s4,envb,ck,m2,⟨s3,er4⟩,?_⟩⟩;have hD3:H3 D=some (.lst ys):=k3.out D _ nD hD2;have ab:∀{m9:List Addr}{H9:Hp},Pre m2 m9->Keep m2 m9 H3 H9->D∉m9/\H9 D=some (.lst ys):=fun{m9 H9} p9 k9=>
          ⟨λz=>(k9.fr D z).elim nD λy=>(by rw[hD3] at y;cases y),k9.out D _ nD hD3⟩
         cases ht:tst ct c t envb ck with
         |no=>rw[ht] at e3;cases e3
         | ok bb ah4=>
          rw[ht,b9] at e3;intro m5 H5 p5 k5 s5;obtain⟨nD5,hD5⟩:=ab p5 k5;have k25:=k3.trans k5;cases bb with
          |false=>
           rw[az ∅] at e3;refine b8d ⟨↥x.1-(i+1),by ac_nf,rfl,hlt,bM,ah4,m5,s5,p2.trans p5,k2.trans k25,nD5,hD5,rs2.mono p5 k25,?_⟩;rw[e3];exact q3
          | true=>
           rw[ay rfl] at e3;refine b8c ⟨envb,ah4,m5,⟨s5,er4.mono p5 k5⟩,?_⟩;cases hv:ev ct c e envb ah4 with
           |no=>rw[hv] at e3;cases e3
           | ok d6 ah6=>
            rw[hv,b9] at e3;split at e3
            · rename_i hz;intro m6 H6 v6 p6 k6 s6 r6;have k36:=k5.trans k6;obtain⟨nD6,hD6⟩:=ab (p5.trans p6) k36;have rs6:=rs2.mono (p5.trans p6) (k25.trans k6);have im6:KIm H6 (upd H6 D (.lst (ys++[v6]))):=λb o io hbo=>by
               have:b≠D:=λz=>by rw[z,hD6] at hbo;cases hbo;exact io
               rw[n0 this];exact hbo
              refine⟨hD6,by rw[rs6.len,←Q8];exact hz,↥x.1-(i+1),by ac_nf,rfl,hlt,bM++[d6],ah6,m6,?_,p2.trans (p5.trans p6),?_,nD6,i7,(rs6.snoc r6).mono' (Pre.refl m6) im6,?_⟩
              · refine⟨s6.len,s6.nd,λn a cc hn ed=>(s6.at hn ed).mono' (Pre.refl m6) im6 ?_⟩;exact n0 λz=>nD6 (by rw[←z];exact aH hn)
              · have kall:=k2.trans (k25.trans k6);refine⟨λb o io hb=>im6 b o io (kall.im b o io hb),λb o nb hb=>?_,kall.fr⟩;rw[n0 (w6 hb hD)];exact kall.out b o nb hb
              · rw[e3];exact q3
            · cases e3
     · cases e3
theorem b9j{ifs:List Expr}{js:List Nat}{it:I}{t:T}(C:Cxt X Γ G ct c Ex N sc bQ)(hi:PI X tg iter (TIv Γ Ex (evi ct c it)))(S:CompScope X.env.scope scope own frees)(hj:frees.map some=js.map (X.N[·]?))
 (hg:∀C s₀ H₀ ex,PG (v0 X own frees scope C s₀ H₀ ex) tg (TGv Γ p)) (hc:∀C s₀ H₀ ex,a7p (v0 X own frees scope C s₀ H₀ ex) ifs (TTv Γ E0 (tst ct c t))) (he:∀C s₀ H₀ ex,PE (v0 X own frees scope C s₀ H₀ ex) cM (TEv Γ E0 (ev ct c e)))
 (hs:∀x,foldedSetIterable iter X.env x=pure x) (hp:(L5 p).all (λi=>decide (i<↥own))=true):PE X (.ListComp cM [⟨tg,iter,ifs,0⟩] scope pos) (TEv Γ Ex (ev ct c (.comp p it ↥own js t e))):=by
 exact PE.imp (a6y C.calm hi S hj hg hc he hs) (a7g hp)
theorem Cxt.comp(C:Cxt X Γ G ct c Ex N sc bQ)(S:CompScope sc scope own frees)(D:Addr)(s₀:Shared)(H₀:Hp)(ex:List Addr):Cxt (v0 X own frees scope D s₀ H₀ ex) Γ G ct c E0 (own++frees) (a8y sc scope) false where
 hN:=rfl
 nd:=S.nd
 sc:=by rw[←C.sc];rfl
 calm:=C.calm
 hu:=C.hu
 K:=C.K
 fnb:=λh=>by cases h
 scal:=C.scal
 tups:=C.tups
 dicts:=C.dicts
 blt:=C.blt
 fn:=C.fn
 obj:=C.obj
 att:=C.att
theorem a8T:∀{l:List Str}{js:List Nat},b5p N l=some js->l.map some=js.map (N[·]?)
 |[],js,h=>by cases h;rfl
 |x::r,js,h=>by
  unfold b5p at h;split at h
  · rename_i i is h1 h2;cases h;rw[map_cons,map_cons,a5C h1,a8T h2]
  · cases h
theorem a0O{o:B}(h:a8g op=some o):o.cmp=some op:=by cases op<;>cases h<;>rfl
theorem b6i{op:Operator}{o:B}(h:c1q op=some o):o.bin=some op:=by cases op<;>cases h<;>rfl
theorem T9{b:Expr}(h:a1A b=true):behindInMarks op b=false:=by cases b<;>first|rfl|cases h
theorem a1d{e:Expr}{env:Env}(h:a1A e=true):∀x,foldedSetIterable e env x=pure x:=by intro x;cases e<;>first|rfl|cases h
theorem a3B{b:Expr}(h:a2V b=true):a3a b:=by intro o i;cases b<;>first|rfl|cases h
def a1W(Γ:Gm)(G:GT)(ct:CT)(c:CF)(n:Nat):Prop:=∀(X:Cx)(Ex:XK)(N:List Str)(sc:Scope)(bQ:Bool),Cxt X Γ G ct c Ex N sc bQ→
 (∀e x,cE G N sc n e=some x->Pq X Γ Ex ct c e x)/\(∀es xs,cEs G N sc n es=some xs->PA X es (TAv Γ Ex (evs ct c xs))/\es.all u7=true)∧
 (∀e t,cT G N sc n e=some t->PT X e (TTv Γ Ex (tst ct c t))/\∀op l p,e=.BoolOp op l p->PW X e (TTv Γ Ex (tst ct c t)))/\(∀o x,cO G N sc n o=some x->PO X o (TOv Γ Ex (evo ct c x)))∧
 ∀tg e it,cI G N sc n tg e=some it->PI X tg e (TIv Γ Ex (evi ct c it))
theorem b3D:a1W Γ G ct c 0:=λX Ex N sc bQ C=>
 ⟨λe x h=>absurd (show none=some x from h) ⋯,λe x h=>absurd (show none=some x from h) ⋯,λe x h=>absurd (show none=some x from h) ⋯,λe x h=>absurd (show none=some x from h) ⋯,λtg e x h=>absurd (show none=some x from h) ⋯⟩
theorem b3y(ih:a1W Γ G ct c n)(C:Cxt X Γ G ct c Ex N sc bQ):∀es xs,cEs G N sc (n+1) es=some xs->PA X es (TAv Γ Ex (evs ct c xs))/\es.all u7=true:=by
 intro es xs h;obtain⟨i1,i2,_⟩:=ih X Ex N sc bQ C;replace h:sEs G (cR G n) N sc es=some xs:=h;unfold sEs at h;split at h
 · cases h;exact⟨c1J,rfl⟩
 · obtain⟨hp,h⟩:=ifs h;split at h
   · rename_i x xs' h1 h2;cases h;obtain⟨g1,g2⟩:=i2 _ xs' h2;exact⟨b9i (i1 _ x h1) g1 (k8 hp),by rw[all_cons,hp,g2];rfl⟩
   · cases h
theorem map_some{o:Option α}{f:α->β}{b:β}(h:o.map f=some b):∃a,o=some a/\f a=b:=Option.map_eq_some_iff.mp h
theorem b6e(ih:a1W Γ G ct c n)(C:Cxt X Γ G ct c Ex N sc bQ):∀o x,cO G N sc (n+1) o=some x->PO X o (TOv Γ Ex (evo ct c x)):=by
 intro o x h;obtain⟨i1,i2,_⟩:=ih X Ex N sc bQ C;replace h:sO G (cR G n) N sc o=some x:=h;unfold sO at h;split at h
 · cases h;exact c2R
 · obtain⟨y,h1,rfl⟩:=map_some h;exact c2Q (i1 _ y h1)
theorem b6f(ih:a1W Γ G ct c n)(C:Cxt X Γ G ct c Ex N sc bQ):∀tg e it,cI G N sc (n+1) tg e=some it->PI X tg e (TIv Γ Ex (evi ct c it)):=by
 intro tg e it h;obtain⟨i1,i2,_⟩:=ih X Ex N sc bQ C;have seq:∀{e:Expr}{it:I},(cE G N sc n e).map I.seq=some it->PI X tg e (TIv Γ Ex (evi ct c it)):=by intro e it h;obtain⟨x,h1,rfl⟩:=map_some h;exact c1E C (i1 _ _ h1)
 replace h:sI G (cR G n) N sc tg e=some it:=h;unfold sI at h;split at h
 · split at h
   · rename_i hc;rw[ae,ae] at hc;obtain⟨⟨hg,hb⟩,hx⟩:=hc;have hx:=aw hx;subst hx;have hm:=C.blt _ hb;split at h
     · obtain⟨hp,h⟩:=ifs h;obtain⟨x,h1,rfl⟩:=map_some h;exact b9a C hg hm hp (i1 _ _ h1)
     · cases h
   · split at h
     · rename_i hc;rw[ae,ae] at hc;obtain⟨⟨hg,hb⟩,hx⟩:=hc;have hx:=aw hx;subst hx;have hm:=C.blt _ hb;split at h
       · obtain⟨hp,h⟩:=ifs h;obtain⟨x,h1,rfl⟩:=map_some h;exact b9e C hg hm hp (i1 _ _ h1)
       · cases h
     · split at h
       · rename_i hc;rw[ae,ae] at hc;obtain⟨⟨hg,hb⟩,hx⟩:=hc;have hx:=aw hx;subst hx;have hm:=C.blt _ hb;split at h
         · obtain⟨hp,h⟩:=ifs h;rw[ae] at hp;split at h
           · rename_i h1 h2;cases h;exact c1B C hg hm hp.1 hp.2 (i1 _ _ h1) (i1 _ _ h2)
           · cases h
         · obtain⟨hp,h⟩:=ifs h;rw[ae] at hp;split at h
           · rename_i h1 h2;cases h;exact b8Z C hg hm hp.1 hp.2 (i1 _ _ h1) (i1 _ _ h2)
           · cases h
         · cases h
       · split at h
         · rename_i hc;rw[ae,ae] at hc;obtain⟨⟨hg,hb⟩,hx⟩:=hc;have hx:=aw hx;subst hx;have hm:=C.blt _ hb;split at h
           · obtain⟨hp,h⟩:=ifs h;obtain⟨x,h1,rfl⟩:=map_some h;exact c1F C hg hm hp (i1 _ _ h1)
           · cases h
         · exact seq h
 · exact seq h
theorem c0H{a b:Expr}{x:E}(ih:a1W Γ G ct c n)(C:Cxt X Γ G ct c Ex N sc bQ)(h1:cE G N sc n a=some x){k:E->α}{y:α}(h:(match b with
       | .Name y _=>if N3 sc y then(match op,G.tups.lookup y with
         |.In,some ds=>some (k (.gin false x ds))
         |.NotIn,some ds=>some (k (.gin true x ds))
         |.In,none=>(G.dicts.lookup y).map λbC=>k (.gdin false x bC)
         |.NotIn,none=>(G.dicts.lookup y).map λbC=>k (.gdin true x bC)
         |_,_=>none) else none
       |_=>none)=some y):∃g,y=k g/\PE X (.Compare a [op] [b] pos) (TEv Γ Ex (ev ct c g))/\PT X (.Compare a [op] [b] pos) (TTv Γ Ex (tst ct c (.val g))):=by
 obtain⟨i1,i2,_⟩:=ih X Ex N sc bQ C;split at h
 · split at h
   · rename_i hg;split at h
     · rename_i ds hd;cases h;exact⟨_,rfl,b6G C (.inl ⟨rfl,rfl⟩) hg hd (i1 _ _ h1)⟩
     · rename_i ds hd;cases h;exact⟨_,rfl,b6G C (.inr ⟨rfl,rfl⟩) hg hd (i1 _ _ h1)⟩
     · obtain⟨bC,hd,rfl⟩:=map_some h;exact⟨_,rfl,b3H C (.inl ⟨rfl,rfl⟩) hg hd (i1 _ _ h1)⟩
     · obtain⟨bC,hd,rfl⟩:=map_some h;exact⟨_,rfl,b3H C (.inr ⟨rfl,rfl⟩) hg hd (i1 _ _ h1)⟩
     · cases h
   · cases h
 · cases h
theorem a8Q{b:Expr}(h:b8i b=true):∃p q,b=.Constant .none p q:=by
 cases b<;>first|(cases h;done)|skip
 rename_i k p q;cases k<;>first|(cases h;done)|exact⟨_,_,rfl⟩
theorem b1F(h:a7G op=some true):op=.Is:=by cases op<;>first|rfl|(cases h;done)
theorem b1G(h:(a7G op).isSome=true)(h':a7G op=some true->False):op=.IsNot:=by cases op<;>first|rfl|(cases h;done)|exact(h' rfl).elim
theorem b4m{b:Expr}{lo hi:Option Expr}(h:b9K b=some (lo,hi)):∃p,b=.Slice lo hi none p:=by
 cases b<;>first|(cases h;done)|skip
 rename_i a c st p;cases st<;>first|(cases h;done)|(cases h;exact⟨_,rfl⟩)
theorem b6d (ih:a1W Γ G ct c n)(C:Cxt X Γ G ct c Ex N sc bQ):∀e t,cT G N sc (n+1) e=some t->PT X e (TTv Γ Ex (tst ct c t))/\∀op l p,e=.BoolOp op l p->PW X e (TTv Γ Ex (tst ct c t)):=by
 intro e t h;obtain⟨i1,i2,i3,_⟩:=ih X Ex N sc bQ C;replace h:sT G (cR G n) N sc e=some t:=h;have dflt:∀{e:Expr},sTd G (cR G n) N sc e=some t->PT X e (TTv Γ Ex (tst ct c t))/\∀op l p,e=.BoolOp op l p->PW X e (TTv Γ Ex (tst ct c t)):=by
  intro e h;unfold sTd at h;obtain⟨hp,h⟩:=ifs h;obtain⟨y,h1,rfl⟩:=map_some h;refine⟨c1C ?_ (i1 _ y h1),λ_ _ _ z=>?_⟩
  · intro db;cases e<;>first|rfl|(cases hp;done)
  · subst z;cases hp
 unfold sT at h;split at h
 · split at h
   · obtain⟨y,h1,rfl⟩:=map_some h;exact⟨c1I (i3 _ y h1).1,λ_ _ _ z=>nomatch z⟩
   · exact dflt h
 · rename_i op l p;split at h
   · exact dflt h
   · split at h
     · rename_i a _;have g:PW X (.BoolOp op [a] p) (TTv Γ Ex (tst ct c t)):=by
        cases op
        · exact b4y (i3 _ t h).1
        · exact b7h (i3 _ t h).1
       exact⟨g.pt,λ_ _ _ _=>g⟩
     · split at h
       · split at h
         · rename_i h1 h2;cases h;have g:=c1T (i3 _ _ h1).1 ((i3 _ _ h2).2 _ _ _ rfl);exact⟨g.pt,λ_ _ _ _=>g⟩
         · cases h
       · split at h
         · rename_i h1 h2;cases h;have g:=c1H (i3 _ _ h1).1 ((i3 _ _ h2).2 _ _ _ rfl);exact⟨g.pt,λ_ _ _ _=>g⟩
         · cases h
 · split at h
   · cases h
   · split at h
     · cases h
     · split at h
       · split at h
         · unfold b9M at h;split at h
           · rename_i hc;rw[ae] at hc;obtain⟨p,q,rfl⟩:=a8Q hc.1;split at h
             · rename_i ho;cases b1F ho;obtain⟨y,h1,rfl⟩:=map_some h;exact⟨b9c (i1 _ y h1),λ_ _ _ z=>nomatch z⟩
             · rename_i ho;cases b1G hc.2 ho;obtain⟨y,h1,rfl⟩:=map_some h;exact⟨b6n (i1 _ y h1),λ_ _ _ z=>nomatch z⟩
           · obtain⟨hs,h⟩:=ifs h;split at h
             · rename_i h0 h1 h2;cases h;exact⟨b9k C.hu C.K (a0O h0) (i1 _ _ h1) (i1 _ _ h2) (T9 hs),λ_ _ _ z=>nomatch z⟩
             · rename_i h0 h1 h2;obtain⟨gg,rfl,_,g⟩:=c0H (k:=T.val) ih C h1 h;exact⟨g,λ_ _ _ z=>nomatch z⟩
             · cases h
         · cases h
       · split at h
         · cases h
         · split at h
           · rename_i ht;rw[ae] at ht;obtain⟨t1,t2⟩:=ht;cases isEmpty_iff.mp t1;cases isEmpty_iff.mp t2;unfold b9L at h;obtain⟨hs,h⟩:=ifs h;split at h
             · rename_i h0 h0' h1 h2 h3;cases h;exact⟨b9l C.hu C.K (a0O h0) (a0O h0') (i1 _ _ h1) (i1 _ _ h2) (i1 _ _ h3) (T9 hs),λ_ _ _ z=>nomatch z⟩
             · cases h
           · cases h
 · exact dflt h
end
variable{x:Str}
section
variable{X:Cx}{Γ:Gm}{G:GT}{ct:CT}{c:CF}{Ex:XK}{N:List Str}{sc:Scope}{bQ:Bool}
theorem a8o{l:List Expr}{a b:Expr}(h:b3Q l=some (a,b)):l=[a,b]:=by
 unfold b3Q at h;split at h
 · cases h
 · split at h
   · cases h
   · obtain⟨e,h⟩:=ifs h;cases isEmpty_iff.mp e;cases h;rfl
theorem b5b{e:Expr}(h:b7P e=some x):∃p,e=.Name x p:=by
 unfold b7P at h;split at h
 · cases h;exact⟨_,rfl⟩
 · cases h
theorem a2B{ifs:List Expr}{x:E}(ih:a1W Γ G ct c n)(C:Cxt X Γ G ct c Ex N sc bQ)(h:sLc G (cR G n) N sc cM tg iter ifs scope=some x):
 ∃p it js t y,x=.comp p it ↥(v5 8 tg) js t y/\PI X tg iter (TIv Γ Ex (evi ct c it))/\CompScope X.env.scope scope (v5 8 tg) (E7 scope)/\(E7 scope).map some=js.map (X.N[·]?)∧
  (∀D s₀ H₀ ex,PG (v0 X (v5 8 tg) (E7 scope) scope D s₀ H₀ ex) tg (TGv Γ p))/\(∀D s₀ H₀ ex,a7p (v0 X (v5 8 tg) (E7 scope) scope D s₀ H₀ ex) ifs (TTv Γ E0 (tst ct c t)))/\(∀D s₀ H₀ ex,PE (v0 X (v5 8 tg) (E7 scope) scope D s₀ H₀ ex) cM (TEv Γ E0 (ev ct c y)))∧
  (∀v,foldedSetIterable iter X.env v=pure v)/\(L5 p).all (λi=>decide (i<↥(v5 8 tg)))=true:=by
 obtain⟨i1,i2,i3,i4,i5⟩:=ih X Ex N sc bQ C;unfold sLc at h;split at h
 · rename_i it em;split at h
   · rename_i js hjs;split at h
     · rename_i hc;rw[ae] at hc;have S0:CompScope sc scope (v5 8 tg) (E7 scope):=c1i hc.1;have S:CompScope X.env.scope scope (v5 8 tg) (E7 scope):=by rw[C.sc];exact S0
       have hj:(E7 scope).map some=js.map (X.N[·]?):=by rw[C.hN];exact a8T hjs
       split at h
       · rename_i p y hp hy;split at h
         · rename_i hall;have pg:∀D s₀ H₀ ex,PG (v0 X (v5 8 tg) (E7 scope) scope D s₀ H₀ ex) tg (TGv Γ p):=λD s₀ H₀ ex=>((b3G (C.comp S0 D s₀ H₀ ex) 8).1 tg p hp).1;have pe:∀D s₀ H₀ ex,PE (v0 X (v5 8 tg) (E7 scope) scope D s₀ H₀ ex) cM (TEv Γ E0 (ev ct c y)):=λD s₀ H₀ ex=>(ih _ _ _ _ _ (C.comp S0 D s₀ H₀ ex)).1 cM y hy;split at h
           · cases h;refine⟨p,it,js,.yes,y,rfl,i5 _ _ _ em,S,hj,pg,λD s₀ H₀ ex=>?_,pe,a1d hc.2,hall⟩;intro bB s σ H Q I q;refine b7p bB s σ H Q I ?_;obtain⟨env,ah,m,rl,q⟩:=q;exact q.ok rl.sim
           · obtain⟨z,h1,rfl⟩:=map_some h;exact⟨p,it,js,z,y,rfl,i5 _ _ _ em,S,hj,pg,λD s₀ H₀ ex=>b4F ((ih _ _ _ _ _ (C.comp S0 D s₀ H₀ ex)).2.2.1 _ z h1).1,pe,a1d hc.2,hall⟩
           · cases h
         · cases h
       · cases h
     · cases h
   · cases h
 · cases h
theorem b6g (ih:a1W Γ G ct c n)(C:Cxt X Γ G ct c Ex N sc bQ):∀e x,cE G N sc (n+1) e=some x->Pq X Γ Ex ct c e x:=by
 intro e x h;obtain⟨i1,i2,i3,i4,i5⟩:=ih X Ex N sc bQ C;replace h:sE G (cR G n) N sc e=some x:=h;unfold sE at h;split at h
 · unfold b9P at h;split at h
   · cases h;exact a_k (dd:=.int _) b1x (λ_ _=>rfl) c ct
   · cases h;exact a_k (dd:=.str _) b1u (λ_ _=>rfl) c ct
   · cases h;exact a_k (dd:=.bl _) c0e (λ_ _=>rfl) c ct
   · cases h;exact a_k (dd:=.non) b7z (λ_ _=>rfl) c ct
   · cases h
 · -- Name
   split at h
   · rename_i i hs;cases h;unfold slot at hs;obtain⟨hv,hs⟩:=ifs hs;rw[ae,ae] at hv;exact a_v (by rw[C.hN];exact a5C hs) (C.vis hv.1.1) (beq_eq_false_iff_ne.mpr (aw hv.1.2)) (beq_eq_false_iff_ne.mpr (aw hv.2)) c ct
   · obtain⟨hg,h⟩:=ifs h;obtain⟨d,h1,rfl⟩:=map_some h;obtain⟨u,v,s1,s2,s3⟩:=C.scal _ d h1;exact a_k (a2R (C.gl hg) s1 s2 (a0m hg).2.1) s3 c ct
 · split at h
   · rename_i h0 h1 h2;cases h;exact c1R (b6i h0) (i1 _ _ h1) (i1 _ _ h2)
   · cases h
 · unfold sUn at h;split at h
   · obtain⟨y,h1,rfl⟩:=map_some h;exact c1K (i1 _ y h1)
   · obtain⟨y,h1,rfl⟩:=map_some h;exact c2S (i1 _ y h1)
   · cases h
 · unfold sBo at h;split at h
   · cases h
   · split at h
     · exact b7x (i1 _ x h)
     · split at h
       · split at h
         · rename_i h1 h2;cases h;exact c2X (i1 _ _ h1) (i1 _ _ h2)
         · cases h
       · split at h
         · rename_i h1 h2;cases h;exact c1G (i1 _ _ h1) (i1 _ _ h2)
         · cases h
 · split at h
   · cases h
   · split at h
     · cases h
     · split at h
       · split at h
         · unfold b9R at h;split at h
           · rename_i hc;rw[ae] at hc;obtain⟨p,q,rfl⟩:=a8Q hc.1;split at h
             · rename_i ho;cases b1F ho;obtain⟨y,h1,rfl⟩:=map_some h;exact c1M (i1 _ y h1)
             · rename_i ho;cases b1G hc.2 ho;obtain⟨y,h1,rfl⟩:=map_some h;exact b9b (i1 _ y h1)
           · obtain⟨hs,h⟩:=ifs h;split at h
             · rename_i h0 h1 h2;cases h;exact c1P C.hu C.K (a0O h0) (i1 _ _ h1) (i1 _ _ h2) (T9 hs)
             · rename_i h0 h1 h2;obtain⟨gg,rfl,g,_⟩:=c0H (k:=λg=>g) ih C h1 h;exact g
             · cases h
         · cases h
       · split at h
         · cases h
         · split at h
           · rename_i ht;rw[ae] at ht;obtain⟨t1,t2⟩:=ht;cases isEmpty_iff.mp t1;cases isEmpty_iff.mp t2;unfold b9Q at h;obtain⟨hs,h⟩:=ifs h;split at h
             · rename_i h0 h0' h1 h2 h3;cases h;exact c1Q C.hu C.K (a0O h0) (a0O h0') (i1 _ _ h1) (i1 _ _ h2) (i1 _ _ h3) (T9 hs)
             · cases h
           · cases h
 · rename_i z1 z2 z3 z4 z5 z6;clear z1 z2 z3 z4 z5 z6;unfold sE2 at h;split at h
   · unfold sSl at h;split at h
     · rename_i hs0;obtain⟨q,rfl⟩:=b4m hs0;split at h
       · rename_i h1 h2 h3;cases h;exact c2P C.K (i1 _ _ h1) (i4 _ _ h2) (i4 _ _ h3)
       · cases h
     · obtain⟨hs,h⟩:=ifs h;split at h
       · rename_i h1 h2;cases h;exact c2V C.hu C.K (i1 _ _ h1) (i1 _ _ h2) (a3B hs)
       · rename_i h1 h2;split at h
         · obtain⟨hg,h⟩:=ifs h;obtain⟨bC,hd,rfl⟩:=map_some h;exact b9d C hg hd (i1 _ _ h2) (a3B hs)
         · cases h
       · cases h
   · obtain⟨hb,h⟩:=ifs h;rw[ae] at hb;obtain⟨y,h1,rfl⟩:=map_some h;exact c1O C hb.1 hb.2 (i1 _ y h1)
   · obtain⟨y,h1,rfl⟩:=map_some h;exact c1L (i2 _ y h1).1
   · obtain⟨y,h1,rfl⟩:=map_some h;exact c1D (i2 _ y h1).1
   · split at h
     · split at h
       · cases h;exact b9f
       · cases h
     · obtain⟨bC,h1,h⟩:=Option.bind_eq_some_iff.mp h;obtain⟨hk,h⟩:=ifs h;cases h;exact b9g (cons_ne_nil _ _) h1 hk
   · rename_i f as ks bW;split at h
     · rename_i hk0;cases isEmpty_iff.mp hk0;split at h
       · rename_i nm np0;unfold sCn at h;split at h
         · rename_i hg;split at h
           · rename_i f np hf;obtain⟨hl,h⟩:=ifs h;obtain⟨y,h1,rfl⟩:=map_some h;obtain⟨g1,g2⟩:=i2 _ y h1;rw[ae] at hl;have eZ:=aw hl.2;cases as with
             |nil=>exact absurd rfl eZ
             |cons a r=>exact b9m C hf hg g2 g1
           · split at h
             · rename_i k hk;obtain⟨he,h⟩:=ifs h;cases h;subst he;exact c2U C hk hg
             · split at h
               · rename_i hb;have hm:=C.blt _ hb;split at h
                 · rename_i hx;subst hx;split at h
                   · rename_i h2;cases a8o h2;split at h
                     · rename_i hy;obtain⟨pp,rfl⟩:=b5b hy;obtain⟨hq,h⟩:=ifs h;rw[ae,ae] at hq;obtain⟨hp,q3,q4⟩:=hq;split at h
                       · rename_i hk;obtain⟨y,h1,rfl⟩:=map_some h;exact c1N hk C hg hm q3 (C.blt _ q4) hp (i1 _ y h1)
                       · cases h
                     · cases h
                   · cases h
                 · split at h
                   · rename_i b hbi;obtain⟨eZ,h⟩:=ifs h;obtain⟨y,h1,rfl⟩:=map_some h;obtain⟨g1,g2⟩:=i2 _ y h1;cases as with
                     |nil=>exact absurd rfl eZ
                     |cons a r=>exact c2W C hbi hg hm g2 g1
                   · cases h
               · cases h
         · cases h
       · rename_i o mm cu;unfold sCa at h;split at h
         · rename_i hc;rw[ae,ae] at hc;obtain⟨⟨c1,c2⟩,c3⟩:=hc;cases aw c3;unfold b9O at h;split at h
           · rename_i h2;cases a8o h2;obtain⟨hp,h⟩:=ifs h;rw[ae] at hp;split at h
             · rename_i h3 h4 h5;cases h;exact b9h C c1 c2 hp.1 hp.2 (i1 _ _ h3) (i1 _ _ h4) (i1 _ _ h5)
             · cases h
           · cases h
         obtain⟨hc,h⟩:=ifs h;rw[ae,ae,ae] at hc;obtain⟨⟨⟨c1,c2⟩,c3⟩,c4⟩:=hc;have c3:=aw c3;have c4:=aw c4;split at h
         · rename_i h0 h1 h2;cases h;obtain⟨g1,g2⟩:=i2 _ _ h2;cases as with
           |nil=>exact absurd rfl c4
           |cons a r=>exact c2T C h0 c1 c2 c3 g2 (i1 _ _ h1) g1
         · cases h
       · cases h
     · cases h
   · split at h
     · cases h
     · rename_i g t;obtain⟨hg0,h⟩:=ifs h;rw[ae] at hg0;obtain⟨tg,iter,ifs,a⟩:=g;cases isEmpty_iff.mp hg0.1;have ha:a=0:=aw hg0.2;subst ha;obtain⟨p,it,js,t,y,rfl,j1,j2,j3,j4,j5,j6,j7,j8⟩:=a2B ih C h;exact b9j C j1 j2 j3 j4 j5 j6 j7 j8
   · cases h
theorem a1r:∀n,a1W Γ G ct c n
 |0=>b3D
 |n+1=>λX Ex N sc bQ C=>⟨b6g (a1r n) C,b3y (a1r n) C,b6d (a1r n) C,b6e (a1r n) C,b6f (a1r n) C⟩
end
def SQ(D:Ends):Out->AH->List Addr->Hp->Prop:=λo _ m1 H1=>match o with
 |.nx bF=>∀bO,EnvRel m1 H1 bF bO->D.nx bO H1
 |.rt d=>∀v,Rp m1 H1 d v->D.rt v H1
def TSv(Γ:Gm)(E:XK)(f:o8->AH->R Out):TS:=λD σ H=>∃env ah m,Rel Γ env ah σ H m/\k7 Γ E m H (f env ah) (SQ D)
variable{st:Stmt}{tt:Expr}{f:Str}
section
variable{X:Cx}{Γ:Gm}{G:GT}{ct:CT}{c:CF}{Ex:XK}{N:List Str}{sc:Scope}{e a b:Expr}{p':Pos}{x y z:E}{i:Nat}
theorem a1t{e:Expr}{t:Option Expr}{l:Nat}{env:Env}(h:V0 e=true):swapsWith e t l env=pure false:=by cases e<;>first|rfl|cases h
theorem c1v{n:Str}(C:Cxt X Γ G ct c Ex N sc true)(hs:a3o true N sc n=some i)(hw:V0 e=true)(he:Pq X Γ Ex ct c e x):PS X (.Assign [.Name n p'] e pos) (TSv Γ Ex (ex ct c (.set i x))):=by obtain⟨h1,h2,h3⟩:=a3n C hs;refine PS.imp (b1l (by rw[C.hN];exact C.nd) h1 h2 he (a1t hw) h3) ?_;rintro D σ H ⟨env,ah,m,rl,q⟩;refine⟨env,ah,m,rl,k7.first rl q λd1 bI m1 H1 v1 p1 k1 bK r1 q1=>?_⟩;exact q1.ok bK.sim _ (bK.env.set r1)
theorem b8V{n:Str}{k:Nat}{ifs:List Expr}{bW:Pos}(C:Cxt X Γ G ct c Ex N sc true)(hs:a3o true N sc n=some i)(h:cE G N sc (k+1) (.ListComp cM [⟨tg,iter,ifs,0⟩] scope bW)=some x):PS X (.Assign [.Name n p'] (.ListComp cM [⟨tg,iter,ifs,0⟩] scope bW) pos) (TSv Γ Ex (ex ct c (.set i x))):=by obtain⟨h1,h2,h3⟩:=a3n C hs;obtain⟨p,it,js,t,y,rfl,j1,j2,j3,j4,j5,j6,j7,j8⟩:=a2B (a1r k) C (show sLc G (cR G k) N sc cM tg iter ifs scope=some x from h);refine PS.imp (b4B C.calm j1 j2 j3 j4 j5 j6 j7 (by rw[C.hN];exact C.nd) h1 h2 h3) ?_;rintro D σ H ⟨env,ah,m,rl,q⟩;refine a7g j8 σ H _ ⟨env,ah,m,rl,k7.first rl q λd1 bI m1 H1 v1 p1 k1 bK r1 q1=>?_⟩;exact q1.ok bK.sim _ (bK.env.set r1)
theorem c2N(hw:V0 e=true)(he:Pq X Γ Ex ct c e x):PS X (.Expr e pos) (TSv Γ Ex (ex ct c (.ex x))):=by refine PS.imp (b4A he (a1t hw)) ?_;rintro D σ H ⟨env,ah,m,rl,q⟩;refine⟨env,ah,m,rl,k7.first rl q λd1 bI m1 H1 v1 p1 k1 bK r1 q1=>?_⟩;exact q1.ok bK.sim _ bK.env
theorem c1w(he:Pq X Γ Ex ct c e x):PS X (.Return (some e) pos) (TSv Γ Ex (ex ct c (.ret x))):=by refine PS.imp (b7l he) ?_;rintro D σ H ⟨env,ah,m,rl,q⟩;refine⟨env,ah,m,rl,k7.first rl q λd1 bI m1 H1 v1 p1 k1 bK r1 q1=>?_⟩;exact q1.ok bK.sim _ r1
theorem c1A:PS X st (TSv Γ Ex (ex ct c .bad)):=by rintro bB s σ H D I ⟨env,ah,m,rl,q⟩;exact q.elim
variable{t:T}{as bs:List Stmt}{sa sb:Ss}
theorem c1y:PSs X [] (TSv Γ Ex (exs ct c .nil)):=by refine PSs.imp b4z ?_;rintro D σ H ⟨env,ah,m,rl,q⟩;exact q.ok rl.sim σ rl.env
theorem b8X{s:S}(h1:PS X st (TSv Γ Ex (ex ct c s)))(h2:PSs X as (TSv Γ Ex (exs ct c sa))):PSs X (st::as) (TSv Γ Ex (exs ct c (.cons s sa))):=by
 refine PSs.imp (b1j h1 h2) ?_;rintro D σ H ⟨env,ah,m,rl,q⟩;refine⟨env,ah,m,rl,q.bind.mp λo bI m1 H1 p1 k1 s1 q1=>?_⟩;cases o with
 |nx bF=>exact λbO er=>⟨bF,bI,m1,⟨s1,er⟩,q1⟩
 |rt d=>exact q1.ok s1
theorem c2M(hc:PT X tt (TTv Γ Ex (tst ct c t)))(ha:PSs X as (TSv Γ Ex (exs ct c sa)))(hb:PSs X bs (TSv Γ Ex (exs ct c sb))):PS X (.If tt as bs pos) (TSv Γ Ex (ex ct c (.iff t sa sb))):=by
 refine PS.imp (c0a hc ha hb) ?_;rintro D σ H ⟨env,ah,m,rl,q⟩;refine⟨env,ah,m,rl,q.bind.mp λk bI m1 H1 p1 k1 s1 q1=>?_⟩;cases k with
 |true=>exact b8c ⟨env,bI,m1,rl.on p1 k1 s1,q1⟩
 |false=>exact b8d ⟨env,bI,m1,rl.on p1 k1 s1,q1⟩
theorem c1z{it:Expr}{ii:I}(C:Cxt X Γ G ct c Ex N sc true)(own:PassesOwn (model X.prog X.w) X.A X.env X.xe)(hi:PI X tg it (TIv Γ Ex (evi ct c ii)))(hg:PG X tg (TGv Γ p))(hb:PSs X bs (TSv Γ Ex (exs ct c sb)))(hs:a1A it=true):
 PS X (.For tg it bs [] pos) (TSv Γ Ex (ex ct c (.for p ii sb))):=by
 refine PS.imp (b7m own C.calm hi hg hb (a1d hs)) ?_;rintro D σ H ⟨env,ah,m,rl,q⟩;refine⟨env,ah,m,rl,q.bind.mp λx bI m1 H1 p1 k1 s1 q1=>λ_ J hJ=>?_⟩;refine⟨λi mm σ H2=>mm=↥x.1-i/\i<=↥x.1/\∃env ck m2,Rel Γ env ck σ H2 m2/\Pre m1 m2/\Keep m1 m2 H1 H2/\k7 Γ Ex m2 H2 (G0 x.2 p (exs ct c sb) (x.1.drop i) env ck) (SQ D),?_,?_⟩
 · exact⟨_,rfl,gd _,env,bI,m1,rl.on p1 k1 s1,Pre.refl _,Keep.refl _ _,q1⟩
 · rintro i mm σ H2 ⟨hmm,hil,env,ck,m2,cG,p2,k2,q2⟩
   by_cases dj:i=↥x.1
   · refine .inl ?_;rw[dj,drop_length] at q2;unfold G0 at q2;split at q2
     · rename_i hgk;exact⟨(hJ i ck m2 H2 p2 k2 cG.sim hgk).1 dj,q2.ok cG.sim σ cG.env⟩
     · exact q2.elim
   · refine .inr ?_;have hlt:i<↥x.1:=Nat.lt_of_le_of_ne hil dj;have hdi:x.1[i]? =some x.1[i]:=ai hlt;rw[drop_eq_getElem_cons hlt] at q2;generalize x.1[i]=dd at q2 hdi;unfold G0 at q2;split at q2
     · rename_i hgk;obtain⟨go,yl⟩:=(hJ i ck m2 H2 p2 k2 cG.sim hgk).2 dd hdi;refine⟨go,λbO H'=>∃m',m'<mm/\(m'=↥x.1-(i+1)/\i+1<=↥x.1/\∃env ck m2,Rel Γ env ck bO H' m2/\Pre m1 m2/\Keep m1 m2 H1 H'/\k7 Γ Ex m2 H' (G0 x.2 p (exs ct c sb) (x.1.drop (i+1)) env ck) (SQ D)),λbO H' h=>h,λv H3 hy=>?_⟩;obtain⟨k3,s3,r3⟩:=yl v H3 hy;split at q2
       · exact q2.elim
       · rename_i envb hb;refine⟨env,dd,m2,envb,cG.env.mono (Pre.refl m2) k3,r3,hb,λσ4 er4 l4 s4=>⟨envb,ck,m2,⟨s3,er4⟩,?_⟩⟩;refine(q2.later (Pre.refl m2) k3).bind.mp λo ah5 m5 H5 p5 k5 s5 q5=>?_;cases o with
         |nx bF=>exact λbO er'=>⟨_,by ac_nf,rfl,hlt,bF,ah5,m5,⟨s5,er'⟩,p2.trans p5,k2.trans (k3.trans k5),q5⟩
         |rt d=>exact q5.ok s5
     · exact q2.elim
theorem c1s(own:PassesOwn (model X.prog X.w) X.A X.env X.xe)(hc:PT X tt (TTv Γ Ex (tst ct c t)))(hb:PSs X bs (TSv Γ Ex (exs ct c sb))):PS X (.While tt bs [] pos) (TSv Γ Ex (ex ct c (.whl t sb))):=by
 refine PS.imp (b1k own hc hb) ?_;rintro D σ H ⟨env,ah,m,rl,q⟩;refine⟨λn σ H2=>∃env ck m2,Rel Γ env ck σ H2 m2/\k7 Γ Ex m2 H2 (a4e (tst ct c t) (exs ct c sb) n env ck) (SQ D),⟨_,env,ah,m,rl,q⟩,?_⟩;rintro n σ H2 ⟨env,ck,m2,cG,q2⟩;cases n with
 |zero=>exact q2.elim
 | succ n=>
  unfold a4e at q2;refine⟨env,ck,m2,cG,q2.bind.mp λk fh m3 H3 p3 k3 s3 q3=>?_⟩;have eI:=cG.on p3 k3 s3;cases k with
  |false=>exact b8d (k7.ok q3 s3 σ eI.env)
  |true=>
   refine b8c ⟨λbO H'=>∃m',m'<n+1/\∃env ck m2,Rel Γ env ck bO H' m2/\k7 Γ Ex m2 H' (a4e (tst ct c t) (exs ct c sb) m' env ck) (SQ D),λbO H' h=>h,env,fh,m3,eI,?_⟩;refine k7.mp (k7.bind q3) λo ah5 m5 H5 p5 k5 s5 q5=>?_;cases o with
   |nx bF=>exact λbO er'=>⟨n,aT n,bF,ah5,m5,⟨s5,er'⟩,q5⟩
   |rt d=>exact q5.ok s5
theorem c1x{pt:Pat}(hg:PG X tg (TGv Γ pt))(hv:Pq X Γ Ex ct c e z)(hs:b6w e=true)(ht:(assignEach [tg] X.env).map (·.2)=[assign tg X.env])(hw:swappedStores [tg] e X.env=pure none):PS X (.Assign [tg] e pos) (TSv Γ Ex (ex ct c (.pat pt z))):=by
 refine PS.imp (b1m hv hg (show swapsWith e (some tg) pos.line X.env=pure false from a1t (by cases e<;>first|rfl|cases hs)) hw ht) ?_;rintro D σ H ⟨env,ah,m,rl,q⟩;refine⟨env,ah,m,rl,k7.first rl q λd1 bI m1 H1 v1 p1 k1 bK r1 q1=>?_⟩;split at q1
 · rename_i bF hb;exact⟨env,d1,m1,bF,bK.env,r1,hb,λbO er _ _=>q1.ok bK.sim bO er⟩
 · exact q1.elim
theorem c1t{o k:Expr}(C:Cxt X Γ G ct c Ex N sc true)(ho:Pq X Γ Ex ct c o x)(hk:Pq X Γ Ex ct c k y)(hv:Pq X Γ Ex ct c e z)(hw:V0 e=true)(hns:a2V k=true):PS X (.Assign [.Subscript o k p'] e pos) (TSv Γ Ex (ex ct c (.six x y z))):=by have hg:PG X (.Subscript o k p') (c0J (TEv Γ Ex (ev ct c x)) (TEv Γ Ex (ev ct c y)) _):=b7u ho hk (c2h (Γ:=Γ) (E:=Ex) C.hu) (by intro v;cases k<;>first|rfl|cases hns);refine PS.imp (b1m hv hg (show swapsWith e (some (.Subscript o k p')) pos.line X.env=pure false from a1t hw) (by cases e<;>rfl) rfl) ?_;rintro D σ H ⟨env,ah,m,rl,q⟩;refine⟨env,ah,m,rl,k7.first rl q λd1 bI m1 H1 v1 p1 k1 bK r1 q1=>?_⟩;refine⟨env,bI,m1,bK,k7.first bK q1 λd2 ck m2 H2 v2 p2 k2 cG r2 q2=>?_⟩;refine⟨env,ck,m2,cG,k7.first cG q2 λd3 fh m3 H3 v3 p3 k3 eI r3 q3=>?_⟩;refine⟨d2,d3,d1,fh,m3,eI.sim,r2.mono p3 k3,r3,r1.mono (p2.trans p3) (k2.trans k3),q3.bind.mp λ_ ah4 m4 H4 p4 k4 s4 q4=>?_⟩;exact q4.ok s4 σ (eI.env.mono p4 k4)
theorem c1u{o:Expr}(C:Cxt X Γ G ct c Ex N sc true)(ho:Pq X Γ Ex ct c o x)(hv:Pq X Γ Ex ct c e z)(hw:V0 e=true)(hf:G.atts.contains f=true):PS X (.Assign [.Attribute o f p'] e pos) (TSv Γ Ex (ex ct c (.sfl x f z))):=by
 refine PS.imp (b7n ho hv (a1t hw)) ?_;rintro D σ H ⟨env,ah,m,rl,q⟩;refine⟨env,ah,m,rl,k7.first rl q λd1 bI m1 H1 v1 p1 k1 bK r1 q1=>?_⟩;refine⟨env,bI,m1,bK,k7.first bK q1 λd2 ck m2 H2 v2 p2 k2 cG r2 q2=>?_⟩;unfold a5e at q2;split at q2
 · split at q2
   · rename_i k fs e2;split at q2
     · rename_i hl;obtain⟨ad,rfl,hm⟩:=r2;obtain⟨dx,gs,g1,g2,g3⟩:=cG.sim.at hm e2;obtain⟨a1,a2⟩:=C.att k g3;have kp:Keep m2 m2 H2 (upd H2 ad (.ins (Γ.cA k) dx (X3 f v1 gs))):=Keep.put hm g1 λz=>z;refine⟨ad,Γ.cA k,dx,gs,rfl,g1,a1,a2 f hf,by rw[←Paired.length g2];exact hl,?_⟩;have s3:=cG.sim.write (c:=.obj k (a4x f d1 fs)) hm g1 (λz=>z) ⟨dx,_,i7,(Fl.put (r1.mono p2 k2) g2).mono (Pre.refl m2) kp.im,g3⟩;exact k7.ok (k7.later q2 (Pre.refl m2) kp) s3 σ (cG.env.mono (Pre.refl m2) kp)
     · exact q2.elim
   · exact q2.elim
 · exact q2.elim
end
structure Cxs(X:Cx)(Γ:Gm)(G:GT)(ct:CT)(c:CF)(Ex:XK)(N:List Str)(sc1:Scope):Prop extends Cxt X Γ G ct c Ex N sc1 true where
 own:PassesOwn (model X.prog X.w) X.A X.env X.xe
section
variable{X:Cx}{Γ:Gm}{G:GT}{ct:CT}{c:CF}{Ex:XK}{N:List Str}{sc:Scope}
theorem b5j{k:Nat}{gens:List Comprehension}{y:E}(h:cE G N sc (k+1) (.ListComp cM gens scope pos)=some y):∃tg iter ifs,gens=[⟨tg,iter,ifs,0⟩]:=by
 cases gens with
 |nil=>exact absurd (show none=some y from h) ⋯
 |cons g t=>
  replace h:(if t.isEmpty&&decide (g.is_async=0) then sLc G (cR G k) N sc cM g.target g.iter g.ifs scope else none)=some y:=h;obtain⟨hg,h⟩:=ifs h;rw[ae] at hg;obtain⟨tg,iter,ifs,a⟩:=g;cases isEmpty_iff.mp hg.1;have ha:a=0:=aw hg.2;subst ha;exact⟨_,_,_,rfl⟩
theorem b9N(C:Cxs X Γ G ct c Ex N sc){r:List Stmt->Option Ss}(hr:∀l ss,r l=some ss->PSs X l (TSv Γ Ex (exs ct c ss))):∀st s,sS G N sc r st=some s->PS X st (TSv Γ Ex (ex ct c s)):=by
 intro st s h;obtain⟨i1,i2,i3,i4,i5⟩:=a1r 40 X Ex N sc true C.toCxt;unfold sS at h;split at h
 · rename_i tgs e pe;split at h
   · cases h
   · split at h
     · rename_i hu;cases isEmpty_iff.mp hu;unfold sAs at h;split at h
       · rename_i x px;split at h
         · rename_i i y h1 h2;obtain⟨hw,h⟩:=ifs h;cases h
           by_cases hn:V0 e=true
           · exact c1v C.toCxt h1 hn (i1 _ _ h2)
           · rw[bp] at hw;have hl:c0t e=true:=hw.resolve_left hn;cases e<;>first|(cases hl;done)|skip
             obtain⟨tg,iter,ifs,rfl⟩:=b5j h2;exact b8V C.toCxt h1 h2
         · cases h
       · split at h
         · rename_i h1 h2 h3;obtain⟨hw,h⟩:=ifs h;cases h;rw[ae] at hw;exact c1t C.toCxt (i1 _ _ h1) (i1 _ _ h2) (i1 _ _ h3) hw.1 hw.2
         · cases h
       · split at h
         · rename_i h1 h2;obtain⟨hw,h⟩:=ifs h;cases h;rw[ae] at hw;exact c1u C.toCxt (i1 _ _ h1) (i1 _ _ h2) hw.1 hw.2
         · cases h
       · split at h
         · rename_i h1 h2;obtain⟨hw,h⟩:=ifs h;cases h;exact c1x ((b3G C.toCxt 8).1 _ _ h1).1 (i1 _ _ h2) hw rfl (by cases e<;>first|rfl|cases hw)
         · cases h
       · cases h
     · cases h
 · obtain⟨hw,h⟩:=ifs h;obtain⟨y,h1,rfl⟩:=map_some h;exact c2N hw (i1 _ _ h1)
 · split at h
   · obtain⟨y,h1,rfl⟩:=map_some h;exact c1w (i1 _ _ h1)
   · cases h
 · split at h
   · rename_i h1 h2 h3;cases h;exact c2M (i3 _ _ h1).1 (hr _ _ h2) (hr _ _ h3)
   · cases h
 · split at h
   · rename_i hel;cases isEmpty_iff.mp hel;split at h
     · rename_i h1 h2 h3;obtain⟨hs,h⟩:=ifs h;cases h;exact c1z C.toCxt C.own (i5 _ _ _ h2) ((b3G C.toCxt 8).1 _ _ h1).1 (hr _ _ h3) hs
     · cases h
   · cases h
 · split at h
   · rename_i hel;cases isEmpty_iff.mp hel;split at h
     · rename_i h1 h2;cases h;exact c1s C.own (i3 _ _ h1).1 (hr _ _ h2)
     · cases h
   · cases h
 · cases h;exact c1A
 · cases h
theorem b0P(C:Cxs X Γ G ct c Ex N sc){r:List Stmt->Option Ss}(hr:∀l ss,r l=some ss->PSs X l (TSv Γ Ex (exs ct c ss))):∀l ss,sSs G N sc r l=some ss->PSs X l (TSv Γ Ex (exs ct c ss))
 |[],ss,h=>by unfold sSs at h;cases h;exact c1y
 |st::l,ss,h=>by
  unfold sSs at h;split at h
  · rename_i h1 h2;cases h;exact b8X (b9N C hr _ _ h1) (b0P C hr l _ h2)
  · cases h
theorem b3x(C:Cxs X Γ G ct c Ex N sc):∀n l ss,cSs G N sc n l=some ss->PSs X l (TSv Γ Ex (exs ct c ss))
 |0,l,ss,h=>absurd (show none=some ss from h) ⋯
 |n+1,l,ss,h=>b0P C (b3x C n) l ss h
end
structure RowOk(K:Frag)(G:GT)(F:Nat->Option Fn)(x qual:Str)(id np0:Nat)(f:Addr)(fd:FuncData)(st:Stmt)(N ps:List Str):Prop where
 fn:Fun K x qual st f fd
 sc:FnScope N ps (v7 st)
 bd:U7 K fd ps []
 np:↥ps=np0
 F:∃fn,F id=some fn/\fn.np=np0/\fn.ns=↥N/\cSs G N (v7 st) 20 (O3 st)=some fn.body
structure Stat(P:Program)(w:World)(Γ:Gm)(G:GT)(ct:CT)(F:Nat->Option Fn)(mg:Str->Option Value):Prop where
 scal:∀x d,G.scal.lookup x=some d->∃u v,mg x=some u/\m8 v u/\∀m H,Rp m H d v
 tups:∀x ds,G.tups.lookup x=some ds->∃a vs,mg x= ~~~a/\(∀H,SqT Γ.K H a vs)/\∀m H,Rps m H ds vs
 dicts:∀x bC,G.dicts.lookup x=some bC->∃a gs,mg x= ~~~a/\b0p P w Γ.K a gs/\∀m H,DK m H bC gs
 blt:∀x,G.blt.contains x=true->mg x=none
 fn:∀x id np,G.fn.lookup x=some (id,np)->∃f fd st N ps,mg x= ~~~f/\RowOk Γ.K G F x x id np f fd st N ps
 obj:∀x k,G.obj.lookup x=some k->k∈Γ.ob/\mg x=some (.ref (Γ.cA k))/\∃f fd st N ps qual,Mk Γ.K (Γ.cA k) f/\RowOk Γ.K G F "__init__" qual (ct.init k) 1 f fd st N ps
 att:∀k,k∈Γ.ob->Cls Γ.K (Γ.cA k)/\∀f,G.atts.contains f=true->a0F Γ.K (Γ.cA k) f
variable{ds:List D}{np:Nat}{m':List Addr}{H':Hp}{id:Nat}
section
variable{P:Program}{w:World}{Γ:Gm}{G:GT}{ct:CT}{F:Nat->Option Fn}{mg:Str->Option Value}
theorem b0f{N:List Str}{ns:Nat}(rs:Rps m H ds vs)(hn:ns=↥N)(hd:↥ds=np):EnvRel m H (ds.map some++List.replicate (ns-np) none) (L2.a1u N vs):=by
 unfold L2.a1u;refine⟨by simp[rs.len,hn,hd],λi d e=>?_⟩
 by_cases hi:i<↥ds
 · rw[av (by simpa using hi),ak] at e;rw[av (by simpa [rs.len] using hi),ak];cases eQ:ds[i]? with
   |none=>rw[eQ] at e;cases e
   |some d'=>
    rw[eQ] at e;cases e;obtain⟨v,h1,h2⟩:=rs.get eQ;exact⟨v,by rw[h1];rfl,h2⟩
 · rw[au (by simpa using hi),bA] at e;split at e<;>cases e
def c0f:R Out->R D
 |.ok (.nx _) h=>.ok .non h
 |.ok (.rt d) h=>.ok d h
 |.no=>.no
theorem a3U(n:Nat)(f:Nat)(ds:List D)(h:AH):b5 ct F (n+1) f ds h=match F f with
 |none=>.no
 |some fd=>if ↥ds=fd.np then gcR fd.gc h (c0f (exs ct (b5 ct F n) fd.body (ds.map some++List.replicate (fd.ns-fd.np) none) h)) else .no:=by
 show(match F f with
  |none=>R.no
  |some fd=>if ↥ds=fd.np then gcR fd.gc h (match exs ct (b5 ct F n) fd.body (ds.map some++List.replicate (fd.ns-fd.np) none) h with
   |.ok (.nx _) h'=>.ok .non h'
   |.ok (.rt d) h'=>.ok d h'
   |.no=>.no) else .no)=_
 cases F f with
 |none=>rfl
 |some fd=>
  simp only;generalize exs ct (b5 ct F n) fd.body (ds.map some++List.replicate (fd.ns-fd.np) none) h=r;cases r with
  |ok o h=>cases o<;>rfl
  |no=>rfl
theorem a8s:(∀d v v' m0 H0,↥m0=n->Rp m0 H0 d v'->Rp m' H d v->Rp (m'.take n) H d v)/\∀l vs eX m0 H0,↥m0=n->Rps m0 H0 l eX->Rps m' H l vs->Rps (m'.take n) H l vs:=by
 refine D.ind (P:=λd=>∀v v' m0 H0,↥m0=n->Rp m0 H0 d v'->Rp m' H d v->Rp (m'.take n) H d v) (Q:=λl=>∀vs eX m0 H0,↥m0=n->Rps m0 H0 l eX->Rps m' H l vs->Rps (m'.take n) H l vs) ?_ ?_ ?_ ?_ ?_ ?_ ?_ ?_
 · intro v v' m0 H0 _ _ h;exact h
 · intro b v v' m0 H0 _ _ h;exact h
 · intro b v v' m0 H0 _ _ h;exact h
 · intro b v v' m0 H0 _ _ h;exact h
 · rintro l ih v v' m0 H0 hn ⟨a',eX,_,_,q'⟩ ⟨a,vs,rfl,e,q⟩;exact⟨a,vs,rfl,e,ih vs eX m0 H0 hn q' q⟩
 · rintro k v v' m0 H0 hn ⟨a',_,e'⟩ ⟨a,rfl,e⟩;refine⟨a,rfl,?_⟩;have:=(ac.mp e').1;rw[bz nofun];exact e
 · intro vs eX m0 H0 _ _ h;exact h
 · rintro d r ih ihs vs eX m0 H0 hn ⟨v',t',_,q1',q2'⟩ ⟨v,t,rfl,q1,q2⟩;exact⟨v,t,rfl,ih v v' m0 H0 hn q1' q1,ihs t t' m0 H0 hn q2' q2⟩
theorem a6A{β':Type}{R R':α->β->Prop}{R0:α->β'->Prop}(f:∀a b b',R0 a b'->R a b->R' a b){l:List α}{l':List β'}(h:Paired R0 l l'):∀{l2:List β},Paired R l l2->Paired R' l l2:=by
 induction h with
 |nil=>
  intro l2 h;cases h;exact .nil
 |cons h t ih=>
  intro l2 q;obtain- |⟨a,b⟩:=q;exact .cons (f _ _ _ h a) (ih b)
theorem b0m{a a0:Addr}{c:Cell}(hn:↥m=n)(h0:G2 Γ m H0 a0 c)(h:G2 Γ m' H a c):G2 Γ (m'.take n) H a c:=by
 have rp:=λd v v' (h1:Rp m H0 d v') (h2:Rp m' H d v)=>(a8s (m':=m') (n:=n) (H:=H)).1 d v v' m H0 hn h1 h2;have rps:=λd v v' (h1:Rps m H0 d v') (h2:Rps m' H d v)=>(a8s (m':=m') (n:=n) (H:=H)).2 d v v' m H0 hn h1 h2;have pr:∀{κ κ' κ'':Type}{l:List (κ×D)}{l':List (κ'×V)}{l2:List (κ''×V)}{A:κ->κ'->Prop}{B:κ->κ''->Prop},Paired (λp q=>A p.1 q.1/\Rp m H0 p.2 q.2) l l'->Paired (λp q=>B p.1 q.1/\Rp m' H p.2 q.2) l l2->Paired (λp q=>B p.1 q.1/\Rp (m'.take n) H p.2 q.2) l l2:=
  λh0 h=>a6A (λa b b' x y=>⟨y.1,rp _ _ _ x.2 y.2⟩) h0 h
 cases c with
 |lst l=>obtain⟨eX,_,r'⟩:=h0;obtain⟨vs,e,r⟩:=h;exact⟨vs,e,rps _ _ _ r' r⟩
 |rol l=>obtain⟨eX,_,r',_⟩:=h0;obtain⟨vs,e,r,z⟩:=h;exact⟨vs,e,rps _ _ _ r' r,z⟩
 |dict l=>
  rcases h with⟨bC,e,r⟩|⟨bC,e,r⟩
  · rcases h0 with⟨kvs',_,r'⟩|⟨kvs',_,r'⟩
    · exact .inl ⟨bC,e,pr (A:=λp q=>K3 p=some q) (B:=λp q=>K3 p=some q) r' r⟩
    · exact .inl ⟨bC,e,pr (A:=fun(p:D) q=>∃l,p=D.tup l/\G7 l=some q) (B:=λp q=>K3 p=some q) r' r⟩
  · rcases h0 with⟨kvs',_,r'⟩|⟨kvs',_,r'⟩
    · exact .inr ⟨bC,e,pr (A:=λp q=>K3 p=some q) (B:=fun(p:D) q=>∃l,p=D.tup l/\G7 l=some q) r' r⟩
    · exact .inr ⟨bC,e,pr (A:=fun(p:D) q=>∃l,p=D.tup l/\G7 l=some q) (B:=fun(p:D) q=>∃l,p=D.tup l/\G7 l=some q) r' r⟩
 |obj k fs=>obtain⟨dx',gs',_,r',_⟩:=h0;obtain⟨dx,gs,e,r,z⟩:=h;exact⟨dx,gs,e,pr (A:=λp q=>p=q) (B:=λp q=>p=q) r' r,z⟩
theorem Sim.drop{eW:AH}(s:Sim Γ ah m H)(s':Sim Γ eW m' H')(p:Pre m m')(k:Keep m m' H H')(h:eW.take ↥ah=ah):Sim Γ ah m H':=by
 have hm:m'.take ↥ah=m:=by obtain⟨t,rfl⟩:=p;rw[←s.len,List.take_left]
 refine⟨s.len,s.nd,λn a c hn hc=>?_⟩;have hl:=(ac.mp hc).1;have fq:eW[n]? =some c:=by rw[←h,bz hl] at hc;exact hc
 have:=b0m (n:=↥ah) s.len (s.at hn hc) (s'.at (p.get hn) fq)
 rwa [hm] at this
theorem b0b{a:Addr}{c:Cell}(f:c.flat=true)(h:G2 Γ m H a c):G2 Γ m' H a c:=by
 cases c with
 |lst l=>obtain⟨vs,e,r⟩:=h;exact⟨vs,e,(a5i (m':=m')).2 _ _ f r⟩
 | dict l=>
  have go:∀{κ:Type}{A:D->κ->Prop}{l:List (D×D)}{l2:List (κ×V)},(l.all λp=>p.1.flat&&p.2.flat)=true->Paired (λp q=>A p.1 q.1/\Rp m H p.2 q.2) l l2->Paired (λp q=>A p.1 q.1/\Rp m' H p.2 q.2) l l2:=by
   intro κ A l l2 hf hp
   induction hp with
   |nil=>exact .nil
   |cons h t ih=>
    rw[all_cons,ae,ae] at hf;exact .cons ⟨h.1,(a5i (m':=m')).1 _ _ hf.1.2 h.2⟩ (ih hf.2)
  rcases h with⟨bC,e,r⟩|⟨bC,e,r⟩
  · exact .inl ⟨bC,e,go (A:=λp q=>K3 p=some q) f r⟩
  · exact .inr ⟨bC,e,go (A:=fun(p:D) q=>∃l,p=D.tup l/\G7 l=some q) f r⟩
 |_=>cases f
theorem c0I {E:XK}{g:Nat}{r:R Out}(s:Sim Γ ah m H)(h:i8 Γ E m H (gcR g ah (c0f r)) Q):k7 Γ E m H r (SQ {nx:=λ_ H'=>Q .non H',rt:=Q}):=by
 have main : ∀ {d:D}{eW:AH},i8 Γ E m H (gcR g ah (.ok d eW)) Q->∀m' H' v,Pre m m'->Keep m m' H H'->Sim Γ eW m' H'->Rp m' H' d v->Q v H':=by
  intro d eW h m' H' v p k s' rv;unfold gcR at h;simp only at h;split at h
  · exact h m' H' v p k s' rv
  · split at h
    · obtain⟨hh,h⟩:=ifq h;exact h m H' v (Pre.refl m) ⟨k.im,k.out,λ_ z=>.inl z⟩ (s.drop s' p k hh.1) ((a5i (m':=m)).1 d v hh.2 rv)
    · split at h
      · rename_i kk;split at h
        · rename_i c hc;obtain⟨hh,h⟩:=ifq h;obtain⟨a,rfl,ha⟩:=rv;have s0:=s.drop s' p k hh.1;have hna:a∉m:=λz=>by obtain⟨i,hi⟩:=List.getElem?_of_mem z;have e1:=p.get hi;have hlt:=(ac.mp hi).1;obtain⟨h1,e1⟩:=ac.mp e1;obtain⟨h2,e2⟩:=ac.mp ha;have:=(getElem_inj s'.nd).mp (e1.trans e2.symm);have hl:=s.len;ac_nf
          have Hn:H a=none:=by
           rcases k.fr a (aH ha) with z|z
           · exact absurd z hna
           · exact z
          refine h (m++[a]) H' (.ref a) (Pre.snoc m a) ⟨k.im,k.out,λb hb=>?_⟩ ?_ ⟨a,rfl,?_⟩
          · rcases aL.mp hb with z|z
            · exact .inl z
            · simp at z;subst z;exact .inr Hn
          · refine⟨by simp[s.len],a1c s.nd hna,λn b cc hn ed=>?_⟩
            by_cases hl:n<↥m
            · rw[av hl] at hn;rw[av (by rw[←s.len];exact hl)] at ed;exact(s0.at hn ed).mono' (Pre.snoc m a) (λ_ _ _ z=>z) rfl
            · have hn':n=↥m:=by have:=(ac.mp hn).1;simp at this;ac_nf
              subst hn';rw[au (aj _)] at hn;rw[s.len,au (aj _)] at ed;simp at hn ed;subst hn;subst ed;exact b0b hh.2.2 (s'.at ha hc)
          · rw[←s.len,au (aj _)];simp
        · exact h.elim
      · exact h.elim
 cases r with
 |ok o eW=>
  cases o with
  |nx env=>exact λm' H' p k s' bO _=>main h m' H' .non p k s' rfl
  |rt d=>exact λm' H' p k s' v rv=>main h m' H' v p k s' rv
 |no=>exact h.elim
theorem a5G(S:Stat P w Γ G ct F mg)(ih1:∀x id np,G.fn.lookup x=some (id,np)->∃f fd ps,↥ps=np/\mg x= ~~~f/\PySem.W.keepIn Γ.K (.ref f)=true/\U7 Γ.K fd ps []/\∀base,FnOk P w Γ.K mg base CX0 (2*n+6) f fd ps (a5c Γ (b5 ct F n) id np))
 (ih2:∀x k,G.obj.lookup x=some k->k∈Γ.ob/\mg x=some (.ref (Γ.cA k))/\∃f fd ps,↥ps=1/\Mk Γ.K (Γ.cA k) f/\U7 Γ.K fd ps []/\∀base,FnOk P w Γ.K mg base CX0 (2*n+6) f fd ps (a5c Γ (b5 ct F n) (ct.init k) 1))
 (ar:∀x id np,G.fn.lookup x=some (id,np)->∀ds h,↥ds≠np->b5 ct F n id ds h=.no)
 {qual:Str} {f:Addr} {fd:FuncData} {N ps:List Str} (R:RowOk Γ.K G F x qual id np f fd st N ps) (base:Heap):FnOk P w Γ.K mg base CX0 (2*(n+1)+6) f fd ps (a5c Γ (b5 ct F (n+1)) id np):=by
 obtain⟨fn,F1,F2,F3,F4⟩:=R.F;obtain⟨oc,od,kV,df,pm,an,cN,ct',eL,rfl,lk,ff⟩:=R.fn.ex;refine c0L (k:=2*n+7) lk ff R.sc (λvs H Q E h=>?_) λA outer s H vs Q E hr eY=>?_
 · obtain⟨ds,ah,m,h1,h2,_⟩:=h;rw[h2.len,h1,R.np]
 · obtain⟨ds,ah,m,h1,h2,h3,h4⟩:=eY;have C:Cxt (a8f CX0 P w Γ.K mg base N qual (v7 st) f cN A outer s H E) Γ G ct (b5 ct F n) E N (v7 st) true:=by
    refine⟨rfl,R.sc.nd,rfl,rfl,?_,rfl,λ_ _=>rfl,S.scal,S.tups,S.dicts,S.blt,λy i j hy=>?_,λy k hy=>?_,S.att⟩
    · exact Nat.lt_of_le_of_lt (Nat.add_le_add_left (by decide:8<=64) _) hr.units
    · obtain⟨f',fd',ps',a1,a2,a3,a4,a5⟩:=ih1 y i j hy;exact⟨2*n+6,f',fd',ps',a1,hr.mono nofun,a2,a3,a4,a5 base,ar y i j hy⟩
    · obtain⟨b1,b2,f',fd',ps',a1,a2,a3,a4⟩:=ih2 y k hy;exact⟨b1,2*n+6,f',fd',ps',a1,hr.mono nofun,a2,b2,a3,a4 base⟩
   have Cs:Cxs (a8f CX0 P w Γ.K mg base N qual (v7 st) f cN A outer s H E) Γ G ct (b5 ct F n) E N (v7 st):=by exact⟨C,PassesOwn.leaving⟩
   refine⟨_,b3x Cs 20 _ _ F4,ds.map some++List.replicate (fn.ns-fn.np) none,ah,m,⟨h3,b0f h2 F3 (by rw[h1,F2])⟩,?_⟩;rw[a3U,F1] at h4;simp only at h4;rw[ay (by rw[h1,F2])] at h4;exact c0I h3 h4
theorem b3B(S:Stat P w Γ G ct F mg):∀n x id np,G.fn.lookup x=some (id,np)->∀ds h,↥ds≠np->b5 ct F n id ds h=.no
 |0,_,_,_,_,_,_,_=>rfl
 |n+1,x,id,np,hx,ds,h,hl=>by obtain⟨_,_,_,_,_,_,R⟩:=S.fn x id np hx;obtain⟨fn,F1,F2,_⟩:=R.F;rw[a3U,F1];simp only;rw[az (by rw[F2];exact hl)]
theorem b8r(S:Stat P w Γ G ct F mg):∀n,(∀x id np,G.fn.lookup x=some (id,np)->∃f fd ps,↥ps=np/\mg x= ~~~f/\PySem.W.keepIn Γ.K (.ref f)=true/\U7 Γ.K fd ps []/\∀base,FnOk P w Γ.K mg base CX0 (2*n+6) f fd ps (a5c Γ (b5 ct F n) id np))∧
 (∀x k,G.obj.lookup x=some k->k∈Γ.ob/\mg x=some (.ref (Γ.cA k))/\∃f fd ps,↥ps=1/\Mk Γ.K (Γ.cA k) f/\U7 Γ.K fd ps []/\∀base,FnOk P w Γ.K mg base CX0 (2*n+6) f fd ps (a5c Γ (b5 ct F n) (ct.init k) 1)):=by
 have zero:∀{k:Nat}{f:Addr}{fd:FuncData}{ps:List Str}{id np:Nat}{base:Heap},FnOk P w Γ.K mg base CX0 k f fd ps (a5c Γ (b5 ct F 0) id np):=fun{k f fd ps id np base}=>
  ⟨λvs H Q E h=>by obtain⟨_,_,_,_,_,_,z⟩:=h;exact z.elim,λA outer s H args us vs Q E _ _ _ _ h=>by obtain⟨_,_,_,_,_,_,z⟩:=h;exact z.elim⟩
 intro n
 induction n with
 |zero=>
  refine⟨λx id np hx=>?_,λx k hk=>?_⟩
  · obtain⟨f,fd,st,N,ps,g,R⟩:=S.fn x id np hx;exact⟨f,fd,ps,R.np,g,R.fn.kp,R.bd,λbase=>zero⟩
  · obtain⟨o1,o2,f,fd,st,N,ps,qual,M,R⟩:=S.obj x k hk;exact⟨o1,o2,f,fd,ps,R.np,M,R.bd,λbase=>zero⟩
 |succ n ih=>
  refine⟨λx id np hx=>?_,λx k hk=>?_⟩
  · obtain⟨f,fd,st,N,ps,g,R⟩:=S.fn x id np hx;exact⟨f,fd,ps,R.np,g,R.fn.kp,R.bd,λbase=>a5G S ih.1 ih.2 (b3B S n) R base⟩
  · obtain⟨o1,o2,f,fd,st,N,ps,qual,M,R⟩:=S.obj x k hk;exact⟨o1,o2,f,fd,ps,R.np,M,R.bd,λbase=>a5G S ih.1 ih.2 (b3B S n) R base⟩
end
end EV
namespace L2T
open PySem
abbrev cd(z:Str):List Nat:=z.cps.toList
variable{x:Str}
theorem T6{y:Str}(h:cd x=cd y):x=y:=by cases x;cases y;exact fN Str.mk (Array.toList_inj.mp h)
theorem D3(x y:Str):cd (x++y)=cd x++cd y:=by show(x.cps++y.cps).toList=_;simp
theorem t9(x:Str):↥(cd x)=↥x:=by simp[cd,Str.length]
def jn(c:Nat):List (List Nat)->List Nat
 |[]=>[]
 |[x]=>x
 |x::y::r=>x++c::jn c (y::r)
theorem a2Z(c:Nat):∀ps:List Str,cd (Str.join ⟨#[c]⟩ ps)=jn c (ps.map cd)
 |[]=>rfl
 |[x]=>rfl
 |x::y::r=>by show cd (x++⟨#[c]⟩++Str.join ⟨#[c]⟩ (y::r))=cd x++c::jn c ((y::r).map cd);rw[D3,D3,a2Z c (y::r)];simp[cd]
theorem a4N{c:Nat}:∀{p q a b:List Nat},c∉p->c∉q->p++c::a=q++c::b->p=q/\a=b
 |[],[],a,b,_,_,h=>⟨rfl,by simpa using h⟩
 |[],y::q,a,b,_,hq,h=>by have e:c=y:=(List.cons.inj h).1;exact absurd (by rw[e];exact aY) hq
 |x::p,[],a,b,hp,_,h=>by have e:x=c:=(List.cons.inj h).1;exact absurd (by rw[←e];exact aY) hp
 |x::p,y::q,a,b,hp,hq,h=>by obtain⟨e1,e2⟩:=List.cons.inj h;obtain⟨e3,e4⟩:=a4N (λz=>hp (aE _ z)) (λz=>hq (aE _ z)) e2;exact⟨by rw[e1,e3],e4⟩
theorem b2c{c:Nat}:∀{ps qs:List (List Nat)},ps≠[]->qs≠[]->(∀p∈ps,c∉p)->(∀q∈qs,c∉q)->jn c ps=jn c qs->ps=qs
 |[],_,h,_,_,_,_=>absurd rfl h
 |_::_,[],_,h,_,_,_=>absurd rfl h
 |[x],[y],_,_,_,_,h=>by rw[show x=y from h]
 |[x],y::z::r,_,_,hp,_,h=>by have h':x=y++c::jn c (z::r):=h;exact absurd (by rw[h'];simp) (hp x aY)
 |x::y::r,[z],_,_,_,hq,h=>by have h':x++c::jn c (y::r)=z:=h;exact absurd (by rw[←h'];simp) (hq z aY)
 |x::y::r,z::u::t,_,_,hp,hq,h=>by obtain⟨e1,e2⟩:=a4N (hp x aY) (hq z aY) h;have e3:=b2c (cons_ne_nil _ _) (cons_ne_nil _ _) (λp hp'=>hp p (aE _ hp')) (λq hq'=>hq q (aE _ hq')) e2;rw[e1,e3]
theorem a8D:∀{ps qs:List Str},ps.map cd=qs.map cd->ps=qs
 |[],[],_=>rfl
 |[],_::_,h=>by cases h
 |_::_,[],h=>by cases h
 |x::r,y::t,h=>by obtain⟨e1,e2⟩:=List.cons.inj h;rw[T6 e1,a8D e2]
variable{c:Nat}
theorem a3k{ps:List Str}(hn:ps≠[])(hf:∀p∈ps,c∉cd p)(h:cd x=jn c (ps.map cd)):Txt.split x ⟨#[c]⟩=ps:=by
 have h1:=StrLaws.join_split x ⟨#[c]⟩;have h2:jn c ((Txt.split x ⟨#[c]⟩).map cd)=jn c (ps.map cd):=by rw[←a2Z,h1,h]
 have h3:Txt.split x ⟨#[c]⟩≠[]:=λe=>by have:=split_pos x ⟨#[c]⟩;rw[e] at this;exact absurd this ∅
 refine a8D (b2c (λe=>h3 (List.map_eq_nil_iff.mp e)) (λe=>hn (List.map_eq_nil_iff.mp e)) (λp hp=>?_) (λp hp=>?_) h2)
 · obtain⟨q,hq,rfl⟩:=al.mp hp;exact StrLaws.split_free x c q hq
 · obtain⟨q,hq,rfl⟩:=al.mp hp;exact hf q hq
def c0N:Str:="0123456789"
def a1v:Str:="abcdefghijklmnopqrstuvwxyz0123456789"
def Q3(c:Nat):Bool:=decide (c∈cd a1v)
def U2(c:Nat):Bool:=decide (c∈cd c0N)
theorem a5I(c:Nat):U2 c=true↔48<=c/\c<=57:=by unfold U2;rw[gG,show cd c0N=List.range' 48 10 from by decide+kernel,List.mem_range'_1];exact and_congr_right λ_=>Nat.lt_succ_iff
def c9(z:Str):Bool:=decide (1<=↥z)&&decide (↥z<=12)&&(cd z).all Q3
def a2t(z:Str):Bool:=decide (1<=↥z)&&decide (↥z<=5)&&(cd z).all U2&&(decide (z="0")||!decide ((cd z).head? =some 48))
def W2(z:Str):Option Int:=if(cd z).all U2=true then(if z=""∨5<↥z∨((cd z).head? =some 48/\1<↥z) then none else some ((NumText.digitsVal (cd z):Nat):Int)) else none
def tl(z:Str):Str:=⟨((cd z).drop 1).toArray⟩
theorem a2C(z:Str):cd (tl z)=(cd z).drop 1:=by simp[tl,cd]
def a4u(z:Str):Bool:=if(cd z).head? =some 45 then(!decide (z="-0")&&a2t (tl z)) else a2t z
def a0S(z:Str):Option Int:=if(cd z).head? =some 45 then(match W2 (tl z) with|none=>none|some n=>if n=0 then none else some (-n)) else W2 z
theorem a9S(z:Str):z=""↔↥z=0:=by
 constructor
 · rintro rfl;rfl
 · intro h;refine T6 ?_;have:↥(cd z)=0:=by rw[t9];exact h
   rw[length_eq_zero_iff.mp this];rfl
variable{z:Str}
theorem a4a(h:(cd z).all U2=true):NumText.AllDigits (cd z):=λc hc=>(a5I c).mp (bm.mp h c hc)
theorem a4L:∀(cs:List Nat)(a:Nat),a<=cs.foldl (λbM c=>bM*10+(c-48)) a
 |[],a=>aj _
 |c::r,a=>aR nofun (a4L r (a*10+(c-48)))
theorem a8e{r:List Nat}(h:48<c):0<NumText.digitsVal (c::r):=by unfold NumText.digitsVal;rw[foldl_cons];exact aC nofun (a4L r (0*10+(c-48)))
theorem a3z:a2t z=(W2 z).isSome:=by
 unfold a2t W2
 by_cases h:(cd z).all U2=true
 · rw [ay h,h]
   by_cases q:z=""∨5<↥z∨((cd z).head? =some 48/\1<↥z)
   · rw[ay q];show _=false;rcases q with q|q|⟨q1,q2⟩
     · rw[a9S] at q;simp[q]
     · simp[show¬z.length<=5 by ac_nf]
     · have ne:¬z="0":=by rintro rfl;exact absurd q2 ∅
       simp[q1,ne]
   · rw [az q];show _=true;have q1:¬↥z=0:=λe=>q (.inl ((a9S z).mpr e));have q2:↥z<=5:=aU λe=>q (.inr (.inl e));have q3:z="0"∨¬(cd z).head? =some 48:=by
      by_cases e:(cd z).head? =some 48
      · left
        have l:↥z=1:=by have k:¬1<↥z:=λe'=>q (.inr (.inr ⟨e,e'⟩));ac_nf
        refine T6 ?_;have l':↥(cd z)=1:=by rw[t9];exact l
        obtain⟨x,hx⟩:=List.length_eq_one_iff.mp l';rw[hx] at e⊢;have e':x=48:=by simpa using e
        rw[e'];decide+kernel
      · exact .inr e
     have a1:1<=↥z:=by ac_nf
     rcases q3 with q3|q3
     · rw[q3];decide+kernel
     · simp[a1,q2,q3]
 · rw[az h];show _=false;simp[show(cd z).all U2=false from by simpa using h]
variable{n:Int}
theorem a2U(h:W2 z=some n):intText? z=some n/\↥z<=640/\0<=n/\(n=0↔z="0"):=by
 unfold W2 at h
 by_cases q:(cd z).all U2=true
 · rw[ay q] at h
   by_cases p:z=""∨5<↥z∨((cd z).head? =some 48/\1<↥z)
   · rw[ay p] at h;cases h
   · rw [az p] at h;cases h;have p1:¬↥z=0:=λe=>p (.inl ((a9S z).mpr e));have p2:↥z<=5:=aU λe=>p (.inr (.inl e));have ne:cd z≠[]:=λe=>p1 (by rw[←t9,e];rfl);refine⟨PySem.intText_digits (a4a q) ne nofun,by ac_nf,Int.natCast_nonneg _,?_,?_⟩
     · intro e;have e0:NumText.digitsVal (cd z)=0:=by ac_nf
       cases hz:cd z with
       |nil=>exact absurd hz ne
       | cons c r=>
        have hc:c=48:=by
         have:=(a4a q) c (by rw[hz];exact aY);rw[hz] at e0
         by_cases k:48<c
         · exact absurd (a8e (r:=r) k) nofun
         · ac_nf
        have hl:¬1<↥z:=λe'=>p (.inr (.inr ⟨by rw[hz,hc];rfl,e'⟩));have hr:r=[]:=by
         have:↥(cd z)=↥r+1:=by rw[hz];rfl
         rw[t9] at this;exact length_eq_zero_iff.mp nofun
        refine T6 ?_;rw[hz,hc,hr];decide+kernel
     · rintro rfl;decide+kernel
 · rw[az q] at h;cases h
theorem a6m:a4u z=(a0S z).isSome:=by
 unfold a4u a0S
 by_cases h:(cd z).head? =some 45
 · rw [ay h,ay h,a3z];have hz:(z="-0")↔tl z="0":=by
    constructor
    · rintro rfl;decide+kernel
    · intro e;refine T6 ?_;have e1:(cd z).drop 1=cd "0":=by rw[←a2C,e]
      cases hc:cd z with
      |nil=>rw[hc] at h;cases h
      |cons c r=>
       rw[hc] at h e1;have fq:c=45:=by simpa using h
       have hr:r=cd "0":=e1;rw[fq,hr];decide+kernel
   cases q:W2 (tl z) with
   |none=>simp
   |some n=>
    obtain⟨_,_,_,k⟩:=a2U q
    by_cases e:n=0
    · simp[e,hz,k.mp e]
    · have k':¬tl z="0":=λz'=>e (k.mpr z');simp[e,hz,k']
 · rw[az h,az h];exact a3z
theorem a2O(h:a0S z=some n):intText? z=some n/\↥z<=640:=by
 unfold a0S at h
 by_cases q:(cd z).head? =some 45
 · rw [ay q] at h;cases e:W2 (tl z) with
   |none=>rw[e] at h;cases h
   |some m=>
    rw[e] at h
    dsimp only at h
    by_cases m0:m=0
    · rw[ay m0] at h;cases h
    · rw [az m0] at h;cases h;cases hc:cd z with
      |nil=>rw[hc] at q;cases q
      |cons c r=>
       have fq:c=45:=by rw[hc] at q;simpa using q
       have ht:cd (tl z)=r:=by rw[a2C,hc];rfl
       unfold W2 at e
       by_cases f:(cd (tl z)).all U2=true
       · rw[ay f] at e
         by_cases p:tl z=""∨5<↥(tl z)∨((cd (tl z)).head? =some 48/\1<↥(tl z))
         · rw[ay p] at e;cases e
         · rw[az p] at e;cases e;have l2:↥(tl z)<=5:=aU λk=>p (.inr (.inl k));have l3:↥z=↥(tl z)+1:=by rw[←t9 z,←t9 (tl z),ht,hc];rfl
           have ne:r≠[]:=λk=>p (.inl ((a9S _).mpr (by rw[←t9,ht,k];rfl)));refine⟨?_,by ac_nf⟩;rw[ht];exact PySem.intText_neg (by rw[←fq];exact hc) (ht▸a4a f) ne nofun
       · rw[az f] at e;cases e
 · rw[az q] at h;exact⟨(a2U h).1,(a2U h).2.1⟩
end L2T
namespace EV
open PySem L2
noncomputable def rpB:Ss:=(.o (.iff (.cmp .isin (.v 3) (.tup (.s "/">=>.o (.s ">")))) (.ex (.mt .append (.v 2) (.o (.v 3)))>=>.o (.ex (.mt .append (.v 1) (.o (.lst .nil))))) (.o (.ex (.mt .append (.ix (.v 1) (.neg (.i 1))) (.o (.v 3)))))))
def rhB:Ss:=(.set 4 (.call 1 (.o (.v 3)))>=>.o (.iff (.cmp .gt (.bi .len (.o (.v 4))) (.i 0)) (.set 5 (.call 13 (.v 1>=>.o (.v 4)))>=>.o (.iff (.notN (.v 5)) (.o .bad) .nil)) .nil))
def abc:Str:="abcdefghijklmnopqrstuvwxyz"
def cA:E:=(.comp (.nm 0) (.rng1 (.v 1)) 1 [3,2,1] .yes (.bin .mul (.ix (.v 2) (.v 1)) (.bin .sub (.v 3) (.v 0))))
def cS:E:=(.comp (.nm 0) (.rng1 (.v 4)) 1 [0,2] .yes (.ix (.bin .add (.v 2) (.s "0123456789")) (.bin .mod (.bin .add (.bin .div (.v 1) (.i 16224)) (.bin .mul (.i 7) (.v 0))) (.i 36))))
noncomputable def cB:E:=(.comp (.nm 0) (.rng1 (.v 1)) 1 [3,2,5,6] .yes (.bin .add (.bin .add (.sl (.v 4) .no (.at (.v 3))) (.ix (.v 2) (.bin .mod (.bin .add (.v 1) (.bin .mul (.i 5) (.v 0))) (.i 26)))) (.sl (.v 4) (.at (.v 3)) .no)))
noncomputable def wE:E:=(.ix (.lst (.i 0>=>.bin .mod (.bin .div (.v 5) (.i 4)) (.i 20)>=>.bin .mod (.bin .div (.v 5) (.i 4)) (.i 1000)>=>.o (.bin .mod (.bin .div (.v 5) (.i 4)) (.i 99999)))) (.bin .mod (.v 5) (.i 4)))
def wB:Ss:=(.set 5 (.call 202 (.v 0>=>.o (.bin .add (.v 4) (.i 10))))>=>.o (.ex (.mt .append (.v 3) (.cons wE .nil))))
def b0M:E:=(.ix (.lst (.s "above">=>.o (.s "below"))) (.bin .mod (.bin .div (.v 4) (.i 4)) (.i 2)))
def c0o:Ss:=(.o (.ex (.mt .append (.v 2) (.o (.tup (.ix (.ix (.v 1) (.v 3)) (.i 0)>=>.v 5>=>.call 205 (.o (.bin .div (.v 4) (.i 8)))>=>.o (.call 205 (.o (.bin .div (.v 4) (.i 8000))))))))))
def mkB:Ss:=(.set 4 (.call 202 (.v 0>=>.o (.bin .add (.v 3) (.i 40))))>=>.o (.iff (.cmp .eq (.bin .mod (.v 4) (.i 4)) (.i 1)) (.set 5 b0M>=>c0o) .nil))
noncomputable def b1i:Ss:=(.o (.iff (.cmp .gt (.bin .mod (.bin .div (.v 4) (.i 2)) (.i 3)) (.i 0)) (.o (.ex (.mt .append (.v 2) (.o (.tup (.ix (.ix (.v 1) (.v 3)) (.i 0)>=>.v 5>=>.o (.call 205 (.o (.bin .div (.v 4) (.i 6)))))))))) .nil))
def ptB:Ss:=(.set 4 (.call 202 (.v 0>=>.o (.bin .add (.v 3) (.i 70))))>=>.o (.for (.nm 5) (.seq (.sl (.lst (.s "above">=>.o (.s "below"))) (.at (.bin .mod (.v 4) (.i 2))) .no)) b1i))
def jnD:List (D×D):=[((.str "both"),(.int (4))),((.str "back"),(.int (2))),((.str "none"),(.int (1))),((.str "clear"),(.int (1)))]
def jnE:E:=(.lst (.s "both">=>.s "back">=>.s "none">=>.s "both">=>.s "clear">=>.o (.s "both")))
def wyE:E:=(.lst (.s "left">=>.s "right">=>.o (.s "either")))
def fcE:E:=(.comp (.nm 0) (.rng1 (.v 8)) 1 [6,1] .yes (.ix (.ix (.v 2) (.bin .mod (.bin .div (.v 1) (.bin .add (.bin .mul (.bin .mul (.v 0) (.v 0)) (.i 31)) (.i 7))) (.bi .len (.o (.v 2))))) (.i 0)))
def lB5:Ss:=(.o (.ex (.mt .append (.v 4) (.o (.tup (.ix (.v 3) (.v 5)>=>.v 7>=>.ix wyE (.bin .mod (.bin .div (.v 6) (.i 6)) (.i 3))>=>.o (.v 9)))))))
def lB4:Ss:=(.set 9 (.bi .tuple (.cons fcE .nil))>=>lB5)
def lB3:Ss:=(.set 8 (.ix (.dlit jnD) (.v 7))>=>lB4)
def lB:Ss:=(.set 6 (.call 202 (.v 0>=>.o (.bin .add (.v 5) (.i 100))))>=>.set 7 (.ix jnE (.bin .mod (.v 6) (.i 6)))>=>lB3)
noncomputable def smE:E:=(.comp (.nm 0) (.rng1 (.bin .add (.i 1) (.bin .mod (.v 6) (.i 5)))) 1 [6,1] .yes (.ix (.ix (.v 2) (.bin .mod (.bin .div (.v 1) (.bin .add (.bin .mul (.v 0) (.i 13)) (.i 5))) (.bi .len (.o (.v 2))))) (.i 0)))
def kB:Ss:=(.set 6 (.call 202 (.v 0>=>.o (.bin .add (.v 4) (.i 130))))>=>.set 7 smE>=>.o (.ex (.mt .append (.v 3) (.o (.tup (.v 5>=>.o (.bi .tuple (.o (.v 7)))))))))
def iA:Ss:=(.o (.ex (.mt .append (.v 5) (.o (.bin .add (.s "@") (.ix (.ix (.v 4) (.bin .mod (.bin .div (.v 7) (.i 3)) (.bi .len (.o (.v 4))))) (.i 0)))))))
noncomputable def iC:Ss:=(.set 8 (.ix (.ix (.v 3) (.bin .mod (.bin .div (.v 7) (.i 3)) (.bi .len (.o (.v 3))))) (.i 3))>=>.o (.ex (.mt .append (.v 5) (.o (.ix (.v 8) (.bin .mod (.bin .div (.v 7) (.i 50)) (.bi .len (.o (.v 8)))))))))
def iD:Ss:=(.o (.ex (.mt .append (.v 5) (.o (.ix (.ix (.v 2) (.bin .mod (.bin .div (.v 7) (.i 3)) (.bi .len (.o (.v 2))))) (.i 0))))))
def iB:Ss:=(.set 7 (.bin .div (.v 0) (.bin .add (.bin .mul (.bin .mul (.v 6) (.v 6)) (.i 17)) (.i 3)))>=>.o (.iff (.cmp .eq (.bin .mod (.v 7) (.i 3)) (.i 0)) iA (.o (.iff (.cmp .eq (.bin .mod (.v 7) (.i 3)) (.i 1)) iC iD))))
def e6L:E:=(.lst (.i 0>=>.i 0>=>.i 0>=>.i 1>=>.i 2>=>.o (.i 3)))
def e7L:E:=(.lst (.i 1>=>.i 2>=>.i 1>=>.i 2>=>.i 3>=>.i 4>=>.o (.i 1)))
def e5L:E:=(.lst (.i 1>=>.i 1>=>.i 1>=>.i 2>=>.o (.bin .add (.i 2) (.bi .int (.o (.bin .eq (.v 7) (.i 0)))))))
def tdE:E:=(.comp (.nm 0) (.rng1 (.v 15)) 1 [9,2] .yes (.ix (.ix (.v 2) (.bin .mod (.bin .div (.v 1) (.bin .add (.bin .mul (.v 0) (.i 7)) (.i 3))) (.bi .len (.o (.v 2))))) (.i 0)))
def rB7:Ss:=(.o (.ex (.mt .append (.v 6) (.o (.tup (.v 8>=>.ix (.ix (.v 5) (.bin .mod (.bin .div (.v 9) (.i 1260)) (.bi .len (.o (.v 5))))) (.i 0)>=>.v 12>=>.v 13>=>.v 14>=>.o (.v 16)))))))
def rB6:Ss:=(.set 15 (.ix e5L (.bin .mod (.bin .div (.v 9) (.i 252)) (.i 5)))>=>.set 16 (.bi .tuple (.cons tdE .nil))>=>rB7)
def rB5:Ss:=(.set 14 (.call 210 (.bin .add (.bin .div (.v 10) (.i 101)) (.i 3)>=>.ix (.v 11) (.i 2)>=>.v 2>=>.v 3>=>.o (.v 4)))>=>rB6)
def rB4:Ss:=(.set 13 (.call 210 (.bin .add (.bin .div (.v 10) (.i 11)) (.bin .mul (.i 5) (.v 7))>=>.ix (.v 11) (.i 1)>=>.v 2>=>.v 3>=>.o (.v 4)))>=>rB5)
def rB3:Ss:=(.set 12 (.call 210 (.v 10>=>.ix (.v 11) (.i 0)>=>.v 2>=>.v 3>=>.o (.v 4)))>=>rB4)
def szE:E:=(.lst (.ix e6L (.bin .mod (.v 9) (.i 6))>=>.ix e7L (.bin .mod (.bin .div (.v 9) (.i 6)) (.i 7))>=>.o (.ix e6L (.bin .mod (.bin .div (.v 9) (.i 42)) (.i 6)))))
def rB:Ss:=(.set 9 (.call 202 (.v 0>=>.o (.bin .add (.v 7) (.i 160))))>=>.set 10 (.call 202 (.v 0>=>.o (.bin .add (.v 7) (.i 190))))>=>.set 11 szE>=>rB3)
noncomputable def feE:E:=(.comp (.tp (.nm 0>=>.nm 1>=>.nil)) (.enum (.call 203 (.bin .div (.v 6) (.i 3)>=>.o (.bin .add (.i 1) (.bin .mod (.v 6) (.i 3)))))) 2 [6] .yes (.tup (.v 1>=>.o (.bin .gt (.bin .mod (.bin .div (.v 2) (.bin .add (.v 0) (.i 5))) (.i 4)) (.i 0)))))
def gpE:E:=(.comp (.tp (.nm 0>=>.nm 1>=>.nil)) (.enum (.v 4)) 2 [6] (.cmp .eq (.bin .mod (.bin .div (.v 2) (.bin .add (.bin .mul (.i 7) (.v 0)) (.i 9))) (.i 4)) (.i 0)) (.ix (.v 1) (.i 0)))
def hB4:Ss:=(.set 9 gpE>=>.set 10 (.call 206 (.v 2>=>.o (.v 3)))>=>.set 11 (.call 207 (.v 2>=>.o (.v 3)))>=>.o (.ret (.tup (.v 3>=>.v 10>=>.v 11>=>.v 4>=>.v 9>=>.v 5>=>.v 7>=>.o (.v 8)))))
def hB3:Ss:=(.set 7 feE>=>.set 8 (.call 211 (.call 201 (.v 0>=>.o (.i 3))>=>.v 1>=>.v 3>=>.v 4>=>.v 5>=>.o (.v 7)))>=>hB4)
def hB2:Ss:=(.set 4 (.call 208 (.call 201 (.v 0>=>.o (.i 1))>=>.o (.v 3)))>=>.set 5 (.call 209 (.call 201 (.v 0>=>.o (.i 2))>=>.o (.v 3)))>=>.set 6 (.call 202 (.call 201 (.v 0>=>.o (.i 2))>=>.o (.i 5)))>=>hB3)
def b5q:E:=(.bin .add (.bin .add (.bin .add (.s "shape ") (.v 0)) (.s " ")) (.bi .str (.o (.v 1))))
def c0G:E:=(.comp (.tp (.nm 0>=>.nm 1>=>.nil)) (.seq (.ix (.v 0) (.i 0))) 2 [] .yes b5q)
noncomputable def b5s:Ss:=(.set 6 (.bin .add (.bin .add (.call 213 (.o (.v 4))) (.s " ")) (.call 213 (.o (.v 5))))>=>.o (.ex (.mt .append (.v 2) (.o (.bin .add (.bin .add (.bin .add (.bin .add (.bin .add (.s "mark ") (.v 1)) (.s " ")) (.v 3)) (.s " ")) (.v 6))))))
def b8o:E:=(.bin .add (.bin .add (.bin .add (.bin .add (.bin .add (.s "point ") (.v 0)) (.s " ")) (.v 1)) (.s " ")) (.call 213 (.o (.v 2))))
def c0F:E:=(.comp (.tp (.nm 0>=>.nm 1>=>.nm 2>=>.nil)) (.seq (.ix (.v 0) (.i 2))) 3 [] .yes b8o)
def c0A:E:=(.bin .add (.lst (.s "letter">=>.v 1>=>.v 7>=>.o (.v 8))) (.bi .list (.o (.v 9))))
def b5r:Ss:=(.o (.ex (.mt .append (.v 2) (.o (.mt .join (.s " ") (.cons c0A .nil))))))
def c0E:E:=(.comp (.nm 0) (.seq (.ix (.v 0) (.i 4))) 1 [] .yes (.bin .add (.s "gap ") (.v 0)))
def b8m:E:=(.bin .add (.lst (.s "class">=>.o (.v 0))) (.bi .list (.o (.v 1))))
def c0D:E:=(.comp (.tp (.nm 0>=>.nm 1>=>.nil)) (.seq (.ix (.v 0) (.i 5))) 2 [] .yes (.mt .join (.s " ") (.cons b8m .nil)))
def b8n:E:=(.bin .add (.bin .add (.bin .add (.s "feature ") (.v 0)) (.s " ")) (.ix (.lst (.s "off">=>.o (.s "on"))) (.bi .int (.o (.v 1)))))
def c0C:E:=(.comp (.tp (.nm 0>=>.nm 1>=>.nil)) (.seq (.ix (.v 0) (.i 6))) 2 [] .yes b8n)
def c0B:E:=(.comp (.nm 0) (.seq (.ix (.v 0) (.i 7))) 1 [] .yes (.call 214 (.o (.v 0))))
def htP(a b c d:Nat):Pat:=.tp (.nm a>=>.nm b>=>.nm c>=>.nm d>=>.nil)
def foJ:E:=(.comp (.nm 0) (.seq (.v 1)) 1 [0] .yes (.ix (.ix (.fld (.v 1) "letters") (.v 0)) (.i 0)))
def foD(i:Int):E:=(.bi .dict (.o (.comp (.nm 0) (.seq (.v 3)) 1 [] .yes (.tup (.ix (.v 0) (.k (.int i))>=>.o (.k (.bl true)))))))
def foB:Ss:=(.o (.ex (.mt .append (.v 6) (.o (.call 37 (.ix (.ix (.fld (.v 0) "letters") (.v 2)) (.i 2)>=>.bin .isin (.v 7) (.v 5)>=>.o (.bin .isin (.v 7) (.v 4))))))))
def onB:Ss:=(.o (.iff (.an (.cmp .eq (.ix (.v 5) (.i 0)) (.v 1)) (.chn .le .le (.ix (.v 5) (.i 1)) (.v 3) (.ix (.v 5) (.i 2)))) (.o (.set 4 (.ix (.v 5) (.i 3)))) .nil))
def cfB:Ss:=(.o (.iff (.cmp .notin (.ix (.v 2) (.i 0)) (.fld (.v 0) "features")) (.o .bad) .nil))
noncomputable def hoB:Ss:=(.o (.iff (.cmp .gt (.bi .len (.o (.ix (.v 3) (.i 1)))) (.i 0)) (.ex (.mt .append (.v 1) (.o (.ix (.ix (.v 3) (.i 1)) (.i 0))))>=>.o (.set 2 (.ix (.ix (.v 3) (.i 1)) (.neg (.i 1))))) (.o (.ex (.mt .append (.v 1) (.o (.v 2)))))))
def tcB:Ss:=(.o (.set 2 (.bin .add (.v 2) (.ix (.v 3) (.i 1)))))
def tcE:E:=(.comp (.nm 0) (.seq (.sl (.v 0) (.at (.i 1)) .no)) 1 [] .yes (.tup (.v 0>=>.o (.tup .nil))))
def afB:Ss:=(.o (.iff (.nt (.val (.call 38 (.v 0>=>.v 3>=>.o (.ix (.v 4) (.i 0)))))) (.o (.ret (.k (.bl false)))) .nil))
def dnT:T:=(.cmp .lt (.v 7) (.bi .len (.o (.v 2))))
def b8I:Ss:=(.ex (.mt .extend (.v 4) (.o (.call 43 (.ix (.v 1) (.i 5)>=>.o (.sl (.v 2) (.at (.v 7)) (.at (.v 9)))))))>=>.set 7 (.v 9)>=>.o (.set 8 (.bin .add (.v 8) (.i 1))))
def b8H:Ss:=(.ex (.mt .append (.v 4) (.o (.ix (.v 2) (.v 7))))>=>.o (.set 7 (.bin .add (.v 7) (.i 1))))
noncomputable def dnB:Ss:=(.set 9 (.bin .add (.v 7) (.bi .len (.o (.ix (.v 1) (.i 3)))))>=>.set 10 (.an (.bin .isin (.ix (.ix (.v 2) (.v 7)) (.i 0)) (.v 6)) (.call 41 (.v 0>=>.v 1>=>.v 4>=>.v 2>=>.o (.v 7))))>=>.o (.iff (.an (.val (.v 10)) (.val (.call 47 (.v 0>=>.ix (.v 1) (.i 1)>=>.v 3>=>.o (.sl (.v 5) (.at (.v 7)) (.at (.v 9))))))) b8I b8H))
def frE(a:E):E:=(.comp (.tp (.nm 0>=>.nm 1>=>.nil)) (.enum a) 2 [] .yes (.tup (.v 1>=>.o (.tup (.o (.v 0))))))
def F5:Fn:=⟨2,4,1,(.o (.for (.tp (.nm 2>=>.nm 3>=>.nil)) (.enum (.v 1)) (.o (.iff (.cmp .notin (.v 3) (.fld (.v 0) "letters")) (.o .bad) .nil))))⟩
noncomputable def Y8:Fn:=⟨2,8,2,(.ex (.call 33 (.v 0>=>.o (.v 1)))>=>.set 3 (.call 35 (.cons foJ .nil))>=>.set 4 (foD 0)>=>.set 5 (foD 1)>=>.set 6 (.lst .nil)>=>.for (.tp (.nm 7>=>.nm 2>=>.nil)) (.enum (.v 1)) foB>=>.o (.ret (.v 6)))⟩
noncomputable def I0:Fn:=⟨1,2,2,(.set 1 (.comp (.tp (.nm 0>=>.nm 1>=>.nil)) (.enum (.v 0)) 2 [] (.cmp .ne (.v 1) (.s "clear")) (.v 0))>=>.o (.ret (.comp (.nm 0) (.zipn (.v 1) (.sl (.v 1) (.at (.i 1)) .no)) 1 [0] (.val (.call 36 (.ix (.v 1) (.ix (.v 0) (.i 0))>=>.o (.ix (.v 1) (.ix (.v 0) (.i 1)))))) (.v 0))))⟩
def J4:Fn:=⟨2,2,1,(.o (.ret (.an (.bin .eq (.v 0) (.s "both")) (.gin false (.v 1) [(.str "both"),(.str "back")]))))⟩
noncomputable def M0:Fn:=⟨3,3,1,(.iff (.an (.val (.v 1)) (.val (.v 2))) (.o (.ret (.ix (.v 0) (.i 2)))) .nil>=>.iff (.val (.v 2)) (.o (.ret (.ix (.v 0) (.i 1)))) .nil>=>.iff (.val (.v 1)) (.o (.ret (.ix (.v 0) (.neg (.i 1))))) .nil>=>.o (.ret (.ix (.v 0) (.i 0))))⟩
def a1g:Fn:=⟨1,1,2,(.o (.ret (.comp (.nm 0) (.seq (.mt .split (.v 0) (.o (.s " ")))) 1 [] (.cmp .ne (.v 0) (.s "")) (.v 0))))⟩
def a2j:Fn:=⟨2,2,1,(.o (.ret (.bi .all (.o (.comp (.nm 0) (.seq (.v 0)) 1 [1] .yes (.bin .isin (.v 0) (.v 1)))))))⟩
def a2k:Fn:=⟨1,1,1,(.o (.ret (.an (.chn .le .le (.i 1) (.bi .len (.o (.v 0))) (.i 12)) (.call 2 (.v 0>=>.o (.s "abcdefghijklmnopqrstuvwxyz0123456789"))))))⟩
noncomputable def a0s:Fn:=⟨1,1,1,(.iff (.orr (.nt (.chn .le .le (.i 1) (.bi .len (.o (.v 0))) (.i 5))) (.nt (.val (.call 2 (.v 0>=>.o (.s "0123456789")))))) (.o (.ret (.k (.bl false)))) .nil>=>.o (.ret (.orr (.bin .eq (.v 0) (.s "0")) (.bin .ne (.ix (.v 0) (.i 0)) (.s "0")))))⟩
def K8:Fn:=⟨1,1,1,(.iff (.val (.mt .starts (.v 0) (.o (.s "-")))) (.o (.ret (.an (.bin .ne (.v 0) (.s "-0")) (.call 4 (.o (.sl (.v 0) (.at (.i 1)) .no)))))) .nil>=>.o (.ret (.call 4 (.o (.v 0)))))⟩
def Q7:Fn:=⟨1,1,1,(.o (.ret (.sl (.v 0) (.at (.bi .len (.o (.s "@")))) .no)))⟩
def Q4:Fn:=⟨1,1,1,(.o (.ret (.an (.mt .starts (.v 0) (.o (.s "@"))) (.call 3 (.o (.call 6 (.o (.v 0))))))))⟩
def a2l:Fn:=⟨1,1,1,(.o (.ret (.orr (.call 3 (.o (.v 0))) (.call 7 (.o (.v 0))))))⟩
def a2x:Fn:=⟨1,1,1,(.o (.ret (.bi .all (.o (.comp (.nm 0) (.seq (.v 0)) 1 [] .yes (.call 3 (.o (.v 0))))))))⟩
def O9:Fn:=⟨1,1,1,(.o (.ret (.bi .all (.o (.comp (.nm 0) (.seq (.v 0)) 1 [] .yes (.call 5 (.o (.v 0))))))))⟩
def a2y:Fn:=⟨1,1,1,(.o (.ret (.bi .all (.o (.comp (.nm 0) (.seq (.v 0)) 1 [] .yes (.call 8 (.o (.v 0))))))))⟩
def a1k:Fn:=⟨3,3,1,(.o (.ret (.bin .isin (.v 2) (.call 39 (.v 0>=>.o (.v 1))))))⟩
def w8:Fn:=⟨2,2,1,(.iff (.val (.mt .starts (.v 1) (.o (.s "@")))) (.o (.ret (.dget (.fld (.v 0) "classes") (.call 6 (.o (.v 1))) (.tup .nil)))) .nil>=>.o (.ret (.tup (.o (.v 1)))))⟩
def a7Y:Fn:=⟨4,11,0,(.ex (.call 45 (.v 0>=>.o (.v 3)))>=>.set 4 (.lst .nil)>=>.set 5 (.call 44 (.o (.v 2)))>=>.set 6 (.call 39 (.v 0>=>.o (.ix (.ix (.v 1) (.i 3)) (.i 0))))>=>.set 7 (.i 0)>=>.set 8 (.i 0)>=>.whl dnT dnB>=>.o (.ret (.tup (.v 4>=>.o (.v 8)))))⟩
noncomputable def U3:Fn:=⟨5,6,1,(.set 5 (.bin .add (.v 4) (.bi .len (.o (.ix (.v 1) (.i 3)))))>=>.iff (.nt (.val (.call 42 (.v 0>=>.ix (.v 1) (.i 3)>=>.o (.sl (.v 3) (.at (.v 4)) (.at (.v 5))))))) (.o (.ret (.k (.bl false)))) .nil>=>.iff (.nt (.val (.call 42 (.v 0>=>.ix (.v 1) (.i 2)>=>.o (.sl (.v 2) (.at (.bi .max (.i 0>=>.o (.bin .sub (.bi .len (.o (.v 2))) (.bi .len (.o (.ix (.v 1) (.i 2)))))))) .no))))) (.o (.ret (.k (.bl false)))) .nil>=>.o (.ret (.call 42 (.v 0>=>.ix (.v 1) (.i 4)>=>.o (.sl (.v 3) (.at (.v 5)) (.at (.bin .add (.v 5) (.bi .len (.o (.ix (.v 1) (.i 4)))))))))))⟩
noncomputable def W6:Fn:=⟨3,5,1,(.iff (.cmp .ne (.bi .len (.o (.v 1))) (.bi .len (.o (.v 2)))) (.o (.ret (.k (.bl false)))) .nil>=>.for (.tp (.nm 3>=>.nm 4>=>.nil)) (.zip (.v 1) (.v 2)) afB>=>.o (.ret (.k (.bl true))))⟩
def R5:Fn:=⟨2,4,2,(.set 2 (.tup .nil)>=>.for (.nm 3) (.seq (.v 1)) tcB>=>.o (.ret (.bin .add (.lst (.o (.tup (.ix (.v 0) (.i 0)>=>.o (.v 2))))) tcE)))⟩
def Y6:Fn:=⟨1,4,2,(.set 1 (.lst .nil)>=>.set 2 (.k .non)>=>.for (.nm 3) (.seq (.v 0)) hoB>=>.o (.ret (.v 1)))⟩
def J5:Fn:=⟨2,3,1,(.o (.for (.nm 2) (.seq (.v 1)) cfB))⟩
def a1M:Fn:=⟨4,6,1,(.set 4 (.ix (.fld (.v 0) "features") (.v 1))>=>.for (.nm 5) (.seq (.v 2)) onB>=>.o (.ret (.v 4)))⟩
def L8:Fn:=⟨4,4,1,(.o (.ret (.bi .all (.o (.comp (.nm 0) (.seq (.v 3)) 1 [1,0,2] .yes (.call 46 (.v 2>=>.v 1>=>.v 3>=>.o (.v 0))))))))⟩
noncomputable def P0:Fn:=⟨1,1,0,(.sfl (.v 0) "shapes" .dnew>=>.sfl (.v 0) "marks" .dnew>=>.sfl (.v 0) "points" .dnew>=>.sfl (.v 0) "letters" .dnew>=>.sfl (.v 0) "gaps" (.lst .nil)>=>.sfl (.v 0) "classes" .dnew>=>.sfl (.v 0) "features" .dnew>=>.o (.sfl (.v 0) "rules" (.lst .nil)))⟩
noncomputable def a0r:Fn:=⟨1,6,0,(.set 1 (.mk 6 .nil)>=>.for (.tp (.nm 2>=>.nm 3>=>.nil)) (.enum (.mt .split (.v 0) (.o (.s "\n")))) (.set 4 (.call 1 (.o (.v 3)))>=>.o (.iff (.cmp .gt (.bi .len (.o (.v 4))) (.i 0)) (.set 5 (.call 13 (.v 1>=>.o (.v 4)))>=>.o (.iff (.notN (.v 5)) (.o .bad) .nil)) .nil))>=>.o (.ret (.v 1)))⟩
noncomputable def E8:Fn:=⟨2,3,0,(.set 2 (.ix (.v 1) (.i 0))>=>.iff (.cmp .eq (.v 2) (.s "shape")) (.o (.ret (.call 17 (.v 0>=>.o (.v 1))))) .nil>=>.iff (.cmp .eq (.v 2) (.s "mark")) (.o (.ret (.call 19 (.v 0>=>.o (.v 1))))) .nil>=>.iff (.cmp .eq (.v 2) (.s "point")) (.o (.ret (.call 20 (.v 0>=>.o (.v 1))))) .nil>=>.iff (.cmp .eq (.v 2) (.s "letter")) (.o (.ret (.call 22 (.v 0>=>.o (.v 1))))) .nil>=>.iff (.cmp .eq (.v 2) (.s "gap")) (.o (.ret (.call 23 (.v 0>=>.o (.v 1))))) .nil>=>.iff (.cmp .eq (.v 2) (.s "class")) (.o (.ret (.call 24 (.v 0>=>.o (.v 1))))) .nil>=>.iff (.cmp .eq (.v 2) (.s "feature")) (.o (.ret (.call 25 (.v 0>=>.o (.v 1))))) .nil>=>.iff (.cmp .eq (.v 2) (.s "rule")) (.o (.ret (.call 26 (.v 0>=>.o (.v 1))))) .nil>=>.o (.ret (.s "row")))⟩
def a0u:Fn:=⟨3,3,1,(.iff (.val (.v 0)) (.o (.ret (.s "twice"))) .nil>=>.iff (.nt (.val (.v 1))) (.o (.ret (.s "name"))) .nil>=>.iff (.val (.v 2)) (.o (.ret (.s "many"))) .nil>=>.o (.ret (.k .non)))⟩
def Y7:Fn:=⟨2,2,1,(.o (.ret (.bi .all (.o (.comp (.nm 0) (.seq (.v 1)) 1 [0] .yes (.bin .isin (.v 0) (.fld (.v 1) "shapes")))))))⟩
def a2i:Fn:=⟨1,1,1,(.o (.ret (.tup (.bi .int (.o (.ix (.v 0) (.i 0)))>=>.o (.bi .int (.o (.ix (.v 0) (.i 1))))))))⟩
noncomputable def Y2:Fn:=⟨2,4,0,(.iff (.orr (.cmp .ne (.bi .len (.o (.v 1))) (.i 3)) (.orr (.nt (.val (.call 3 (.o (.ix (.v 1) (.i 1)))))) (.nt (.val (.call 4 (.o (.ix (.v 1) (.i 2)))))))) (.o (.ret (.s "row"))) .nil>=>.set 2 (.ix (.v 1) (.i 1))>=>.set 3 (.call 14 (.bin .isin (.v 2) (.fld (.v 0) "shapes")>=>.k (.bl true)>=>.o (.bin .ge (.bi .len (.o (.fld (.v 0) "shapes"))) (.i 60))))>=>.iff (.isN (.v 3)) (.o (.six (.fld (.v 0) "shapes") (.v 2) (.bi .int (.o (.ix (.v 1) (.i 2)))))) .nil>=>.o (.ret (.v 3)))⟩
noncomputable def Q5:Fn:=⟨2,2,1,(.iff (.orr (.cmp .ne (.bi .len (.o (.v 0))) (.bin .add (.i 3) (.v 1))) (.nt (.val (.call 3 (.o (.ix (.v 0) (.i 1))))))) (.o (.ret (.k (.bl false)))) .nil>=>.o (.ret (.an (.gin false (.ix (.v 0) (.i 2)) [(.str "above"),(.str "below")]) (.call 10 (.o (.sl (.v 0) (.at (.i 3)) .no))))))⟩
noncomputable def a0q:Fn:=⟨2,4,0,(.iff (.nt (.val (.call 18 (.v 1>=>.o (.i 4))))) (.o (.ret (.s "row"))) .nil>=>.set 2 (.ix (.v 1) (.i 1))>=>.set 3 (.call 14 (.bin .isin (.v 2) (.fld (.v 0) "marks")>=>.bin .isin (.v 2) (.fld (.v 0) "shapes")>=>.o (.k (.bl false))))>=>.iff (.isN (.v 3)) (.o (.six (.fld (.v 0) "marks") (.v 2) (.tup (.ix (.v 1) (.i 2)>=>.call 16 (.o (.sl (.v 1) (.at (.i 3)) (.at (.i 5))))>=>.o (.call 16 (.o (.sl (.v 1) (.at (.i 5)) (.at (.i 7))))))))) .nil>=>.o (.ret (.v 3)))⟩
noncomputable def Y3:Fn:=⟨2,5,0,(.iff (.nt (.val (.call 18 (.v 1>=>.o (.i 2))))) (.o (.ret (.s "row"))) .nil>=>.set 2 (.ix (.v 1) (.i 1))>=>.set 3 (.tup (.v 2>=>.o (.ix (.v 1) (.i 2))))>=>.set 4 (.call 14 (.bin .isin (.v 3) (.fld (.v 0) "points")>=>.bin .isin (.v 2) (.fld (.v 0) "shapes")>=>.o (.k (.bl false))))>=>.iff (.isN (.v 4)) (.o (.six (.fld (.v 0) "points") (.v 3) (.call 16 (.o (.sl (.v 1) (.at (.i 3)) (.at (.i 5))))))) .nil>=>.o (.ret (.v 4)))⟩
noncomputable def L9:Fn:=⟨1,2,1,(.iff (.orr (.cmp .lt (.bi .len (.o (.v 0))) (.i 4)) (.nt (.val (.call 3 (.o (.ix (.v 0) (.i 1))))))) (.o (.ret (.k (.bl false)))) .nil>=>.iff (.orr (.val (.gdin true (.ix (.v 0) (.i 2)) [((.str "none"),(.int (1))),((.str "clear"),(.int (1))),((.str "back"),(.int (2))),((.str "both"),(.int (4)))])) (.val (.gin true (.ix (.v 0) (.i 3)) [(.str "left"),(.str "right"),(.str "either")]))) (.o (.ret (.k (.bl false)))) .nil>=>.set 1 (.sl (.v 0) (.at (.i 4)) .no)>=>.o (.ret (.an (.bin .eq (.bi .len (.o (.v 1))) (.gdix (.ix (.v 0) (.i 2)) [((.str "none"),(.int (1))),((.str "clear"),(.int (1))),((.str "back"),(.int (2))),((.str "both"),(.int (4)))])) (.call 9 (.o (.v 1))))))⟩
noncomputable def V5:Fn:=⟨2,5,0,(.iff (.nt (.val (.call 21 (.o (.v 1))))) (.o (.ret (.s "row"))) .nil>=>.set 2 (.ix (.v 1) (.i 1))>=>.set 3 (.sl (.v 1) (.at (.i 4)) .no)>=>.set 4 (.call 14 (.bin .isin (.v 2) (.fld (.v 0) "letters")>=>.call 15 (.v 0>=>.o (.v 3))>=>.o (.bin .ge (.bi .len (.o (.fld (.v 0) "letters"))) (.i 24))))>=>.iff (.isN (.v 4)) (.o (.six (.fld (.v 0) "letters") (.v 2) (.tup (.ix (.v 1) (.i 2)>=>.ix (.v 1) (.i 3)>=>.o (.bi .tuple (.o (.v 3))))))) .nil>=>.o (.ret (.v 4)))⟩
noncomputable def a1h:Fn:=⟨2,4,0,(.iff (.orr (.cmp .ne (.bi .len (.o (.v 1))) (.i 2)) (.nt (.val (.call 3 (.o (.ix (.v 1) (.i 1))))))) (.o (.ret (.s "row"))) .nil>=>.set 2 (.ix (.v 1) (.i 1))>=>.set 3 (.call 14 (.bin .isin (.v 2) (.fld (.v 0) "gaps")>=>.bin .isin (.v 2) (.fld (.v 0) "letters")>=>.o (.k (.bl false))))>=>.iff (.isN (.v 3)) (.o (.ex (.mt .append (.fld (.v 0) "gaps") (.o (.v 2))))) .nil>=>.o (.ret (.v 3)))⟩
noncomputable def Y4:Fn:=⟨2,5,0,(.set 2 (.sl (.v 1) (.at (.i 2)) .no)>=>.iff (.orr (.nt (.chn .le .le (.i 1) (.bi .len (.o (.v 2))) (.i 20))) (.nt (.val (.call 9 (.o (.sl (.v 1) (.at (.i 1)) .no)))))) (.o (.ret (.s "row"))) .nil>=>.set 3 (.ix (.v 1) (.i 1))>=>.set 4 (.call 14 (.bin .isin (.v 3) (.fld (.v 0) "classes")>=>.call 15 (.v 0>=>.o (.v 2))>=>.o (.bin .ge (.bi .len (.o (.fld (.v 0) "classes"))) (.i 20))))>=>.iff (.isN (.v 4)) (.o (.six (.fld (.v 0) "classes") (.v 3) (.bi .tuple (.o (.v 2))))) .nil>=>.o (.ret (.v 4)))⟩
noncomputable def T3:Fn:=⟨2,4,0,(.iff (.orr (.cmp .ne (.bi .len (.o (.v 1))) (.i 3)) (.orr (.nt (.val (.call 3 (.o (.ix (.v 1) (.i 1)))))) (.val (.gin true (.ix (.v 1) (.i 2)) [(.str "on"),(.str "off")])))) (.o (.ret (.s "row"))) .nil>=>.set 2 (.ix (.v 1) (.i 1))>=>.set 3 (.call 14 (.bin .isin (.v 2) (.fld (.v 0) "features")>=>.k (.bl true)>=>.o (.bin .ge (.bi .len (.o (.fld (.v 0) "features"))) (.i 10))))>=>.iff (.isN (.v 3)) (.o (.six (.fld (.v 0) "features") (.v 2) (.bin .eq (.ix (.v 1) (.i 2)) (.s "on")))) .nil>=>.o (.ret (.v 3)))⟩
noncomputable def a0p:Fn:=⟨2,8,0,(.iff (.nt (.val (.call 27 (.o (.v 1))))) (.o (.ret (.s "row"))) .nil>=>.set 2 (.ix (.v 1) (.i 1))>=>.set 3 (.ix (.v 1) (.i 2))>=>.set 4 (.call 28 (.o (.v 1)))>=>.set 5 (.bin .add (.bin .add (.ix (.v 4) (.i 0)) (.ix (.v 4) (.i 1))) (.ix (.v 4) (.i 2)))>=>.set 6 (.an (.bin .isin (.v 3) (.fld (.v 0) "features")) (.an (.call 29 (.v 0>=>.o (.v 5))) (.call 15 (.v 0>=>.o (.ix (.v 4) (.i 3))))))>=>.set 7 (.call 14 (.call 31 (.v 0>=>.o (.v 2))>=>.v 6>=>.o (.bin .ge (.bi .len (.o (.fld (.v 0) "rules"))) (.i 30))))>=>.iff (.isN (.v 7)) (.o (.ex (.mt .append (.fld (.v 0) "rules") (.o (.tup (.v 2>=>.v 3>=>.bi .tuple (.o (.ix (.v 4) (.i 0)))>=>.bi .tuple (.o (.ix (.v 4) (.i 1)))>=>.bi .tuple (.o (.ix (.v 4) (.i 2)))>=>.o (.bi .tuple (.o (.ix (.v 4) (.i 3)))))))))) .nil>=>.o (.ret (.v 7)))⟩
noncomputable def Q6:Fn:=⟨1,2,1,(.iff (.nt (.val (.call 9 (.o (.sl (.v 0) (.at (.i 1)) (.at (.i 3))))))) (.o (.ret (.k (.bl false)))) .nil>=>.set 1 (.call 28 (.o (.v 0)))>=>.iff (.orr (.isN (.v 1)) (.orr (.cmp .gt (.bi .len (.o (.ix (.v 1) (.i 0)))) (.i 3)) (.cmp .gt (.bi .len (.o (.ix (.v 1) (.i 2)))) (.i 3)))) (.o (.ret (.k (.bl false)))) .nil>=>.iff (.orr (.nt (.chn .le .le (.i 1) (.bi .len (.o (.ix (.v 1) (.i 1)))) (.i 4))) (.nt (.chn .le .le (.i 1) (.bi .len (.o (.ix (.v 1) (.i 3)))) (.i 3)))) (.o (.ret (.k (.bl false)))) .nil>=>.o (.ret (.an (.call 11 (.o (.bin .add (.bin .add (.ix (.v 1) (.i 0)) (.ix (.v 1) (.i 1))) (.ix (.v 1) (.i 2))))) (.call 9 (.o (.ix (.v 1) (.i 3)))))))⟩
noncomputable def Y5:Fn:=⟨1,4,0,(.set 1 (.lst (.o (.lst .nil)))>=>.set 2 (.lst .nil)>=>.for (.nm 3) (.seq (.sl (.v 0) (.at (.i 3)) .no)) (.o (.iff (.cmp .isin (.v 3) (.tup (.s "/">=>.o (.s ">")))) (.ex (.mt .append (.v 2) (.o (.v 3)))>=>.o (.ex (.mt .append (.v 1) (.o (.lst .nil))))) (.o (.ex (.mt .append (.ix (.v 1) (.neg (.i 1))) (.o (.v 3)))))))>=>.iff (.cmp .ne (.v 2) (.lst (.s "/">=>.s "/">=>.o (.s ">")))) (.o (.ret (.k .non))) .nil>=>.o (.ret (.v 1)))⟩
def a0t:Fn:=⟨2,2,1,(.o (.ret (.bi .all (.o (.comp (.nm 0) (.seq (.v 1)) 1 [0] .yes (.call 30 (.v 1>=>.o (.v 0))))))))⟩
def a1j:Fn:=⟨2,2,1,(.iff (.val (.call 7 (.o (.v 1)))) (.o (.ret (.bin .isin (.call 6 (.o (.v 1))) (.fld (.v 0) "classes")))) .nil>=>.o (.ret (.bin .isin (.v 1) (.fld (.v 0) "shapes"))))⟩
def a1i:Fn:=⟨2,2,1,(.o (.ret (.bi .any (.o (.comp (.nm 0) (.seq (.fld (.v 0) "rules")) 1 [1] .yes (.bin .eq (.ix (.v 0) (.i 0)) (.v 1)))))))⟩
def E6:Fn:=⟨2,2,1,(.iff (.cmp .lt (.v 1) (.bi .len (.o (.v 0)))) (.o (.ret (.ix (.v 0) (.v 1)))) .nil>=>.o (.ret (.i 0)))⟩
noncomputable def p8:Fn:=⟨2,2,1,(.o (.ret (.bin .mod (.bin .mul (.bin .mul (.bin .add (.bin .mod (.v 0) (.i 2305843009213693951)) (.i 1)) (.bin .add (.bin .mul (.v 1) (.v 1)) (.i 48271))) (.i 40692)) (.i 2147483399))))⟩
def o9:Fn:=⟨2,7,2,(.set 2 (.k (.str abc))>=>.set 3 (.bin .mod (.bin .div (.v 0) (.i 4)) (.i 26))>=>.iff (.an (.cmp .eq (.bin .mod (.v 0) (.i 4)) (.i 0)) (.cmp .lt (.v 1) (.i 13))) (.o (.ret cA)) .nil>=>.set 4 (.bin .mod (.bin .div (.v 0) (.i 104)) (.i 12))>=>.set 5 (.bin .mod (.bin .div (.v 0) (.i 1248)) (.bin .add (.v 4) (.i 1)))>=>.set 6 (.mt .join (.s "") (.cons cS .nil))>=>.o (.ret cB))⟩
def E1:Fn:=⟨1,6,2,(.set 1 (.call 202 (.v 0>=>.o (.i 1)))>=>.set 2 (.call 203 (.bin .div (.v 1) (.i 13)>=>.o (.bin .add (.i 4) (.bin .mod (.v 1) (.i 13)))))>=>.set 3 (.lst .nil)>=>.for (.nm 4) (.rng1 (.bi .len (.o (.v 2)))) wB>=>.o (.ret (.comp (.tp (.nm 0>=>.nm 1>=>.nil)) (.zip (.v 2) (.v 3)) 2 [] .yes (.tup (.v 0>=>.o (.v 1))))))⟩
noncomputable def B9:Fn:=⟨1,1,1,(.o (.ret (.tup (.bin .sub (.bin .mod (.v 0) (.i 41)) (.i 20)>=>.o (.ix (.lst (.i 0>=>.bin .mod (.bin .div (.v 0) (.i 41)) (.i 99999)>=>.o (.neg (.bin .mod (.bin .div (.v 0) (.i 41)) (.i 99999))))) (.bin .mod (.bin .div (.v 0) (.i 7)) (.i 3)))))))⟩
def F6:Fn:=⟨2,6,2,(.set 2 (.lst .nil)>=>.for (.nm 3) (.rng1 (.bi .len (.o (.v 1)))) mkB>=>.o (.ret (.v 2)))⟩
def E3:Fn:=⟨2,6,2,(.set 2 (.lst .nil)>=>.for (.nm 3) (.rng1 (.bi .len (.o (.v 1)))) ptB>=>.o (.ret (.v 2)))⟩
noncomputable def C8:Fn:=⟨2,10,2,(.set 2 (.call 202 (.v 0>=>.o (.i 2)))>=>.set 3 (.call 203 (.bin .div (.v 2) (.i 6)>=>.o (.bin .add (.i 1) (.bin .mod (.v 2) (.i 6)))))>=>.set 4 (.lst .nil)>=>.for (.nm 5) (.rng1 (.bi .len (.o (.v 3)))) lB>=>.o (.ret (.v 4)))⟩
def C9:Fn:=⟨2,8,2,(.set 2 (.call 202 (.v 0>=>.o (.i 3)))>=>.set 3 (.lst .nil)>=>.for (.tp (.nm 4>=>.nm 5>=>.nil)) (.enum (.call 203 (.bin .div (.v 2) (.i 4)>=>.o (.bin .add (.i 1) (.bin .mod (.v 2) (.i 3)))))) kB>=>.o (.ret (.v 3)))⟩
def C0:Fn:=⟨5,9,1,(.set 5 (.lst .nil)>=>.for (.nm 6) (.rng1 (.v 1)) iB>=>.o (.ret (.bi .tuple (.o (.v 5)))))⟩
def B6:Fn:=⟨6,17,2,(.set 6 (.lst .nil)>=>.for (.tp (.nm 7>=>.nm 8>=>.nil)) (.enum (.call 203 (.call 202 (.v 0>=>.o (.i 4))>=>.o (.v 1)))) rB>=>.o (.ret (.v 6)))⟩
def M1:Fn:=⟨2,12,0,(.set 2 (.call 201 (.v 0>=>.o (.i 0)))>=>.set 3 (.call 204 (.o (.v 2)))>=>hB2)⟩
def E4:Fn:=⟨1,1,1,(.o (.ret (.bin .add (.bin .add (.bi .str (.o (.ix (.v 0) (.i 0)))) (.s " ")) (.bi .str (.o (.ix (.v 0) (.i 1)))))))⟩
noncomputable def E2:Fn:=⟨1,2,1,(.set 1 (.bin .add (.bin .add (.bin .add (.lst (.s "rule">=>.ix (.v 0) (.i 0)>=>.o (.ix (.v 0) (.i 1)))) (.bi .list (.o (.ix (.v 0) (.i 2))))) (.lst (.o (.s "/")))) (.bi .list (.o (.ix (.v 0) (.i 3)))))>=>.o (.ret (.mt .join (.s " ") (.o (.bin .add (.bin .add (.bin .add (.bin .add (.v 1) (.lst (.o (.s "/")))) (.bi .list (.o (.ix (.v 0) (.i 4))))) (.lst (.o (.s ">")))) (.bi .list (.o (.ix (.v 0) (.i 5)))))))))⟩
def J8:Fn:=⟨1,10,1,(.set 2 c0G>=>.for (htP 1 3 4 5) (.seq (.ix (.v 0) (.i 1))) b5s>=>.set 2 (.bin .add (.v 2) c0F)>=>.for (htP 1 7 8 9) (.seq (.ix (.v 0) (.i 3))) b5r>=>.set 2 (.bin .add (.v 2) c0E)>=>.set 2 (.bin .add (.v 2) c0D)>=>.set 2 (.bin .add (.v 2) c0C)>=>.o (.ret (.mt .join (.s "\n") (.o (.bin .add (.v 2) c0B)))))⟩
noncomputable def O2:Fn:=⟨4,5,2,(.set 4 (.sl (.v 0) (.at (.v 1)) (.at (.bin .add (.v 1) (.v 2))))>=>.o (.ret (.comp (.tp (.nm 0>=>.nm 1>=>.nil)) (.enum (.v 4)) 2 [3] .yes (.ix (.ix (.v 2) (.bin .mod (.call 202 (.v 1>=>.o (.v 0))) (.bi .len (.o (.v 2))))) (.i 0)))))⟩
def loP:Pat:=(.tp (.nm 4>=>.nm 5>=>.nm 6>=>.nm 7>=>.nil))
def loB:Ss:=(.o (.iff (.an (.cmp .eq (.v 4) (.v 2)) (.an (.cmp .le (.v 5) (.v 3)) (.cmp .le (.v 3) (.v 6)))) (.o (.ret (.v 7))) .nil))
def S7:Fn:=⟨4,8,1,(.for loP (.rev (.v 1)) loB>=>.o (.ret (.ix (.bi .dict (.o (.v 0))) (.v 2))))⟩
def fiP:Pat:=(.tp (.nm 3>=>.nm 4>=>.nil))
def fiT:T:=(.an (.cmp .ne (.v 3) (.v 4)) (.orr (.cmp .ne (.ix (.v 3) (.i 0)) (.s "@")) (.cmp .notin (.v 4) (.ix (.v 0) (.sl (.v 3) (.at (.i 1)) .no)))))
def fiB:Ss:=(.o (.iff fiT (.o (.ret (.k (.bl false)))) .nil))
def D2:Fn:=⟨3,5,1,(.iff (.cmp .ne (.bi .len (.o (.v 1))) (.bi .len (.o (.v 2)))) (.o (.ret (.k (.bl false)))) .nil>=>.for fiP (.zip (.v 1) (.v 2)) fiB>=>.o (.ret (.k (.bl true))))⟩
def lhB:Ss:=(.o (.iff (.cmp .eq (.v 4) (.tup .nil)) (.o (.ex (.mt .append (.v 1) (.o (.v 2))))) (.ex (.mt .append (.v 1) (.o (.ix (.v 4) (.i 0))))>=>.o (.set 2 (.ix (.v 4) (.neg (.i 1)))))))
def J7:Fn:=⟨1,5,2,(.set 1 (.lst .nil)>=>.set 2 (.i 0)>=>.for fiP (.seq (.v 0)) lhB>=>.o (.ret (.v 1)))⟩
def shE(a:E):E:=(.comp (.nm 0) (.seq a) 1 [] .yes (.ix (.v 0) (.i 0)))
def wkT:T:=(.cmp .lt (.v 16) (.bi .len (.o (.v 2))))
def wkA:E:=(.sl (.v 14) (.at (.bi .max (.i 0>=>.o (.bin .sub (.bi .len (.o (.v 14))) (.bi .len (.o (.v 6))))))) .no)
def wkC:E:=(.call 223 (.v 10>=>.v 7>=>.o (.sl (.v 12) (.at (.v 16)) (.at (.v 17)))))
def wkF:E:=(.bin .notin (.k (.bl true)) (.sl (.v 13) (.at (.v 16)) (.at (.v 17))))
def wkL:E:=(.call 223 (.v 10>=>.v 8>=>.o (.sl (.v 12) (.at (.v 17)) (.at (.bin .add (.v 17) (.bi .len (.o (.v 8))))))))
def wkI:T:=(.an (.val (.v 19)) (.an (.val wkL) (.val (.call 223 (.v 10>=>.v 6>=>.o (.v 18))))))
def wkX:Ss:=(.o (.ex (.mt .extend (.v 20) (.o (.ix (.v 11) (.i 1))))))
def wkZ:E:=(.comp (.nm 0) (.seq (.sl (.v 9) (.at (.i 1)) .no)) 1 [] .yes (.tup (.v 0>=>.o (.tup .nil))))
noncomputable def wkY:Ss:=(.set 20 (.lst .nil)>=>.for (.nm 11) (.seq (.sl (.v 2) (.at (.v 16)) (.at (.v 17)))) wkX>=>.ex (.mt .append (.v 14) (.o (.tup (.ix (.v 9) (.i 0)>=>.o (.bi .tuple (.o (.v 20)))))))>=>.ex (.mt .extend (.v 14) (.o wkZ))>=>.set 15 (.bin .add (.v 15) (.i 1))>=>.o (.set 16 (.v 17)))
def wkN:Ss:=(.ex (.mt .append (.v 14) (.o (.ix (.v 2) (.v 16))))>=>.o (.set 16 (.bin .add (.v 16) (.i 1))))
def wkB:Ss:=(.set 17 (.bin .add (.v 16) (.bi .len (.o (.v 7))))>=>.set 18 (shE wkA)>=>.set 19 (.an wkC wkF)>=>.o (.iff wkI wkY wkN))
def wkH:E:=(.comp (.nm 0) (.seq (.call 224 (.o (.v 2)))) 1 [5,0,3] .yes (.nt (.call 222 (.ix (.v 2) (.i 6)>=>.v 3>=>.v 1>=>.o (.v 0)))))
def K5:Fn:=⟨4,21,0,(.pat (.tp (.nm 4>=>.nm 5>=>.nm 6>=>.nm 7>=>.nm 8>=>.nm 9>=>.nil)) (.v 1)>=>.set 10 (.bi .dict (.o (.ix (.v 0) (.i 5))))>=>.set 12 (shE (.v 2))>=>.set 13 wkH>=>.set 14 (.lst .nil)>=>.set 15 (.i 0)>=>.set 16 (.i 0)>=>.whl wkT wkB>=>.o (.ret (.tup (.v 14>=>.o (.v 15)))))⟩
def trN(i:Int):E:=(.comp (.tp (.nm 0>=>.nm 1>=>.nil)) (.seq (.ix (.v 0) (.i i))) 2 [] .yes (.v 0))
def trX(i:Nat):E:=(.ix (.v 4) (.bin .mod (.bin .div (.v 2) (.i i)) (.bi .len (.o (.v 4)))))
def trM(i j:Nat):E:=(.bin .mod (.bin .div (.v 2) (.i i)) (.i j))
def trC(e:E):E:=(.ix (.ix (.v 1) e) (.i 0))
def trI:S:=(.iff (.an (.cmp .eq (trM 3 3) (.i 0)) (.cmp .lt (.bin .add (.v 5) (.i 1)) (.bi .len (.o (.v 1))))) (.o (.set 6 (.tup (.cons (trC (.v 5)) (.o (trC (.bin .add (.v 5) (.i 1)))))))) .nil)
def trT:E:=(.sl (.tup (.cons (trX 7) (.cons (trX 11) (.o (trX 13))))) .no (.at (.bin .add (.i 2) (trM 17 2))))
def trB:E:=(.ix (.lst (.tup .nil>=>.tup (.o (.ix (.v 7) (.i 0)))>=>.tup .nil>=>.o (.tup (.o (.ix (.v 7) (.neg (.i 2))))))) (trM 19 4))
def trK:E:=(.ix (.lst (.tup (.o (.ix (.v 7) (.neg (.i 1))))>=>.tup (.o (.ix (.v 7) (.neg (.i 1))))>=>.o (.tup (.ix (.v 7) (.i 0)>=>.o (.ix (.v 7) (.i 1)))))) (trM 23 3))
def trO:E:=(.sl (.tup (.cons (trX 29) (.o (.ix (.v 4) (.i 0))))) .no (.at (.bin .add (.i 1) (trM 31 2))))
def trR:E:=(.lst (.v 8>=>.o (.tup (.s "two">=>.ix (.v 3) (.neg (.i 1))>=>.v 9>=>.v 6>=>.tup .nil>=>.o trO))))
noncomputable def J6:Fn:=⟨3,10,0,(.set 3 (trN 6)>=>.set 4 (trN 0)>=>.set 5 (.bin .mod (.v 2) (.bi .len (.o (.v 1))))>=>.set 6 (.tup (.o (trC (.v 5))))>=>(.cons trI (.set 7 trT>=>.set 8 (.tup (.s "one">=>.ix (.v 3) (.i 0)>=>.tup .nil>=>.v 6>=>.tup .nil>=>.o (.v 7)))>=>.set 9 trB>=>.set 6 trK>=>.o (.ret trR))))⟩
noncomputable def lwG:Ss:=(.set 9 (.call 202 (.call 201 (.v 0>=>.o (.i 5))>=>.o (.bin .add (.v 4) (.i 400))))>=>.set 10 (.bin .mod (.v 9) (.bi .len (.o (.v 3))))>=>.o (.ex (.mt .append (.v 8) (.o (.tup (.ix (.ix (.ix (.v 1) (.i 6)) (.neg (.i 1))) (.i 0)>=>.v 10>=>.bin .add (.v 10) (.bin .mod (.bin .div (.v 9) (.i 64)) (.i 9))>=>.o (.bin .eq (.bin .mod (.bin .div (.v 9) (.i 7)) (.i 2)) (.bin .mod (.v 4) (.i 2)))))))))
noncomputable def lwB:Ss:=(.set 12 (.call 225 (.v 1>=>.v 11>=>.v 5>=>.o (.v 8)))>=>.set 13 (.call 40 (.v 2>=>.v 11>=>.bi .list (.o (.v 5))>=>.o (.bi .list (.o (.v 8)))))>=>.iff (.orr (.nt (.val (.ins 3 (.v 13)))) (.cmp .ne (.v 13) (.v 12))) (.o (.ret (.k (.bl false)))) .nil>=>.o (.set 5 (.ix (.v 12) (.i 0))))
def lwE:Ss:=(.set 8 (.lst (.o (.tup (.ix (.ix (.ix (.v 1) (.i 6)) (.i 0)) (.i 0)>=>.i 0>=>.bi .len (.o (.v 3))>=>.o (.k (.bl true))))))>=>.for (.nm 4) (.rng1 (.i 4)) lwG>=>.for (.nm 11) (.seq (.v 7)) lwB>=>.o (.ret (.k (.bl true))))
def a9a:Fn:=⟨1,14,0,(.set 1 (.call 212 (.v 0>=>.o (.i 2)))>=>.set 2 (.call 12 (.o (.call 215 (.o (.v 1)))))>=>.set 3 (.bin .add (.call 216 (.v 0>=>.i 6>=>.i 40>=>.o (.ix (.v 1) (.i 3)))) (.lst (.o (.ix (.ix (.ix (.v 1) (.i 3)) (.i 0)) (.i 0)))))>=>.set 5 (frE (.call 34 (.v 2>=>.o (.v 3))))>=>.set 6 (.call 202 (.call 201 (.v 0>=>.o (.i 4))>=>.o (.i 9)))>=>.set 7 (.call 226 (.v 1>=>.v 5>=>.o (.v 6)))>=>lwE)⟩
end EV
namespace K21
open PySem L2 EV
def top(i:Nat):Stmt:=PySem.Challenge.pw_glyphhall_k21_homes.main.body.getD i (.Pass ⟨0,0,0,0⟩)
def se(x:Str)(d:D):Str×D:=(x,d)
structure Rc where
 x:Str
 t:Nat
 i:Nat
 n:Nat
 f:Fn
def T:List Rc:=[⟨"law",99,221,1,a9a⟩,⟨"words_of",11,1,1,a1g⟩,⟨"made_of",12,2,2,a2j⟩,⟨"is_name",13,3,1,a2k⟩,⟨"is_number",14,4,1,a0s⟩,⟨"is_signed_number",15,5,1,K8⟩,⟨"class_of_item",16,6,1,Q7⟩,⟨"is_class_item",17,7,1,Q4⟩,⟨"is_item",18,8,1,a2l⟩,⟨"all_names",19,9,1,a2x⟩,⟨"all_signed_numbers",20,10,1,O9⟩,⟨"all_items",21,11,1,a2y⟩,⟨"read_hall",55,12,1,a0r⟩,⟨"take_row",56,13,2,E8⟩,⟨"first_due",57,14,3,a0u⟩,⟨"has_shapes",58,15,2,Y7⟩,⟨"pair_of",59,16,1,a2i⟩,⟨"take_shape",60,17,2,Y2⟩,⟨"has_side_form",61,18,2,Q5⟩,⟨"take_mark",62,19,2,a0q⟩,⟨"take_point",63,20,2,Y3⟩,⟨"has_letter_form",64,21,1,L9⟩,⟨"take_letter",65,22,2,V5⟩,⟨"take_gap",66,23,2,a1h⟩,⟨"take_class",67,24,2,Y4⟩,⟨"take_feature",68,25,2,T3⟩,⟨"take_rule",69,26,2,a0p⟩,⟨"has_rule_form",70,27,1,Q6⟩,⟨"rule_parts",71,28,1,Y5⟩,⟨"has_items",72,29,2,a0t⟩,⟨"has_item",73,30,2,a1j⟩,⟨"has_rule",74,31,2,a1i⟩,⟨"check_letters",35,33,2,F5⟩,⟨"faces_of",36,34,2,Y8⟩,⟨"joined_pairs",37,35,1,I0⟩,⟨"joins_next",38,36,2,J4⟩,⟨"face_among",39,37,3,M0⟩,⟨"fits",23,38,3,a1k⟩,⟨"fitting_shapes",24,39,2,w8⟩,⟨"done",25,40,4,a7Y⟩,⟨"items_fit",26,41,5,U3⟩,⟨"all_fit",27,42,3,W6⟩,⟨"told_cells",28,43,2,R5⟩,⟨"homes_of",29,44,1,Y6⟩,⟨"check_features",30,45,2,J5⟩,⟨"is_on",31,46,4,a1M⟩,⟨"is_on_at_all",32,47,4,L8⟩,⟨"_law_cell_at",76,201,2,E6⟩,⟨"_law_mixed",77,202,2,p8⟩,⟨"_law_names_by",78,203,2,o9⟩,⟨"_law_shapes_by",79,204,1,E1⟩,⟨"_law_spot_by",80,205,1,B9⟩,⟨"_law_marks_by",81,206,2,F6⟩,⟨"_law_points_by",82,207,2,E3⟩,⟨"_law_letters_by",83,208,2,C8⟩,⟨"_law_classes_by",84,209,2,C9⟩,⟨"_law_items_by",85,210,5,C0⟩,⟨"_law_rules_by",86,211,6,B6⟩,⟨"_law_hall_by",87,212,2,M1⟩,⟨"_law_pair_text",88,213,1,E4⟩,⟨"_law_rule_text",89,214,1,E2⟩,⟨"_law_hall_text",90,215,1,J8⟩,⟨"_law_row_by",91,216,4,O2⟩,⟨"_law_on",95,222,4,S7⟩,⟨"_law_fit",94,223,3,D2⟩,⟨"_law_homes",96,224,1,J7⟩,⟨"_law_walked",97,225,4,K5⟩,⟨"_law_two_rules",98,226,3,J6⟩]
def fns:List (Str×Nat×Nat):=T.map λr=>(r.x,r.i,r.n)
def G:GT:={
 fn:=fns
 scal:=[se "FIGURES" (.str "0123456789"),se "NAME_SIGNS" (.str "abcdefghijklmnopqrstuvwxyz0123456789"),se "CLASS_SIGN" (.str "@"),se "LONGEST_NAME" (.int 12),se "LONGEST_NUMBER" (.int 5),se "MOST_SHAPES" (.int 60),se "MOST_LETTERS" (.int 24),se "MOST_CLASSES" (.int 20),se "MOST_FEATURES" (.int 10),se "MOST_RULES" (.int 30),se "MOST_IN_CLASS" (.int 20),se "MOST_AROUND" (.int 3),se "MOST_IN_CORE" (.int 4),se "MOST_TOLD" (.int 3)]
 tups:=[("SIDES",[.str "above",.str "below"]),("WAYS",[.str "left",.str "right",.str "either"]),("SWITCHES",[.str "on",.str "off"]),("JOINS_THAT_TAKE",[.str "both",.str "back"])]
 dicts:=[("SHAPES_OF_JOIN",[(.str "none",.int 1),(.str "clear",.int 1),(.str "back",.int 2),(.str "both",.int 4)])]
 obj:=[("Hall",6)]
 atts:=["shapes","marks","points","letters","gaps","classes","features","rules"]
 blt:=["len","str","int","list","tuple","all","any","isinstance","bool","range","enumerate","zip","dict","max","reversed"]}
def F(i:Nat):Option Fn:=if i=32 then some P0 else(T.find? λr=>Nat.beq r.i i).map (·.f)
def ct:CT:=⟨λ_=>32⟩
abbrev SH:Stmt:=b5o (top 54) 0
theorem bd0{P:List Value->Prop}(h:P []):∀us,↥us=0->P us:=λus e=>List.eq_nil_of_length_eq_zero e▸h
theorem bdS{P:List Value->Prop}{n:Nat}(h:∀a us,↥us=n->P (a::us)):∀us,↥us=n+1->P us:=λus e=>by
 cases us with
 |nil=>cases e
 |cons a r=>exact h a r (Nat.succ.inj e)
theorem bd1{P:List Value->Prop}(h:∀a,P [a]):∀us,↥us=1->P us:=bdS λa=>bd0 (P:=λl=>P (a::l)) (h a)
theorem bd2{P:List Value->Prop}(h:∀a b,P [a,b]):∀us,↥us=2->P us:=bdS λa=>bd1 (P:=λl=>P (a::l)) (h a)
theorem bd3{P:List Value->Prop}(h:∀a b c,P [a,b,c]):∀us,↥us=3->P us:=bdS λa=>bd2 (P:=λl=>P (a::l)) (h a)
theorem bd4{P:List Value->Prop}(h:∀a b c d,P [a,b,c,d]):∀us,↥us=4->P us:=bdS λa=>bd3 (P:=λl=>P (a::l)) (h a)
theorem bd5{P:List Value->Prop}(h:∀a b c d e,P [a,b,c,d,e]):∀us,↥us=5->P us:=bdS λa=>bd4 (P:=λl=>P (a::l)) (h a)
theorem bd6{P:List Value->Prop}(h:∀a b c d e f,P [a,b,c,d,e,f]):∀us,↥us=6->P us:=bdS λa=>bd5 (P:=λl=>P (a::l)) (h a)
abbrev Bd(x q:Str)(st:Stmt)(ps:List Str):Prop:=∀(kV df pm:Value)(an:Option Addr)(cN ct:Value)(us:List Value),↥us=↥ps->bindArgs (fnOf x q (U6 st) (O3 st) (v7 st) .none kV df pm an cN ct) ⟨us,[]⟩=pure (ps.zip us)
def pO(st:Stmt):List Str:=(U6 st).args.map (·.arg)
def nO(st:Stmt):List Str:=pO st++((v7 st).names.filter λy=>(y.2==.local||y.2==.cell)&&!(pO st).contains y.1).map (·.1)
structure Rw(x:Str)(st:Stmt)(id np:Nat)(f:Fn):Prop where
 a:FnScope (nO st) (pO st) (v7 st)
 b:Bd x x st (pO st)
 p:↥(pO st)=np
 i:F id=some f
 q:f.np=np
 s:f.ns=↥(nO st)
 c:cSs G (nO st) (v7 st) 20 (O3 st)=some f.body
local macro_rules | `(tactic| ac_rfl) => `(tactic| exact ⟨⟨rfl, rfl, rfl, by decide +kernel, by kernel_rfl, by decide +kernel, by decide +kernel⟩, λ_ _ _ _ _ _ => by first | exact bd1 λ_ => rfl | exact bd2 λ_ _ => rfl | exact bd3 λ_ _ _ => rfl | exact bd4 λ_ _ _ _ => rfl | exact bd5 λ_ _ _ _ _ => rfl | exact bd6 λ_ _ _ _ _ _ => rfl, by kernel_rfl, rfl, rfl, by kernel_rfl, by kernel_rfl⟩)
def b3I:List Rc->Prop
 |[]=>True
 |r::l=>Rw r.x (top r.t) r.i r.n r.f/\b3I l
theorem rs1{x:Str}{t i n:Nat}{f:Fn}{l:List Rc}(a:Rw x (top t) i n f)(b:b3I l):b3I (⟨x,t,i,n,f⟩::l):=⟨a,b⟩
theorem Rs:b3I T:=by
 repeat (refine rs1 (by ac_rfl) ?_)
 exact True.intro
theorem AH:FnScope ["self"] ["self"] (v7 SH):=⟨rfl,rfl,rfl,by decide+kernel,rfl,by decide+kernel,by decide+kernel⟩
theorem BH:Bd "__init__" "Hall.__init__" SH ["self"]:=λ_ _ _ _ _ _=>bd1 λ_=>rfl
theorem CH:cSs G ["self"] (v7 SH) 20 (O3 SH)=some P0.body:=by kernel_rfl
open PySem.W (nsIn codeIn keepIn findIn)
section
variable{K:Frag}{x:Str}
structure DfE(K:Frag)(x:Str)(st:Stmt):Prop where
 ex:∃f fd,nsIn K mainGlobals x=some (~~~f)/\Fun K x x st f fd
theorem c0M{st:Stmt}{f:Addr}{oc:Value}{od an:Option Addr}{eL:Array (Option Value)}{kV df pm cN ct:Value}(e1:nsIn K mainGlobals x=some (~~~f))(e2:K.lookup f=some ⟨oc,od,.func (fnOf x x (U6 st) (O3 st) (v7 st) .none kV df pm an cN ct),eL⟩)(e3:codeIn K cN x=true)(e4:keepIn K (.ref f)=true):DfE K x st:=⟨f,_,e1,b2E e2 e3 e4⟩
structure StrE(K:Frag)(x y:Str):Prop where
 ex:∃t,nsIn K mainGlobals x=some (some (.str y t))
theorem b6X{y:Str}{t:Tok}(e1:nsIn K mainGlobals x=some (some (.str y t))):StrE K x y:=⟨t,e1⟩
structure IntE(K:Frag)(x:Str)(i:Int):Prop where
 ex:∃t,nsIn K mainGlobals x=some (some (.int i t))
theorem b8k{i:Int}{t:Tok}(e1:nsIn K mainGlobals x=some (some (.int i t))):IntE K x i:=⟨t,e1⟩
structure TupE(K:Frag)(x:Str)(vs:List V):Prop where
 ex:∃a,nsIn K mainGlobals x=some (~~~a)/\∀H,SqT K H a vs
theorem b3S{a:Addr}{d:Option Addr}{n:Nat}{sl:Array (Option Value)}{y z:Str}{t u:Tok}(e1:nsIn K mainGlobals x=some (~~~a))(e2:K.lookup a=some ⟨.type "tuple",d,.seq #[.str y t,.str z u] n,sl⟩):TupE K x [.str y,.str z]:=
 ⟨a,e1,λH=>.inr ⟨_,_,_,e2,rfl,rfl,by show 2<=sizeLine;decide,.cons ⟨_,rfl⟩ (.cons ⟨_,rfl⟩ .nil)⟩⟩
theorem b3R{a:Addr}{d:Option Addr}{n:Nat}{sl:Array (Option Value)}{y z v:Str}{t u r:Tok}(e1:nsIn K mainGlobals x=some (~~~a))(e2:K.lookup a=some ⟨.type "tuple",d,.seq #[.str y t,.str z u,.str v r] n,sl⟩):TupE K x [.str y,.str z,.str v]:=
 ⟨a,e1,λH=>.inr ⟨_,_,_,e2,rfl,rfl,by show 3<=sizeLine;decide,.cons ⟨_,rfl⟩ (.cons ⟨_,rfl⟩ (.cons ⟨_,rfl⟩ .nil))⟩⟩
structure DicE(K:Frag)(P:Program)(w:World)(x:Str)(gs:List (Key×V)):Prop where
 ex:∃a,nsIn K mainGlobals x=some (~~~a)/\b0p P w K a gs
theorem b5U{P:Program}{w:World}{a:Addr}{ep:Nat}{h1 h2 h3 h4:Int}{y1 y2 y3 y4:Str}{i1 i2 i3 i4:Int}{t1 t2 t3 t4 u1 u2 u3 u4:Tok}(e1:nsIn K mainGlobals x=some (~~~a))
 (e2:K.lookup a=some ⟨.type "dict",none,.dict #[⟨h1,.str y1 t1,.int i1 u1⟩,⟨h2,.str y2 t2,.int i2 u2⟩,⟨h3,.str y3 t3,.int i3 u3⟩,⟨h4,.str y4 t4,.int i4 u4⟩] ep,#[]⟩) (ha:(a==sysModules)=false)
 (q1:h1=hashStr w y1) (q2:h2=hashStr w y2) (q3:h3=hashStr w y3) (q4:h4=hashStr w y4) (nd:([.inr y1,.inr y2,.inr y3,.inr y4]:List Key).Nodup):DicE K P w x [(.inr y1,.int i1),(.inr y2,.int i2),(.inr y3,.int i3),(.inr y4,.int i4)]:=by
 refine⟨a,e1,ha,[(.inr y1,.int i1 u1),(.inr y2,.int i2 u2),(.inr y3,.int i3 u3),(.inr y4,.int i4 u4)],?_,λh kin=>⟨_,_,_,kin a _ e2,⟨rfl,rfl,rfl⟩,rfl,?_,?_,nd⟩⟩
 · exact .cons ⟨rfl,_,rfl⟩ (.cons ⟨rfl,_,rfl⟩ (.cons ⟨rfl,_,rfl⟩ (.cons ⟨rfl,_,rfl⟩ .nil)))
 · intro e he;simp only[List.mem_toArray,aF,not_mem_nil,gA] at he;rcases he with rfl|rfl|rfl|rfl
   · exact⟨.inr y1,gV P w y1 t1,q1⟩
   · exact⟨.inr y2,gV P w y2 t2,q2⟩
   · exact⟨.inr y3,gV P w y3 t3,q3⟩
   · exact⟨.inr y4,gV P w y4 t4,q4⟩
 · exact .cons (gV P w y1 t1) rfl (.cons (gV P w y2 t2) rfl (.cons (gV P w y3 t3) rfl (.cons (gV P w y4 t4) rfl .nil)))
structure HallE(K:Frag)(C:Addr):Prop where
 ex:∃f fd,Mk K C f/\Fun K "__init__" "Hall.__init__" SH f fd
theorem b5u{C f:Addr}{oc:Value}{od an:Option Addr}{eL:Array (Option Value)}{kV df pm cN ct:Value}(m1:makesIn K C=true)(m2:findIn K (.ref C) "__init__"=some (~~~f))(m3:isFn K (.ref f)=true)(m4:keepIn K (.ref C)=true)
 (e2:K.lookup f=some ⟨oc,od,.func (fnOf "__init__" "Hall.__init__" (U6 SH) (O3 SH) (v7 SH) .none kV df pm an cN ct),eL⟩) (e3:codeIn K cN "Hall.__init__"=true) (e4:keepIn K (.ref f)=true):HallE K C:=⟨f,_,⟨m1,m2,m3,m4⟩,b2E e2 e3 e4⟩
end
theorem K2{α:Type}{x y:Str}{a b:α}{l:List (Str×α)}(h:((y,a)::l).lookup x=some b):(x=y/\a=b)∨l.lookup x=some b:=by
 rw[lookup_cons] at h;split at h
 · rename_i e;exact .inl ⟨eq_of_beq e,ax h⟩
 · exact .inr h
theorem a6J{α:Type}{x:Str}{b:α}(h:([]:List (Str×α)).lookup x=some b):False:=by simp at h
section
variable{K:Frag}{P:Program}{w:World}{h:Heap}{mg:Str->Option Value}
theorem row{x:Str}{st:Stmt}{id np:Nat}{fn:Fn}(X:K.In h)(Gg:h.Ns mainGlobals mg)(d:DfE K x st)(R:Rw x st id np fn):∃f fd st N ps,mg x= ~~~f/\RowOk K G F x x id np f fd st N ps:=by obtain⟨f,fd,e,F⟩:=d.ex;exact⟨f,fd,st,_,_,mg_of X Gg e,F,R.a,F.binds R.b,R.p,fn,R.i,R.q,R.s,R.c⟩
def a8l(K:Frag)(mg:Str->Option Value):List (Str×Nat×Nat)->Prop
 |[]=>True
 |p::l=>(∃f fd st N ps,mg p.1= ~~~f/\RowOk K G F p.1 p.1 p.2.1 p.2.2 f fd st N ps)/\a8l K mg l
theorem a8v:∀{l:List (Str×Nat×Nat)},a8l K mg l->∀x id np,l.lookup x=some (id,np)->∃f fd st N ps,mg x= ~~~f/\RowOk K G F x x id np f fd st N ps
 |[],_,x,id,np,h=>(a6J h).elim
 |(y,a,b)::l,r,x,id,np,h=>by
  rcases K2 h with⟨rfl,e⟩|h
  · cases e;exact r.1
  · exact a8v r.2 x id np h
def b3K(K:Frag):List Rc->Prop
 |[]=>True
 |r::l=>DfE K r.x (top r.t)/\b3K K l
theorem ds1{x:Str}{t i n:Nat}{f:Fn}{l:List Rc}(a:DfE K x (top t))(b:b3K K l):b3K K (⟨x,t,i,n,f⟩::l):=⟨a,b⟩
theorem a8u(X:K.In h)(Gg:h.Ns mainGlobals mg):∀{l:List Rc},b3K K l->b3I l->a8l K mg (l.map λr=>(r.x,r.i,r.n))
 |[],_,_=>True.intro
 |_::_,d,q=>⟨row X Gg d.1 q.1,a8u X Gg d.2 q.2⟩
variable{c6:Addr}(k6:nsIn K mainGlobals "Hall"=some (~~~c6))(fs:b3K K T)(da:StrE K "FIGURES" "0123456789")(cw:StrE K "NAME_SIGNS" "abcdefghijklmnopqrstuvwxyz0123456789")(cC:StrE K "CLASS_SIGN" "@")(cb:IntE K "LONGEST_NAME" 12)(bT:IntE K "LONGEST_NUMBER" 5)(cq:IntE K "MOST_SHAPES" 60)(bY:IntE K "MOST_LETTERS" 24)(ca:IntE K "MOST_CLASSES" 20)(bV:IntE K "MOST_FEATURES" 10)(cy:IntE K "MOST_RULES" 30)(bU:IntE K "MOST_IN_CLASS" 20)(cr:IntE K "MOST_AROUND" 3)(bZ:IntE K "MOST_IN_CORE" 4)(cJ:IntE K "MOST_TOLD" 3)(dF:TupE K "SIDES" [.str "above",.str "below"])(cP:TupE K "SWITCHES" [.str "on",.str "off"])(eg:TupE K "WAYS" [.str "left",.str "right",.str "either"])(bR:TupE K "JOINS_THAT_TAKE" [.str "both",.str "back"])(dJ:DicE K P w "SHAPES_OF_JOIN" [(.inr "none",.int 1),(.inr "clear",.int 1),(.inr "back",.int 2),(.inr "both",.int 4)])(hall:HallE K c6)(cl:Cls K c6)(dn:findIn K (.ref c6) "shapes"=some none)(dH:findIn K (.ref c6) "marks"=some none)(dq:findIn K (.ref c6) "points"=some none)(cX:findIn K (.ref c6) "letters"=some none)(ej:findIn K (.ref c6) "gaps"=some none)(cY:findIn K (.ref c6) "classes"=some none)(cQ:findIn K (.ref c6) "features"=some none)(dG:findIn K (.ref c6) "rules"=some none)(fA:nsIn K mainGlobals "len"=some none)(fw:nsIn K mainGlobals "str"=some none)(fB:nsIn K mainGlobals "int"=some none)(eD:nsIn K mainGlobals "list"=some none)(dO:nsIn K mainGlobals "tuple"=some none)(fD:nsIn K mainGlobals "all"=some none)(fC:nsIn K mainGlobals "any"=some none)(cD:nsIn K mainGlobals "isinstance"=some none)(eF:nsIn K mainGlobals "bool"=some none)(dP:nsIn K mainGlobals "range"=some none)(cK:nsIn K mainGlobals "enumerate"=some none)(fu:nsIn K mainGlobals "zip"=some none)(eE:nsIn K mainGlobals "dict"=some none)(fz:nsIn K mainGlobals "max"=some none)(cU:nsIn K mainGlobals "reversed"=some none)
include k6 fs da cw cC cb bT cq bY ca bV cy bU cr bZ cJ dF cP eg bR dJ hall cl dn dH dq cX ej cY cQ dG fA fw fB eD dO fD fC cD eF dP cK fu eE fz cU
theorem b4g(X:K.In h)(Gg:h.Ns mainGlobals mg):Stat P w ⟨K,λ_=>c6,[6],[]⟩ G ct F mg where
 scal:=λx d hx=>by
  have S:∀{x y:Str},StrE K x y->∃u v,mg x=some u/\m8 v u/\∀m H,Rp m H (.str y) v:=λe=>by obtain⟨t,e⟩:=e.ex;exact⟨_,.str _,mg_of X Gg e,⟨t,rfl⟩,λ_ _=>rfl⟩
  have I:∀{x:Str}{i:Int},IntE K x i->∃u v,mg x=some u/\m8 v u/\∀m H,Rp m H (.int i) v:=λe=>by obtain⟨t,e⟩:=e.ex;exact⟨_,.int _,mg_of X Gg e,⟨t,rfl⟩,λ_ _=>rfl⟩
  unfold G se at hx;simp only at hx;rcases K2 hx with⟨rfl,rfl⟩|hx
  · exact S da
  rcases K2 hx with⟨rfl,rfl⟩|hx
  · exact S cw
  rcases K2 hx with⟨rfl,rfl⟩|hx
  · exact S cC
  rcases K2 hx with⟨rfl,rfl⟩|hx
  · exact I cb
  rcases K2 hx with⟨rfl,rfl⟩|hx
  · exact I bT
  rcases K2 hx with⟨rfl,rfl⟩|hx
  · exact I cq
  rcases K2 hx with⟨rfl,rfl⟩|hx
  · exact I bY
  rcases K2 hx with⟨rfl,rfl⟩|hx
  · exact I ca
  rcases K2 hx with⟨rfl,rfl⟩|hx
  · exact I bV
  rcases K2 hx with⟨rfl,rfl⟩|hx
  · exact I cy
  rcases K2 hx with⟨rfl,rfl⟩|hx
  · exact I bU
  rcases K2 hx with⟨rfl,rfl⟩|hx
  · exact I cr
  rcases K2 hx with⟨rfl,rfl⟩|hx
  · exact I bZ
  rcases K2 hx with⟨rfl,rfl⟩|hx
  · exact I cJ
  exact(a6J hx).elim
 tups:=λx ds hx=>by
  unfold G at hx;simp only at hx;rcases K2 hx with⟨rfl,rfl⟩|hx
  · obtain⟨a,e,s⟩:=dF.ex;exact⟨a,_,mg_of X Gg e,s,λ_ _=>⟨.str "above",_,rfl,rfl,⟨.str "below",_,rfl,rfl,rfl⟩⟩⟩
  rcases K2 hx with⟨rfl,rfl⟩|hx
  · obtain⟨a,e,s⟩:=eg.ex;exact⟨a,_,mg_of X Gg e,s,λ_ _=>⟨.str "left",_,rfl,rfl,⟨.str "right",_,rfl,rfl,⟨.str "either",_,rfl,rfl,rfl⟩⟩⟩⟩
  rcases K2 hx with⟨rfl,rfl⟩|hx
  · obtain⟨a,e,s⟩:=cP.ex;exact⟨a,_,mg_of X Gg e,s,λ_ _=>⟨.str "on",_,rfl,rfl,⟨.str "off",_,rfl,rfl,rfl⟩⟩⟩
  rcases K2 hx with⟨rfl,rfl⟩|hx
  · obtain⟨a,e,s⟩:=bR.ex;exact⟨a,_,mg_of X Gg e,s,λ_ _=>⟨.str "both",_,rfl,rfl,⟨.str "back",_,rfl,rfl,rfl⟩⟩⟩
  exact(a6J hx).elim
 dicts:=λx bC hx=>by
  unfold G at hx;simp only at hx;rcases K2 hx with⟨rfl,rfl⟩|hx
  · obtain⟨a,e,d⟩:=dJ.ex;exact⟨a,_,mg_of X Gg e,d,λ_ _=>.cons ⟨rfl,rfl⟩ (.cons ⟨rfl,rfl⟩ (.cons ⟨rfl,rfl⟩ (.cons ⟨rfl,rfl⟩ .nil)))⟩
  exact(a6J hx).elim
 blt:=λx hx=>by
  rw[List.contains_iff_mem] at hx;unfold G at hx;simp only[aF,not_mem_nil,gA] at hx;rcases hx with rfl|rfl|rfl|rfl|rfl|rfl|rfl|rfl|rfl|rfl|rfl|rfl|rfl|rfl|rfl
  · exact ns_none_of X Gg fA
  · exact ns_none_of X Gg fw
  · exact ns_none_of X Gg fB
  · exact ns_none_of X Gg eD
  · exact ns_none_of X Gg dO
  · exact ns_none_of X Gg fD
  · exact ns_none_of X Gg fC
  · exact ns_none_of X Gg cD
  · exact ns_none_of X Gg eF
  · exact ns_none_of X Gg dP
  · exact ns_none_of X Gg cK
  · exact ns_none_of X Gg fu
  · exact ns_none_of X Gg eE
  · exact ns_none_of X Gg fz
  · exact ns_none_of X Gg cU
 fn:=λx id np hx=>a8v (l:=fns) (a8u X Gg fs Rs) x id np hx
 obj:=λx k hx=>by
  unfold G at hx;simp only at hx;rcases K2 hx with⟨rfl,rfl⟩|hx
  · obtain⟨f,fd,M,F⟩:=hall.ex;exact⟨by simp,mg_of X Gg k6,f,fd,SH,["self"],["self"],"Hall.__init__",M,F,AH,F.binds BH,rfl,P0,rfl,rfl,rfl,CH⟩
  exact(a6J hx).elim
 att:=λk hk=>by
  refine⟨cl,λf hf=>?_⟩;rw[List.contains_iff_mem] at hf;unfold G at hf;simp only[aF,not_mem_nil,gA] at hf;rcases hf with rfl|rfl|rfl|rfl|rfl|rfl|rfl|rfl
  · exact dn
  · exact dH
  · exact dq
  · exact cX
  · exact ej
  · exact cY
  · exact cQ
  · exact dG
theorem b4h:∃cA,DfE K "law" (top 99)/\∀{h:Heap}{mg:Str->Option Value},K.In h->h.Ns mainGlobals mg->Stat P w ⟨K,cA,[6],[]⟩ G ct F mg:=⟨_,fs.1,λX Gg=>b4g k6 fs da cw cC cb bT cq bY ca bV cy bU cr bZ cJ dF cP eg bR dJ hall cl dn dH dq cX ej cY cQ dG fA fw fB eD dO fD fC cD eF dP cK fu eE fz cU X Gg⟩
end
open PyProof.Rows hiding St
theorem b9v{l:PySem.W.OpenLaw}{n k:Nat}{q:Program}{dD:List Str}{XP:(Str->Option Value)->Heap->Prop}{YP:World->Heap->Prop}{d:DefRec}{K:Params->Frag}{CX:World->CXT}{sp:Frag->Sp}{x:Str}
 (hn:l.most=some n) (hn2:n<=sizeLine) (hdf:d.params.defaults=[]) (hr:Room k callerA)
 (hY:∀(w:World)(h:Heap),YP w h->(K w.params).In h)
 (F:∀(w:World)(mg:Str->Option Value)(fa:Addr)(h:Heap),(K w.params).In h->h.Ns mainGlobals mg->mg d.name= ~~~fa→
  ∃fd:FuncData,(∀(s:Shared)(u:Value),BindsTo s fd ⟨[u],[]⟩ [(x,u)])∧
   ∀base:Heap,(K w.params).In base->base.Ns mainGlobals mg->FnOk l.prog w (K w.params) mg base (CX w) k fa fd [x] (sp (K w.params)))
 (eY:∀(w:World)(H:Hp)(a:Addr)(ns:List Int),↥ns<=n->b3J H->SqL (K w.params) H a (ns.map V.int)->sp (K w.params) [.ref a] H (λv _=>v=.bl true) λ_ _ _=>False)
 (hCX:∀(w:World)(H:Hp)(s:Shared)(e:Value)(s':Shared),CX w [] H s (λ_ _ _=>False) e s'->False):
 PySem.W.WalkO q dD XP YP l.row.toRowW d [] (λf vs=>PySem.call f vs):=
 b3O (K:=K) (CX:=CX) (sp:=λw=>sp (K w.params)) hn hn2 hdf hr hY F eY hCX
def spK(K:Frag):Sp:=λvs H Q E=>∀cA,a5c ⟨K,cA,[6],[]⟩ (b5 ct F 20) 221 1 vs H Q E
theorem b8s{K:Frag}{P:Program}{w:World}{cA:Nat->Addr}{h:Heap}{mg:Str->Option Value}{fa:Addr}(D:DfE K "law" (top 99))(S:Stat P w ⟨K,cA,[6],[]⟩ G ct F mg)(X:K.In h)(Gg:h.Ns mainGlobals mg)(hmg:mg "law"= ~~~fa):
 ∃fd,(∀(s:Shared)(u:Value),BindsTo s fd ⟨[u],[]⟩ [("_law_script",u)])/\∀base:Heap,FnOk P w K mg base CX0 46 fa fd ["_law_script"] (spK K):=by
 obtain⟨f,fd,e,Fn⟩:=D.ex;have e0:=hmg.symm.trans (mg_of X Gg e);cases e0;have R:RowOk K G F "law" "law" 221 1 fa fd (top 99) (nO (top 99)) (pO (top 99)):=⟨Fn,Rs.1.a,Fn.binds Rs.1.b,Rs.1.p,a9a,Rs.1.i,Rs.1.q,Rs.1.s,Rs.1.c⟩;refine⟨fd,λs u=>?_,λbase=>?_⟩
 · obtain⟨oc,od,kV,df,pm,an,cN,ct,eL,rfl,lk,ff⟩:=Fn.ex;exact .of_eq (Rs.1.b kV df pm an cN ct [u] rfl)
 · have ih:=b8r S 19;have g:=a5G S ih.1 ih.2 (b3B S 19) R base;exact⟨λvs H Q E hh=>g.len vs H Q E (hh cA),λA outer s H args us vs Q E a1 a2 a3 a4 hh=>g.run A outer s H args us vs Q E a1 a2 a3 a4 (hh cA)⟩
def isL(o:Obj):Bool:=match o.cls with
 |.type n=>n=="list"
 |_=>false
def b1J(K:Frag):Bool:=K.all λp=>!isL p.2
theorem b5a{K:Frag}(h:b1J K=true){a:Addr}{o:Obj}(e:K.lookup a=some o):o.cls≠.type "list":=by
 intro z;have hm:∃b,(b,o)∈K:=by
  clear h
  induction K with
  |nil=>cases e
  |cons p r ih=>
   rw[lookup_cons] at e;split at e
   · cases e;exact⟨p.1,aY⟩
   · obtain⟨b,hb⟩:=ih e;exact⟨b,aE _ hb⟩
 obtain⟨b,hb⟩:=hm;have:=bm.mp h (b,o) hb;unfold isL at this;simp only at this;rw[z] at this;simp at this
theorem a6q(m:List Addr)(H:Hp):∀ns:List Int,Rps m H (ns.map D.int) (ns.map V.int)
 |[]=>rfl
 |n::r=>⟨_,_,rfl,rfl,a6q m H r⟩
theorem b7W{K:Frag}{H:Hp}{a:Addr}{ns:List Int}(LT:∀ns:List Int,↥ns<=63->∃h',b5 ct F 20 221 [.ref 0] [.rol (ns.map .int)]=.ok (.bl true) h')(nl:b1J K=true)(hl:↥ns<=63)(hO:b3J H)(hS:SqL K H a (ns.map V.int)):
 spK K [.ref a] H (λv _=>v=.bl true) λ_ _ _=>False:=by
 intro cA;obtain⟨h',e⟩:=LT ns hl;have hf:∃o,H a=some (.frz o (.lst (ns.map V.int))):=by
  rcases hS with hS|⟨o,bD,n,hk,hc,_⟩
  · rcases hS with hS|hS
    · rcases hO a with z|⟨o,xs,z⟩
      · rw[hS] at z;cases z
      · rw[hS] at z;cases z
    · exact hS
  · exact absurd hc (b5a nl hk)
 refine⟨[.ref 0],[.rol (ns.map .int)],[a],rfl,⟨_,_,rfl,⟨a,rfl,rfl⟩,rfl⟩,⟨rfl,by simp,λn b c hn hc=>?_⟩,?_⟩
 · cases n with
   |zero=>
    cases hn;cases hc;obtain⟨o,hf⟩:=hf;exact⟨_,hS,a6q _ _ _,o,hf⟩
   |succ n=>simp at hn
 · rw[e];exact λm' H' v _ _ _ rv=>rv
end K21
namespace EV
open PySem L2 L2T
def a2F:R Out->R D
 |.ok (.nx _) h=>.ok .non h
 |.ok (.rt d) h=>.ok d h
 |.no=>.no
theorem a0U:∀{a b:List Char},a.map Char.toNat=b.map Char.toNat->a=b
 |[],[],_=>rfl
 |[],_::_,h=>by simp at h
 |_::_,[],h=>by simp at h
 |x::xs,y::ys,h=>by rw[map_cons,map_cons] at h;injection h with h1 h2;rw[a0U h2,Char.ext (UInt32.toNat_inj.mp h1)]
theorem a5o{a b:String}:(Str.ofString a=Str.ofString b)=(a=b):=propext ⟨λh=>by rw[Str.ofString_eq_toList,Str.ofString_eq_toList] at h;injection h with h;have:=fN Array.toList h;exact String.toList_inj.mp (a0U (by simpa using this)),λh=>by rw[h]⟩
theorem sl1:(1<=SL)=True:=eq_true ∅
theorem sl2:(2<=SL)=True:=eq_true ∅
theorem sl3:(3<=SL)=True:=eq_true ∅
theorem sl4:(4<=SL)=True:=eq_true ∅
theorem sl5:(5<=SL)=True:=eq_true ∅
theorem sl6:(6<=SL)=True:=eq_true ∅
variable{env:o8}{h:AH}
theorem b4R:a2F (.ok (.nx env) h)=.ok .non h:=rfl
variable{d:D}
theorem b4Q:a2F (.ok (.rt d) h)=.ok d h:=rfl
theorem b4S:a2F .no=.no:=rfl
structure PF(F:Nat->Option Fn):Prop where
 f1:F 1=some a1g
 f2:F 2=some a2j
 f3:F 3=some a2k
 f4:F 4=some a0s
 f5:F 5=some K8
 f6:F 6=some Q7
 f7:F 7=some Q4
 f8:F 8=some a2l
 f9:F 9=some a2x
 f10:F 10=some O9
 f11:F 11=some a2y
 f12:F 12=some a0r
 f13:F 13=some E8
 f14:F 14=some a0u
 f15:F 15=some Y7
 f16:F 16=some a2i
 f17:F 17=some Y2
 f18:F 18=some Q5
 f19:F 19=some a0q
 f20:F 20=some Y3
 f21:F 21=some L9
 f22:F 22=some V5
 f23:F 23=some a1h
 f24:F 24=some Y4
 f25:F 25=some T3
 f26:F 26=some a0p
 f27:F 27=some Q6
 f28:F 28=some Y5
 f29:F 29=some a0t
 f30:F 30=some a1j
 f31:F 31=some a1i
 f32:F 32=some P0
variable{n:Nat}{ds:List D}{p:Pat}{c:CF}{l:List D}{α:Type}{g:AH}{h1:AH}
section
variable{ct:CT}{F:Nat->Option Fn}
theorem i6{f:Nat}{fd:Fn}(hF:F f=some fd)(hl:↥ds=fd.np):b5 ct F (n+1) f ds h=gcR fd.gc h (a2F (exs ct (b5 ct F n) fd.body (ds.map some++List.replicate (fd.ns-fd.np) none) h)):=by
 show(match F f with
  |none=>R.no
  |some fd=>if ↥ds=fd.np then gcR fd.gc h (match exs ct (b5 ct F n) fd.body (ds.map some++List.replicate (fd.ns-fd.np) none) h with
   |.ok (.nx _) h'=>.ok .non h'
   |.ok (.rt d) h'=>.ok d h'
   |.no=>.no) else .no)=_
 rw[hF];simp only;rw[ay hl];generalize exs ct (b5 ct F n) fd.body (ds.map some++List.replicate (fd.ns-fd.np) none) h=r;cases r with
 |ok o h=>cases o<;>rfl
 |no=>rfl
theorem a1m{g:List (Nat×Cell)}{p:Pat}{t:o8->AH->R Bool}{e:o8->AH->R D}{env0:o8}{h:AH}(hg:gOk g h=true)(B:D->Bool)(f:D->D)(env:D->o8):
 ∀(l bM:List D),(∀x∈l,F7 p x env0=some (env x)/\t (env x) h=.ok (B x) h/\(B x=true->e (env x) h=.ok (f x) h))->↥bM+↥l<=SL->Q1 g p t e env0 l bM h=.ok (bM++(l.filter B).map f) h
 |[],bM,_,_=>by rw[Q1,ay hg];simp
 | x::r,bM,hx,hl=>by
  obtain⟨h1,h2,h3⟩:=hx x aY;have ih:=λacc' hl'=>a1m hg B f env r acc' (λy hy=>hx y (aE _ hy)) hl';rw[Q1,ay hg,h1];simp only;rw[h2,b9];rw[length_cons] at hl;cases hb:B x with
  |true=>
   rw[ay rfl,h3 hb,b9,ay nofun,ih _ (by simp;ac_nf),List.filter_cons_of_pos hb];simp
  |false=>
   rw[az ⋯,ih _ nofun,List.filter_cons_of_neg (by simp[hb])]
theorem b0k{g:List (Nat×Cell)}{e:o8->AH->R D}{env0:o8}(hg:gOk g h=true)(f:D->D)(env:D->o8)(l:List D)(hx:∀x∈l,F7 p x env0=some (env x)/\e (env x) h=.ok (f x) h)(hl:↥l<=SL):
 Q1 g p (tst ct c .yes) e env0 l [] h=.ok (l.map f) h:=by
 have:=a1m (t:=tst ct c .yes) hg (λ_=>true) f env l [] (λx dY=>⟨(hx x dY).1,rfl,λ_=>(hx x dY).2⟩) (by simpa using hl);rw[this,List.filter_eq_self.mpr (λ_ _=>rfl),nil_append]
theorem a3Y{α:Type}(P:α->Bool):∀l:List α,a7n (l.map λx=>D.bl (P x))=some (l.map P)
 |[]=>rfl
 |x::r=>by rw[map_cons,a7n,a3Y P r];rfl
theorem a1X:∀l:List Str,a3i (l.map D.str)=some l
 |[]=>rfl
 |x::r=>by rw[map_cons,a3i,a1X r];rfl
theorem a1z:rdL (h++[.lst l]) ↥h=some l:=by unfold rdL;simp
theorem b7{c:Cell}:(h++[c])[↥h]? =some c:=by simp
theorem a1U{P:α->Bool}{l:List α}:biD .all (h++[.lst (l.map λx=>D.bl (P x))]) [.ref ↥h]=.ok (.bl (l.all P)) (h++[.lst (l.map λx=>D.bl (P x))]):=by simp only[biD,bi1,biL,b7,a1z,a3Y];congr 2;simp[all_map]
theorem b6l{P:α->Bool}{l:List α}:biD .any (h++[.lst (l.map λx=>D.bl (P x))]) [.ref ↥h]=.ok (.bl (l.any P)) (h++[.lst (l.map λx=>D.bl (P x))]):=by simp only[biD,bi1,biL,b7,a1z,a3Y];congr 2;simp[List.any_map]
theorem gc1(hd:d.flat=true):gcR 1 h (.ok d (h++g))=.ok d h:=by unfold gcR;simp only;rw[az ∅];simp[hd]
theorem r8(hd:d.flat=true):gcR 1 h (.ok d h)=.ok d h:=by
 have:=gc1 (h:=h) (g:=[]) hd
 simpa using this
theorem gc0{r:R D}:gcR 0 h r=r:=by cases r<;>rfl
def N7(row:Str):List Str:=(Txt.split row " ").filter λw=>decide (w≠"")
theorem a2s(c:Nat):∀cs:List Nat,∃ps:List (List Nat),ps≠[]/\(∀p∈ps,c∉p)/\jn c ps=cs
 |[]=>⟨[[]],by simp,by simp,rfl⟩
 | x ::cs=>by
  obtain⟨ps,h1,h2,h3⟩:=a2s c cs
  by_cases hx:x=c
  · subst hx;refine⟨[]::ps,by simp,λp hp=>?_,?_⟩
    · rcases aF.mp hp with rfl|hp
      · simp
      · exact h2 p hp
    · cases ps with
      |nil=>exact absurd rfl h1
      |cons p r=>rw[←h3];rfl
  · cases ps with
    |nil=>exact absurd rfl h1
    |cons p r=>
     refine⟨(x::p)::r,by simp,λq hq=>?_,?_⟩
     · rcases aF.mp hq with rfl|hq
       · intro hc;rcases aF.mp hc with e|e
         · exact hx e.symm
         · exact h2 p aY e
       · exact h2 q (aE _ hq)
     · rw[←h3];cases r<;>rfl
theorem b2b(c:Nat):∀ps:List (List Nat),↥ps<=↥(jn c ps)+1
 |[]=>by simp
 |[x]=>by simp
 |x::y::r=>by have:=b2b c (y::r);show(y::r).length+1<=↥(x++c::jn c (y::r))+1;simp only[aq,length_cons] at this⊢;ac_nf
theorem a9w(x:Str)(c:Nat):↥(Txt.split x ⟨#[c]⟩)<=↥x+1:=by
 obtain⟨ps,h1,h2,h3⟩:=a2s c (cd x);have e:(ps.map λp=>(⟨p.toArray⟩:Str)).map cd=ps:=by rw[aI];refine List.map_id'' (λp=>?_) ps;simp[cd]
 rw[a3k (ps:=ps.map λp=>(⟨p.toArray⟩:Str)) (by simpa using h1) (λp hp=>by
  obtain⟨q,hq,rfl⟩:=al.mp hp
  simpa [cd] using h2 q hq) (by rw[e,h3]),aa,←t9,←h3]
 exact b2b c ps
theorem D8:∀l:List Str,D.flats (l.map D.str)=true
 |[]=>rfl
 |x::r=>by rw[map_cons,D.flats,D8 r];rfl
section
variable{a b e:E}{t:T}
theorem a8R{i:Int}:a8S (.ok (.int i) h)=.ok (some i) h:=rfl
theorem a0D{b:Bool}:asB (.ok (.bl b) h)=.ok b h:=rfl
theorem a2Y{it:I}{fr:List Nat}{x:Its}{h2:AH}(hi:evi ct c it env h=.ok x h1)(hc:Q1 x.2 p (tst ct c t) (ev ct c e) (F0 n fr env) x.1 [] h1=.ok ds h2):ev ct c (.comp p it n fr t e) env h=.ok (.ref ↥h2) (h2++[.lst ds]):=by show(evi ct c it env h).bind _=_;rw[hi,b9,hc];rfl
end
section
variable{e:E}{t:T}
theorem M3{it:I}{fr:List Nat}{g:List (Nat×Cell)}(hi:evi ct c it env h=.ok (l,g) h1)(hg:gOk g h1=true)(B:D->Bool)(f:D->D)(cH:D->o8)
 (hx:∀x∈l,F7 p x (F0 n fr env)=some (cH x)/\tst ct c t (cH x) h1=.ok (B x) h1/\(B x=true->ev ct c e (cH x) h1=.ok (f x) h1)) (hl:↥l<=SL):ev ct c (.comp p it n fr t e) env h=.ok (.ref ↥h1) (h1++[.lst ((l.filter B).map f)]):=
 a2Y (x:=(l,g)) hi (a1m hg B f cH l [] hx (by simpa using hl))
theorem n9{it:I}{fr:List Nat}{g:List (Nat×Cell)}(hi:evi ct c it env h=.ok (l,g) h1)(hg:gOk g h1=true)(f:D->D)(cH:D->o8)
 (hx:∀x∈l,F7 p x (F0 n fr env)=some (cH x)/\ev ct c e (cH x) h1=.ok (f x) h1) (hl:↥l<=SL):ev ct c (.comp p it n fr .yes e) env h=.ok (.ref ↥h1) (h1++[.lst (l.map f)]):=
 a2Y (x:=(l,g)) hi (b0k hg f cH l hx hl)
end
theorem gc2{k:Nat}{c:Cell}(hk:(h++g)[k]? =some c)(hl:↥h<=k)(hc:c.flat=true):gcR 2 h (.ok (.ref k) (h++g))=.ok (.ref ↥h) (h++[c]):=by unfold gcR;simp only[hk];simp[hl,hc]
end
end EV
local macro_rules
  | `(tactic| simp! [$ls,*]) => `(tactic| simp only [EV.b0e, EV.b3d, EV.b3f, EV.b8z, EV.b5H, EV.c0R, EV.c0T, EV.b8x, EV.b8D, EV.b3e, EV.b6A, EV.b8C, EV.b3c, EV.b8w, EV.b5K, EV.b8y, EV.b5N, EV.b6B, EV.c0S, EV.b3b, EV.b8B, EV.b5J, EV.b5I, EV.a2X, EV.a3O, EV.a4W, EV.b3T, EV.b3W, EV.b3V, EV.b0z, EV.b3X, EV.b6N, EV.b3U, EV.b6M, EV.b2Y, EV.a8a, EV.a8R, EV.a0D, EV.R7, EV.a6Y, EV.a3Q, EV.b5F, EV.a0v, EV.b2X, EV.a2m, EV.a5L, EV.a3N, EV.b8u, EV.b8v, EV.a2W, EV.D0, EV.b9, EV.b6h,
      map_cons, map_nil, cons_append, nil_append, List.getElem?_cons_zero, List.getElem?_cons_succ, List.set_cons_zero, List.set_cons_succ, List.replicate, length_cons, length_nil, fU, gz, fZ, Bool.true_eq_false, EV.b4Q, EV.b4R, EV.b4S, Nat.reduceSub, Nat.reduceAdd, Nat.reduceLT, aB, gd, EV.a5o, String.reduceEq, EV.sl1, EV.sl2, EV.sl3, EV.sl4, EV.sl5, EV.sl6, $ls,*])
namespace EV
open PySem L2 L2T
variable{z:Str}{h:AH}{xs:List D}{w:Nat}{d:D}{n:Nat}{id:Nat}{ws:List Str}
section
variable{ct:CT}{F:Nat->Option Fn}
def due(a b c:Bool):Option Str:=if a then some "twice" else if !b then some "name" else if c then some "many" else none
def V6:Option Str->D
 |some x=>.str x
 |none=>.non
theorem W8(o:Option Str):decide (V6 o=.non)=o.isNone:=by cases o<;>simp[V6]
theorem a0z{a b c:Bool}(h:due a b c=none):a=false/\b=true/\c=false:=by cases a<;>cases b<;>cases c<;>simp[due] at h⊢
theorem X1{c:Nat}:Txt.startswith z ⟨#[c]⟩=decide ((cd z).head? =some c):=by have:=StrLaws.subAt_one z c 0;unfold Txt.startswith;rw[gI,ae,gG,this,gG];show(cd z)[0]? =some c↔_;rw[List.head?_eq_getElem?]
theorem a3p(z:Str)(h:1<=↥z):Txt.slice z (some 1) none=tl z:=by
 rw[slice_from_eq (b:=↥z) ∅ nofun rfl];unfold tl;congr 2;have:↥(z.cps.toList.drop 1)=↥z-1:=by rw[bx,show z.cps.toList.length=z.length from t9 z]
 show List.take ((↥z:Int)-1).toNat (List.drop 1 z.cps.toList)=_;exact bg nofun
theorem ix_str{i c:Nat}(hl:↥z<=SL)(hc:(cd z)[i]? =some c):ixD h (.str z) (.int (i:Nat))=.ok (.str ⟨#[c]⟩) h:=by
 have hi:=(ac.mp hc).1;have:atI z.cps.toList (i:Int)=some c:=by
  show(ixN ↥(cd z) (i:Int)).bind (λj=>(cd z)[j]?)=some c;have e:ixN ↥(cd z) (i:Int)=some i:=by unfold ixN;rw[ay nofun,ay nofun];simp
  rw[e];exact hc
 simp only[ixD,ay hl,this]
theorem o0{i:Nat}(hw:h[w]? =some (.lst xs))(hd:xs[i]? =some d):ixD h (.ref w) (.int (i:Nat))=.ok d h:=by
 have hi:=(ac.mp hd).1;have:atI xs (i:Int)=some d:=by
  show(ixN ↥xs (i:Int)).bind (λj=>xs[j]?)=some d;have e:ixN ↥xs (i:Int)=some i:=by unfold ixN;rw[ay nofun,ay nofun];simp
  rw[e];exact hd
 simp only[ixD,hw,this]
variable(W:PF F)
include W
theorem a6e{row:Str}(hr:row.length<=100000):b5 ct F (n+1) 1 [.str row] h=.ok (.ref ↥h) (h++[.lst ((N7 row).map .str)]):=by
 rw[i6 W.f1 rfl];have hs:↥(Txt.split row " ")<=SL:=aR (a9w row 32) (by show _<=16777216;ac_nf);simp only[a1g];simp![];rw[M3 (l:=(Txt.split row " ").map D.str) (g:=[(↥h,.lst ((Txt.split row " ").map D.str))]) (h1:=h++[.lst ((Txt.split row " ").map D.str)]) ?_ (by simp[gOk]) (λd=>match d with|.str w=>decide (w≠"")|_=>false) id (λd=>[some d]) ?_ (by simpa using hs)]
 · simp![];have e:List.map id (List.filter (λd=>match d with|D.str w=>decide (w≠"")|_=>false) ((Txt.split row " ").map D.str))=(N7 row).map D.str:=by rw[map_id,filter_map];rfl
   rw[e,aA];exact gc2 ⋯ ⋯ (D8 _)
 · simp![mtT,mtD,v8];rw[ay ⟨by decide,by show _<=16777216;ac_nf⟩];simp only[b9,L3,b7]
 · intro x hx;obtain⟨w,_,rfl⟩:=al.mp hx;refine⟨rfl,?_,λ_=>?_⟩
   · simp![op2,a3y,eqS];simp
   · simp![id]
theorem a3H{g:Str}(hz:↥z<=100000):b5 ct F (n+1) 2 [.str z,.str g] h=.ok (.bl ((cd z).all λc=>decide (c∈cd g))) h:=by
 rw[i6 W.f2 rfl];simp only[a2j];simp![];rw[n9 (l:=Y9 z) (g:=[]) (h1:=h) ?_ (by simp[gOk]) (λd=>match d with|.str w=>.bl (a5p w g)|_=>.non) (λd=>[some d,some (.str g)]) ?_ (by unfold Y9;rw[aa,show z.cps.toList.length=z.length from t9 z];show _<=16777216;ac_nf)]
 · have e:(Y9 z).map (λd=>match d with|D.str w=>D.bl (a5p w g)|_=>D.non)=(cd z).map λc=>D.bl (decide (c∈cd g)):=by unfold Y9;rw[aI];refine aX λc _=>?_;simp only[Function.comp,a5p];rw[StrLaws.found_one]
   rw[e];simp![a1U];exact gc1 rfl
 · simp![L3]
 · intro x hx;unfold Y9 at hx;obtain⟨w,_,rfl⟩:=al.mp hx;refine⟨rfl,?_⟩;simp![op2,M9];simp
theorem G8(hz:↥z<=100000):b5 ct F (n+2) 3 [.str z] h=.ok (.bl (c9 z)) h:=by
 rw[i6 W.f3 rfl];simp only[a2k];have hl:↥z<=SL:=by show _<=16777216;ac_nf
 simp![biD,bi1,biL,ay hl,op2,G3,a3H W hz];have e:c9 z=(decide ((1:Int)<=(↥z:Int))&&(decide ((↥z:Int)<=12)&&(cd z).all Q3)):=by
  unfold c9;rw[Bool.and_assoc];congr 1
  · exact decide_eq_decide.mpr nofun
  · congr 1;exact decide_eq_decide.mpr nofun
 rw[e]
 by_cases h1:(1:Int)<=(↥z:Int)
 · by_cases h2:(↥z:Int)<=12
   · simp only[h1,h2,fM,fU,fT,b9,a0D];exact r8 rfl
   · simp only[h1,h2,fM,fJ,fU,fT,fW,b9,a0D,fZ,gz];exact r8 rfl
 · simp only[h1,fJ,fW,b9,a0D,fZ,gz];exact r8 rfl
theorem L7(hz:↥z<=100000):b5 ct F (n+2) 4 [.str z] h=.ok (.bl (a2t z)) h:=by
 rw[i6 W.f4 rfl];simp only[a0s];have hl:↥z<=SL:=by show _<=16777216;ac_nf
 have hm:∀h,b5 ct F (n+1) 2 [.str z,.str "0123456789"] h=.ok (.bl ((cd z).all U2)) h:=λh=>a3H W hz;simp![biD,bi1,biL,ay hl,op2,G3,hm];have e:a2t z=(decide ((1:Int)<=(↥z:Int))&&(decide ((↥z:Int)<=5)&&((cd z).all U2&&(decide (z="0")||!decide ((cd z).head? =some 48))))):=by
  unfold a2t;rw[Bool.and_assoc,Bool.and_assoc];congr 1
  · exact decide_eq_decide.mpr nofun
  · congr 1;exact decide_eq_decide.mpr nofun
 rw[e]
 by_cases h1:(1:Int)<=(↥z:Int)
 · by_cases h2:(↥z:Int)<=5
   · simp![hm,h1,h2,fM,fU,fT,b9,a0D,fK,fZ,gz,op2];cases hf:(cd z).all U2 with
     |false=>
      simp![hm,gq,fU,fW,b9,op2];exact r8 rfl
     | true=>
      obtain⟨c,r,hc⟩:∃c r,cd z=c::r:=by
       cases hq:cd z with
       |nil=>have:=t9 z;rw[hq] at this;simp at this;ac_nf
       |cons c r=>exact⟨c,r,rfl⟩
      have hix:ixD h (.str z) (.int 0)=.ok (.str ⟨#[c]⟩) h:=ix_str (i:=0) hl (by rw[hc];rfl);have h0:decide ((⟨#[c]⟩:Str)="0")=decide ((cd z).head? =some 48):=by rw[hc];refine decide_eq_decide.mpr ?_;rw[show(Str.ofString "0")=⟨#[48]⟩ from rfl];simp
      simp![hm,fK,fZ,gz,fT,b9,J3,a3y,eqS,a0D,hix,h0,op2];cases hz0:decide (z="0") with
      |true=>
       simp![hm,fU,Bool.true_or,op2];exact r8 rfl
      |false=>
       simp![hm,fZ,gz,Bool.false_or,op2];exact r8 rfl
   · simp![hm,h1,h2,fM,fJ,fU,fT,fW,b9,a0D,fZ,gz,gq,op2];exact r8 rfl
 · simp![hm,h1,fJ,fW,b9,a0D,fZ,gz,gq,fU,op2];exact r8 rfl
theorem a5A(hz:↥z<=100000):b5 ct F (n+3) 5 [.str z] h=.ok (.bl (a4u z)) h:=by
 rw[i6 W.f5 rfl];simp only[K8];have hl:↥z<=SL:=by show _<=16777216;ac_nf
 have dL:Txt.startswith z "-"=decide ((cd z).head? =some 45):=X1;simp![mtT,mtD,op2,a3y,eqS,slD,ay hl,dL,L7 W hz];unfold a4u
 by_cases h1:(cd z).head? =some 45
 · have dS:1<=↥z:=by
    rw[←t9];cases hq:cd z with
    |nil=>rw[hq] at h1;cases h1
    |cons c r=>simp
   have ht:↥(tl z)<=100000:=by rw[←t9,a2C,bx,t9];ac_nf
   simp![h1,fM,fU,a3p z dS,L7 W ht,b9,L7 W hz];cases hz0:decide (z="-0") with
   |true=>
    simp![fK,fZ,gz,fW];exact r8 rfl
   |false=>
    simp![gq,fU,fT];exact r8 rfl
 · simp![h1,fJ,fZ,gz,L7 W hz];exact r8 rfl
theorem C7{a b c:Bool}:b5 ct F (n+1) 14 [.bl a,.bl b,.bl c] h=.ok (V6 (due a b c)) h:=by rw[i6 W.f14 rfl];simp only[a0u];simp![];cases a<;>cases b<;>cases c<;>exact r8 rfl
theorem a2o{k:Nat}{P:Str->Bool}{fd:Fn}(hF:F id=some fd)(hb:fd=⟨1,1,1,(.o (.ret (.bi .all (.o (.comp (.nm 0) (.seq (.v 0)) 1 [] .yes (.call k (.o (.v 0))))))))⟩)
 (hw:h[w]? =some (.lst (ws.map D.str))) (hl:↥ws<=SL) (hP:∀x∈ws,b5 ct F n k [.str x] h=.ok (.bl (P x)) h):b5 ct F (n+1) id [.ref w] h=.ok (.bl (ws.all P)) h:=by
  subst hb;rw[i6 hF rfl];simp![];rw[n9 (l:=ws.map D.str) (g:=[(w,.lst (ws.map D.str))]) (h1:=h) ?_ (by simp[gOk,hw]) (λd=>match d with|.str x=>.bl (P x)|_=>.non) (λd=>[some d]) ?_ (by simpa using hl)]
  · have e:(ws.map D.str).map (λd=>match d with|D.str x=>D.bl (P x)|_=>D.non)=ws.map λx=>D.bl (P x):=by rw[aI];rfl
    rw[e];simp![a1U];exact gc1 rfl
  · simp![L3,hw]
  · intro x hx;obtain⟨y,hy,rfl⟩:=al.mp hx;refine⟨rfl,?_⟩;simp![hP y hy]
theorem R9(hw:h[w]? =some (.lst (ws.map D.str)))(hl:↥ws<=SL)(hs:∀x∈ws,↥x<=100000):b5 ct F (n+3) 9 [.ref w] h=.ok (.bl (ws.all c9)) h:=
 a2o (n:=n+2) W W.f9 rfl hw hl λx hx=>G8 W (hs x hx)
theorem a4m(hw:h[w]? =some (.lst (ws.map D.str)))(hl:↥ws<=SL)(hs:∀x∈ws,↥x<=100000):b5 ct F (n+4) 10 [.ref w] h=.ok (.bl (ws.all a4u)) h:=
 a2o (n:=n+3) W W.f10 rfl hw hl λx hx=>a5A W (hs x hx)
end
structure HD where
 shapes:List (Str×D):=[]
 marks:List (Str×D):=[]
 points:List ((Str×Str)×D):=[]
 letters:List (Str×D):=[]
 gaps:List Str:=[]
 classes:List (Str×D):=[]
 features:List (Str×D):=[]
 rules:List (Str×List D):=[]
def kd(l:List (Str×D)):List (D×D):=l.map λp=>(.str p.1,p.2)
def pd(l:List ((Str×Str)×D)):List (D×D):=l.map λp=>(.tup [.str p.1.1,.str p.1.2],p.2)
def rd(l:List (Str×List D)):List D:=l.map λr=>.tup (.str r.1::r.2)
noncomputable def a2h(n:Nat):List (Str×D):=[("shapes",.ref (n+1)),("marks",.ref (n+2)),("points",.ref (n+3)),("letters",.ref (n+4)),("gaps",.ref (n+5)),("classes",.ref (n+6)),("features",.ref (n+7)),("rules",.ref (n+8))]
structure HallAt(h:AH)(n:Nat)(H:HD):Prop where
 o:h[n]? =some (.obj 6 (a2h n))
 c1:h[n+1]? =some (.dict (kd H.shapes))
 c2:h[n+2]? =some (.dict (kd H.marks))
 c3:h[n+3]? =some (.dict (pd H.points))
 c4:h[n+4]? =some (.dict (kd H.letters))
 c5:h[n+5]? =some (.lst (H.gaps.map .str))
 c6:h[n+6]? =some (.dict (kd H.classes))
 c7:h[n+7]? =some (.dict (kd H.features))
 c8:h[n+8]? =some (.lst (rd H.rules))
structure Fr(n:Nat)(h h':AH):Prop where
 len:↥h<=↥h'
 get:∀i,i<↥h->(i<n∨n+8<i)->h'[i]? =h[i]?
theorem Fr.refl(n:Nat)(h:AH):Fr n h h:=⟨aj _,λ_ _ _=>rfl⟩
variable{h':AH}
theorem Fr.trans{h'':AH}(a:Fr n h h')(b:Fr n h' h''):Fr n h h'':=
 ⟨aR a.len b.len,λi hi hn=>(b.get i (aC hi a.len) hn).trans (a.get i hi hn)⟩
theorem Fr.app(n:Nat)(h g:AH):Fr n h (h++g):=⟨by simp,λi hi _=>av hi⟩
theorem Fr.set{k:Nat}{c:Cell}(h1:n<=k)(h2:k<=n+8):Fr n h (h.set k c):=⟨by simp,λi hi hn=>fO nofun⟩
variable{g:AH}
theorem b6{i:Nat}{c:Cell}(e:h[i]? =some c):(h++g)[i]? =some c:=by rw[av (ac.mp e).1];exact e
theorem HallAt.app{H:HD}(A:HallAt h n H)(g:AH):HallAt (h++g) n H:=
 ⟨b6 A.o,b6 A.c1,b6 A.c2,b6 A.c3,b6 A.c4,b6 A.c5,b6 A.c6,b6 A.c7,b6 A.c8⟩
variable{c':Cell}
theorem b8{i k:Nat}{c:Cell}(eZ:k≠i)(e:h[i]? =some c):(h.set k c')[i]? =some c:=by rw[fO eZ];exact e
theorem z9{i:Nat}{c:Cell}(e:h[i]? =some c):(h.set i c')[i]? =some c':=fY (ac.mp e).1
theorem HallAt.s1{H:HD}(A:HallAt h n H)(l:List (Str×D)):HallAt (h.set (n+1) (.dict (kd l))) n {H with shapes:=l}:=
 ⟨b8 nofun A.o,z9 A.c1,b8 nofun A.c2,b8 nofun A.c3,b8 nofun A.c4,b8 nofun A.c5,b8 nofun A.c6,b8 nofun A.c7,b8 nofun A.c8⟩
theorem HallAt.s2{H:HD}(A:HallAt h n H)(l:List (Str×D)):HallAt (h.set (n+2) (.dict (kd l))) n {H with marks:=l}:=
 ⟨b8 nofun A.o,b8 nofun A.c1,z9 A.c2,b8 nofun A.c3,b8 nofun A.c4,b8 nofun A.c5,b8 nofun A.c6,b8 nofun A.c7,b8 nofun A.c8⟩
theorem HallAt.s3{H:HD}(A:HallAt h n H)(l:List ((Str×Str)×D)):HallAt (h.set (n+3) (.dict (pd l))) n {H with points:=l}:=
 ⟨b8 nofun A.o,b8 nofun A.c1,b8 nofun A.c2,z9 A.c3,b8 nofun A.c4,b8 nofun A.c5,b8 nofun A.c6,b8 nofun A.c7,b8 nofun A.c8⟩
theorem HallAt.s4{H:HD}(A:HallAt h n H)(l:List (Str×D)):HallAt (h.set (n+4) (.dict (kd l))) n {H with letters:=l}:=
 ⟨b8 nofun A.o,b8 nofun A.c1,b8 nofun A.c2,b8 nofun A.c3,z9 A.c4,b8 nofun A.c5,b8 nofun A.c6,b8 nofun A.c7,b8 nofun A.c8⟩
theorem HallAt.s6{H:HD}(A:HallAt h n H)(l:List (Str×D)):HallAt (h.set (n+6) (.dict (kd l))) n {H with classes:=l}:=
 ⟨b8 nofun A.o,b8 nofun A.c1,b8 nofun A.c2,b8 nofun A.c3,b8 nofun A.c4,b8 nofun A.c5,z9 A.c6,b8 nofun A.c7,b8 nofun A.c8⟩
theorem HallAt.s7{H:HD}(A:HallAt h n H)(l:List (Str×D)):HallAt (h.set (n+7) (.dict (kd l))) n {H with features:=l}:=
 ⟨b8 nofun A.o,b8 nofun A.c1,b8 nofun A.c2,b8 nofun A.c3,b8 nofun A.c4,b8 nofun A.c5,b8 nofun A.c6,z9 A.c7,b8 nofun A.c8⟩
theorem HallAt.s8{H:HD}(A:HallAt h n H)(l:List (Str×List D)):HallAt (h.set (n+8) (.lst (rd l))) n {H with rules:=l}:=
 ⟨b8 nofun A.o,b8 nofun A.c1,b8 nofun A.c2,b8 nofun A.c3,b8 nofun A.c4,b8 nofun A.c5,b8 nofun A.c6,b8 nofun A.c7,z9 A.c8⟩
theorem HallAt.fld1{H:HD}(A:HallAt h n H):Y1 h "shapes" (.ref n)=.ok (.ref (n+1)) h:=by simp only[Y1,A.o];rfl
theorem HallAt.fld2{H:HD}(A:HallAt h n H):Y1 h "marks" (.ref n)=.ok (.ref (n+2)) h:=by simp only[Y1,A.o];rfl
theorem HallAt.fld3{H:HD}(A:HallAt h n H):Y1 h "points" (.ref n)=.ok (.ref (n+3)) h:=by simp only[Y1,A.o];rfl
theorem HallAt.fld4{H:HD}(A:HallAt h n H):Y1 h "letters" (.ref n)=.ok (.ref (n+4)) h:=by simp only[Y1,A.o];rfl
theorem HallAt.fld5{H:HD}(A:HallAt h n H):Y1 h "gaps" (.ref n)=.ok (.ref (n+5)) h:=by simp only[Y1,A.o];rfl
theorem HallAt.fld6{H:HD}(A:HallAt h n H):Y1 h "classes" (.ref n)=.ok (.ref (n+6)) h:=by simp only[Y1,A.o];rfl
theorem HallAt.fld7{H:HD}(A:HallAt h n H):Y1 h "features" (.ref n)=.ok (.ref (n+7)) h:=by simp only[Y1,A.o];rfl
theorem HallAt.fld8{H:HD}(A:HallAt h n H):Y1 h "rules" (.ref n)=.ok (.ref (n+8)) h:=by simp only[Y1,A.o];rfl
theorem X9(k:Str)(l:List (Str×D)):D7 (.str k) (kd l)=true:=by simp[D7,kd,K7]
theorem a8J(a b:Str)(l:List ((Str×Str)×D)):D7 (.tup [.str a,.str b]) (pd l)=true:=by simp[D7,pd,K7,G7,K3]
theorem a7U(k:Str):∀l:List (Str×D),(o7 (kd l) (.str k)).isSome=decide (k∈l.map (·.1))
 |[]=>rfl
 | p ::r=>by
  have ih:=a7U k r;unfold o7 kd at ih⊢;rw[map_cons,List.find?_cons]
  by_cases e:p.1=k
  · simp[e]
  · have e':¬(D.str p.1=D.str k):=λz=>e (by injection z);simp only[e',fJ];rw[ih];exact decide_eq_decide.mpr ⟨λz=>by simp[z],λz=>by
     rw[map_cons] at z;rcases aF.mp z with z|z
     · exact absurd z.symm e
     · exact z⟩
theorem b2x(a b:Str):∀l:List ((Str×Str)×D),(o7 (pd l) (.tup [.str a,.str b])).isSome=decide ((a,b)∈l.map (·.1))
 |[]=>rfl
 | p ::r=>by
  have ih:=b2x a b r;unfold o7 pd at ih⊢;rw[map_cons,List.find?_cons]
  by_cases e:p.1=(a,b)
  · simp[e]
  · have e':¬(D.tup [.str p.1.1,.str p.1.2]=D.tup [.str a,.str b]):=λz=>e (by injection z with z;injection z with z1 z2;injection z1 with z1;injection z2 with z2;injection z2 with z2;exact Prod.ext z1 z2)
    simp only[e',fJ];rw[ih];exact decide_eq_decide.mpr ⟨λz=>by simp[z],λz=>by
     rw[map_cons] at z;rcases aF.mp z with z|z
     · exact absurd z.symm e
     · exact z⟩
theorem b1d{k:Str}{l:List (Str×D)}(h:k∉l.map (·.1)):a0b (kd l) (.str k) d=kd (l++[(k,d)]):=by
 unfold a0b;rw[az]
 · simp[kd]
 · intro z;rw[bn] at z;obtain⟨p,hp,e⟩:=z;unfold kd at hp;obtain⟨q,hq,rfl⟩:=al.mp hp;have e:=aw e;injection e with e;exact h (al.mpr ⟨q,hq,e⟩)
theorem b7j{a b:Str}{l:List ((Str×Str)×D)}(h:(a,b)∉l.map (·.1)):a0b (pd l) (.tup [.str a,.str b]) d=pd (l++[((a,b),d)]):=by
 unfold a0b;rw[az]
 · simp[pd]
 · intro z;rw[bn] at z;obtain⟨p,hp,e⟩:=z;unfold pd at hp;obtain⟨q,hq,rfl⟩:=al.mp hp;have e:=aw e;injection e with e;injection e with e1 e2;injection e1 with e1;injection e2 with e2;injection e2 with e2;exact h (al.mpr ⟨q,hq,Prod.ext e1 e2⟩)
theorem Z2{l:List (Str×D)}{k:Str}(e:h[n]? =some (.dict (kd l))):M9 false h (.str k) (.ref n)=.ok (.bl (decide (k∈l.map (·.1)))) h:=by simp only[M9,e,X9,fU,a7U];simp
theorem c0v{l:List ((Str×Str)×D)}{a b:Str}(e:h[n]? =some (.dict (pd l))):M9 false h (.tup [.str a,.str b]) (.ref n)=.ok (.bl (decide ((a,b)∈l.map (·.1)))) h:=by simp only[M9,e,a8J,fU,b2x];simp
theorem a5v{l:List (Str×D)}(e:h[n]? =some (.dict (kd l))):biD .len h [.ref n]=.ok (.int ↥l) h:=by
 have:D7 (.int 0) (kd l)=true:=by simp[D7,kd,K7]
 simp only[biD,bi1,biL,e,this,fU];simp[kd]
variable{l:List D}
theorem n5(e:h[n]? =some (.lst l)):biD .len h [.ref n]=.ok (.int ↥l) h:=by
 have:rdL h n=some l:=by unfold rdL;rw[e]
 simp only[biD,bi1,biL,e,this]
section
variable{ct:CT}{F:Nat->Option Fn}(W:PF F)
include W
theorem b2r:b5 ct F (n+1) 32 [.ref ↥h] (h++[.obj 6 []])=.ok .non (h++[.obj 6 (a2h ↥h),.dict [],.dict [],.dict [],.dict [],.lst [],.dict [],.dict [],.lst []]):=by
 rw[i6 W.f32 rfl];simp only[P0];rw[gc0];have hs:∀(x z:Cell)(t:AH),(h++x::t).set ↥h z=h++z::t:=λx z t=>by rw[List.set_append_right _ _ (aj _)];simp
 have hg:∀(x:Cell)(t:AH),(h++x::t)[↥h]? =some x:=λx t=>by simp
 simp![v8,a5e,hs,hg,aA,a4x];simp only[aq,length_cons,length_nil,a2h]
end
theorem u9(i:Int)(k:Nat)(hi:i=(k:Nat))(hw:h[w]? =some (.lst xs))(hd:xs[k]? =some d):ixD h (.ref w) (.int i)=.ok d h:=by subst hi;exact o0 hw hd
theorem Z9{l:List (Str×D)}{k:Str}(e:h[n]? =some (.dict (kd l)))(hk:k∉l.map (·.1))(hl:↥l<SL):a2q h (.ref n) (.str k) d=.ok () (h.set n (.dict (kd (l++[(k,d)])))):=by simp only[a2q,e];rw[ay ⟨X9 _ _,by simpa [kd] using hl⟩,b1d hk]
theorem a9z{l:List ((Str×Str)×D)}{a b:Str}(e:h[n]? =some (.dict (pd l)))(hk:(a,b)∉l.map (·.1))(hl:↥l<SL):a2q h (.ref n) (.tup [.str a,.str b]) d=.ok () (h.set n (.dict (pd (l++[((a,b),d)])))):=by simp only[a2q,e];rw[ay ⟨a8J _ _ _,by simpa [pd] using hl⟩,b7j hk]
theorem a7R{b:Str}{v:Int}(hl:↥b<=640)(hv:intText? b=some v):biD .int h [.str b]=.ok (.int v) h:=by simp only[biD,bi1,biL,ay hl,hv]
theorem M4(k:Nat)(xs:List D):N4 xs (some (k:Int)) none=xs.drop k:=by
 unfold N4 HT.sIx;simp only;rw[az nofun];show(xs.drop (min k ↥xs)).take (↥xs-min k ↥xs)=xs.drop k
 by_cases h:k<=↥xs
 · rw[bc h];exact bg ⋯
 · rw[Nat.min_eq_right nofun,drop_length,gO nofun];simp
theorem W9(k l:Nat)(xs:List D)(hk:k<=l)(hl:l<=↥xs):N4 xs (some (k:Int)) (some (l:Int))=(xs.drop k).take (l-k):=by unfold N4 HT.sIx;simp only;rw[az nofun,az nofun];show(xs.drop (min k ↥xs)).take (min l ↥xs-min k ↥xs)=_;rw[bc (show k<=↥xs by ac_nf),bc hl]
variable{lo:Option Int}{hi:Option Int}
theorem G4(hw:h[w]? =some (.lst xs)):slD h lo hi (.ref w)=.ok (.ref ↥h) (h++[.lst (N4 xs lo hi)]):=by
 have:rdL h w=some xs:=by unfold rdL;rw[hw]
 simp only[slD,this,v8]
theorem O0(hw:h[w]? =some (.lst xs)):biD .tuple h [.ref w]=.ok (.tup xs) h:=by
 have:rdL h w=some xs:=by unfold rdL;rw[hw]
 simp only[biD,bi1,biL,hw,this]
variable{x:Str}{wy:Str}
section
variable{ct:CT}{F:Nat->Option Fn}(W:PF F)
include W
theorem a4f{k:Nat}{H:HD}{a b:Str}{v:Int}(A:HallAt h n H)(hw:h[w]? =some (.lst [.str x,.str a,.str b]))(ha:c9 a=true)(eR:↥a<=100000)(hb:W2 b=some v):
 b5 ct F (k+3) 17 [.ref n,.ref w] h=match due (decide (a∈H.shapes.map (·.1))) true (decide ((60:Int)<=(↥H.shapes:Int))) with
  |some f=>.ok (.str f) h
  |none=>.ok .non (h.set (n+1) (.dict (kd (H.shapes++[(a,.int v)])))):=by
 obtain⟨hv,hbl,_,_⟩:=a2U hb;have hbn:a2t b=true:=by rw[a3z,hb];rfl
 rw[i6 W.f17 rfl];simp only[Y2];rw[gc0];simp![n5 hw,op2,a3y,eqS,u9 1 1 rfl hw rfl,u9 2 2 rfl hw rfl,G8 W eR,L7 W (show ↥b<=100000 by ac_nf),ha,hbn,A.fld1,Z2 A.c1,a5v A.c1,G3,C7 W,W8,a7R hbl hv,Int.cast_ofNat_Int,fM,fK];cases hd:due (decide (a∈H.shapes.map (·.1))) true (decide ((60:Int)<=(↥H.shapes:Int))) with
 |some f=>simp![Option.isNone_some,V6]
 |none=>
  obtain⟨d1,_,d2⟩:=a0z hd;have d2:=gj d2;simp![Option.isNone_none,Z9 A.c1 (gj d1) (show _<16777216 by ac_nf),V6]
theorem a2D{k:Nat}{H:HD}{a b:Str}(A:HallAt h n H)(hw:h[w]? =some (.lst [.str x,.str a,.str b]))(ha:c9 a=true)(eR:↥a<=100000)(hb:b="on"∨b="off"):
 b5 ct F (k+3) 25 [.ref n,.ref w] h=match due (decide (a∈H.features.map (·.1))) true (decide ((10:Int)<=(↥H.features:Int))) with
  |some f=>.ok (.str f) h
  |none=>.ok .non (h.set (n+7) (.dict (kd (H.features++[(a,.bl (decide (b="on")))])))):=by
 have dQ:inD (.str b) [.str "on",.str "off"]=true:=by rcases hb with rfl|rfl<;>decide
 rw[i6 W.f25 rfl];simp only[T3];rw[gc0];simp![n5 hw,op2,a3y,J3,eqS,u9 1 1 rfl hw rfl,u9 2 2 rfl hw rfl,G8 W eR,ha,A.fld7,Z2 A.c7,a5v A.c7,G3,C7 W,W8,dQ,y7,all_cons,all_nil,gD,and_self,bne_self_eq_false,Int.cast_ofNat_Int,fM,fK];cases hd:due (decide (a∈H.features.map (·.1))) true (decide ((10:Int)<=(↥H.features:Int))) with
 |some f=>simp![Option.isNone_some,V6]
 |none=>
  obtain⟨d1,_,d2⟩:=a0z hd;have d2:=gj d2;simp![Option.isNone_none,op2,J3,eqS,u9 2 2 rfl hw rfl,A.fld7,Z9 A.c7 (gj d1) (show _<16777216 by ac_nf),V6]
theorem V4{k:Nat}{H:HD}(A:HallAt h n H)(hw:h[w]? =some (.lst (ws.map .str)))(hl:↥ws<=SL):b5 ct F (k+1) 15 [.ref n,.ref w] h=.ok (.bl (ws.all λx=>decide (x∈H.shapes.map (·.1)))) h:=by
 rw[i6 W.f15 rfl];simp only[Y7];simp![];rw[n9 (l:=ws.map D.str) (g:=[(w,.lst (ws.map D.str))]) (h1:=h) ?_ (by simp[gOk,hw]) (λd=>match d with|.str x=>.bl (decide (x∈H.shapes.map (·.1)))|_=>.non) (λd=>[some d,~~~n]) ?_ (by simpa using hl)]
 · have e:(ws.map D.str).map (λd=>match d with|D.str x=>D.bl (decide (x∈H.shapes.map (·.1)))|_=>D.non)=ws.map λx=>D.bl (decide (x∈H.shapes.map (·.1))):=by rw[aI];rfl
   rw[e];simp![a1U];exact gc1 rfl
 · simp![L3,hw]
 · intro x hx;obtain⟨y,hy,rfl⟩:=al.mp hx;refine⟨rfl,?_⟩;simp![op2,A.fld1,Z2 A.c1]
def a4D:List (D×D):=[(.str "none",.int 1),(.str "clear",.int 1),(.str "back",.int 2),(.str "both",.int 4)]
theorem a4k{k:Nat}{a j:Str}{d9:List Str}(hw:h[w]? =some (.lst (.str x::.str a::.str j::.str wy::d9.map .str)))(ha:c9 a=true)(eR:↥a<=100000)(hj:o7 a4D (.str j)=some (.int d9.length))(hy:inD (.str wy) [.str "left",.str "right",.str "either"]=true)
 (hr:d9.all c9=true) (hrl:∀y∈d9,↥y<=100000) (hrs:d9.length<=100000):b5 ct F (k+4) 21 [.ref w] h=.ok (.bl true) h:=by
 rw[i6 W.f21 rfl];simp only[L9];have e4:∀xs,N4 xs (some 4) none=xs.drop 4:=M4 4;have hn:b5 ct F (k+3) 9 [.ref ↥h] (h++[.lst (d9.map .str)])=.ok (.bl (d9.all c9)) (h++[.lst (d9.map .str)]):=R9 W b7 (by show _<=16777216;ac_nf) hrl;have bP:decide (((d9.length+1+1+1+1:Nat):Int)<4)=false:=bw nofun;unfold a4D at hj;simp![n5 hw,op2,G3,bP,aa,u9 1 1 rfl hw rfl,u9 2 2 rfl hw rfl,u9 3 3 rfl hw rfl,G8 W eR,ha,K3,Option.isSome_some,hj,hy,y7,all_cons,all_nil,gD,and_self,bne_self_eq_false,fK,G4 hw,e4,drop_succ_cons,drop_zero,n5 b7,u9 2 2 rfl (b6 (g:=[.lst (d9.map .str)]) hw) rfl,J3,eqS,fM,hn,hr];exact gc1 rfl
theorem a3h{k:Nat}{H:HD}{a j:Str}{d9:List Str}(A:HallAt h n H)(hw:h[w]? =some (.lst (.str x::.str a::.str j::.str wy::d9.map .str)))(ha:c9 a=true)(eR:↥a<=100000)(hj:o7 a4D (.str j)=some (.int d9.length))(hy:inD (.str wy) [.str "left",.str "right",.str "either"]=true)
 (hr:d9.all c9=true) (hrl:∀y∈d9,↥y<=100000) (hrs:d9.length<=100000):
 b5 ct F (k+5) 22 [.ref n,.ref w] h=match due (decide (a∈H.letters.map (·.1))) (d9.all λx=>decide (x∈H.shapes.map (·.1))) (decide ((24:Int)<=(↥H.letters:Int))) with
  |some f=>.ok (.str f) (h++[.lst (d9.map .str)])
  |none=>.ok .non ((h++[Cell.lst (d9.map .str)]).set (n+4) (.dict (kd (H.letters++[(a,D.tup [.str j,.str wy,.tup (d9.map .str)])])))):=by
 rw[i6 W.f22 rfl];simp only[V5];rw[gc0];have e4:∀xs,N4 xs (some 4) none=xs.drop 4:=M4 4;have A1:=A.app [.lst (d9.map .str)];have hw1:=b6 (g:=[.lst (d9.map .str)]) hw;have hs:=V4 (ct:=ct) (k:=k+3) W A1 (b7 (h:=h)) (by show _<=16777216;ac_nf);simp![a4k W hw ha eR hj hy hr hrl hrs,fK,u9 1 1 rfl hw rfl,G4 hw,e4,drop_succ_cons,drop_zero,op2,A1.fld4,Z2 A1.c4,a5v A1.c4,G3,hs,C7 W,W8];cases hd:due (decide (a∈H.letters.map (·.1))) (d9.all λx=>decide (x∈H.shapes.map (·.1))) (decide ((24:Int)<=(↥H.letters:Int))) with
 |some f=>simp![Option.isNone_some,V6]
 |none=>
  obtain⟨d1,_,d2⟩:=a0z hd;have d2:=gj d2;simp![Option.isNone_none,u9 2 2 rfl hw1 rfl,u9 3 3 rfl hw1 rfl,O0 b7,A1.fld4,Z9 A1.c4 (gj d1) (show _<16777216 by ac_nf),V6]
theorem a4h{k:Nat}{H:HD}{a:Str}{d9:List Str}(A:HallAt h n H)(hw:h[w]? =some (.lst (.str x::.str a::d9.map .str)))(ha:c9 a=true)(eR:↥a<=100000)
 (hr:d9.all c9=true) (hrl:∀y∈d9,↥y<=100000) (hr1:1<=d9.length) (hr2:d9.length<=20):
 b5 ct F (k+5) 24 [.ref n,.ref w] h=match due (decide (a∈H.classes.map (·.1))) (d9.all λx=>decide (x∈H.shapes.map (·.1))) (decide ((20:Int)<=(↥H.classes:Int))) with
  |some f=>.ok (.str f) (h++[.lst (d9.map .str),.lst (.str a::d9.map .str)])
  |none=>.ok .non ((h++[Cell.lst (d9.map .str),Cell.lst (.str a::d9.map .str)]).set (n+6) (.dict (kd (H.classes++[(a,D.tup (d9.map .str))])))):=by
 rw[i6 W.f24 rfl];simp only[Y4];rw[gc0];have e1:∀xs,N4 xs (some 1) none=xs.drop 1:=M4 1;have e2:∀xs,N4 xs (some 2) none=xs.drop 2:=M4 2;have hw1:=b6 (g:=[.lst (d9.map .str)]) hw;have hw2:=b6 (g:=[.lst (.str a::d9.map .str)]) hw1;have A2:=(A.app [.lst (d9.map .str)]).app [.lst (.str a::d9.map .str)];have hq:(h++[Cell.lst (d9.map .str)]++[.lst (.str a::d9.map .str)])[↥h]? =some (.lst (d9.map .str)):=b6 b7;have hs:=V4 (ct:=ct) (k:=k+3) W A2 hq (by show _<=16777216;ac_nf);have hn:b5 ct F (k+4) 9 [.ref ↥(h++[Cell.lst (d9.map .str)])] (h++[Cell.lst (d9.map .str)]++[.lst (.str a::d9.map .str)])=.ok (.bl true) (h++[Cell.lst (d9.map .str)]++[.lst (.str a::d9.map .str)]):=by
  have:=R9 (ct:=ct) (n:=k+1) (ws:=a::d9) W (b7 (h:=h++[Cell.lst (d9.map .str)]) (c:=.lst (.str a::d9.map .str))) (by show _<=16777216;simp;ac_nf) (λy hy=>by
   rcases aF.mp hy with rfl|hy
   · exact eR
   · exact hrl y hy)
  rw[all_cons,ha,hr] at this;exact this
 have l1:decide ((1:Int)<=(d9.length:Int))=true:=ba nofun;have l2:decide ((d9.length:Int)<=20)=true:=ba nofun;simp![G4 hw,e2,drop_succ_cons,drop_zero,n5 b7,aa,op2,G3,l1,l2,fK,G4 hw1,e1,hn,u9 1 1 rfl hw2 rfl,A2.fld6,Z2 A2.c6,a5v A2.c6,hs,C7 W,W8];rw[show h++[Cell.lst (d9.map D.str),.lst (.str a::d9.map .str)]=h++[Cell.lst (d9.map .str)]++[.lst (.str a::d9.map .str)] by simp];cases hd:due (decide (a∈H.classes.map (·.1))) (d9.all λx=>decide (x∈H.shapes.map (·.1))) (decide ((20:Int)<=(↥H.classes:Int))) with
 |some f=>simp![Option.isNone_some,V6]
 |none=>
  obtain⟨d1,_,d2⟩:=a0z hd;have d2:=gj d2;simp![Option.isNone_none,O0 hq,A2.fld6,Z9 A2.c6 (gj d1) (show _<16777216 by ac_nf),V6]
end
theorem A8{l:AH}{i:Nat}:(h++l)[↥h+i]? =l[i]? :=by rw[au nofun];congr 1;ac_nf
theorem b4q{l:AH}{i:Nat}{c:Cell}:(h++l).set (↥h+i) c=h++l.set i c:=by rw[List.set_append_right _ _ nofun];congr 2;ac_nf
theorem b7b{i:Nat}{c:Cell}(e:h[i]? =some c):h.set i c=h:=by
 refine ext_getElem? λj=>?_
 by_cases hj:i=j
 · subst hj;rw[fY (ac.mp e).1,e]
 · rw[fO hj]
theorem b6k:atI (xs++[d]) (-1)=some d:=by unfold atI ixN;rw[az nofun,ay (by simp;ac_nf)];simp only[Option.bind_some];rw[show((-1:Int)+(↥(xs++[d]):Int)).toNat=xs.length by simp;ac_nf];simp
def J9(x:Str):Bool:=decide (x="/")||decide (x=">")
theorem a6N:M9 false h (.str x) (.tup [.str "/",.str ">"])=.ok (.bl (J9 x)) h:=by
 have e:inD (.str x) [.str "/",.str ">"]=J9 x:=by show((Str.ofString "/"==x)||((Str.ofString ">"==x)||false))=(decide (x="/")||decide (x=">"));rw[Bool.or_false,gI,bp,bp,beq_iff_eq,beq_iff_eq,gG,gG];exact⟨λz=>z.imp Eq.symm Eq.symm,λz=>z.imp Eq.symm Eq.symm⟩
 simp only[M9,y7,all_cons,all_nil,gD,fU,e];cases J9 x<;>rfl
theorem a3u{l:AH}{i:Nat}(e:l[i]? =some (.lst xs)):rdL (h++l) (↥h+i)=some xs:=by unfold rdL;rw[A8,e]
theorem a1q{l:AH}{i:Nat}(e:l[i]? =some (.lst xs))(hl:↥xs<SL):mtD .append (h++l) (.ref (↥h+i)) [d]=.ok .non (h++l.set i (.lst (xs++[d]))):=by simp only[mtD,A8,e,ay hl,b4q]
theorem a3b{α:Type}(f:α×α->Bool):∀l:List α,(∀x∈l,f (x,x)=true)->(l.zip l).all f=true
 |[],_=>rfl
 |x::r,h=>by rw[List.zip_cons_cons,all_cons,h x (.head _),a3b f r λy hy=>h y (.tail _ hy)];rfl
theorem a2P{x:D}(hf:y7 x=true):∀n,same h n x x=true
 |0=>by rw[same,hf,ba rfl];rfl
 |n+1=>by cases x<;>first|(cases hf;done)|(simp[same,y7])
variable{j:Nat}
theorem a6o{i:Nat}(hi:rdL h i=some l)(hj:rdL h j=some l)(hs:∀x∈l,same h n x x=true):same h (n+1) (.ref i) (.ref j)=true:=by simp only[same,hi,hj];rw[fM,a3b _ l hs];rfl
theorem b7R{l:AH}{i:Nat}(e1:l[i]? =some (.lst xs))(e2:l[j]? =some (.lst xs))(hf:∀x∈xs,y7 x=true):op2 .ne (h++l) (.ref (↥h+i)) (.ref (↥h+j))=.ok (.bl false) (h++l):=by have:b3o (h++l) (.ref (↥h+i)) (.ref (↥h+j))=true:=a6o (a3u e1) (a3u e2) λx hx=>a2P (hf x hx) _;simp only[op2,a3y,eqS,this,fU]
section
variable{ct:CT}{c:CF}{q:Nat}{S:List D}
theorem a3s:∀(L:List Str)(l:AH)(R P:List D)(e:Option D)(d9:List D),l[1]? =some (.lst (R++[.ref (↥h+q)]))->l[q]? =some (.lst P)->l[3]? =some (.lst S)->q≠1->q≠3->(∀x∈L,J9 x=false)->↥P+↥L<=100000→
 ∃e',G0 [(↥h+3,.lst S)] (.nm 3) (exs ct c rpB) (L.map D.str++d9) [~~~w,some (.ref (↥h+1)),some (.ref (↥h+2)),e] (h++l)=
  G0 [(↥h+3,.lst S)] (.nm 3) (exs ct c rpB) d9 [~~~w,some (.ref (↥h+1)),some (.ref (↥h+2)),e'] (h++l.set q (.lst (P++L.map D.str)))
 |[],l,R,P,e,d9,h1,h2,h3,q1,q3,_,_=>⟨e,by rw[map_nil,aZ,b7b h2,nil_append]⟩
 | x::L,l,R,P,e,d9,h1,h2,h3,q1,q3,hL,hs=>by
  rw[length_cons] at hs;have hx:=hL x aY;obtain⟨e',ih⟩:=a3s L (l.set q (.lst (P++[.str x]))) R (P++[.str x]) (some (.str x)) d9 (by rw[fO q1];exact h1) (fY (ac.mp h2).1) (by rw[fO q3];exact h3) q1 q3 (λy hy=>hL y (aE _ hy)) (by simp;ac_nf);refine⟨e',?_⟩;have hg:gOk [(↥h+3,Cell.lst S)] (h++l)=true:=by simp[gOk,A8,h3]
  rw[map_cons,cons_append,G0,ay hg];simp only[F7];have hix:ixD (h++l) (.ref (↥h+1)) (.int (-1))=.ok (.ref (↥h+q)) (h++l):=by simp only[ixD,A8,h1,b6k]
  have hmt:mtT .append (h++l) (.ref (↥h+q))=true:=by simp only[mtT,a3u h2,Option.isSome_some]
  have hap:=a1q (h:=h) (d:=D.str x) h2 (show ↥P<16777216 by ac_nf);simp only[rpB];simp![op2,a6N,hx,hix,hmt,hap];rw[List.set_set] at ih;rw[aA] at ih;exact ih
theorem a5g(x:Str)(l:AH)(R B:List D)(e:Option D)(d9:List D)(h1:l[1]? =some (.lst R))(h2:l[2]? =some (.lst B))(h3:l[3]? =some (.lst S))(hx:J9 x=true)(hR:R.length<=1000)(hB:B.length<=1000):
 ∃e',G0 [(↥h+3,.lst S)] (.nm 3) (exs ct c rpB) (D.str x::d9) [~~~w,some (.ref (↥h+1)),some (.ref (↥h+2)),e] (h++l)=
  G0 [(↥h+3,.lst S)] (.nm 3) (exs ct c rpB) d9 [~~~w,some (.ref (↥h+1)),some (.ref (↥h+2)),e'] (h++((l.set 2 (.lst (B++[.str x]))).set 1 (.lst (R++[.ref (↥h+↥l)]))++[.lst []])):=by
 refine⟨some (.str x),?_⟩;have hg:gOk [(↥h+3,Cell.lst S)] (h++l)=true:=by simp[gOk,A8,h3]
 rw[G0,ay hg];simp only[F7];have eO:mtT .append (h++l) (.ref (↥h+2))=true:=by simp only[mtT,a3u h2,Option.isSome_some]
 have ha2:=a1q (h:=h) (d:=D.str x) h2 (show B.length<16777216 by ac_nf);have h1':(l.set 2 (Cell.lst (B++[.str x])))[1]? =some (.lst R):=by rw[fO ∅];exact h1
 have hm1:mtT .append (h++l.set 2 (.lst (B++[.str x]))) (.ref (↥h+1))=true:=by simp only[mtT,a3u h1',Option.isSome_some]
 have h1'':(l.set 2 (Cell.lst (B++[.str x]))++[.lst []])[1]? =some (.lst R):=b6 h1';have ha1:mtD .append (h++l.set 2 (.lst (B++[.str x]))++[.lst []]) (.ref (↥h+1)) [.ref ↥(h++l.set 2 (.lst (B++[.str x])))]=.ok .non (h++((l.set 2 (.lst (B++[.str x]))).set 1 (.lst (R++[.ref (↥h+↥l)]))++[.lst []])):=by rw[aA,a1q h1'' (show R.length<16777216 by ac_nf)];have hl:1<↥(l.set 2 (Cell.lst (B++[.str x]))):=(ac.mp h1').1;rw[List.set_append_left _ _ hl];simp
 simp only[rpB];simp![op2,a6N,hx,eO,ha2,hm1,v8,ha1]
end
def i9(bG bE bL told:List Str):List Str:=bG++("/":Str)::(bE++("/":Str)::(bL++(">":Str)::told))
noncomputable def a0I(n:Nat)(bG bE bL told:List Str):AH:=[.lst (bG.map .str),.lst [.ref n,.ref (n+4),.ref (n+5),.ref (n+6)],.lst [.str "/",.str "/",.str ">"],.lst ((i9 bG bE bL told).map .str),.lst (bE.map .str),.lst (bL.map .str),.lst (told.map .str),.lst [.str "/",.str "/",.str ">"]]
variable{f:Str}{bG:List Str}{bE:List Str}{bL:List Str}
section
variable{ct:CT}{F:Nat->Option Fn}(W:PF F)
include W
theorem a0T{k:Nat}{t:Str}{told:List Str}(hw:h[w]? =some (.lst (.str x::.str t::.str f::(i9 bG bE bL told).map .str)))
 (pl:∀y∈bG++bE++bL++told,J9 y=false) (hl:↥(bG++bE++bL++told)<=1000):b5 ct F (k+1) 28 [.ref w] h=.ok (.ref (↥h+1)) (h++a0I ↥h bG bE bL told):=by
 rw[i6 W.f28 rfl];have hf:Y5=⟨1,4,0,(.set 1 (.lst (.o (.lst .nil)))>=>.set 2 (.lst .nil)>=>.for (.nm 3) (.seq (.sl (.v 0) (.at (.i 3)) .no)) rpB>=>.iff (.cmp .ne (.v 2) (.lst (.s "/">=>.s "/">=>.o (.s ">")))) (.o (.ret (.k .non))) .nil>=>.o (.ret (.v 1)))⟩:=rfl;simp only[hf];rw[gc0];have e3:∀xs,N4 xs (some 3) none=xs.drop 3:=M4 3;have hw':=b6 (g:=[Cell.lst [],.lst [.ref ↥h],.lst []]) hw;simp only[aq] at hl;have m1:∀y∈bG,J9 y=false:=λy hy=>pl y (by simp[hy]);have m2:∀y∈bE,J9 y=false:=λy hy=>pl y (by simp[hy]);have m3:∀y∈bL,J9 y=false:=λy hy=>pl y (by simp[hy]);have m4:∀y∈told,J9 y=false:=λy hy=>pl y (by simp[hy]);have ps:J9 "/"=true:=by decide
 have pg:J9 ">"=true:=by decide
 obtain⟨e1,s1⟩:=a3s (c:=b5 ct F k) (h:=h) (w:=w) (q:=0) (S:=(i9 bG bE bL told).map D.str) bG [.lst [],.lst [.ref ↥h],.lst [],.lst ((i9 bG bE bL told).map D.str)] [] [] none ((("/":Str)::(bE++("/":Str)::(bL++(">":Str)::told))).map D.str) rfl rfl rfl ∅ ∅ m1 (by simp;ac_nf);obtain⟨e2,s2⟩:=a5g (c:=b5 ct F k) (h:=h) (w:=w) (S:=(i9 bG bE bL told).map D.str) "/" [.lst (bG.map .str),.lst [.ref ↥h],.lst [],.lst ((i9 bG bE bL told).map D.str)] [.ref ↥h] [] e1 ((bE++("/":Str)::(bL++(">":Str)::told)).map D.str) rfl rfl rfl ps ⋯ ⋯;obtain⟨e3',s3⟩:=a3s (c:=b5 ct F k) (h:=h) (w:=w) (q:=4) (S:=(i9 bG bE bL told).map D.str) bE [.lst (bG.map .str),.lst [.ref ↥h,.ref (↥h+4)],.lst [.str "/"],.lst ((i9 bG bE bL told).map D.str),.lst []] [.ref ↥h] [] e2 ((("/":Str)::(bL++(">":Str)::told)).map D.str) rfl rfl rfl ∅ ∅ m2 (by simp;ac_nf);obtain⟨e4,s4⟩:=a5g (c:=b5 ct F k) (h:=h) (w:=w) (S:=(i9 bG bE bL told).map D.str) "/" [.lst (bG.map .str),.lst [.ref ↥h,.ref (↥h+4)],.lst [.str "/"],.lst ((i9 bG bE bL told).map D.str),.lst (bE.map .str)] [.ref ↥h,.ref (↥h+4)] [.str "/"] e3' ((bL++(">":Str)::told).map D.str) rfl rfl rfl ps ⋯ ⋯;obtain⟨e5,s5⟩:=a3s (c:=b5 ct F k) (h:=h) (w:=w) (q:=5) (S:=(i9 bG bE bL told).map D.str) bL [.lst (bG.map .str),.lst [.ref ↥h,.ref (↥h+4),.ref (↥h+5)],.lst [.str "/",.str "/"],.lst ((i9 bG bE bL told).map D.str),.lst (bE.map .str),.lst []] [.ref ↥h,.ref (↥h+4)] [] e4 (((">":Str)::told).map D.str) rfl rfl rfl ∅ ∅ m3 (by simp;ac_nf);obtain⟨e6,s6⟩:=a5g (c:=b5 ct F k) (h:=h) (w:=w) (S:=(i9 bG bE bL told).map D.str) ">" [.lst (bG.map .str),.lst [.ref ↥h,.ref (↥h+4),.ref (↥h+5)],.lst [.str "/",.str "/"],.lst ((i9 bG bE bL told).map D.str),.lst (bE.map .str),.lst (bL.map .str)] [.ref ↥h,.ref (↥h+4),.ref (↥h+5)] [.str "/",.str "/"] e5 (told.map D.str) rfl rfl rfl pg ⋯ ⋯;obtain⟨e7,s7⟩:=a3s (c:=b5 ct F k) (h:=h) (w:=w) (q:=6) (S:=(i9 bG bE bL told).map D.str) told [.lst (bG.map .str),.lst [.ref ↥h,.ref (↥h+4),.ref (↥h+5),.ref (↥h+6)],.lst [.str "/",.str "/",.str ">"],.lst ((i9 bG bE bL told).map D.str),.lst (bE.map .str),.lst (bL.map .str),.lst []] [.ref ↥h,.ref (↥h+4),.ref (↥h+5)] [] e6 [] rfl rfl rfl ∅ ∅ m4 (by simp;ac_nf);have sx:(i9 bG bE bL told).map D.str=bG.map D.str++(("/":Str)::(bE++("/":Str)::(bL++(">":Str)::told))).map D.str:=by unfold i9;rw[ao]
 have all:G0 [(↥h+3,.lst ((i9 bG bE bL told).map D.str))] (.nm 3) (exs ct (b5 ct F k) rpB) ((i9 bG bE bL told).map D.str) [~~~w,some (.ref (↥h+1)),some (.ref (↥h+2)),none] (h++[.lst [],.lst [.ref ↥h],.lst [],.lst ((i9 bG bE bL told).map D.str)])=
  .ok (.nx [~~~w,some (.ref (↥h+1)),some (.ref (↥h+2)),e7]) (h++[.lst (bG.map .str),.lst [.ref ↥h,.ref (↥h+4),.ref (↥h+5),.ref (↥h+6)],.lst [.str "/",.str "/",.str ">"],.lst ((i9 bG bE bL told).map D.str),.lst (bE.map .str),.lst (bL.map .str),.lst (told.map .str)]):=by
  rw[←sx] at s1;refine s1.trans ?_;refine s2.trans ?_;rw[ao];refine s3.trans ?_;refine s4.trans ?_;rw[ao];refine s5.trans ?_;refine s6.trans ?_;rw[aZ] at s7;refine s7.trans ?_;rw[G0,ay (by simp[gOk,A8])];rfl
 simp![v8,aA,G4 hw',e3,drop_succ_cons,drop_zero,L3,aq,A8,all];have eZ:op2 .ne (h++[Cell.lst (bG.map D.str),.lst [.ref ↥h,.ref (↥h+4),.ref (↥h+5),.ref (↥h+6)],.lst [.str "/",.str "/",.str ">"],.lst ((i9 bG bE bL told).map D.str),.lst (bE.map .str),.lst (bL.map .str),.lst (told.map .str),.lst [.str "/",.str "/",.str ">"]]) (.ref (↥h+2)) (.ref (↥h+7))=
  .ok (.bl false) (h++[Cell.lst (bG.map D.str),.lst [.ref ↥h,.ref (↥h+4),.ref (↥h+5),.ref (↥h+6)],.lst [.str "/",.str "/",.str ">"],.lst ((i9 bG bE bL told).map D.str),.lst (bE.map .str),.lst (bL.map .str),.lst (told.map .str),.lst [.str "/",.str "/",.str ">"]]):=by
  exact b7R rfl rfl ∅
 simp![eZ];rfl
end
def O4(z:Str):Bool:=decide ((cd z).head? =some 64)&&c9 (tl z)
def V3(z:Str):Bool:=c9 z||O4 z
def N2(H:HD)(z:Str):Bool:=if O4 z then decide (tl z∈H.classes.map (·.1)) else decide (z∈H.shapes.map (·.1))
theorem a6O{c:Nat}(h:(cd z).head? =some c):1<=↥z:=by
 rw[←t9];cases hq:cd z with
 |nil=>rw[hq] at h;cases h
 |cons c r=>simp
theorem b9w(z:Str):↥(tl z)<=↥z:=by rw[←t9,←t9,a2C,bx];ac_nf
section
variable{ct:CT}{F:Nat->Option Fn}(W:PF F)
include W
theorem a0A(h1:1<=↥z)(hz:↥z<=100000):b5 ct F (n+1) 6 [.str z] h=.ok (.str (tl z)) h:=by
 rw[i6 W.f6 rfl];simp only[Q7];have hl:↥z<=SL:=by show _<=16777216;ac_nf
 have ha:↥(Str.ofString "@")=1:=by decide
 simp![biD,bi1,biL,ha,slD,ay hl,Int.cast_ofNat_Int];rw[a3p z h1];exact r8 rfl
theorem a2w(hz:↥z<=100000):b5 ct F (n+3) 7 [.str z] h=.ok (.bl (O4 z)) h:=by
 rw[i6 W.f7 rfl];simp only[Q4];have dL:Txt.startswith z "@"=decide ((cd z).head? =some 64):=X1;unfold O4
 by_cases h1:(cd z).head? =some 64
 · have dS:=a6O h1;have ht:↥(tl z)<=100000:=aR (b9w z) hz;simp![mtT,mtD,dL,h1,fM,a0A W dS hz,G8 W ht,fT];exact r8 rfl
 · simp![mtT,mtD,dL,h1,fJ,fW];exact r8 rfl
theorem a7P(hz:↥z<=100000):b5 ct F (n+4) 8 [.str z] h=.ok (.bl (V3 z)) h:=by
 rw[i6 W.f8 rfl];simp only[a2l];unfold V3;simp![G8 W hz,a2w W hz];cases c9 z with
 |true=>simp![Bool.true_or];exact r8 rfl
 |false=>simp![Bool.false_or];exact r8 rfl
theorem a6a(hw:h[w]? =some (.lst (ws.map D.str)))(hl:↥ws<=SL)(hs:∀x∈ws,↥x<=100000):b5 ct F (n+5) 11 [.ref w] h=.ok (.bl (ws.all V3)) h:=
 a2o (n:=n+4) W W.f11 rfl hw hl λx hx=>a7P W (hs x hx)
theorem a6Q{k:Nat}{H:HD}(A:HallAt h n H)(hz:↥z<=100000):b5 ct F (k+4) 30 [.ref n,.str z] h=.ok (.bl (N2 H z)) h:=by
 rw[i6 W.f30 rfl];simp only[a1j];unfold N2;simp![a2w W hz];cases hc:O4 z with
 | true=>
  have dS:1<=↥z:=by unfold O4 at hc;rw[ae] at hc;exact a6O (aw hc.1)
  simp![a0A W dS hz,A.fld6,op2,Z2 A.c6];exact r8 rfl
 |false=>
  simp![A.fld1,op2,Z2 A.c1];exact r8 rfl
theorem a5E{k:Nat}{H:HD}(A:HallAt h n H)(hw:h[w]? =some (.lst (ws.map .str)))(hl:↥ws<=SL)(hs:∀x∈ws,↥x<=100000):b5 ct F (k+5) 29 [.ref n,.ref w] h=.ok (.bl (ws.all (N2 H))) h:=by
 rw[i6 W.f29 rfl];simp only[a0t];simp![];rw[n9 (l:=ws.map D.str) (g:=[(w,.lst (ws.map D.str))]) (h1:=h) ?_ (by simp[gOk,hw]) (λd=>match d with|.str x=>.bl (N2 H x)|_=>.non) (λd=>[some d,~~~n]) ?_ (by simpa using hl)]
 · have e:(ws.map D.str).map (λd=>match d with|D.str x=>D.bl (N2 H x)|_=>D.non)=ws.map λx=>D.bl (N2 H x):=by rw[aI];rfl
   rw[e];simp![a1U];exact gc1 rfl
 · simp![L3,hw]
 · intro x hx;obtain⟨y,hy,rfl⟩:=al.mp hx;refine⟨rfl,?_⟩;simp![a6Q W A (hs y hy)]
theorem a6P{k:Nat}{H:HD}{t:Str}(A:HallAt h n H)(hl:↥H.rules<=100000):b5 ct F (k+1) 31 [.ref n,.str t] h=.ok (.bl (decide (t∈H.rules.map (·.1)))) h:=by
 rw[i6 W.f31 rfl];simp only[a1i];simp![];rw[n9 (l:=rd H.rules) (g:=[(n+8,.lst (rd H.rules))]) (h1:=h) ?_ (by simp[gOk,A.c8]) (λd=>match d with|.tup (.str x::_)=>.bl (decide (x=t))|_=>.non) (λd=>[some d,some (.str t)]) ?_ (by simp[rd];show _<=16777216;ac_nf)]
 · have e:(rd H.rules).map (λd=>match d with|D.tup (D.str x::_)=>D.bl (decide (x=t))|_=>D.non)=H.rules.map λr=>D.bl (decide (r.1=t)):=by unfold rd;rw[aI];rfl
   rw[e];simp![b6l];have e2:(H.rules.any λr=>decide (r.1=t))=decide (t∈H.rules.map (·.1)):=by rw[gI,bn,gG,al];exact⟨λ⟨r,h1,h2⟩=>⟨r,h1,aw h2⟩,λ⟨r,h1,h2⟩=>⟨r,h1,ba h2⟩⟩
   rw[e2];exact gc1 rfl
 · simp![A.fld8,L3,A.c8]
 · intro x hx;unfold rd at hx;obtain⟨y,hy,rfl⟩:=al.mp hx;refine⟨rfl,?_⟩;have:atI (D.str y.1::y.2) 0=some (D.str y.1):=by simp[atI,ixN]
   simp![ixD,this,op2,J3,eqS]
end
theorem a6T{l:AH}:(h++l)[↥h]? =l[0]? :=A8 (i:=0)
structure RP(g:AH)(n:Nat)(bG bE bL told:List Str):Prop where
 l:g[n+1]? =some (.lst [.ref n,.ref (n+4),.ref (n+5),.ref (n+6)])
 p0:g[n]? =some (.lst (bG.map .str))
 p1:g[n+4]? =some (.lst (bE.map .str))
 p2:g[n+5]? =some (.lst (bL.map .str))
 p3:g[n+6]? =some (.lst (told.map .str))
theorem RP.mk'{told:List Str}:RP (h++a0I ↥h bG bE bL told) ↥h bG bE bL told:=
 ⟨A8,a6T,A8,A8,A8⟩
theorem RP.app{told:List Str}(r:RP g n bG bE bL told)(t:AH):RP (g++t) n bG bE bL told:=⟨b6 r.l,b6 r.p0,b6 r.p1,b6 r.p2,b6 r.p3⟩
theorem RP.i0{told:List Str}(r:RP g n bG bE bL told):ixD g (.ref (n+1)) (.int 0)=.ok (.ref n) g:=u9 0 0 rfl r.l rfl
theorem RP.i1{told:List Str}(r:RP g n bG bE bL told):ixD g (.ref (n+1)) (.int 1)=.ok (.ref (n+4)) g:=u9 1 1 rfl r.l rfl
theorem RP.i2{told:List Str}(r:RP g n bG bE bL told):ixD g (.ref (n+1)) (.int 2)=.ok (.ref (n+5)) g:=u9 2 2 rfl r.l rfl
theorem RP.i3{told:List Str}(r:RP g n bG bE bL told):ixD g (.ref (n+1)) (.int 3)=.ok (.ref (n+6)) g:=u9 3 3 rfl r.l rfl
variable{b:Nat}
theorem a1V{a:Nat}{ys:List D}(h1:g[a]? =some (.lst xs))(h2:g[b]? =some (.lst ys))(hl:↥xs+↥ys<=100000):T0 g (.ref a) (.ref b)=.ok (.ref ↥g) (g++[.lst (xs++ys)]):=by simp only[T0,h1,h2];rw[ay (by show _<=16777216;ac_nf)];rfl
theorem c2y{b x:Bool}:(if b=true then R.ok (D.bl x) h else R.ok (D.bl false) h)=.ok (.bl (b&&x)) h:=by cases b<;>rfl
theorem b8S:(true !=false)=true:=rfl
structure RuleForm(t f:Str)(bG bE bL told:List Str):Prop where
 ht:c9 t=true
 hf:c9 f=true
 b:↥bG<=3
 c1:1<=↥bE
 c2:↥bE<=4
 a:↥bL<=3
 o1:1<=↥told
 o2:↥told<=3
 it:(bG++bE++bL).all V3=true
 to:told.all c9=true
 len:∀y∈t::f::(bG++bE++bL++told),↥y<=100000
variable{y:Str}
theorem a8A(h:V3 y=true):J9 y=false:=by
 cases hp:J9 y with
 |false=>rfl
 |true=>
  unfold J9 at hp;rw[bp] at hp;rcases hp with e|e
  · have e:=aw e;subst e;revert h;decide
  · have e:=aw e;subst e;revert h;decide
theorem RuleForm.pl{t:Str}{told:List Str}(r:RuleForm t f bG bE bL told):∀y∈bG++bE++bL++told,J9 y=false:=λy hy=>by
 rcases aL.mp hy with hy|hy
 · exact a8A (bm.mp r.it y hy)
 · exact a8A (by unfold V3;rw[bm.mp r.to y hy];rfl)
theorem RuleForm.sz{t:Str}{told:List Str}(r:RuleForm t f bG bE bL told):↥(bG++bE++bL++told)<=1000:=by have:=r.b;have:=r.c2;have:=r.a;have:=r.o2;simp only[aq];ac_nf
variable{sd:Str}
section
variable{ct:CT}{F:Nat->Option Fn}(W:PF F)
include W
theorem a2g{k:Nat}{t:Str}{told:List Str}(hw:h[w]? =some (.lst (.str x::.str t::.str f::(i9 bG bE bL told).map .str)))(r:RuleForm t f bG bE bL told):b5 ct F (k+6) 27 [.ref w] h=.ok (.bl true) h:=by
 rw[i6 W.f27 rfl];simp only[Q6];have dW:N4 (.str x::.str t::.str f::(i9 bG bE bL told).map .str) (some 1) (some 3)=[.str t,.str f]:=by have:=W9 1 3 (.str x::.str t::.str f::(i9 bG bE bL told).map .str) ∅ ⋯;exact this
 have hw1:=b6 (g:=[Cell.lst [.str t,.str f]]) hw;have hn:b5 ct F (k+5) 9 [.ref ↥h] (h++[.lst [.str t,.str f]])=.ok (.bl true) (h++[.lst [.str t,.str f]]):=by
  have:=R9 (ct:=ct) (n:=k+2) (ws:=[t,f]) W (b7 (h:=h) (c:=.lst [.str t,.str f])) (by show 2<=16777216;decide) (λy hy=>r.len y (by
   rcases aF.mp hy with rfl|hy
   · simp
   · rw[aO] at hy;subst hy;simp))
  simpa [r.ht,r.hf] using this
 have hp:=a0T (ct:=ct) (k:=k+4) W hw1 r.pl r.sz;have R:=RP.mk' (h:=h++[Cell.lst [.str t,.str f]]) (bG:=bG) (bE:=bE) (bL:=bL) (told:=told);generalize hn1:↥(h++[Cell.lst [.str t,.str f]])=n at hp R;generalize hg:h++[Cell.lst [.str t,.str f]]++a0I n bG bE bL told=g at hp R;have R1:=R.app [.lst (bG.map D.str++bE.map D.str)];have R2:=R1.app [.lst (bG.map D.str++bE.map D.str++bL.map D.str)];have lb:=r.b;have lc1:=r.c1;have lc2:=r.c2;have la:=r.a;have lo1:=r.o1;have lo2:=r.o2;have a1:=a1V R.p0 R.p1 (by simp;ac_nf);have a2:=a1V (b7 (h:=g) (c:=.lst (bG.map D.str++bE.map D.str))) R1.p2 (by simp;ac_nf);have hi:b5 ct F (k+5) 11 [.ref ↥(g++[Cell.lst (bG.map D.str++bE.map D.str)])] (g++[.lst (bG.map D.str++bE.map D.str)]++[.lst (bG.map D.str++bE.map D.str++bL.map D.str)])=.ok (.bl true) (g++[.lst (bG.map D.str++bE.map D.str)]++[.lst (bG.map D.str++bE.map D.str++bL.map D.str)]):=by have:=a6a (ct:=ct) (n:=k) (ws:=bG++bE++bL) W (h:=g++[.lst (bG.map D.str++bE.map D.str)]++[.lst (bG.map D.str++bE.map D.str++bL.map D.str)]) (w:=↥(g++[Cell.lst (bG.map D.str++bE.map D.str)])) (by rw[b7];simp) (by show _<=16777216;simp;ac_nf) (λy hy=>r.len y (aE _ (aE _ (mem_append_left _ hy))));rw[r.it] at this;exact this
 have ht:b5 ct F (k+5) 9 [.ref (n+6)] (g++[.lst (bG.map D.str++bE.map D.str)]++[.lst (bG.map D.str++bE.map D.str++bL.map D.str)])=.ok (.bl true) (g++[.lst (bG.map D.str++bE.map D.str)]++[.lst (bG.map D.str++bE.map D.str++bL.map D.str)]):=by have:=R9 (ct:=ct) (n:=k+2) (ws:=told) W R2.p3 (by show _<=16777216;ac_nf) (λy hy=>r.len y (by simp[hy]));rw[r.to] at this;exact this
 have d1:decide ((3:Int)<(↥bG:Int))=false:=bw nofun;have d2:decide ((3:Int)<(↥bL:Int))=false:=bw nofun;have d3:decide ((1:Int)<=(↥bE:Int))=true:=ba nofun;have d4:decide ((↥bE:Int)<=4)=true:=ba nofun;have d5:decide ((1:Int)<=(↥told:Int))=true:=ba nofun;have d6:decide ((↥told:Int)<=3)=true:=ba nofun;have nn:∀m:Nat,decide (D.ref m=D.non)=false:=λm=>bw (λz=>nomatch z);simp![G4 hw,dW,hn,fK,hp,nn,R.i0,R.i1,R.i2,R.i3,n5 R.p0,n5 R.p1,n5 R.p2,n5 R.p3,aa,op2,G3,d1,d2,d3,d4,d5,d6,a1,a2,R1.i2,R2.i3,hi,ht];rw[←hg];simp only[aA];exact gc1 rfl
theorem a4Y{k:Nat}{H:HD}{t:Str}{told:List Str}(A:HallAt h n H)(hr:↥H.rules<=100000)(hw:h[w]? =some (.lst (.str x::.str t::.str f::(i9 bG bE bL told).map .str)))(r:RuleForm t f bG bE bL told):
 ∃h',b5 ct F (k+7) 26 [.ref n,.ref w] h=.ok (V6 (due (decide (t∈H.rules.map (·.1))) (decide (f∈H.features.map (·.1))&&((bG++bE++bL).all (N2 H)&&told.all λx=>decide (x∈H.shapes.map (·.1)))) (decide ((30:Int)<=(↥H.rules:Int))))) h'/\Fr n h h'∧
  HallAt h' n (if(due (decide (t∈H.rules.map (·.1))) (decide (f∈H.features.map (·.1))&&((bG++bE++bL).all (N2 H)&&told.all λx=>decide (x∈H.shapes.map (·.1)))) (decide ((30:Int)<=(↥H.rules:Int)))).isNone then{H with rules:=H.rules++[(t,[.str f,.tup (bG.map .str),.tup (bE.map .str),.tup (bL.map .str),.tup (told.map .str)])]} else H):=by
 rw[i6 W.f26 rfl];simp only[a0p];rw[gc0];have hp:=a0T (ct:=ct) (k:=k+5) W hw r.pl r.sz;have R:=RP.mk' (h:=h) (bG:=bG) (bE:=bE) (bL:=bL) (told:=told);have A0:=A.app (a0I ↥h bG bE bL told);have fr0:=Fr.app n h (a0I ↥h bG bE bL told);generalize ↥h=m at hp R A0 fr0;generalize h++a0I m bG bE bL told=g at hp R A0 fr0;have R1:=R.app [.lst (bG.map D.str++bE.map D.str)];have R2:=R1.app [.lst (bG.map D.str++bE.map D.str++bL.map D.str)];have A2:=(A0.app [.lst (bG.map D.str++bE.map D.str)]).app [.lst (bG.map D.str++bE.map D.str++bL.map D.str)];have lb:=r.b;have lc2:=r.c2;have la:=r.a;have lo2:=r.o2;have a1:=a1V R.p0 R.p1 (by simp;ac_nf);have a2:=a1V (b7 (h:=g) (c:=.lst (bG.map D.str++bE.map D.str))) R1.p2 (by simp;ac_nf);have hi:=a5E (ct:=ct) (k:=k+1) (ws:=bG++bE++bL) W A2 (w:=↥(g++[Cell.lst (bG.map D.str++bE.map D.str)])) (by rw[b7];simp) (by show _<=16777216;simp;ac_nf) (λy hy=>r.len y (aE _ (aE _ (mem_append_left _ hy))));have hs:=V4 (ct:=ct) (k:=k+5) W A2 R2.p3 (by show _<=16777216;ac_nf);have hq:=a6P (ct:=ct) (k:=k+5) (t:=t) W A2 hr;have fr2:Fr n h (g++[.lst (bG.map D.str++bE.map D.str)]++[.lst (bG.map D.str++bE.map D.str++bL.map D.str)]):=fr0.trans ((Fr.app n g _).trans (Fr.app n _ _));have lr:biD .len (g++[.lst (bG.map D.str++bE.map D.str)]++[.lst (bG.map D.str++bE.map D.str++bL.map D.str)]) [.ref (n+8)]=.ok (.int ↥H.rules) (g++[.lst (bG.map D.str++bE.map D.str)]++[.lst (bG.map D.str++bE.map D.str++bL.map D.str)]):=by rw[n5 A2.c8];simp[rd]
 generalize hG:g++[Cell.lst (bG.map D.str++bE.map D.str)]++[.lst (bG.map D.str++bE.map D.str++bL.map D.str)]=G at a2 hi hs hq lr A2 R2 fr2;have hmt:mtT .append G (.ref (n+8))=true:=by
  have:rdL G (n+8)=some (rd H.rules):=by unfold rdL;rw[A2.c8]
  simp only[mtT,this,Option.isSome_some]
 have hap:∀d,mtD .append G (.ref (n+8)) [d]=.ok .non (G.set (n+8) (.lst (rd H.rules++[d]))):=λd=>by simp only[mtD,A2.c8];rw[ay (by show(rd H.rules).length<16777216;simp[rd];ac_nf)]
 simp![a2g W hw r,fK,u9 1 1 rfl hw rfl,u9 2 2 rfl hw rfl,hp,R.i0,R.i1,op2,a1,R1.i2,a2,A2.fld7,Z2 A2.c7,hi,R2.i3,hs,c2y,hq,A2.fld8,lr,G3,C7 W,W8];generalize hd:due (decide (t∈H.rules.map (·.1))) (decide (f∈H.features.map (·.1))&&((bG++bE++bL).all (N2 H)&&told.all λx=>decide (x∈H.shapes.map (·.1)))) (decide ((30:Int)<=(↥H.rules:Int)))=du;cases du with
 |some f=>
  simp![Option.isNone_some,V6];exact⟨G,rfl,fr2,A2⟩
 |none=>
  simp![Option.isNone_none,A2.fld8,hmt,R2.i0,R2.i1,R2.i2,R2.i3,O0 R2.p0,O0 R2.p1,O0 R2.p2,O0 R2.p3,hap,V6];refine⟨_,rfl,fr2.trans (Fr.set nofun nofun),?_⟩;have:=A2.s8 (H.rules++[(t,[.str f,.tup (bG.map .str),.tup (bE.map .str),.tup (bL.map .str),.tup (told.map .str)])]);rw[show rd (H.rules++[(t,[.str f,.tup (bG.map .str),.tup (bE.map .str),.tup (bL.map .str),.tup (told.map .str)])])=rd H.rules++[.tup (.str t::[.str f,.tup (bG.map .str),.tup (bE.map .str),.tup (bL.map .str),.tup (told.map .str)])] by simp[rd]] at this;exact this
theorem a5m{k:Nat}{a b:Str}{i j:Int}(hw:h[w]? =some (.lst [.str a,.str b]))(ha:a0S a=some i)(hb:a0S b=some j):b5 ct F (k+1) 16 [.ref w] h=.ok (.tup [.int i,.int j]) h:=by obtain⟨a1,a2⟩:=a2O ha;obtain⟨b1,b2⟩:=a2O hb;rw[i6 W.f16 rfl];simp only[a2i];simp![u9 0 0 rfl hw rfl,u9 1 1 rfl hw rfl,a7R a2 a1,a7R b2 b1];exact r8 rfl
theorem a1w{k:Nat}{a:Str}{c:Int}(hw:h[w]? =some (.lst (.str x::.str a::.str sd::ws.map .str)))(ha:c9 a=true)(eR:↥a<=100000)(hs:inD (.str sd) [.str "above",.str "below"]=true)(hc:c=↥ws)(hn:ws.all a4u=true)(hwl:∀y∈ws,↥y<=100000)(hl:↥ws<=100000):b5 ct F (k+5) 18 [.ref w,.int c] h=.ok (.bl true) h:=by subst hc;rw[i6 W.f18 rfl];simp only[Q5];have e3:∀xs,N4 xs (some 3) none=xs.drop 3:=M4 3;have hg:=a4m (ct:=ct) (n:=k) (ws:=ws) W (b7 (h:=h) (c:=.lst (ws.map .str))) (by show _<=16777216;ac_nf) hwl;rw[hn] at hg;have hd:decide (((↥ws+1+1+1:Nat):Int)=3+(↥ws:Int))=true:=ba nofun;simp![n5 hw,aa,op2,T0,a3y,eqS,hd,fK,u9 1 1 rfl hw rfl,u9 2 2 rfl hw rfl,G8 W eR,ha,hs,y7,all_cons,all_nil,gD,and_self,b8S,G4 hw,e3,drop_succ_cons,drop_zero,hg];exact gc1 rfl
theorem a4g{k:Nat}{H:HD}{a b c:Str}{i j:Int}(A:HallAt h n H)(hw:h[w]? =some (.lst [.str x,.str a,.str sd,.str b,.str c]))(ha:c9 a=true)(eR:↥a<=100000)(hs:inD (.str sd) [.str "above",.str "below"]=true)(hb:a0S b=some i)(hc:a0S c=some j)(hl:↥H.points<=100000):
 ∃h',b5 ct F (k+6) 20 [.ref n,.ref w] h=.ok (V6 (due (decide ((a,sd)∈H.points.map (·.1))) (decide (a∈H.shapes.map (·.1))) false)) h'/\Fr n h h'∧
  HallAt h' n (if(due (decide ((a,sd)∈H.points.map (·.1))) (decide (a∈H.shapes.map (·.1))) false).isNone then{H with points:=H.points++[((a,sd),.tup [.int i,.int j])]} else H):=by
 obtain⟨_,b2⟩:=a2O hb;obtain⟨_,c2⟩:=a2O hc;have hf:b5 ct F (k+5) 18 [.ref w,.int 2] h=.ok (.bl true) h:=a1w (ws:=[b,c]) W hw ha eR hs rfl (by simp[a6m,hb,hc]) (λy hy=>by
  rcases aF.mp hy with rfl|hy
  · ac_nf
  · rw[aO] at hy;subst hy;ac_nf) ⋯
 rw[i6 W.f20 rfl];simp only[Y3];rw[gc0];simp![hf,fK,u9 1 1 rfl hw rfl,u9 2 2 rfl hw rfl,op2,A.fld3,c0v A.c3,A.fld1,Z2 A.c1,C7 W,W8];generalize hd:due (decide ((a,sd)∈H.points.map (·.1))) (decide (a∈H.shapes.map (·.1))) false=du;cases du with
 |some f=>
  simp![Option.isNone_some,V6];exact⟨h,rfl,Fr.refl n h,A⟩
 |none=>
  obtain⟨d1,_,_⟩:=a0z hd;have e35:N4 [.str x,.str a,.str sd,.str b,.str c] (some 3) (some 5)=[.str b,.str c]:=W9 3 5 _ ∅ ⋯;have A1:=A.app [.lst [.str b,.str c]];simp![Option.isNone_none,G4 hw,e35,a5m W (b7 (h:=h)) hb hc,A1.fld3,a9z A1.c3 (gj d1) (show _<16777216 by ac_nf),V6];exact⟨_,rfl,(Fr.app n h _).trans (Fr.set nofun nofun),A1.s3 _⟩
end
variable{text:Str}
section
variable{ct:CT}{F:Nat->Option Fn}
def Z4(ct:CT)(F:Nat->Option Fn)(d:Nat)(H:HD)(ws:List Str)(du:Option Str)(H':HD):Prop:=∀(h:AH)(n w:Nat),HallAt h n H->h[w]? =some (.lst (ws.map .str))->∃h',b5 ct F d 13 [.ref n,.ref w] h=.ok (V6 du) h'/\Fr n h h'/\HallAt h' n H'
inductive Reads(ct:CT)(F:Nat->Option Fn)(d:Nat):HD->List Str->HD->Prop
 |nil (H:HD):Reads ct F d H [] H
 |take {H H1 H':HD} {row:Str} {d9:List Str} (hl:row.length<=100000) (hw:N7 row≠[]) (k:Z4 ct F d H (N7 row) none H1) (t:Reads ct F d H1 d9 H'):Reads ct F d H (row::d9) H'
variable(W:PF F)
include W
theorem b5h{d:Nat}{R:List Str}{H H':HD}{rows:List Str}(q:Reads ct F (d+1) H rows H'):∀(p:Nat)(h:AH)(e2 e3 e4 e5:Option D),HallAt h n H->h[n+9]? =some (.lst (R.map .str))→
 ∃h',Fr n h h'/\HallAt h' n H'/\∃a2 a3 a4 a5,G0 [(n+9,.lst (R.map .str))] (.tp (.nm 2>=>.nm 3>=>.nil)) (exs ct (b5 ct F (d+1)) rhB) (u5 p (rows.map D.str)) [some (.str text),~~~n,e2,e3,e4,e5] h=.ok (.nx [some (.str text),~~~n,a2,a3,a4,a5]) h':=by
 have step:∀{h:AH}{e2 e3 e4 e5:Option D}{row:Str}{d9:List D}{p:Nat},h[n+9]? =some (.lst (R.map .str))→
  G0 [(n+9,.lst (R.map .str))] (.tp (.nm 2>=>.nm 3>=>.nil)) (exs ct (b5 ct F (d+1)) rhB) (.tup [.int p,.str row]::d9) [some (.str text),~~~n,e2,e3,e4,e5] h=
  (exs ct (b5 ct F (d+1)) rhB [some (.str text),~~~n,some (.int p),some (.str row),e4,e5] h).bind λo h'=>match o with
   |.nx env''=>G0 [(n+9,.lst (R.map .str))] (.tp (.nm 2>=>.nm 3>=>.nil)) (exs ct (b5 ct F (d+1)) rhB) d9 env'' h'
   |.rt d=>.ok (.rt d) h':=fun{h e2 e3 e4 e5 row d9 p} hs=>by
  rw[G0,ay (by simp[gOk,hs])];rfl
 induction q with
 |nil H=>
  intro p h e2 e3 e4 e5 A hs;refine⟨h,Fr.refl n h,A,e2,e3,e4,e5,?_⟩;rw[map_nil,u5,G0,ay (by simp[gOk,hs])]
 | @take H H1 H' row d9 hl hw k t ih=>
  intro p h e2 e3 e4 e5 A hs;obtain⟨h1,k1,k2,k3⟩:=k (h++[.lst ((N7 row).map .str)]) n ↥h (A.app _) b7;have hs1:h1[n+9]? =some (.lst (R.map .str)):=by have hs0:=b6 (g:=[Cell.lst ((N7 row).map .str)]) hs;rw[k2.get (n+9) (ac.mp hs0).1 nofun];exact hs0
  obtain⟨h',f1,A',e2',e3',e4',e5',m⟩:=ih (p+1) h1 (some (.int p)) (some (.str row)) (~~~↥h) (some .non) k3 hs1;have hp:decide ((0:Int)<(↥((N7 row).map D.str):Int))=true:=ba (by
   cases hq:N7 row with
   |nil=>exact absurd hq hw
   |cons a b=>simp)
  have e:exs ct (b5 ct F (d+1)) rhB [some (.str text),~~~n,some (.int p),some (.str row),e4,e5] h=.ok (.nx [some (.str text),~~~n,some (.int p),some (.str row),~~~↥h,some .non]) h1:=by simp only[rhB];simp![a6e W hl,n5 b7,op2,G3,hp,k1,V6,fM,fK]
  refine⟨h',((Fr.app n h _).trans k2).trans f1,A',e2',e3',e4',e5',?_⟩;rw[map_cons,u5,step hs,e,b9];exact m
theorem b5B(f:Fr ↥h h h'):h'.take ↥h=h:=by
 refine ext_getElem? λi=>?_
 by_cases hi:i<↥h
 · rw[bz hi,f.get i hi (.inl hi)]
 · rw[aW (by simp;ac_nf),aW nofun]
theorem a5j{d:Nat}{H':HD}(dQ:ct.init 6=32)(ht:↥text<=10000000)(q:Reads ct F (d+1) {} (Txt.split text "\n") H'):
 ∃h',h'.take ↥h=h/\HallAt h' ↥h H'/\b5 ct F (d+2) 12 [.str text] h=.ok (.ref ↥h) h':=by
 rw[i6 W.f12 rfl];have hf:a0r=⟨1,6,0,(.set 1 (.mk 6 .nil)>=>.for (.tp (.nm 2>=>.nm 3>=>.nil)) (.enum (.mt .split (.v 0) (.o (.s "\n")))) rhB>=>.o (.ret (.v 1)))⟩:=rfl;simp only[hf];rw[gc0];have A0:HallAt (h++[.obj 6 (a2h ↥h),.dict [],.dict [],.dict [],.dict [],.lst [],.dict [],.dict [],.lst []]) ↥h {}:=⟨a6T,A8,A8,A8,A8,A8,A8,A8,A8⟩;have bP:↥(h++[Cell.obj 6 (a2h ↥h),.dict [],.dict [],.dict [],.dict [],.lst [],.dict [],.dict [],.lst []])=↥h+9:=by simp
 have hnew:=b2r (ct:=ct) (n:=d) (h:=h) W;generalize hg:h++[Cell.obj 6 (a2h ↥h),.dict [],.dict [],.dict [],.dict [],.lst [],.dict [],.dict [],.lst []]=g at*
 have A1:=A0.app [.lst ((Txt.split text "\n").map .str)];have hs:(g++[Cell.lst ((Txt.split text "\n").map .str)])[↥h+9]? =some (.lst ((Txt.split text "\n").map .str)):=by rw[←bP];exact b7
 obtain⟨h',f1,A',e2,e3,e4,e5,m⟩:=b5h (d:=d) (R:=Txt.split text "\n") (text:=text) W q 0 (g++[.lst ((Txt.split text "\n").map .str)]) none none none none A1 hs;have fr:Fr ↥h h h':=by refine Fr.trans ?_ f1;rw[←hg];exact(Fr.app _ h _).trans (Fr.app _ _ _)
 refine⟨h',b5B W fr,A',?_⟩;have eY:mtD .split g (.str text) [.str "\n"]=.ok (.ref ↥g) (g++[.lst ((Txt.split text "\n").map .str)]):=by simp only[mtD];rw[ay ⟨by decide,by show _<=16777216;ac_nf⟩];rfl
 have hen:U5 (g++[.lst ((Txt.split text "\n").map .str)]) (.ref ↥g)=.ok (u5 0 ((Txt.split text "\n").map .str),[(↥h+9,.lst ((Txt.split text "\n").map .str))]) (g++[.lst ((Txt.split text "\n").map .str)]):=by simp only[U5,bP,hs]
 simp![dQ,hnew,mtT,eY,hen,m]
end
def dg(n:Nat):Str:=Str.ofString (toString (n:Int))
def lt(i:Nat):Nat:=97+i
theorem b3F:∀i:Fin 26,(cd abc)[i.val]? =some (lt i.val)/\Q3 (lt i.val)=true:=by decide+kernel
def nm(stem:Str)(k:Nat):Str:=(⟨#[lt (7*k%26)]⟩++stem)++dg (k*13%61)
variable{stem:Str}
theorem a3E(h:c9 z=true):1<=↥z/\↥z<=12:=by unfold c9 at h;rw[ae,ae] at h;exact⟨aw h.1.1,aw h.1.2⟩
theorem W3(h:c9 z=true){c:Nat}(hc:Q3 c=false):c∉cd z:=by unfold c9 at h;rw[ae] at h;intro hm;have:=bm.mp h.2 c hm;rw[hc] at this;cases this
section
variable{ct:CT}{F:Nat->Option Fn}(W:PF F)
include W
section
variable{k:Nat}{d9:List D}
theorem b0C(hw:h[w]? =some (.lst (.str "shape"::d9))):b5 ct F (k+1) 13 [.ref n,.ref w] h=b5 ct F k 17 [.ref n,.ref w] h:=by rw[i6 W.f13 rfl];simp only[E8];rw[gc0];simp![u9 0 0 rfl hw rfl,op2,J3,eqS,fM,fJ];generalize b5 ct F k 17 [.ref n,.ref w] h=r;cases r<;>simp![]
theorem b0D(hw:h[w]? =some (.lst (.str "point"::d9))):b5 ct F (k+1) 13 [.ref n,.ref w] h=b5 ct F k 20 [.ref n,.ref w] h:=by rw[i6 W.f13 rfl];simp only[E8];rw[gc0];simp![u9 0 0 rfl hw rfl,op2,J3,eqS,fM,fJ];generalize b5 ct F k 20 [.ref n,.ref w] h=r;cases r<;>simp![]
theorem a9v(hw:h[w]? =some (.lst (.str "letter"::d9))):b5 ct F (k+1) 13 [.ref n,.ref w] h=b5 ct F k 22 [.ref n,.ref w] h:=by rw[i6 W.f13 rfl];simp only[E8];rw[gc0];simp![u9 0 0 rfl hw rfl,op2,J3,eqS,fM,fJ];generalize b5 ct F k 22 [.ref n,.ref w] h=r;cases r<;>simp![]
theorem b0E(hw:h[w]? =some (.lst (.str "class"::d9))):b5 ct F (k+1) 13 [.ref n,.ref w] h=b5 ct F k 24 [.ref n,.ref w] h:=by rw[i6 W.f13 rfl];simp only[E8];rw[gc0];simp![u9 0 0 rfl hw rfl,op2,J3,eqS,fM,fJ];generalize b5 ct F k 24 [.ref n,.ref w] h=r;cases r<;>simp![]
theorem a7u(hw:h[w]? =some (.lst (.str "feature"::d9))):b5 ct F (k+1) 13 [.ref n,.ref w] h=b5 ct F k 25 [.ref n,.ref w] h:=by rw[i6 W.f13 rfl];simp only[E8];rw[gc0];simp![u9 0 0 rfl hw rfl,op2,J3,eqS,fM,fJ];generalize b5 ct F k 25 [.ref n,.ref w] h=r;cases r<;>simp![]
theorem b3Y(hw:h[w]? =some (.lst (.str "rule"::d9))):b5 ct F (k+1) 13 [.ref n,.ref w] h=b5 ct F k 26 [.ref n,.ref w] h:=by rw[i6 W.f13 rfl];simp only[E8];rw[gc0];simp![u9 0 0 rfl hw rfl,op2,J3,eqS,fM,fJ];generalize b5 ct F k 26 [.ref n,.ref w] h=r;cases r<;>simp![]
end
def c1j{α:Type}(o:Option Str)(a b:α):α:=match o with
 |none=>a
 |some _=>b
variable{d:Nat}{H:HD}
theorem b0G{a b:Str}{v:Int}(ha:c9 a=true)(hb:W2 b=some v):Z4 ct F (d+9) H [("shape":Str),a,b] (due (decide (a∈H.shapes.map (·.1))) true (decide ((60:Int)<=(↥H.shapes:Int))))
 (c1j (due (decide (a∈H.shapes.map (·.1))) true (decide ((60:Int)<=(↥H.shapes:Int)))) {H with shapes:=H.shapes++[(a,.int v)]} H):=by
 intro h n w A hw;have:=a4f (ct:=ct) (k:=d+5) W A hw ha (by have:=a3E ha;ac_nf) hb;rw[b0C W hw,this];generalize due (decide (a∈H.shapes.map (·.1))) true (decide ((60:Int)<=(↥H.shapes:Int)))=du;cases du with
 |none=>exact⟨_,rfl,Fr.set nofun nofun,A.s1 _⟩
 |some f=>exact⟨_,rfl,Fr.refl n h,A⟩
theorem a7v{a b:Str}(ha:c9 a=true)(hb:b="on"∨b="off"):Z4 ct F (d+9) H [("feature":Str),a,b] (due (decide (a∈H.features.map (·.1))) true (decide ((10:Int)<=(↥H.features:Int))))
 (c1j (due (decide (a∈H.features.map (·.1))) true (decide ((10:Int)<=(↥H.features:Int)))) {H with features:=H.features++[(a,.bl (decide (b="on")))]} H):=by
 intro h n w A hw;have:=a2D (ct:=ct) (k:=d+5) W A hw ha (by have:=a3E ha;ac_nf) hb;rw[a7u W hw,this];generalize due (decide (a∈H.features.map (·.1))) true (decide ((10:Int)<=(↥H.features:Int)))=du;cases du with
 |none=>exact⟨_,rfl,Fr.set nofun nofun,A.s7 _⟩
 |some f=>exact⟨_,rfl,Fr.refl n h,A⟩
theorem a8B{s:Str}(hs:c9 s=true):O4 s=false:=by
 unfold O4;have:(cd s).head?≠some 64:=λe=>by
  refine W3 hs (c:=64) ∅ ?_;cases hq:cd s with
  |nil=>rw[hq] at e;cases e
  |cons c r=>rw[hq] at e;injection e with e;subst e;exact aY
 rw[bw this];rfl
end
theorem n8(x y:Str):↥(x++y)=↥x+↥y:=by rw[←t9,D3,aq,t9,t9]
theorem b0J{i:Int}(h: -1000000000000<=i/\i<=1000000000000):a2N i=true:=by
 cases i with
 |ofNat n=>
  refine Nat.ble_eq_true_of_le ?_;have:(n:Int)<=1000000000000:=h.2;ac_nf
 |negSucc n=>
  refine Nat.ble_eq_true_of_le ?_;have:=h.1;rw[Int.negSucc_eq] at this;ac_nf
theorem a4t(h:n<=1000000):a3l (n:Int)=true:=Nat.ble_eq_true_of_le nofun
theorem N1{i j:Int}(hj: -1000000000000<=j/\j<=1000000000000):O6 h (.int i) (.int j)=.ok (.int (i*j)) h:=by simp only[O6];rw[ay (by rw[b0J hj,Bool.or_true])]
theorem a7I{i j:Int}(hj:0<j):u8 h (.int i) (.int j)=.ok (.int (i%j)) h:=by simp only[u8];rw[ay hj]
theorem b8K{i j:Int}(hj:0<j)(h2:j<1073741824):z8 h (.int i) (.int j)=.ok (.int (i/j)) h:=by simp only[z8];rw[ay ⟨hj,h2⟩]
theorem o6{i j:Int}:T0 h (.int i) (.int j)=.ok (.int (i+j)) h:=rfl
theorem u0(hl:↥x+↥y<=100000):T0 h (.str x) (.str y)=.ok (.str (x++y)) h:=by simp only[T0];rw[ay (by show _<=16777216;ac_nf)]
theorem y9(b:Nat)(hb:0<b){a:Nat}:u8 h ⇑a ⇑b=.ok ⇑(a%b) h:=by rw[a7I nofun];congr 2
theorem D1(b:Nat)(hb:0<b)(h2:b<1073741824){a:Nat}:z8 h ⇑a ⇑b=.ok ⇑(a/b) h:=by rw[b8K nofun nofun];congr 2
def mx(c j:Int):Int:=(c%2305843009213693951+1)*(j*j+48271)*40692%2147483399
theorem b7S(c j:Int):0<=mx c j:=Int.emod_nonneg _ ∅
variable{sep:Str}{ts:List Str}
theorem a5z(h:(ts.map (·.length)).sum+↥ts*↥sep<=1000000):JoinOk sep ts=true:=by
 unfold JoinOk;rw[StrLaws.joinTotal];simp only[tooLong,Bool.not_eq_true',decide_eq_false_iff_not];have:sizeLine=16777216:=by decide
 ac_nf
theorem a7l:∀ps:List Str,cd (Str.join "" ps)=(ps.map cd).flatten
 |[]=>rfl
 |[x]=>by show cd x=_;simp
 |x::y::r=>by show cd (x++Str.ofString ""++Str.join "" (y::r))=_;rw[D3,D3,a7l (y::r),show cd (Str.ofString "")=[] from rfl,aZ];rfl
theorem b8P(n:Nat)(x:Str):cd (F8 n x)=(List.replicate n (cd x)).flatten:=by show(F8 n x).cps.toList=_;unfold F8;rw[foldl_app'];simp[cd]
where
  foldl_app' {x:Array Nat}:∀{n:Nat}{a:Array Nat},((List.replicate n x).foldl (· ++ ·) a).toList=a.toList++(List.replicate n x.toList).flatten
    |0,a=>by simp
    |n+1,a=>by rw[replicate_succ,foldl_cons,foldl_app',replicate_succ,List.flatten_cons];simp
theorem a9k(ts:List Str):cd (Txt.join "" ts)=(ts.map cd).flatten:=by show cd (glued "" _)=_;rw[gK];exact a7l ts
theorem b9J{p:Nat}(h:p<=↥z):cd (Txt.slice z none (some (p:Int)))=(cd z).take p:=by have e:Txt.slice z none (some (p:Int))=⟨((z.cps.toList.drop (0:Int).toNat).take ((p:Int)-0).toNat).toArray⟩:=beq_iff_eq.mp (PyProof.Rows.slice_closes_to ⟨by ac_nf,by have:=t9 z;show(p:Int)<=(↥(cd z):Int);ac_nf⟩);rw[e];simp[cd]
theorem b4l{p:Nat}(h:p<=↥z):cd (Txt.slice z (some (p:Int)) none)=(cd z).drop p:=by rw[slice_from_eq (b:=↥z) nofun nofun rfl];show((cd z).drop ((p:Int).toNat)).take (((↥z:Int)-p).toNat)=_;rw[Int.toNat_natCast];exact bg (by rw[bx,t9];ac_nf)
variable{c:CF}{env:o8}{ns:List Int}
section
variable{ct:CT}{F:Nat->Option Fn}
theorem seq{s:S}{T:Ss}{bF:o8}(e:ex ct c s env h=.ok (.nx bF) h'):exs ct c (.cons s T) env h=exs ct c T bF h':=by rw[D0,e,b9]
theorem Z0{k f:Nat}(hF:F f=some E6)(hr:h[n]? =some (.rol (ns.map .int))):∃a,b5 ct F (k+1) f [.ref n,.int (j:Int)] h=.ok (.int a) h:=by
 rw[i6 hF rfl];simp only[E6];have rl:rdL h n=some (ns.map .int):=by unfold rdL;rw[hr]
 have le:biD .len h [.ref n]=.ok ⇑↥ns h:=by simp only[biD,bi1,biL,hr,rl,aa]
 by_cases lt:(j:Int)<(↥ns:Int)
 · have lt':j<↥ns:=by ac_nf
   have ix:ixD h (.ref n) ⇑j=.ok (.int ns[j]) h:=by
    have:atI (ns.map D.int) (j:Int)=some (.int ns[j]):=by
     show(ixN ↥(ns.map D.int) (j:Int)).bind (λj=>(ns.map D.int)[j]?)=_;have e:ixN ↥(ns.map D.int) (j:Int)=some j:=by unfold ixN;rw[aa,ay nofun,ay nofun];simp
     rw[e];show(ns.map D.int)[j]? =_;rw[ak,ai lt'];rfl
    simp only[ixD,hr,this]
   refine⟨ns[j],?_⟩;simp![le,op2,G3,lt,fM,ix];exact r8 rfl
 · refine⟨0,?_⟩;simp![le,op2,G3,lt,fJ];exact r8 rfl
theorem B8{k f:Nat}{c j:Int}(hF:F f=some p8)(hj:0<=j/\j<=1000):∃M:Nat,b5 ct F (k+1) f [.int c,.int j] h=.ok ⇑M h:=by
 obtain⟨M,hM⟩:=Int.eq_ofNat_of_zero_le (b7S c j);refine⟨M,?_⟩;rw[←hM,i6 hF rfl];simp only[p8];have hjj:0<=j*j/\j*j<=1000000:=⟨Int.mul_nonneg hj.1 hj.1,by have:=Int.mul_le_mul hj.2 hj.2 hj.1 ∅;ac_nf⟩
 simp![op2,a7I (h:=h) (i:=c) (j:=2305843009213693951) ∅,T0,N1 (h:=h) (i:=j) (j:=j) nofun,N1 (h:=h) (i:=c%2305843009213693951+1) (j:=j*j+48271) nofun,N1 (h:=h) (i:=(c%2305843009213693951+1)*(j*j+48271)) (j:=40692) ∅,a7I (h:=h) (i:=(c%2305843009213693951+1)*(j*j+48271)*40692) (j:=2147483399) ∅];exact r8 rfl
end
variable{α:Type}
theorem U1{a:Option α}:(some a).join=a:=rfl
theorem a9l:abc.length=26:=by decide+kernel
theorem b8Y:abc.length<=SL:=by rw[a9l];show 26<=16777216;ac_nf
theorem b7V{a:Nat}(h:lt a=lt b):a=b:=by unfold lt at h;ac_nf
theorem a8F{i:Nat}(h:i<26):Q3 (lt i)=true:=(b3F ⟨i,h⟩).2
def nmA(f m i:Nat):Str:=F8 (m-i) ⟨#[lt f]⟩
theorem a8i(f m i:Nat):cd (nmA f m i)=List.replicate (m-i) (lt f):=by unfold nmA;rw[b8P];show(List.replicate _ [lt f]).flatten=_;simp
def nmB(stem:Str)(p f i:Nat):Str:=(Txt.slice stem none (some (p:Int))++⟨#[lt ((f+5*i)%26)]⟩)++Txt.slice stem (some (p:Int)) none
theorem a5S{p f i:Nat}(h:p<=↥stem):cd (nmB stem p f i)=(cd stem).take p++lt ((f+5*i)%26)::(cd stem).drop p:=by unfold nmB;rw[D3,D3,b9J h,b4l h];show(cd stem).take p++[lt ((f+5*i)%26)]++(cd stem).drop p=_;simp
theorem a0L{α β:Type}(f:α->β):∀{l:List α},l.Nodup->(∀a∈l,∀b∈l,f a=f b->a=b)->(l.map f).Nodup
 |[],_,_=>nodup_nil
 |x::r,h,hi=>by have h:=aV.mp h;rw[map_cons];refine aV.mpr ⟨λm=>?_,a0L f h.2 λa ha b hb=>hi a (.tail _ ha) b (.tail _ hb)⟩;obtain⟨y,hy,e⟩:=al.mp m;rw[hi y (.tail _ hy) x (.head _) e] at hy;exact h.1 hy
structure Nms(ns:List Str)(m:Nat):Prop where
 len:↥ns=m
 nd:ns.Nodup
 ok:∀n∈ns,c9 n=true
theorem c2s{f m:Nat}(hf:f<26)(hm:m<13):Nms ((List.range m).map (nmA f m)) m:=by
 refine⟨by simp,a0L _ List.nodup_range λa ha b hb e=>?_,λn hn=>?_⟩
 · have ha:=aN.mp ha;have hb:=aN.mp hb;have e:=fN (λz=>↥(cd z)) e;simp only[a8i,bj] at e;ac_nf
 · obtain⟨i,hi,rfl⟩:=al.mp hn;have hi:=aN.mp hi;have l:↥(nmA f m i)=m-i:=by rw[←t9,a8i,bj]
   unfold c9;rw[l,a8i];rw[ba (show 1<=m-i by ac_nf),ba (show m-i<=12 by ac_nf)];simp only[fT];refine bm.mpr λc hc=>?_;rw[(List.mem_replicate.mp hc).2];exact a8F hf
theorem c2r{p f m:Nat}(hs:↥stem<=11)(dL:(cd stem).all Q3=true)(hp:p<=↥stem)(hm:m<=26):Nms ((List.range m).map (nmB stem p f)) m:=by
 refine⟨by simp,a0L _ List.nodup_range λa ha b hb e=>?_,λn hn=>?_⟩
 · have ha:=aN.mp ha;have hb:=aN.mp hb;have e:=fN cd e;rw[a5S hp,a5S hp] at e;have e:=List.append_cancel_left e;injection e with e _;have e:=b7V e;ac_nf
 · obtain⟨i,hi,rfl⟩:=al.mp hn;have lt':↥((cd stem).take p++lt ((f+5*i)%26)::(cd stem).drop p)=↥stem+1:=by rw[aq,length_cons,aM,bx,t9];ac_nf
   have l:↥(nmB stem p f i)=↥stem+1:=by rw[←t9,a5S hp,lt']
   unfold c9;rw[l,a5S hp,ba (show 1<=↥stem+1 by ac_nf),ba (show ↥stem+1<=12 by ac_nf)];simp only[fT];refine bm.mpr λc hc=>?_;rcases aL.mp hc with q|q
   · exact bm.mp dL c (List.mem_of_mem_take q)
   · rcases aF.mp q with q|q
     · rw[q];exact a8F (fL _ ∅)
     · exact bm.mp dL c (mem_of_mem_drop q)
variable{e:E}{a:E}
section
variable{ct:CT}{F:Nat->Option Fn}
theorem a1a{m:Nat}(hm:m<=1000000):a9C h (.int 0) ⇑m=.ok ((List.range m).map λi=>.int ((0:Int)+(i:Nat)),[]) h:=by simp only[a9C];rw[ay ⟨by decide,a4t hm⟩];show R.ok (b0X 0 (((m:Int)-0).toNat),[]) h=_;rw[Int.sub_zero,Int.toNat_natCast];rfl
theorem X0{fr:List Nat}{m:Nat}(f:Nat->D)(ha:ev ct c a env h=.ok ⇑m h)(hm:m<=1000000)
 (hx:∀i,i<m->ev ct c e (i⁻¹::fr.map λj=>(env[j]?).join) h=.ok (f i) h):ev ct c (.comp (.nm 0) (.rng1 a) 1 fr .yes e) env h=.ok (.ref ↥h) (h++[.lst ((List.range m).map f)]):=by
 rw[n9 (l:=(List.range m).map λi=>.int ((0:Int)+(i:Nat))) (g:=[]) (h1:=h) ?_ rfl (λd=>match d with|.int i=>f i.toNat|_=>.non) (λd=>some d::fr.map λj=>(env[j]?).join) ?_ ?_]
 · congr 3;rw[aI];refine fN (λg=>Cell.lst (List.map g (List.range m))) (funext λi=>?_);simp
 · rw[a3Q,ha,b9,a1a hm]
 · intro x dY;obtain⟨i,hi,rfl⟩:=al.mp dY;refine⟨rfl,?_⟩;have z:(0:Int)+(i:Nat)=((i:Nat):Int):=by ac_nf
   rw[z,hx i (aN.mp hi)];simp
 · rw[aa,aK];show _<=16777216;ac_nf
theorem b2d{i:Nat}(hi:i<26):ixD h (.str abc) ⇑i=.ok (.str ⟨#[lt i]⟩) h:=ix_str b8Y (b3F ⟨i,hi⟩).1
theorem b0L:a1v.length<=SL:=by rw[show a1v.length=36 by decide+kernel];show 36<=16777216;ac_nf
def a1Q(c i:Nat):Nat:=(cd a1v).getD ((c/16224+7*i)%36) 0
theorem a7i(c i:Nat):(cd a1v)[(c/16224+7*i)%36]? =some (a1Q c i)/\Q3 (a1Q c i)=true:=by
 have lt:(c/16224+7*i)%36<↥(cd a1v):=by rw[t9,show a1v.length=36 by decide+kernel];exact fL _ ∅
 unfold a1Q;rw[bu,ai lt];exact⟨rfl,ba (br lt)⟩
theorem a0e{k f c m:Nat}(hF:F f=some o9)(hm:m<=26):∃ns,Nms ns m/\b5 ct F (k+1) f [.int (c:Int),.int (m:Int)] h=.ok (.ref ↥h) (h++[.lst (ns.map .str)]):=by
 have d4:z8 h ⇑c (.int 4)=.ok ⇑(c/4) h:=D1 4 ∅ ∅;have m26:∀(a:Nat)(h:AH),u8 h ⇑a (.int 26)=.ok ⇑(a%26) h:=λa h=>y9 26 ∅;have m4:u8 h ⇑c (.int 4)=.ok ⇑(c%4) h:=y9 4 ∅;have d104:z8 h ⇑c (.int 104)=.ok ⇑(c/104) h:=D1 104 ∅ ∅;have m12:u8 h ⇑(c/104) (.int 12)=.ok ⇑(c/104%12) h:=y9 12 ∅;have d1248:z8 h ⇑c (.int 1248)=.ok ⇑(c/1248) h:=D1 1248 ∅ ∅;have f26:c/4%26<26:=fL _ ∅;have s12:c/104%12<12:=fL _ ∅;rw[i6 hF rfl];simp only[o9];rw[seq (by simp![];rfl),seq (by simp![op2,d4,m26];rfl)];generalize hf:c/4%26=f1 at f26
 by_cases hc:((c%4:Nat):Int)=0/\(m:Int)<13
 · obtain⟨h1,h2⟩:=hc;have q0:J3 h ⇑(c%4) (.int 0)=.ok (.bl true) h:=by rw[h1];rfl
   refine⟨_,c2s (m:=m) f26 nofun,?_⟩;have cm:ev ct (b5 ct F k) cA [c⁻¹,m⁻¹,some (.str abc),f1⁻¹,none,none,none] h=.ok (.ref ↥h) (h++[.lst ((List.range m).map λi=>.str (nmA f1 m i))]):=by
    unfold cA;refine X0 (λi=>.str (nmA f1 m i)) (by simp![]) nofun λi hi=>?_;have sb:a6B h ⇑m ⇑i=.ok ⇑(m-i) h:=by show R.ok (D.int ((m:Int)-(i:Int))) h=_;congr 2;ac_nf
    have ml:O6 h (.str ⟨#[lt f1]⟩) ⇑(m-i)=.ok (.str (nmA f1 m i)) h:=by
     simp only[O6];have l1:↥(⟨#[lt f1]⟩:Str)*(((m-i:Nat):Int)).toNat<=SL:=by rw[Int.toNat_natCast];show 1*(m-i)<=16777216;ac_nf
     rw[ay ⟨a4t nofun,l1⟩];exact fN (λz=>R.ok (D.str (F8 z ⟨#[lt f1]⟩)) h) (Int.toNat_natCast _)
    simp![op2,b2d f26,sb,ml,U1]
   simp![op2,m4,q0,G3,h2,fM,cm];have e:((List.range m).map (nmA f1 m)).map D.str=(List.range m).map λi=>D.str (nmA f1 m i):=by rw[aI];rfl
   rw[e];exact gc2 ⋯ (aj _) (by rw[←e];exact D8 _)
 · have tt:∀T,exs ct (b5 ct F k) (.iff (.an (.cmp .eq (.bin .mod (.v 0) (.i 4)) (.i 0)) (.cmp .lt (.v 1) (.i 13))) (.o (.ret cA)) .nil>=>T) [c⁻¹,m⁻¹,some (.str abc),f1⁻¹,none,none,none] h=exs ct (b5 ct F k) T [c⁻¹,m⁻¹,some (.str abc),f1⁻¹,none,none,none] h:=λT=>by
    refine seq ?_
    by_cases h1:((c%4:Nat):Int)=0
    · have h2:¬(m:Int)<13:=λz=>hc ⟨h1,z⟩;have q0:J3 h ⇑(c%4) (.int 0)=.ok (.bl true) h:=by rw[h1];rfl
      simp![op2,m4,q0,G3,h2,fJ]
    · have q0:J3 h ⇑(c%4) (.int 0)=.ok (.bl false) h:=by simp only[J3,eqS,h1,fJ]
      simp![op2,m4,q0]
   rw[tt,seq (by simp![op2,d104,m12];rfl)];generalize c/104%12=sz at s12;have a1:((sz:Nat):Int)+1=((sz+1:Nat):Int):=by ac_nf
   rw[seq (by simp![op2,d1248,o6,a1,y9 (sz+1) nofun];rfl)];have pl:c/1248%(sz+1)<=sz:=Nat.le_of_lt_succ (fL _ nofun);generalize c/1248%(sz+1)=p at pl;have cs:ev ct (b5 ct F k) cS [c⁻¹,m⁻¹,some (.str abc),f1⁻¹,sz⁻¹,p⁻¹,none] h=.ok (.ref ↥h) (h++[.lst ((List.range sz).map λi=>.str ⟨#[a1Q c i]⟩)]):=by
    unfold cS;refine X0 (λi=>.str ⟨#[a1Q c i]⟩) (by simp![]) nofun λi hi=>?_;have ad:T0 h (.str abc) (.str "0123456789")=.ok (.str a1v) h:=by rw[u0 (by rw[a9l,show(Str.ofString "0123456789").length=10 by decide+kernel];decide)];rfl
    have d16:z8 h ⇑c (.int 16224)=.ok ⇑(c/16224) h:=D1 16224 ∅ ∅;have m7:O6 h (.int 7) ⇑i=.ok ⇑(7*i) h:=by rw[N1 nofun];congr 2
    have a2:((c/16224:Nat):Int)+((7*i:Nat):Int)=((c/16224+7*i:Nat):Int):=by ac_nf
    have m36:u8 h ⇑(c/16224+7*i) (.int 36)=.ok ⇑((c/16224+7*i)%36) h:=y9 36 ∅;simp![op2,ad,d16,m7,o6,a2,m36,ix_str b0L (a7i c i).1,U1]
   have es:((List.range sz).map λi=>D.str ⟨#[a1Q c i]⟩)=((List.range sz).map λi=>(⟨#[a1Q c i]⟩:Str)).map D.str:=by rw[aI];rfl
   rw[es] at cs;generalize hts:(List.range sz).map (λi=>(⟨#[a1Q c i]⟩:Str))=ts at cs;have tl:↥ts=sz:=by rw[←hts];simp
   have t1:∀t∈ts,↥t=1/\(cd t).all Q3=true:=λt ht=>by rw[←hts] at ht;obtain⟨i,_,rfl⟩:=al.mp ht;exact⟨rfl,by show([a1Q c i]:List Nat).all Q3=true;rw[all_cons,(a7i c i).2];rfl⟩
   have sm:∀l:List Str,(∀t∈l,↥t=1)->(l.map (·.length)).sum=↥l:=λl=>by
    induction l with
    |nil=>intro _;rfl
    |cons x r ih=>intro hh;rw[map_cons,List.sum_cons,ih (λt ht=>hh t (.tail _ ht)),hh x (.head _),length_cons];exact Nat.add_comm 1 _
   have jo:JoinOk "" ts=true:=a5z (by rw[sm ts λt ht=>(t1 t ht).1,show(Str.ofString "").length=0 from rfl];ac_nf);have jn:mtD .join (h++[.lst (ts.map .str)]) (.str "") [.ref ↥h]=.ok (.str (Txt.join "" ts)) (h++[.lst (ts.map .str)]):=by simp only[mtD,a1z,a1X];rw[ay jo]
   have sl:↥(Txt.join "" ts)=sz:=by rw[←t9,a9k,List.length_flatten,aI,←tl];exact(fN List.sum (aX λt _=>t9 t)).trans (sm ts λt ht=>(t1 t ht).1)
   have ss:(cd (Txt.join "" ts)).all Q3=true:=by rw[a9k];refine bm.mpr λx hx=>?_;obtain⟨q,hq,hm⟩:=List.mem_flatten.mp hx;obtain⟨t,ht,rfl⟩:=al.mp hq;exact bm.mp (t1 t ht).2 x hm
   generalize Txt.join "" ts=stem at jn sl ss;rw[seq (by simp![mtT,cs,jn];rfl)];refine⟨_,c2r (stem:=stem) (p:=p) (f:=f1) (m:=m) nofun ss nofun hm,?_⟩;have hg:∃t,h++[Cell.lst (ts.map .str)]=h++t:=⟨_,rfl⟩;have tk:↥(h++[Cell.lst (ts.map D.str)])=↥h+1:=by simp
   have wS:↥stem<=SL:=by show _<=16777216;ac_nf
   have cm:∀g,ev ct (b5 ct F k) cB [c⁻¹,m⁻¹,some (.str abc),f1⁻¹,sz⁻¹,p⁻¹,some (.str stem)] g=.ok (.ref ↥g) (g++[.lst ((List.range m).map λi=>.str (nmB stem p f1 i))]):=λg=>by
    unfold cB;refine X0 (λi=>.str (nmB stem p f1 i)) (by simp![]) nofun λi hi=>?_;have m5:O6 g (.int 5) ⇑i=.ok ⇑(5*i) g:=by rw[N1 nofun];congr 2
    have a2:((f1:Nat):Int)+((5*i:Nat):Int)=((f1+5*i:Nat):Int):=by ac_nf
    have l1:=hU stem none (some (p:Int));have l2:=hU stem (some (p:Int)) none;have x1:↥(⟨#[lt ((f1+5*i)%26)]⟩:Str)=1:=rfl;simp![U1,slD,ay wS,op2,m5,o6,a2,m26,b2d (h:=g) (i:=(f1+5*i)%26) (fL _ ∅),u0 (h:=g) (x:=Txt.slice stem none (some (p:Int))) (y:=⟨#[lt ((f1+5*i)%26)]⟩) nofun,u0 (h:=g) (x:=Txt.slice stem none (some (p:Int))++⟨#[lt ((f1+5*i)%26)]⟩) (y:=Txt.slice stem (some (p:Int)) none) (by rw[n8];ac_nf)];rfl
   simp![cm];have e:((List.range m).map (nmB stem p f1)).map D.str=(List.range m).map λi=>D.str (nmB stem p f1 i):=by rw[aI];rfl
   rw[e,aA];exact gc2 ⋯ ⋯ (by rw[←e];exact D8 _)
end
structure Pf(h0 h:AH):Prop where
 len:↥h0<=↥h
 get:∀i,i<↥h0->h[i]? =h0[i]?
theorem Pf.refl(h:AH):Pf h h:=⟨aj _,λ_ _=>rfl⟩
variable{h0:AH}
theorem Pf.app(p:Pf h0 h)(t:AH):Pf h0 (h++t):=⟨by rw[aq];have:=p.len;ac_nf,λi hi=>by rw[av (aC hi p.len)];exact p.get i hi⟩
theorem Pf.set(p:Pf h0 h){c:Cell}(hn:↥h0<=n):Pf h0 (h.set n c):=⟨by rw[List.length_set];exact p.len,λi hi=>by rw[fO nofun];exact p.get i hi⟩
theorem Pf.trans{a b c:AH}(p:Pf a b)(q:Pf b c):Pf a c:=⟨aR p.len q.len,λi hi=>(q.get i (aC hi p.len)).trans (p.get i hi)⟩
theorem Pf.take{h0 h:AH}(p:Pf h0 h):h.take ↥h0=h0:=by
 refine ext_getElem? λi=>?_
 by_cases hi:i<↥h0
 · rw[bz hi,p.get i hi]
 · rw[aW (by simp;ac_nf),aW nofun]
theorem Pf.at(p:Pf h0 h){i:Nat}{c:Cell}(e:h0[i]? =some c):h[i]? =some c:=by rw[p.get i (ac.mp e).1];exact e
theorem a4l{k:Nat}{c:Cell}(p:Pf h0 h)(hk:h[k]? =some c)(hl:↥h0<=k)(hc:c.flat=true):gcR 2 h0 (.ok (.ref k) h)=.ok (.ref ↥h0) (h0++[c]):=by unfold gcR;simp only[hk];simp[hl,hc,p.take]
theorem b5z(p:Pf h0 h)(hd:d.flat=true):gcR 1 h0 (.ok d h)=.ok d h0:=by unfold gcR;simp only;rw[az ∅];simp[hd,p.take]
variable{M:Nat}
section
variable{ct:CT}{F:Nat->Option Fn}
theorem B7{g:List (Nat×Cell)}{p:Pat}{body:o8->AH->R Out}(P:Nat->o8->AH->Prop)(gk:∀j env h,P j env h->gOk g h=true):∀(l:List D)(i:Nat)(env:o8)(h:AH),
 (∀j x env h,l[j]? =some x->P (i+j) env h->∃bS bF h',F7 p x env=some bS/\body bS h=.ok (.nx bF) h'/\P (i+j+1) bF h')->P i env h->∃bF h',G0 g p body l env h=.ok (.nx bF) h'/\P (i+↥l) bF h'
 |[],i,env,h,_,q=>⟨env,h,by rw[G0,ay (gk _ _ _ q)],q⟩
 | x::r,i,env,h,st,q=>by
  obtain⟨bS,bF,h',b1,b2,q'⟩:=st 0 x env h rfl q;obtain⟨env2,h2,e2,q2⟩:=B7 P gk r (i+1) bF h' (λj y env h hj hq=>by have:=st (j+1) y env h (by simpa using hj) (by rw[show i+(j+1)=i+1+j by ac_nf];exact hq);rw[show i+(j+1)+1=i+1+j+1 by ac_nf] at this;exact this) q'
  refine⟨env2,h2,?_,by rw[length_cons,show i+(↥r+1)=i+1+r.length by ac_nf];exact q2⟩;rw[G0,ay (gk _ _ _ q),b1];simp only;rw[b2];exact e2
theorem K0(e:h[n]? =some (.lst xs))(hl:↥xs<1000000):mtD .append h (.ref n) [d]=.ok .non (h.set n (.lst (xs++[d]))):=by simp only[mtD,e];rw[ay (show ↥xs<16777216 by ac_nf)]
theorem C2(e:h[n]? =some (.lst xs)):mtT .append h (.ref n)=true:=by simp only[mtT,rdL,e,Option.isSome_some]
theorem a1Z{m:Nat}{x:D}(h:((List.range m).map λi=>D.int ((0:Int)+(i:Nat)))[j]? =some x):j<m/\x=.int (j:Int):=by
 have hj:j<m:=by
  have:=(ac.mp h).1
  simpa using this
 refine⟨hj,?_⟩;rw[ak,List.getElem?_range hj] at h;have h:=ax h;rw[←h];show D.int (0+(j:Int))=_;rw[Int.zero_add]
def shD(sh:List (Str×Nat)):List D:=sh.map λp=>.tup [.str p.1,.int (p.2:Int)]
structure Shs(sh:List (Str×Nat)):Prop where
 lo:4<=↥sh
 hi:↥sh<=16
 nd:(sh.map (·.1)).Nodup
 ok:∀p∈sh,c9 p.1=true/\p.2<99999
theorem D9:∀{l:List D},(∀d∈l,d.flat=true)->D.flats l=true
 |[],_=>rfl
 |d::r,h=>by rw[D.flats,h d (.head _),D9 λx hx=>h x (.tail _ hx)];rfl
theorem b2H(sh:List (Str×Nat)):D.flats (shD sh)=true:=D9 λd hd=>by obtain⟨p,_,rfl⟩:=al.mp hd;rfl
theorem a2L:∀(ns:List Str)(ws:List Nat),M5 (ns.map .str) (ws.map λw=>.int ((w:Nat):Int))=shD (ns.zip ws)
 |[],_=>rfl
 |_::_,[]=>rfl
 |n::ns,w::ws=>by show D.tup [.str n,.int ((w:Nat):Int)]::M5 _ _=_;rw[a2L ns ws];rfl
theorem b5C{l:List Nat}{i:Nat}(hl:↥l=4):∃w,(l.map λw=>D.int ((w:Nat):Int))[i%4]? =some ⇑(w)/\w∈l:=by
 have lt:i%4<↥l:=by rw[hl];exact fL _ ∅
 exact⟨l[i%4],by rw[ak,ai lt];rfl,br lt⟩
theorem b0v(he:env[5]? =some (M⁻¹)):∃w t,w<99999/\ev ct c wE env h=.ok ⇑(w) (h++[t]):=by
 have d4:∀h,z8 h ⇑M (.int 4)=.ok ⇑(M/4) h:=λh=>D1 4 ∅ ∅;have m4:∀h,u8 h ⇑M (.int 4)=.ok ⇑(M%4) h:=λh=>y9 4 ∅;have m20:∀(a:Nat) h,u8 h ⇑a (.int 20)=.ok ⇑(a%20) h:=λa h=>y9 20 ∅;have m1000:∀(a:Nat) h,u8 h ⇑a (.int 1000)=.ok ⇑(a%1000) h:=λa h=>y9 1000 ∅;have m9:∀(a:Nat) h,u8 h ⇑a (.int 99999)=.ok ⇑(a%99999) h:=λa h=>y9 99999 ∅;obtain⟨w,h1,h2⟩:=b5C (l:=[0,M/4%20,M/4%1000,M/4%99999]) (i:=M) rfl;refine⟨w,.lst [.int ((0:Nat):Int),.int ((M/4%20:Nat):Int),.int ((M/4%1000:Nat):Int),.int ((M/4%99999:Nat):Int)],?_,?_⟩
 · simp only[aF,not_mem_nil,gA] at h2;rcases h2 with rfl|rfl|rfl|rfl
   · decide
   · exact Nat.lt_trans (fL _ (show 0<20 by decide)) ∅
   · exact Nat.lt_trans (fL _ (show 0<1000 by decide)) ∅
   · exact fL _ ∅
 · unfold wE;have hx:ixD (h++[.lst [.int 0,.int ((M/4%20:Nat):Int),.int ((M/4%1000:Nat):Int),.int ((M/4%99999:Nat):Int)]]) (.ref ↥h) ⇑(M%4)=.ok ⇑(w) (h++[.lst [.int 0,.int ((M/4%20:Nat):Int),.int ((M/4%1000:Nat):Int),.int ((M/4%99999:Nat):Int)]]):=o0 b7 h1;simp![he,op2,d4,m4,m20,m1000,m9,v8,hx];rfl
variable(bN:F 202=some p8)(cg:F 203=some o9)
include bN cg
theorem a9y{k:Nat}{c:Int}(hF:F 204=some E1):∃sh,Shs sh/\b5 ct F (k+2) 204 [.int c] h=.ok (.ref ↥h) (h++[.lst (shD sh)]):=by
 obtain⟨M,hM⟩:=B8 (ct:=ct) (k:=k) (c:=c) (j:=1) (h:=h) bN ∅;have d13:z8 h ⇑M (.int 13)=.ok ⇑(M/13) h:=D1 13 ∅ ∅;have m13:u8 h ⇑M (.int 13)=.ok ⇑(M%13) h:=y9 13 ∅;have a4:(4:Int)+((M%13:Nat):Int)=((4+M%13:Nat):Int):=by ac_nf
 have m16:M%13<13:=fL _ ∅;obtain⟨ns,nk,hN⟩:=a0e (ct:=ct) (k:=k) (c:=M/13) (m:=4+M%13) (h:=h) cg nofun;generalize hm:4+M%13=m at nk hN a4;rw[i6 hF rfl];simp only[E1];rw[seq (by simp![hM];rfl),seq (by simp![op2,d13,m13,o6,a4,hN];rfl)];have l1:↥(h++[Cell.lst (ns.map D.str)])=↥h+1:=by simp
 rw[seq (by simp![v8,l1];rfl)];have gN:(h++[Cell.lst (ns.map D.str)]++[Cell.lst []])[↥h]? =some (.lst (ns.map .str)):=b6 b7;have gW:(h++[Cell.lst (ns.map D.str)]++[Cell.lst []])[↥h+1]? =some (.lst []):=by rw[←l1];exact b7
 have pf:Pf h (h++[Cell.lst (ns.map D.str)]++[Cell.lst []]):=((Pf.refl h).app _).app _;generalize h++[Cell.lst (ns.map D.str)]++[Cell.lst []]=g at gN gW pf;have len:biD .len g [.ref ↥h]=.ok ⇑m g:=by rw[n5 gN,aa,nk.len]
 obtain⟨bF,g',e1,ws,e4,e5,rfl,q2,q3,q4,q5,q6⟩:=B7 (g:=[]) (p:=.nm 4) (body:=exs ct (b5 ct F (k+1)) wB) (λj env hh=>∃ws:List Nat,∃e4 e5,env=[some (.int c),M⁻¹,~~~↥h,some (.ref (↥h+1)),e4,e5]/\Pf h hh/\hh[↥h]? =some (.lst (ns.map .str))/\hh[↥h+1]? =some (.lst (ws.map λw=>.int ((w:Nat):Int)))/\↥ws=j/\∀w∈ws,w<99999) (λ_ _ _ _=>rfl) ((List.range m).map λi=>.int ((0:Int)+(i:Nat))) 0 [some (.int c),M⁻¹,~~~↥h,some (.ref (↥h+1)),none,none] g (λj x env hh hx hP=>by
  obtain⟨ws,e4,e5,rfl,p1,p2,p3,p4,p5⟩:=hP;obtain⟨hj,rfl⟩:=a1Z hx;rw[aB] at p4⊢;have a10:((j:Nat):Int)+10=((j+10:Nat):Int):=by ac_nf
  obtain⟨N,hN⟩:=B8 (ct:=ct) (k:=k) (c:=c) (j:=((j+10:Nat):Int)) (h:=hh) bN nofun;obtain⟨w,t,w1,w2⟩:=b0v (ct:=ct) (c:=b5 ct F (k+1)) (M:=N) (env:=[some (.int c),M⁻¹,~~~↥h,some (.ref (↥h+1)),j⁻¹,N⁻¹]) (h:=hh) rfl;refine⟨_,[some (.int c),M⁻¹,~~~↥h,some (.ref (↥h+1)),j⁻¹,N⁻¹],(hh++[t]).set (↥h+1) (.lst ((ws.map λw=>D.int ((w:Nat):Int))++[.int ((w:Nat):Int)])),rfl,?_,ws++[w],_,_,rfl,(p1.app _).set (Nat.le_succ _),b8 nofun (b6 p2),?_,by rw[aq,p4];rfl,λx hx=>?_⟩
  · show exs ct (b5 ct F (k+1)) wB [some (.int c),M⁻¹,~~~↥h,some (.ref (↥h+1)),j⁻¹,e5] hh=_;unfold wB;rw[seq (by simp![op2,o6,a10,hN];rfl)];simp![C2 p3,w2,K0 (b6 (g:=[t]) p3) (by rw[aa,p4];ac_nf)]
  · rw[z9 (b6 p3)];simp
  · rcases aL.mp hx with hx|hx
    · exact p5 x hx
    · rw[aO.mp hx];exact w1) ⟨[],none,none,rfl,pf,gN,gW,rfl,λ_ h=>nomatch h⟩
 rw[aa,aK,aB] at q5;rw[seq (by simp![len,a1a (h:=g) (m:=m) nofun,e1];rfl)];have cz:=n9 (ct:=ct) (c:=b5 ct F (k+1)) (p:=.tp (.nm 0>=>.nm 1>=>.nil)) (it:=.zip (.v 2) (.v 3)) (n:=2) (fr:=[]) (e:=.tup (.v 0>=>.o (.v 1))) (env:=[some (.int c),M⁻¹,~~~↥h,some (.ref (↥h+1)),e4,e5]) (h:=g') (l:=M5 (ns.map .str) (ws.map λw=>.int ((w:Nat):Int))) (g:=[(↥h,.lst (ns.map .str)),(↥h+1,.lst (ws.map λw=>.int ((w:Nat):Int)))]) (h1:=g') (by simp![a6d,a6c,U0,q3,q4]) (by simp[gOk,q3,q4]) id (λd=>match d with|.tup [a,b]=>[some a,some b]|_=>[]) (λx hx=>by
  rw[a2L] at hx;obtain⟨p,_,rfl⟩:=al.mp hx;refine⟨rfl,?_⟩;simp![id]) (by
  rw[a2L];unfold shD;rw[aa,length_zip];show _<=16777216;have:=nk.len;ac_nf)
 rw[map_id,a2L] at cz;have zl:↥(ns.zip ws)=m:=by rw[length_zip,nk.len,q5];ac_nf
 have zf:(ns.zip ws).map (·.1)=ns:=by rw[List.map_fst_zip];rw[nk.len,q5];exact aj _
 refine⟨ns.zip ws,⟨by ac_nf,by ac_nf,by rw[zf];exact nk.nd,λp hp=>⟨nk.ok _ (of_mem_zip hp).1,q6 _ (of_mem_zip hp).2⟩⟩,?_⟩;simp![cz];exact a4l (q2.app _) b7 q2.len (b2H _)
end
def spD(p:Int×Int):D:=.tup [.int p.1,.int p.2]
def a0E(p:Int×Int):Prop:=(-99999<=p.1/\p.1<=99999)/\ -99999<=p.2/\p.2<=99999
structure Mk where
 n:Str
 s:Str
 a:Int×Int
 b:Int×Int
def mkD(m:Mk):D:=.tup [.str m.n,.str m.s,spD m.a,spD m.b]
def a0Q(s:Str):Prop:=s="above"∨s="below"
variable{sh:List (Str×Nat)}
theorem a7B(hj:j<↥sh):(shD sh)[j]? =some (.tup [.str (sh[j]).1,.int ((sh[j]).2:Int)]):=by unfold shD;rw[ak,ai hj];rfl
theorem ix_tup{i:Nat}(hd:xs[i]? =some d):ixD h (.tup xs) (.int (i:Nat))=.ok d h:=by
 have hi:=(ac.mp hd).1;have:atI xs (i:Int)=some d:=by
  show(ixN ↥xs (i:Int)).bind (λj=>xs[j]?)=some d;have e:ixN ↥xs (i:Int)=some i:=by unfold ixN;rw[ay nofun,ay nofun];simp
  rw[e];exact hd
 simp only[ixD,this]
theorem a3f{a:D}{r:List D}:ixD h (.tup (a::r)) (.int 0)=.ok a h:=ix_tup (i:=0) rfl
variable{β:Type}
section
variable{ct:CT}{F:Nat->Option Fn}
theorem a5b{k m:Nat}(hF:F 205=some B9):∃p,a0E p/\b5 ct F (k+1) 205 [.int (m:Int)] h=.ok (spD p) h:=by
 have m41:∀h,u8 h ⇑m (.int 41)=.ok ⇑(m%41) h:=λh=>y9 41 ∅;have d41:∀h,z8 h ⇑m (.int 41)=.ok ⇑(m/41) h:=λh=>D1 41 ∅ ∅;have d7:∀h,z8 h ⇑m (.int 7)=.ok ⇑(m/7) h:=λh=>D1 7 ∅ ∅;have m9:∀(a:Nat) h,u8 h ⇑a (.int 99999)=.ok ⇑(a%99999) h:=λa h=>y9 99999 ∅;have m3:∀(a:Nat) h,u8 h ⇑a (.int 3)=.ok ⇑(a%3) h:=λa h=>y9 3 ∅;have sb:∀h,a6B h ⇑(m%41) (.int 20)=.ok (.int (((m%41:Nat):Int)-20)) h:=λh=>rfl;have l9:m/41%99999<99999:=fL _ ∅;have l41:m%41<41:=fL _ ∅;have ix:∃y:Int,(-99999<=y/\y<=99999)/\([.int 0,.int ((m/41%99999:Nat):Int),.int (-((m/41%99999:Nat):Int))]:List D)[m/7%3]? =some (.int y):=by
  have:m/7%3=0∨m/7%3=1∨m/7%3=2:=(by decide:∀r:Nat,r<3->r=0∨r=1∨r=2) (m/7%3) (fL _ ∅);rcases this with e|e|e<;>rw[e]
  · exact⟨0,by decide,rfl⟩
  · exact⟨_,by ac_nf,rfl⟩
  · exact⟨_,by ac_nf,rfl⟩
 obtain⟨y,y1,y2⟩:=ix;refine⟨(((m%41:Nat):Int)-20,y),⟨by simp only;ac_nf,y1⟩,?_⟩;have hx:ixD (h++[.lst [.int 0,.int ((m/41%99999:Nat):Int),.int (-((m/41%99999:Nat):Int))]]) (.ref ↥h) ⇑(m/7%3)=.ok (.int y) (h++[.lst [.int 0,.int ((m/41%99999:Nat):Int),.int (-((m/41%99999:Nat):Int))]]):=o0 b7 y2;rw[i6 hF rfl];simp only[B9];simp![op2,m41,sb,d41,m9,d7,m3,v8,hx];exact gc1 rfl
theorem b4o(he:env[4]? =some (M⁻¹)):∃s t,a0Q s/\ev ct c b0M env h=.ok (.str s) (h++[t]):=by
 have d4:∀h,z8 h ⇑M (.int 4)=.ok ⇑(M/4) h:=λh=>D1 4 ∅ ∅;have m2:∀(a:Nat) h,u8 h ⇑a (.int 2)=.ok ⇑(a%2) h:=λa h=>y9 2 ∅;have ix:∃s:Str,a0Q s/\([.str "above",.str "below"]:List D)[M/4%2]? =some (.str s):=by
  have:M/4%2=0∨M/4%2=1:=(by decide:∀r:Nat,r<2->r=0∨r=1) (M/4%2) (fL _ ∅);rcases this with e|e<;>rw[e]
  · exact⟨"above",.inl rfl,rfl⟩
  · exact⟨"below",.inr rfl,rfl⟩
 obtain⟨s,s1,s2⟩:=ix;refine⟨s,.lst [.str "above",.str "below"],s1,?_⟩;have hx:ixD (h++[.lst [.str "above",.str "below"]]) (.ref ↥h) ⇑(M/4%2)=.ok (.str s) (h++[.lst [.str "above",.str "below"]]):=o0 b7 s2;unfold b0M;simp![he,op2,d4,m2,v8,hx]
theorem b2K(ms:List Mk):D.flats (ms.map mkD)=true:=D9 λd hd=>by obtain⟨p,_,rfl⟩:=al.mp hd;rfl
theorem a6i{f:α->β}{l:List α}(hj:j<↥l){r:List β}(h:r.Sublist ((l.take j).map f)):r.Sublist ((l.take (j+1)).map f)/\(r++[f l[j]]).Sublist ((l.take (j+1)).map f):=by rw[take_succ_eq_append_getElem hj,ao];exact⟨h.trans (List.sublist_append_left _ _),h.append (List.Sublist.refl _)⟩
variable(bN:F 202=some p8)(cZ:F 205=some B9)
include bN cZ
theorem b1O{k s:Nat}{c:Int}(hF:F 206=some F6)(hs:Shs sh)(hh:h[s]? =some (.lst (shD sh))):∃ms:List Mk,(ms.map (·.n)).Sublist (sh.map (·.1))/\(∀m∈ms,a0Q m.s/\a0E m.a/\a0E m.b)/\b5 ct F (k+2) 206 [.int c,.ref s] h=.ok (.ref ↥h) (h++[.lst (ms.map mkD)]):=by
 have sl:s<↥h:=(ac.mp hh).1;have hi:=hs.hi;rw[i6 hF rfl];simp only[F6];rw[seq (by simp![v8];rfl)];have len:biD .len (h++[.lst []]) [.ref s]=.ok ⇑↥sh (h++[.lst []]):=by rw[n5 (b6 hh)];unfold shD;rw[aa]
 obtain⟨bF,g',e1,ms,e3,e4,e5,rfl,q2,q3,q4,q5⟩:=B7 (g:=[]) (p:=.nm 3) (body:=exs ct (b5 ct F (k+1)) mkB) (λj env g=>∃ms:List Mk,∃e3 e4 e5,env=[some (.int c),~~~s,~~~↥h,e3,e4,e5]/\Pf h g/\g[↥h]? =some (.lst (ms.map mkD))/\(ms.map (·.n)).Sublist ((sh.take j).map (·.1))/\∀m∈ms,a0Q m.s/\a0E m.a/\a0E m.b) (λ_ _ _ _=>rfl) ((List.range ↥sh).map λi=>.int ((0:Int)+(i:Nat))) 0 [some (.int c),~~~s,~~~↥h,none,none,none] (h++[.lst []]) (λj x env g hx hP=>by
  obtain⟨ms,e3,e4,e5,rfl,p1,p2,p3,p4⟩:=hP;obtain⟨hj,rfl⟩:=a1Z hx;rw[aB] at p3⊢;obtain⟨t1,t2⟩:=a6i hj p3;have a40:((j:Nat):Int)+40=((j+40:Nat):Int):=by ac_nf
  obtain⟨N,hN⟩:=B8 (ct:=ct) (k:=k) (c:=c) (j:=((j+40:Nat):Int)) (h:=g) bN nofun;have m4:u8 g ⇑N (.int 4)=.ok ⇑(N%4) g:=y9 4 ∅;show∃bS bF h',_/\exs ct (b5 ct F (k+1)) mkB bS g=_/\_;unfold mkB
  by_cases hb:((N%4:Nat):Int)=1
  · have q1:J3 g ⇑(N%4) (.int 1)=.ok (.bl true) g:=by rw[hb];rfl
    obtain⟨sd,t,s1,s2⟩:=b4o (ct:=ct) (c:=b5 ct F (k+1)) (M:=N) (env:=[some (.int c),~~~s,~~~↥h,j⁻¹,N⁻¹,e5]) (h:=g) rfl;obtain⟨pa,a1,a2⟩:=a5b (ct:=ct) (k:=k) (m:=N/8) (h:=g++[t]) cZ;obtain⟨pb,b1,b2⟩:=a5b (ct:=ct) (k:=k) (m:=N/8000) (h:=g++[t]) cZ;have d8:z8 (g++[t]) ⇑N (.int 8)=.ok ⇑(N/8) (g++[t]):=D1 8 ∅ ∅;have d8k:z8 (g++[t]) ⇑N (.int 8000)=.ok ⇑(N/8000) (g++[t]):=D1 8000 ∅ ∅;have sx:ixD (g++[t]) (.ref s) ⇑j=.ok (.tup [.str (sh[j]).1,.int ((sh[j]).2:Int)]) (g++[t]):=o0 (b6 (p1.at hh)) (a7B hj);have ml:↥(ms.map mkD)<1000000:=by have:=t1.length_le;rw[aa] at this⊢;rw[aa,aM] at this;ac_nf
    refine⟨_,[some (.int c),~~~s,~~~↥h,j⁻¹,N⁻¹,some (.str sd)],(g++[t]).set ↥h (.lst (ms.map mkD++[mkD ⟨(sh[j]).1,sd,pa,pb⟩])),rfl,?_,ms++[⟨(sh[j]).1,sd,pa,pb⟩],_,_,_,rfl,(p1.app _).set (aj _),?_,?_,λm hm=>?_⟩
    · show exs ct (b5 ct F (k+1)) _ [some (.int c),~~~s,~~~↥h,j⁻¹,e4,e5] g=_;rw[seq (by simp![op2,o6,a40,hN];rfl)];unfold c0o;simp![op2,m4,q1,s2,C2 (b6 (g:=[t]) p2),sx,a3f,d8,a2,d8k,b2,K0 (b6 (g:=[t]) p2) ml,mkD]
    · rw[z9 (b6 p2),ao];rfl
    · rw[ao];exact t2
    · rcases aL.mp hm with hm|hm
      · exact p4 m hm
      · rw[aO.mp hm];exact⟨s1,a1,b1⟩
  · have q1:J3 g ⇑(N%4) (.int 1)=.ok (.bl false) g:=by simp only[J3,eqS,hb,fJ]
    refine⟨_,[some (.int c),~~~s,~~~↥h,j⁻¹,N⁻¹,e5],g,rfl,?_,ms,_,_,_,rfl,p1,p2,t1,p4⟩;rw[seq (by simp![op2,o6,a40,hN];rfl)];simp![op2,m4,q1]) ⟨[],none,none,none,rfl,(Pf.refl h).app _,b7,List.nil_sublist _,λ_ h=>nomatch h⟩
 rw[aa,aK,aB,bf] at q4;refine⟨ms,q4,q5,?_⟩;rw[seq (by simp![len,a1a (h:=h++[.lst []]) (m:=↥sh) nofun,e1];rfl)];simp![];exact a4l q2 q3 (aj _) (b2K _)
end
structure Pt where
 n:Str
 s:Str
 a:Int×Int
def ptD(p:Pt):D:=.tup [.str p.n,.str p.s,spD p.a]
def ptK(p:Pt):Str×Str:=(p.n,p.s)
theorem b2J(ms:List Pt):D.flats (ms.map ptD)=true:=D9 λd hd=>by obtain⟨p,_,rfl⟩:=al.mp hd;rfl
variable{N:Nat}
section
variable{ct:CT}{F:Nat->Option Fn}
theorem a9x(N:Nat):∃l:List Str,N4 [.str "above",.str "below"] (some ((N%2:Nat):Int)) none=l.map .str/\l.Nodup/\(∀s∈l,a0Q s)/\↥l<=2:=by
 have:N%2=0∨N%2=1:=(by decide:∀r:Nat,r<2->r=0∨r=1) (N%2) (fL _ ∅);rw[M4];rcases this with e|e<;>rw[e]
 · exact⟨["above","below"],rfl,by decide,λs hs=>by simp only[aF,not_mem_nil,gA] at hs;exact hs,by decide⟩
 · exact⟨["below"],rfl,by decide,λs hs=>.inr (aO.mp hs),by decide⟩
variable(bN:F 202=some p8)(cZ:F 205=some B9)
include cZ
theorem b1f{k s a:Nat}{c:Int}{ps:List Pt}{l:List Str}(hh:h[s]? =some (.lst (shD sh)))(hj:j<↥sh)(ha:a=↥h)(hn:a<n)(p1:Pf h g)(p2:g[a]? =some (.lst (ps.map ptD)))(p3:g[n]? =some (.lst (l.map .str)))(hl:↥ps<=1000)(l2:↥l<=2)(e5:Option D)(sd:∀s∈l,a0Q s):
 ∃qs e5' g',G0 [(n,.lst (l.map .str))] (.nm 5) (exs ct (b5 ct F (k+1)) b1i) (l.map .str) [some (.int c),~~~s,~~~a,j⁻¹,N⁻¹,e5] g=.ok (.nx [some (.int c),~~~s,~~~a,j⁻¹,N⁻¹,e5']) g'/\Pf h g'/\g'[a]? =some (.lst ((ps++qs).map ptD))/\(qs.map ptK).Sublist (l.map λs=>((sh[j]).1,s))/\∀q∈qs,a0Q q.s/\a0E q.a:=by
 obtain⟨bF,g',e1,qs,e5',rfl,q1,q2,q3,q4,q5⟩:=B7 (g:=[(n,.lst (l.map .str))]) (p:=.nm 5) (body:=exs ct (b5 ct F (k+1)) b1i) (λi env gg=>∃qs:List Pt,∃e5,env=[some (.int c),~~~s,~~~a,j⁻¹,N⁻¹,e5]/\Pf h gg/\gg[a]? =some (.lst ((ps++qs).map ptD))/\gg[n]? =some (.lst (l.map .str))/\(qs.map ptK).Sublist ((l.take i).map λs=>((sh[j]).1,s))/\∀q∈qs,a0Q q.s/\a0E q.a) (λi env gg hP=>by
  obtain⟨_,_,_,_,_,h3,_⟩:=hP;simp[gOk,h3]) (l.map .str) 0 [some (.int c),~~~s,~~~a,j⁻¹,N⁻¹,e5] g (λi x env gg hx hP=>by
  obtain⟨qs,e5,rfl,r1,r2,r3,r4,r5⟩:=hP;have hi:i<↥l:=by simpa using(ac.mp hx).1
  rw[ak,ai hi] at hx;obtain rfl:D.str l[i]=x:=ax hx;rw[aB] at r4⊢;obtain⟨t1,t2⟩:=a6i (f:=λs=>((sh[j]).1,s)) hi r4;have d2:∀h,z8 h ⇑N (.int 2)=.ok ⇑(N/2) h:=λh=>D1 2 ∅ ∅;have m3:∀(a:Nat) h,u8 h ⇑a (.int 3)=.ok ⇑(a%3) h:=λa h=>y9 3 ∅;have d6:z8 gg ⇑N (.int 6)=.ok ⇑(N/6) gg:=D1 6 ∅ ∅;show∃bS bF h',_/\exs ct (b5 ct F (k+1)) b1i bS gg=_/\_;unfold b1i
  by_cases hb:(0:Int)<((N/2%3:Nat):Int)
  · obtain⟨p,a1,a2⟩:=a5b (ct:=ct) (k:=k) (m:=N/6) (h:=gg) cZ;have sx:ixD gg (.ref s) ⇑j=.ok (.tup [.str (sh[j]).1,.int ((sh[j]).2:Int)]) gg:=o0 (r1.at hh) (a7B hj);have ml:↥((ps++qs).map ptD)<1000000:=by have:=t1.length_le;rw[aa,aq];rw[aa,aa,aM] at this;ac_nf
    refine⟨_,[some (.int c),~~~s,~~~a,j⁻¹,N⁻¹,some (.str l[i])],gg.set a (.lst ((ps++qs).map ptD++[ptD ⟨(sh[j]).1,l[i],p⟩])),rfl,?_,qs++[⟨(sh[j]).1,l[i],p⟩],_,rfl,r1.set nofun,?_,b8 nofun r3,?_,λq hq=>?_⟩
    · show exs ct (b5 ct F (k+1)) _ [some (.int c),~~~s,~~~a,j⁻¹,N⁻¹,some (.str l[i])] gg=_;simp![op2,d2,m3,G3,hb,fM,C2 r2,sx,a3f,d6,a2,K0 r2 ml,ptD]
    · rw[z9 r2,←aA,ao (l₁:=ps++qs)];rfl
    · rw[ao];exact t2
    · rcases aL.mp hq with hq|hq
      · exact r5 q hq
      · rw[aO.mp hq];exact⟨sd _ (br hi),a1⟩
  · refine⟨_,[some (.int c),~~~s,~~~a,j⁻¹,N⁻¹,some (.str l[i])],gg,rfl,?_,qs,_,rfl,r1,r2,r3,t1,r5⟩;simp![op2,d2,m3,G3,hb,fJ]) ⟨[],e5,rfl,p1,by rw[aZ];exact p2,p3,List.nil_sublist _,λ_ h=>nomatch h⟩
 rw[aa,aB,bf] at q4;exact⟨qs,e5',g',e1,q1,q2,q4,q5⟩
include bN
theorem a9H{k s:Nat}{c:Int}(hF:F 207=some E3)(hs:Shs sh)(hh:h[s]? =some (.lst (shD sh))):∃ps:List Pt,(ps.map ptK).Nodup/\↥ps<=100/\(∀p∈ps,p.n∈sh.map (·.1)/\a0Q p.s/\a0E p.a)/\b5 ct F (k+2) 207 [.int c,.ref s] h=.ok (.ref ↥h) (h++[.lst (ps.map ptD)]):=by
 have hi:=hs.hi;rw[i6 hF rfl];simp only[E3];rw[seq (by simp![v8];rfl)];have len:biD .len (h++[.lst []]) [.ref s]=.ok ⇑↥sh (h++[.lst []]):=by rw[n5 (b6 hh)];unfold shD;rw[aa]
 obtain⟨bF,g',e1,ps,e3,e4,e5,rfl,q2,q3,q4,q5,q6,q7⟩:=B7 (g:=[]) (p:=.nm 3) (body:=exs ct (b5 ct F (k+1)) ptB) (λj env g=>∃ps:List Pt,∃e3 e4 e5,env=[some (.int c),~~~s,~~~↥h,e3,e4,e5]/\Pf h g/\g[↥h]? =some (.lst (ps.map ptD))/\(ps.map ptK).Nodup/\↥ps<=2*j/\(∀p∈ps,p.n∈(sh.take j).map (·.1))/\∀p∈ps,a0Q p.s/\a0E p.a) (λ_ _ _ _=>rfl) ((List.range ↥sh).map λi=>.int ((0:Int)+(i:Nat))) 0 [some (.int c),~~~s,~~~↥h,none,none,none] (h++[.lst []]) (λj x env g hx hP=>by
  obtain⟨ps,e3,e4,e5,rfl,p1,p2,p3,p4,p5,p6⟩:=hP;obtain⟨hj,rfl⟩:=a1Z hx;rw[aB] at p4 p5⊢;have a70:((j:Nat):Int)+70=((j+70:Nat):Int):=by ac_nf
  obtain⟨N,hN⟩:=B8 (ct:=ct) (k:=k) (c:=c) (j:=((j+70:Nat):Int)) (h:=g) bN nofun;have m2:∀h,u8 h ⇑N (.int 2)=.ok ⇑(N%2) h:=λh=>y9 2 ∅;obtain⟨l,l1,l2,l3,l4⟩:=a9x N;have sl:slD (g++[.lst [.str "above",.str "below"]]) (some ((N%2:Nat):Int)) none (.ref ↥g)=.ok (.ref (↥g+1)) (g++[.lst [.str "above",.str "below"]]++[.lst (l.map .str)]):=by rw[G4 b7,l1];simp
  have gl:↥h<↥g:=(ac.mp p2).1;have gn:(g++[Cell.lst [.str "above",.str "below"]]++[.lst (l.map .str)])[↥g+1]? =some (.lst (l.map .str)):=by have:=b7 (h:=g++[Cell.lst [.str "above",.str "below"]]) (c:=.lst (l.map .str));rw[aq] at this;exact this
  obtain⟨qs,e5',g2,f1,f2,f3,f4,f5⟩:=b1f (ct:=ct) (k:=k) (c:=c) (N:=N) cZ hh hj rfl (Nat.lt_trans gl (aT _)) ((p1.app _).app _) (b6 (b6 p2)) gn nofun l4 e5 l3;have nw:(sh[j]).1∉(sh.take j).map (·.1):=λhm=>by have nd:=hs.nd;rw[←take_append_drop j sh,drop_eq_getElem_cons hj,ao,map_cons] at nd;have:=nodup_append.mp nd;exact this.2.2 _ hm _ (.head _) rfl
  refine⟨_,[some (.int c),~~~s,~~~↥h,j⁻¹,N⁻¹,e5'],g2,rfl,?_,ps++qs,_,_,_,rfl,f2,f3,?_,?_,λp hp=>?_,λp hp=>?_⟩
  · show exs ct (b5 ct F (k+1)) ptB [some (.int c),~~~s,~~~↥h,j⁻¹,e4,e5] g=_;unfold ptB;rw[seq (by simp![op2,o6,a70,hN];rfl)];simp![v8,op2,m2,sl,L3,gn,f1]
  · rw[ao];refine nodup_append.mpr ⟨p3,f4.nodup (a0L _ l2 λa _ b _ e=>(Prod.mk.inj e).2),λa ha b hb e=>?_⟩;obtain⟨p,hp,rfl⟩:=al.mp ha;have hb:=f4.subset hb;obtain⟨y,_,rfl⟩:=al.mp hb;refine nw ?_;have e1:p.n=(sh[j]).1:=(Prod.mk.inj e).1;rw[←e1];exact p5 p hp
  · have:=f4.length_le;rw[aa,aa] at this;rw[aq];ac_nf
  · rw[take_succ_eq_append_getElem hj,ao];rcases aL.mp hp with hp|hp
    · exact mem_append_left _ (p5 p hp)
    · have:=f4.subset (List.mem_map_of_mem hp);obtain⟨y,_,e⟩:=al.mp this;refine mem_append_right _ ?_;have e1:(sh[j]).1=p.n:=(Prod.mk.inj e).1;rw[←e1];exact .head _
  · rcases aL.mp hp with hp|hp
    · exact p6 p hp
    · exact f5 p hp) ⟨[],none,none,none,rfl,(Pf.refl h).app _,b7,nodup_nil,gd _,(λ_ h=>nomatch h),λ_ h=>nomatch h⟩
 rw[aa,aK,aB] at q5 q6;rw[bf] at q6;refine⟨ps,q4,by ac_nf,λp hp=>⟨q6 p hp,q7 p hp⟩,?_⟩;rw[seq (by simp![len,a1a (h:=h++[.lst []]) (m:=↥sh) nofun,e1];rfl)];simp![];exact a4l q2 q3 (aj _) (b2J _)
end
def pk(sh:List (Str×Nat))(x:Nat):Str:=match sh[x%↥sh]? with
 |some p=>p.1
 |none=>""
theorem a6x(hs:4<=↥sh)(x:Nat):pk sh x∈sh.map (·.1)/\∃w,(shD sh)[x%↥sh]? =some (.tup [.str (pk sh x),w]):=by have lt:x%↥sh<↥sh:=fL _ nofun;unfold pk;rw[ai lt];exact⟨List.mem_map_of_mem (br lt),_,a7B lt⟩
structure Lt where
 n:Str
 j:Str
 w:Str
 fs:List Str
def ltD(l:Lt):D:=.tup [.str l.n,.str l.j,.str l.w,.tup (l.fs.map .str)]
structure LtOk(sh:List (Str×Nat))(l:Lt):Prop where
 nm:c9 l.n=true
 jn:o7 a4D (.str l.j)=some (.int ↥l.fs)
 few:1<=↥l.fs/\↥l.fs<=4
 wy:inD (.str l.w) [.str "left",.str "right",.str "either"]=true
 js:l.j="both"∨l.j="back"∨l.j="none"∨l.j="clear"
 ws:l.w="left"∨l.w="right"∨l.w="either"
 fs:∀f∈l.fs,f∈sh.map (·.1)
theorem b2L(ms:List Lt):D.flats (ms.map ltD)=true:=D9 λd hd=>by obtain⟨p,_,rfl⟩:=al.mp hd;show D.flats [.str p.n,.str p.j,.str p.w,.tup (p.fs.map .str)]=true;simp only[D.flats,D.flat,D8,gD]
def jnL:List Str:=["both","back","none","both","clear","both"]
theorem c0q(i:Nat):∃j n,jnL[i%6]? =some j/\o7 jnD (.str j)=some ⇑(n)/\D7 (.str j) jnD=true/\o7 a4D (.str j)=some ⇑(n)/\(1<=n/\n<=4)/\(j="both"∨j="back"∨j="none"∨j="clear"):=by
 have:i%6=0∨i%6=1∨i%6=2∨i%6=3∨i%6=4∨i%6=5:=(by decide:∀r:Nat,r<6->r=0∨r=1∨r=2∨r=3∨r=4∨r=5) (i%6) (fL _ ∅);rcases this with e|e|e|e|e|e<;>rw[e]
 · exact⟨"both",4,rfl,by decide,by decide,by decide,by decide,.inl rfl⟩
 · exact⟨"back",2,rfl,by decide,by decide,by decide,by decide,.inr (.inl rfl)⟩
 · exact⟨"none",1,rfl,by decide,by decide,by decide,by decide,.inr (.inr (.inl rfl))⟩
 · exact⟨"both",4,rfl,by decide,by decide,by decide,by decide,.inl rfl⟩
 · exact⟨"clear",1,rfl,by decide,by decide,by decide,by decide,.inr (.inr (.inr rfl))⟩
 · exact⟨"both",4,rfl,by decide,by decide,by decide,by decide,.inl rfl⟩
def wyL:List Str:=["left","right","either"]
theorem b9t(i:Nat):∃w,wyL[i%3]? =some w/\inD (.str w) [.str "left",.str "right",.str "either"]=true/\(w="left"∨w="right"∨w="either"):=by
 have:i%3=0∨i%3=1∨i%3=2:=(by decide:∀r:Nat,r<3->r=0∨r=1∨r=2) (i%3) (fL _ ∅);rcases this with e|e|e<;>rw[e]
 · exact⟨"left",rfl,by decide,.inl rfl⟩
 · exact⟨"right",rfl,by decide,.inr (.inl rfl)⟩
 · exact⟨"either",rfl,by decide,.inr (.inr rfl)⟩
variable{ls:List Lt}
section
variable{ct:CT}{F:Nat->Option Fn}
theorem a5u{s:Nat}(hh:g[s]? =some (.lst (shD sh))):biD .len g [.ref s]=.ok ⇑↥sh g:=by rw[n5 hh];unfold shD;rw[aa]
theorem a8L{s x:Nat}(hs:4<=↥sh)(hh:g[s]? =some (.lst (shD sh))):∃w,ixD g (.ref s) ⇑(x%↥sh)=.ok (.tup [.str (pk sh x),w]) g:=by obtain⟨_,w,e⟩:=a6x hs x;exact⟨w,o0 hh e⟩
theorem b2U{s m:Nat}(hs:4<=↥sh)(hh:g[s]? =some (.lst (shD sh)))(e1:env[1]? =some (~~~s))(e6:env[6]? =some (N⁻¹))(e8:env[8]? =some (m⁻¹))(hm:m<=1000):
 ev ct c fcE env g=.ok (.ref ↥g) (g++[.lst ((List.range m).map λi=>.str (pk sh (N/(i*i*31+7))))]):=by
 unfold fcE;refine X0 (λi=>.str (pk sh (N/(i*i*31+7)))) (by simp![e8]) nofun λi hi=>?_;have ii:i*i<=1000000:=Nat.mul_le_mul (show i<=1000 by ac_nf) (show i<=1000 by ac_nf);have m1:O6 g ⇑i ⇑i=.ok ⇑(i*i) g:=by rw[N1 nofun];congr 2
 have m2:O6 g ⇑(i*i) (.int 31)=.ok ⇑(i*i*31) g:=by rw[N1 ∅];congr 2
 have a7:((i*i*31:Nat):Int)+7=((i*i*31+7:Nat):Int):=by ac_nf
 obtain⟨w,ix⟩:=a8L (x:=N/(i*i*31+7)) hs hh;simp![e1,e6,U1,op2,m1,m2,o6,a7,D1 (i*i*31+7) nofun nofun,a5u hh,y9 sh.length nofun,ix,a3f]
variable(bN:F 202=some p8)(cg:F 203=some o9)
include bN
theorem a6K{k s a N0:Nat}{c:Int}{ns:List Str}(hs:4<=↥sh)(hh:h[s]? =some (.lst (shD sh)))(hj:j<↥ns)(n6:↥ns<=100)(ll:↥ls<=1000)(hn:c9 ns[j]=true)(ha:a=↥h)(p1:Pf h g)(p2:g[a]? =some (.lst (ns.map .str)))(p3:g[a+1]? =some (.lst (ls.map ltD)))(e6 e7 e8 e9:Option D):
 ∃l x6 x7 x8 x9 g',LtOk sh l/\l.n=ns[j]/\exs ct (b5 ct F (k+1)) lB [some (.int c),~~~s,N0⁻¹,~~~a,some (.ref (a+1)),j⁻¹,e6,e7,e8,e9] g=.ok (.nx [some (.int c),~~~s,N0⁻¹,~~~a,some (.ref (a+1)),j⁻¹,x6,x7,x8,x9]) g'/\Pf h g'/\g'[a]? =some (.lst (ns.map .str))/\g'[a+1]? =some (.lst ((ls++[l]).map ltD)):=by
 have a100:((j:Nat):Int)+100=((j+100:Nat):Int):=by ac_nf
 obtain⟨N,hN⟩:=B8 (ct:=ct) (k:=k) (c:=c) (j:=((j+100:Nat):Int)) (h:=g) bN nofun;obtain⟨jn,m,j1,j2,j3,j4,j5,j6⟩:=c0q N;obtain⟨wy,w1,w2,w3⟩:=b9t (N/6);have m6:∀h,u8 h ⇑N (.int 6)=.ok ⇑(N%6) h:=λh=>y9 6 ∅;have d6:∀h,z8 h ⇑N (.int 6)=.ok ⇑(N/6) h:=λh=>D1 6 ∅ ∅;have m3:∀(a:Nat) h,u8 h ⇑a (.int 3)=.ok ⇑(a%3) h:=λa h=>y9 3 ∅;have je:∀(env:o8)(h:AH),ev ct (b5 ct F (k+1)) jnE env h=.ok (.ref ↥h) (h++[.lst (jnL.map .str)]):=λenv h=>by unfold jnE jnL;simp![v8]
 have we:∀(env:o8)(h:AH),ev ct (b5 ct F (k+1)) wyE env h=.ok (.ref ↥h) (h++[.lst (wyL.map .str)]):=λenv h=>by unfold wyE wyL;simp![v8]
 have jx:∀h:AH,ixD (h++[.lst (jnL.map .str)]) (.ref ↥h) ⇑(N%6)=.ok (.str jn) (h++[.lst (jnL.map .str)]):=λh=>o0 b7 (by rw[ak,j1];rfl);have wx:∀h:AH,ixD (h++[.lst (wyL.map .str)]) (.ref ↥h) ⇑(N/6%3)=.ok (.str wy) (h++[.lst (wyL.map .str)]):=λh=>o0 b7 (by rw[ak,w1];rfl);have dx:∀h:AH,ixD (h++[.dict jnD]) (.ref ↥h) (.str jn)=.ok ⇑(m) (h++[.dict jnD]):=λh=>by simp only[ixD,b7,j3,fU,j2]
 have fl:((List.range m).map λi=>D.str (pk sh (N/(i*i*31+7))))=((List.range m).map λi=>pk sh (N/(i*i*31+7))).map .str:=by rw[aI];rfl
 refine⟨⟨ns[j],jn,wy,(List.range m).map λi=>pk sh (N/(i*i*31+7))⟩,N⁻¹,some (.str jn),m⁻¹,some (.tup (((List.range m).map λi=>pk sh (N/(i*i*31+7))).map .str)),(g++[Cell.lst (jnL.map .str)]++[Cell.dict jnD]++[Cell.lst (((List.range m).map λi=>pk sh (N/(i*i*31+7))).map .str)]++[Cell.lst (wyL.map .str)]).set (a+1) (.lst (ls.map ltD++[ltD ⟨ns[j],jn,wy,(List.range m).map λi=>pk sh (N/(i*i*31+7))⟩])),⟨hn,by simpa using j4,by simpa using j5,w2,j6,w3,λf hf=>?_⟩,rfl,?_,?_,?_,?_⟩
 · obtain⟨i,_,rfl⟩:=al.mp hf;exact(a6x hs _).1
 · unfold lB;rw[seq (by simp![op2,o6,a100,hN];rfl),seq (by simp![je,op2,m6,jx];rfl)];have P1:Pf h (g++[.lst (jnL.map .str)]):=p1.app _;have A1:=b6 (g:=[.lst (jnL.map .str)]) p2;have B1:=b6 (g:=[.lst (jnL.map .str)]) p3;generalize g++[Cell.lst (jnL.map .str)]=g1 at*
   unfold lB3;rw[seq (by simp![b5L,v8,dx];rfl)];have P2:Pf h (g1++[.dict jnD]):=P1.app _;have A2:=b6 (g:=[.dict jnD]) A1;have B2:=b6 (g:=[.dict jnD]) B1;generalize g1++[Cell.dict jnD]=g2 at*
   unfold lB4;have fo:=b2U (ct:=ct) (c:=b5 ct F (k+1)) (s:=s) (N:=N) (m:=m) (env:=[some (.int c),~~~s,N0⁻¹,~~~a,some (.ref (a+1)),j⁻¹,N⁻¹,some (.str jn),m⁻¹,e9]) (g:=g2) hs (P2.at hh) rfl rfl rfl nofun;rw[fl] at fo;generalize ((List.range m).map λi=>pk sh (N/(i*i*31+7)))=fs at*
   rw[seq (by simp![fo,O0 b7];rfl)];have A3:=b6 (g:=[.lst (fs.map .str)]) A2;have B3:=b6 (g:=[.lst (fs.map .str)]) B2;generalize g2++[Cell.lst (fs.map .str)]=g3 at*
   unfold lB5;have nx:ixD g3 (.ref a) ⇑j=.ok (.str ns[j]) g3:=o0 A3 (by rw[ak,ai hj];rfl);simp![C2 B3,nx,we,op2,d6,m3,wx,K0 (b6 (g:=[.lst (wyL.map .str)]) B3) (by rw[aa];ac_nf),ltD]
 · exact((((p1.app _).app _).app _).app _).set nofun
 · exact b8 nofun (b6 (b6 (b6 (b6 p2))))
 · rw[z9 (b6 (b6 (b6 (b6 p3)))),ao];rfl
include cg
theorem a7M{k s:Nat}{c:Int}(hF:F 208=some C8)(hs:Shs sh)(hh:h[s]? =some (.lst (shD sh))):∃ls:List Lt,(1<=↥ls/\↥ls<=6)/\(ls.map (·.n)).Nodup/\(∀l∈ls,LtOk sh l)/\b5 ct F (k+2) 208 [.int c,.ref s] h=.ok (.ref ↥h) (h++[.lst (ls.map ltD)]):=by
 obtain⟨M,hM⟩:=B8 (ct:=ct) (k:=k) (c:=c) (j:=2) (h:=h) bN ∅;have d6:z8 h ⇑M (.int 6)=.ok ⇑(M/6) h:=D1 6 ∅ ∅;have m6:u8 h ⇑M (.int 6)=.ok ⇑(M%6) h:=y9 6 ∅;have a1:(1:Int)+((M%6:Nat):Int)=((1+M%6:Nat):Int):=by ac_nf
 have l6:M%6<6:=fL _ ∅;obtain⟨ns,nk,hN⟩:=a0e (ct:=ct) (k:=k) (c:=M/6) (m:=1+M%6) (h:=h) cg nofun;generalize hm:1+M%6=m at nk hN a1;rw[i6 hF rfl];simp only[C8];rw[seq (by simp![hM];rfl),seq (by simp![op2,d6,m6,o6,a1,hN];rfl)];have l1:↥(h++[Cell.lst (ns.map D.str)])=↥h+1:=by simp
 rw[seq (by simp![v8,l1];rfl)];have gN:(h++[Cell.lst (ns.map D.str)]++[Cell.lst []])[↥h]? =some (.lst (ns.map .str)):=b6 b7;have gW:(h++[Cell.lst (ns.map D.str)]++[Cell.lst []])[↥h+1]? =some (.lst []):=by rw[←l1];exact b7
 have pf:Pf h (h++[Cell.lst (ns.map D.str)]++[Cell.lst []]):=((Pf.refl h).app _).app _;generalize h++[Cell.lst (ns.map D.str)]++[Cell.lst []]=g at gN gW pf;have len:biD .len g [.ref ↥h]=.ok ⇑m g:=by rw[n5 gN,aa,nk.len]
 obtain⟨bF,g',e1,ls,e5,e6,e7,e8,e9,rfl,q2,q3,q4,q5,q6⟩:=B7 (g:=[]) (p:=.nm 5) (body:=exs ct (b5 ct F (k+1)) lB) (λj env hh=>∃ls:List Lt,∃e5 e6 e7 e8 e9,env=[some (.int c),~~~s,M⁻¹,~~~↥h,some (.ref (↥h+1)),e5,e6,e7,e8,e9]/\Pf h hh/\hh[↥h]? =some (.lst (ns.map .str))/\hh[↥h+1]? =some (.lst (ls.map ltD))/\ls.map (·.n)=ns.take j/\∀l∈ls,LtOk sh l) (λ_ _ _ _=>rfl) ((List.range m).map λi=>.int ((0:Int)+(i:Nat))) 0 [some (.int c),~~~s,M⁻¹,~~~↥h,some (.ref (↥h+1)),none,none,none,none,none] g (λj x env hg hx hP=>by
  obtain⟨ls,e5,e6,e7,e8,e9,rfl,p1,p2,p3,p4,p5⟩:=hP;obtain⟨hj,rfl⟩:=a1Z hx;rw[aB] at p4⊢;have hj':j<↥ns:=by rw[nk.len];exact hj
  have ll:↥ls<=1000:=by have:=fN List.length p4;rw[aa,aM] at this;ac_nf
  obtain⟨l,x6,x7,x8,x9,g',t1,t2,t3,t4,t5,t6⟩:=a6K (k:=k) (c:=c) (N0:=M) bN hs.lo hh hj' (by rw[nk.len];ac_nf) ll (nk.ok _ (br hj')) rfl p1 p2 p3 e6 e7 e8 e9;refine⟨_,_,g',rfl,t3,ls++[l],_,_,_,_,_,rfl,t4,t5,t6,?_,λy hy=>?_⟩
  · rw[ao,p4,take_succ_eq_append_getElem hj',←t2];rfl
  · rcases aL.mp hy with hy|hy
    · exact p5 y hy
    · rw[aO.mp hy];exact t1) ⟨[],none,none,none,none,none,rfl,pf,gN,gW,rfl,λ_ h=>nomatch h⟩
 rw[aa,aK,aB,←nk.len,bf] at q5;have ln:↥ls=m:=by rw[←nk.len,←q5,aa]
 refine⟨ls,by ac_nf,by rw[q5];exact nk.nd,q6,?_⟩;rw[seq (by simp![len,a1a (h:=g) (m:=m) nofun,e1];rfl)];simp![];exact a4l q2 q4 (Nat.le_succ _) (b2L _)
end
structure Cs where
 n:Str
 fs:List Str
def csD(c:Cs):D:=.tup [.str c.n,.tup (c.fs.map .str)]
structure CsOk(sh:List (Str×Nat))(c:Cs):Prop where
 nm:c9 c.n=true
 few:1<=↥c.fs/\↥c.fs<=20
 fs:∀f∈c.fs,f∈sh.map (·.1)
theorem b2M(ms:List Cs):D.flats (ms.map csD)=true:=D9 λd hd=>by obtain⟨p,_,rfl⟩:=al.mp hd;show D.flats [.str p.n,.tup (p.fs.map .str)]=true;simp only[D.flats,D.flat,D8,gD]
theorem U4:∀{l:List D}{i j:Nat}{x:D},(u5 i l)[j]? =some x->∃d,l[j]? =some d/\x=.tup [.int ((i+j:Nat):Int),d]
 |[],i,j,x,h=>by simp[u5] at h
 |d::r,i,0,x,h=>by rw[u5] at h;simp at h;exact⟨d,rfl,h.symm⟩
 |d::r,i,j+1,x,h=>by rw[u5] at h;obtain⟨d',h1,h2⟩:=U4 (l:=r) (i:=i+1) (j:=j) (by simpa using h);refine⟨d',by simpa using h1,?_⟩;rw[h2,show i+1+j=i+(j+1) by ac_nf]
theorem Q0:∀(l:List D)(i:Nat),↥(u5 i l)=↥l
 |[],_=>rfl
 |d::r,i=>by rw[u5,length_cons,Q0 r,length_cons]
section
variable{ct:CT}{F:Nat->Option Fn}
theorem b4i{s:Nat}(hs:4<=↥sh)(hh:g[s]? =some (.lst (shD sh)))(e1:env[1]? =some (~~~s))(e6:env[6]? =some (N⁻¹)):
 ev ct c smE env g=.ok (.ref ↥g) (g++[.lst (((List.range (1+N%5)).map λi=>pk sh (N/(i*13+5))).map .str)]):=by
 unfold smE;have m20:u8 g ⇑N (.int 5)=.ok ⇑(N%5) g:=y9 5 ∅;have a1:(1:Int)+((N%5:Nat):Int)=((1+N%5:Nat):Int):=by ac_nf
 have l20:N%5<5:=fL _ ∅;have r:=X0 (ct:=ct) (c:=c) (fr:=[6,1]) (a:=.bin .add (.i 1) (.bin .mod (.v 6) (.i 5))) (e:=(.ix (.ix (.v 2) (.bin .mod (.bin .div (.v 1) (.bin .add (.bin .mul (.v 0) (.i 13)) (.i 5))) (.bi .len (.o (.v 2))))) (.i 0))) (env:=env) (m:=1+N%5) (h:=g) (λi=>.str (pk sh (N/(i*13+5)))) (by simp![e6,op2,m20,o6,a1]) nofun (λi hi=>by
  have m1:O6 g ⇑i (.int 13)=.ok ⇑(i*13) g:=by rw[N1 ∅];congr 2
  have a5:((i*13:Nat):Int)+5=((i*13+5:Nat):Int):=by ac_nf
  obtain⟨w,ix⟩:=a8L (x:=N/(i*13+5)) hs hh;simp![e1,e6,U1,op2,m1,o6,a5,D1 (i*13+5) nofun nofun,a5u hh,y9 sh.length nofun,ix,a3f])
 rw[r,aI];rfl
variable(bN:F 202=some p8)(cg:F 203=some o9)
include bN cg
theorem a8h{k s:Nat}{c:Int}(hF:F 209=some C9)(hs:Shs sh)(hh:h[s]? =some (.lst (shD sh))):∃ls:List Cs,(1<=↥ls/\↥ls<=9)/\(ls.map (·.n)).Nodup/\(∀l∈ls,CsOk sh l)/\b5 ct F (k+2) 209 [.int c,.ref s] h=.ok (.ref ↥h) (h++[.lst (ls.map csD)]):=by
 obtain⟨M,hM⟩:=B8 (ct:=ct) (k:=k) (c:=c) (j:=3) (h:=h) bN ∅;have l1:↥(h++[Cell.lst []])=↥h+1:=by simp
 generalize hg:h++[Cell.lst []]=g0 at l1;have d4:z8 g0 ⇑M (.int 4)=.ok ⇑(M/4) g0:=D1 4 ∅ ∅;have m3:u8 g0 ⇑M (.int 3)=.ok ⇑(M%3) g0:=y9 3 ∅;have l3:M%3<3:=fL _ ∅;obtain⟨m,mb,me⟩:∃m:Nat,(1<=m/\m<=9)/\(1:Int)+((M%3:Nat):Int)=(m:Int):=⟨1+M%3,by ac_nf,by ac_nf⟩;obtain⟨ns,nk,hN⟩:=a0e (ct:=ct) (k:=k) (c:=M/4) (m:=m) (h:=g0) cg nofun;rw[i6 hF rfl];simp only[C9];rw[seq (by simp![hM];rfl),seq (by simp![v8,hg];rfl)];have gW:(g0++[Cell.lst (ns.map D.str)])[↥h]? =some (.lst []):=b6 (by rw[←hg];exact b7);have gN:(g0++[Cell.lst (ns.map D.str)])[↥h+1]? =some (.lst (ns.map .str)):=by rw[←l1];exact b7
 have pf:Pf h (g0++[Cell.lst (ns.map D.str)]):=by rw[←hg];exact((Pf.refl h).app _).app _
 rw[l1] at hN;generalize g0++[Cell.lst (ns.map D.str)]=g at gN gW pf hN;obtain⟨bF,g',e1,ls,e4,e5,e6,e7,rfl,q2,q3,q4,q5,q6⟩:=B7 (g:=[(↥h+1,.lst (ns.map .str))]) (p:=.tp (.nm 4>=>.nm 5>=>.nil)) (body:=exs ct (b5 ct F (k+1)) kB) (λj env hh=>∃ls:List Cs,∃e4 e5 e6 e7,env=[some (.int c),~~~s,M⁻¹,~~~↥h,e4,e5,e6,e7]/\Pf h hh/\hh[↥h+1]? =some (.lst (ns.map .str))/\hh[↥h]? =some (.lst (ls.map csD))/\ls.map (·.n)=ns.take j/\∀l∈ls,CsOk sh l) (λj env gg hP=>by
  obtain⟨_,_,_,_,_,_,_,h3,_⟩:=hP;simp[gOk,h3]) (u5 0 (ns.map .str)) 0 [some (.int c),~~~s,M⁻¹,~~~↥h,none,none,none,none] g (λj x env hg hx hP=>by
  obtain⟨ls,e4,e5,e6,e7,rfl,p1,p2,p3,p4,p5⟩:=hP;obtain⟨d,hd,rfl⟩:=U4 hx;have hj:j<↥ns:=by simpa using(ac.mp hd).1
  rw[ak,ai hj] at hd;obtain rfl:D.str ns[j]=d:=ax hd;rw[aB] at p4⊢;have a130:((j:Nat):Int)+130=((j+130:Nat):Int):=by ac_nf
  have jl:=nk.len;obtain⟨N,hN⟩:=B8 (ct:=ct) (k:=k) (c:=c) (j:=((j+130:Nat):Int)) (h:=hg) bN nofun;have so:=b4i (ct:=ct) (c:=b5 ct F (k+1)) (s:=s) (N:=N) (env:=[some (.int c),~~~s,M⁻¹,~~~↥h,j⁻¹,some (.str ns[j]),N⁻¹,e7]) (g:=hg) hs.lo (p1.at hh) rfl rfl;have l20:N%5<5:=fL _ ∅;have fo:∀f∈(List.range (1+N%5)).map λi=>pk sh (N/(i*13+5)),f∈sh.map (·.1):=λf hf=>by obtain⟨i,_,rfl⟩:=al.mp hf;exact(a6x hs.lo _).1
  have fl:↥((List.range (1+N%5)).map λi=>pk sh (N/(i*13+5)))=1+N%5:=by simp
  generalize ((List.range (1+N%5)).map λi=>pk sh (N/(i*13+5)))=fs at so fo fl;have ll:↥(ls.map csD)<1000000:=by have:=fN List.length p4;rw[aa,aM] at this;rw[aa];ac_nf
  refine⟨_,[some (.int c),~~~s,M⁻¹,~~~↥h,j⁻¹,some (.str ns[j]),N⁻¹,~~~↥hg],(hg++[Cell.lst (fs.map .str)]).set ↥h (.lst (ls.map csD++[csD ⟨ns[j],fs⟩])),rfl,?_,ls++[⟨ns[j],fs⟩],_,_,_,_,rfl,(p1.app _).set (aj _),b8 nofun (b6 p2),?_,?_,λy hy=>?_⟩
  · show exs ct (b5 ct F (k+1)) kB [some (.int c),~~~s,M⁻¹,~~~↥h,j⁻¹,some (.str ns[j]),e6,e7] hg=_;unfold kB;rw[seq (by simp![op2,o6,a130,hN];rfl),seq (by simp![so];rfl)];simp![C2 (b6 (g:=[.lst (fs.map .str)]) p3),O0 b7,K0 (b6 (g:=[.lst (fs.map .str)]) p3) ll,csD]
  · rw[z9 (b6 p3),ao];rfl
  · rw[ao,p4,take_succ_eq_append_getElem hj];rfl
  · rcases aL.mp hy with hy|hy
    · exact p5 y hy
    · rw[aO.mp hy];exact⟨nk.ok _ (br hj),by simp only;ac_nf,fo⟩) ⟨[],none,none,none,none,rfl,pf,gN,gW,rfl,λ_ h=>nomatch h⟩
 rw[Q0,aa,aB,bf] at q5;have ln:↥ls=m:=by rw[←nk.len,←q5,aa]
 refine⟨ls,by ac_nf,by rw[q5];exact nk.nd,q6,?_⟩;rw[seq (by simp![op2,d4,m3,o6,J3,eqS,me,hN,U5,gN,e1];rfl)];simp![];exact a4l q2 q4 (aj _) (b2M _)
end
def T7(sh:List (Str×Nat))(cs:List Cs)(it:Str):Prop:=it∈sh.map (·.1)∨∃c∈cs,it=("@":Str)++c.n
theorem N6{l:List α}(f:α->D)(hl:1<=↥l)(x:Nat):∃y∈l,(l.map f)[x%↥l]? =some (f y):=by have lt:x%↥l<↥l:=fL _ nofun;exact⟨l[x%↥l],br lt,by rw[ak,ai lt];rfl⟩
theorem a0f(h:c9 z=true):↥z<=12:=(a3E h).2
variable{cs:List Cs}{cn:D}{bD:List Str}
section
variable{ct:CT}{F:Nat->Option Fn}
structure Trio(sh:List (Str×Nat))(ls:List Lt)(cs:List Cs)(h:AH)(s l c:Nat):Prop where
 s:h[s]? =some (.lst (shD sh))
 l:h[l]? =some (.lst (ls.map ltD))
 c:h[c]? =some (.lst (cs.map csD))
 s4:4<=↥sh
 l1:1<=↥ls
 c1:1<=↥cs
 lo:∀x∈ls,LtOk sh x
 co:∀x∈cs,CsOk sh x
theorem Trio.pf{s l c:Nat}(t:Trio sh ls cs h s l c)(p:Pf h g):Trio sh ls cs g s l c:=⟨p.at t.s,p.at t.l,p.at t.c,t.s4,t.l1,t.c1,t.lo,t.co⟩
theorem a9V{cf:CF}{s l c m a:Nat}(T:Trio sh ls cs g s l c)(hj:j<=100)(hN:N=m/(j*j*17+3))(p:g[a]? =some (.lst (bD.map .str)))(il:↥bD<=1000)(e7 e8:Option D):
 ∃it x8,T7 sh cs it/\exs ct cf iB [m⁻¹,some cn,~~~s,~~~l,~~~c,~~~a,j⁻¹,e7,e8] g=.ok (.nx [m⁻¹,some cn,~~~s,~~~l,~~~c,~~~a,j⁻¹,N⁻¹,x8]) (g.set a (.lst (bD.map .str++[.str it]))):=by
 have jj:j*j<=10000:=Nat.mul_le_mul hj hj;have m1:O6 g ⇑j ⇑j=.ok ⇑(j*j) g:=by rw[N1 nofun];congr 2
 have m2:O6 g ⇑(j*j) (.int 17)=.ok ⇑(j*j*17) g:=by rw[N1 ∅];congr 2
 have a3:((j*j*17:Nat):Int)+3=((j*j*17+3:Nat):Int):=by ac_nf
 have dv:z8 g ⇑m ⇑(j*j*17+3)=.ok ⇑N g:=by rw[hN];exact D1 _ nofun nofun
 have m3:u8 g ⇑N (.int 3)=.ok ⇑(N%3) g:=y9 3 ∅;have d3:z8 g ⇑N (.int 3)=.ok ⇑(N/3) g:=D1 3 ∅ ∅;have d50:z8 g ⇑N (.int 50)=.ok ⇑(N/50) g:=D1 50 ∅ ∅;have il':↥(bD.map D.str)<1000000:=by rw[aa];ac_nf
 unfold iB
 by_cases h0:((N%3:Nat):Int)=0
 · have q0:J3 g ⇑(N%3) (.int 0)=.ok (.bl true) g:=by rw[h0];rfl
   obtain⟨y,hy,ey⟩:=N6 csD T.c1 (N/3);have lc:biD .len g [.ref c]=.ok ⇑↥cs g:=by rw[n5 T.c,aa]
   have ix:ixD g (.ref c) ⇑(N/3%↥cs)=.ok (csD y) g:=o0 T.c ey;have yl:=a0f (T.co y hy).nm;refine⟨("@":Str)++y.n,e8,.inr ⟨y,hy,rfl⟩,?_⟩;rw[seq (by simp![op2,m1,m2,o6,a3,dv];rfl)];unfold iA;unfold csD at ix;simp![op2,m3,q0,C2 p,d3,lc,y9 cs.length T.c1,ix,a3f,u0 (h:=g) (x:="@") (y:=y.n) (by show 1+_<=_;ac_nf),K0 p il']
 · have q0:J3 g ⇑(N%3) (.int 0)=.ok (.bl false) g:=by simp only[J3,eqS,h0,fJ]
   by_cases h1:((N%3:Nat):Int)=1
   · have q1:J3 g ⇑(N%3) (.int 1)=.ok (.bl true) g:=by rw[h1];rfl
     obtain⟨y,hy,ey⟩:=N6 ltD T.l1 (N/3);have lc:biD .len g [.ref l]=.ok ⇑↥ls g:=by rw[n5 T.l,aa]
     have ix:ixD g (.ref l) ⇑(N/3%↥ls)=.ok (ltD y) g:=o0 T.l ey;have yo:=T.lo y hy;obtain⟨z,hz,ez⟩:=N6 D.str yo.few.1 (N/50);have i3:ixD g (ltD y) (.int 3)=.ok (.tup (y.fs.map .str)) g:=ix_tup (i:=3) rfl;have lt:biD .len g [.tup (y.fs.map .str)]=.ok ⇑↥y.fs g:=by show R.ok (D.int (↥(y.fs.map D.str):Nat)) g=_;rw[aa]
     have iz:ixD g (.tup (y.fs.map .str)) ⇑(N/50%↥y.fs)=.ok (.str z) g:=ix_tup ez;refine⟨z,some (.tup (y.fs.map .str)),.inl (yo.fs z hz),?_⟩;rw[seq (by simp![op2,m1,m2,o6,a3,dv];rfl)];unfold iC;simp![op2,m3,q0,q1,d3,lc,y9 ls.length T.l1,ix,i3,C2 p,d50,lt,y9 y.fs.length yo.few.1,iz,K0 p il']
   · have q1:J3 g ⇑(N%3) (.int 1)=.ok (.bl false) g:=by simp only[J3,eqS,h1,fJ]
     obtain⟨w,ix⟩:=a8L (x:=N/3) T.s4 T.s;refine⟨pk sh (N/3),e8,.inl (a6x T.s4 _).1,?_⟩;rw[seq (by simp![op2,m1,m2,o6,a3,dv];rfl)];unfold iD;simp![op2,m3,q0,q1,C2 p,d3,a5u T.s,y9 sh.length (show 0<↥sh by have:=T.s4;ac_nf),ix,a3f,K0 p il']
theorem a3K{k s l c m cn:Nat}(hF:F 210=some C0)(T:Trio sh ls cs h s l c)(hm:cn<=4):∃bD:List Str,↥bD=cn/\(∀i∈bD,T7 sh cs i)/\b5 ct F (k+1) 210 [.int (m:Int),.int (cn:Int),.ref s,.ref l,.ref c] h=.ok (.tup (bD.map .str)) h:=by
 rw[i6 hF rfl];simp only[C0];rw[seq (by simp![v8];rfl)];obtain⟨bF,g',e1,bD,e6,e7,e8,rfl,q2,q3,q4,q5⟩:=B7 (g:=[]) (p:=.nm 6) (body:=exs ct (b5 ct F k) iB) (λj env g=>∃bD:List Str,∃e6 e7 e8,env=[m⁻¹,cn⁻¹,~~~s,~~~l,~~~c,~~~↥h,e6,e7,e8]/\Pf h g/\g[↥h]? =some (.lst (bD.map .str))/\↥bD=j/\∀i∈bD,T7 sh cs i) (λ_ _ _ _=>rfl) ((List.range cn).map λi=>.int ((0:Int)+(i:Nat))) 0 [m⁻¹,cn⁻¹,~~~s,~~~l,~~~c,~~~↥h,none,none,none] (h++[.lst []]) (λj x env g hx hP=>by
  obtain⟨bD,e6,e7,e8,rfl,p1,p2,p3,p4⟩:=hP;obtain⟨hj,rfl⟩:=a1Z hx;rw[aB] at p3⊢;obtain⟨it,x8,t1,t2⟩:=a9V (cf:=b5 ct F k) (m:=m) (cn:=.int (cn:Int)) (T.pf p1) (show j<=100 by ac_nf) rfl p2 nofun e7 e8;refine⟨_,_,_,rfl,t2,bD++[it],_,_,_,rfl,p1.set (aj _),?_,by rw[aq,p3];rfl,λi hi=>?_⟩
  · rw[z9 p2,ao];rfl
  · rcases aL.mp hi with hi|hi
    · exact p4 i hi
    · rw[aO.mp hi];exact t1) ⟨[],none,none,none,rfl,(Pf.refl h).app _,b7,rfl,λ_ h=>nomatch h⟩
 rw[aa,aK,aB] at q4;refine⟨bD,q4,q5,?_⟩;rw[seq (by simp![a1a (h:=h++[.lst []]) (m:=cn) nofun,e1];rfl)];simp![O0 q3];exact b5z q2 (D8 _)
end
structure Ru where
 t:Str
 f:Str
 b:List Str
 c:List Str
 a:List Str
 o:List Str
def ruD(r:Ru):D:=.tup [.str r.t,.str r.f,.tup (r.b.map .str),.tup (r.c.map .str),.tup (r.a.map .str),.tup (r.o.map .str)]
def feD(p:Str×Bool):D:=.tup [.str p.1,.bl p.2]
structure RuOk(sh:List (Str×Nat))(cs:List Cs)(fe:List (Str×Bool))(r:Ru):Prop where
 nm:c9 r.t=true
 fe:r.f∈fe.map (·.1)
 b3:↥r.b<=3
 c4:1<=↥r.c/\↥r.c<=4
 a3:↥r.a<=3
 o3:1<=↥r.o/\↥r.o<=3
 b:∀i∈r.b,T7 sh cs i
 c:∀i∈r.c,T7 sh cs i
 a:∀i∈r.a,T7 sh cs i
 o:∀i∈r.o,i∈sh.map (·.1)
theorem b2I(ms:List Ru):D.flats (ms.map ruD)=true:=D9 λd hd=>by obtain⟨p,_,rfl⟩:=al.mp hd;show D.flats [.str p.t,.str p.f,.tup (p.b.map .str),.tup (p.c.map .str),.tup (p.a.map .str),.tup (p.o.map .str)]=true;simp only[D.flats,D.flat,D8,gD]
def z6:List D:=[.int 0,.int 0,.int 0,.int 1,.int 2,.int 3]
def z7:List D:=[.int 1,.int 2,.int 1,.int 2,.int 3,.int 4,.int 1]
theorem b6o(x:Nat):∃z:Nat,z<=3/\z6[x%6]? =z⁻¹:=by
 have:x%6=0∨x%6=1∨x%6=2∨x%6=3∨x%6=4∨x%6=5:=(by decide:∀r:Nat,r<6->r=0∨r=1∨r=2∨r=3∨r=4∨r=5) (x%6) (fL _ ∅);rcases this with e|e|e|e|e|e<;>rw[e]
 · exact⟨0,by decide,rfl⟩
 · exact⟨0,by decide,rfl⟩
 · exact⟨0,by decide,rfl⟩
 · exact⟨1,by decide,rfl⟩
 · exact⟨2,by decide,rfl⟩
 · exact⟨3,by decide,rfl⟩
theorem b9r(x:Nat):∃z:Nat,(1<=z/\z<=4)/\z7[x%7]? =z⁻¹:=by
 have:x%7=0∨x%7=1∨x%7=2∨x%7=3∨x%7=4∨x%7=5∨x%7=6:=(by decide:∀r:Nat,r<7->r=0∨r=1∨r=2∨r=3∨r=4∨r=5∨r=6) (x%7) (fL _ ∅);rcases this with e|e|e|e|e|e|e<;>rw[e]
 · exact⟨1,by decide,rfl⟩
 · exact⟨2,by decide,rfl⟩
 · exact⟨1,by decide,rfl⟩
 · exact⟨2,by decide,rfl⟩
 · exact⟨3,by decide,rfl⟩
 · exact⟨4,by decide,rfl⟩
 · exact⟨1,by decide,rfl⟩
def z5(b:Bool):List D:=[.int 1,.int 1,.int 1,.int 2,.int (2+(if b then 1 else 0))]
theorem b9s(b:Bool)(x:Nat):∃z:Nat,(1<=z/\z<=3)/\(z5 b)[x%5]? =z⁻¹:=by
 have:x%5=0∨x%5=1∨x%5=2∨x%5=3∨x%5=4:=(by decide:∀r:Nat,r<5->r=0∨r=1∨r=2∨r=3∨r=4) (x%5) (fL _ ∅);rcases this with e|e|e|e|e<;>rw[e]
 · exact⟨1,by decide,rfl⟩
 · exact⟨1,by decide,rfl⟩
 · exact⟨1,by decide,rfl⟩
 · exact⟨2,by decide,rfl⟩
 · cases b
   · exact⟨2,by decide,rfl⟩
   · exact⟨3,by decide,rfl⟩
section
variable{ct:CT}{F:Nat->Option Fn}
theorem b3Z{s m:Nat}(hs:4<=↥sh)(hh:g[s]? =some (.lst (shD sh)))(e2:env[2]? =some (~~~s))(e9:env[9]? =some (N⁻¹))(e15:env[15]? =some (m⁻¹))(hm:m<=1000):
 ev ct c tdE env g=.ok (.ref ↥g) (g++[.lst (((List.range m).map λi=>pk sh (N/(i*7+3))).map .str)]):=by
 unfold tdE;have r:=X0 (ct:=ct) (c:=c) (fr:=[9,2]) (a:=.v 15) (e:=(.ix (.ix (.v 2) (.bin .mod (.bin .div (.v 1) (.bin .add (.bin .mul (.v 0) (.i 7)) (.i 3))) (.bi .len (.o (.v 2))))) (.i 0))) (env:=env) (m:=m) (h:=g) (λi=>.str (pk sh (N/(i*7+3)))) (by simp![e15]) nofun (λi hi=>by
  have m1:O6 g ⇑i (.int 7)=.ok ⇑(i*7) g:=by rw[N1 ∅];congr 2
  have a5:((i*7:Nat):Int)+3=((i*7+3:Nat):Int):=by ac_nf
  obtain⟨w,ix⟩:=a8L (x:=N/(i*7+3)) hs hh;simp![e2,e9,U1,op2,m1,o6,a5,D1 (i*7+3) nofun nofun,a5u hh,y9 sh.length nofun,ix,a3f])
 rw[r,aI];rfl
theorem b0K(e9:env[9]? =some (N⁻¹)):∃z0 z1 z2 n t,z0<=3/\(1<=z1/\z1<=4)/\z2<=3/\ev ct c szE env g=.ok (.ref n) (g++t)/\(g++t)[n]? =some (.lst [.int ((z0:Nat):Int),.int ((z1:Nat):Int),.int ((z2:Nat):Int)]):=by
 obtain⟨z0,a0,b0⟩:=b6o N;obtain⟨z1,a1,b1⟩:=b9r (N/6);obtain⟨z2,a2,b2⟩:=b6o (N/42);have m6:∀(a:Nat) h,u8 h ⇑a (.int 6)=.ok ⇑(a%6) h:=λa h=>y9 6 ∅;have m7:∀(a:Nat) h,u8 h ⇑a (.int 7)=.ok ⇑(a%7) h:=λa h=>y9 7 ∅;have d6:∀h,z8 h ⇑N (.int 6)=.ok ⇑(N/6) h:=λh=>D1 6 ∅ ∅;have d42:∀h,z8 h ⇑N (.int 42)=.ok ⇑(N/42) h:=λh=>D1 42 ∅ ∅;have l6:∀(env:o8)(h:AH),ev ct c e6L env h=.ok (.ref ↥h) (h++[.lst z6]):=λenv h=>by unfold e6L z6;simp![v8]
 have l7:∀(env:o8)(h:AH),ev ct c e7L env h=.ok (.ref ↥h) (h++[.lst z7]):=λenv h=>by unfold e7L z7;simp![v8];rfl
 have x0:∀h:AH,ixD (h++[.lst z6]) (.ref ↥h) ⇑(N%6)=.ok ⇑z0 (h++[.lst z6]):=λh=>o0 b7 b0;have x1:∀h:AH,ixD (h++[.lst z7]) (.ref ↥h) ⇑(N/6%7)=.ok ⇑z1 (h++[.lst z7]):=λh=>o0 b7 b1;have x2:∀h:AH,ixD (h++[.lst z6]) (.ref ↥h) ⇑(N/42%6)=.ok ⇑z2 (h++[.lst z6]):=λh=>o0 b7 b2;refine⟨z0,z1,z2,↥(g++[Cell.lst z6]++[Cell.lst z7]++[Cell.lst z6]),[.lst z6,.lst z7,.lst z6,.lst [.int ((z0:Nat):Int),.int ((z1:Nat):Int),.int ((z2:Nat):Int)]],a0,a1,a2,?_,?_⟩
 · unfold szE;simp![l6,l7,e9,op2,m6,m7,d6,d42,x0,x1,x2,v8];simp
 · rw[show g++[Cell.lst z6,.lst z7,.lst z6,.lst [.int ((z0:Nat):Int),.int ((z1:Nat):Int),.int ((z2:Nat):Int)]]=(g++[Cell.lst z6]++[Cell.lst z7]++[Cell.lst z6])++[.lst [.int ((z0:Nat):Int),.int ((z1:Nat):Int),.int ((z2:Nat):Int)]] by simp];exact b7
end
variable{cl:Nat}{fe:List (Str×Bool)}
section
variable{ct:CT}{F:Nat->Option Fn}
theorem c1d(e7:env[7]? =some (j⁻¹)):ev ct c e5L env g=.ok (.ref ↥g) (g++[.lst (z5 (decide ((j:Int)=0)))]):=by unfold e5L z5;have ib:∀b:Bool,biD .int g [.bl b]=.ok (.int (if b=true then 1 else 0)) g:=λb=>rfl;simp![e7,op2,J3,eqS,ib,o6,v8]
variable(bN:F 202=some p8)(dB:F 210=some C0)
include bN dB
theorem a9B{k s l f a:Nat}{c:Int}{de:Str}{rs:List Ru}(T:Trio sh ls cs g s l cl)(hf:g[f]? =some (.lst (fe.map feD)))(f1:1<=↥fe)(ht:c9 de=true)(hj:j<=100)(p:g[a]? =some (.lst (rs.map ruD)))(rl:↥rs<=1000)(e9 e10 e11 eA dW e14 e15 e16:Option D):
 ∃r x9 x10 x11 x12 x13 x14 x15 x16 t,RuOk sh cs fe r/\r.t=de/\exs ct (b5 ct F (k+1)) rB [some (.int c),some cn,~~~s,~~~l,~~~cl,~~~f,~~~a,j⁻¹,some (.str de),e9,e10,e11,eA,dW,e14,e15,e16] g
  =.ok (.nx [some (.int c),some cn,~~~s,~~~l,~~~cl,~~~f,~~~a,j⁻¹,some (.str de),x9,x10,x11,x12,x13,x14,x15,x16]) ((g++t).set a (.lst ((rs++[r]).map ruD))):=by
 have a160:((j:Nat):Int)+160=((j+160:Nat):Int):=by ac_nf
 have a190:((j:Nat):Int)+190=((j+190:Nat):Int):=by ac_nf
 obtain⟨N,hN⟩:=B8 (ct:=ct) (k:=k) (c:=c) (j:=((j+160:Nat):Int)) (h:=g) bN nofun;obtain⟨M,hM⟩:=B8 (ct:=ct) (k:=k) (c:=c) (j:=((j+190:Nat):Int)) (h:=g) bN nofun;obtain⟨z0,z1,z2,n,t1,b0,b1,b2,sz,sx⟩:=b0K (ct:=ct) (c:=b5 ct F (k+1)) (N:=N) (env:=[some (.int c),some cn,~~~s,~~~l,~~~cl,~~~f,~~~a,j⁻¹,some (.str de),N⁻¹,M⁻¹,e11,eA,dW,e14,e15,e16]) (g:=g) rfl;have T1:Trio sh ls cs (g++t1) s l cl:=T.pf ((Pf.refl g).app _);have d11:z8 (g++t1) ⇑M (.int 11)=.ok ⇑(M/11) (g++t1):=D1 11 ∅ ∅;have d101:z8 (g++t1) ⇑M (.int 101)=.ok ⇑(M/101) (g++t1):=D1 101 ∅ ∅;have m5:O6 (g++t1) (.int 5) ⇑j=.ok ⇑(5*j) (g++t1):=by rw[N1 nofun];congr 2
 have ad1:((M/11:Nat):Int)+((5*j:Nat):Int)=((M/11+5*j:Nat):Int):=by ac_nf
 have ad2:((M/101:Nat):Int)+3=((M/101+3:Nat):Int):=by ac_nf
 have i0:ixD (g++t1) (.ref n) (.int 0)=.ok ⇑z0 (g++t1):=u9 0 0 rfl sx rfl;have i1:ixD (g++t1) (.ref n) (.int 1)=.ok ⇑z1 (g++t1):=u9 1 1 rfl sx rfl;have i2:ixD (g++t1) (.ref n) (.int 2)=.ok ⇑z2 (g++t1):=u9 2 2 rfl sx rfl;obtain⟨ib,q1,q2,q3⟩:=a3K (ct:=ct) (k:=k) (m:=M) (cn:=z0) dB T1 nofun;obtain⟨ic,u1,u2,u3⟩:=a3K (ct:=ct) (k:=k) (m:=M/11+5*j) (cn:=z1) dB T1 nofun;obtain⟨ia,v1,v2,v3⟩:=a3K (ct:=ct) (k:=k) (m:=M/101+3) (cn:=z2) dB T1 nofun;obtain⟨z,zb,zx⟩:=b9s (decide ((j:Int)=0)) (N/252);have G1:Pf g (g++t1):=(Pf.refl g).app _;have p1:=b6 (g:=t1) p;have hf1:=b6 (g:=t1) hf;have e5:=c1d (ct:=ct) (c:=b5 ct F (k+1)) (j:=j) (env:=[some (.int c),some cn,~~~s,~~~l,~~~cl,~~~f,~~~a,j⁻¹,some (.str de),N⁻¹,M⁻¹,~~~n,some (.tup (ib.map .str)),some (.tup (ic.map .str)),some (.tup (ia.map .str)),e15,e16]) (g:=g++t1) rfl;have d252:∀h,z8 h ⇑N (.int 252)=.ok ⇑(N/252) h:=λh=>D1 252 ∅ ∅;have m5':∀(a:Nat) h,u8 h ⇑a (.int 5)=.ok ⇑(a%5) h:=λa h=>y9 5 ∅;have ez:ixD (g++t1++[.lst (z5 (decide ((j:Int)=0)))]) (.ref ↥(g++t1)) ⇑(N/252%5)=.ok ⇑z (g++t1++[.lst (z5 (decide ((j:Int)=0)))]):=o0 b7 zx;have td:=b3Z (ct:=ct) (c:=b5 ct F (k+1)) (s:=s) (N:=N) (m:=z) (env:=[some (.int c),some cn,~~~s,~~~l,~~~cl,~~~f,~~~a,j⁻¹,some (.str de),N⁻¹,M⁻¹,~~~n,some (.tup (ib.map .str)),some (.tup (ic.map .str)),some (.tup (ia.map .str)),z⁻¹,e16]) (g:=g++t1++[.lst (z5 (decide ((j:Int)=0)))]) T.s4 (b6 T1.s) rfl rfl rfl nofun;have fo:∀x∈(List.range z).map λi=>pk sh (N/(i*7+3)),x∈sh.map (·.1):=λx hx=>by obtain⟨i,_,rfl⟩:=al.mp hx;exact(a6x T.s4 _).1
 have fl:↥((List.range z).map λi=>pk sh (N/(i*7+3)))=z:=by simp
 generalize ((List.range z).map λi=>pk sh (N/(i*7+3)))=fs at td fo fl;obtain⟨y,hy,ey⟩:=N6 feD f1 (N/1260);have d1260:∀h,z8 h ⇑N (.int 1260)=.ok ⇑(N/1260) h:=λh=>D1 1260 ∅ ∅;have hf2:=b6 (g:=[.lst (fs.map .str)]) (b6 (g:=[.lst (z5 (decide ((j:Int)=0)))]) hf1);have p2:=b6 (g:=[.lst (fs.map .str)]) (b6 (g:=[.lst (z5 (decide ((j:Int)=0)))]) p1);have lf:biD .len (g++t1++[.lst (z5 (decide ((j:Int)=0)))]++[.lst (fs.map .str)]) [.ref f]=.ok ⇑↥fe (g++t1++[.lst (z5 (decide ((j:Int)=0)))]++[.lst (fs.map .str)]):=by rw[n5 hf2,aa]
 have ix:ixD (g++t1++[.lst (z5 (decide ((j:Int)=0)))]++[.lst (fs.map .str)]) (.ref f) ⇑(N/1260%↥fe)=.ok (.tup [.str y.1,.bl y.2]) (g++t1++[.lst (z5 (decide ((j:Int)=0)))]++[.lst (fs.map .str)]):=o0 hf2 ey;have rl':↥(rs.map ruD)<1000000:=by rw[aa];ac_nf
 refine⟨⟨de,y.1,ib,ic,ia,fs⟩,N⁻¹,M⁻¹,~~~n,some (.tup (ib.map .str)),some (.tup (ic.map .str)),some (.tup (ia.map .str)),z⁻¹,some (.tup (fs.map .str)),t1++[.lst (z5 (decide ((j:Int)=0)))]++[.lst (fs.map .str)],⟨ht,List.mem_map_of_mem hy,by simp only;ac_nf,by simp only;ac_nf,by simp only;ac_nf,by simp only;ac_nf,q2,u2,v2,fo⟩,rfl,?_⟩;unfold rB;rw[seq (by simp![op2,o6,a160,hN];rfl),seq (by simp![op2,o6,a190,hM];rfl),seq (by simp![sz];rfl)];unfold rB3;rw[seq (by simp![i0,q3];rfl)];unfold rB4;rw[seq (by simp![op2,d11,m5,o6,ad1,i1,u3];rfl)];unfold rB5;rw[seq (by simp![op2,d101,o6,ad2,i2,v3];rfl)];unfold rB6;rw[seq (by simp![e5,op2,d252,m5',ez];rfl),seq (by simp![td,O0 b7];rfl)];unfold rB7;simp![C2 p2,op2,d1260,lf,y9 fe.length f1,ix,a3f,K0 p2 rl',ao];rw[show g++(t1++[Cell.lst (z5 (decide ((j:Int)=0)))]++[Cell.lst (fs.map .str)])=g++t1++[.lst (z5 (decide ((j:Int)=0)))]++[.lst (fs.map .str)] by simp];rfl
variable(cg:F 203=some o9)
include cg
theorem b0S{k s l f m:Nat}{c:Int}(hF:F 211=some B6)(T:Trio sh ls cs h s l cl)(hf:h[f]? =some (.lst (fe.map feD)))(f1:1<=↥fe)(hm:m<=26):
 ∃rs:List Ru,↥rs=m/\(rs.map (·.t)).Nodup/\(∀r∈rs,RuOk sh cs fe r)/\b5 ct F (k+2) 211 [.int c,.int (m:Int),.ref s,.ref l,.ref cl,.ref f] h=.ok (.ref ↥h) (h++[.lst (rs.map ruD)]):=by
 have l1:↥(h++[Cell.lst []])=↥h+1:=by simp
 have gW0:(h++[Cell.lst []])[↥h]? =some (.lst []):=b7;have pf0:Pf h (h++[Cell.lst []]):=(Pf.refl h).app _;have st:exs ct (b5 ct F (k+1)) B6.body [some (.int c),m⁻¹,~~~s,~~~l,~~~cl,~~~f,none,none,none,none,none,none,none,none,none,none,none] h=exs ct (b5 ct F (k+1)) (.for (.tp (.nm 7>=>.nm 8>=>.nil)) (.enum (.call 203 (.call 202 (.v 0>=>.o (.i 4))>=>.o (.v 1)))) rB>=>.o (.ret (.v 6))) [some (.int c),m⁻¹,~~~s,~~~l,~~~cl,~~~f,~~~↥h,none,none,none,none,none,none,none,none,none,none] (h++[.lst []]):=by simp only[B6];exact seq (by simp![v8])
 rw[i6 hF rfl];show∃rs:List Ru,_/\_/\_/\gcR 2 h (a2F (exs ct (b5 ct F (k+1)) B6.body [some (.int c),m⁻¹,~~~s,~~~l,~~~cl,~~~f,none,none,none,none,none,none,none,none,none,none,none] h))=_;rw[st];clear st;generalize h++[Cell.lst []]=g0 at l1 gW0 pf0;obtain⟨M,hM⟩:=B8 (ct:=ct) (k:=k) (c:=c) (j:=4) (h:=g0) bN ∅;obtain⟨ns,nk,hN⟩:=a0e (ct:=ct) (k:=k) (c:=M) (m:=m) (h:=g0) cg hm;have gW:(g0++[Cell.lst (ns.map D.str)])[↥h]? =some (.lst []):=b6 gW0;have gN:(g0++[Cell.lst (ns.map D.str)])[↥h+1]? =some (.lst (ns.map .str)):=by rw[←l1];exact b7
 have pf:Pf h (g0++[Cell.lst (ns.map D.str)]):=pf0.app _;rw[l1] at hN;generalize g0++[Cell.lst (ns.map D.str)]=g at gN gW pf hN;have nl:=nk.len;obtain⟨bF,g',e1,rs,e7,e8,e9,e10,e11,eA,dW,e14,e15,e16,rfl,q2,q3,q4,q5,q6⟩:=B7 (g:=[(↥h+1,.lst (ns.map .str))]) (p:=.tp (.nm 7>=>.nm 8>=>.nil)) (body:=exs ct (b5 ct F (k+1)) rB) (λj env hh=>∃rs:List Ru,∃e7 e8 e9 e10 e11 eA dW e14 e15 e16,env=[some (.int c),m⁻¹,~~~s,~~~l,~~~cl,~~~f,~~~↥h,e7,e8,e9,e10,e11,eA,dW,e14,e15,e16]/\Pf h hh/\hh[↥h+1]? =some (.lst (ns.map .str))/\hh[↥h]? =some (.lst (rs.map ruD))/\rs.map (·.t)=ns.take j/\∀r∈rs,RuOk sh cs fe r) (λj env gg hP=>by
  obtain⟨_,_,_,_,_,_,_,_,_,_,_,_,_,h3,_⟩:=hP;simp[gOk,h3]) (u5 0 (ns.map .str)) 0 [some (.int c),m⁻¹,~~~s,~~~l,~~~cl,~~~f,~~~↥h,none,none,none,none,none,none,none,none,none,none] g (λj x env hg hx hP=>by
  obtain⟨rs,e7,e8,e9,e10,e11,eA,dW,e14,e15,e16,rfl,p1,p2,p3,p4,p5⟩:=hP;obtain⟨d,hd,rfl⟩:=U4 hx;have hj:j<↥ns:=by simpa using(ac.mp hd).1
  rw[ak,ai hj] at hd;obtain rfl:D.str ns[j]=d:=ax hd;rw[aB] at p4⊢;have ll:↥rs<=1000:=by have:=fN List.length p4;rw[aa,aM] at this;ac_nf
  obtain⟨r,x9,x10,x11,x12,x13,x14,x15,x16,t,t1,t2,t3⟩:=a9B (ct:=ct) (k:=k) (c:=c) (cn:=.int (m:Int)) bN dB (T.pf p1) (p1.at hf) f1 (nk.ok _ (br hj)) (show j<=100 by ac_nf) p3 ll e9 e10 e11 eA dW e14 e15 e16;refine⟨_,_,_,rfl,t3,rs++[r],_,_,_,_,_,_,_,_,_,_,rfl,(p1.app _).set (aj _),b8 nofun (b6 p2),z9 (b6 p3),?_,λy hy=>?_⟩
  · rw[ao,p4,take_succ_eq_append_getElem hj,←t2];rfl
  · rcases aL.mp hy with hy|hy
    · exact p5 y hy
    · rw[aO.mp hy];exact t1) ⟨[],none,none,none,none,none,none,none,none,none,none,rfl,pf,gN,gW,rfl,λ_ h=>nomatch h⟩
 rw[Q0,aa,aB,bf] at q5;have ln:↥rs=m:=by rw[←nk.len,←q5,aa]
 refine⟨rs,ln,by rw[q5];exact nk.nd,q6,?_⟩;rw[seq (by simp![hM,hN,U5,gN,e1];rfl)];simp![];exact a4l q2 q4 (aj _) (b2I _)
end
structure HL where
 sh:List (Str×Nat)
 mr:List Mk
 pt:List Pt
 ls:List Lt
 gp:List Str
 cs:List Cs
 fe:List (Str×Bool)
 ru:List Ru
structure HLok(H:HL):Prop where
 sh:Shs H.sh
 mr:(H.mr.map (·.n)).Sublist (H.sh.map (·.1))
 mko:∀m∈H.mr,a0Q m.s/\a0E m.a/\a0E m.b
 pt:(H.pt.map ptK).Nodup
 ptl:↥H.pt<=100
 pto:∀p∈H.pt,p.n∈H.sh.map (·.1)/\a0Q p.s/\a0E p.a
 ls:1<=↥H.ls/\↥H.ls<=6
 lsn:(H.ls.map (·.n)).Nodup
 lso:∀l∈H.ls,LtOk H.sh l
 gp:H.gp.Sublist (H.ls.map (·.n))
 cs:1<=↥H.cs/\↥H.cs<=9
 csn:(H.cs.map (·.n)).Nodup
 cso:∀c∈H.cs,CsOk H.sh c
 fe:1<=↥H.fe/\↥H.fe<=3
 fen:Nms (H.fe.map (·.1)) ↥H.fe
 rul:↥H.ru<=26
 run:(H.ru.map (·.t)).Nodup
 ruo:∀r∈H.ru,RuOk H.sh H.cs H.fe r
structure HAt(H:HL)(g:AH)(a b c d e f i j:Nat):Prop where
 sh:g[a]? =some (.lst (shD H.sh))
 mr:g[b]? =some (.lst (H.mr.map mkD))
 pt:g[c]? =some (.lst (H.pt.map ptD))
 ls:g[d]? =some (.lst (H.ls.map ltD))
 gp:g[e]? =some (.lst (H.gp.map .str))
 cs:g[f]? =some (.lst (H.cs.map csD))
 fe:g[i]? =some (.lst (H.fe.map feD))
 ru:g[j]? =some (.lst (H.ru.map ruD))
def feF(M:Nat)(x:D):D:=match x with
 |.tup [.int j,n]=>(match n with
  |.str n=>feD (n,decide ((0:Int)<((M/(j.toNat+5)%4:Nat):Int)))
  |_=>.non)
 |_=>.non
theorem b2R(M:Nat):∀(ns:List Str)(i:Nat),∃fe:List (Str×Bool),(u5 i (ns.map .str)).map (feF M)=fe.map feD/\fe.map (·.1)=ns
 |[],_=>⟨[],rfl,rfl⟩
 |n::ns,i=>by obtain⟨fe,h1,h2⟩:=b2R M ns (i+1);refine⟨(n,decide ((0:Int)<((M/(((i:Nat):Int).toNat+5)%4:Nat):Int)))::fe,?_,by rw[map_cons,h2]⟩;rw[map_cons,u5,map_cons,h1];rfl
def gpB(M:Nat)(x:D):Bool:=match x with
 |.tup [.int j,_]=>decide (((M/(7*j.toNat+9)%4:Nat):Int)=0)
 |_=>false
def gpF(x:D):D:=match x with
 |.tup [_,.tup (n::_)]=>n
 |_=>.non
theorem b2s(M:Nat):∀(ls:List Lt)(i:Nat),∃gp:List Str,((u5 i (ls.map ltD)).filter (gpB M)).map gpF=gp.map .str/\gp.Sublist (ls.map (·.n))
 |[],_=>⟨[],rfl,.slnil⟩
 | l::ls,i=>by
  obtain⟨gp,h1,h2⟩:=b2s M ls (i+1);rw[map_cons,u5];cases hb:gpB M (.tup [.int (i:Nat),ltD l]) with
  |true=>
   refine⟨l.n::gp,?_,by rw[map_cons];exact h2.cons_cons _⟩;rw[List.filter_cons_of_pos hb,map_cons,h1];rfl
  |false=>
   refine⟨gp,?_,by rw[map_cons];exact h2.cons _⟩;rw[List.filter_cons_of_neg (by rw[hb];exact bq),h1]
section
variable{ct:CT}{F:Nat->Option Fn}
theorem b5A{d:Nat}(h4:env[4]? =some (~~~d))(h6:env[6]? =some (M⁻¹))(hd:g[d]? =some (.lst (ls.map ltD)))(hl:↥ls<=1000):∃gp:List Str,gp.Sublist (ls.map (·.n))/\ev ct c gpE env g=.ok (.ref ↥g) (g++[.lst (gp.map .str)]):=by
 obtain⟨gp,g1,g2⟩:=b2s M ls 0;refine⟨gp,g2,?_⟩;unfold gpE;rw[M3 (l:=u5 0 (ls.map ltD)) (g:=[(d,.lst (ls.map ltD))]) (h1:=g) (by simp![h4,U5,hd]) (by simp[gOk,hd]) (gpB M) gpF (λx=>match x with|.tup [a,b]=>[some a,some b,M⁻¹]|_=>[]) (λx hx=>by
  obtain⟨j,hj⟩:=List.mem_iff_getElem?.mp hx;obtain⟨y,hy,rfl⟩:=U4 hj;have hj':j<↥ls:=by simpa using(ac.mp hy).1
  rw[ak,ai hj'] at hy;obtain rfl:ltD ls[j]=y:=ax hy;rw[aB];have m7:O6 g (.int 7) ⇑j=.ok ⇑(7*j) g:=by rw[N1 nofun];congr 2
  have a9:((7*j:Nat):Int)+9=((7*j+9:Nat):Int):=by ac_nf
  have m4:∀a:Nat,u8 g ⇑a (.int 4)=.ok ⇑(a%4) g:=λa=>y9 4 ∅;refine⟨by simp only[F7,N5,F0,map_cons,map_nil,h6,U1];rfl,?_,λ_=>?_⟩
  · simp![op2,m7,o6,a9,D1 (7*j+9) nofun nofun,m4,J3,eqS,gpB,Int.toNat_natCast]
  · unfold ltD;simp![a3f,gpF]) (by rw[Q0,aa];show _<=16777216;ac_nf),g1]
theorem b2Q{k:Nat}(cg:F 203=some o9)(h6:env[6]? =some (M⁻¹)):∃(fe:List (Str×Bool))(t:Cell),(1<=↥fe/\↥fe<=3)/\Nms (fe.map (·.1)) ↥fe/\ev ct (b5 ct F (k+1)) feE env g=.ok (.ref (↥g+1)) (g++[t]++[.lst (fe.map feD)]):=by
 have d3:z8 g ⇑M (.int 3)=.ok ⇑(M/3) g:=D1 3 ∅ ∅;have m3:u8 g ⇑M (.int 3)=.ok ⇑(M%3) g:=y9 3 ∅;have a1:(1:Int)+((M%3:Nat):Int)=((1+M%3:Nat):Int):=by ac_nf
 have l3:M%3<3:=fL _ ∅;obtain⟨ns,nk,hN⟩:=a0e (ct:=ct) (k:=k) (c:=M/3) (m:=1+M%3) (h:=g) cg nofun;obtain⟨fe,h1,h2⟩:=b2R M ns 0;have fl:↥fe=1+M%3:=by rw[←nk.len,←h2,aa]
 refine⟨fe,.lst (ns.map .str),by ac_nf,by rw[h2,fl];exact nk,?_⟩;have lg:↥(g++[Cell.lst (ns.map D.str)])=↥g+1:=by simp
 unfold feE;rw[n9 (l:=u5 0 (ns.map .str)) (g:=[(↥g,.lst (ns.map .str))]) (h1:=g++[.lst (ns.map .str)]) (by simp![h6,op2,d3,m3,o6,a1,hN,U5,b7]) (by simp[gOk]) (feF M) (λx=>match x with|.tup [a,b]=>[some a,some b,M⁻¹]|_=>[]) (λx hx=>by
  obtain⟨j,hj⟩:=List.mem_iff_getElem?.mp hx;obtain⟨y,hy,rfl⟩:=U4 hj;have hj':j<↥ns:=by simpa using(ac.mp hy).1
  rw[ak,ai hj'] at hy;obtain rfl:D.str ns[j]=y:=ax hy;rw[aB];have jl:=nk.len;have a5:((j:Nat):Int)+5=((j+5:Nat):Int):=by ac_nf
  have m4:∀(a:Nat) h,u8 h ⇑a (.int 4)=.ok ⇑(a%4) h:=λa h=>y9 4 ∅;refine⟨by simp only[F7,N5,F0,map_cons,map_nil,h6,U1];rfl,?_⟩;simp![op2,o6,a5,D1 (j+5) nofun nofun,m4,G3,feF,feD,Int.toNat_natCast]) (by rw[Q0,aa,nk.len];show _<=16777216;ac_nf),h1,lg]
variable(dl:F 201=some E6)(bN:F 202=some p8)(cg:F 203=some o9)(f204:F 204=some E1)(cZ:F 205=some B9)(f206:F 206=some F6)(f207:F 207=some E3)(f208:F 208=some C8)(f209:F 209=some C9)(dB:F 210=some C0)(f211:F 211=some B6)
include dl bN cg f204 cZ f206 f207 f208 f209 dB f211
theorem b5t{k m:Nat}(hF:F 212=some M1)(hr:h[n]? =some (.rol (ns.map .int)))(hm:m<=26):
 ∃H g a b c d e f i j,HLok H/\↥H.ru=m/\Pf h g/\HAt H g a b c d e f i j/\b5 ct F (k+3) 212 [.ref n,.int (m:Int)] h=.ok (.tup [.ref a,.ref b,.ref c,.ref d,.ref e,.ref f,.ref i,.ref j]) g:=by
 obtain⟨c0,hc0⟩:=Z0 (ct:=ct) (k:=k+1) (j:=0) dl hr;obtain⟨sh,s1,s2⟩:=a9y (ct:=ct) (k:=k) (c:=c0) (h:=h) bN cg f204;have P1:Pf h (h++[.lst (shD sh)]):=(Pf.refl h).app _;have A1:(h++[Cell.lst (shD sh)])[↥h]? =some (.lst (shD sh)):=b7;have st1:exs ct (b5 ct F (k+2)) (.set 2 (.call 201 (.v 0>=>.o (.i 0)))>=>.set 3 (.call 204 (.o (.v 2)))>=>hB2) [~~~n,m⁻¹,none,none,none,none,none,none,none,none,none,none] h=exs ct (b5 ct F (k+2)) hB2 [~~~n,m⁻¹,some (.int c0),~~~↥h,none,none,none,none,none,none,none,none] (h++[.lst (shD sh)]):=by rw[seq (by simp![show b5 ct F (k+2) 201 [.ref n,.int 0] h=.ok (.int c0) h from hc0];rfl)];exact seq (by simp![s2])
 generalize h++[Cell.lst (shD sh)]=g1 at P1 A1 st1;obtain⟨c1,hc1⟩:=Z0 (ct:=ct) (k:=k+1) (j:=1) dl (P1.at hr);obtain⟨ls,l1,l2,l3,l4⟩:=a7M (ct:=ct) (k:=k) (c:=c1) (h:=g1) bN cg f208 s1 A1;have P2:Pf h (g1++[.lst (ls.map ltD)]):=P1.app _;have A2:=b6 (g:=[.lst (ls.map ltD)]) A1;have B2:(g1++[Cell.lst (ls.map ltD)])[↥g1]? =some (.lst (ls.map ltD)):=b7;generalize hd:↥g1=d at l4 B2;generalize hg2:g1++[Cell.lst (ls.map ltD)]=g2 at P2 A2 B2 l4;obtain⟨c2,hc2⟩:=Z0 (ct:=ct) (k:=k+1) (j:=2) dl (P2.at hr);obtain⟨cs,k1,k2,k3,k4⟩:=a8h (ct:=ct) (k:=k) (c:=c2) (h:=g2) bN cg f209 s1 A2;have P3:Pf h (g2++[.lst (cs.map csD)]):=P2.app _;have A3:=b6 (g:=[.lst (cs.map csD)]) A2;have B3:=b6 (g:=[.lst (cs.map csD)]) B2;have C3:(g2++[Cell.lst (cs.map csD)])[↥g2]? =some (.lst (cs.map csD)):=b7;generalize hf:↥g2=f at k4 C3;generalize hg3:g2++[Cell.lst (cs.map csD)]=g3 at P3 A3 B3 C3 k4;obtain⟨c2',hc2'⟩:=Z0 (ct:=ct) (k:=k+1) (j:=2) dl (P3.at hr);obtain⟨M,hM⟩:=B8 (ct:=ct) (k:=k+1) (c:=c2') (j:=5) (h:=g3) bN ∅;obtain⟨fe,t,f1,f2,f3⟩:=b2Q (ct:=ct) (k:=k+1) (M:=M) (env:=[~~~n,m⁻¹,some (.int c0),~~~↥h,~~~d,~~~f,M⁻¹,none,none,none,none,none]) (g:=g3) cg rfl;have lg:↥(g3++[t])=↥g3+1:=by simp
 have P4:Pf h (g3++[t]++[.lst (fe.map feD)]):=(P3.app _).app _;have A4:=b6 (g:=[.lst (fe.map feD)]) (b6 (g:=[t]) A3);have B4:=b6 (g:=[.lst (fe.map feD)]) (b6 (g:=[t]) B3);have C4:=b6 (g:=[.lst (fe.map feD)]) (b6 (g:=[t]) C3);have D4:(g3++[t]++[Cell.lst (fe.map feD)])[↥g3+1]? =some (.lst (fe.map feD)):=by rw[←lg];exact b7
 generalize hi:↥g3+1=i at f3 D4;generalize hg4:g3++[t]++[Cell.lst (fe.map feD)]=g4 at P4 A4 B4 C4 D4 f3;obtain⟨c3,hc3⟩:=Z0 (ct:=ct) (k:=k+1) (j:=3) dl (P4.at hr);obtain⟨rs,r1,r2,r3,r4⟩:=b0S (ct:=ct) (k:=k) (c:=c3) (m:=m) (h:=g4) bN dB cg f211 (T:=⟨A4,B4,C4,s1.lo,l1.1,k1.1,l3,k3⟩) D4 f1.1 hm;have P5:Pf h (g4++[.lst (rs.map ruD)]):=P4.app _;have A5:=b6 (g:=[.lst (rs.map ruD)]) A4;have B5:=b6 (g:=[.lst (rs.map ruD)]) B4;have C5:=b6 (g:=[.lst (rs.map ruD)]) C4;have D5:=b6 (g:=[.lst (rs.map ruD)]) D4;have E5:(g4++[Cell.lst (rs.map ruD)])[↥g4]? =some (.lst (rs.map ruD)):=b7;generalize hj:↥g4=j at r4 E5;generalize hg5:g4++[Cell.lst (rs.map ruD)]=g5 at P5 A5 B5 C5 D5 E5 r4;obtain⟨gp,y1,y2⟩:=b5A (ct:=ct) (c:=b5 ct F (k+2)) (M:=M) (env:=[~~~n,m⁻¹,some (.int c0),~~~↥h,~~~d,~~~f,M⁻¹,~~~i,~~~j,none,none,none]) (g:=g5) rfl rfl B5 nofun;have P6:Pf h (g5++[.lst (gp.map .str)]):=P5.app _;have A6:=b6 (g:=[.lst (gp.map .str)]) A5;have X6:Pf g5 (g5++[.lst (gp.map .str)]):=(Pf.refl _).app _;have G6:(g5++[Cell.lst (gp.map .str)])[↥g5]? =some (.lst (gp.map .str)):=b7;generalize he:↥g5=e at y2 G6;generalize hg6:g5++[Cell.lst (gp.map .str)]=g6 at P6 A6 X6 G6 y2;obtain⟨ms,m1,m2,m3⟩:=b1O (ct:=ct) (k:=k) (c:=c0) (h:=g6) bN cZ f206 s1 A6;have P7:Pf h (g6++[.lst (ms.map mkD)]):=P6.app _;have A7:=b6 (g:=[.lst (ms.map mkD)]) A6;have X7:Pf g6 (g6++[.lst (ms.map mkD)]):=(Pf.refl _).app _;have M7:(g6++[Cell.lst (ms.map mkD)])[↥g6]? =some (.lst (ms.map mkD)):=b7;generalize hb:↥g6=b at m3 M7;generalize hg7:g6++[Cell.lst (ms.map mkD)]=g7 at P7 A7 X7 M7 m3;obtain⟨ps,p1,p2,p3,p4⟩:=a9H (ct:=ct) (k:=k) (c:=c0) (h:=g7) bN cZ f207 s1 A7;have P8:Pf h (g7++[.lst (ps.map ptD)]):=P7.app _;have X8:Pf g7 (g7++[.lst (ps.map ptD)]):=(Pf.refl _).app _;have N8:(g7++[Cell.lst (ps.map ptD)])[↥g7]? =some (.lst (ps.map ptD)):=b7;generalize hc:↥g7=c at p4 N8;generalize hg8:g7++[Cell.lst (ps.map ptD)]=g8 at P8 X8 N8 p4;have X58:=(X6.trans X7).trans X8;refine⟨⟨sh,ms,ps,ls,gp,cs,fe,rs⟩,g8,↥h,b,c,d,e,f,i,j,⟨s1,m1,m2,p1,p2,p3,l1,l2,l3,y1,k1,k2,k3,f1,f2,by show ↥rs<=26;ac_nf,r2,r3⟩,r1,P8,⟨X58.at A5,X8.at M7,N8,X58.at B5,(X7.trans X8).at G6,X58.at C5,X58.at D5,X58.at E5⟩,?_⟩;rw[i6 hF rfl];simp only[M1];rw[gc0];show a2F (exs ct (b5 ct F (k+2)) (.set 2 (.call 201 (.v 0>=>.o (.i 0)))>=>.set 3 (.call 204 (.o (.v 2)))>=>hB2) [~~~n,m⁻¹,none,none,none,none,none,none,none,none,none,none] h)=_;rw[st1];unfold hB2;rw[seq (by simp![show b5 ct F (k+2) 201 [.ref n,.int 1] g1=.ok (.int c1) g1 from hc1,l4];rfl),seq (by simp![show b5 ct F (k+2) 201 [.ref n,.int 2] g2=.ok (.int c2) g2 from hc2,k4];rfl),seq (by simp![show b5 ct F (k+2) 201 [.ref n,.int 2] g3=.ok (.int c2') g3 from hc2',hM];rfl)];unfold hB3;rw[seq (by simp![f3];rfl),seq (by simp![show b5 ct F (k+2) 201 [.ref n,.int 3] g4=.ok (.int c3) g4 from hc3,r4];rfl)];unfold hB4;rw[seq (by simp![y2];rfl),seq (by simp![m3];rfl),seq (by simp![p4];rfl)];have s8:(8<=SL)=True:=eq_true ∅;simp![s8]
end
def num(i:Int):Str:=Str.ofString (toString i)
def ln(ws:List Str):Str:=Txt.join " " ws
theorem a7k(ws:List Str):cd (ln ws)=jn 32 (ws.map cd):=by show cd (glued " " _)=_;rw[gK];exact a2Z 32 ws
theorem a4B(h:cd x=jn 32 (ws.map cd)):x=ln ws:=T6 (h.trans (a7k ws).symm)
def U8(p:Str×Nat):List Str:=["shape",p.1,num p.2]
def M6(p:Int×Int):List Str:=[num p.1,num p.2]
def V7(m:Mk):List Str:=["mark",m.n,m.s,num m.a.1,num m.a.2,num m.b.1,num m.b.2]
def Z6(p:Pt):List Str:=["point",p.n,p.s,num p.a.1,num p.a.2]
def N9(l:Lt):List Str:="letter"::l.n::l.j::l.w::l.fs
def a6f(n:Str):List Str:=["gap",n]
def U9(c:Cs):List Str:="class"::c.n::c.fs
def a9L(b:Bool):Str:=if b then "on" else "off"
def a2p(p:Str×Bool):List Str:=["feature",p.1,a9L p.2]
def T8(r:Ru):List Str:="rule"::r.t::r.f::(r.b++("/":Str)::(r.c++("/":Str)::(r.a++(">":Str)::r.o)))
def M8(H:HL):List (List Str):=H.sh.map U8++H.mr.map V7++H.pt.map Z6++H.ls.map N9++H.gp.map a6f++H.cs.map U9++H.fe.map a2p++H.ru.map T8
theorem a2T{i:Int}(h: -99999<=i/\i<=99999):↥(num i)<=7:=by unfold num;rw[ofString_length];exact int_text_length_le10 (a:=i) (k:=6) ∅ nofun
theorem a7x{i:Int}(hi: -99999<=i/\i<=99999):biD .str h [.int i]=.ok (.str (num i)) h:=by
 simp only[biD,bi1,biL];rw[ay]
 · rfl
 · by_cases h0:i.natAbs=0
   · rw[h0];decide
   · exact(Nat.log2_lt h0).mpr (aC (show i.natAbs<2^17 by ac_nf) (Nat.pow_le_pow_right ∅ ∅))
theorem F9:↥(Str.ofString " ")=1:=rfl
theorem a5a(h:∀w∈ws,↥w<=b):(ws.map (·.length)).sum<=↥ws*b:=by
 induction ws with
 |nil=>simp
 |cons x r ih=>
  rw[map_cons,List.sum_cons,length_cons];have:=ih λw hw=>h w (.tail _ hw);have:=h x (.head _);rw[Nat.add_mul];ac_nf
theorem b1U(h:∀w∈ws,↥w<=b):↥(ln ws)<=↥ws*(b+1):=by show(glued " " ws).length<=_;rw[gK];refine aR (StrLaws.join_length_le _ _) ?_;have:=a5a h;rw[F9,Nat.mul_add];ac_nf
theorem b6v(h:∀w∈ws,↥w<=20)(hl:↥ws<=100):JoinOk " " ws=true:=by have:=a5a h;exact a5z (by rw[F9];ac_nf)
variable{ys:List Str}{p:Pat}{nb:Nat}
section
variable{ct:CT}{F:Nat->Option Fn}
theorem a3w{k:Nat}{p:Int×Int}(hF:F 213=some E4)(hp:a0E p):b5 ct F (k+1) 213 [spD p] h=.ok (.str (ln (M6 p))) h:=by rw[i6 hF rfl];simp only[E4];have i0:ixD h (spD p) (.int 0)=.ok (.int p.1) h:=ix_tup (i:=0) rfl;have i1:ixD h (spD p) (.int 1)=.ok (.int p.2) h:=ix_tup (i:=1) rfl;have l1:=a2T hp.1;have l2:=a2T hp.2;simp![i0,i1,a7x hp.1,a7x hp.2,op2,u0 (h:=h) (x:=num p.1) (y:=" ") (by rw[F9];ac_nf),u0 (h:=h) (x:=num p.1++(" ":Str)) (y:=num p.2) (by rw[n8,F9];ac_nf)];rw[show(num p.1++(" ":Str))++num p.2=ln (M6 p) from a4B (by rw[D3,D3,show cd (Str.ofString " ")=[32] from rfl];show cd (num p.1)++[32]++cd (num p.2)=cd (num p.1)++32::cd (num p.2);simp)];exact r8 rfl
theorem a4b{a:Nat}{ys:List D}(h1:g[a]? =some (.lst xs))(h2:g[b]? =some (.lst ys))(hl:↥xs+↥ys<=100000):T0 g (.ref a) (.ref b)=.ok (.ref ↥g) (g++[.lst (xs++ys)]):=a1V h1 h2 hl
theorem b1V:biD .list h [.tup xs]=.ok (.ref ↥h) (h++[.lst xs]):=rfl
theorem b5k(h1:g[n]? =some (.lst (ts.map .str)))(jo:JoinOk sep ts=true):mtD .join g (.str sep) [.ref n]=.ok (.str (Txt.join sep ts)) g:=by
 have:rdL g n=some (ts.map .str):=by unfold rdL;rw[h1]
 simp only[mtD,this,a1X];rw[ay jo]
theorem a7f{s:Nat}{fr:List Nat}{l:List α}(rp:α->D)(f:α->Str)(cH:α->o8)(ha:ev ct c a env h=.ok (.ref s) h)(hs:h[s]? =some (.lst (l.map rp)))(hl:↥l<=1000)
 (hx:∀x∈l,F7 p (rp x) (F0 nb fr env)=some (cH x)/\∀h,∃t,ev ct c e (cH x) h=.ok (.str (f x)) (h++t)):∃t,ev ct c (.comp p (.seq a) nb fr .yes e) env h=.ok (.ref ↥(h++t)) (h++t++[.lst ((l.map f).map .str)]):=by
 have key:∀(l':List α)(bM:List D)(h':AH),(∀t,gOk [(s,.lst (l.map rp))] (h'++t)=true)->(∀x∈l',F7 p (rp x) (F0 nb fr env)=some (cH x)/\∀h,∃t,ev ct c e (cH x) h=.ok (.str (f x)) (h++t))->↥bM+↥l'<=SL->∃t,Q1 [(s,.lst (l.map rp))] p (tst ct c .yes) (ev ct c e) (F0 nb fr env) (l'.map rp) bM h'=.ok (bM++(l'.map f).map .str) (h'++t):=by
  intro l'
  induction l' with
  |nil=>
   intro bM h' g1 _ _;have g0:=g1 [];rw[aZ] at g0;exact⟨[],by rw[map_nil,Q1,ay g0];simp⟩
  |cons x r ih=>
   intro bM h' g1 dY hl';have g0:=g1 [];rw[aZ] at g0;obtain⟨b1,b2⟩:=dY x (.head _);obtain⟨t,b2⟩:=b2 h';rw[length_cons] at hl';obtain⟨u,ih⟩:=ih (bM++[.str (f x)]) (h'++t) (λu=>by rw[aA];exact g1 _) (λy hy=>dY y (.tail _ hy)) (by rw[aq];simp;ac_nf);refine⟨t++u,?_⟩;rw[map_cons,Q1,ay g0,b1];simp only;rw[a4W,b9,ay rfl,b2,b9,ay nofun,ih];simp
 obtain⟨t,kt⟩:=key l [] h (λt=>by simp[gOk,b6 (g:=t) hs]) hx (by show 0+_<=16777216;ac_nf);refine⟨t,?_⟩;rw[a2Y (x:=(l.map rp,[(s,.lst (l.map rp))])) (h1:=h) (h2:=h++t) (ds:=(l.map f).map .str) (by rw[R7,ha,b9];simp only[L3,hs]) (by rw[kt,nil_append])]
end
variable{r:Ru}
section
variable{ct:CT}{F:Nat->Option Fn}
def EvL(ct:CT)(c:CF)(e:E)(env:o8)(h:AH)(xs:List Str):Prop:=∃n t,ev ct c e env h=.ok (.ref n) (h++t)/\(h++t)[n]? =some (.lst (xs.map .str))/\(↥h<=n∨t=[])
theorem R6{b:E}{xs:List Str}(A:EvL ct c a env h xs)(B:∀t,EvL ct c b env (h++t) ys)(hl:↥xs+↥ys<=100000):EvL ct c (.bin .add a b) env h (xs++ys):=by
 obtain⟨n,t,a1,a2,_⟩:=A;obtain⟨m,u,b1,b2,_⟩:=B t;refine⟨↥(h++t++u),t++u++[.lst ((xs++ys).map .str)],?_,?_,.inl (by simp[aq,Nat.add_assoc])⟩
 · simp![a1,b1,op2,a4b (b6 (g:=u) a2) b2 (by rw[aa,aa];exact hl)];simp
 · rw[show h++(t++u++[Cell.lst ((xs++ys).map .str)])=h++t++u++[.lst ((xs++ys).map .str)] by simp];exact b7
theorem a0N{es:Es}{xs:List Str}(e:evs ct c es env h=.ok (xs.map .str) h)(hl:↥xs<=1000):EvL ct c (.lst es) env h xs:=by refine⟨↥h,[.lst (xs.map .str)],?_,b7,.inl (aj _)⟩;rw[b3c,e,b9,ay (by rw[aa];show _<=16777216;ac_nf)];rfl
theorem W7{xs:List Str}(e:ev ct c a env h=.ok (.tup (xs.map .str)) h):EvL ct c (.bi .list (.cons a .nil)) env h xs:=by refine⟨↥h,[.lst (xs.map .str)],?_,b7,.inl (aj _)⟩;simp![e,b1V]
theorem c0Q{i:Nat}{xs:List Str}(e:env[i]? =some (~~~n))(hn:h[n]? =some (.lst (xs.map .str))):EvL ct c (.v i) env h xs:=by refine⟨n,[],?_,by rw[aZ];exact hn,.inr rfl⟩;rw[aZ];simp![e]
theorem a3P{xs:List Str}(A:EvL ct c e env h xs)(jo:JoinOk sep xs=true):∃t,ev ct c (.mt .join (.k (.str sep)) (.cons e .nil)) env h=.ok (.str (Txt.join sep xs)) (h++t):=by obtain⟨n,t,a1,a2,_⟩:=A;refine⟨t,?_⟩;simp![mtT,a1,b5k a2 jo]
theorem b0T{k:Nat}(hF:F 214=some E2)(hl:↥(T8 r)<=100)(hw:∀w∈T8 r,↥w<=20):b5 ct F (k+1) 214 [ruD r] h=.ok (.str (ln (T8 r))) h:=by
 have i0:∀h,ixD h (ruD r) (.int 0)=.ok (.str r.t) h:=λh=>ix_tup (i:=0) rfl;have i1:∀h,ixD h (ruD r) (.int 1)=.ok (.str r.f) h:=λh=>ix_tup (i:=1) rfl;have i2:∀h,ixD h (ruD r) (.int 2)=.ok (.tup (r.b.map .str)) h:=λh=>ix_tup (i:=2) rfl;have i3:∀h,ixD h (ruD r) (.int 3)=.ok (.tup (r.c.map .str)) h:=λh=>ix_tup (i:=3) rfl;have i4:∀h,ixD h (ruD r) (.int 4)=.ok (.tup (r.a.map .str)) h:=λh=>ix_tup (i:=4) rfl;have i5:∀h,ixD h (ruD r) (.int 5)=.ok (.tup (r.o.map .str)) h:=λh=>ix_tup (i:=5) rfl;have ll:↥r.b+↥r.c+↥r.a+↥r.o<=100:=by unfold T8 at hl;simp only[length_cons,aq] at hl;ac_nf
 rw[i6 hF rfl];simp only[E2];show gcR 1 h (a2F (exs ct (b5 ct F k) _ [some (ruD r),none] h))=_;have A:=R6 (R6 (R6 (a0N (ct:=ct) (c:=b5 ct F k) (es:=(.s "rule">=>.ix (.v 0) (.i 0)>=>.o (.ix (.v 0) (.i 1)))) (env:=[some (ruD r),none]) (h:=h) (xs:=["rule",r.t,r.f]) (by simp![i0,i1]) (by show 3<=1000;decide)) (λt=>W7 (a:=(.ix (.v 0) (.i 2))) (xs:=r.b) (by simp![i2])) (by simp only[length_cons,length_nil];ac_nf)) (λt=>a0N (es:=(.o (.s "/"))) (xs:=["/"]) (by simp![]) ∅) (by simp only[aq,length_cons,length_nil];ac_nf)) (λt=>W7 (a:=(.ix (.v 0) (.i 3))) (xs:=r.c) (by simp![i3])) (by simp only[aq,length_cons,length_nil];ac_nf);obtain⟨n,t,a1,a2,_⟩:=A;rw[seq (bF:=[some (ruD r),~~~n]) (h':=h++t) (by rw[a0v,a1,b9];rfl)];have B:=R6 (R6 (R6 (R6 (c0Q (ct:=ct) (c:=b5 ct F k) (i:=1) (env:=[some (ruD r),~~~n]) rfl a2) (λt=>a0N (es:=(.o (.s "/"))) (xs:=["/"]) (by simp![]) ∅) (by simp only[aq,length_cons,length_nil];ac_nf)) (λt=>W7 (a:=(.ix (.v 0) (.i 4))) (xs:=r.a) (by simp![i4])) (by simp only[aq,length_cons,length_nil];ac_nf)) (λt=>a0N (es:=(.o (.s ">"))) (xs:=[">"]) (by simp![]) ∅) (by simp only[aq,length_cons,length_nil];ac_nf)) (λt=>W7 (a:=(.ix (.v 0) (.i 5))) (xs:=r.o) (by simp![i5])) (by simp only[aq,length_cons,length_nil];ac_nf);have e:[("rule":Str),r.t,r.f]++r.b++[("/":Str)]++r.c++[("/":Str)]++r.a++[(">":Str)]++r.o=T8 r:=by unfold T8;simp
 rw[e] at B;obtain⟨u,b1⟩:=a3P B (b6v hw hl);rw[D0,a2m,b1,b9,b9];rw[aA];exact gc1 rfl
end
theorem a1n(n:Nat):cd (num (n:Int))=(Nat.toDigits 10 n).map Char.toNat:=W.KIN.signs_num n
theorem b2p(n:Nat):n≠0->((Nat.toDigits 10 n).map Char.toNat).head?≠some 48:=by
 induction n using Nat.strongRecOn with
 |_ n ih=>
  intro h0
  by_cases h:n<10
  · rw[Nat.toDigits_of_lt_base h,map_cons,List.head?_cons,Nat.toNat_digitChar_of_lt_ten h];intro e;have:=ax e;ac_nf
  · rw[Nat.toDigits_of_base_le ∅ nofun,ao];have hn:=ih (n/10) nofun nofun;cases hd:Nat.toDigits 10 (n/10) with
    |nil=>exact absurd hd Nat.toDigits_ne_nil
    |cons a r=>rw[hd] at hn;exact hn
theorem a5H(n:Nat):(cd (num (n:Int))).all U2=true:=by rw[a1n];refine bm.mpr λc hc=>?_;obtain⟨d,hd,rfl⟩:=al.mp hc;have:=Nat.isDigit_of_mem_toDigits ∅ ∅ hd;rw[a5I];unfold Char.isDigit at this;simp only[ae,bv] at this;exact⟨this.1,this.2⟩
theorem a3A(h:n<=99999):W2 (num (n:Int))=some (n:Int):=by
 have l5:↥(num (n:Int))<=5:=by rw[←t9,a1n,aa];exact(Nat.length_toDigits_le_iff ∅ ∅).mpr nofun
 have l1:↥(num (n:Int))≠0:=by rw[←t9,a1n,aa];exact λe=>Nat.toDigits_ne_nil (length_eq_zero_iff.mp e)
 unfold W2;rw[ay (a5H n),az,a1n,W.KIN.val_back];rintro(e|e|⟨e1,e2⟩)
 · exact l1 ((a9S _).mp e)
 · ac_nf
 · rw[a1n] at e1
   by_cases h0:n=0
   · rw[h0] at e2;exact absurd e2 ∅
   · exact b2p n h0 e1
theorem a5T(m:Nat):cd (num (Int.negSucc m))=45::cd (num ((m+1:Nat):Int)):=by rw[a1n];show(Str.ofString ("-"++Nat.repr (m+1))).cps.toList=_;rw[Str.ofString_eq_toList];simp[Nat.toList_repr]
theorem K1{i:Int}(h: -99999<=i/\i<=99999):a0S (num i)=some i:=by
 unfold a0S;cases i with
 |ofNat n=>
  have h2:(n:Int)<=99999:=h.2;rw[az]
  · exact a3A nofun
  · intro e;cases hc:cd (num (Int.ofNat n)) with
    |nil=>rw[hc] at e;cases e
    |cons c r=>
     rw[hc] at e;have e:=ax e;have:=a5H n;rw[show cd (num (n:Int))=c::r from hc,all_cons,e] at this;rw[show U2 45=false from by decide+kernel] at this;exact Bool.noConfusion this
 |negSucc m=>
  have h1:=h.1;rw[Int.negSucc_eq] at h1;have t:tl (num (Int.negSucc m))=num ((m+1:Nat):Int):=T6 (by rw[a2C,a5T];rfl);rw[ay (by rw[a5T];rfl),t,a3A nofun];simp only;rw[az nofun];congr 1
structure WOk(w:Str):Prop where
 l:↥w<=20
 p:↥w≠0
 c:∀c∈cd w,c≠32/\c≠10
theorem WOk.num{i:Int}(h: -99999<=i/\i<=99999):WOk (num i):=by
 have fg:∀n:Nat,∀c∈cd (EV.num (n:Int)),c≠32/\c≠10:=λn c hc=>by have:=(a5I c).mp (bm.mp (a5H n) c hc);ac_nf
 refine⟨by have:=a2T h;ac_nf,?_,?_⟩
 · rw[←t9];cases i with
   |ofNat n=>
    show(cd (EV.num (n:Int))).length≠0;rw[a1n,aa];exact λe=>Nat.toDigits_ne_nil (length_eq_zero_iff.mp e)
   |negSucc m=>rw[a5T];exact Nat.succ_ne_zero _
 · cases i with
   |ofNat n=>exact fg n
   |negSucc m=>
    rw[a5T];intro c hc;rcases aF.mp hc with rfl|hc
    · decide
    · exact fg _ c hc
theorem b4n{c:Nat}(h:Q3 c=true):c≠32/\c≠10:=by
 unfold Q3 at h;have h:=aw h;have:∀c∈cd a1v,c≠32/\c≠10:=by decide+kernel
 exact this c h
theorem WOk.name{w:Str}(h:c9 w=true):WOk w:=by unfold c9 at h;simp only[ae,bv] at h;exact⟨by ac_nf,by ac_nf,λc hc=>b4n (bm.mp h.2 c hc)⟩
theorem WOk.at{w:Str}(h:c9 w=true):WOk (("@":Str)++w):=by
 have n:=a0f h;have k:=WOk.name h;refine⟨by rw[n8,show(Str.ofString "@").length=1 from rfl];ac_nf,by rw[n8,show(Str.ofString "@").length=1 from rfl];ac_nf,λc hc=>?_⟩;rw[D3] at hc;rcases aL.mp hc with hc|hc
 · have:c=64:=by simpa [show cd (Str.ofString "@")=[64] from by decide+kernel] using hc
   ac_nf
 · exact k.c c hc
structure Row(ws:List Str):Prop where
 n:ws≠[]
 l:↥ws<=40
 w:∀w∈ws,WOk w
instance (w:Str):Decidable (↥w<=20/\↥w≠0/\∀c∈cd w,c≠32/\c≠10):=inferInstance
theorem WOk.k{w:Str}(h:↥w<=20/\↥w≠0/\∀c∈cd w,c≠32/\c≠10):WOk w:=⟨h.1,h.2.1,h.2.2⟩
theorem Row.nil:∀w∈([]:List Str),WOk w:=λ_ h=>nomatch h
theorem j0{a:Str}{r:List Str}(h:WOk a)(hr:∀w∈r,WOk w):∀w∈a::r,WOk w:=λw hw=>by
 rcases aF.mp hw with rfl|hw
 · exact h
 · exact hr w hw
theorem a7H{a r:List Str}(h:∀w∈a,WOk w)(hr:∀w∈r,WOk w):∀w∈a++r,WOk w:=λw hw=>by
 rcases aL.mp hw with hw|hw
 · exact h w hw
 · exact hr w hw
section
variable{H:HL}(K:HLok H)
include K
theorem K6{n:Str}(h:n∈H.sh.map (·.1)):c9 n=true:=by obtain⟨p,hp,rfl⟩:=al.mp h;exact(K.sh.ok p hp).1
theorem a8r{s:Str}(h:a0Q s):WOk s:=by rcases h with rfl|rfl<;>exact WOk.k (by decide+kernel)
theorem a5t{m:Mk}(h:m∈H.mr):m.n∈H.sh.map (·.1):=K.mr.subset (al.mpr ⟨m,h,rfl⟩)
theorem a1L(h:f∈H.fe.map (·.1)):c9 f=true:=K.fen.ok f h
theorem b2f{i:Str}(h:T7 H.sh H.cs i):WOk i:=by
 rcases h with h|⟨c,hc,rfl⟩
 · exact WOk.name (K6 K h)
 · exact WOk.at (K.cso c hc).nm
theorem a4v{p:Str×Nat}(h:p∈H.sh):Row (U8 p):=by have k:=K.sh.ok p h;exact⟨cons_ne_nil _ _,fS rfl,j0 (WOk.k (by decide+kernel)) (j0 (WOk.name k.1) (j0 (WOk.num (by have:=k.2;ac_nf)) Row.nil))⟩
theorem a6t{m:Mk}(h:m∈H.mr):Row (V7 m):=by obtain⟨k1,k2,k3⟩:=K.mko m h;exact⟨cons_ne_nil _ _,fS rfl,j0 (WOk.k (by decide+kernel)) (j0 (WOk.name (K6 K (a5t K h))) (j0 (a8r K k1) (j0 (WOk.num k2.1) (j0 (WOk.num k2.2) (j0 (WOk.num k3.1) (j0 (WOk.num k3.2) Row.nil))))))⟩
theorem a4w{p:Pt}(h:p∈H.pt):Row (Z6 p):=by obtain⟨k1,k2,k3⟩:=K.pto p h;exact⟨cons_ne_nil _ _,fS rfl,j0 (WOk.k (by decide+kernel)) (j0 (WOk.name (K6 K k1)) (j0 (a8r K k2) (j0 (WOk.num k3.1) (j0 (WOk.num k3.2) Row.nil))))⟩
theorem a0Z{l:Lt}(h:l∈H.ls):Row (N9 l):=by
 have k:=K.lso l h;have kl:=k.few;refine⟨cons_ne_nil _ _,by unfold N9;simp only[length_cons];ac_nf,j0 (WOk.k (by decide+kernel)) (j0 (WOk.name k.nm) (j0 ?_ (j0 ?_ λw hw=>WOk.name (K6 K (k.fs w hw)))))⟩
 · rcases k.js with e|e|e|e<;>rw[e]<;>exact WOk.k (by decide+kernel)
 · rcases k.ws with e|e|e<;>rw[e]<;>exact WOk.k (by decide+kernel)
theorem a5F{n:Str}(h:n∈H.gp):c9 n=true:=by obtain⟨l,hl,rfl⟩:=al.mp (K.gp.subset h);exact(K.lso l hl).nm
theorem a8x{n:Str}(h:n∈H.gp):Row (a6f n):=⟨cons_ne_nil _ _,fS rfl,j0 (WOk.k (by decide+kernel)) (j0 (WOk.name (a5F K h)) Row.nil)⟩
theorem a1Y{c:Cs}(h:c∈H.cs):Row (U9 c):=by have k:=K.cso c h;have kl:=k.few;exact⟨cons_ne_nil _ _,by unfold U9;simp only[length_cons];ac_nf,j0 (WOk.k (by decide+kernel)) (j0 (WOk.name k.nm) λw hw=>WOk.name (K6 K (k.fs w hw)))⟩
theorem a6u{p:Str×Bool}(h:p∈H.fe):Row (a2p p):=by refine⟨cons_ne_nil _ _,fS rfl,j0 (WOk.k (by decide+kernel)) (j0 (WOk.name (a1L K (al.mpr ⟨p,h,rfl⟩))) (j0 ?_ Row.nil))⟩;cases p.2<;>exact WOk.k (by decide+kernel)
theorem a3t(h:r∈H.ru):Row (T8 r):=by have k:=K.ruo r h;have l1:=k.b3;have l2:=k.c4;have l3:=k.a3;have l4:=k.o3;refine⟨cons_ne_nil _ _,by unfold T8;simp only[length_cons,aq];ac_nf,j0 (WOk.k (by decide+kernel)) (j0 (WOk.name k.nm) (j0 (WOk.name (a1L K k.fe)) (a7H (λw hw=>b2f K (k.b w hw)) (j0 (WOk.k (by decide+kernel)) (a7H (λw hw=>b2f K (k.c w hw)) (j0 (WOk.k (by decide+kernel)) (a7H (λw hw=>b2f K (k.a w hw)) (j0 (WOk.k (by decide+kernel)) λw hw=>WOk.name (K6 K (k.o w hw))))))))))⟩
theorem a8t:∀ws∈M8 H,Row ws:=λws h=>by
 unfold M8 at h;simp only[aL,al] at h;rcases h with((((((⟨x,h,rfl⟩|⟨x,h,rfl⟩)|⟨x,h,rfl⟩)|⟨x,h,rfl⟩)|⟨x,h,rfl⟩)|⟨x,h,rfl⟩)|⟨x,h,rfl⟩)|⟨x,h,rfl⟩
 · exact a4v K h
 · exact a6t K h
 · exact a4w K h
 · exact a0Z K h
 · exact a8x K h
 · exact a1Y K h
 · exact a6u K h
 · exact a3t K h
theorem a8q{f:α->β}{l:List α}{s:List β}(h:(l.map f).Sublist s):↥l<=↥s:=by have:=h.length_le;rw[aa] at this;exact this
theorem a0a:↥(M8 H)<=300/\M8 H≠[]:=by
 have a:=K.sh.hi;have a0:=K.sh.lo;have b:=a8q K K.mr;rw[aa] at b;have c:=K.ptl;have d:=K.ls;have e:=K.gp.length_le;rw[aa] at e;have f:=K.cs;have g:=K.fe;have i:=K.rul;have l:↥(M8 H)=↥H.sh+↥H.mr+↥H.pt+↥H.ls+↥H.gp+↥H.cs+↥H.fe+↥H.ru:=by unfold M8;simp only[aq,aa]
 exact⟨by ac_nf,λz=>by rw[z] at l;simp only[length_nil] at l;ac_nf⟩
end
theorem b0W(r:Row ws):N7 (ln ws)=ws:=by unfold N7;rw[show Txt.split (ln ws) " "=ws from a3k (c:=32) r.n (λp hp hc=>((r.w p hp).c 32 hc).1 rfl) (a7k ws)];exact List.filter_eq_self.mpr λw hw=>ba λe=>(r.w w hw).p ((a9S w).mp e)
theorem b2a{c x:Nat}:∀{ps:List (List Nat)},x∈jn c ps->x=c∨∃p∈ps,x∈p
 |[],h=>nomatch h
 |[p],h=>.inr ⟨p,.head _,h⟩
 |p::q::r,h=>by
  rcases aL.mp (show x∈p++c::jn c (q::r) from h) with h|h
  · exact .inr ⟨p,.head _,h⟩
  · rcases aF.mp h with h|h
    · exact .inl h
    · rcases b2a h with h|⟨y,hy,h⟩
      · exact .inl h
      · exact .inr ⟨y,.tail _ hy,h⟩
theorem b0V(r:Row ws):10∉cd (ln ws):=λh=>by
 rw[a7k] at h;rcases b2a h with h|⟨p,hp,h⟩
 · exact absurd h ∅
 · obtain⟨w,hw,rfl⟩:=al.mp hp;exact((r.w w hw).c 10 h).2 rfl
theorem a8w(r:Row ws):↥(ln ws)<=840:=by have:=b1U (ws:=ws) (b:=20) λw hw=>(r.w w hw).l;have l:=r.l;have:↥ws*21<=40*21:=Nat.mul_le_mul_right 21 l;ac_nf
def a8W(H:HL):Str:=Txt.join "\n" ((M8 H).map ln)
theorem a9q{H:HL}(K:HLok H):Txt.split (a8W H) "\n"=(M8 H).map ln:=by
 refine a3k (c:=10) (λe=>(a0a K).2 (List.map_eq_nil_iff.mp e)) (λp hp=>?_) ?_
 · obtain⟨ws,hw,rfl⟩:=al.mp hp;exact b0V (a8t K ws hw)
 · show cd (glued "\n" _)=_;rw[gK];exact a2Z 10 _
theorem a6s{H:HL}(K:HLok H):(((M8 H).map ln).map (·.length)).sum<=300*840:=by
 have:=a5a (ws:=(M8 H).map ln) (b:=840) λw hw=>by obtain⟨ws,hq,rfl⟩:=al.mp hw;exact a8w (a8t K ws hq)
 rw[aa] at this;have l:=(a0a K).1;exact aR this (Nat.mul_le_mul_right _ l)
theorem b3P{H:HL}(K:HLok H):↥(a8W H)<=1000000:=by have:=a6s K;have l:=(a0a K).1;show(glued "\n" _).length<=_;rw[gK];refine aR (StrLaws.join_length_le _ _) ?_;rw[aa,show(Str.ofString "\n").length=1 from rfl];ac_nf
theorem b6K{H:HL}(K:HLok H):JoinOk "\n" ((M8 H).map ln)=true:=by have:=a6s K;have l:=(a0a K).1;exact a5z (by rw[aa,show(Str.ofString "\n").length=1 from rfl];ac_nf)
theorem k32:cd (Str.ofString " ")=[32]:=rfl
theorem b4c(n w:Str):(("shape ":Str)++n++(" ":Str))++w=ln ["shape",n,w]:=a4B (by simp only[D3,k32,show cd (Str.ofString "shape ")=cd (Str.ofString "shape")++[32] from by decide+kernel,map_cons,map_nil,jn,aA,cons_append,nil_append])
theorem b9y(n:Str):("gap ":Str)++n=ln ["gap",n]:=a4B (by simp only[D3,show cd (Str.ofString "gap ")=cd (Str.ofString "gap")++[32] from by decide+kernel,map_cons,map_nil,jn,aA,cons_append,nil_append])
theorem b6R(n w:Str):(("feature ":Str)++n++(" ":Str))++w=ln ["feature",n,w]:=a4B (by simp only[D3,k32,show cd (Str.ofString "feature ")=cd (Str.ofString "feature")++[32] from by decide+kernel,map_cons,map_nil,jn,aA,cons_append,nil_append])
theorem b4d(n s a b:Str):((((("point ":Str)++n)++(" ":Str))++s)++(" ":Str))++ln [a,b]=ln ["point",n,s,a,b]:=a4B (by simp only[D3,k32,a7k,show cd (Str.ofString "point ")=cd (Str.ofString "point")++[32] from by decide+kernel,map_cons,map_nil,jn,aA,cons_append,nil_append])
theorem b6Q(n s a b c d:Str):((((("mark ":Str)++n)++(" ":Str))++s)++(" ":Str))++((ln [a,b]++(" ":Str))++ln [c,d])=ln ["mark",n,s,a,b,c,d]:=a4B (by simp only[D3,k32,a7k,show cd (Str.ofString "mark ")=cd (Str.ofString "mark")++[32] from by decide+kernel,map_cons,map_nil,jn,aA,cons_append,nil_append])
def TS(T:D)(h0:AH)(env:o8)(h:AH)(xs:List Str):Prop:=∃n e1 e3 e4 e5 e6 e7 e8 e9,env=[some T,e1,~~~n,e3,e4,e5,e6,e7,e8,e9]/\Pf h0 h/\↥h0<=n/\h[n]? =some (.lst (xs.map .str))
variable{body:Ss}
section
variable{ct:CT}{F:Nat->Option Fn}
theorem a0w{s:Nat}{fr:List Nat}{l:List α}(rp:α->D)(f:α->Str)(cH:α->o8)(ha:ev ct c a env h=.ok (.ref s) h)(hs:h[s]? =some (.lst (l.map rp)))(hl:↥l<=1000)
 (hx:∀x∈l,F7 p (rp x) (F0 nb fr env)=some (cH x)/\∀h,∃t,ev ct c e (cH x) h=.ok (.str (f x)) (h++t)):EvL ct c (.comp p (.seq a) nb fr .yes e) env h (l.map f):=by
 obtain⟨t,e⟩:=a7f rp f cH ha hs hl hx;exact⟨↥(h++t),t++[.lst ((l.map f).map .str)],by rw[e,aA],by rw[←aA];exact b7,.inl ⋯⟩
theorem b2Z{b:E}{xs:List Str}{i:Nat}(e:env[i]? =some (~~~n))(hn:h[n]? =some (.lst (xs.map .str)))(B:EvL ct c b env h ys)(hl:↥xs+↥ys<=1000):EvL ct c (.bin .add (.v i) b) env h (xs++ys):=by obtain⟨m,u,b1,b2,_⟩:=B;refine⟨↥(h++u),u++[.lst (xs.map .str++ys.map .str)],?_,by rw[←aA,b7,ao],.inl ⋯⟩;simp![e,b1,op2,a4b (b6 (g:=u) hn) b2 (by rw[aa,aa];ac_nf)];simp
theorem TS.pf{T:D}{xs:List Str}(S:TS T h0 env h xs):Pf h0 h:=by obtain⟨n,e1,e3,e4,e5,e6,e7,e8,e9,rfl,p,_⟩:=S;exact p
theorem a3g{T:D}{Tl:List D}{xs:List Str}{i s:Nat}(S:TS T h0 env h xs)(hT:T=.tup Tl)(hi:Tl[i]? = ~~~s):ev ct c (.ix (.v 0) (.k ⇑i)) env h=.ok (.ref s) h:=by obtain⟨n,e1,e3,e4,e5,e6,e7,e8,e9,rfl,_⟩:=S;subst hT;simp![ix_tup (h:=h) hi]
theorem a4X{T:D}{xs:List Str}{C:E}(S:TS T h0 env h xs)(hC:EvL ct c C env h ys)(hl:↥xs+↥ys<=1000):∃bF h',ex ct c (.set 2 (.bin .add (.v 2) C)) env h=.ok (.nx bF) h'/\TS T h0 bF h' (xs++ys):=by obtain⟨n,e1,e3,e4,e5,e6,e7,e8,e9,rfl,p,l,g⟩:=S;obtain⟨m,u,c1,c2,_⟩:=hC;refine⟨[some T,e1,some (.ref ↥(h++u)),e3,e4,e5,e6,e7,e8,e9],h++u++[.lst (xs.map .str++ys.map .str)],?_,_,e1,e3,e4,e5,e6,e7,e8,e9,rfl,(p.app _).app _,by have:=p.len;rw[aq];ac_nf,by rw[ao];exact b7⟩;simp![c1,op2,a4b (b6 (g:=u) g) c2 (by rw[aa,aa];ac_nf)]
theorem b0A{T:D}{xs:List Str}{s:Nat}{l:List α}(rp:α->D)(f:α->Str)(S:TS T h0 env h xs)(ha:ev ct c a env h=.ok (.ref s) h)(hs:h0[s]? =some (.lst (l.map rp)))
 (hb:∀x∈l,∀env h xs,TS T h0 env h xs->↥xs<=1000->∃bS bF h',F7 p (rp x) env=some bS/\exs ct c body bS h=.ok (.nx bF) h'/\TS T h0 bF h' (xs++[f x])) (hl:↥xs+↥l<=1000):∃bF h',ex ct c (.for p (.seq a) body) env h=.ok (.nx bF) h'/\TS T h0 bF h' (xs++l.map f):=by
 have S0:=S;obtain⟨n,e1,e3,e4,e5,e6,e7,e8,e9,rfl,pf,_⟩:=S;obtain⟨bF,h',q1,q2⟩:=B7 (g:=[(s,.lst (l.map rp))]) (p:=p) (body:=exs ct c body) (λj env h=>TS T h0 env h (xs++(l.take j).map f)) (λj env h S=>by
  obtain⟨n,e1,e3,e4,e5,e6,e7,e8,e9,rfl,pf,_⟩:=S;simp[gOk,pf.at hs]) (l.map rp) 0 _ h (λj x env h hx hP=>by
  have hj:j<↥l:=by simpa using(ac.mp hx).1
  rw[ak,ai hj] at hx;obtain rfl:rp l[j]=x:=ax hx;rw[aB] at hP⊢;obtain⟨bS,bF,h',b1,b2,b3⟩:=hb l[j] (br hj) env h _ hP (by rw[aq,aa,aM];ac_nf);refine⟨bS,bF,h',b1,b2,?_⟩;rw[List.take_add_one,ai hj,ao,←aA];exact b3) (by rw[List.take_zero,map_nil,aZ];exact S0)
 refine⟨bF,h',?_,?_⟩
 · rw[a3N,R7,ha,b9];simp only[L3,pf.at hs];rw[b9];exact q1
 · rw[aa,aB,bf] at q2;exact q2
theorem b0B{T:D}{xs:List Str}{t:AH}(S:TS T h0 env h xs)(he:ev ct c e env h=.ok (.str z) (h++t))(hl:↥xs<=1000):∃h',ex ct c (.ex (.mt .append (.v 2) (.cons e .nil))) env h=.ok (.nx env) h'/\TS T h0 env h' (xs++[z]):=by obtain⟨n,e1,e3,e4,e5,e6,e7,e8,e9,rfl,p,l,g⟩:=S;refine⟨(h++t).set n (.lst (xs.map .str++[.str z])),?_,n,e1,e3,e4,e5,e6,e7,e8,e9,rfl,(p.app _).set l,l,by rw[z9 (b6 g),ao];rfl⟩;simp![C2 g,he,K0 (b6 (g:=t) g) (by rw[aa];ac_nf)]
theorem a9b(A:EvL ct c e env h ws)(r:Row ws):∃t,ev ct c (.mt .join (.s " ") (.cons e .nil)) env h=.ok (.str (ln ws)) (h++t):=a3P A (b6v (λw hw=>(r.w w hw).l) (by have:=r.l;ac_nf))
theorem a3C:↥(Str.ofString "shape ")=6:=rfl
theorem a1B:↥(Str.ofString "mark ")=5:=rfl
theorem a0d:↥(Str.ofString "point ")=6:=rfl
theorem b7Q:↥(Str.ofString "gap ")=4:=rfl
theorem a5r:↥(Str.ofString "feature ")=8:=rfl
theorem a3x{p:Int×Int}(hp:a0E p):↥(ln (M6 p))<=42:=b1U (ws:=M6 p) (b:=20) (j0 (WOk.num hp.1) (j0 (WOk.num hp.2) Row.nil) · · |>.l)
variable{H:HL}(K:HLok H)
include K
theorem b5O{p:Str×Nat}(hp:p∈H.sh):ev ct c b5q [some (.str p.1),some (.int (p.2:Int))] h=.ok (.str (ln (U8 p))) h:=by have k:=K.sh.ok p hp;have l1:=a0f k.1;have l2:=a2T (i:=(p.2:Int)) (by have:=k.2;ac_nf);unfold b5q;simp![op2,u0 (h:=h) (x:="shape ") (y:=p.1) (by rw[a3C];ac_nf),u0 (h:=h) (x:=("shape ":Str)++p.1) (y:=" ") (by rw[n8,a3C,F9];ac_nf),a7x (i:=(p.2:Int)) (h:=h) (by have:=k.2;ac_nf),u0 (h:=h) (x:=("shape ":Str)++p.1++(" ":Str)) (y:=num p.2) (by rw[n8,n8,a3C,F9];ac_nf),b4c];rfl
theorem c0Z{n:Str}(hn:n∈H.gp):ev ct c (.bin .add (.s "gap ") (.v 0)) [some (.str n)] h=.ok (.str (ln (a6f n))) h:=by have l1:=a0f (a5F K hn);simp![op2,u0 (h:=h) (x:="gap ") (y:=n) (by rw[b7Q];ac_nf),b9y];rfl
theorem b8F{p:Str×Bool}(hp:p∈H.fe):∃t,ev ct c b8n [some (.str p.1),some (.bl p.2)] h=.ok (.str (ln (a2p p))) (h++t):=by
 have l1:=a0f (a1L K (al.mpr ⟨p,hp,rfl⟩));have lo:↥(a9L p.2)<=20:=by cases p.2<;>decide
 have ib:biD .int (h++[.lst [.str "off",.str "on"]]) [.bl p.2]=.ok ⇑(if p.2 then 1 else 0) (h++[.lst [.str "off",.str "on"]]):=by cases p.2<;>rfl
 have ix:ixD (h++[.lst [.str "off",.str "on"]]) (.ref ↥h) ⇑(if p.2 then 1 else 0)=.ok (.str (a9L p.2)) (h++[.lst [.str "off",.str "on"]]):=o0 b7 (by cases p.2<;>rfl);refine⟨[.lst [.str "off",.str "on"]],?_⟩;unfold b8n;simp![op2,u0 (h:=h) (x:="feature ") (y:=p.1) (by rw[a5r];ac_nf),u0 (h:=h) (x:=("feature ":Str)++p.1) (y:=" ") (by rw[n8,a5r,F9];ac_nf),v8,ib,ix,u0 (h:=h++[.lst [.str "off",.str "on"]]) (x:=("feature ":Str)++p.1++(" ":Str)) (y:=a9L p.2) (by rw[n8,n8,a5r,F9];ac_nf),b6R];rfl
theorem b5R{x:Cs}(hx:x∈H.cs):∃t,ev ct c (.mt .join (.s " ") (.cons b8m .nil)) [some (.str x.n),some (.tup (x.fs.map .str))] h=.ok (.str (ln (U9 x))) (h++t):=by have r:=a1Y K hx;have l:=r.l;have A:=R6 (a0N (ct:=ct) (c:=c) (es:=(.s "class">=>.o (.v 0))) (env:=[some (.str x.n),some (.tup (x.fs.map .str))]) (h:=h) (xs:=["class",x.n]) (by simp![]) (by show 2<=1000;decide)) (λt=>W7 (a:=.v 1) (xs:=x.fs) (by simp![])) (by unfold U9 at l;simp only[length_cons,length_nil] at l⊢;ac_nf);exact a9b (e:=b8m) A r
theorem b3z{T:D}{xs:List Str}{x:Lt}(hx:x∈H.ls)(S:TS T h0 env h xs)(hl:↥xs<=1000):∃bS bF h',F7 (htP 1 7 8 9) (ltD x) env=some bS/\exs ct c b5r bS h=.ok (.nx bF) h'/\TS T h0 bF h' (xs++[ln (N9 x)]):=by have r:=a0Z K hx;have l:=r.l;obtain⟨n,e1,e3,e4,e5,e6,e7,e8,e9,rfl,p,ln',g⟩:=S;have S1:TS T h0 [some T,some (.str x.n),~~~n,e3,e4,e5,e6,some (.str x.j),some (.str x.w),some (.tup (x.fs.map .str))] h xs:=⟨n,_,_,_,_,_,_,_,_,rfl,p,ln',g⟩;have A:=R6 (a0N (ct:=ct) (c:=c) (es:=(.s "letter">=>.v 1>=>.v 7>=>.o (.v 8))) (env:=[some T,some (.str x.n),~~~n,e3,e4,e5,e6,some (.str x.j),some (.str x.w),some (.tup (x.fs.map .str))]) (h:=h) (xs:=["letter",x.n,x.j,x.w]) (by simp![]) (by show 4<=1000;decide)) (λt=>W7 (a:=.v 9) (xs:=x.fs) (by simp![])) (by unfold N9 at l;simp only[length_cons,length_nil] at l⊢;ac_nf);obtain⟨t,q⟩:=a9b (e:=c0A) A r;obtain⟨h',q1,q2⟩:=b0B S1 q hl;refine⟨_,_,h',rfl,?_,q2⟩;unfold b5r;show exs ct c _ [some T,some (.str x.n),~~~n,e3,e4,e5,e6,some (.str x.j),some (.str x.w),some (.tup (x.fs.map .str))] h=_;rw[seq q1,a2W]
variable(dU:F 213=some E4)
include dU
theorem b5P{k:Nat}{p:Pt}(hp:p∈H.pt):ev ct (b5 ct F (k+1)) b8o [some (.str p.n),some (.str p.s),some (spD p.a)] h=.ok (.str (ln (Z6 p))) h:=by obtain⟨k1,k2,k3⟩:=K.pto p hp;have l1:=a0f (K6 K k1);have l2:=(a8r K k2).l;have l3:=a3x k3;unfold b8o;simp![op2,a3w (k:=k) (h:=h) dU k3,u0 (h:=h) (x:="point ") (y:=p.n) (by rw[a0d];ac_nf),u0 (h:=h) (x:=("point ":Str)++p.n) (y:=" ") (by rw[n8,a0d,F9];ac_nf),u0 (h:=h) (x:=("point ":Str)++p.n++(" ":Str)) (y:=p.s) (by rw[n8,n8,a0d,F9];ac_nf),u0 (h:=h) (x:=("point ":Str)++p.n++(" ":Str)++p.s) (y:=" ") (by rw[n8,n8,n8,a0d,F9];ac_nf),u0 (h:=h) (x:=("point ":Str)++p.n++(" ":Str)++p.s++(" ":Str)) (y:=ln (M6 p.a)) (by rw[n8,n8,n8,n8,a0d,F9];ac_nf)];unfold M6;rw[b4d];rfl
theorem b8W{k:Nat}{T:D}{xs:List Str}{x:Mk}(hx:x∈H.mr)(S:TS T h0 env h xs)(hl:↥xs<=1000):∃bS bF h',F7 (htP 1 3 4 5) (mkD x) env=some bS/\exs ct (b5 ct F (k+1)) b5s bS h=.ok (.nx bF) h'/\TS T h0 bF h' (xs++[ln (V7 x)]):=by
 obtain⟨k1,k2,k3⟩:=K.mko x hx;have l1:=a0f (K6 K (a5t K hx));have l2:=(a8r K k1).l;have l3:=a3x k2;have l4:=a3x k3;obtain⟨n,e1,e3,e4,e5,e6,e7,e8,e9,rfl,p,ln',g⟩:=S;have S1:TS T h0 [some T,some (.str x.n),~~~n,some (.str x.s),some (spD x.a),some (spD x.b),some (.str ((ln (M6 x.a)++(" ":Str))++ln (M6 x.b))),e7,e8,e9] h xs:=⟨n,_,_,_,_,_,_,_,_,rfl,p,ln',g⟩;have q:ev ct (b5 ct F (k+1)) (.bin .add (.bin .add (.bin .add (.bin .add (.bin .add (.s "mark ") (.v 1)) (.s " ")) (.v 3)) (.s " ")) (.v 6)) [some T,some (.str x.n),~~~n,some (.str x.s),some (spD x.a),some (spD x.b),some (.str ((ln (M6 x.a)++(" ":Str))++ln (M6 x.b))),e7,e8,e9] h=.ok (.str (ln (V7 x))) (h++[]):=by rw[aZ];simp![op2,u0 (h:=h) (x:="mark ") (y:=x.n) (by rw[a1B];ac_nf),u0 (h:=h) (x:=("mark ":Str)++x.n) (y:=" ") (by rw[n8,a1B,F9];ac_nf),u0 (h:=h) (x:=("mark ":Str)++x.n++(" ":Str)) (y:=x.s) (by rw[n8,n8,a1B,F9];ac_nf),u0 (h:=h) (x:=("mark ":Str)++x.n++(" ":Str)++x.s) (y:=" ") (by rw[n8,n8,n8,a1B,F9];ac_nf),u0 (h:=h) (x:=("mark ":Str)++x.n++(" ":Str)++x.s++(" ":Str)) (y:=ln (M6 x.a)++(" ":Str)++ln (M6 x.b)) (by rw[n8,n8,n8,n8,n8,n8,a1B,F9];ac_nf)];unfold M6;rw[b6Q];rfl
 obtain⟨h',q1,q2⟩:=b0B S1 q hl;refine⟨_,_,h',rfl,?_,q2⟩;unfold b5s;rw[seq (bF:=[some T,some (.str x.n),~~~n,some (.str x.s),some (spD x.a),some (spD x.b),some (.str ((ln (M6 x.a)++(" ":Str))++ln (M6 x.b))),e7,e8,e9]) (h':=h) (by simp![op2,a3w (ct:=ct) (k:=k) (h:=h) dU k2,a3w (ct:=ct) (k:=k) (h:=h) dU k3,u0 (h:=h) (x:=ln (M6 x.a)) (y:=" ") (by rw[F9];ac_nf),u0 (h:=h) (x:=ln (M6 x.a)++(" ":Str)) (y:=ln (M6 x.b)) (by rw[n8,F9];ac_nf)]),seq q1,a2W]
theorem b2q{k:Nat}{a c d e f i:Nat}(f214:F 214=some E2)(f215:F 215=some J8)(A:HAt H h a b c d e f i j):b5 ct F (k+2) 215 [.tup [.ref a,.ref b,.ref c,.ref d,.ref e,.ref f,.ref i,.ref j]] h=.ok (.str (a8W H)) h:=by
 rw[i6 f215 rfl];simp only[J8];generalize hT:D.tup [.ref a,.ref b,.ref c,.ref d,.ref e,.ref f,.ref i,.ref j]=T;show gcR 1 h (a2F (exs ct (b5 ct F (k+1)) _ [some T,none,none,none,none,none,none,none,none,none] h))=_;have rl:=(a0a K).1;have ll:↥H.sh+↥H.mr+↥H.pt+↥H.ls+↥H.gp+↥H.cs+↥H.fe+↥H.ru<=300:=by unfold M8 at rl;simp only[aq,aa] at rl;exact rl
 obtain⟨t0,c0⟩:=a7f (ct:=ct) (c:=b5 ct F (k+1)) (p:=(.tp (.nm 0>=>.nm 1>=>.nil))) (a:=(.ix (.v 0) (.i 0))) (e:=b5q) (nb:=2) (fr:=[]) (env:=[some T,none,none,none,none,none,none,none,none,none]) (h:=h) (l:=H.sh) (s:=a) (λp=>.tup [.str p.1,.int (p.2:Int)]) (λp=>ln (U8 p)) (λp=>[some (.str p.1),some (.int (p.2:Int))]) (by rw[←hT];simp![a3f]) A.sh nofun (λx hx=>⟨rfl,λh=>⟨[],by rw[aZ];exact b5O K hx⟩⟩);have S0:TS T h [some T,none,some (.ref ↥(h++t0)),none,none,none,none,none,none,none] (h++t0++[.lst ((H.sh.map λp=>ln (U8 p)).map .str)]) (H.sh.map λp=>ln (U8 p)):=⟨_,_,_,_,_,_,_,_,_,rfl,((Pf.refl h).app _).app _,by simp,b7⟩;rw[seq (bF:=[some T,none,some (.ref ↥(h++t0)),none,none,none,none,none,none,none]) (by unfold c0G;rw[a0v,c0,b9];rfl)];obtain⟨bS,h1,q1,S1⟩:=b0A (l:=H.mr) (a:=(.ix (.v 0) (.i 1))) (p:=htP 1 3 4 5) (body:=b5s) (c:=b5 ct F (k+1)) mkD (λm=>ln (V7 m)) S0 (a3g (i:=1) S0 hT.symm rfl) A.mr (λx hx env h xs S hl=>b8W K dU hx S hl) (by rw[aa];ac_nf);rw[seq q1];obtain⟨env2,h2,q2,S2⟩:=a4X (c:=b5 ct F (k+1)) (C:=c0F) S1 (a0w (a:=(.ix (.v 0) (.i 2))) (l:=H.pt) ptD (λp=>ln (Z6 p)) (λp=>[some (.str p.n),some (.str p.s),some (spD p.a)]) (a3g (i:=2) S1 hT.symm rfl) (S1.pf.at A.pt) nofun (λx hx=>⟨rfl,λh=>⟨[],by rw[aZ];exact b5P K dU hx⟩⟩)) (by simp only[aq,aa];ac_nf);rw[seq q2];obtain⟨env3,h3,q3,S3⟩:=b0A (l:=H.ls) (a:=(.ix (.v 0) (.i 3))) (p:=htP 1 7 8 9) (body:=b5r) (c:=b5 ct F (k+1)) ltD (λm=>ln (N9 m)) S2 (a3g (i:=3) S2 hT.symm rfl) A.ls (λx hx env h xs S hl=>b3z K hx S hl) (by simp only[aq,aa];ac_nf);rw[seq q3];obtain⟨env4,h4,q4,S4⟩:=a4X (ct:=ct) (c:=b5 ct F (k+1)) (C:=c0E) S3 (a0w (a:=(.ix (.v 0) (.i 4))) (l:=H.gp) .str (λp=>ln (a6f p)) (λp=>[some (.str p)]) (a3g (i:=4) S3 hT.symm rfl) (S3.pf.at A.gp) nofun (λx hx=>⟨rfl,λh=>⟨[],by rw[aZ];exact c0Z K hx⟩⟩)) (by simp only[aq,aa];ac_nf);rw[seq q4];obtain⟨env5,h5,q5,S5⟩:=a4X (c:=b5 ct F (k+1)) (C:=c0D) S4 (a0w (a:=(.ix (.v 0) (.i 5))) (l:=H.cs) csD (λp=>ln (U9 p)) (λp=>[some (.str p.n),some (.tup (p.fs.map .str))]) (a3g (i:=5) S4 hT.symm rfl) (S4.pf.at A.cs) nofun (λx hx=>⟨rfl,λh=>b5R K hx⟩)) (by simp only[aq,aa];ac_nf);rw[seq q5];obtain⟨env6,h6,q6,S6⟩:=a4X (c:=b5 ct F (k+1)) (C:=c0C) S5 (a0w (a:=(.ix (.v 0) (.i 6))) (l:=H.fe) feD (λp=>ln (a2p p)) (λp=>[some (.str p.1),some (.bl p.2)]) (a3g (i:=6) S5 hT.symm rfl) (S5.pf.at A.fe) nofun (λx hx=>⟨rfl,λh=>b8F K hx⟩)) (by simp only[aq,aa];ac_nf);rw[seq q6];have B:=a0w (ct:=ct) (c:=b5 ct F (k+1)) (p:=.nm 0) (nb:=1) (fr:=[]) (e:=(.call 214 (.o (.v 0)))) (a:=(.ix (.v 0) (.i 7))) (l:=H.ru) ruD (λp=>ln (T8 p)) (λp=>[some (ruD p)]) (a3g (i:=7) S6 hT.symm rfl) (S6.pf.at A.ru) nofun (λx hx=>⟨rfl,λh=>⟨[],by have r:=a3t K hx;rw[aZ];simp![b0T (k:=k) (h:=h) (r:=x) f214 (by have:=r.l;ac_nf) λw hw=>(r.w w hw).l]⟩⟩)
 obtain⟨n,e1,e3,e4,e5,e6,e7,e8,e9,rfl,p,l,g⟩:=S6;have C:EvL ct (b5 ct F (k+1)) (.bin .add (.v 2) c0B) [some T,e1,~~~n,e3,e4,e5,e6,e7,e8,e9] h6 ((M8 H).map ln):=by
  have e:(M8 H).map ln=((((((((H.sh.map λp=>ln (U8 p))++H.mr.map λp=>ln (V7 p))++H.pt.map λp=>ln (Z6 p))++H.ls.map λp=>ln (N9 p))++H.gp.map λp=>ln (a6f p))++H.cs.map λp=>ln (U9 p))++H.fe.map λp=>ln (a2p p))++H.ru.map λp=>ln (T8 p)):=by unfold M8;simp only[ao,aI];rfl
  rw[e];exact b2Z rfl g B (by simp only[aq,aa];ac_nf)
 obtain⟨t,z⟩:=a3P C (b6K K);rw[D0,a2m,z,b9,b9];exact b5z (p.app t) rfl
end
theorem b6r{s:Str}(h:a0Q s):inD (.str s) [.str "above",.str "below"]=true:=by rcases h with rfl|rfl<;>decide
theorem a0y{a b c:Bool}(ha:a=false)(hb:b=true)(hc:c=false):due a b c=none:=by subst ha hb hc;rfl
theorem nin[DecidableEq α]{a:α}{l:List α}(h:a∉l):decide (a∈l)=false:=bw h
theorem T2(h:c9 z=true):↥z<=100000:=by have:=a0f h;ac_nf
theorem a0M(xs:List Str):(xs.map D.str).all y7=true:=by rw[all_map];exact bm.mpr λ_ _=>rfl
theorem a1F(x:Str):∀xs:List Str,inD (.str x) (xs.map .str)=decide (x∈xs)
 |[]=>rfl
 |y::r=>by
  have ih:=a1F x r;unfold inD at ih⊢;rw[map_cons,any_cons,ih];show(decide (y=x)||decide (x∈r))=_
  by_cases e:y=x
  · subst e;simp
  · rw[bw e,Bool.false_or];exact decide_eq_decide.mpr ⟨λz=>.tail _ z,λz=>(aF.mp z).resolve_left λq=>e q.symm⟩
section
variable{ct:CT}{F:Nat->Option Fn}(W:PF F)
include W
theorem b3E{k f:Nat}{d9:List D}{r:R D}(hw:h[w]? =some (.lst (.str x::d9)))(hr:b5 ct F k f [.ref n,.ref w] h=r)(hx:(x,f)∈[(("mark":Str),19),("gap",23)]):b5 ct F (k+1) 13 [.ref n,.ref w] h=r:=by
 rw[←hr,i6 W.f13 rfl];simp only[E8];rw[gc0];simp only[aF,not_mem_nil,gA,Prod.mk.injEq] at hx;rcases hx with⟨rfl,rfl⟩|⟨rfl,rfl⟩
 · simp![u9 0 0 rfl hw rfl,op2,J3,eqS,fM,fJ];generalize b5 ct F k 19 [.ref n,.ref w] h=r;cases r<;>simp![]
 · simp![u9 0 0 rfl hw rfl,op2,J3,eqS,fM,fJ];generalize b5 ct F k 23 [.ref n,.ref w] h=r;cases r<;>simp![]
theorem HallAt.s5{H:HD}(A:HallAt h n H)(l:List Str):HallAt (h.set (n+5) (.lst (l.map .str))) n {H with gaps:=l}:=
 ⟨b8 nofun A.o,b8 nofun A.c1,b8 nofun A.c2,b8 nofun A.c3,b8 nofun A.c4,z9 A.c5,b8 nofun A.c6,b8 nofun A.c7,b8 nofun A.c8⟩
variable{d:Nat}{H:HD}
theorem b2t{p:Str×Nat}(hn:c9 p.1=true)(hw:p.2<99999)(h1:p.1∉H.shapes.map (·.1))(hl:↥H.shapes<60):Z4 ct F (d+9) H (U8 p) none {H with shapes:=H.shapes++[(p.1,.int (p.2:Int))]}:=by have:=b0G (ct:=ct) (d:=d) (H:=H) W hn (a3A (n:=p.2) nofun);rw[a0y (nin h1) rfl (bw nofun)] at this;exact this
theorem b5x{p:Str×Bool}(hn:c9 p.1=true)(h1:p.1∉H.features.map (·.1))(hl:↥H.features<10):Z4 ct F (d+9) H (a2p p) none {H with features:=H.features++[(p.1,.bl p.2)]}:=by have:=a7v (ct:=ct) (d:=d) (H:=H) (b:=a9L p.2) W hn (by cases p.2;exact .inr rfl;exact .inl rfl);rw[a0y (nin h1) rfl (bw nofun),show decide (a9L p.2="on")=p.2 by cases p.2<;>decide+kernel] at this;exact this
theorem b0a{l:Lt}(o:LtOk sh l)(hs:∀f∈l.fs,c9 f=true/\f∈H.shapes.map (·.1))(h1:l.n∉H.letters.map (·.1))(hl:↥H.letters<24):Z4 ct F (d+9) H (N9 l) none {H with letters:=H.letters++[(l.n,.tup [.str l.j,.str l.w,.tup (l.fs.map .str)])]}:=by intro h n w A hw;have:=a3h (ct:=ct) (k:=d+3) (d9:=l.fs) W A hw o.nm (T2 o.nm) o.jn o.wy (bm.mpr λf hf=>(hs f hf).1) (λy hy=>T2 (hs y hy).1) (by have:=o.few;ac_nf);rw[a0y (nin h1) (bm.mpr λf hf=>ba (hs f hf).2) (bw nofun)] at this;rw[a9v W hw,this];exact⟨_,rfl,(Fr.app n h _).trans (Fr.set nofun nofun),(A.app _).s4 _⟩
theorem b2v{c:Cs}(o:CsOk sh c)(hs:∀f∈c.fs,c9 f=true/\f∈H.shapes.map (·.1))(h1:c.n∉H.classes.map (·.1))(hl:↥H.classes<20):Z4 ct F (d+9) H (U9 c) none {H with classes:=H.classes++[(c.n,.tup (c.fs.map .str))]}:=by intro h n w A hw;have:=a4h (ct:=ct) (k:=d+3) (d9:=c.fs) W A hw o.nm (T2 o.nm) (bm.mpr λf hf=>(hs f hf).1) (λy hy=>T2 (hs y hy).1) o.few.1 o.few.2;rw[a0y (nin h1) (bm.mpr λf hf=>ba (hs f hf).2) (bw nofun)] at this;rw[b0E W hw,this];exact⟨_,rfl,(Fr.app n h _).trans (Fr.set nofun nofun),(A.app _).s6 _⟩
theorem b2u{p:Pt}(hn:c9 p.n=true)(hs:a0Q p.s)(ha:a0E p.a)(h1:ptK p∉H.points.map (·.1))(h2:p.n∈H.shapes.map (·.1))(hl:↥H.points<=1000):Z4 ct F (d+9) H (Z6 p) none {H with points:=H.points++[(ptK p,spD p.a)]}:=by intro h n w A hw;have:=a4g (ct:=ct) (k:=d+2) W A hw hn (T2 hn) (b6r hs) (K1 ha.1) (K1 ha.2) nofun;have h1:(p.n,p.s)∉H.points.map (·.1):=h1;rw[a0y (bw h1) (ba h2) rfl] at this;rw[b0D W hw];exact this
theorem b8q{g:Str}(hn:c9 g=true)(h1:g∉H.gaps)(h2:g∈H.letters.map (·.1))(hl:↥H.gaps<=1000):Z4 ct F (d+9) H (a6f g) none {H with gaps:=H.gaps++[g]}:=by
 intro h n w A hw;have hw:h[w]? =some (.lst [.str "gap",.str g]):=hw;have hg:M9 false h (.str g) (.ref (n+5))=.ok (.bl false) h:=by simp only[M9,A.c5];rw[ay (by rw[a0M];rfl),a1F,nin h1];rfl
 have e:b5 ct F (d+8) 23 [.ref n,.ref w] h=.ok .non (h.set (n+5) (.lst ((H.gaps++[g]).map .str))):=by rw[i6 W.f23 rfl];simp only[a1h];rw[gc0];simp![n5 hw,op2,a3y,eqS,u9 1 1 rfl hw rfl,G8 W (T2 hn),hn,A.fld5,A.fld4,hg,Z2 A.c4,ba h2,C7 W,a0y rfl rfl rfl,V6,Int.cast_ofNat_Int,fM,fK,C2 A.c5,K0 (d:=.str g) A.c5 (by rw[aa];ac_nf)];rw[ao];rfl
 rw[b3E W hw e (.tail _ (.head _))];exact⟨_,rfl,Fr.set nofun nofun,HallAt.s5 W A _⟩
theorem b5w{m:Mk}(hn:c9 m.n=true)(hs:a0Q m.s)(ha:a0E m.a)(hb:a0E m.b)(h1:m.n∉H.marks.map (·.1))(h2:m.n∈H.shapes.map (·.1))(hl:↥H.marks<=1000):Z4 ct F (d+9) H (V7 m) none {H with marks:=H.marks++[(m.n,.tup [.str m.s,spD m.a,spD m.b])]}:=by
 intro h n w A hw;have hf:b5 ct F (d+7) 18 [.ref w,.int 4] h=.ok (.bl true) h:=a1w (k:=d+2) (ws:=[num m.a.1,num m.a.2,num m.b.1,num m.b.2]) W hw hn (T2 hn) (b6r hs) rfl (by simp[a6m,K1 ha.1,K1 ha.2,K1 hb.1,K1 hb.2]) (λy hy=>by have:=(j0 (WOk.num ha.1) (j0 (WOk.num ha.2) (j0 (WOk.num hb.1) (j0 (WOk.num hb.2) Row.nil))) y hy).l;ac_nf) ⋯
 have e35:N4 ((V7 m).map .str) (some 3) (some 5)=[.str (num m.a.1),.str (num m.a.2)]:=W9 3 5 ((V7 m).map .str) ∅ (fS rfl);have e57:N4 ((V7 m).map .str) (some 5) (some 7)=[.str (num m.b.1),.str (num m.b.2)]:=W9 5 7 ((V7 m).map .str) ∅ (fS rfl);have A2:=(A.app [.lst [.str (num m.a.1),.str (num m.a.2)]]).app [.lst [.str (num m.b.1),.str (num m.b.2)]];have hw1:=b6 (g:=[.lst [.str (num m.a.1),.str (num m.a.2)]]) hw;have e:b5 ct F (d+8) 19 [.ref n,.ref w] h=.ok .non ((h++[Cell.lst [D.str (num m.a.1),D.str (num m.a.2)]]++[Cell.lst [D.str (num m.b.1),D.str (num m.b.2)]]).set (n+2) (Cell.dict (kd (H.marks++[(m.n,D.tup [.str m.s,spD m.a,spD m.b])])))):=by rw[i6 W.f19 rfl];simp only[a0q];rw[gc0];simp![hf,fK,u9 1 1 rfl hw rfl,u9 2 2 rfl hw rfl,op2,A.fld2,Z2 A.c2,A.fld1,Z2 A.c1,C7 W,a0y (nin h1) (ba h2) rfl,V6,fM,G4 hw,e35,a5m W (b7 (h:=h)) (K1 ha.1) (K1 ha.2),G4 hw1,e57,a5m W (b7 (h:=h++[Cell.lst [.str (num m.a.1),.str (num m.a.2)]])) (K1 hb.1) (K1 hb.2),A2.fld2,Z9 A2.c2 h1 (show _<16777216 by ac_nf)];rfl
 rw[b3E W hw e (.head _)];exact⟨_,rfl,((Fr.app n h _).trans (Fr.app n _ _)).trans (Fr.set nofun nofun),A2.s2 _⟩
theorem b2g{i:Str}(ho:T7 sh cs i)(hs:∀f∈sh.map (·.1),c9 f=true/\f∈H.shapes.map (·.1))(hc:∀c∈cs,c9 c.n=true/\c.n∈H.classes.map (·.1)):V3 i=true/\N2 H i=true/\↥i<=100000:=by
 rcases ho with ho|⟨c,hm,rfl⟩
 · have k:=hs i ho;unfold V3 N2;rw[a8B W k.1,k.1,az bq];exact⟨rfl,ba k.2,T2 k.1⟩
 · have k:=hc c hm;have hd:cd (("@":Str)++c.n)=64::cd c.n:=by rw[D3];rfl
   have ht:tl (("@":Str)++c.n)=c.n:=T6 (by rw[a2C,hd];rfl);have hk:O4 (("@":Str)++c.n)=true:=by unfold O4;rw[ht,k.1,hd];rfl
   have:=(WOk.at k.1).l;unfold V3 N2;rw[hk,Bool.or_true,ay rfl,ht];exact⟨rfl,ba k.2,by ac_nf⟩
theorem b5v(o:RuOk sh cs fe r)(hs:∀f∈sh.map (·.1),c9 f=true/\f∈H.shapes.map (·.1))(hc:∀c∈cs,c9 c.n=true/\c.n∈H.classes.map (·.1))(hf:c9 r.f=true/\r.f∈H.features.map (·.1))(h1:r.t∉H.rules.map (·.1))(hl:↥H.rules<30):Z4 ct F (d+9) H (T8 r) none {H with rules:=H.rules++[(r.t,[.str r.f,.tup (r.b.map .str),.tup (r.c.map .str),.tup (r.a.map .str),.tup (r.o.map .str)])]}:=by
 intro h n w A hw;have hi:∀i∈r.b++r.c++r.a,V3 i=true/\N2 H i=true/\↥i<=100000:=λi hi=>by
  rcases aL.mp hi with hi|hi
  · rcases aL.mp hi with hi|hi
    · exact b2g W (o.b i hi) hs hc
    · exact b2g W (o.c i hi) hs hc
  · exact b2g W (o.a i hi) hs hc
 have ho:∀i∈r.o,c9 i=true/\i∈H.shapes.map (·.1):=λi hi=>hs i (o.o i hi);have rf:RuleForm r.t r.f r.b r.c r.a r.o:=⟨o.nm,hf.1,o.b3,o.c4.1,o.c4.2,o.a3,o.o3.1,o.o3.2,bm.mpr λi h=>(hi i h).1,bm.mpr λi h=>(ho i h).1,λy hy=>by
  rcases aF.mp hy with rfl|hy
  · exact T2 o.nm
  · rcases aF.mp hy with rfl|hy
    · exact T2 hf.1
    · rcases aL.mp hy with hy|hy
      · exact(hi y hy).2.2
      · exact T2 (ho y hy).1⟩
 have:=a4Y (ct:=ct) (k:=d+1) W A nofun (x:="rule") (t:=r.t) (f:=r.f) (bG:=r.b) (bE:=r.c) (bL:=r.a) (told:=r.o) hw rf;rw[a0y (nin h1) (by rw[ba hf.2,bm.mpr λi h=>(hi i h).2.1,bm.mpr λi h=>ba (ho i h).2];rfl) (bw nofun)] at this
 rw[b3Y W hw];exact this
end
theorem J2{ct:CT}{F:Nat->Option Fn}{d:Nat}{α:Type}{dy:List α}{d9:List Str}{H':HD}(wf:α->List Str)(U:List α->HD)(hR:∀x∈dy,Row (wf x))(dL:∀pre x post,dy=pre++x::post->Z4 ct F d (U pre) (wf x) none (U (pre++[x])))(hT:Reads ct F d (U dy) d9 H'):∀(l pre:List α),dy=pre++l->Reads ct F d (U pre) (l.map (λx=>ln (wf x))++d9) H'
 |[],pre,e=>by rw[aZ] at e;subst e;exact hT
 |x::l,pre,e=>by have r:=hR x (by rw[e];exact mem_append_right _ (.head _));have b:=b0W r;have:=a8w r;refine .take (H1:=U (pre++[x])) (show(ln (wf x)).length<=100000 by ac_nf) (by rw[b];exact r.n) (by rw[b];exact dL pre x l e) (J2 wf U hR dL hT l (pre++[x]) (by rw[e];simp))
theorem O7{f:α->β}{dy pre post:List α}{x:α}(h:(dy.map f).Nodup)(e:dy=pre++x::post):f x∉pre.map f:=λm=>by rw[e,ao,map_cons] at h;exact(nodup_append.mp h).2.2 _ m _ (.head _) rfl
theorem L0{dy pre post:List α}{x:α}(e:dy=pre++x::post):↥pre<↥dy/\x∈dy:=by rw[e];exact⟨by simp only[aq,length_cons];ac_nf,mem_append_right _ (.head _)⟩
def hS(H:HL):List (Str×D):=H.sh.map λp=>(p.1,.int (p.2:Int))
def hM(l:List Mk):List (Str×D):=l.map λm=>(m.n,.tup [.str m.s,spD m.a,spD m.b])
def hP(l:List Pt):List ((Str×Str)×D):=l.map λp=>(ptK p,spD p.a)
def hL(l:List Lt):List (Str×D):=l.map λl=>(l.n,.tup [.str l.j,.str l.w,.tup (l.fs.map .str)])
def hC(l:List Cs):List (Str×D):=l.map λc=>(c.n,.tup (c.fs.map .str))
def hF(l:List (Str×Bool)):List (Str×D):=l.map λp=>(p.1,.bl p.2)
def hR(l:List Ru):List (Str×List D):=l.map λr=>(r.t,[.str r.f,.tup (r.b.map .str),.tup (r.c.map .str),.tup (r.a.map .str),.tup (r.o.map .str)])
def R4(H:HL):HD:=⟨hS H,hM H.mr,hP H.pt,hL H.ls,H.gp,hC H.cs,hF H.fe,hR H.ru⟩
theorem a2G(k:α->Str)(v:α->β)(l:List α):(l.map λx=>(k x,v x)).map (·.1)=l.map k:=by rw[aI];rfl
theorem snoc(f:α->β)(l:List α)(x:α):(l++[x]).map f=l.map f++[f x]:=by rw[ao];rfl
theorem a6R{H:HL}(K:HLok H)(h:f∈H.sh.map (·.1)):c9 f=true/\f∈(hS H).map (·.1):=⟨K6 K h,by unfold hS;rw[a2G];exact h⟩
theorem a9D{ct:CT}{F:Nat->Option Fn}(W:PF F){d:Nat}{H:HL}(K:HLok H):Reads ct F (d+9) {} ((M8 H).map ln) (R4 H):=by
 have e:(M8 H).map ln=H.sh.map (λp=>ln (U8 p))++(H.mr.map (λp=>ln (V7 p))++(H.pt.map (λp=>ln (Z6 p))++(H.ls.map (λp=>ln (N9 p))++(H.gp.map (λp=>ln (a6f p))++(H.cs.map (λp=>ln (U9 p))++(H.fe.map (λp=>ln (a2p p))++(H.ru.map (λp=>ln (T8 p))++[]))))))):=by unfold M8;simp only[ao,aI,aA,aZ];rfl
 rw[e];refine J2 U8 (λl=>{shapes:=l.map λp=>(p.1,.int (p.2:Int))}) (λx hx=>a4v K hx) (λpre x post q=>?_) ?_ H.sh [] rfl
 · obtain⟨q1,q2⟩:=L0 q;have k:=K.sh.ok x q2;have:=K.sh.hi;have g:=b2t (ct:=ct) (d:=d) (H:={shapes:=pre.map λp=>(p.1,.int (p.2:Int))}) (p:=x) W k.1 k.2 (by rw[a2G];exact O7 (f:=λp=>p.1) K.sh.nd q) (by rw[aa];ac_nf);simp only[snoc];exact g
 refine J2 V7 (λl=>{shapes:=hS H,marks:=hM l}) (λx hx=>a6t K hx) (λpre x post q=>?_) ?_ H.mr [] rfl
 · obtain⟨q1,q2⟩:=L0 q;obtain⟨k1,k2,k3⟩:=K.mko x q2;have hn:=a6R K (a5t K q2);have b:=a8q K K.mr;rw[aa] at b;have:=K.sh.hi;have g:=b5w (ct:=ct) (d:=d) (H:={shapes:=hS H,marks:=hM pre}) (m:=x) W hn.1 k1 k2 k3 (by unfold hM;rw[a2G];exact O7 (f:=λm:Mk=>m.n) (K.mr.nodup K.sh.nd) q) hn.2 (by unfold hM;rw[aa];ac_nf);unfold hM at g⊢;rw[snoc];exact g
 refine J2 Z6 (λl=>{shapes:=hS H,marks:=hM H.mr,points:=hP l}) (λx hx=>a4w K hx) (λpre x post q=>?_) ?_ H.pt [] rfl
 · obtain⟨q1,q2⟩:=L0 q;obtain⟨k1,k2,k3⟩:=K.pto x q2;have hn:=a6R K k1;have:=K.ptl;have g:=b2u (ct:=ct) (d:=d) (H:={shapes:=hS H,marks:=hM H.mr,points:=hP pre}) (p:=x) W hn.1 k2 k3 (by unfold hP;rw[aI];exact O7 (f:=ptK) K.pt q) hn.2 (by unfold hP;rw[aa];ac_nf);unfold hP at g⊢;rw[snoc];exact g
 refine J2 N9 (λl=>{shapes:=hS H,marks:=hM H.mr,points:=hP H.pt,letters:=hL l}) (λx hx=>a0Z K hx) (λpre x post q=>?_) ?_ H.ls [] rfl
 · obtain⟨q1,q2⟩:=L0 q;have k:=K.lso x q2;have:=K.ls;have g:=b0a (ct:=ct) (d:=d) (H:={shapes:=hS H,marks:=hM H.mr,points:=hP H.pt,letters:=hL pre}) (l:=x) W k (λf hf=>a6R K (k.fs f hf)) (by unfold hL;rw[a2G];exact O7 (f:=λm:Lt=>m.n) K.lsn q) (by unfold hL;rw[aa];ac_nf);unfold hL at g⊢;rw[snoc];exact g
 refine J2 a6f (λl=>{shapes:=hS H,marks:=hM H.mr,points:=hP H.pt,letters:=hL H.ls,gaps:=l}) (λx hx=>a8x K hx) (λpre x post q=>?_) ?_ H.gp [] rfl
 · obtain⟨q1,q2⟩:=L0 q;have:=K.gp.length_le;rw[aa] at this;have:=K.ls;have nd:=O7 (f:=id) (by rw[map_id];exact K.gp.nodup K.lsn) q;rw[map_id] at nd;exact b8q (d:=d) (H:={shapes:=hS H,marks:=hM H.mr,points:=hP H.pt,letters:=hL H.ls,gaps:=pre}) (g:=x) W (a5F K q2) nd (by unfold hL;rw[a2G];exact K.gp.subset q2) (show ↥pre<=1000 by ac_nf)
 refine J2 U9 (λl=>{shapes:=hS H,marks:=hM H.mr,points:=hP H.pt,letters:=hL H.ls,gaps:=H.gp,classes:=hC l}) (λx hx=>a1Y K hx) (λpre x post q=>?_) ?_ H.cs [] rfl
 · obtain⟨q1,q2⟩:=L0 q;have k:=K.cso x q2;have:=K.cs;have g:=b2v (ct:=ct) (d:=d) (H:={shapes:=hS H,marks:=hM H.mr,points:=hP H.pt,letters:=hL H.ls,gaps:=H.gp,classes:=hC pre}) (c:=x) W k (λf hf=>a6R K (k.fs f hf)) (by unfold hC;rw[a2G];exact O7 (f:=λm:Cs=>m.n) K.csn q) (by unfold hC;rw[aa];ac_nf);unfold hC at g⊢;rw[snoc];exact g
 refine J2 a2p (λl=>{shapes:=hS H,marks:=hM H.mr,points:=hP H.pt,letters:=hL H.ls,gaps:=H.gp,classes:=hC H.cs,features:=hF l}) (λx hx=>a6u K hx) (λpre x post q=>?_) ?_ H.fe [] rfl
 · obtain⟨q1,q2⟩:=L0 q;have:=K.fe;have g:=b5x (ct:=ct) (d:=d) (H:={shapes:=hS H,marks:=hM H.mr,points:=hP H.pt,letters:=hL H.ls,gaps:=H.gp,classes:=hC H.cs,features:=hF pre}) (p:=x) W (a1L K (al.mpr ⟨x,q2,rfl⟩)) (by unfold hF;rw[a2G];exact O7 (f:=λp=>p.1) K.fen.nd q) (by unfold hF;rw[aa];ac_nf);unfold hF at g⊢;rw[snoc];exact g
 refine J2 T8 (λl=>{shapes:=hS H,marks:=hM H.mr,points:=hP H.pt,letters:=hL H.ls,gaps:=H.gp,classes:=hC H.cs,features:=hF H.fe,rules:=hR l}) (λx hx=>a3t K hx) (λpre x post q=>?_) (.nil _) H.ru [] rfl;obtain⟨q1,q2⟩:=L0 q;have k:=K.ruo x q2;have:=K.rul;have g:=b5v (ct:=ct) (d:=d) (H:={shapes:=hS H,marks:=hM H.mr,points:=hP H.pt,letters:=hL H.ls,gaps:=H.gp,classes:=hC H.cs,features:=hF H.fe,rules:=hR pre}) (r:=x) W k (λf hf=>a6R K hf) (λc hc=>⟨(K.cso c hc).nm,by unfold hC;rw[a2G];exact al.mpr ⟨c,hc,rfl⟩⟩) ⟨a1L K k.fe,by unfold hF;rw[a2G];exact k.fe⟩ (by unfold hR;rw[a2G];exact O7 (f:=λm:Ru=>m.t) K.run q) (by unfold hR;rw[aa];ac_nf);unfold hR at g⊢;rw[snoc];exact g
open PySem
def nc(s:Str):Bool:=decide (s≠"clear")
def bb(s:Str):Bool:=decide (s="both")||decide (s="back")
def b1M(js:List Str)(i:Nat):Bool:=nc (js.getD i "clear")
def O5(js:List Str):List Nat:=(List.range ↥js).filter (b1M js)
def jnx(x y:Str):Bool:=decide (x="both")&&bb y
def G5(js:List Str):List (Nat×Nat):=((O5 js).zip ((O5 js).drop 1)).filter λp=>jnx (js.getD p.1 "") (js.getD p.2 "")
variable{js:List Str}
theorem b0O{i:Nat}:i∈O5 js↔∃h:i<↥js,nc js[i]=true:=by
 unfold O5;rw[bh,aN];refine⟨λ⟨h,e⟩=>⟨h,?_⟩,λ⟨h,e⟩=>⟨h,?_⟩⟩
 · unfold b1M at e
   rwa [bu,ai h] at e
 · unfold b1M;rw[bu,ai h];exact e
theorem b1L{l:List (Str×D)}{k:Str}(e:h[n]? =some (.dict (kd l))):M9 true h (.str k) (.ref n)=.ok (.bl (!decide (k∈l.map (·.1)))) h:=by simp only[M9,e,X9,fU,a7U];simp
theorem b4r{c:Cell}:(h++[c]).set ↥h c'=h++[c']:=by rw[List.set_append_right _ _ (aj _),Nat.sub_self];rfl
theorem a5Z(hl:↥xs<1000000):mtD .append (h++[.lst xs]) (.ref ↥h) [d]=.ok .non (h++[.lst (xs++[d])]):=by rw[K0 b7 hl,b4r]
theorem b3A{xs:List α}{d:α}(hd:xs[↥xs-1]? =some d):atI xs (-1)=some d:=by
 have hl:=(ac.mp hd).1;unfold atI;have e:ixN ↥xs (-1)=some (↥xs-1):=by unfold ixN;rw[az nofun,ay nofun];congr 1;ac_nf
 rw[e];exact hd
theorem a3e(hd:xs[↥xs-1]? =some d):ixD h (.tup xs) (.int (-1))=.ok d h:=by simp only[ixD,b3A hd]
theorem a5M:op2 .eq h (.str x) (.str y)=.ok (.bl (decide (x=y))) h:=rfl
theorem b5d:op2 .ne h (.str x) (.str y)=.ok (.bl (!decide (x=y))) h:=rfl
theorem rd_of(e:h[n]? =some (.lst l)):rdL h n=some l:=by unfold rdL;rw[e]
def V1(ls:List Lt)(x:Str):Lt:=(ls.find? λl=>decide (l.n=x)).getD ⟨x,"","",[]⟩
theorem b1T{x:Str}:∀{ls:List Lt},x∈ls.map (·.n)->V1 ls x∈ls
 |[],h=>absurd h ⋯
 |l::r,h=>by
  unfold V1;rw[List.find?_cons]
  by_cases e:l.n=x
  · simp[e]
  · simp only[e,fJ];rw[map_cons] at h;exact .tail _ (b1T ((aF.mp h).resolve_left λz=>e z.symm))
theorem b2A{x:Str}(f:Lt->D):∀{ls:List Lt},x∈ls.map (·.n)->o7 (kd (ls.map λl=>(l.n,f l))) (.str x)=some (f (V1 ls x))
 |[],h=>absurd h ⋯
 | l ::r,h=>by
  by_cases e:l.n=x
  · unfold o7 kd V1;rw[map_cons,map_cons,List.find?_cons,List.find?_cons];simp[e]
  · have ih:=b2A f (ls:=r) (by rw[map_cons] at h;exact(aF.mp h).resolve_left λz=>e z.symm)
    have e':¬(D.str l.n=D.str x):=λz=>e (by injection z);unfold o7 kd V1 at ih⊢;rw[map_cons,map_cons,List.find?_cons,List.find?_cons];simp only[e',e,fJ];exact ih
theorem c0r(f:Lt->D)(e:h[n]? =some (.dict (kd (ls.map λl=>(l.n,f l)))))(hx:x∈ls.map (·.n)):ixD h (.ref n) (.str x)=.ok (f (V1 ls x)) h:=by have k:D7 (.str x) (kd (ls.map λl=>(l.n,f l)))=true:=X9 _ _;simp only[ixD,e,k,fU,b2A f hx]
def B0(ls:List Lt)(row:List Str):List Str:=row.map λx=>(V1 ls x).j
variable{bC:List (D×D)}
theorem b1c{k v x:D}:x∈(a0b bC k v).map (·.1)↔x∈bC.map (·.1)∨x=k:=by
 unfold a0b
 by_cases e:(bC.any λp=>decide (p.1=k))=true
 · rw[ay e];obtain⟨p,hp,e2⟩:=bn.mp e;have e2:=aw e2;have:(bC.map λp=>if p.1=k then(p.1,v) else p).map (·.1)=bC.map (·.1):=by rw[aI];refine aX λp _=>?_;show(if p.1=k then(p.1,v) else p).1=p.1;split<;>rfl
   rw[this];refine⟨.inl,λh=>h.elim id λh=>?_⟩;rw[h,←e2];exact al.mpr ⟨p,hp,rfl⟩
 · rw[az e];simp
theorem a4H{x:D}:∀(l bC:List (D×D)),x∈(l.foldl (λa p=>a0b a p.1 p.2) bC).map (·.1)↔x∈bC.map (·.1)∨x∈l.map (·.1)
 |[],bC=>by simp
 |p::r,bC=>by rw[foldl_cons,a4H r,b1c,map_cons,aF,or_assoc]
def dI(l:List Nat):List (D×D):=(l.map λi:Nat=>(D.int (i:Int),D.bl true)).foldl (λa p=>a0b a p.1 p.2) []
theorem a5Q{l:List Nat}{x:D}:x∈(dI l).map (·.1)↔∃i∈l,x=.int ((i:Nat):Int):=by unfold dI;rw[a4H,aI];simp only[map_nil,not_mem_nil,false_or,al,Function.comp];exact⟨λ⟨i,h,e⟩=>⟨i,h,e.symm⟩,λ⟨i,h,e⟩=>⟨i,h,e.symm⟩⟩
theorem b6x{k:Nat}{l:List Nat}(e:h[n]? =some (.dict (dI l))):op2 .isin h ⇑k (.ref n)=.ok (.bl (decide (k∈l))) h:=by
 have ko:D7 ⇑k (dI l)=true:=by unfold D7;rw[ae];refine⟨rfl,bm.mpr λp hp=>?_⟩;obtain⟨i,_,e⟩:=a5Q.mp (al.mpr ⟨p,hp,rfl⟩);rw[e];rfl
 have gs:(o7 (dI l) ⇑k).isSome=decide (k∈l):=by
  unfold o7;rw[hZ]
  by_cases m:k∈l
  · rw[ba m,List.find?_isSome];obtain⟨p,hp,e⟩:=al.mp (a5Q.mpr ⟨k,m,rfl⟩);exact⟨p,hp,ba e⟩
  · rw[bw m];cases q:(dI l).find? λp=>decide (p.1=.int (k:Int)) with
    |none=>rfl
    |some p=>
     have:=aw (List.find?_some (p:=λp:D×D=>decide (p.1=.int (k:Int))) q);obtain⟨i,hi,e⟩:=a5Q.mp (al.mpr ⟨p,List.mem_of_find?_eq_some q,rfl⟩);rw[this] at e;injection e with e;exact absurd (by rw[Int.ofNat.inj e];exact hi) m
 show M9 false h ⇑k (.ref n)=_;simp only[M9,e,ko,fU,gs];cases decide (k∈l)<;>rfl
theorem b1o:∀l:List Nat,a6w (l.map λi:Nat=>D.tup [.int (i:Int),.bl true])=some (l.map λi:Nat=>(D.int (i:Int),D.bl true))
 |[]=>rfl
 |x::r=>by rw[map_cons,a6w,ay (show(K3 (D.int (x:Int))).isSome=true from rfl),b1o r];rfl
theorem b5T{l:List Nat}:biD .dict (h++[.lst (l.map λi:Nat=>D.tup [.int (i:Int),.bl true])]) [.ref ↥h]=.ok (.ref ↥(h++[Cell.lst (l.map λi:Nat=>D.tup [.int (i:Int),.bl true])])) (h++[.lst (l.map λi:Nat=>D.tup [.int (i:Int),.bl true])]++[.dict (dI l)]):=by simp only[biD,bi1,biL,b7,a1z,b1o,v8];rfl
theorem a8b(js:List Str):u5 0 (js.map .str)=(List.range ↥js).map λi:Nat=>D.tup [.int (i:Int),.str (js.getD i "clear")]:=by
 refine ext_getElem? λi=>?_
 by_cases hi:i<↥js
 · rw[ak,List.getElem?_range hi];have:i<↥(u5 0 (js.map .str)):=by rw[Q0,aa];exact hi
   obtain⟨d,h1,h2⟩:=U4 (ai this);rw[ai this,h2];rw[ak,ai hi] at h1;rw[←ax h1,aB,Option.map_some,bu,ai hi];rfl
 · rw[aW (by rw[Q0,aa];ac_nf),aW (by simp;ac_nf)]
def prD(p:Nat×Nat):D:=.tup [.int (p.1:Int),.int (p.2:Int)]
theorem a8n:∀a b:List Nat,M5 (a.map λi:Nat=>D.int (i:Int)) (b.map λi:Nat=>D.int (i:Int))=(a.zip b).map prD
 |[],_=>by simp[M5]
 |_::_,[]=>by simp[M5]
 |x::a,y::b=>by rw[map_cons,map_cons,M5,a8n a b];rfl
theorem c1h:N4 xs (some 1) none=xs.drop 1:=by
 unfold N4;rw[HT.b0Q,show HT.sIx xs.length 0 (some 1)=min 1 xs.length from HT.b4u _ _ 1];cases xs with
 |nil=>rfl
 |cons x r=>
  rw[bc ⋯];exact bg ⋯
theorem c1r(y:Str):inD (.str y) [.str "both",.str "back"]=bb y:=by
 unfold inD bb;simp only[any_cons,List.any_nil,eqF,Bool.or_false]
 by_cases a:y="both"
 · subst a;decide
 · by_cases b:y="back"
   · subst b;decide
   · rw[bw a,bw b,beq_eq_false_iff_ne.mpr (fR a),beq_eq_false_iff_ne.mpr (fR b)]
def a5K(fs:List Str)(p q:Bool):Str:=if p&&q then fs.getD 2 "" else if q then fs.getD 1 "" else if p then fs.getD (↥fs-1) "" else fs.getD 0 ""
theorem b2F{fs:List Str}{i:Nat}(hi:i<↥fs):ixD h (.tup (fs.map .str)) ⇑i=.ok (.str (fs.getD i "")) h:=ix_tup (by rw[ak,ai hi,bu,ai hi];rfl)
variable{row:List Str}
section
variable{ct:CT}{F:Nat->Option Fn}
theorem b1Z{k:Nat}(hF:F 36=some J4):b5 ct F (k+1) 36 [.str x,.str y] h=.ok (.bl (jnx x y)) h:=by
 rw[i6 hF rfl];simp only[J4];have:(y7 (.str y)=true/\[D.str "both",.str "back"].all y7=true)=True:=eq_true ⟨rfl,rfl⟩;unfold jnx;cases e:decide (x="both") with
 |false=>
  simp![a5M,e];exact r8 rfl
 |true=>
  simp![a5M,e,this,c1r];rw[show(bb y !=false)=(true&&bb y) by cases bb y<;>rfl];exact r8 rfl
theorem b3C{k:Nat}{fs:List Str}{p q:Bool}(hF:F 37=some M0)(h1:1<=↥fs)(hq:q=true->↥fs=4):b5 ct F (k+1) 37 [.tup (fs.map .str),.bl p,.bl q] h=.ok (.str (a5K fs p q)) h:=by
 rw[i6 hF rfl];simp only[M0];have l0:=b2F (i:=0) (h:=h) h1;have ll:ixD h (.tup (fs.map .str)) (.int (-1))=.ok (.str (fs.getD (↥fs-1) "")) h:=a3e (by rw[aa,ak,ai nofun,bu,ai nofun];rfl)
 cases q with
 | false=>cases p with
  |false=>
   simp![show ixD h (.tup (fs.map .str)) (.int 0)=.ok (.str (fs.getD 0 "")) h from l0];exact r8 rfl
  |true=>
   simp![ll];exact r8 rfl
 | true=>
  have h4:=hq rfl;have l1:=b2F (fs:=fs) (i:=1) (h:=h) nofun;have l2:=b2F (fs:=fs) (i:=2) (h:=h) nofun;cases p with
  |false=>
   simp![show ixD h (.tup (fs.map .str)) (.int 1)=.ok (.str (fs.getD 1 "")) h from l1];exact r8 rfl
  |true=>
   simp![show ixD h (.tup (fs.map .str)) (.int 2)=.ok (.str (fs.getD 2 "")) h from l2];exact r8 rfl
theorem b1D{k:Nat}(f36:F 36=some J4)(hF:F 35=some I0)(hj:h[j]? =some (.lst (js.map .str)))(hl:↥js<=1000):b5 ct F (k+2) 35 [.ref j] h=.ok (.ref ↥h) (h++[.lst ((G5 js).map prD)]):=by
 rw[i6 hF rfl];simp only[I0];show gcR 2 h (a2F (exs ct (b5 ct F (k+1)) _ [~~~j,none] h))=_;have c1:ev ct (b5 ct F (k+1)) (.comp (.tp (.nm 0>=>.nm 1>=>.nil)) (.enum (.v 0)) 2 [] (.cmp .ne (.v 1) (.s "clear")) (.v 0)) [~~~j,none] h=.ok (.ref ↥h) (h++[.lst ((O5 js).map λi:Nat=>D.int (i:Int))]):=by
  rw[M3 (l:=(List.range ↥js).map λi:Nat=>D.tup [.int (i:Int),.str (js.getD i "clear")]) (g:=[(j,.lst (js.map .str))]) (h1:=h) (by simp![U5,hj];rw[a8b]) (by simp only[gOk,all_cons,all_nil,hj];simp) (λx=>match x with
   |.tup [_,.str s]=>nc s
   |_=>false) (λx=>match x with
   |.tup [a,_]=>a
   |_=>.non) (λx=>match x with
   |.tup [a,b]=>[some a,some b]
   |_=>[]) (λx hx=>by
   obtain⟨i,hi,rfl⟩:=al.mp hx;refine⟨rfl,?_,λ_=>by simp![]⟩;simp![b5d];unfold nc;rw[decide_not]) (by rw[aa,aK];show _<=16777216;ac_nf)]
  congr 3;rw[filter_map,aI];rfl
 rw[seq (bF:=[~~~j,~~~↥h]) (h':=h++[.lst ((O5 js).map λi:Nat=>D.int (i:Int))]) (by rw[a0v,c1,b9];simp![])];have sl:∀i∈O5 js,i<↥js:=λi hi=>(b0O.mp hi).1;have ln:↥(O5 js)<=1000:=by have:=bt (b1M js) (List.range ↥js);rw[aK] at this;unfold O5;ac_nf
 have aS:(h++[Cell.lst ((O5 js).map λi:Nat=>D.int (i:Int))])[↥h]? =some (.lst ((O5 js).map λi:Nat=>D.int (i:Int))):=b7;have j1:=b6 (g:=[Cell.lst ((O5 js).map λi:Nat=>D.int (i:Int))]) hj;have P1:Pf h (h++[Cell.lst ((O5 js).map λi:Nat=>D.int (i:Int))]):=(Pf.refl h).app _;have pe:G5 js=((O5 js).zip ((O5 js).drop 1)).filter λp=>jnx (js.getD p.1 "") (js.getD p.2 ""):=rfl;generalize hs:O5 js=S at aS j1 P1 sl ln pe;generalize hx:h++[Cell.lst (S.map λi:Nat=>D.int (i:Int))]=x1 at aS j1 P1;have s1:slD x1 (some 1) none (.ref ↥h)=.ok (.ref ↥x1) (x1++[.lst ((S.drop 1).map λi:Nat=>D.int (i:Int))]):=by rw[G4 aS,c1h,map_drop]
 have a2:=b6 (g:=[Cell.lst ((S.drop 1).map λi:Nat=>D.int (i:Int))]) aS;have j2:=b6 (g:=[Cell.lst ((S.drop 1).map λi:Nat=>D.int (i:Int))]) j1;have b2:(x1++[Cell.lst ((S.drop 1).map λi:Nat=>D.int (i:Int))])[↥x1]? =some (.lst ((S.drop 1).map λi:Nat=>D.int (i:Int))):=b7;have P2:=P1.app [Cell.lst ((S.drop 1).map λi:Nat=>D.int (i:Int))];generalize x1++[Cell.lst ((S.drop 1).map λi:Nat=>D.int (i:Int))]=x2 at a2 b2 j2 s1 P2;have zi:a6c x2 (.ref ↥h) (.ref ↥x1)=.ok ((S.zip (S.drop 1)).map prD,[(↥h,.lst (S.map λi:Nat=>D.int (i:Int))),(↥x1,.lst ((S.drop 1).map λi:Nat=>D.int (i:Int)))]) x2:=by
  have e1:U0 x2 ↥h=some (S.map λi:Nat=>D.int (i:Int),.lst (S.map λi:Nat=>D.int (i:Int))):=by unfold U0;rw[a2]
  have e2:U0 x2 ↥x1=some ((S.drop 1).map λi:Nat=>D.int (i:Int),.lst ((S.drop 1).map λi:Nat=>D.int (i:Int))):=by unfold U0;rw[b2]
  simp only[a6c,e1,e2,a8n]
 have jx:∀i,i<↥js->ixD x2 (.ref j) ⇑i=.ok (.str (js.getD i "")) x2:=λi hi=>o0 j2 (by rw[ak,ai hi,bu,ai hi];rfl)
 have c2:ev ct (b5 ct F (k+1)) (.comp (.nm 0) (.zipn (.v 1) (.sl (.v 1) (.at (.i 1)) .no)) 1 [0] (.val (.call 36 (.ix (.v 1) (.ix (.v 0) (.i 0))>=>.o (.ix (.v 1) (.ix (.v 0) (.i 1)))))) (.v 0)) [~~~j,~~~↥h] x1=.ok (.ref ↥x2) (x2++[.lst ((G5 js).map prD)]):=by
  rw[M3 (l:=(S.zip (S.drop 1)).map prD) (g:=[(↥h,.lst (S.map λi:Nat=>D.int (i:Int))),(↥x1,.lst ((S.drop 1).map λi:Nat=>D.int (i:Int)))]) (h1:=x2) (by simp![b3a,s1,zi]) (by simp only[gOk,all_cons,all_nil,a2,b2];simp) (λx=>match x with
   |.tup [.int a,.int b]=>jnx (js.getD a.toNat "") (js.getD b.toNat "")
   |_=>false) (λx=>x) (λx=>[some x,~~~j]) (λx hx=>by
   obtain⟨⟨a,b⟩,hp,rfl⟩:=al.mp hx;obtain⟨ha,hb⟩:=of_mem_zip hp;have hb:=mem_of_mem_drop hb;have i0:ixD x2 (prD (a,b)) (.int 0)=.ok ⇑a x2:=ix_tup (i:=0) rfl;have i1:ixD x2 (prD (a,b)) (.int 1)=.ok ⇑b x2:=ix_tup (i:=1) rfl;refine⟨rfl,?_,λ_=>by simp![]⟩;simp![i0,i1,jx a (sl a ha),jx b (sl b hb),b1Z f36];rfl) (by rw[aa,length_zip];show _<=16777216;ac_nf)]
  rw[List.map_id',filter_map,pe];rfl
 rw[D0,a2m,c2,b9,b9];exact a4l (P2.app _) b7 P2.len (D9 λd hd=>by obtain⟨p,_,rfl⟩:=al.mp hd;rfl)
theorem b3r{k r:Nat}{H:HL}(hF:F 33=some F5)(A:HallAt h n (R4 H))(hr:h[r]? =some (.lst (row.map .str)))(dQ:∀x∈row,x∈H.ls.map (·.n)):b5 ct F (k+1) 33 [.ref n,.ref r] h=.ok .non h:=by
 have k4:(hL H.ls).map (·.1)=H.ls.map (·.n):=a2G _ _ _;rw[i6 hF rfl];simp only[F5];obtain⟨bF,g',e1,e2,e3,rfl,rfl⟩:=B7 (g:=[(r,.lst (row.map .str))]) (p:=.tp (.nm 2>=>.nm 3>=>.nil)) (body:=exs ct (b5 ct F k) (.o (.iff (.cmp .notin (.v 3) (.fld (.v 0) "letters")) (.o .bad) .nil))) (λj env hh=>∃e2 e3,env=[~~~n,~~~r,e2,e3]/\hh=h) (λj env hh hP=>by
  obtain⟨_,_,_,rfl⟩:=hP;simp only[gOk,all_cons,all_nil,hr];simp) (u5 0 (row.map .str)) 0 [~~~n,~~~r,none,none] h (λj x env hh hx hP=>by
  obtain⟨e2,e3,rfl,rfl⟩:=hP;obtain⟨y,hy,rfl⟩:=U4 hx;rw[ak] at hy;obtain⟨z,hz,rfl⟩:=Option.map_eq_some_iff.mp hy;have hm:=dQ z (aH hz);refine⟨_,[~~~n,~~~r,some ⇑(0+j),some (.str z)],_,rfl,?_,_,_,rfl,rfl⟩;have ni:M9 true hh (.str z) (.ref (n+4))=.ok (.bl false) hh:=by rw[b1L A.c4,show(R4 H).letters=hL H.ls from rfl,k4,ba hm];rfl
  generalize ((0+j:Nat):Int)=J;simp![A.fld4,op2,ni]) ⟨none,none,rfl,rfl⟩
 simp![U5,hr,e1];exact r8 rfl
end
def jgB(js:List Str)(k:Nat):Bool:=decide (k∈(G5 js).map (·.1))
def jdB(js:List Str)(k:Nat):Bool:=decide (k∈(G5 js).map (·.2))
def a2I(ls:List Lt)(row:List Str)(k:Nat):Str:=a5K (V1 ls (row.getD k "")).fs (jdB (B0 ls row) k) (jgB (B0 ls row) k)
def A9(ls:List Lt)(row:List Str):List Str:=(List.range row.length).map (a2I ls row)
theorem c0p{k:Nat}(hk:k<row.length):∃h:k<↥(B0 ls row),(B0 ls row)[k]=(V1 ls (row.getD k "")).j:=by refine⟨by unfold B0;rw[aa];exact hk,?_⟩;unfold B0;rw[List.getElem_map,bu,ai hk];rfl
theorem a8K{k:Nat}(hk:k<row.length)(e:jgB (B0 ls row) k=true):(V1 ls (row.getD k "")).j="both":=by obtain⟨p,hp,rfl⟩:=al.mp (aw e);obtain⟨h1,h2⟩:=c0p (ls:=ls) hk;have:=(bh.mp hp).2;unfold jnx at this;rw[ae,bu,ai h1] at this;exact h2.symm.trans (aw this.1)
theorem b6F{l:Lt}(o:LtOk sh l)(h:l.j="both"):↥l.fs=4:=by have:=o.jn;rw[h,show o7 a4D (.str "both")=some (.int 4) by rfl] at this;injection this with this;injection this with this;ac_nf
section
variable{ct:CT}{F:Nat->Option Fn}
theorem b2G{k r:Nat}{i:Int}{f:Nat×Nat->Nat}{ps:List (Nat×Nat)}(hi:∀p h,ixD h (prD p) (.int i)=.ok ⇑(f p) h)(he:env[3]? =some (~~~r))(hr:h[r]? =some (.lst (ps.map prD)))(hl:↥ps<=100000):ev ct (b5 ct F k) (foD i) env h=.ok (.ref (↥h+1)) (h++[.lst ((ps.map f).map λi:Nat=>D.tup [.int (i:Int),.bl true])]++[.dict (dI (ps.map f))]):=by
 have l1:↥(h++[Cell.lst ((ps.map f).map λi:Nat=>D.tup [.int (i:Int),.bl true])])=↥h+1:=by simp
 have cm:ev ct (b5 ct F k) (.comp (.nm 0) (.seq (.v 3)) 1 [] .yes (.tup (.ix (.v 0) (.k (.int i))>=>.o (.k (.bl true))))) env h=.ok (.ref ↥h) (h++[.lst ((ps.map f).map λi:Nat=>D.tup [.int (i:Int),.bl true])]):=by
  rw[n9 (l:=ps.map prD) (g:=[(r,.lst (ps.map prD))]) (h1:=h) (by simp![he,L3,hr]) (by simp only[gOk,all_cons,all_nil,hr];simp) (λx=>match x with
   |.tup [.int a,.int b]=>.tup [.int ((f (a.toNat,b.toNat):Nat):Int),.bl true]
   |_=>.non) (λx=>[some x]) (λx hx=>by
   obtain⟨p,_,rfl⟩:=al.mp hx;refine⟨rfl,?_⟩;simp![hi];rfl) (by rw[aa];show _<=16777216;ac_nf)]
  congr 3;rw[aI,aI];rfl
 unfold foD;simp![cm,b5T,l1]
theorem a7X{k r:Nat}{H:HL}(f33:F 33=some F5)(hF:F 34=some Y8)(f35:F 35=some I0)(f36:F 36=some J4)(f37:F 37=some M0)(K:HLok H)(A:HallAt h n (R4 H))(hr:h[r]? =some (.lst (row.map .str)))(dQ:∀x∈row,x∈H.ls.map (·.n))(hl:row.length<=63):b5 ct F (k+3) 34 [.ref n,.ref r] h=.ok (.ref ↥h) (h++[.lst ((A9 H.ls row).map .str)]):=by
 have c4:h[n+4]? =some (.dict (kd (H.ls.map λl=>(l.n,.tup [.str l.j,.str l.w,.tup (l.fs.map .str)])))):=A.c4;have lk:∀{x:AH}{z:Str},x[n+4]? =some (.dict (kd (H.ls.map λl=>(l.n,.tup [.str l.j,.str l.w,.tup (l.fs.map .str)]))))->z∈row->ixD x (.ref (n+4)) (.str z)=.ok (.tup [.str (V1 H.ls z).j,.str (V1 H.ls z).w,.tup ((V1 H.ls z).fs.map .str)]) x:=λe hz=>c0r (λl=>.tup [.str l.j,.str l.w,.tup (l.fs.map .str)]) e (dQ _ hz);rw[i6 hF rfl];simp only[Y8];rw[seq (by simp![b3r f33 A hr dQ];rfl)];have cj:ev ct (b5 ct F (k+2)) foJ [~~~n,~~~r,none,none,none,none,none,none] h=.ok (.ref ↥h) (h++[.lst ((B0 H.ls row).map .str)]):=by
  unfold foJ;rw[n9 (l:=row.map .str) (g:=[(r,.lst (row.map .str))]) (h1:=h) (by simp![L3,hr]) (by simp only[gOk,all_cons,all_nil,hr];simp) (λx=>match x with
   |.str z=>.str (V1 H.ls z).j
   |_=>.non) (λx=>[some x,~~~n]) (λx hx=>by
   obtain⟨z,hz,rfl⟩:=al.mp hx;refine⟨rfl,?_⟩;simp![A.fld4,lk c4 hz,a3f]) (by rw[aa];show _<=16777216;ac_nf)]
  congr 3;unfold B0;rw[aI,aI];rfl
 have jl:↥(B0 H.ls row)=row.length:=by unfold B0;rw[aa]
 have aJ:(h++[Cell.lst ((B0 H.ls row).map .str)])[↥h]? =some (.lst ((B0 H.ls row).map .str)):=b7;have P1:Pf h (h++[Cell.lst ((B0 H.ls row).map .str)]):=(Pf.refl h).app _;generalize hx1:h++[Cell.lst ((B0 H.ls row).map .str)]=x1 at cj aJ P1;have pk:=b1D (ct:=ct) (F:=F) (k:=k) f36 f35 aJ (by rw[jl];ac_nf);rw[seq (by simp![cj,pk];rfl)];have aP:(x1++[Cell.lst ((G5 (B0 H.ls row)).map prD)])[↥x1]? =some (.lst ((G5 (B0 H.ls row)).map prD)):=b7;replace P1:=P1.app [Cell.lst ((G5 (B0 H.ls row)).map prD)];have pl:↥(G5 (B0 H.ls row))<=100000:=by have q1:=bt (b1M (B0 H.ls row)) (List.range ↥(B0 H.ls row));unfold G5;refine aR (bt _ _) ?_;rw[length_zip];unfold O5;rw[aK] at q1;ac_nf
 generalize ↥x1=p at aP;generalize x1++[Cell.lst ((G5 (B0 H.ls row)).map prD)]=x2 at aP P1;have d0:=b2G (ct:=ct) (F:=F) (k:=k+2) (i:=0) (f:=λp=>p.1) (env:=[~~~n,~~~r,none,~~~p,none,none,none,none]) (h:=x2) (λp h=>ix_tup (i:=0) rfl) rfl aP pl;have l2:↥(x2++[Cell.lst (((G5 (B0 H.ls row)).map λp=>p.1).map λi:Nat=>D.tup [.int (i:Int),.bl true])])=↥x2+1:=by simp
 have aG:(x2++[Cell.lst (((G5 (B0 H.ls row)).map λp=>p.1).map λi:Nat=>D.tup [.int (i:Int),.bl true])]++[Cell.dict (dI ((G5 (B0 H.ls row)).map λp=>p.1))])[↥x2+1]? =some (.dict (dI ((G5 (B0 H.ls row)).map λp=>p.1))):=by rw[←l2];exact b7
 replace P1:=(P1.app [Cell.lst (((G5 (B0 H.ls row)).map λp=>p.1).map λi:Nat=>D.tup [.int (i:Int),.bl true])]).app [Cell.dict (dI ((G5 (B0 H.ls row)).map λp=>p.1))];replace aP:=b6 (g:=[Cell.dict (dI ((G5 (B0 H.ls row)).map λp=>p.1))]) (b6 (g:=[Cell.lst (((G5 (B0 H.ls row)).map λp=>p.1).map λi:Nat=>D.tup [.int (i:Int),.bl true])]) aP);rw[seq (bF:=[~~~n,~~~r,none,~~~p,some (.ref (↥x2+1)),none,none,none]) (h':=x2++[.lst (((G5 (B0 H.ls row)).map λp=>p.1).map λi:Nat=>D.tup [.int (i:Int),.bl true])]++[.dict (dI ((G5 (B0 H.ls row)).map λp=>p.1))]) (by rw[a0v,d0,b9];rfl)];generalize ↥x2+1=g at aG;generalize x2++[Cell.lst (((G5 (B0 H.ls row)).map λp=>p.1).map λi:Nat=>D.tup [.int (i:Int),.bl true])]++[Cell.dict (dI ((G5 (B0 H.ls row)).map λp=>p.1))]=x3 at aG aP P1;have d1:=b2G (ct:=ct) (F:=F) (k:=k+2) (i:=1) (f:=λp=>p.2) (env:=[~~~n,~~~r,none,~~~p,~~~g,none,none,none]) (h:=x3) (λp h=>ix_tup (i:=1) rfl) rfl aP pl;have l3:↥(x3++[Cell.lst (((G5 (B0 H.ls row)).map λp=>p.2).map λi:Nat=>D.tup [.int (i:Int),.bl true])])=↥x3+1:=by simp
 have aD:(x3++[Cell.lst (((G5 (B0 H.ls row)).map λp=>p.2).map λi:Nat=>D.tup [.int (i:Int),.bl true])]++[Cell.dict (dI ((G5 (B0 H.ls row)).map λp=>p.2))])[↥x3+1]? =some (.dict (dI ((G5 (B0 H.ls row)).map λp=>p.2))):=by rw[←l3];exact b7
 replace P1:=(P1.app [Cell.lst (((G5 (B0 H.ls row)).map λp=>p.2).map λi:Nat=>D.tup [.int (i:Int),.bl true])]).app [Cell.dict (dI ((G5 (B0 H.ls row)).map λp=>p.2))];replace aG:=b6 (g:=[Cell.dict (dI ((G5 (B0 H.ls row)).map λp=>p.2))]) (b6 (g:=[Cell.lst (((G5 (B0 H.ls row)).map λp=>p.2).map λi:Nat=>D.tup [.int (i:Int),.bl true])]) aG);rw[seq (bF:=[~~~n,~~~r,none,~~~p,~~~g,some (.ref (↥x3+1)),none,none]) (h':=x3++[.lst (((G5 (B0 H.ls row)).map λp=>p.2).map λi:Nat=>D.tup [.int (i:Int),.bl true])]++[.dict (dI ((G5 (B0 H.ls row)).map λp=>p.2))]) (by rw[a0v,d1,b9];rfl)];generalize ↥x3+1=q at aD;generalize x3++[Cell.lst (((G5 (B0 H.ls row)).map λp=>p.2).map λi:Nat=>D.tup [.int (i:Int),.bl true])]++[Cell.dict (dI ((G5 (B0 H.ls row)).map λp=>p.2))]=x4 at aG aD P1;rw[seq (by simp![v8];rfl)];have hA:∀t,HallAt (x4++t) n (R4 H):=λt=>by
  have:x4=h++x4.drop ↥h:=by have:=take_append_drop ↥h x4;rw[P1.take] at this;exact this.symm
  rw[this,aA];exact A.app _
 obtain⟨bF,g',e1,e2,e7,rfl,rfl⟩:=B7 (g:=[(r,.lst (row.map .str))]) (p:=.tp (.nm 7>=>.nm 2>=>.nil)) (body:=exs ct (b5 ct F (k+2)) foB) (λj env hh=>∃e2 e7,env=[~~~n,~~~r,e2,~~~p,~~~g,~~~q,~~~↥x4,e7]/\hh=x4++[.lst (((List.range j).map (a2I H.ls row)).map .str)]) (λj env hh hP=>by
  obtain⟨_,_,_,rfl⟩:=hP;simp only[gOk,all_cons,all_nil,b6 (P1.at hr)];simp) (u5 0 (row.map .str)) 0 [~~~n,~~~r,none,~~~p,~~~g,~~~q,~~~↥x4,none] (x4++[.lst []]) (λj x env hh hx hP=>by
  obtain⟨e2,e7,rfl,rfl⟩:=hP;obtain⟨y,hy,rfl⟩:=U4 hx;rw[ak] at hy;obtain⟨z,hz,rfl⟩:=Option.map_eq_some_iff.mp hy;have hj:=(ac.mp hz).1;have hm:=aH hz;have zg:row.getD j ""=z:=by rw[bu,hz];rfl
  rw[aB];have A1:=hA [.lst (((List.range j).map (a2I H.ls row)).map .str)];have o:=K.lso _ (b1T (dQ z hm));have g1:=b6x (k:=j) (b6 (g:=[.lst (((List.range j).map (a2I H.ls row)).map .str)]) aG);have q1:=b6x (k:=j) (b6 (g:=[.lst (((List.range j).map (a2I H.ls row)).map .str)]) aD);have fc:a2I H.ls row j=a5K (V1 H.ls z).fs (jdB (B0 H.ls row) j) (jgB (B0 H.ls row) j):=by unfold a2I;rw[zg]
  have am:=b3C (ct:=ct) (F:=F) (k:=k+1) (p:=jdB (B0 H.ls row) j) (q:=jgB (B0 H.ls row) j) (h:=x4++[.lst (((List.range j).map (a2I H.ls row)).map .str)]) f37 o.few.1 (λe=>by have e:=a8K hj e;rw[zg] at e;exact b6F o e)
  have i2:∀h,ixD h (.tup [.str (V1 H.ls z).j,.str (V1 H.ls z).w,.tup ((V1 H.ls z).fs.map .str)]) (.int 2)=.ok (.tup ((V1 H.ls z).fs.map .str)) h:=λh=>ix_tup (i:=2) rfl;refine⟨_,[~~~n,~~~r,some (.str z),~~~p,~~~g,~~~q,~~~↥x4,j⁻¹],_,rfl,?_,_,_,rfl,rfl⟩;rw[List.range_succ,ao,ao,map_cons,map_nil,map_cons,map_nil,fc];unfold foB jdB jgB;unfold jdB jgB at am;simp![C2 b7,A1.fld4,lk A1.c4 hm,i2,q1,g1,am,a5Z (show(((List.range j).map (a2I H.ls row)).map D.str).length<1000000 by rw[aa,aa,aK];ac_nf)]) ⟨none,none,rfl,rfl⟩
 rw[Q0,aa,aB] at e1;rw[seq (bF:=_) (h':=x4++[.lst (((List.range row.length).map (a2I H.ls row)).map .str)]) (by simp![U5,b6 (g:=[Cell.lst []]) (P1.at hr),e1];rfl)];simp![];exact a4l (P1.app _) b7 P1.len (D8 _)
end
def Z5(cs:List Cs)(it:Str):List Str:=match cs.find? λc=>decide (it=("@":Str)++c.n) with
 |some c=>c.fs
 |none=>[it]
theorem a3M(nd:(cs.map (·.n)).Nodup){c:Cs}(hc:c∈cs):Z5 cs (("@":Str)++c.n)=c.fs:=by
 have :(cs.find? λd=>decide ((("@":Str)++c.n)=("@":Str)++d.n))=some c:=by
  induction cs with
  |nil=>cases hc
  |cons d r ih=>
   rw[map_cons,aV] at nd;rw[List.find?_cons];rcases aF.mp hc with rfl|h
   · rw[ba rfl]
   · have ne:¬(("@":Str)++c.n)=("@":Str)++d.n:=λe=>by have e2:=fN cd e;rw[D3,D3] at e2;have:=T6 (List.append_cancel_left e2);exact nd.1 (by rw[←this];exact al.mpr ⟨c,h,rfl⟩)
     rw[bw ne];exact ih nd.2 h
 unfold Z5;rw[this]
variable{it:Str}
theorem a4I(hn:c9 it=true):Z5 cs it=[it]:=by
 have:(cs.find? λd=>decide (it=("@":Str)++d.n))=none:=List.find?_eq_none.mpr λd _ e=>by have e:=aw e;refine W3 hn (c:=64) ∅ ?_;rw[e,D3];exact .head _
 unfold Z5;rw[this]
theorem a7V{c:Cs}:∀{cs:List Cs},(cs.map (·.n)).Nodup->c∈cs->o7 (kd (hC cs)) (.str c.n)=some (.tup (c.fs.map .str))
 | x ::r,hn,hc=>by
  have hn:=aV.mp hn;unfold o7 kd hC;rw[map_cons,map_cons,List.find?_cons];rcases aF.mp hc with rfl|hc
  · simp
  · have ne:¬(D.str x.n=D.str c.n):=λe=>by injection e with e;exact hn.1 (al.mpr ⟨c,hc,e.symm⟩)
    simp only[ne,fJ];exact a7V hn.2 hc
section
variable{ct:CT}{F:Nat->Option Fn}(W:PF F)(f38:F 38=some a1k)(f39:F 39=some w8)
include W f39
theorem a1K{k:Nat}(hn:c9 it=true):b5 ct F (k+2) 39 [.ref n,.str it] h=.ok (.tup [.str it]) h:=by
 rw[i6 f39 rfl];simp only[w8];have dL:Txt.startswith it "@"=false:=by
  have:=a8B W hn;rw[show Txt.startswith it "@"=decide ((cd it).head? =some 64) from X1];refine bw λe=>W3 hn (c:=64) ∅ ?_;cases hq:cd it with
  |nil=>rw[hq] at e;cases e
  |cons c r=>rw[hq] at e;injection e with e;subst e;exact .head _
 simp![mtT,mtD,dL];exact r8 rfl
theorem a0W{k:Nat}{c:Cs}{H:HL}(K:HLok H)(A:HallAt h n (R4 H))(hc:c∈H.cs):b5 ct F (k+2) 39 [.ref n,.str (("@":Str)++c.n)] h=.ok (.tup (c.fs.map .str)) h:=by
 rw[i6 f39 rfl];simp only[w8];have hd:cd (("@":Str)++c.n)=64::cd c.n:=by rw[D3];rfl
 have ht:tl (("@":Str)++c.n)=c.n:=T6 (by rw[a2C,hd];rfl);have wk:=WOk.at (K.cso c hc).nm;have dL:Txt.startswith (("@":Str)++c.n) "@"=true:=by rw[show Txt.startswith (("@":Str)++c.n) "@"=decide ((cd (("@":Str)++c.n)).head? =some 64) from X1,hd];rfl
 have co:=a0A (ct:=ct) (n:=k) (z:=("@":Str)++c.n) (h:=h) W (by have:=wk.p;ac_nf) (by have:=wk.l;ac_nf);rw[ht] at co;have dc:b2j h (.ref (n+6))=true:=by simp only[b2j,A.c6]
 have dg:a7c h (.ref (n+6)) (.str c.n) (.tup [])=.ok (.tup (c.fs.map .str)) h:=by simp only[a7c,A.c6];rw[ay (by rw[X9];cases hq:H.cs with|nil=>rw[hq] at hc;cases hc|cons a b=>simp[R4,hC,kd,hq,K3]),show o7 (kd (R4 H).classes) (.str c.n)=_ from a7V K.csn hc];rfl
 simp![mtT,mtD,dL,b5M,A.fld6,dc,co,dg];exact r8 (D8 _)
include f38
theorem b0c{k:Nat}{s:Str}(hn:c9 it=true):b5 ct F (k+3) 38 [.ref n,.str it,.str s] h=.ok (.bl (decide (it=s))) h:=by
 rw[i6 f38 rfl];simp only[a1k];have hi:M9 false h (.str s) (.tup [.str it])=.ok (.bl (decide (it=s))) h:=by simp only[M9];rw[ay (by rfl)];show R.ok (D.bl ((decide (it=s)||false) !=false)) h=_;simp
 simp![a1K W f39 hn,op2,hi];exact r8 rfl
theorem a7W{k:Nat}{c:Cs}{s:Str}{H:HL}(K:HLok H)(A:HallAt h n (R4 H))(hc:c∈H.cs):b5 ct F (k+3) 38 [.ref n,.str (("@":Str)++c.n),.str s] h=.ok (.bl (decide (s∈c.fs))) h:=by
 rw[i6 f38 rfl];simp only[a1k];have hi:M9 false h (.str s) (.tup (c.fs.map .str))=.ok (.bl (decide (s∈c.fs))) h:=by simp only[M9];rw[ay (by rw[a0M];rfl),a1F];simp
 simp![a0W W f39 K A hc,op2,hi];exact r8 rfl
variable{H:HL}
theorem b2N{k:Nat}{s:Str}(K:HLok H)(A:HallAt h n (R4 H))(o:T7 H.sh H.cs it):b5 ct F (k+3) 38 [.ref n,.str it,.str s] h=.ok (.bl (decide (s∈Z5 H.cs it))) h/\b5 ct F (k+2) 39 [.ref n,.str it] h=.ok (.tup ((Z5 H.cs it).map .str)) h:=by
 rcases o with o|⟨c,hc,rfl⟩
 · have hn:=K6 K o;rw[a4I hn];refine⟨?_,a1K W f39 hn⟩;rw[b0c W f38 f39 hn];congr 2;exact decide_eq_decide.mpr ⟨λe=>by rw[e];exact .head _,λe=>(aO.mp e).symm⟩
 · rw[a3M K.csn hc];exact⟨a7W W f38 f39 K A hc,a0W W f39 K A hc⟩
end
theorem b2y{α:Type}(k:α->Str)(f:α->D)(n:Str):∀l:List α,o7 (kd (l.map λx=>(k x,f x))) (.str n)=(l.find? λx=>decide (k x=n)).map f
 |[]=>rfl
 |x::r=>by
  have ih:=b2y k f n r;unfold o7 kd at ih⊢;rw[map_cons,map_cons,List.find?_cons,List.find?_cons]
  by_cases e:k x=n
  · have e':D.str (k x)=D.str n:=by rw[e]
    simp only[e,fM];rfl
  · have e':¬D.str (k x)=D.str n:=λz=>e (by injection z);simp only[e,e',fJ];exact ih
abbrev Cl:=Str×List Int
def clD(c:Cl):D:=.tup [.str c.1,.tup (c.2.map .int)]
structure Sg where
 f:Str
 a:Int
 b:Int
 o:Bool
def sgD(s:Sg):D:=.tup [.str s.f,.int s.a,.int s.b,.bl s.o]
def a5J(fe:List (Str×Bool))(f:Str):Bool:=((fe.find? λp=>decide (p.1=f)).map (·.2)).getD false
def X2(f:Str)(l:Int)(b:Bool)(s:Sg):Bool:=if s.f=f/\s.a<=l/\l<=s.b then s.o else b
def K4(fe:List (Str×Bool))(ss:List Sg)(f:Str)(l:Int):Bool:=ss.foldl (X2 f l) (a5J fe f)
variable{ss:List Sg}
section
variable{ct:CT}{F:Nat->Option Fn}{H:HL}
theorem b6z(A:h[n]? =some (.dict (kd (hF fe))))(hf:f∈fe.map (·.1)):ixD h (.ref n) (.str f)=.ok (.bl (a5J fe f)) h:=by
 have k:D7 (.str f) (kd (hF fe))=true:=X9 _ _;have g:o7 (kd (hF fe)) (.str f)=_:=b2y (λp:Str×Bool=>p.1) (λp=>D.bl p.2) f fe;obtain⟨p,hp,rfl⟩:=al.mp hf;cases e:fe.find? λq=>decide (q.1=p.1) with
 |none=>
  have:=List.find?_eq_none.mp e p hp;simp at this
 |some q=>
  rw[e] at g;unfold a5J;rw[e];simp only[ixD,A,k,fU,g];rfl
theorem c0s(A:HallAt h n (R4 H))(hf:f∈H.fe.map (·.1)):ixD h (.ref (n+7)) (.str f)=.ok (.bl (a5J H.fe f)) h:=b6z A.c7 hf
theorem b6q{s:Sg}:ixD h (sgD s) (.int 0)=.ok (.str s.f) h/\ixD h (sgD s) (.int 1)=.ok (.int s.a) h/\ixD h (sgD s) (.int 2)=.ok (.int s.b) h/\ixD h (sgD s) (.int 3)=.ok (.bl s.o) h:=⟨ix_tup (i:=0) rfl,ix_tup (i:=1) rfl,ix_tup (i:=2) rfl,ix_tup (i:=3) rfl⟩
theorem b5m{k s:Nat}{l:Int}(hF:F 46=some a1M)(A:HallAt h n (R4 H))(hs:h[s]? =some (.lst (ss.map sgD)))(hf:f∈H.fe.map (·.1)):b5 ct F (k+1) 46 [.ref n,.str f,.ref s,.int l] h=.ok (.bl (K4 H.fe ss f l)) h:=by
 obtain⟨bF,g',q1,e5,rfl,hg⟩:=B7 (g:=[(s,.lst (ss.map sgD))]) (p:=.nm 5) (body:=exs ct (b5 ct F k) onB) (λj env hh=>∃e5,env=[~~~n,some (.str f),~~~s,some (.int l),some (.bl ((ss.take j).foldl (X2 f l) (a5J H.fe f))),e5]/\hh=h) (λj env hh hP=>by
  obtain⟨_,_,rfl⟩:=hP;simp only[gOk,all_cons,all_nil,hs];simp) (ss.map sgD) 0 [~~~n,some (.str f),~~~s,some (.int l),some (.bl (a5J H.fe f)),none] h (λj x env hh hx hP=>by
  obtain⟨e5,rfl,rfl⟩:=hP;rw[ak] at hx;obtain⟨p,hp,rfl⟩:=Option.map_eq_some_iff.mp hx;obtain⟨z1,z2⟩:=ac.mp hp;obtain⟨i0,i1,i2,i3⟩:=b6q (s:=p) (h:=hh);rw[aB,take_succ_eq_append_getElem z1,foldl_append,z2];refine⟨_,[~~~n,some (.str f),~~~s,some (.int l),some (.bl (X2 f l ((ss.take j).foldl (X2 f l) (a5J H.fe f)) p)),some (sgD p)],_,rfl,?_,_,rfl,rfl⟩;generalize (ss.take j).foldl (X2 f l) (a5J H.fe f)=b;have le:∀i j:Int,op2 .le hh (.int i) (.int j)=.ok (.bl (decide (i<=j))) hh:=λ_ _=>rfl;unfold onB X2
  by_cases h1:p.f=f
  · by_cases h2:p.a<=l
    · by_cases h3:l<=p.b
      · simp![i0,i1,i2,i3,a5M,le,ba h1,ba h2,ba h3];rw[ay ⟨h1,h2,h3⟩]
      · simp![i0,i1,i2,i3,a5M,le,ba h1,ba h2,bw h3];rw[az λz=>h3 z.2.2]
    · simp![i0,i1,i2,i3,a5M,le,ba h1,bw h2];rw[az λz=>h2 z.2.1]
  · simp![i0,a5M,bw h1];rw[az λz=>h1 z.1]) ⟨none,rfl,rfl⟩
 rw[aa,aB,bf,hg] at q1;rw[i6 hF rfl,a1M,seq (by simp![A.fld7,c0s A hf];rfl),seq (by simp![L3,hs,q1];rfl)];simp![];exact r8 rfl
end
def G9(p:List D×D)(c:Cl):List D×D:=match c.2 with
 |[]=>(p.1++[p.2],p.2)
 |x::r=>(p.1++[.int x],.int ((x::r).getLastD 0))
def hmD(cs:List Cl):List D:=(cs.foldl G9 ([],.non)).1
def j9(cs:List Cl):List Int:=(cs.map (·.2)).flatten
def K9(o:List Str)(cs:List Cl):List Cl:=(o.headD "",j9 cs)::(o.drop 1).map λs=>(s,[])
section
variable{ct:CT}{F:Nat->Option Fn}{H:HL}
theorem b1H{k s r:Nat}{ls:List Int}(f46:F 46=some a1M)(hF:F 47=some L8)(A:HallAt h n (R4 H))(hs:h[s]? =some (.lst (ss.map sgD)))(hr:h[r]? =some (.lst (ls.map .int)))(hf:f∈H.fe.map (·.1))(hl:↥ls<=1000):b5 ct F (k+2) 47 [.ref n,.str f,.ref s,.ref r] h=.ok (.bl (ls.all (K4 H.fe ss f))) h:=by
 have cm:ev ct (b5 ct F (k+1)) (.comp (.nm 0) (.seq (.v 3)) 1 [1,0,2] .yes (.call 46 (.v 2>=>.v 1>=>.v 3>=>.o (.v 0)))) [~~~n,some (.str f),~~~s,~~~r] h=.ok (.ref ↥h) (h++[.lst (ls.map λl=>D.bl (K4 H.fe ss f l))]):=by
  rw[n9 (l:=ls.map .int) (g:=[(r,.lst (ls.map .int))]) (h1:=h) (by simp![L3,hr]) (by simp only[gOk,all_cons,all_nil,hr];simp) (λx=>match x with
   |.int l=>.bl (K4 H.fe ss f l)
   |_=>.non) (λx=>[some x,some (.str f),~~~n,~~~s]) (λx hx=>by
   obtain⟨l,_,rfl⟩:=al.mp hx;refine⟨rfl,?_⟩;simp![b5m f46 A hs hf]) (by rw[aa];show _<=16777216;ac_nf),aI]
  rfl
 rw[i6 hF rfl];simp only[L8];simp![cm,a1U (P:=K4 H.fe ss f)];exact gc1 rfl
theorem b0l{k s:Nat}(f45:F 45=some J5)(A:HallAt h n (R4 H))(hs:h[s]? =some (.lst (ss.map sgD)))(dQ:∀p∈ss,p.f∈H.fe.map (·.1)):b5 ct F (k+1) 45 [.ref n,.ref s] h=.ok .non h:=by
 obtain⟨bF,g',q1,e5,rfl,hg⟩:=B7 (g:=[(s,.lst (ss.map sgD))]) (p:=.nm 2) (body:=exs ct (b5 ct F k) cfB) (λj env hh=>∃e5,env=[~~~n,~~~s,e5]/\hh=h) (λj env hh hP=>by
  obtain⟨_,_,rfl⟩:=hP;simp only[gOk,all_cons,all_nil,hs];simp) (ss.map sgD) 0 [~~~n,~~~s,none] h (λj x env hh hx hP=>by
  obtain⟨e5,rfl,rfl⟩:=hP;rw[ak] at hx;obtain⟨p,hp,rfl⟩:=Option.map_eq_some_iff.mp hx;refine⟨_,[~~~n,~~~s,some (sgD p)],_,rfl,?_,_,rfl,rfl⟩;have ni:=b1L (k:=p.f) A.c7;rw[show(R4 H).features=hF H.fe from rfl,show(hF H.fe).map (·.1)=H.fe.map (·.1) from a2G _ _ _,ba (dQ p (aH hp))] at ni;unfold cfB;simp![b6q.1,A.fld7,op2,ni,fK]) ⟨none,rfl,rfl⟩
 rw[hg] at q1;rw[i6 f45 rfl,J5,seq (by simp![L3,hs,q1];rfl)];simp![];exact r8 rfl
theorem Z3{c:Cl}:ixD h (clD c) (.int 0)=.ok (.str c.1) h/\ixD h (clD c) (.int 1)=.ok (.tup (c.2.map .int)) h:=⟨ix_tup (i:=0) rfl,ix_tup (i:=1) rfl⟩
theorem b2n:∀(cs:List Cl)(p:List D×D),(cs.foldl G9 p).1.length=↥p.1+↥cs
 |[],p=>rfl
 |c::r,p=>by rw[foldl_cons,b2n r,length_cons];unfold G9;cases c.2<;>simp<;>ac_nf
theorem a8V:∀(cs:List Cl)(p:List D×D),D.flats p.1=true->p.2.flat=true->D.flats (cs.foldl G9 p).1=true/\(cs.foldl G9 p).2.flat=true
 |[],p,a,b=>⟨a,b⟩
 | c::r,p,a,b=>by
  have ap:∀(l:List D)(d:D),D.flats l=true->d.flat=true->D.flats (l++[d])=true:=λl d=>by
   induction l with
   |nil=>intro _ h;show(d.flat&&true)=true;rw[h];rfl
   |cons x t ih=>
    intro h1 h2;rw[D.flats,ae] at h1;rw[cons_append,D.flats,h1.1,ih h1.2 h2];rfl
  rw[foldl_cons];refine a8V r _ ?_ ?_<;>unfold G9<;>cases c.2
  · exact ap _ _ a b
  · exact ap _ _ a rfl
  · exact b
  · rfl
theorem b2l{k:Nat}{cs:List Cl}(hF:F 44=some Y6)(hw:h[w]? =some (.lst (cs.map clD)))(hl:↥cs<=100000):b5 ct F (k+1) 44 [.ref w] h=.ok (.ref ↥h) (h++[.lst (hmD cs)]):=by
 have wl:=(ac.mp hw).1;obtain⟨bF,g',q1,e3,rfl,hg⟩:=B7 (g:=[(w,.lst (cs.map clD))]) (p:=.nm 3) (body:=exs ct (b5 ct F k) hoB) (λj env hh=>∃e3,env=[~~~w,~~~↥h,some ((cs.take j).foldl G9 ([],.non)).2,e3]/\hh=h++[.lst ((cs.take j).foldl G9 ([],.non)).1]) (λj env hh hP=>by
  obtain⟨_,_,rfl⟩:=hP;simp only[gOk,all_cons,all_nil,b6 hw];simp) (cs.map clD) 0 [~~~w,~~~↥h,some .non,none] (h++[.lst []]) (λj x env hh hx hP=>by
  obtain⟨e3,rfl,rfl⟩:=hP;rw[ak] at hx;obtain⟨c,hc,rfl⟩:=Option.map_eq_some_iff.mp hx;obtain⟨z1,z2⟩:=ac.mp hc;have ln:=b2n (cs.take j) ([],.non);rw[aM,length_nil] at ln;rw[aB,take_succ_eq_append_getElem z1,foldl_append,z2];generalize (cs.take j).foldl G9 ([],.non)=p at ln;obtain⟨i0,i1⟩:=Z3 (c:=c) (h:=h++[.lst p.1]);show∃bS bF h',some [~~~w,~~~↥h,some p.2,some (clD c)]=some bS/\exs ct (b5 ct F k) hoB bS (h++[.lst p.1])=.ok (.nx bF) h'/\∃e3,bF=[~~~w,~~~↥h,some (G9 p c).2,e3]/\h'=h++[.lst (G9 p c).1];have ap:∀d,mtD .append (h++[.lst p.1]) (.ref ↥h) [d]=.ok .non (h++[.lst (p.1++[d])]):=λd=>a5Z nofun;have mt:mtT .append (h++[.lst p.1]) (.ref ↥h)=true:=by simp only[mtT,a1z,Option.isSome_some]
  refine⟨_,[~~~w,~~~↥h,some (G9 p c).2,some (clD c)],_,rfl,?_,_,rfl,rfl⟩;unfold hoB G9;cases e:c.2 with
  |nil=>
   rw[e,map_nil] at i1;simp![i1,show biD .len (h++[.lst p.1]) [.tup []]=.ok (.int 0) (h++[.lst p.1]) from rfl,show op2 .gt (h++[.lst p.1]) (.int 0) (.int 0)=.ok (.bl false) (h++[.lst p.1]) from rfl,mt,ap]
  | cons x r=>
   have i2:∀h,ixD h (clD c) (.int 1)=.ok (.tup (.int x::r.map .int)) h:=λh=>by rw[←map_cons (f:=D.int),←e];exact Z3.2
   have lx:biD .len (h++[.lst p.1]) [.tup (.int x::r.map .int)]=.ok ⇑(↥r+1) (h++[.lst p.1]):=by show R.ok (D.int (↥(D.int x::r.map D.int):Int)) _=_;rw[length_cons,aa]
   have gt:op2 .gt (h++[.lst p.1]) ⇑(↥r+1) (.int 0)=.ok (.bl true) (h++[.lst p.1]):=by show R.ok (D.bl (decide ((0:Int)<((↥r+1:Nat):Int)))) _=_;rw[ba nofun]
   have f0:∀h,ixD h (.tup (.int x::r.map .int)) (.int 0)=.ok (.int x) h:=λh=>ix_tup (i:=0) rfl;have fl:∀h,ixD h (.tup (.int x::r.map .int)) (.int (-1))=.ok (.int ((x::r).getLastD 0)) h:=λh=>a3e (by rw[←map_cons (f:=D.int),aa,ak,List.getLastD_eq_getLast?,List.getLast?_eq_getElem?];rw[ai (show(x::r).length-1<↥(x::r) by rw[length_cons];ac_nf)];rfl)
   simp![i2,lx,gt,f0,fl,mt,ap]) ⟨none,rfl,rfl⟩
 rw[aa,aB,bf] at hg q1;rw[hg] at q1;rw[i6 hF rfl,Y6,seq (by simp![v8];rfl),seq (by simp![];rfl),seq (by simp![L3,b6 hw,q1];rfl)];simp![];exact gc2 b7 (aj _) (a8V cs ([],.non) rfl rfl).1
end
theorem a6L{cs:List Cl}(h:j<↥cs):j9 (cs.take (j+1))=j9 (cs.take j)++cs[j].2:=by unfold j9;rw[take_succ_eq_append_getElem h,ao,List.flatten_append];simp
theorem a7N(cs:List Cl)(j:Nat):↥(j9 (cs.take j))<=↥(j9 cs):=by
 have:j9 cs=j9 (cs.take j)++j9 (cs.drop j):=by unfold j9;rw[←List.flatten_append,←ao,take_append_drop]
 rw[this,aq];ac_nf
section
variable{ct:CT}{F:Nat->Option Fn}
theorem b6a(cs:List Cl):D.flats (cs.map clD)=true:=D9 λd hd=>by
 obtain⟨c,_,rfl⟩:=al.mp hd;have:∀l:List Int,D.flats (l.map .int)=true:=λl=>D9 λd hd=>by obtain⟨i,_,rfl⟩:=al.mp hd;rfl
 show D.flats [.str c.1,.tup (c.2.map .int)]=true;simp only[D.flats,D.flat,this,gD]
theorem b6P{k:Nat}{T:D}{r:List Str}{cs:List Cl}(hF:F 43=some R5)(t0:∀h,ixD h T (.int 0)=.ok (.str x) h)(tsl:∀h,slD h (some 1) none T=.ok (.tup (r.map .str)) h)(hr:↥r<=1000)(hw:h[w]? =some (.lst (cs.map clD)))(hl:↥(j9 cs)<=100000):b5 ct F (k+1) 43 [T,.ref w] h=.ok (.ref ↥h) (h++[.lst (((x,j9 cs)::r.map λs=>((s,[]):Cl)).map clD)]):=by
 obtain⟨bF,g',q1,e3,rfl,hg⟩:=B7 (g:=[(w,.lst (cs.map clD))]) (p:=.nm 3) (body:=exs ct (b5 ct F k) tcB) (λj env hh=>∃e3,env=[some T,~~~w,some (.tup ((j9 (cs.take j)).map .int)),e3]/\hh=h) (λj env hh hP=>by
  obtain⟨_,_,rfl⟩:=hP;simp only[gOk,all_cons,all_nil,hw];simp) (cs.map clD) 0 [some T,~~~w,some (.tup []),none] h (λj x env hh hx hP=>by
  obtain⟨e3,rfl,rfl⟩:=hP;rw[ak] at hx;obtain⟨c,hc,rfl⟩:=Option.map_eq_some_iff.mp hx;obtain⟨z1,z2⟩:=ac.mp hc;have b:=a7N cs (j+1);rw[aB];rw[a6L z1,z2] at b⊢;rw[aq] at b;refine⟨_,[some T,~~~w,some (.tup ((j9 (cs.take j)++c.2).map .int)),some (clD c)],_,rfl,?_,_,rfl,rfl⟩;have ad:op2 .add hh (.tup ((j9 (cs.take j)).map .int)) (.tup (c.2.map .int))=.ok (.tup ((j9 (cs.take j)++c.2).map .int)) hh:=by simp only[op2,T0];rw[ay (by rw[aa,aa];show _<=16777216;ac_nf),ao]
  unfold tcB;simp![Z3.2,ad]) ⟨none,rfl,rfl⟩
 rw[aa,aB,bf,hg] at q1;have cm:∀(env:o8)(g:AH),env[0]? =some (some T)->ev ct (b5 ct F k) tcE env g=.ok (.ref ↥g) (g++[.lst ((r.map λs=>((s,[]):Cl)).map clD)]):=λenv g e0=>by
  unfold tcE;rw[n9 (l:=r.map .str) (g:=[]) (h1:=g) (by simp![e0,tsl,L3]) rfl (λx=>.tup [x,.tup []]) (λx=>[some x]) (λx hx=>by refine⟨rfl,?_⟩;simp![ay (show 2<=SL by decide),ay (show 0<=SL by decide)]) (by rw[aa];show _<=16777216;ac_nf),aI,aI]
  rfl
 rw[i6 hF rfl,R5,seq (by simp![ay (show 0<=SL by decide)];rfl),seq (by simp![L3,hw,q1];rfl)];have a1:(h++[Cell.lst [clD (x,j9 cs)]]++[Cell.lst ((r.map λs=>((s,[]):Cl)).map clD)])[↥h]? =some (.lst [clD (x,j9 cs)]):=b6 b7;have ad:=a4b (g:=h++[Cell.lst [clD (x,j9 cs)]]++[Cell.lst ((r.map λs=>((s,[]):Cl)).map clD)]) a1 (b:=↥(h++[Cell.lst [clD (x,j9 cs)]])) b7 (by rw[aa,aa];simp only[length_cons,length_nil];ac_nf);have f1:ev ct (b5 ct F k) (.lst (.o (.tup (.ix (.v 0) (.i 0)>=>.o (.v 2))))) [some T,~~~w,some (.tup ((j9 cs).map .int)),e3] h=.ok (.ref ↥h) (h++[.lst [clD (x,j9 cs)]]):=by simp![t0,ay (show 2<=SL by decide),ay (show 1<=SL by decide),v8];rfl
 rw[D0,a2m,b3f,f1,b9,cm _ _ rfl,b9];simp only[op2,ad,b9];exact a4l ((((Pf.refl h).app _).app _).app _) b7 ⋯ (b6a ((x,j9 cs)::r.map λs=>((s,[]):Cl)))
end
def a6X(cs:List Cs)(p:Str×Cl):Bool:=decide (p.2.1∈Z5 cs p.1)
def y8(cs:List Cs)(bD:List Str)(cells:List Cl):Bool:=decide (↥bD=↥cells)&&(bD.zip cells).all (a6X cs)
theorem b0r:∀(bD:List Str)(cells:List Cl),M5 (bD.map .str) (cells.map clD)=(bD.zip cells).map λp=>D.tup [.str p.1,clD p.2]
 |[],_=>by simp[M5]
 |_::_,[]=>by simp[M5]
 |i::bD,c::cells=>by rw[map_cons,map_cons,M5,b0r bD cells];rfl
variable{cells:List Cl}
section
variable{ct:CT}{F:Nat->Option Fn}{H:HL}(W:PF F)(f38:F 38=some a1k)(f39:F 39=some w8)
include W f38 f39
theorem a6W{k n w:Nat}{T:D}{g:List (Nat×Cell)}{h:AH}(K:HLok H)(A:HallAt h n (R4 H))(hg:gOk g h=true):∀(l:List (Str×Cl)),(∀p∈l,T7 H.sh H.cs p.1)->∀e3 e4,∃o,G0 g (.tp (.nm 3>=>.nm 4>=>.nil)) (exs ct (b5 ct F (k+3)) afB) (l.map λp=>D.tup [.str p.1,clD p.2]) [~~~n,some T,~~~w,e3,e4] h=.ok o h/\((l.all (a6X H.cs)=true/\∃bF,o=.nx bF)∨(l.all (a6X H.cs)=false/\o=.rt (.bl false)))
 |[],_,e3,e4=>⟨_,by rw[map_nil,G0,ay hg],.inl ⟨rfl,_,rfl⟩⟩
 | p ::l,ho,e3,e4=>by
  have fk:=(b2N (ct:=ct) (k:=k) (s:=p.2.1) W f38 f39 K A (ho p aY)).1;obtain⟨o,q1,q2⟩:=a6W K A hg l (λx hx=>ho x (aE _ hx)) (some (.str p.1)) (some (clD p.2));rw[map_cons,G0,ay hg,all_cons];simp only[F7,N5,List.set_cons_succ,List.set_cons_zero]
  by_cases e:p.2.1∈Z5 H.cs p.1
  · have bo:exs ct (b5 ct F (k+3)) afB [~~~n,some T,~~~w,some (.str p.1),some (clD p.2)] h=.ok (.nx [~~~n,some T,~~~w,some (.str p.1),some (clD p.2)]) h:=by unfold afB;simp![Z3.1,fk,ba e,fK]
    rw[bo,b9,show a6X H.cs p=true from ba e,fT];exact⟨o,q1,q2⟩
  · have bo:exs ct (b5 ct F (k+3)) afB [~~~n,some T,~~~w,some (.str p.1),some (clD p.2)] h=.ok (.rt (.bl false)) h:=by unfold afB;simp![Z3.1,fk,bw e,gq]
    rw[bo,b9,show a6X H.cs p=false from bw e,fW];exact⟨_,rfl,.inr ⟨rfl,rfl⟩⟩
theorem b0o{k:Nat}(f42:F 42=some W6)(K:HLok H)(A:HallAt h n (R4 H))(ho:∀i∈bD,T7 H.sh H.cs i)(hw:h[w]? =some (.lst (cells.map clD))):b5 ct F (k+4) 42 [.ref n,.tup (bD.map .str),.ref w] h=.ok (.bl (y8 H.cs bD cells)) h:=by
 have l1:biD .len h [.tup (bD.map .str)]=.ok ⇑↥bD h:=by show R.ok (D.int (↥(bD.map D.str):Int)) h=_;rw[aa]
 have l2:biD .len h [.ref w]=.ok ⇑↥cells h:=by rw[n5 hw,aa]
 have ne:op2 .ne h ⇑↥bD ⇑↥cells=.ok (.bl (!decide (↥bD=↥cells))) h:=by show R.ok (D.bl (!decide ((↥bD:Int)=(↥cells:Int)))) h=_;congr 3;exact decide_eq_decide.mpr ⟨λe=>by ac_nf,λe=>by ac_nf⟩
 have zi:a6d h (.tup (bD.map .str)) (.ref w)=.ok ((bD.zip cells).map λp=>D.tup [.str p.1,clD p.2],[(w,.lst (cells.map clD))]) h:=by simp only[a6d,U0,hw,b0r]
 obtain⟨o,q1,q2⟩:=a6W (ct:=ct) (k:=k) (w:=w) (T:=.tup (bD.map .str)) (g:=[(w,.lst (cells.map clD))]) W f38 f39 K A (by simp only[gOk,all_cons,all_nil,hw];simp) (bD.zip cells) (λp hp=>ho _ (of_mem_zip hp).1) none none;generalize hT:D.tup (bD.map .str)=T at l1 zi q1⊢;rw[i6 f42 rfl,W6];unfold y8
 by_cases e:↥bD=↥cells
 · rw[seq (by simp![l1,l2,ne,ba e,fK];rfl),ba e,fT];have fr:ex ct (b5 ct F (k+3)) (.for (.tp (.nm 3>=>.nm 4>=>.nil)) (.zip (.v 1) (.v 2)) afB) [~~~n,some T,~~~w,none,none] h=.ok o h:=by simp![zi,q1]
   rcases q2 with⟨a,bF,rfl⟩|⟨a,rfl⟩
   · rw[seq fr,a];simp![];exact r8 rfl
   · rw[D0,fr,a];exact r8 rfl
 · rw[bw e,fW];simp![l1,l2,ne,bw e,gq];exact r8 rfl
end
theorem a1P(k m:Nat)(xs:List D):N4 xs (some (k:Int)) (some ((k+m:Nat):Int))=(xs.drop k).take m:=by
 by_cases h1:k+m<=↥xs
 · rw[W9 k (k+m) xs nofun h1,show k+m-k=m by ac_nf]
 · unfold N4 HT.sIx;simp only;rw[az nofun,az nofun];show(xs.drop (min k ↥xs)).take (min (k+m) ↥xs-min k ↥xs)=_;rw[Nat.min_eq_right (show ↥xs<=k+m by ac_nf)]
   by_cases h:k<=↥xs
   · rw[bc h,bg ⋯,bg (by rw[bx];ac_nf)]
   · rw[Nat.min_eq_right nofun,drop_length,gO nofun];simp
theorem a6l{i m:Nat}(hw:h[w]? =some (.lst (cells.map clD))):slD h (some (i:Int)) (some ((i+m:Nat):Int)) (.ref w)=.ok (.ref ↥h) (h++[.lst (((cells.drop i).take m).map clD)]):=by rw[G4 hw,a1P,←map_drop,←map_take]
theorem a7A{i:Nat}(hw:h[w]? =some (.lst (cells.map clD))):slD h (some (i:Int)) none (.ref w)=.ok (.ref ↥h) (h++[.lst ((cells.drop i).map clD)]):=by rw[G4 hw,M4,←map_drop]
theorem a4c{i:Nat}:op2 .add h ⇑i ⇑j=.ok ⇑(i+j) h:=by rw[Int.natCast_add];rfl
theorem L6{l:List Str}:biD .len h [.tup (l.map .str)]=.ok ⇑↥l h:=by show R.ok (D.int (↥(l.map D.str):Int)) h=_;rw[aa]
theorem a1x(r:Ru)(h:AH):ixD h (ruD r) (.int 1)=.ok (.str r.f) h/\ixD h (ruD r) (.int 2)=.ok (.tup (r.b.map .str)) h/\ixD h (ruD r) (.int 3)=.ok (.tup (r.c.map .str)) h/\ixD h (ruD r) (.int 4)=.ok (.tup (r.a.map .str)) h/\ixD h (ruD r) (.int 5)=.ok (.tup (r.o.map .str)) h:=⟨ix_tup (i:=1) rfl,ix_tup (i:=2) rfl,ix_tup (i:=3) rfl,ix_tup (i:=4) rfl,ix_tup (i:=5) rfl⟩
def a4F(cs:List Cs)(r:Ru)(ps cells:List Cl)(i:Nat):Bool:=y8 cs r.c ((cells.drop i).take ↥r.c)&&(y8 cs r.b (ps.drop (↥ps-↥r.b))&&y8 cs r.a ((cells.drop (i+↥r.c)).take ↥r.a))
variable{ps:List Cl}
section
variable{ct:CT}{F:Nat->Option Fn}{H:HL}(W:PF F)(f38:F 38=some a1k)(f39:F 39=some w8)(f42:F 42=some W6)
include W f38 f39 f42
theorem a6M{k p i:Nat}(f41:F 41=some U3)(K:HLok H)(A:HallAt h n (R4 H))(ro:RuOk H.sh H.cs H.fe r)(hp:h[p]? =some (.lst (ps.map clD)))(hw:h[w]? =some (.lst (cells.map clD))):b5 ct F (k+5) 41 [.ref n,ruD r,.ref p,.ref w,.int (i:Int)] h=.ok (.bl (a4F H.cs r ps cells i)) h:=by
 have i2:=λh=>(a1x r h).2.1;have i3:=λh=>(a1x r h).2.2.1;have i4:=λh=>(a1x r h).2.2.2.1;rw[i6 f41 rfl];simp only[U3];have af:=fun(bD:List Str) (ho:∀i∈bD,T7 H.sh H.cs i) (cl:List Cl) (g:AH) (q:Pf h g)=>b0o (ct:=ct) (k:=k) (n:=n) (w:=↥g) (bD:=bD) (cells:=cl) (h:=g++[.lst (cl.map clD)]) W f38 f39 f42 K ((show HallAt g n (R4 H) from⟨q.at A.o,q.at A.c1,q.at A.c2,q.at A.c3,q.at A.c4,q.at A.c5,q.at A.c6,q.at A.c7,q.at A.c8⟩).app _) ho b7;generalize ruD r=rr at i2 i3 i4⊢;rw[seq (by simp![i3,L6,a4c];rfl)];unfold a4F;have a1:=af r.c ro.c ((cells.drop i).take ↥r.c) h (.refl h);cases e1:y8 H.cs r.c ((cells.drop i).take ↥r.c) with
 |false=>
  rw[e1] at a1;simp![i3,a6l hw,a1,gq];exact gc1 rfl
 | true=>
  rw[e1] at a1;rw[seq (by simp![i3,a6l hw,a1,fK];rfl)];have q1:=(Pf.refl h).app [.lst (((cells.drop i).take ↥r.c).map clD)];generalize h++[Cell.lst (((cells.drop i).take ↥r.c).map clD)]=g at q1⊢;have hp:=q1.at hp;have hw:=q1.at hw;have mx:∀g,biD .max g [.int 0,.int ((↥ps:Int)-(↥r.b:Int))]=.ok ⇑(↥ps-↥r.b) g:=λg=>by show R.ok (D.int (if(↥ps:Int)-(↥r.b:Int)>0 then(↥ps:Int)-(↥r.b:Int) else 0)) g=_;congr 2;split<;>ac_nf
  have sb:op2 .sub g ⇑↥ps ⇑↥r.b=.ok (.int ((↥ps:Int)-(↥r.b:Int))) g:=rfl;have l2:biD .len g [.ref p]=.ok ⇑↥ps g:=by rw[n5 hp,aa]
  have a2:=af r.b ro.b (ps.drop (↥ps-↥r.b)) g q1;cases e2:y8 H.cs r.b (ps.drop (↥ps-↥r.b)) with
  |false=>
   rw[e2] at a2;simp![i2,L6,l2,sb,mx,a7A hp,a2,gq];exact b5z (q1.app _) rfl
  |true=>
   rw[e2] at a2;rw[seq (by simp![i2,L6,l2,sb,mx,a7A hp,a2,fK];rfl)];have q2:=q1.app [.lst ((ps.drop (↥ps-↥r.b)).map clD)];have hw:=b6 (g:=[.lst ((ps.drop (↥ps-↥r.b)).map clD)]) hw;generalize g++[Cell.lst ((ps.drop (↥ps-↥r.b)).map clD)]=g2 at q2 hw⊢;have a3:=af r.a ro.a ((cells.drop (i+↥r.c)).take ↥r.a) g2 q2;simp![i4,L6,a4c,a6l hw,a3];exact b5z (q2.app _) rfl
end
def a0o(p:List Int×Int)(c:Cl):List Int×Int:=match c.2 with
 |[]=>(p.1++[p.2],p.2)
 |x::r=>(p.1++[x],(x::r).getLastD 0)
def hmI(cs:List Cl):List Int:=(cs.foldl a0o ([],0)).1
def HdL:List Cl->Prop
 |[]=>True
 |c::_=>c.2≠[]
theorem a8U:∀(cs:List Cl)(q:List Int×Int),cs.foldl G9 (q.1.map .int,.int q.2)=((cs.foldl a0o q).1.map .int,.int (cs.foldl a0o q).2)
 |[],q=>rfl
 |c::r,q=>by rw[foldl_cons,foldl_cons,←a8U r (a0o q c)];congr 1;unfold G9 a0o;cases c.2<;>simp
theorem b8p{cs:List Cl}(h:HdL cs):hmD cs=(hmI cs).map .int:=by
 cases cs with
 |nil=>rfl
 | cons c r=>
  unfold hmD hmI;rw[foldl_cons,foldl_cons];have e:G9 ([],.non) c=(([a0o ([],0) c].flatMap (·.1)).map .int,.int (a0o ([],0) c).2):=by
   unfold G9 a0o;have h:c.2≠[]:=h;cases q:c.2 with
   |nil=>exact absurd q h
   |cons x t=>simp
  rw[e,List.flatMap_singleton,a8U]
def a1l(H:HL)(ss:List Sg)(r:Ru)(ps cells:List Cl)(i:Nat)(c:Cl):Bool:=(decide (c.1∈Z5 H.cs (r.c.headD ""))&&a4F H.cs r ps cells i)&&(((hmI cells).drop i).take ↥r.c).all (K4 H.fe ss r.f)
noncomputable def dnL(H:HL)(ss:List Sg)(r:Ru)(cells:List Cl):Nat->Nat->List Cl->Nat->List Cl×Nat
 |0,_,ps,n=>(ps,n)
 |m+1,i,ps,n=>match cells[i]? with
  |none=>(ps,n)
  |some c=>if a1l H ss r ps cells i c=true then dnL H ss r cells m (i+↥r.c) (ps++K9 r.o ((cells.drop i).take ↥r.c)) (n+1) else dnL H ss r cells m (i+1) (ps++[c]) n
def T4(H:HL)(ss:List Sg)(cells:List Cl)(r:Ru):List Cl×Nat:=dnL H ss r cells ↥cells 0 [] 0
theorem b0F(o:List Str)(cs:List Cl):j9 (K9 o cs)=j9 cs:=by
 have:∀l:List Str,((l.map λs=>((s,[]):Cl)).map (·.2)).flatten=[]:=λl=>by
  induction l with
  |nil=>rfl
  |cons a t ih=>rw[map_cons,map_cons,List.flatten_cons,ih];rfl
 show j9 cs++(((o.drop 1).map λs=>((s,[]):Cl)).map (·.2)).flatten=_;rw[this,aZ]
theorem a1D(a b:List Cl):j9 (a++b)=j9 a++j9 b:=by unfold j9;rw[ao,List.flatten_append]
theorem a8I(cs:List Cl)(i m:Nat):↥(j9 ((cs.drop i).take m))<=↥(j9 cs):=by
 have:=a7N (cs.drop i) m;have e:j9 cs=j9 (cs.take i)++j9 (cs.drop i):=by rw[←a1D,take_append_drop]
 rw[e,aq];ac_nf
theorem b2m{a b:List Cl}(h1:HdL a)(h2:a=[]->HdL b):HdL (a++b):=by
 cases a with
 |nil=>exact h2 rfl
 |cons x t=>exact h1
theorem a8c{H:HL}{ss:List Sg}{r:Ru}{cells:List Cl}(hc:1<=↥r.c)(h3:↥r.o<=3)(ho:HdL cells):∀(m i:Nat)(ps:List Cl)(n:Nat),↥cells<=i+m->HdL ps->(ps=[]->i=0)->j9 (dnL H ss r cells m i ps n).1=j9 ps++j9 (cells.drop i)/\HdL (dnL H ss r cells m i ps n).1/\(dnL H ss r cells m i ps n).1.length<=↥ps+3*(↥cells-i)
 |0,i,ps,n,hm,hp,_=>by rw[gO nofun];exact⟨(aZ _).symm,hp,by show ↥ps<=_;ac_nf⟩
 | m + 1,i,ps,n,hm,hp,he=>by
  unfold dnL;cases e:cells[i]? with
  |none=>
   have:=List.getElem?_eq_none_iff.mp e;rw[gO nofun];exact⟨(aZ _).symm,hp,by show ↥ps<=_;ac_nf⟩
  | some c=>
   obtain⟨hi,rfl⟩:=ac.mp e;have h0:ps=[]->cells[i].2≠[]:=λz=>by
    have z:=he z;subst z;cases cells with
    |nil=>cases hi
    |cons a t=>exact ho
   simp only;split
   · have hd:HdL (ps++K9 r.o ((cells.drop i).take ↥r.c)):=b2m hp λz=>by show j9 _≠[];obtain⟨m',hm'⟩:∃m',↥r.c=m'+1:=⟨↥r.c-1,by ac_nf⟩;rw[hm',drop_eq_getElem_cons hi,List.take_succ_cons];show cells[i].2++_≠[];have:=h0 z;intro q;exact this (List.append_eq_nil_iff.mp q).1
     obtain⟨a1,a2,a3⟩:=a8c (ss:=ss) hc h3 ho m (i+↥r.c) (ps++K9 r.o ((cells.drop i).take ↥r.c)) (n+1) nofun hd (λz=>by have:=(List.append_eq_nil_iff.mp z).2;cases this)
     refine⟨?_,a2,?_⟩
     · rw[a1,a1D,b0F,aA,←a1D,←List.drop_drop,take_append_drop]
     · refine aR a3 ?_;rw[aq];have:↥(K9 r.o ((cells.drop i).take ↥r.c))=1+(↥r.o-1):=by unfold K9;rw[length_cons,aa,bx];ac_nf
       ac_nf
   · have hd:HdL (ps++[cells[i]]):=b2m hp λz=>h0 z;obtain⟨a1,a2,a3⟩:=a8c (ss:=ss) hc h3 ho m (i+1) (ps++[cells[i]]) n nofun hd (λz=>by have:=(List.append_eq_nil_iff.mp z).2;cases this)
     refine⟨?_,a2,?_⟩
     · rw[a1,a1D,aA,←a1D,drop_eq_getElem_cons hi];rfl
     · refine aR a3 ?_;rw[aq,length_singleton];ac_nf
theorem b3m{H:HL}(hc:1<=↥r.c)(h3:↥r.o<=3)(ho:HdL cells):j9 (T4 H ss cells r).1=j9 cells/\HdL (T4 H ss cells r).1/\(T4 H ss cells r).1.length<=3*↥cells:=by obtain⟨a,b,c⟩:=a8c (H:=H) (ss:=ss) hc h3 ho ↥cells 0 [] 0 nofun trivial (λ_=>rfl);refine⟨a,b,?_⟩;rw[length_nil] at c;unfold T4;ac_nf
theorem a5s(e:h[n]? =some (.lst xs)):mtT .extend h (.ref n)=true:=by simp only[mtT,rdL,e,Option.isSome_some]
theorem b2V{k:Nat}{ys:List D}(e1:h[n]? =some (.lst xs))(e2:h[k]? =some (.lst ys))(hl:↥xs+↥ys<=1000000):mtD .extend h (.ref n) [.ref k]=.ok .non (h.set n (.lst (xs++ys))):=by simp only[mtD,e1,e2];rw[ay (show ↥xs+↥ys<=16777216 by ac_nf)]
theorem HallAt.pf{H:HD}(A:HallAt h n H)(q:Pf h g):HallAt g n H:=⟨q.at A.o,q.at A.c1,q.at A.c2,q.at A.c3,q.at A.c4,q.at A.c5,q.at A.c6,q.at A.c7,q.at A.c8⟩
structure DF(F:Nat->Option Fn):Prop where
 f38:F 38=some a1k
 f39:F 39=some w8
 f40:F 40=some a7Y
 f41:F 41=some U3
 f42:F 42=some W6
 f43:F 43=some R5
 f44:F 44=some Y6
 f45:F 45=some J5
 f46:F 46=some a1M
 f47:F 47=some L8
variable{hm:List Int}{qs:List Cl}{cnt:Nat}
section
variable{ct:CT}{F:Nat->Option Fn}{H:HL}
structure DSt(h g:AH)(ps:List Cl)(hm:List Int):Prop where
 pf:Pf h g
 p:g[↥h]? =some (.lst (ps.map clD))
 q:g[↥h+1]? =some (.lst (hm.map .int))
theorem DSt.app(S:DSt h g ps hm)(t:AH):DSt h (g++t) ps hm:=⟨S.pf.app t,b6 S.p,b6 S.q⟩
theorem DSt.put(S:DSt h g ps hm):DSt h (g.set ↥h (.lst ((ps++qs).map clD))) (ps++qs) hm:=⟨S.pf.set (aj _),z9 S.p,b8 nofun S.q⟩
theorem a1s{o:List Str}(h1:1<=↥o):(∀h,ixD h (.tup (o.map .str)) (.int 0)=.ok (.str (o.headD "")) h)/\(∀h,slD h (some 1) none (.tup (o.map .str))=.ok (.tup ((o.drop 1).map .str)) h):=by
 cases o with
 |nil=>cases h1
 |cons x t=>
  refine⟨λh=>ix_tup (i:=0) rfl,λh=>?_⟩;have c:=M4 1 ((x::t).map D.str);rw[←map_drop] at c;exact fN (λl=>R.ok (D.tup l) h) c
variable(W:PF F)(Q:DF F)
include W Q
theorem b0h{k s i:Nat}{T:D}{e9 e10:Option D}(hT:T=.tup ((Z5 H.cs (r.c.headD "")).map .str))(K:HLok H)(A:HallAt h n (R4 H))(ro:RuOk H.sh H.cs H.fe r)(hw:h[w]? =some (.lst (cells.map clD)))(hs:h[s]? =some (.lst (ss.map sgD)))(hl:↥cells<=100000)(hL:↥(j9 cells)<=1000)(hp:↥ps<=3*i)(S:DSt h g ps (hmI cells))(hi:i<↥cells):
 ∃g' e9' eV,exs ct (b5 ct F (k+5)) dnB [~~~n,some (ruD r),~~~w,~~~s,~~~↥h,some (.ref (↥h+1)),some T,i⁻¹,cnt⁻¹,e9,e10] g=
  .ok (.nx [~~~n,some (ruD r),~~~w,~~~s,~~~↥h,some (.ref (↥h+1)),some T,some ⇑(if a1l H ss r ps cells i cells[i]=true then i+↥r.c else i+1),some ⇑(if a1l H ss r ps cells i cells[i]=true then cnt+1 else cnt),e9',eV]) g'/\DSt h g' (if a1l H ss r ps cells i cells[i]=true then ps++K9 r.o ((cells.drop i).take ↥r.c) else ps++[cells[i]]) (hmI cells):=by
 obtain⟨i1,i2,i3,i4,i5⟩:(∀h,_)/\(∀h,_)/\(∀h,_)/\(∀h,_)/\(∀h,_):=⟨λh=>(a1x r h).1,λh=>(a1x r h).2.1,λh=>(a1x r h).2.2.1,λh=>(a1x r h).2.2.2.1,λh=>(a1x r h).2.2.2.2⟩;have fi:=a6M (ct:=ct) (k:=k) (i:=i) W Q.f38 Q.f39 Q.f42 Q.f41 K (A.pf S.pf) ro S.p (S.pf.at hw);have c0:ixD g (.ref w) ⇑i=.ok (clD cells[i]) g:=o0 (S.pf.at hw) (by rw[ak,ai hi];rfl);have inT:op2 .isin g (.str cells[i].1) T=.ok (.bl (decide (cells[i].1∈Z5 H.cs (r.c.headD "")))) g:=by subst hT;simp only[op2,M9];rw[ay (by rw[a0M];rfl),a1F];simp
 have hsl:slD g (some (i:Int)) (some ((i+↥r.c:Nat):Int)) (.ref (↥h+1))=.ok (.ref ↥g) (g++[.lst ((((hmI cells).drop i).take ↥r.c).map .int)]):=by rw[G4 S.q,a1P,←map_drop,←map_take]
 have c4:=ro.c4;have o3:=ro.o3;have S1:=S.app [.lst ((((hmI cells).drop i).take ↥r.c).map .int)];have oa:=b1H (ct:=ct) (k:=k+3) (ls:=((hmI cells).drop i).take ↥r.c) Q.f46 Q.f47 (A.pf S1.pf) (S1.pf.at hs) b7 ro.fe (by rw[aM];ac_nf);generalize ruD r=rr at i1 i2 i3 i4 i5 fi⊢;have apC:∀(g:AH),DSt h g ps (hmI cells)->∀e9 e10,exs ct (b5 ct F (k+5)) b8H [~~~n,some rr,~~~w,~~~s,~~~↥h,some (.ref (↥h+1)),some T,i⁻¹,cnt⁻¹,e9,e10] g=.ok (.nx [~~~n,some rr,~~~w,~~~s,~~~↥h,some (.ref (↥h+1)),some T,some ⇑(i+1),cnt⁻¹,e9,e10]) (g.set ↥h (.lst ((ps++[cells[i]]).map clD))):=λg S e9 e10=>by have c0:ixD g (.ref w) ⇑i=.ok (clD cells[i]) g:=o0 (S.pf.at hw) (by rw[ak,ai hi];rfl);unfold b8H;simp![C2 S.p,c0,K0 S.p (by rw[aa];ac_nf),a4c (j:=1)];rw[ao];rfl
 unfold dnB;rw[seq (by simp![i3,L6,a4c];rfl)];rw[seq (bF:=[~~~n,some rr,~~~w,~~~s,~~~↥h,some (.ref (↥h+1)),some T,i⁻¹,cnt⁻¹,some ⇑(i+↥r.c),some (.bl (decide (cells[i].1∈Z5 H.cs (r.c.headD ""))&&a4F H.cs r ps cells i))]) (h':=g) (by
  cases e:decide (cells[i].1∈Z5 H.cs (r.c.headD "")) with
  |false=>
   rw[e] at inT;simp![c0,Z3.1,inT,fW]
  |true=>
   rw[e] at inT;simp![c0,Z3.1,inT,fi,fT])]
 unfold a1l;cases e1:decide (cells[i].1∈Z5 H.cs (r.c.headD ""))&&a4F H.cs r ps cells i with
 |false=>
  rw[az ⋯,az ⋯,az ⋯];refine⟨_,some ⇑(i+↥r.c),some (.bl false),?_,S.put⟩;simp![apC g S]
 | true=>
  cases e2:(((hmI cells).drop i).take ↥r.c).all (K4 H.fe ss r.f) with
  |false=>
   rw[e2] at oa;rw[az ⋯,az ⋯,az ⋯];refine⟨_,some ⇑(i+↥r.c),some (.bl true),?_,S1.put⟩;simp![i1,hsl,oa,apC _ S1]
  | true=>
   rw[e2] at oa;simp only[gD,fU];have S2:=S1.app [.lst (((cells.drop i).take ↥r.c).map clD)];obtain⟨t0,t1⟩:=a1s o3.1;have tc:=b6P (ct:=ct) (k:=k+4) (w:=↥(g++[Cell.lst ((((hmI cells).drop i).take ↥r.c).map .int)])) (cs:=(cells.drop i).take ↥r.c) (h:=g++[.lst ((((hmI cells).drop i).take ↥r.c).map .int)]++[.lst (((cells.drop i).take ↥r.c).map clD)]) Q.f43 t0 t1 (by rw[bx];ac_nf) b7 (by have:=a8I cells i ↥r.c;ac_nf);have S3:=S2.app [.lst ((K9 r.o ((cells.drop i).take ↥r.c)).map clD)];have sl2:=a6l (i:=i) (m:=↥r.c) (S1.pf.at hw);have tcl:↥(K9 r.o ((cells.drop i).take ↥r.c))<=3:=by unfold K9;rw[length_cons,aa,bx];ac_nf
   have ex:=b2V S3.p (k:=↥(g++[Cell.lst ((((hmI cells).drop i).take ↥r.c).map .int)]++[Cell.lst (((cells.drop i).take ↥r.c).map clD)])) b7 (by rw[aa,aa];ac_nf);have mt:=a5s S1.p;refine⟨_,some ⇑(i+↥r.c),some (.bl true),?_,S3.put⟩;rw[ao];change b5 ct F (k+4+1) 43 _ _=.ok _ (_++[.lst ((K9 r.o ((cells.drop i).take ↥r.c)).map clD)]) at tc;generalize K9 r.o ((cells.drop i).take ↥r.c)=tcs at*
   have b1:exs ct (b5 ct F (k+5)) b8I [~~~n,some rr,~~~w,~~~s,~~~↥h,some (.ref (↥h+1)),some T,i⁻¹,cnt⁻¹,some ⇑(i+↥r.c),some (.bl true)] (g++[.lst ((((hmI cells).drop i).take ↥r.c).map .int)])=.ok (.nx [~~~n,some rr,~~~w,~~~s,~~~↥h,some (.ref (↥h+1)),some T,some ⇑(i+↥r.c),some ⇑(cnt+1),some ⇑(i+↥r.c),some (.bl true)]) ((g++[Cell.lst ((((hmI cells).drop i).take ↥r.c).map .int)]++[Cell.lst (((cells.drop i).take ↥r.c).map clD)]++[Cell.lst (tcs.map clD)]).set ↥h (.lst (ps.map clD++tcs.map clD))):=by unfold b8I;simp![mt,i5,sl2,tc,ex,a4c (j:=1)];rfl
   simp![i1,hsl,oa,b1]
theorem a3S{k n w s:Nat}{r:Ru}{cells:List Cl}{ss:List Sg}{h:AH}{T:D}(hT:T=.tup ((Z5 H.cs (r.c.headD "")).map .str))(K:HLok H)(A:HallAt h n (R4 H))(ro:RuOk H.sh H.cs H.fe r)(hw:h[w]? =some (.lst (cells.map clD)))(hs:h[s]? =some (.lst (ss.map sgD)))(hl:↥cells<=100000)(hL:↥(j9 cells)<=1000):∀(m i cnt ft:Nat)(ps:List Cl)(g:AH)(e9 e10:Option D),↥cells<=i+m->m<ft->↥ps<=3*i->DSt h g ps (hmI cells)→
 ∃g' e7 e9' eV,a4e (tst ct (b5 ct F (k+5)) dnT) (exs ct (b5 ct F (k+5)) dnB) ft [~~~n,some (ruD r),~~~w,~~~s,~~~↥h,some (.ref (↥h+1)),some T,i⁻¹,cnt⁻¹,e9,e10] g=
  .ok (.nx [~~~n,some (ruD r),~~~w,~~~s,~~~↥h,some (.ref (↥h+1)),some T,e7,some (.int ((dnL H ss r cells m i ps cnt).2:Int)),e9',eV]) g'/\DSt h g' (dnL H ss r cells m i ps cnt).1 (hmI cells)
 |m,i,cnt,0,ps,g,e9,e10,_,hf,_,_=>absurd hf nofun
 | m, i,cnt,f+1,ps,g,e9,e10,hm,hf,hp,S=>by
  have l2:biD .len g [.ref w]=.ok ⇑↥cells g:=by rw[n5 (S.pf.at hw),aa]
  have lt:op2 .lt g ⇑i ⇑↥cells=.ok (.bl (decide (i<↥cells))) g:=by show R.ok (D.bl (decide ((i:Int)<(↥cells:Int)))) g=_;congr 2;exact decide_eq_decide.mpr ⟨λe=>by ac_nf,λe=>by ac_nf⟩
  have t:tst ct (b5 ct F (k+5)) dnT [~~~n,some (ruD r),~~~w,~~~s,~~~↥h,some (.ref (↥h+1)),some T,i⁻¹,cnt⁻¹,e9,e10] g=.ok (decide (i<↥cells)) g:=by unfold dnT;simp![l2,lt]
  rw[a4e,t,b9]
  by_cases hi:i<↥cells
  · rw[ay (ba hi)];obtain⟨m,rfl⟩:∃m',m=m'+1:=⟨m-1,by ac_nf⟩;obtain⟨g',e9',eV,q1,q2⟩:=b0h (ct:=ct) (k:=k) (cnt:=cnt) (e9:=e9) (e10:=e10) W Q hT K A ro hw hs hl hL hp S hi;rw[q1,b9];have c4:=ro.c4;have o3:=ro.o3;have e:dnL H ss r cells (m+1) i ps cnt=(if a1l H ss r ps cells i cells[i]=true then dnL H ss r cells m (i+↥r.c) (ps++K9 r.o ((cells.drop i).take ↥r.c)) (cnt+1) else dnL H ss r cells m (i+1) (ps++[cells[i]]) cnt):=by rw[dnL,ai hi]
    rw[e]
    by_cases on:a1l H ss r ps cells i cells[i]=true
    · simp only[ay on] at q2⊢;refine a3S hT K A ro hw hs hl hL m (i+↥r.c) (cnt+1) f _ g' e9' eV nofun nofun ?_ q2;rw[aq];unfold K9;rw[length_cons,aa,bx];ac_nf
    · simp only[az on] at q2⊢;exact a3S hT K A ro hw hs hl hL m (i+1) cnt f _ g' e9' eV nofun nofun (by rw[aq,length_singleton];ac_nf) q2
  · rw[az (by rw[bw hi];decide)];have e:dnL H ss r cells m i ps cnt=(ps,cnt):=by
     cases m with
     |zero=>rfl
     |succ m=>rw[dnL,List.getElem?_eq_none_iff.mpr nofun]
    rw[e];exact⟨g,_,_,_,rfl,S⟩
theorem b5S{k s:Nat}(K:HLok H)(A:HallAt h n (R4 H))(ro:RuOk H.sh H.cs H.fe r)(hw:h[w]? =some (.lst (cells.map clD)))(hs:h[s]? =some (.lst (ss.map sgD)))(dQ:∀p∈ss,p.f∈H.fe.map (·.1))(hl:↥cells<=100000)(hL:↥(j9 cells)<=1000)(ho:HdL cells):
 ∃g,b5 ct F (k+6) 40 [.ref n,ruD r,.ref w,.ref s] h=.ok (.tup [.ref ↥h,.int ((T4 H ss cells r).2:Int)]) g/\Pf h g/\g[↥h]? =some (.lst ((T4 H ss cells r).1.map clD)):=by
 have c4:=ro.c4;have cf:=b0l (ct:=ct) (k:=k+4) Q.f45 A hs dQ;have hm:=b2l (ct:=ct) (k:=k+4) (h:=h++[.lst []]) Q.f44 (b6 hw) hl;rw[b8p ho,show(h++[Cell.lst []]).length=h.length+1 by simp] at hm;have S:DSt h (h++[.lst []]++[.lst ((hmI cells).map .int)]) [] (hmI cells):=⟨((Pf.refl h).app _).app _,b6 b7,by rw[show h.length+1=(h++[Cell.lst []]).length by simp];exact b7⟩;have rc:∀h,ixD h (.tup (r.c.map .str)) (.int 0)=.ok (.str (r.c.headD "")) h:=(a1s c4.1).1;have hm0:r.c.headD ""∈r.c:=by
  cases e:r.c with
  |nil=>rw[e] at c4;exact absurd c4.1 ∅
  |cons a t=>exact .head _
 have fs:=(b2N (ct:=ct) (k:=k+3) (s:="") W Q.f38 Q.f39 K (A.pf S.pf) (ro.c _ hm0)).2;have i3:=λh=>(a1x r h).2.2.1;obtain⟨g',e7,e9,e10,q1,q2⟩:=a3S (ct:=ct) (k:=k) W Q rfl K A ro hw hs hl hL ↥cells 0 0 a4V [] _ none none nofun (by show _<1000000;ac_nf) (gd _) S;refine⟨g',?_,q2.pf,q2.p⟩;rw[i6 Q.f40 rfl,a7Y];rw[gc0];generalize ruD r=rr at i3 q1⊢;rw[seq (by simp![cf];rfl),seq (by simp![v8];rfl),seq (by simp![hm];rfl),seq (by simp![i3,rc,fs];rfl),seq (by simp![];rfl),seq (by simp![];rfl)];rw[show((0:Nat):Int)=0 from rfl] at q1;rw[seq (b2W.trans q1)];simp![ay (show 2<=SL by decide)];rfl
end
def fcL:Nat->List Str->List Cl
 |_,[]=>[]
 |i,s::r=>(s,[(i:Int)])::fcL (i+1) r
def fcF(x:D):D:=match x with
 |.tup [a,b]=>.tup [b,.tup [a]]
 |_=>.non
theorem b2S:∀(fs:List Str)(i:Nat),(u5 i (fs.map .str)).map fcF=(fcL i fs).map clD
 |[],_=>rfl
 |s::r,i=>by rw[map_cons,u5,map_cons,b2S r (i+1)];rfl
theorem b2T:∀(fs:List Str)(i:Nat),↥(fcL i fs)=↥fs/\↥(j9 (fcL i fs))=↥fs
 |[],_=>⟨rfl,rfl⟩
 |s::r,i=>by obtain⟨a,b⟩:=b2T r (i+1);refine⟨by rw[fcL,length_cons,a];rfl,?_⟩;show((i:Int)::j9 (fcL (i+1) r)).length=_;rw[length_cons,b];rfl
theorem c0P(fs:List Str)(i:Nat):HdL (fcL i fs):=by
 cases fs with
 |nil=>trivial
 |cons s r=>exact cons_ne_nil _ _
theorem b3l:∀{l:List Str}{i:Nat}{x:D},x∈u5 i (l.map .str)->∃(j:Nat)(s:Str),x=.tup [.int (j:Int),.str s]
 |s::r,i,x,h=>by
  rw[map_cons,u5] at h;rcases aF.mp h with rfl|h
  · exact⟨i,s,rfl⟩
  · exact b3l h
theorem a5N:∀(l:List D)(i:Nat),↥(u5 i l)=↥l
 |[],_=>rfl
 |x::r,i=>by rw[u5,length_cons,length_cons,a5N r]
variable{h1:AH}
section
variable{ct:CT}{F:Nat->Option Fn}{H:HL}
theorem b2P{fs:List Str}(ha:ev ct c a env h=.ok (.ref w) h1)(hw:h1[w]? =some (.lst (fs.map .str)))(hl:↥fs<=1000):ev ct c (frE a) env h=.ok (.ref ↥h1) (h1++[.lst ((fcL 0 fs).map clD)]):=by
 unfold frE;rw[n9 (l:=u5 0 (fs.map .str)) (g:=[(w,.lst (fs.map .str))]) (h1:=h1) (by rw[a6Y,ha,b9];simp only[U5,hw]) (by simp only[gOk,all_cons,all_nil,hw];simp) fcF (λx=>match x with
  |.tup [a,b]=>[some a,some b]
  |_=>[]) (λx hx=>by
  obtain⟨j,s,rfl⟩:=b3l hx;refine⟨rfl,?_⟩;simp![ay (show 2<=SL by decide),ay (show 1<=SL by decide)];rfl) (by rw[a5N,aa];show _<=16777216;ac_nf),b2S]
theorem b1q{a t:Nat}(h:a*3^(t+1)<=100000)(hb:b<=3*a):b*3^t<=100000:=by refine aR (Nat.mul_le_mul_right _ hb) ?_;rw[Nat.pow_succ] at h;rw[Nat.mul_comm 3 a,Nat.mul_assoc,Nat.mul_comm 3];exact h
theorem b1r{a t:Nat}(h:a*3^t<=100000):a<=100000:=aR (Nat.le_mul_of_pos_right _ (Nat.pow_pos ∅)) h
end
theorem b7a(hw:h[w]? =some (.rol xs)):slD h lo hi (.ref w)=.ok (.ref ↥h) (h++[.lst (N4 xs lo hi)]):=by
 have:rdL h w=some xs:=by unfold rdL;rw[hw]
 simp only[slD,this,v8]
theorem a9c:∀{l:List Int}{i:Nat}{x:D},x∈u5 i (l.map .int)->∃(j:Nat)(z:Int),x=.tup [.int (j:Int),.int z]/\j<i+↥l
 |s::r,i,x,h=>by
  rw[map_cons,u5] at h;rw[length_cons];rcases aF.mp h with rfl|h
  · exact⟨i,s,rfl,by ac_nf⟩
  · obtain⟨j,z,a,b⟩:=a9c h;exact⟨j,z,a,by ac_nf⟩
section
variable{ct:CT}{F:Nat->Option Fn}{H:HL}
theorem a7h{α:Type}{g:List (Nat×Cell)}{p:Pat}{e:o8->AH->R D}{env0:o8}{h:AH}{c:CF}(hg:gOk g h=true)(f:α->D)(P:α->Prop):∀(l bM:List D),(∀x∈l,∃en y,F7 p x env0=some en/\e en h=.ok (f y) h/\P y)->↥bM+↥l<=SL->∃ys:List α,↥ys=↥l/\(∀y∈ys,P y)/\Q1 g p (tst ct c .yes) e env0 l bM h=.ok (bM++ys.map f) h
 |[],bM,_,_=>⟨[],rfl,(λ_ h=>nomatch h),by rw[Q1,ay hg];simp⟩
 |x::r,bM,hx,hl=>by
  rw[length_cons] at hl;obtain⟨en,y,h1,h2,h3⟩:=hx x aY;obtain⟨ys,a1,a2,a3⟩:=a7h (c:=c) hg f P r (bM++[f y]) (λz hz=>hx z (aE _ hz)) (by rw[aq,length_singleton];ac_nf);refine⟨y::ys,by rw[length_cons,length_cons,a1],λz hz=>?_,?_⟩
  · rcases aF.mp hz with rfl|hz
    · exact h3
    · exact a2 z hz
  · rw[Q1,ay hg,h1];simp only;rw[a4W,b9,ay rfl,h2,b9,ay nofun,a3,aA];rfl
theorem b7e{k d m:Nat}(bN:F 202=some p8)(hF:F 216=some O2)(hr:h[n]? =some (.rol (ns.map .int)))(hd:h[d]? =some (.lst (ls.map ltD)))(h1:1<=↥ls)(hm:m<=50):
 ∃row:List Str,row.length=↥((ns.drop 6).take m)/\(∀x∈row,x∈ls.map (·.n))/\b5 ct F (k+2) 216 [.ref n,.int 6,.int (m:Int),.ref d] h=.ok (.ref ↥h) (h++[.lst (row.map .str)]):=by
 have sl:slD h (some 6) (some ((6+m:Nat):Int)) (.ref n)=.ok (.ref ↥h) (h++[.lst (((ns.drop 6).take m).map .int)]):=by rw[b7a hr,map_take,map_drop];exact fN (λl=>R.ok (D.ref ↥h) (h++[Cell.lst l])) (a1P 6 m (ns.map .int))
 have zl:↥((ns.drop 6).take m)<=50:=by rw[aM];ac_nf
 generalize (ns.drop 6).take m=zs at sl zl⊢;have hd:=b6 (g:=[.lst (zs.map .int)]) hd;have ll:biD .len (h++[.lst (zs.map .int)]) [.ref d]=.ok ⇑↥ls (h++[.lst (zs.map .int)]):=by rw[n5 hd,aa]
 obtain⟨row,a1,a2,a3⟩:=a7h (ct:=ct) (c:=b5 ct F (k+1)) (g:=[(↥h,.lst (zs.map .int))]) (p:=.tp (.nm 0>=>.nm 1>=>.nil)) (e:=ev ct (b5 ct F (k+1)) (.ix (.ix (.v 2) (.bin .mod (.call 202 (.v 1>=>.o (.v 0))) (.bi .len (.o (.v 2))))) (.i 0))) (env0:=[none,none,~~~d]) (h:=h++[.lst (zs.map .int)]) (by simp only[gOk,all_cons,all_nil,b7];simp) D.str (λx=>x∈ls.map (·.n)) (u5 0 (zs.map .int)) [] (λx hx=>by obtain⟨j,z,rfl,hj⟩:=a9c hx;obtain⟨M,hM⟩:=B8 (ct:=ct) (k:=k) (c:=z) (j:=(j:Int)) (h:=h++[.lst (zs.map .int)]) bN nofun;obtain⟨y,y1,y2⟩:=N6 ltD h1 M;have i1:=o0 hd y2;have i0:∀h,ixD h (ltD y) (.int 0)=.ok (.str y.n) h:=λh=>ix_tup (i:=0) rfl;refine⟨[j⁻¹,some (.int z),~~~d],y.n,rfl,?_,al.mpr ⟨y,y1,rfl⟩⟩;simp![hM,ll,op2,y9 ls.length h1,i1,i0]) (by rw[a5N,aa,length_nil];show _<=16777216;ac_nf)
 rw[a5N,aa] at a1;refine⟨row,a1,a2,?_⟩;rw[i6 hF rfl];simp only[O2];rw[seq (by simp![show op2 .add h (.int 6) ⇑m=.ok ⇑(6+m) h from rfl,sl];rfl)];have cm:=a2Y (ct:=ct) (c:=b5 ct F (k+1)) (fr:=[3]) (n:=2) (env:=[~~~n,some (.int 6),m⁻¹,~~~d,~~~↥h]) (it:=.enum (.v 4)) (h:=h++[.lst (zs.map .int)]) (by simp![U5,b7];rfl) a3;rw[D0,a2m,cm];exact a4l (((Pf.refl h).app _).app _) b7 ⋯ (D8 _)
end
theorem a6n(hs:∀x∈l,same h n x x=true):same h (n+1) (.tup l) (.tup l)=true:=by show(decide (↥l=↥l)&&(l.zip l).all λp=>same h n p.1 p.2)=true;rw[ba rfl,a3b _ l hs];rfl
theorem b4t(h:AH)(n:Nat)(c:Cl):same h (n+2) (clD c) (clD c)=true:=a6n λx hx=>by
 rcases aF.mp hx with rfl|hx
 · exact a2P rfl _
 · rw[aO.mp hx];exact a6n λy hy=>by obtain⟨i,_,rfl⟩:=al.mp hy;exact a2P rfl _
theorem c0U{a c:Nat}{n:Int}(ha:h[a]? =some (.lst (cells.map clD)))(hc:h[c]? =some (.lst (cells.map clD))):op2 .eq h (.tup [.ref a,.int n]) (.tup [.ref c,.int n])=.ok (.bl true) h/\op2 .ne h (.tup [.ref a,.int n]) (.tup [.ref c,.int n])=.ok (.bl false) h:=by
 have s1:same h 4 (.ref a) (.ref c)=true:=a6o (rd_of ha) (rd_of hc) λx hx=>by obtain⟨c,_,rfl⟩:=al.mp hx;exact b4t h 1 c
 have s2:same h 4 (.int n) (.int n)=true:=a2P rfl _;have s:a7d h (.tup [.ref a,.int n]) (.tup [.ref c,.int n])=true:=by show(decide (2=2)&&(same h 4 (.ref a) (.ref c)&&(same h 4 (.int n) (.int n)&&true)))=true;rw[s1,s2];rfl
 refine⟨?_,?_⟩
 · show(if false=true then R.ok (D.bl true) h else if a7d h (.tup [.ref a,.int n]) (.tup [.ref c,.int n])=true then .ok (.bl true) h else _)=_;rw[s];rfl
 · show(if false=true then R.ok (D.bl false) h else if a7d h (.tup [.ref a,.int n]) (.tup [.ref c,.int n])=true then .ok (.bl false) h else .no)=_;rw[s];rfl
section
variable{ct:CT}{F:Nat->Option Fn}{H:HL}
theorem a8H(e:h[n]? =some (.lst l)):biD .list h [.ref n]=.ok (.ref ↥h) (h++[.lst l]):=by simp only[biD,bi1,biL,e,rd_of e,v8]
theorem c0u:b5n h 3 (.tup l)=some true:=rfl
end
def mtS(f:Str)(l:Int)(s:Sg):Bool:=decide (s.f=f)&&(decide (s.a<=l)&&decide (l<=s.b))
theorem b9I{l:Int}{b:Bool}{s:Sg}:X2 f l b s=if mtS f l s=true then s.o else b:=by unfold X2 mtS;simp only[ae,bv]
theorem b1I(f:Str)(l:Int)(b:Bool):∀rs:List Sg,rs.reverse.foldl (X2 f l) b=((rs.find? (mtS f l)).map (·.o)).getD b
 |[]=>rfl
 |p::r=>by rw[List.reverse_cons,foldl_append,b1I f l b r,foldl_cons,List.foldl_nil,b9I,List.find?_cons];cases mtS f l p<;>rfl
theorem b4Y{l:Int}:K4 fe ss f l=((ss.reverse.find? (mtS f l)).map (·.o)).getD (a5J fe f):=by rw[←b1I,List.reverse_reverse];rfl
section
variable{ct:CT}{F:Nat->Option Fn}
theorem a6v{α:Type}(k:α->Str)(f:α->D):∀(l bM:List α),((bM++l).map k).Nodup->(l.map λp=>(D.str (k p),f p)).foldl (λa p=>a0b a p.1 p.2) (kd (bM.map λp=>(k p,f p)))=kd ((bM++l).map λp=>(k p,f p))
 |[],bM,_=>by rw[aZ];rfl
 | p::r,bM,h=>by
  have e:a0b (kd (bM.map λp=>(k p,f p))) (.str (k p)) (f p)=kd ((bM++[p]).map λp=>(k p,f p)):=by
   rw[b1d (λz=>?_),ao]
   · rfl
   · rw[aI] at z;rw[ao,map_cons,nodup_append] at h;exact h.2.2 _ z _ (.head _) rfl
  rw[map_cons,foldl_cons,e,a6v k f r (bM++[p]) (by rw[aA];exact h),aA];rfl
theorem prs_of{α:Type}(k:α->Str)(f:α->D):∀l:List α,a6w (l.map λp=>.tup [.str (k p),f p])=some (l.map λp=>(D.str (k p),f p))
 |[]=>rfl
 |p::r=>by rw[map_cons,a6w,ay (show(K3 (D.str (k p))).isSome=true from rfl),prs_of k f r];rfl
theorem a9e(k:α->Str)(f:α->D){i:Nat}{l:List α}(hi:h[i]? =some (.lst (l.map λp=>.tup [.str (k p),f p])))(hn:(l.map k).Nodup):biD .dict h [.ref i]=.ok (.ref ↥h) (h++[.dict (kd (l.map λp=>(k p,f p)))]):=by have e:=a6v k f l [] hn;simp only[biD,bi1,biL,hi,rd_of hi,prs_of,v8];rw[show([]:List (D×D))=kd (([]:List α).map λp=>(k p,f p)) from rfl,e];rfl
theorem a8G{c:CF}{i s:Nat}{f:Str}{l:Int}{h:AH}{g:List (Nat×Cell)}(hg:gOk g h=true):∀(rs:List Sg)(e4 e5 e6 e7:Option D),∃e4' e5' e6' e7',G0 g loP (exs ct c loB) (rs.map sgD) [~~~i,~~~s,some (.str f),some (.int l),e4,e5,e6,e7] h=(match rs.find? (mtS f l) with
 |some p=>.ok (.rt (.bl p.o)) h
 |none=>.ok (.nx [~~~i,~~~s,some (.str f),some (.int l),e4',e5',e6',e7']) h)
 |[],e4,e5,e6,e7=>⟨e4,e5,e6,e7,by rw[map_nil,G0,ay hg];rfl⟩
 | p ::r,e4,e5,e6,e7=>by
  obtain⟨a,b,d,e,ih⟩:=a8G (c:=c) (i:=i) (s:=s) (f:=f) (l:=l) hg r (some (.str p.f)) (some (.int p.a)) (some (.int p.b)) (some (.bl p.o));refine⟨a,b,d,e,?_⟩;rw[map_cons,G0,ay hg,List.find?_cons];have le:∀i j:Int,op2 .le h (.int i) (.int j)=.ok (.bl (decide (i<=j))) h:=λ_ _=>rfl;have bd:exs ct c loB [~~~i,~~~s,some (.str f),some (.int l),some (.str p.f),some (.int p.a),some (.int p.b),some (.bl p.o)] h=if mtS f l p=true then .ok (.rt (.bl p.o)) h else .ok (.nx [~~~i,~~~s,some (.str f),some (.int l),some (.str p.f),some (.int p.a),some (.int p.b),some (.bl p.o)]) h:=by
   unfold loB mtS;cases h1:decide (p.f=f) with
   |false=>
    simp![a5M,h1];rfl
   | true=>
    cases h2:decide (p.a<=l) with
    |false=>
     simp![a5M,h1,le,h2];rfl
    |true=>
     cases h3:decide (l<=p.b)<;>
     · simp![a5M,h1,le,h2,h3];rfl
  show(exs ct c loB [~~~i,~~~s,some (.str f),some (.int l),some (.str p.f),some (.int p.a),some (.int p.b),some (.bl p.o)] h).bind _=_;rw[bd];cases mtS f l p with
  |true=>rfl
  |false=>exact ih
theorem b1W{k i s:Nat}{l:Int}(hF:F 222=some S7)(hi:h[i]? =some (.lst (fe.map feD)))(hs:h[s]? =some (.lst (ss.map sgD)))(hn:(fe.map (·.1)).Nodup)(hf:f∈fe.map (·.1)):b5 ct F (k+1) 222 [.ref i,.ref s,.str f,.int l] h=.ok (.bl (K4 fe ss f l)) h:=by
 have rv:b0Y h (.ref s)=.ok (ss.reverse.map sgD,[(s,.lst (ss.map sgD))]) h:=by simp only[b0Y,U0,hs,List.map_reverse]
 obtain⟨a,b,d,e,w⟩:=a8G (ct:=ct) (c:=b5 ct F k) (i:=i) (s:=s) (f:=f) (l:=l) (h:=h) (g:=[(s,.lst (ss.map sgD))]) (by simp only[gOk,all_cons,all_nil,hs];simp) ss.reverse none none none none;rw[i6 hF rfl,S7,b4Y];show gcR 1 h (a2F (exs ct (b5 ct F k) (.for loP (.rev (.v 1)) loB>=>_) [~~~i,~~~s,some (.str f),some (.int l),none,none,none,none] h))=_;rw[D0,show ex ct (b5 ct F k) (.for loP (.rev (.v 1)) loB) [~~~i,~~~s,some (.str f),some (.int l),none,none,none,none] h=_ by simp![b5G,rv];exact w]
 cases ss.reverse.find? (mtS f l) with
 |some p=>exact r8 rfl
 |none=>
  show gcR 1 h (a2F (exs ct (b5 ct F k) (.o (.ret (.ix (.bi .dict (.o (.v 0))) (.v 2)))) [~~~i,~~~s,some (.str f),some (.int l),a,b,d,e] h))=_;simp![show biD .dict h [.ref i]=_ from a9e (λp:Str×Bool=>p.1) (λp=>.bl p.2) hi hn,show ixD (h++[.dict (kd (fe.map λp=>(p.1,.bl p.2)))]) (.ref ↥h) (.str f)=_ from b6z b7 hf];exact gc1 rfl
end
theorem b0q:∀(bD:List Str)(cells:List Cl),M5 (bD.map .str) (cells.map λc=>D.str c.1)=(bD.zip cells).map λp=>D.tup [.str p.1,.str p.2.1]
 |[],_=>by simp[M5]
 |_::_,[]=>by simp[M5]
 |i::bD,c::cells=>by rw[map_cons,map_cons,M5,b0q bD cells];rfl
variable{dC:Nat}
section
variable{ct:CT}{F:Nat->Option Fn}{H:HL}
theorem b8t{T r:D}{s:Str}(K:HLok H)(hd:h[dC]? =some (.dict (kd (hC H.cs))))(o:T7 H.sh H.cs it)(hs:s∈H.sh.map (·.1)):tst ct c fiT [~~~dC,some T,some r,some (.str it),some (.str s)] h=.ok (!decide (s∈Z5 H.cs it)) h:=by
 have hn:=K6 K hs;unfold fiT;rcases o with o|⟨x,hc,rfl⟩
 · have ho:=K6 K o;rw[a4I ho]
   by_cases e:it=s
   · subst e;simp![b5d,fM,fK];simp
   · have wl:=(WOk.name ho).l;have wp:=(WOk.name ho).p;cases hq:cd it with
     |nil=>
      rw[←t9,hq] at wp;exact absurd rfl wp
     | cons a t=>
      have i0:ixD h (.str it) (.int 0)=.ok (.str ⟨#[a]⟩) h:=ix_str (i:=0) (by show _<=16777216;ac_nf) (by rw[hq];rfl);have ne:decide ((⟨#[a]⟩:Str)="@")=false:=bw λz=>W3 ho (c:=64) ∅ (by rw[hq];have z:=fN cd z;have z:[a]=[64]:=z;injection z with z;rw[z];exact .head _)
      simp![b5d,bw e,gq,i0,ne];rw[bw λz=>e (aO.mp z).symm];rfl
 · rw[a3M K.csn hc];have eQ:cd (("@":Str)++x.n)=64::cd x.n:=by rw[D3];rfl
   have ht:tl (("@":Str)++x.n)=x.n:=T6 (by rw[a2C,eQ];rfl);have wk:=WOk.at (K.cso x hc).nm;have e:decide (("@":Str)++x.n=s)=false:=bw λz=>W3 hn (c:=64) ∅ (by rw[←z,eQ];exact .head _);have i0:ixD h (.str (("@":Str)++x.n)) (.int 0)=.ok (.str "@") h:=ix_str (i:=0) (c:=64) (by have:=wk.l;show _<=16777216;ac_nf) (by rw[eQ];rfl);have sl:slD h (some 1) none (.str (("@":Str)++x.n))=.ok (.str x.n) h:=by simp only[slD];rw[ay (by have:=wk.l;show _<=16777216;ac_nf),a3p _ (by have:=wk.p;ac_nf),ht]
   have ix:ixD h (.ref dC) (.str x.n)=.ok (.tup (x.fs.map .str)) h:=by simp only[ixD,hd,X9,fU,a7V K.csn hc]
   have ni:op2 .notin h (.str s) (.tup (x.fs.map .str))=.ok (.bl (!decide (s∈x.fs))) h:=by simp only[op2,M9];rw[ay (by rw[a0M];rfl),a1F];simp
   generalize ("@":Str)++x.n=it at e i0 sl;simp![b5d,e,gq,i0,fM,fK,sl,ix,ni]
theorem a8Y{c:CF}{dC r:Nat}{T:D}{g:List (Nat×Cell)}{h:AH}(K:HLok H)(hd:h[dC]? =some (.dict (kd (hC H.cs))))(hg:gOk g h=true):∀(l:List (Str×Cl)),(∀p∈l,T7 H.sh H.cs p.1/\p.2.1∈H.sh.map (·.1))->∀e3 e4,∃o,G0 g fiP (exs ct c fiB) (l.map λp=>D.tup [.str p.1,.str p.2.1]) [~~~dC,some T,~~~r,e3,e4] h=.ok o h/\((l.all (a6X H.cs)=true/\∃bF,o=.nx bF)∨(l.all (a6X H.cs)=false/\o=.rt (.bl false)))
 |[],_,e3,e4=>⟨_,by rw[map_nil,G0,ay hg],.inl ⟨rfl,_,rfl⟩⟩
 | p::l,ho,e3,e4=>by
  obtain⟨o1,o2⟩:=ho p aY;have fk:=b8t (ct:=ct) (c:=c) (T:=T) (r:=.ref r) K hd o1 o2;obtain⟨o,q1,q2⟩:=a8Y (c:=c) (T:=T) K hd hg l (λx hx=>ho x (aE _ hx)) (some (.str p.1)) (some (.str p.2.1));rw[map_cons,G0,ay hg,all_cons];show∃o,(exs ct c fiB [~~~dC,some T,~~~r,some (.str p.1),some (.str p.2.1)] h).bind _=_/\_;unfold fiB;unfold a6X at q2⊢;cases e:decide (p.2.1∈Z5 H.cs p.1) with
  |true=>
   rw[e] at fk;rw[D0,a5L,fk,fT];exact⟨o,q1,q2⟩
  |false=>
   rw[e] at fk;rw[D0,a5L,fk,fW];exact⟨_,rfl,.inr ⟨rfl,rfl⟩⟩
theorem a2c{k r:Nat}(hF:F 223=some D2)(K:HLok H)(hd:h[dC]? =some (.dict (kd (hC H.cs))))(ho:∀i∈bD,T7 H.sh H.cs i)(hc:∀c∈cells,c.1∈H.sh.map (·.1))(hr:h[r]? =some (.lst (cells.map λc=>.str c.1))):b5 ct F (k+1) 223 [.ref dC,.tup (bD.map .str),.ref r] h=.ok (.bl (y8 H.cs bD cells)) h:=by
 have l1:biD .len h [.tup (bD.map .str)]=.ok ⇑↥bD h:=L6;have l2:biD .len h [.ref r]=.ok ⇑↥cells h:=by rw[n5 hr,aa]
 have ne:op2 .ne h ⇑↥bD ⇑↥cells=.ok (.bl (!decide (↥bD=↥cells))) h:=by show R.ok (D.bl (!decide ((↥bD:Int)=(↥cells:Int)))) h=_;congr 3;exact decide_eq_decide.mpr ⟨λe=>by ac_nf,λe=>by ac_nf⟩
 have zi:a6d h (.tup (bD.map .str)) (.ref r)=.ok ((bD.zip cells).map λp=>D.tup [.str p.1,.str p.2.1],[(r,.lst (cells.map λc=>.str c.1))]) h:=by simp only[a6d,U0,hr,b0q]
 obtain⟨o,q1,q2⟩:=a8Y (ct:=ct) (c:=b5 ct F k) (r:=r) (T:=.tup (bD.map .str)) (g:=[(r,.lst (cells.map λc=>.str c.1))]) K hd (by simp only[gOk,all_cons,all_nil,hr];simp) (bD.zip cells) (λp hp=>⟨ho _ (of_mem_zip hp).1,hc _ (of_mem_zip hp).2⟩) none none;generalize hT:D.tup (bD.map .str)=T at l1 zi q1⊢;rw[i6 hF rfl,D2];unfold y8
 by_cases e:↥bD=↥cells
 · rw[seq (by simp![l1,l2,ne,ba e,fK];rfl),ba e,fT];have fr:ex ct (b5 ct F k) (.for fiP (.zip (.v 1) (.v 2)) fiB) [~~~dC,some T,~~~r,none,none] h=.ok o h:=by simp![zi,q1]
   rcases q2 with⟨a,bF,rfl⟩|⟨a,rfl⟩
   · rw[seq fr,a];simp![];exact r8 rfl
   · rw[D0,fr,a];exact r8 rfl
 · rw[bw e,fW];simp![l1,l2,ne,bw e,gq];exact r8 rfl
theorem a7S:∀(cs:List Cl)(p:List Int×Int),(cs.foldl a0o p).1.length=↥p.1+↥cs
 |[],p=>rfl
 |c::r,p=>by rw[foldl_cons,a7S r,length_cons];unfold a0o;cases c.2<;>simp<;>ac_nf
theorem b1X{k:Nat}{cs:List Cl}(hF:F 224=some J7)(hw:h[w]? =some (.lst (cs.map clD)))(hl:↥cs<=100000):b5 ct F (k+1) 224 [.ref w] h=.ok (.ref ↥h) (h++[.lst ((hmI cs).map .int)]):=by
 obtain⟨bF,g',q1,e3,e4,rfl,hg⟩:=B7 (g:=[(w,.lst (cs.map clD))]) (p:=fiP) (body:=exs ct (b5 ct F k) lhB) (λj env hh=>∃e3 e4,env=[~~~w,~~~↥h,some (.int ((cs.take j).foldl a0o ([],0)).2),e3,e4]/\hh=h++[.lst (((cs.take j).foldl a0o ([],0)).1.map .int)]) (λj env hh hP=>by
  obtain⟨_,_,_,rfl⟩:=hP;simp only[gOk,all_cons,all_nil,b6 hw];simp) (cs.map clD) 0 [~~~w,~~~↥h,some (.int 0),none,none] (h++[.lst []]) (λj x env hh hx hP=>by
  obtain⟨e3,e4,rfl,rfl⟩:=hP;rw[ak] at hx;obtain⟨c,hc,rfl⟩:=Option.map_eq_some_iff.mp hx;obtain⟨z1,z2⟩:=ac.mp hc;have ln:=a7S (cs.take j) ([],0);rw[aM,length_nil] at ln;rw[aB,take_succ_eq_append_getElem z1,foldl_append,z2];generalize (cs.take j).foldl a0o ([],0)=p at ln;show∃bS bF h',some [~~~w,~~~↥h,some (.int p.2),some (.str c.1),some (.tup (c.2.map .int))]=some bS/\exs ct (b5 ct F k) lhB bS (h++[.lst (p.1.map .int)])=.ok (.nx bF) h'/\∃e3 e4,bF=[~~~w,~~~↥h,some (.int (a0o p c).2),e3,e4]/\h'=h++[.lst ((a0o p c).1.map .int)];have ap:∀i:Int,mtD .append (h++[.lst (p.1.map .int)]) (.ref ↥h) [.int i]=.ok .non (h++[.lst ((p.1++[i]).map .int)]):=λi=>by rw[ao];exact a5Z (by rw[aa];ac_nf)
  have mt:mtT .append (h++[.lst (p.1.map .int)]) (.ref ↥h)=true:=C2 b7;refine⟨_,[~~~w,~~~↥h,some (.int (a0o p c).2),some (.str c.1),some (.tup (c.2.map .int))],_,rfl,?_,_,_,rfl,rfl⟩;unfold lhB a0o;cases e:c.2 with
  |nil=>
   rw[map_nil];simp![ay (show 0<=SL by decide),show op2 .eq (h++[.lst (p.1.map .int)]) (.tup []) (.tup [])=.ok (.bl true) (h++[.lst (p.1.map .int)]) from rfl,mt,ap]
  | cons x r=>
   rw[map_cons];have nq:op2 .eq (h++[.lst (p.1.map .int)]) (.tup (.int x::r.map .int)) (.tup [])=.ok (.bl false) (h++[.lst (p.1.map .int)]):=rfl;have f0:∀h,ixD h (.tup (.int x::r.map .int)) (.int 0)=.ok (.int x) h:=λh=>ix_tup (i:=0) rfl;have fl:∀h,ixD h (.tup (.int x::r.map .int)) (.int (-1))=.ok (.int ((x::r).getLastD 0)) h:=λh=>a3e (by rw[←map_cons (f:=D.int),aa,ak,List.getLastD_eq_getLast?,List.getLast?_eq_getElem?];rw[ai (show(x::r).length-1<↥(x::r) by rw[length_cons];ac_nf)];rfl)
   simp![ay (show 0<=SL by decide),nq,f0,fl,mt,ap]) ⟨none,none,rfl,rfl⟩
 rw[aa,aB,bf] at hg q1;rw[hg] at q1;rw[i6 hF rfl,J7,seq (by simp![v8];rfl),seq (by simp![];rfl),seq (by simp![L3,b6 hw];exact q1)];simp![];exact gc2 b7 (aj _) (D9 λd hd=>by obtain⟨i,_,rfl⟩:=al.mp hd;rfl)
end
def Nmd(H:HL)(cells:List Cl):Prop:=∀c∈cells,c.1∈H.sh.map (·.1)
theorem Nmd.sub{H:HL}(n:Nmd H cells)(i m:Nat):Nmd H ((cells.drop i).take m):=λc hc=>n c (mem_of_mem_drop (List.mem_of_mem_take hc))
theorem b2k{α:Type}(P:α->Bool):∀l:List α,inD (.bl true) (l.map λx=>.bl (!P x))=!l.all P
 |[]=>rfl
 |x::r=>by have ih:=b2k P r;unfold inD at ih⊢;rw[map_cons,any_cons,ih,all_cons];show((!P x)==true||!r.all P)=_;cases P x<;>cases r.all P<;>rfl
theorem b2O{c:Cl}(h1:1<=↥bD)(hc:cells[0]? =some c)(h:y8 cs bD cells=true):c.1∈Z5 cs (bD.headD ""):=by
 cases bD with
 |nil=>cases h1
 | cons i t=>
  cases cells with
  |nil=>cases hc
  |cons d r=>
   injection hc with hc;subst hc;unfold y8 at h;rw[ae,List.zip_cons_cons,all_cons,ae] at h;exact aw h.2.1
theorem b8G{H:HL}{i:Nat}(hi:i<↥cells)(h1:1<=↥r.c):a1l H ss r ps cells i cells[i]=((y8 H.cs r.c ((cells.drop i).take ↥r.c)&&(((hmI cells).drop i).take ↥r.c).all (K4 H.fe ss r.f))&&(y8 H.cs r.a ((cells.drop (i+↥r.c)).take ↥r.a)&&y8 H.cs r.b (ps.drop (↥ps-↥r.b)))):=by
 unfold a1l a4F;cases e:y8 H.cs r.c ((cells.drop i).take ↥r.c) with
 |false=>simp
 |true=>
  have:=b2O (c:=cells[i]) h1 (by rw[bz h1,List.getElem?_drop,Nat.add_zero,ai hi]) e;rw[ba this];generalize (((hmI cells).drop i).take ↥r.c).all (K4 H.fe ss r.f)=x;generalize y8 H.cs r.a ((cells.drop (i+↥r.c)).take ↥r.a)=y;generalize y8 H.cs r.b (ps.drop (↥ps-↥r.b))=z;cases x<;>cases y<;>cases z<;>rfl
variable{e11:Option D}
section
variable{ct:CT}{F:Nat->Option Fn}{H:HL}
theorem b6p(ha:ev ct c a env h=.ok (.ref w) h1)(hw:h1[w]? =some (.lst (cells.map clD)))(hl:↥cells<=1000000):ev ct c (shE a) env h=.ok (.ref ↥h1) (h1++[.lst (cells.map λc=>.str c.1)]):=by
 unfold shE;rw[n9 (l:=cells.map clD) (g:=[(w,.lst (cells.map clD))]) (h1:=h1) (by rw[R7,ha,b9];simp only[L3,hw]) (by simp only[gOk,all_cons,all_nil,hw];simp) (λx=>match x with
  |.tup [a,_]=>a
  |_=>.non) (λx=>[some x]) (λx hx=>by
  obtain⟨d,_,rfl⟩:=al.mp hx;refine⟨rfl,?_⟩;simp![Z3.1];rfl) (by rw[aa];show _<=16777216;ac_nf),aI]
 rfl
theorem b5E{ys:List D}(e1:h[n]? =some (.lst xs))(hl:↥xs+↥ys<=1000000):mtD .extend h (.ref n) [.tup ys]=.ok .non (h.set n (.lst (xs++ys))):=by simp only[mtD,e1];rw[ay (show ↥xs+↥ys<=16777216 by ac_nf)]
structure WSt(h g:AH)(ps:List Cl):Prop where
 pf:Pf h g
 p:g[↥h]? =some (.lst (ps.map clD))
theorem WSt.on{g':AH}(S:WSt h g ps)(q:Pf g g'):WSt h g' ps:=⟨S.pf.trans q,q.at S.p⟩
theorem WSt.put(S:WSt h g ps):WSt h (g.set ↥h (.lst ((ps++qs).map clD))) (ps++qs):=⟨S.pf.set (aj _),z9 S.p⟩
theorem b5i{cs:List Cl}{E0:o8}(h0:E0.set 11 e11=E0)(hE:E0[20]? =some (~~~↥h))(h11:11<E0.length)(hw:g[w]? =some (.lst (cs.map clD)))(hk:g[↥h]? =some (.lst []))(P:Pf h g)(hL:↥(j9 cs)<=1000)(hwk:w≠↥h):
 ∃g' x,G0 [(w,.lst (cs.map clD))] (.nm 11) (exs ct c wkX) (cs.map clD) E0 g=.ok (.nx (E0.set 11 x)) g'/\Pf h g'/\g'[↥h]? =some (.lst ((j9 cs).map .int)):=by
 obtain⟨bF,g',q1,x,rfl,q2,q3,q4⟩:=B7 (g:=[(w,.lst (cs.map clD))]) (p:=.nm 11) (body:=exs ct c wkX) (λj env g=>∃x,env=E0.set 11 x/\Pf h g/\g[↥h]? =some (.lst ((j9 (cs.take j)).map .int))/\g[w]? =some (.lst (cs.map clD))) (λj env g hP=>by
  obtain⟨_,_,_,_,hw⟩:=hP;simp only[gOk,all_cons,all_nil,hw];simp) (cs.map clD) 0 E0 g (λj x env g hx hP=>by
  obtain⟨y,rfl,p1,p2,p3⟩:=hP;rw[ak] at hx;obtain⟨d,hd,rfl⟩:=Option.map_eq_some_iff.mp hx;obtain⟨z1,z2⟩:=ac.mp hd;have ll:=a7N cs (j+1);rw[aB] at p2⊢;rw[a6L z1,z2] at ll⊢;rw[aq] at ll;have ex:=b5E (ys:=d.2.map .int) p2 (by rw[aa,aa];ac_nf);rw[←ao] at ex;refine⟨E0.set 11 (some (clD d)),E0.set 11 (some (clD d)),_,?_,?_,_,rfl,p1.set (aj _),z9 p2,b8 (fR hwk) p3⟩
  · rw[F7,List.set_set]
  · have v20:(E0.set 11 (some (clD d)))[20]? =some (~~~↥h):=by rw[fO ∅,hE]
    have v11:(E0.set 11 (some (clD d)))[11]? =some (some (clD d)):=fY h11;unfold wkX;simp only[D0,a2W,b2X,b3b,b0e,v20,v11,b9,a5s p2,fU,a3O,a2X,b3e,b3d,Z3.2,ex]) ⟨e11,h0.symm,P,hk,hw⟩
 rw[aa,aB,bf] at q3;exact⟨g',x,q1,q2,q3⟩
end
def J1(T:D)(r:Ru)(w s dC rw of k cnt i:Nat)(e11 e17 e18 e19 e20:Option D):o8:=[some T,some (ruD r),~~~w,~~~s,some (.str r.t),some (.str r.f),some (.tup (r.b.map .str)),some (.tup (r.c.map .str)),some (.tup (r.a.map .str)),some (.tup (r.o.map .str)),~~~dC,e11,~~~rw,~~~of,~~~k,cnt⁻¹,i⁻¹,e17,e18,e19,e20]
variable{rw:Nat}{e18:Option D}{e19:Option D}{e20:Option D}
section
variable{ct:CT}{F:Nat->Option Fn}{H:HL}
theorem b4b{o:List Str}(he:env[9]? =some (some (.tup (o.map .str))))(h1:1<=↥o)(h3:↥o<=3):ev ct c wkZ env h=.ok (.ref ↥h) (h++[.lst (((o.drop 1).map λs=>((s,[]):Cl)).map clD)]):=by
 have t1:=(a1s h1).2 h;unfold wkZ;rw[n9 (l:=(o.drop 1).map .str) (g:=[]) (h1:=h) (by
  simp only[R7,b6A,b0e,he,b9,a8a,b2Y,b3d,a8R,t1];rfl) rfl (λx=>.tup [x,.tup []]) (λx=>[some x]) (λx hx=>by
  refine⟨rfl,?_⟩;simp![ay (show 2<=SL by decide),ay (show 0<=SL by decide)]) (by rw[aa,bx];show _<=16777216;ac_nf),aI,aI]
 rfl
theorem b0U{i m:Nat}(hw:h[rw]? =some (.lst (cells.map λc=>.str c.1))):slD h (some (i:Int)) (some ((i+m:Nat):Int)) (.ref rw)=.ok (.ref ↥h) (h++[.lst (((cells.drop i).take m).map λc=>.str c.1)]):=by rw[G4 hw,a1P,←map_drop,←map_take]
theorem b6H{T:D}{s of i:Nat}(S:WSt h g ps)(hw:h[w]? =some (.lst (cells.map clD)))(hL:↥(j9 cells)<=1000)(hp:↥ps<=300000)(o3:1<=↥r.o/\↥r.o<=3):
 ∃g' eB eu,exs ct c wkY (J1 T r w s dC rw of ↥h cnt i e11 (some ⇑(i+↥r.c)) e18 e19 e20) g=.ok (.nx (J1 T r w s dC rw of ↥h (cnt+1) (i+↥r.c) eB (some ⇑(i+↥r.c)) e18 e19 eu)) g'/\WSt h g' (ps++K9 r.o ((cells.drop i).take ↥r.c)):=by
 have P8:=((Pf.refl g).app [.lst []]).app [.lst (((cells.drop i).take ↥r.c).map clD)];have l7:↥(g++[Cell.lst []])=↥g+1:=by simp
 have ls:=a8I cells i ↥r.c;obtain⟨g9,x,q1,P9,q3⟩:=b5i (ct:=ct) (c:=c) (w:=↥g+1) (cs:=(cells.drop i).take ↥r.c) (h:=g) (g:=g++[.lst []]++[.lst (((cells.drop i).take ↥r.c).map clD)]) (E0:=J1 T r w s dC rw of ↥h cnt i e11 (some ⇑(i+↥r.c)) e18 e19 (~~~↥g)) (e11:=e11) rfl rfl (by show 11<21;decide) (by rw[←l7];exact b7) (b6 b7) P8 nofun nofun;have S9:=S.on P9;have sl:=a6l (i:=i) (m:=↥r.c) (b6 (g:=[Cell.lst []]) (S.pf.at hw));rw[l7] at sl;obtain⟨t0,_⟩:=a1s o3.1;have tp:biD .tuple g9 [.ref ↥g]=.ok (.tup ((j9 ((cells.drop i).take ↥r.c)).map .int)) g9:=by simp only[biD,bi1,biL,q3]
 have ap:=K0 (d:=clD (r.o.headD "",j9 ((cells.drop i).take ↥r.c))) S9.p (by rw[aa];ac_nf);rw[show ps.map clD++[clD (r.o.headD "",j9 ((cells.drop i).take ↥r.c))]=(ps++[(r.o.headD "",j9 ((cells.drop i).take ↥r.c))]).map clD by rw[ao];rfl] at ap;have S10:=S9.put (qs:=[(r.o.headD "",j9 ((cells.drop i).take ↥r.c))]);generalize hg:g9.set ↥h (.lst ((ps++[(r.o.headD "",j9 ((cells.drop i).take ↥r.c))]).map clD))=g10 at ap S10;have S11:=S10.on ((Pf.refl g10).app [.lst (((r.o.drop 1).map λs=>((s,[]):Cl)).map clD)]);have ex:=b2V (k:=↥g10) S11.p b7 (by rw[aa,aa,aq,length_singleton,aa,bx];ac_nf);rw[←ao] at ex;have S12:=S11.put (qs:=(r.o.drop 1).map λs=>((s,[]):Cl));rw[aA] at ex S12;have te:=b4b (ct:=ct) (c:=c) (h:=g10) (env:=J1 T r w s dC rw of ↥h cnt i x (some ⇑(i+↥r.c)) e18 e19 (~~~↥g)) rfl o3.1 o3.2;refine⟨_,x,~~~↥g,?_,S12⟩;unfold wkY;rw[seq (bF:=J1 T r w s dC rw of ↥h cnt i e11 (some ⇑(i+↥r.c)) e18 e19 (~~~↥g)) (h':=g++[.lst []]) (by unfold J1;simp![v8])]
 rw[seq (bF:=J1 T r w s dC rw of ↥h cnt i x (some ⇑(i+↥r.c)) e18 e19 (~~~↥g)) (h':=g9) (by
  rw[a3N,R7];rw[show ev ct c (.sl (.v 2) (.at (.v 16)) (.at (.v 17))) (J1 T r w s dC rw of ↥h cnt i e11 (some ⇑(i+↥r.c)) e18 e19 (~~~↥g)) (g++[.lst []])=.ok (.ref (↥g+1)) (g++[.lst []]++[.lst (((cells.drop i).take ↥r.c).map clD)]) by unfold J1;simp![sl]]
  rw[b9];rw[show L3 (g++[.lst []]++[.lst (((cells.drop i).take ↥r.c).map clD)]) (.ref (↥g+1))=.ok (((cells.drop i).take ↥r.c).map clD,[(↥g+1,.lst (((cells.drop i).take ↥r.c).map clD))]) (g++[.lst []]++[.lst (((cells.drop i).take ↥r.c).map clD)]) by simp only[L3,show(g++[Cell.lst []]++[Cell.lst (((cells.drop i).take ↥r.c).map clD)])[↥g+1]? =some (.lst (((cells.drop i).take ↥r.c).map clD)) by rw[←l7];exact b7]]
  exact q1)]
 rw[seq (bF:=J1 T r w s dC rw of ↥h cnt i x (some ⇑(i+↥r.c)) e18 e19 (~~~↥g)) (h':=g10) (by unfold J1;simp![C2 S9.p,t0,tp,ay (show 2<=SL by decide),show D.tup [.str (r.o.headD ""),.tup ((j9 ((cells.drop i).take ↥r.c)).map .int)]=clD (r.o.headD "",j9 ((cells.drop i).take ↥r.c)) from rfl,ap])]
 rw[seq (bF:=J1 T r w s dC rw of ↥h cnt i x (some ⇑(i+↥r.c)) e18 e19 (~~~↥g)) (h':=_) (by rw[b2X,b3b,b0e];rw[show(J1 T r w s dC rw of ↥h cnt i x (some ⇑(i+↥r.c)) e18 e19 (~~~↥g))[14]? =some (~~~↥h) from rfl];simp only[b9,a5s S10.p,fU,a3O,a2X,te,ex];rfl)]
 unfold J1;simp![a4c (j:=1)];rfl
theorem b9u{k s of i k18:Nat}{T:D}{G:Bool}(cF:F 223=some D2)(K:HLok H)(ro:RuOk H.sh H.cs H.fe r)(nc:Nmd H cells)(np:Nmd H ps)(hd:g[dC]? =some (.dict (kd (hC H.cs))))(hr:g[rw]? =some (.lst (cells.map λc=>.str c.1)))(hA:g[k18]? =some (.lst ((ps.drop (↥ps-↥r.b)).map λc=>.str c.1))):
 ∃g',tst ct (b5 ct F (k+1)) wkI (J1 T r w s dC rw of ↥h cnt i e11 (some ⇑(i+↥r.c)) (~~~k18) (some (.bl G)) e20) g=.ok (G&&(y8 H.cs r.a ((cells.drop (i+↥r.c)).take ↥r.a)&&y8 H.cs r.b (ps.drop (↥ps-↥r.b)))) g'/\Pf g g':=by
 unfold wkI J1;cases G with
 |false=>
  refine⟨g,?_,Pf.refl g⟩;simp![fW]
 | true=>
  have P:=(Pf.refl g).app [.lst (((cells.drop (i+↥r.c)).take ↥r.a).map λc=>.str c.1)];have sl:=b0U (i:=i+↥r.c) (m:=↥r.a) hr;have fa:=a2c (ct:=ct) (k:=k) (r:=↥g) cF K (P.at hd) ro.a (nc.sub (i+↥r.c) ↥r.a) b7;have fb:=a2c (ct:=ct) (k:=k) cF K (P.at hd) ro.b (λc hc=>np c (mem_of_mem_drop hc)) (P.at hA);refine⟨_,?_,P⟩;have l8:∀g,biD .len g [.tup (r.a.map .str)]=.ok ⇑↥r.a g:=λg=>L6;rw[fT];unfold wkL;cases e:y8 H.cs r.a ((cells.drop (i+↥r.c)).take ↥r.a) with
  |false=>
   rw[e] at fa;simp![l8,a4c,sl,fa,fW]
  |true=>
   rw[e] at fa;simp![l8,a4c,sl,fa,fb,fT]
theorem b3M{k s of i:Nat}{T:D}(cF:F 223=some D2)(K:HLok H)(ro:RuOk H.sh H.cs H.fe r)(nc:Nmd H cells)(hd:g[dC]? =some (.dict (kd (hC H.cs))))(hr:g[rw]? =some (.lst (cells.map λc=>.str c.1)))(hf:g[of]? =some (.lst ((hmI cells).map λl=>.bl (!K4 H.fe ss r.f l)))):
 ∃g',ev ct (b5 ct F (k+1)) (.an wkC wkF) (J1 T r w s dC rw of ↥h cnt i e11 (some ⇑(i+↥r.c)) e18 e19 e20) g=.ok (.bl (y8 H.cs r.c ((cells.drop i).take ↥r.c)&&(((hmI cells).drop i).take ↥r.c).all (K4 H.fe ss r.f))) g'/\Pf g g':=by
 have P:=(Pf.refl g).app [.lst (((cells.drop i).take ↥r.c).map λc=>.str c.1)];have sl:=b0U (i:=i) (m:=↥r.c) hr;have fa:=a2c (ct:=ct) (k:=k) (r:=↥g) cF K (P.at hd) ro.c (nc.sub i ↥r.c) b7;have hf1:=P.at hf;generalize g++[Cell.lst (((cells.drop i).take ↥r.c).map λc=>.str c.1)]=g1 at P sl fa hf1;unfold wkC wkF J1;cases e:y8 H.cs r.c ((cells.drop i).take ↥r.c) with
 |false=>
  rw[e] at fa;refine⟨g1,?_,P⟩;simp![sl,fa,fW]
 | true=>
  rw[e] at fa;have s2:slD g1 (some (i:Int)) (some ((i+↥r.c:Nat):Int)) (.ref of)=.ok (.ref ↥g1) (g1++[.lst ((((hmI cells).drop i).take ↥r.c).map λl=>.bl (!K4 H.fe ss r.f l))]):=by rw[G4 hf1,a1P,←map_drop,←map_take]
  have ni:op2 .notin (g1++[.lst ((((hmI cells).drop i).take ↥r.c).map λl=>.bl (!K4 H.fe ss r.f l))]) (.bl true) (.ref ↥g1)=.ok (.bl ((((hmI cells).drop i).take ↥r.c).all (K4 H.fe ss r.f))) (g1++[.lst ((((hmI cells).drop i).take ↥r.c).map λl=>.bl (!K4 H.fe ss r.f l))]):=by
   simp only[op2,M9,b7];rw[ay (by rw[all_map];show(true&&_)=true;rw[fT];exact bm.mpr λ_ _=>rfl),b2k]
   simp
  refine⟨_,?_,P.app [.lst ((((hmI cells).drop i).take ↥r.c).map λl=>.bl (!K4 H.fe ss r.f l))]⟩;simp![sl,fa,s2,ni,fT]
end
variable{fi:Nat}
section
variable{ct:CT}{F:Nat->Option Fn}{H:HL}
theorem b3L{k s of i:Nat}{T:D}{e17:Option D}(cF:F 223=some D2)(K:HLok H)(ro:RuOk H.sh H.cs H.fe r)(nc:Nmd H cells)(np:Nmd H ps)(hw:h[w]? =some (.lst (cells.map clD)))(hd:h[dC]? =some (.dict (kd (hC H.cs))))(hr:h[rw]? =some (.lst (cells.map λc=>.str c.1)))(hf:h[of]? =some (.lst ((hmI cells).map λl=>.bl (!K4 H.fe ss r.f l))))(hL:↥(j9 cells)<=1000)(hl:↥cells<=100000)(hp:↥ps<=3*i)(S:WSt h g ps)(hi:i<↥cells):
 ∃g' eB e17' e18' e19' eu,exs ct (b5 ct F (k+1)) wkB (J1 T r w s dC rw of ↥h cnt i e11 e17 e18 e19 e20) g=.ok (.nx (J1 T r w s dC rw of ↥h (if a1l H ss r ps cells i cells[i]=true then cnt+1 else cnt) (if a1l H ss r ps cells i cells[i]=true then i+↥r.c else i+1) eB e17' e18' e19' eu)) g'/\WSt h g' (if a1l H ss r ps cells i cells[i]=true then ps++K9 r.o ((cells.drop i).take ↥r.c) else ps++[cells[i]]):=by
 have P1:=(Pf.refl g).app [.lst ((ps.drop (↥ps-↥r.b)).map clD)];have mx:∀g,biD .max g [.int 0,.int ((↥ps:Int)-(↥r.b:Int))]=.ok ⇑(↥ps-↥r.b) g:=λg=>by show R.ok (D.int (if(↥ps:Int)-(↥r.b:Int)>0 then(↥ps:Int)-(↥r.b:Int) else 0)) g=_;congr 2;split<;>ac_nf
 have sb:op2 .sub g ⇑↥ps ⇑↥r.b=.ok (.int ((↥ps:Int)-(↥r.b:Int))) g:=rfl;have l2:biD .len g [.ref ↥h]=.ok ⇑↥ps g:=by rw[n5 S.p,aa]
 have l6:biD .len g [.tup (r.b.map .str)]=.ok ⇑↥r.b g:=L6;have ha:ev ct (b5 ct F (k+1)) wkA (J1 T r w s dC rw of ↥h cnt i e11 (some ⇑(i+↥r.c)) e18 e19 e20) g=.ok (.ref ↥g) (g++[.lst ((ps.drop (↥ps-↥r.b)).map clD)]):=by unfold wkA J1;simp![l2,l6,sb,mx,a7A S.p]
 have se:=b6p (cells:=ps.drop (↥ps-↥r.b)) ha b7 (by rw[bx];ac_nf);have P2:=P1.app [.lst ((ps.drop (↥ps-↥r.b)).map λc=>.str c.1)];have hA:(g++[Cell.lst ((ps.drop (↥ps-↥r.b)).map clD)]++[.lst ((ps.drop (↥ps-↥r.b)).map λc=>.str c.1)])[↥(g++[Cell.lst ((ps.drop (↥ps-↥r.b)).map clD)])]? =some (.lst ((ps.drop (↥ps-↥r.b)).map λc=>.str c.1)):=b7;generalize ↥(g++[Cell.lst ((ps.drop (↥ps-↥r.b)).map clD)])=k18 at se hA;generalize g++[Cell.lst ((ps.drop (↥ps-↥r.b)).map clD)]++[Cell.lst ((ps.drop (↥ps-↥r.b)).map λc=>.str c.1)]=g2 at se hA P2;have S2:=S.on P2;obtain⟨g5,q5,P5⟩:=b3M (ct:=ct) (k:=k) (w:=w) (s:=s) (cnt:=cnt) (T:=T) (h:=h) (i:=i) (ss:=ss) (e11:=e11) (e18:= ~~~k18) (e19:=e19) (e20:=e20) cF K ro nc (S2.pf.at hd) (S2.pf.at hr) (S2.pf.at hf);have S5:=S2.on P5;obtain⟨g6,q6,P6⟩:=b9u (ct:=ct) (k:=k) (w:=w) (s:=s) (of:=of) (cnt:=cnt) (T:=T) (h:=h) (i:=i) (ps:=ps) (G:=y8 H.cs r.c ((cells.drop i).take ↥r.c)&&(((hmI cells).drop i).take ↥r.c).all (K4 H.fe ss r.f)) (e11:=e11) (e20:=e20) cF K ro nc np (S5.pf.at hd) (S5.pf.at hr) (P5.at hA);have S6:=S5.on P6;rw[←b8G hi ro.c4.1] at q6;have st:exs ct (b5 ct F (k+1)) wkB (J1 T r w s dC rw of ↥h cnt i e11 e17 e18 e19 e20) g=exs ct (b5 ct F (k+1)) (.o (.iff wkI wkY wkN)) (J1 T r w s dC rw of ↥h cnt i e11 (some ⇑(i+↥r.c)) (~~~k18) (some (.bl (y8 H.cs r.c ((cells.drop i).take ↥r.c)&&(((hmI cells).drop i).take ↥r.c).all (K4 H.fe ss r.f)))) e20) g5:=by
  unfold wkB;rw[seq (bF:=J1 T r w s dC rw of ↥h cnt i e11 (some ⇑(i+↥r.c)) e18 e19 e20) (h':=g) (by unfold J1;simp![L6,a4c])]
  rw[seq (bF:=J1 T r w s dC rw of ↥h cnt i e11 (some ⇑(i+↥r.c)) (~~~k18) e19 e20) (h':=g2) (by rw[a0v,se];rfl)]
  rw[seq (by rw[a0v,q5];rfl)]
  rfl
 rw[st,D0,a5L,q6,b9]
 by_cases on:a1l H ss r ps cells i cells[i]=true
 · simp only[ay on];obtain⟨g',eB,eu,a,b⟩:=b6H (ct:=ct) (c:=b5 ct F (k+1)) (T:=T) (s:=s) (dC:=dC) (rw:=rw) (of:=of) (cnt:=cnt) (i:=i) (r:=r) (e11:=e11) (e18:= ~~~k18) (e19:=some (.bl (y8 H.cs r.c ((cells.drop i).take ↥r.c)&&(((hmI cells).drop i).take ↥r.c).all (K4 H.fe ss r.f)))) (e20:=e20) S6 hw hL nofun ro.o3;rw[a];exact⟨g',eB,_,_,_,eu,rfl,b⟩
 · simp only[az on];have ix:ixD g6 (.ref w) ⇑i=.ok (clD cells[i]) g6:=o0 (S6.pf.at hw) (by rw[ak,ai hi];rfl);have ap:=K0 (d:=clD cells[i]) S6.p (by rw[aa];ac_nf);rw[show ps.map clD++[clD cells[i]]=(ps++[cells[i]]).map clD by rw[ao];rfl] at ap;refine⟨_,e11,some ⇑(i+↥r.c),~~~k18,some (.bl (y8 H.cs r.c ((cells.drop i).take ↥r.c)&&(((hmI cells).drop i).take ↥r.c).all (K4 H.fe ss r.f))),e20,?_,S6.put⟩;unfold wkN J1;simp![C2 S6.p,ix,ap,a4c (j:=1)];rfl
theorem Nmd.told{i:Nat}(ro:RuOk H.sh H.cs H.fe r)(np:Nmd H ps):Nmd H (ps++K9 r.o ((cells.drop i).take ↥r.c)):=λc hc=>by
 rcases aL.mp hc with hc|hc
 · exact np c hc
 · unfold K9 at hc;rcases aF.mp hc with rfl|hc
   · refine ro.o _ ?_;have:=ro.o3.1;cases e:r.o with
     |nil=>rw[e] at this;cases this
     |cons a t=>exact .head _
   · obtain⟨x,hx,rfl⟩:=al.mp hc;exact ro.o _ (mem_of_mem_drop hx)
theorem a7r{k w s dC rw of:Nat}{T:D}{r:Ru}{cells:List Cl}{ss:List Sg}{h:AH}(cF:F 223=some D2)(K:HLok H)(ro:RuOk H.sh H.cs H.fe r)(nc:Nmd H cells)(hw:h[w]? =some (.lst (cells.map clD)))(hd:h[dC]? =some (.dict (kd (hC H.cs))))(hr:h[rw]? =some (.lst (cells.map λc=>.str c.1)))(hf:h[of]? =some (.lst ((hmI cells).map λl=>.bl (!K4 H.fe ss r.f l))))(hL:↥(j9 cells)<=1000)(hl:↥cells<=100000):∀(m i cnt ft:Nat)(ps:List Cl)(g:AH)(e11 e17 e18 e19 e20:Option D),↥cells<=i+m->m<ft->↥ps<=3*i->Nmd H ps->WSt h g ps→
 ∃g' i' eB e17' e18' e19' eu,a4e (tst ct (b5 ct F (k+1)) wkT) (exs ct (b5 ct F (k+1)) wkB) ft (J1 T r w s dC rw of ↥h cnt i e11 e17 e18 e19 e20) g=.ok (.nx (J1 T r w s dC rw of ↥h (dnL H ss r cells m i ps cnt).2 i' eB e17' e18' e19' eu)) g'/\WSt h g' (dnL H ss r cells m i ps cnt).1
 |m,i,cnt,0,ps,g,e11,e17,e18,e19,e20,_,hf,_,_,_=>absurd hf nofun
 | m, i,cnt,f+1,ps,g,e11,e17,e18,e19,e20,hm,hfu,hp,np,S=>by
  have l2:biD .len g [.ref w]=.ok ⇑↥cells g:=by rw[n5 (S.pf.at hw),aa]
  have lt:op2 .lt g ⇑i ⇑↥cells=.ok (.bl (decide (i<↥cells))) g:=by show R.ok (D.bl (decide ((i:Int)<(↥cells:Int)))) g=_;congr 2;exact decide_eq_decide.mpr ⟨λe=>by ac_nf,λe=>by ac_nf⟩
  have t:tst ct (b5 ct F (k+1)) wkT (J1 T r w s dC rw of ↥h cnt i e11 e17 e18 e19 e20) g=.ok (decide (i<↥cells)) g:=by unfold wkT J1;simp![l2,lt]
  rw[a4e,t,b9]
  by_cases hi:i<↥cells
  · rw[ay (ba hi)];obtain⟨m,rfl⟩:∃m',m=m'+1:=⟨m-1,by ac_nf⟩;obtain⟨g',a1,a2,a3,a4,a5,q1,q2⟩:=b3L (ct:=ct) (k:=k) (s:=s) (cnt:=cnt) (T:=T) (e11:=e11) (e17:=e17) (e18:=e18) (e19:=e19) (e20:=e20) cF K ro nc np hw hd hr hf hL hl hp S hi;rw[q1,b9];have c4:=ro.c4;have o3:=ro.o3;have e:dnL H ss r cells (m+1) i ps cnt=(if a1l H ss r ps cells i cells[i]=true then dnL H ss r cells m (i+↥r.c) (ps++K9 r.o ((cells.drop i).take ↥r.c)) (cnt+1) else dnL H ss r cells m (i+1) (ps++[cells[i]]) cnt):=by rw[dnL,ai hi]
    rw[e]
    by_cases on:a1l H ss r ps cells i cells[i]=true
    · simp only[ay on] at q2⊢;refine a7r cF K ro nc hw hd hr hf hL hl m (i+↥r.c) (cnt+1) f _ g' _ _ _ _ _ nofun nofun ?_ (np.told ro) q2;rw[aq];unfold K9;rw[length_cons,aa,bx];ac_nf
    · simp only[az on] at q2⊢;refine a7r cF K ro nc hw hd hr hf hL hl m (i+1) cnt f _ g' _ _ _ _ _ nofun nofun (by rw[aq,length_singleton];ac_nf) (λc hc=>?_) q2;rcases aL.mp hc with hc|hc
      · exact np c hc
      · rw[aO.mp hc];exact nc _ (br hi)
  · rw[az (by rw[bw hi];decide)];have e:dnL H ss r cells m i ps cnt=(ps,cnt):=by
     cases m with
     |zero=>rfl
     |succ m=>rw[dnL,List.getElem?_eq_none_iff.mpr nofun]
    rw[e];exact⟨g,i,_,_,_,_,_,rfl,S⟩
theorem a9o{k s ci:Nat}{T:D}(eU:F 222=some S7)(cF:F 223=some D2)(eT:F 224=some J7)(eS:F 225=some K5)(K:HLok H)(ro:RuOk H.sh H.cs H.fe r)(nc:Nmd H cells)(t5:∀h,ixD h T (.int 5)=.ok (.ref ci) h)(t6:∀h,ixD h T (.int 6)=.ok (.ref fi) h)(hc:h[ci]? =some (.lst (H.cs.map csD)))(hfe:h[fi]? =some (.lst (H.fe.map feD)))(hw:h[w]? =some (.lst (cells.map clD)))(hs:h[s]? =some (.lst (ss.map sgD)))(hL:↥(j9 cells)<=1000)(hl:↥cells<=100000):
 ∃g v,b5 ct F (k+2) 225 [T,ruD r,.ref w,.ref s] h=.ok (.tup [.ref v,.int ((T4 H ss cells r).2:Int)]) g/\Pf h g/\g[v]? =some (.lst ((T4 H ss cells r).1.map clD))/\↥h<=v:=by
 have dk:biD .dict h [.ref ci]=.ok (.ref ↥h) (h++[.dict (kd (hC H.cs))]):=a9e (λc:Cs=>c.n) (λc=>.tup (c.fs.map .str)) hc K.csn;have P1:=(Pf.refl h).app [.dict (kd (hC H.cs))];have hd:(h++[Cell.dict (kd (hC H.cs))])[↥h]? =some (.dict (kd (hC H.cs))):=b7;generalize hdC:↥h=dC at dk hd;generalize h++[Cell.dict (kd (hC H.cs))]=g1 at dk P1 hd;have se:=b6p (ct:=ct) (c:=b5 ct F (k+1)) (a:=.v 2) (env:=[some T,some (ruD r),~~~w,~~~s,some (.str r.t),some (.str r.f),some (.tup (r.b.map .str)),some (.tup (r.c.map .str)),some (.tup (r.a.map .str)),some (.tup (r.o.map .str)),~~~dC,none,none,none,none,none,none,none,none,none,none]) (h:=g1) (h1:=g1) (w:=w) (cells:=cells) (by simp![]) (P1.at hw) nofun;have P2:=P1.app [.lst (cells.map λc=>.str c.1)];have hr:(g1++[Cell.lst (cells.map λc=>.str c.1)])[↥g1]? =some (.lst (cells.map λc=>.str c.1)):=b7;have hd2:=b6 (g:=[Cell.lst (cells.map λc=>.str c.1)]) hd;generalize ↥g1=bX at se hr;generalize g1++[Cell.lst (cells.map λc=>.str c.1)]=g2 at se P2 hr hd2;have hm:=b1X (ct:=ct) (k:=k) (h:=g2) eT (P2.at hw) hl;have P3:=P2.app [.lst ((hmI cells).map .int)];have gh:(g2++[Cell.lst ((hmI cells).map .int)])[↥g2]? =some (.lst ((hmI cells).map .int)):=b7;have hr3:=b6 (g:=[Cell.lst ((hmI cells).map .int)]) hr;have hd3:=b6 (g:=[Cell.lst ((hmI cells).map .int)]) hd2;generalize hgl:↥g2=hI at hm gh;generalize g2++[Cell.lst ((hmI cells).map .int)]=g3 at hm P3 gh hr3 hd3;have eJ:=a7S cells ([],0);have hx:ev ct (b5 ct F (k+1)) wkH [some T,some (ruD r),~~~w,~~~s,some (.str r.t),some (.str r.f),some (.tup (r.b.map .str)),some (.tup (r.c.map .str)),some (.tup (r.a.map .str)),some (.tup (r.o.map .str)),~~~dC,none,~~~bX,none,none,none,none,none,none,none,none] g2=.ok (.ref ↥g3) (g3++[.lst ((hmI cells).map λl=>.bl (!K4 H.fe ss r.f l))]):=by
  unfold wkH;rw[n9 (l:=(hmI cells).map .int) (g:=[(hI,.lst ((hmI cells).map .int))]) (h1:=g3) (by simp![hm,L3,gh]) (by simp only[gOk,all_cons,all_nil,gh];simp) (λx=>match x with
   |.int l=>.bl (!K4 H.fe ss r.f l)
   |_=>.non) (λx=>[some x,some (.str r.f),some T,~~~s]) (λx hx=>by
   obtain⟨l,_,rfl⟩:=al.mp hx;refine⟨rfl,?_⟩;simp![t6,b1W (ct:=ct) (k:=k) (l:=l) eU (P3.at hfe) (P3.at hs) K.fen.nd ro.fe]) (by
   rw[aa];show(hmI cells).length<=16777216;unfold hmI;rw[eJ,length_nil];ac_nf),aI]
  rfl
 have P4:=P3.app [.lst ((hmI cells).map λl=>.bl (!K4 H.fe ss r.f l))];have hf:(g3++[Cell.lst ((hmI cells).map λl=>.bl (!K4 H.fe ss r.f l))])[↥g3]? =some (.lst ((hmI cells).map λl=>.bl (!K4 H.fe ss r.f l))):=b7;have hr4:=b6 (g:=[Cell.lst ((hmI cells).map λl=>.bl (!K4 H.fe ss r.f l))]) hr3;have hd4:=b6 (g:=[Cell.lst ((hmI cells).map λl=>.bl (!K4 H.fe ss r.f l))]) hd3;generalize ↥g3=ofI at hx hf;generalize g3++[Cell.lst ((hmI cells).map λl=>.bl (!K4 H.fe ss r.f l))]=g4 at hx P4 hf hr4 hd4;obtain⟨g',i',e11,e17,e18,e19,e20,q1,q2⟩:=a7r (ct:=ct) (k:=k) (s:=s) (T:=T) cF K ro nc (P4.at hw) hd4 hr4 hf hL hl ↥cells 0 0 a4V [] (g4++[.lst []]) none none none none none nofun (by show _<1000000;ac_nf) (gd _) (λ_ h=>nomatch h) ⟨(Pf.refl g4).app _,b7⟩;refine⟨g',↥g4,?_,P4.trans q2.pf,q2.p,by have:=P4.len;ac_nf⟩;rw[i6 eS rfl,K5];rw[gc0,seq (bF:=[some T,some (ruD r),~~~w,~~~s,some (.str r.t),some (.str r.f),some (.tup (r.b.map .str)),some (.tup (r.c.map .str)),some (.tup (r.a.map .str)),some (.tup (r.o.map .str)),none,none,none,none,none,none,none,none,none,none,none]) (h':=h) rfl,seq (by simp![t5,dk];rfl),seq (by simp![se];rfl),seq (by simp![hx];rfl),seq (by simp![v8];rfl),seq (by simp![];rfl),seq (by simp![];rfl)];show a2F (exs ct _ _ (J1 T r w s dC bX ofI ↥g4 0 0 none none none none none) _)=_;rw[seq (b2W.trans q1)];unfold J1;simp![ay (show 2<=SL by decide)];rfl
end
theorem a5O{H:HL}{ss:List Sg}{r:Ru}{cells:List Cl}(ro:RuOk H.sh H.cs H.fe r)(nc:Nmd H cells):∀(m i:Nat)(ps:List Cl)(n:Nat),Nmd H ps->Nmd H (dnL H ss r cells m i ps n).1
 |0,_,_,_,hp=>hp
 | m +1,i,ps,n,hp=>by
  unfold dnL;cases e:cells[i]? with
  |none=>exact hp
  |some c=>
   simp only;split
   · exact a5O ro nc m _ _ _ (hp.told ro)
   · refine a5O ro nc m _ _ _ λx hx=>?_;rcases aL.mp hx with hx|hx
     · exact hp x hx
     · rw[aO.mp hx];exact nc _ (aH e)
theorem a6I(e:h[n]? =some (.lst xs))(hd:xs[↥xs-1]? =some d):ixD h (.ref n) (.int (-1))=.ok d h:=by simp only[ixD,e,b3A hd]
theorem lb{a:Nat}(h:Nat.ble a b=true):a<=b:=fS h
theorem c2u(h:n<4):n=0∨n=1∨n=2∨n=3:=by ac_nf
theorem al1{P:Str->Prop}{a:Str}(h:P a):∀x∈[a],P x:=λx hx=>by rw[aO.mp hx];exact h
theorem al2{P:Str->Prop}{a b:Str}(h:P a)(k:P b):∀x∈[a,b],P x:=λx hx=>by
 rcases aF.mp hx with rfl|hx
 · exact h
 · exact al1 k x hx
section
variable{ct:CT}{F:Nat->Option Fn}{H:HL}
theorem a6F{T:D}{i:Int}{a:Nat}{l:List α}{f g:α->D}(h0:env[0]? =some (some T))(ht:ixD h T (.int i)=.ok (.ref a) h)(ha:h[a]? =some (.lst (l.map λx=>.tup [f x,g x])))(hl:↥l<=100):ev ct c (trN i) env h=.ok (.ref ↥h) (h++[.lst (l.map f)]):=by
 unfold trN;rw[n9 (l:=l.map λx=>.tup [f x,g x]) (g:=[(a,.lst (l.map λx=>.tup [f x,g x]))]) (h1:=h) (by simp only[R7,b3e,b0e,h0,b3d,b9,ht,L3,ha]) (by simp only[gOk,all_cons,all_nil,ha];simp) (λx=>match x with
  |.tup [a,_]=>a
  |_=>.non) (λx=>match x with
  |.tup [a,b]=>[some a,some b]
  |_=>[]) (λx hx=>by
  obtain⟨y,_,rfl⟩:=al.mp hx;exact⟨rfl,rfl⟩) (by rw[aa];show _<=16777216;ac_nf),aI]
 rfl
theorem b4a{S:List Str}(h1:1<=S.length):
 ∃o:List Str,(1<=↥o/\↥o<=3)/\(∀x∈o,x∈S)/\(∀(env:o8)(h:AH),env[2]? =some (M⁻¹)->env[4]? =some (~~~w)->h[w]? =some (.lst (S.map .str))->ev ct c trT env h=.ok (.tup (o.map .str)) h)/\∃a b y z,(a∈S/\b∈S/\y∈S/\z∈S)/\(∀h,ixD h (.tup (o.map .str)) (.int 0)=.ok (.str a) h)/\(∀h,ixD h (.tup (o.map .str)) (.int 1)=.ok (.str b) h)/\(∀h,ixD h (.tup (o.map .str)) (.int (-2))=.ok (.str y) h)/\∀h,ixD h (.tup (o.map .str)) (.int (-1))=.ok (.str z) h:=by
 obtain⟨x,hx,e1⟩:=N6 D.str h1 (M/7);obtain⟨y,hy,e2⟩:=N6 D.str h1 (M/11);obtain⟨z,hz,e3⟩:=N6 D.str h1 (M/13);have st:∀(env:o8)(h:AH),env[2]? =some (M⁻¹)->env[4]? =some (~~~w)->h[w]? =some (.lst (S.map .str))->ev ct c trT env h=slD h none (some (2+((M/17%2:Nat):Int))) (.tup [.str x,.str y,.str z]):=λenv h h2 h4 hw=>by
  have ln:biD .len h [.ref w]=.ok ⇑S.length h:=by rw[n5 hw,aa]
  unfold trT trX trM;simp![h2,h4,ln,op2,D1 7 ∅ ∅,D1 11 ∅ ∅,D1 13 ∅ ∅,D1 17 ∅ ∅,y9 S.length h1,y9 2 ∅,o0 hw e1,o0 hw e2,o0 hw e3,ay (show 3<=SL by decide),o6]
 rcases(show M/17%2=0∨M/17%2=1 by ac_nf) with e|e<;>rw[e] at st
 · exact⟨[x,y],⟨lb rfl,lb rfl⟩,al2 hx hy,st,x,y,x,y,⟨hx,hy,hx,hy⟩,λh=>rfl,λh=>rfl,λh=>rfl,λh=>rfl⟩
 · exact⟨[x,y,z],⟨lb rfl,lb rfl⟩,λw hw=>by
    rcases aF.mp hw with rfl|hw
    · exact hx
    · exact al2 hy hz w hw,st,x,y,y,z,⟨hx,hy,hy,hz⟩,λh=>rfl,λh=>rfl,λh=>rfl,λh=>rfl⟩
theorem b7D{S o:List Str}{ta tb ty tz:Str}(hS:ta∈S/\tb∈S/\ty∈S/\tz∈S)(i0:∀h,ixD h (.tup (o.map .str)) (.int 0)=.ok (.str ta) h)(i1:∀h,ixD h (.tup (o.map .str)) (.int 1)=.ok (.str tb) h)(i2:∀h,ixD h (.tup (o.map .str)) (.int (-2))=.ok (.str ty) h)(i3:∀h,ixD h (.tup (o.map .str)) (.int (-1))=.ok (.str tz) h):
 (∃b:List Str,↥b<=3/\(∀x∈b,x∈S)/\∀(env:o8)(h:AH),env[2]? =some (M⁻¹)->env[7]? =some (some (.tup (o.map .str)))->ev ct c trB env h=.ok (.tup (b.map .str)) (h++[.lst [.tup [],.tup [.str ta],.tup [],.tup [.str ty]]]))∧
 ∃b:List Str,(1<=↥b/\↥b<=4)/\(∀x∈b,x∈S)/\∀(env:o8)(h:AH),env[2]? =some (M⁻¹)->env[7]? =some (some (.tup (o.map .str)))->ev ct c trK env h=.ok (.tup (b.map .str)) (h++[.lst [.tup [.str tz],.tup [.str tz],.tup [.str ta,.str tb]]]):=by
 obtain⟨sa,sb,sy,sz⟩:=hS;have s1:∀(env:o8)(h:AH),env[2]? =some (M⁻¹)->env[7]? =some (some (.tup (o.map .str)))->ev ct c trB env h=ixD (h++[.lst [.tup [],.tup [.str ta],.tup [],.tup [.str ty]]]) (.ref ↥h) ⇑(M/19%4):=λenv h h2 h7=>by unfold trB trM;simp![h2,h7,op2,D1 19 ∅ ∅,y9 4 ∅,i0,i2,v8,ay (show 0<=SL by decide),ay (show 1<=SL by decide),ay (show 4<=SL by decide)]
 have s2:∀(env:o8)(h:AH),env[2]? =some (M⁻¹)->env[7]? =some (some (.tup (o.map .str)))->ev ct c trK env h=ixD (h++[.lst [.tup [.str tz],.tup [.str tz],.tup [.str ta,.str tb]]]) (.ref ↥h) ⇑(M/23%3):=λenv h h2 h7=>by unfold trK trM;simp![h2,h7,op2,D1 23 ∅ ∅,y9 3 ∅,i0,i1,i3,v8,ay (show 1<=SL by decide),ay (show 2<=SL by decide),ay (show 3<=SL by decide)]
 refine⟨?_,?_⟩
 · rcases c2u (fL (M/19) (show 4>0 by decide)) with e|e|e|e<;>rw[e] at s1
   · exact⟨[],lb rfl,(λ_ h=>nomatch h),λenv h h2 h7=>(s1 env h h2 h7).trans (o0 b7 rfl)⟩
   · exact⟨[ta],lb rfl,al1 sa,λenv h h2 h7=>(s1 env h h2 h7).trans (o0 b7 rfl)⟩
   · exact⟨[],lb rfl,(λ_ h=>nomatch h),λenv h h2 h7=>(s1 env h h2 h7).trans (o0 b7 rfl)⟩
   · exact⟨[ty],lb rfl,al1 sy,λenv h h2 h7=>(s1 env h h2 h7).trans (o0 b7 rfl)⟩
 · rcases(show M/23%3=0∨M/23%3=1∨M/23%3=2 by ac_nf) with e|e|e<;>rw[e] at s2
   · exact⟨[tz],⟨lb rfl,lb rfl⟩,al1 sz,λenv h h2 h7=>(s2 env h h2 h7).trans (o0 b7 rfl)⟩
   · exact⟨[tz],⟨lb rfl,lb rfl⟩,al1 sz,λenv h h2 h7=>(s2 env h h2 h7).trans (o0 b7 rfl)⟩
   · exact⟨[ta,tb],⟨lb rfl,lb rfl⟩,al2 sa sb,λenv h h2 h7=>(s2 env h h2 h7).trans (o0 b7 rfl)⟩
theorem b8E{S:List Str}(h1:1<=S.length):∃u:List Str,(1<=↥u/\↥u<=3)/\(∀x∈u,x∈S)/\∀(env:o8)(h:AH),env[2]? =some (M⁻¹)->env[4]? =some (~~~w)->h[w]? =some (.lst (S.map .str))->ev ct c trO env h=.ok (.tup (u.map .str)) h:=by
 obtain⟨x,hx,e1⟩:=N6 D.str h1 (M/29);obtain⟨y,hy,e2⟩:=N6 D.str h1 0;rw[Nat.zero_mod] at e2;have st:∀(env:o8)(h:AH),env[2]? =some (M⁻¹)->env[4]? =some (~~~w)->h[w]? =some (.lst (S.map .str))->ev ct c trO env h=slD h none (some (1+((M/31%2:Nat):Int))) (.tup [.str x,.str y]):=λenv h h2 h4 hw=>by
  have ln:biD .len h [.ref w]=.ok ⇑S.length h:=by rw[n5 hw,aa]
  unfold trO trX trM;simp![h2,h4,ln,op2,D1 29 ∅ ∅,D1 31 ∅ ∅,y9 S.length h1,y9 2 ∅,o0 hw e1,show ixD h (.ref w) (.int 0)=_ from o0 (i:=0) hw e2,ay (show 2<=SL by decide),o6]
 rcases(show M/31%2=0∨M/31%2=1 by ac_nf) with e|e<;>rw[e] at st
 · exact⟨[x],⟨lb rfl,lb rfl⟩,al1 hx,st⟩
 · exact⟨[x,y],⟨lb rfl,lb rfl⟩,al2 hx hy,st⟩
theorem b5Y(nc:Nmd H cells)(hc:1<=↥cells)(hw:h[w]? =some (.lst (cells.map clD))):∃o:List Str,(1<=↥o/\↥o<=4)/\(∀x∈o,x∈H.sh.map (·.1))/\∀T w3 w4 r7,exs ct c (.set 5 (.bin .mod (.v 2) (.bi .len (.o (.v 1))))>=>.set 6 (.tup (.o (trC (.v 5))))>=>(.cons trI r7)) [some T,~~~w,M⁻¹,~~~w3,~~~w4,none,none,none,none,none] h=exs ct c r7 [some T,~~~w,M⁻¹,~~~w3,~~~w4,some ⇑(M%↥cells),some (.tup (o.map .str)),none,none,none] h:=by
 have ln:biD .len h [.ref w]=.ok ⇑↥cells h:=by rw[n5 hw,aa]
 have cx:∀j (hj:j<↥cells),ixD h (.ref w) ⇑j=.ok (clD cells[j]) h:=λj hj=>o0 hw (by rw[ak,ai hj];rfl);have at0:M%↥cells<↥cells:=fL _ hc;have eq:J3 h ⇑(M/3%3) (.int 0)=.ok (.bl (decide (((M/3%3:Nat):Int)=0))) h:=rfl;have lt:G3 (λi j=>decide (i<j)) h ⇑(M%↥cells+1) ⇑↥cells=.ok (.bl (decide (((M%↥cells+1:Nat):Int)<(↥cells:Int)))) h:=rfl;have ad:T0 h ⇑(M%↥cells) (.int 1)=.ok ⇑(M%↥cells+1) h:=by rw[Int.natCast_add];rfl
 have mc:u8 h ⇑M ⇑↥cells=.ok ⇑(M%↥cells) h:=y9 ↥cells hc;have s0:=nc _ (br at0);unfold trI trC trM
 by_cases h1:((M/3%3:Nat):Int)=0
 · by_cases h2:((M%↥cells+1:Nat):Int)<(↥cells:Int)
   · have l2:M%↥cells+1<↥cells:=by ac_nf
     refine⟨[cells[M%↥cells].1,cells[M%↥cells+1].1],⟨lb rfl,lb rfl⟩,al2 s0 (nc _ (br l2)),λT w3 w4 r7=>?_⟩;simp![op2,ln,mc,cx _ at0,Z3.1,ay (show 1<=SL by decide),D1 3 ∅ ∅,y9 3 ∅,eq,ba h1,ad,lt,ba h2,cx _ l2,ay (show 2<=SL by decide)]
   · refine⟨[cells[M%↥cells].1],⟨lb rfl,lb rfl⟩,al1 s0,λT w3 w4 r7=>?_⟩;simp![op2,ln,mc,cx _ at0,Z3.1,ay (show 1<=SL by decide),D1 3 ∅ ∅,y9 3 ∅,eq,ba h1,ad,lt,bw h2]
 · refine⟨[cells[M%↥cells].1],⟨lb rfl,lb rfl⟩,al1 s0,λT w3 w4 r7=>?_⟩;simp![op2,ln,mc,cx _ at0,Z3.1,ay (show 1<=SL by decide),D1 3 ∅ ∅,y9 3 ∅,eq,bw h1]
theorem b6L{k a:Nat}{T:D}(f226:F 226=some J6)(K:HLok H)(nc:Nmd H cells)(hc:1<=↥cells)(t0:∀h,ixD h T (.int 0)=.ok (.ref a) h)(t6:∀h,ixD h T (.int 6)=.ok (.ref fi) h)(ha:h[a]? =some (.lst (shD H.sh)))(hfe:h[fi]? =some (.lst (H.fe.map feD)))(hw:h[w]? =some (.lst (cells.map clD))):
 ∃r1 r2 g x,RuOk H.sh H.cs H.fe r1/\RuOk H.sh H.cs H.fe r2/\b5 ct F (k+1) 226 [T,.ref w,.int (M:Int)] h=.ok (.ref x) g/\Pf h g/\g[x]? =some (.lst [ruD r1,ruD r2]):=by
 have f3:=K.fe;have s4:=K.sh.lo;have s16:=K.sh.hi;have n1:=a6F (ct:=ct) (c:=b5 ct F k) (env:=[some T,~~~w,M⁻¹,none,none,none,none,none,none,none]) (l:=H.fe) (f:=λp=>.str p.1) (g:=λp=>.bl p.2) rfl (t6 h) hfe nofun;have P1:=(Pf.refl h).app [.lst (H.fe.map λp=>.str p.1)];have c1:(h++[Cell.lst (H.fe.map λp=>.str p.1)])[↥h]? =some (.lst (H.fe.map λp=>.str p.1)):=b7;generalize ↥h=w3 at n1 c1;generalize h++[Cell.lst (H.fe.map λp=>.str p.1)]=g1 at n1 P1 c1;have n2:=a6F (ct:=ct) (c:=b5 ct F k) (env:=[some T,~~~w,M⁻¹,~~~w3,none,none,none,none,none,none]) (l:=H.sh) (f:=λp=>.str p.1) (g:=λp=>.int (p.2:Int)) rfl (t0 g1) (P1.at ha) nofun;have P2:=P1.app [.lst (H.sh.map λp=>.str p.1)];have c2:(g1++[Cell.lst (H.sh.map λp=>.str p.1)])[↥g1]? =some (.lst ((H.sh.map (·.1)).map .str)):=by rw[aI];exact b7
 have c3:=b6 (g:=[Cell.lst (H.sh.map λp=>.str p.1)]) c1;generalize ↥g1=w4 at n2 c2;generalize g1++[Cell.lst (H.sh.map λp=>.str p.1)]=g2 at n2 P2 c2 c3;have S1:1<=↥(H.sh.map (·.1)):=by rw[aa];ac_nf
 obtain⟨co,k1,k2,k3⟩:=b5Y (ct:=ct) (c:=b5 ct F k) (M:=M) nc hc (P2.at hw);obtain⟨o,o3,oS,oe,ta,tb,ty,tz,hS,i0,i1,i2,i3⟩:=b4a (ct:=ct) (c:=b5 ct F k) (M:=M) (w:=w4) S1;obtain⟨⟨b,b1,b2,b3⟩,cc,e1,e2,e3⟩:=b7D (ct:=ct) (c:=b5 ct F k) (M:=M) hS i0 i1 i2 i3;obtain⟨u,u1,u2,u3⟩:=b8E (ct:=ct) (c:=b5 ct F k) (M:=M) (w:=w4) S1;obtain⟨p,p1,p2⟩:=N6 (λp:Str×Bool=>D.str p.1) f3.1 0;rw[Nat.zero_mod] at p2;obtain⟨q,q1,q2⟩:∃q∈H.fe,(H.fe.map λp=>D.str p.1)[↥(H.fe.map λp=>D.str p.1)-1]? =some (.str q.1):=by
  have lt:↥H.fe-1<↥H.fe:=by ac_nf
  exact⟨H.fe[↥H.fe-1],br lt,by rw[aa,ak,ai lt];rfl⟩
 have f0:=o0 (i:=0) c3 p2;have P3:=P2.app [.lst [.tup [],.tup [.str ta],.tup [],.tup [.str ty]]];have P4:=P3.app [.lst [.tup [.str tz],.tup [.str tz],.tup [.str ta,.str tb]]];have c6:=b6 (g:=[Cell.lst [.tup [.str tz],.tup [.str tz],.tup [.str ta,.str tb]]]) (b6 (g:=[Cell.lst [.tup [],.tup [.str ta],.tup [],.tup [.str ty]]]) c2);have fl:=a6I (b6 (g:=[Cell.lst [.tup [.str tz],.tup [.str tz],.tup [.str ta,.str tb]]]) (b6 (g:=[Cell.lst [.tup [],.tup [.str ta],.tup [],.tup [.str ty]]]) c3)) q2;refine⟨⟨"one",p.1,[],co,[],o⟩,⟨"two",q.1,b,cc,[],u⟩,g2++[.lst [.tup [],.tup [.str ta],.tup [],.tup [.str ty]]]++[.lst [.tup [.str tz],.tup [.str tz],.tup [.str ta,.str tb]]]++[.lst [ruD ⟨"one",p.1,[],co,[],o⟩,ruD ⟨"two",q.1,b,cc,[],u⟩]],_,⟨(show c9 "one"=true by decide),al.mpr ⟨p,p1,rfl⟩,gd _,k1,gd _,o3,(λ_ h=>nomatch h),λx hx=>.inl (k2 x hx),(λ_ h=>nomatch h),oS⟩,⟨(show c9 "two"=true by decide),al.mpr ⟨q,q1,rfl⟩,b1,e1,gd _,u1,λx hx=>.inl (b2 x hx),λx hx=>.inl (e2 x hx),(λ_ h=>nomatch h),u2⟩,?_,P4.app _,b7⟩;rw[i6 f226 rfl,J6];rw[gc0,seq (by simp![n1];rfl),seq (by simp![n2];rfl)];rw[k3,seq (by simp![oe,c2];rfl),seq (by simp![show ixD g2 (.ref w3) (.int 0)=_ from f0,ay (show 0<=SL by decide),ay (show 6<=SL by decide)];rfl),seq (by simp![b3];rfl),seq (by simp![e3];rfl)];unfold trR;simp![show ixD _ (.ref w3) (.int (-1))=_ from fl,ay (show 0<=SL by decide),ay (show 6<=SL by decide),ay (show 2<=SL by decide),u3,c6,v8];rfl
end
theorem b2B{l:List Str}{i:Nat}(hi:i<↥l):l.getD i ""∈l:=by rw[bu,ai hi];exact br hi
theorem c0O{H:HL}{k:Nat}(K:HLok H)(hx:∀x∈row,x∈H.ls.map (·.n))(hk:k<row.length):a2I H.ls row k∈H.sh.map (·.1):=by
 have zg:row.getD k ""∈row:=b2B hk;have o:=K.lso _ (b1T (hx _ zg));have gt:∀i,i<(V1 H.ls (row.getD k "")).fs.length->(V1 H.ls (row.getD k "")).fs.getD i ""∈H.sh.map (·.1):=λi hi=>o.fs _ (b2B hi);have f:=o.few;unfold a2I a5K;cases q:jgB (B0 H.ls row) k with
 |true=>
  have b4:=b6F o (a8K hk q);split
  · exact gt 2 nofun
  · exact gt 1 nofun
 |false=>
  rw[Bool.and_false,az ∅,az ∅];split
  · exact gt _ nofun
  · exact gt 0 nofun
theorem a8Z:∀(fs:List Str)(i:Nat)(c:Cl),c∈fcL i fs->c.1∈fs
 |[],_,_,h=>nomatch h
 |s::r,i,c,h=>by
  rcases aF.mp h with rfl|h
  · exact .head _
  · exact .tail _ (a8Z r (i+1) c h)
theorem b1K{H:HL}(K:HLok H)(hx:∀x∈row,x∈H.ls.map (·.n)):Nmd H (fcL 0 (A9 H.ls row)):=λc hc=>by obtain⟨k,hk,e⟩:=al.mp (a8Z _ _ c hc);rw[←e];exact c0O K hx (aN.mp hk)
def a1E(T l:D)(n w M x s:Nat)(e4 e9 e10 e11 eA dW:Option D):o8:=[some (.ref 0),some T,~~~n,some l,e4,~~~w,M⁻¹,~~~x,~~~s,e9,e10,e11,eA,dW]
section
variable{ct:CT}{F:Nat->Option Fn}{H:HL}
theorem b4p{k x l:Nat}{T:D}(dl:F 201=some E6)(bN:F 202=some p8)(K:HLok H)(h0:h[0]? =some (.rol (ns.map .int)))(t6:∀h,ixD h T (.int 6)=.ok (.ref fi) h)(hfe:h[fi]? =some (.lst (H.fe.map feD)))(hl:h[l]? =some (.lst (row.map .str)))(h1:1<=row.length){s0:Sg}(hs0:s0.f∈H.fe.map (·.1)):
 ∃(g':AH)(ss:List Sg)(e4 e9 e10:Option D),ex ct (b5 ct F (k+1)) (.for (.nm 4) (.rng1 (.i 4)) lwG) (a1E T (.ref l) n w M x ↥h none none none none none none) (h++[.lst [sgD s0]])=.ok (.nx (a1E T (.ref l) n w M x ↥h e4 e9 e10 none none none)) g'/\Pf h g'/\g'[↥h]? =some (.lst (ss.map sgD))/\∀p∈ss,p.f∈H.fe.map (·.1):=by
 have f3:=K.fe;obtain⟨q,q1,q2⟩:∃q∈H.fe,(H.fe.map feD)[↥(H.fe.map feD)-1]? =some (feD q):=by
  have lt:↥H.fe-1<↥H.fe:=by ac_nf
  exact⟨H.fe[↥H.fe-1],br lt,by rw[aa,ak,ai lt];rfl⟩
 obtain⟨bF,g',w1,ss,e4,e9,e10,rfl,w2,w3,w4,w5⟩:=B7 (g:=[]) (p:=.nm 4) (body:=exs ct (b5 ct F (k+1)) lwG) (λj env g=>∃ss:List Sg,∃e4 e9 e10,env=a1E T (.ref l) n w M x ↥h e4 e9 e10 none none none/\Pf h g/\g[↥h]? =some (.lst (ss.map sgD))/\↥ss=j+1/\∀p∈ss,p.f∈H.fe.map (·.1)) (λ_ _ _ _=>rfl) ((List.range 4).map λi=>.int ((0:Int)+(i:Nat))) 0 (a1E T (.ref l) n w M x ↥h none none none none none none) (h++[.lst [sgD s0]]) (λj x' env g hx hP=>by
  obtain⟨ss,e4,e9,e10,rfl,p1,p2,p3,p4⟩:=hP;obtain⟨hj,rfl⟩:=a1Z hx;rw[aB] at p3⊢;obtain⟨cl,hcl⟩:=Z0 (ct:=ct) (k:=k) (j:=5) dl (p1.at h0);obtain⟨N,hN⟩:=B8 (ct:=ct) (k:=k) (c:=cl) (j:=((j+400:Nat):Int)) (h:=g) bN nofun;have a400:op2 .add g ⇑j (.int 400)=.ok ⇑(j+400) g:=a4c (j:=400);have ln:biD .len g [.ref l]=.ok ⇑row.length g:=by rw[n5 (p1.at hl),aa]
  have d64:z8 g ⇑N (.int 64)=.ok ⇑(N/64) g:=D1 64 ∅ ∅;have d7:z8 g ⇑N (.int 7)=.ok ⇑(N/7) g:=D1 7 ∅ ∅;obtain⟨A,hA⟩:∃A:Int,u8 g ⇑N ⇑row.length=.ok (.int A) g:=⟨_,y9 row.length h1⟩;obtain⟨B,hB⟩:∃A:Int,u8 g ⇑(N/64) (.int 9)=.ok (.int A) g:=⟨_,y9 9 ∅⟩;obtain⟨C,hC⟩:∃A:Int,u8 g ⇑(N/7) (.int 2)=.ok (.int A) g:=⟨_,y9 2 ∅⟩;obtain⟨E,hE⟩:∃A:Int,u8 g ⇑j (.int 2)=.ok (.int A) g:=⟨_,y9 2 ∅⟩;have eq:J3 g (.int C) (.int E)=.ok (.bl (decide (C=E))) g:=rfl;have il:=a6I (p1.at hfe) q2;have i0:∀h,ixD h (feD q) (.int 0)=.ok (.str q.1) h:=λh=>ix_tup (i:=0) rfl;have ap:=K0 (d:=sgD ⟨q.1,A,A+B,decide (C=E)⟩) p2 (by rw[aa];ac_nf);refine⟨a1E T (.ref l) n w M x ↥h (j⁻¹) e9 e10 none none none,a1E T (.ref l) n w M x ↥h (j⁻¹) (N⁻¹) (some (.int A)) none none none,_,rfl,?_,ss++[⟨q.1,A,A+B,decide (C=E)⟩],_,_,_,rfl,p1.set (aj _),z9 p2,by rw[aq,length_singleton,p3],λp hp=>?_⟩
  · unfold lwG a1E;rw[seq (by simp![show b5 ct F (k+1) 201 [.ref 0,.int 5] g=.ok (.int cl) g from hcl,a400,hN];rfl),seq (by simp![ln,op2,hA];rfl)];rw[ao];simp![C2 p2,t6,il,i0,op2,d64,hB,o6,d7,hC,hE,eq,ay (show 4<=SL by decide),show D.tup [.str q.1,.int A,.int (A+B),.bl (decide (C=E))]=sgD ⟨q.1,A,A+B,decide (C=E)⟩ from rfl,ap]
  · rcases aL.mp hp with hp|hp
    · exact p4 p hp
    · rw[aO.mp hp];exact al.mpr ⟨q,q1,rfl⟩) ⟨[s0],none,none,none,rfl,(Pf.refl h).app _,b7,rfl,λp hp=>by rw[aO.mp hp];exact hs0⟩
 refine⟨g',ss,e4,e9,e10,?_,w2,w3,w5⟩;rw[a3N,a3Q,b3d,b9,show a9C (h++[.lst [sgD s0]]) (.int 0) (.int 4)=_ from a1a (m:=4) ∅,b9];exact w1
variable(W:PF F)(Q:DF F)
include W Q
theorem a8E{k n x s ci fi M:Nat}{T l:D}{ss:List Sg}{ds:List D}{h:AH}{e4 e9 e10:Option D}(eU:F 222=some S7)(cF:F 223=some D2)(eT:F 224=some J7)(eS:F 225=some K5)(K:HLok H)(A:HallAt h n (R4 H))(t5:∀h,ixD h T (.int 5)=.ok (.ref ci) h)(t6:∀h,ixD h T (.int 6)=.ok (.ref fi) h)(hc:h[ci]? =some (.lst (H.cs.map csD)))(hfe:h[fi]? =some (.lst (H.fe.map feD)))(hs:h[s]? =some (.lst (ss.map sgD)))(hx:h[x]? =some (.lst ds))(dQ:∀p∈ss,p.f∈H.fe.map (·.1)):∀(rs:List Ru)(cells:List Cl)(w:Nat)(g:AH)(e11 eA dW:Option D),(∀r∈rs,RuOk H.sh H.cs H.fe r)->Pf h g->g[w]? =some (.lst (cells.map clD))->↥cells*3^↥rs<=100000->↥(j9 cells)<=1000->HdL cells->Nmd H cells→
 ∃g' bF,G0 [(x,.lst ds)] (.nm 11) (exs ct (b5 ct F (k+6)) lwB) (rs.map ruD) (a1E T l n w M x s e4 e9 e10 e11 eA dW) g=.ok (.nx bF) g'
 |[],cells,w,g,e11,eA,dW,_,P,_,_,_,_,_=>⟨g,_,by rw[map_nil,G0,ay (by simp only[gOk,all_cons,all_nil,P.at hx];simp)]⟩
 | r::t,cells,w,g,e11,eA,dW,hrs,P,hw,hl,hL,ho,nc=>by
  rw[length_cons] at hl;have ro:=hrs r (.head _);obtain⟨g1,v,q1,P1,q3,q4⟩:=a9o (ct:=ct) (k:=k+4) eU cF eT eS K ro nc t5 t6 (P.at hc) (P.at hfe) hw (P.at hs) hL (b1r hl);have P2:=(P.trans P1).app [.lst (cells.map clD)];have P3:=P2.app [.lst (ss.map sgD)];have l1:=a8H (P1.at hw);have l2:=a8H (P2.at hs);obtain⟨g4,d1,d2,d3⟩:=b5S (ct:=ct) (k:=k) (w:=↥g1) (s:=↥(g1++[Cell.lst (cells.map clD)])) (h:=g1++[.lst (cells.map clD)]++[.lst (ss.map sgD)]) W Q K (A.pf P3) ro (b6 b7) b7 dQ (b1r hl) hL ho;obtain⟨a1,a2,a3⟩:=b3m (H:=H) (ss:=ss) ro.c4.1 ro.o3.2 ho;have gv:=d2.at (b6 (g:=[Cell.lst (ss.map sgD)]) (b6 (g:=[Cell.lst (cells.map clD)]) q3));have nq:=(c0U (n:=((T4 H ss cells r).2:Int)) d3 gv).2;obtain⟨g',bF,b⟩:=a8E (k:=k) (l:=l) (M:=M) (e4:=e4) (e9:=e9) (e10:=e10) eU cF eT eS K A t5 t6 hc hfe hs hx dQ t (T4 H ss cells r).1 v g4 (some (ruD r)) (some (.tup [.ref v,.int ((T4 H ss cells r).2:Int)])) (some (.tup [.ref ↥(g1++[Cell.lst (cells.map clD)]++[Cell.lst (ss.map sgD)]),.int ((T4 H ss cells r).2:Int)])) (λx hx=>hrs x (.tail _ hx)) (P3.trans d2) gv (b1q hl a3) (by rw[a1];exact hL) a2 (a5O ro nc _ _ _ _ λ_ h=>nomatch h);refine⟨g',bF,?_⟩;rw[map_cons,G0,ay (by simp only[gOk,all_cons,all_nil,P.at hx];simp)];show(exs ct (b5 ct F (k+6)) lwB (a1E T l n w M x s e4 e9 e10 (some (ruD r)) eA dW) g).bind _=_;have bd:exs ct (b5 ct F (k+6)) lwB (a1E T l n w M x s e4 e9 e10 (some (ruD r)) eA dW) g=.ok (.nx (a1E T l n v M x s e4 e9 e10 (some (ruD r)) (some (.tup [.ref v,.int ((T4 H ss cells r).2:Int)])) (some (.tup [.ref ↥(g1++[Cell.lst (cells.map clD)]++[Cell.lst (ss.map sgD)]),.int ((T4 H ss cells r).2:Int)])))) g4:=by generalize ↥(g1++[Cell.lst (cells.map clD)]++[Cell.lst (ss.map sgD)])=u at d1 nq⊢;generalize ((T4 H ss cells r).2:Int)=N at q1 d1 nq⊢;generalize ruD r=rr at q1 d1⊢;have p0:∀h,ixD h (.tup [.ref v,.int N]) (.int 0)=.ok (.ref v) h:=λh=>ix_tup (i:=0) rfl;unfold lwB a1E;rw[seq (by simp![q1];rfl),seq (by simp![l1,l2,d1];rfl),seq (by simp![b8A,c0u,fK,nq];rfl)];simp![p0]
  rw[bd,b9];exact b
theorem b7X{d:Nat}(f33:F 33=some F5)(f34:F 34=some Y8)(f35:F 35=some I0)(f36:F 36=some J4)(f37:F 37=some M0)(dl:F 201=some E6)(bN:F 202=some p8)(cg:F 203=some o9)(f204:F 204=some E1)(cZ:F 205=some B9)(f206:F 206=some F6)(f207:F 207=some E3)(f208:F 208=some C8)(f209:F 209=some C9)(dB:F 210=some C0)(f211:F 211=some B6)(f212:F 212=some M1)(dU:F 213=some E4)(f214:F 214=some E2)(f215:F 215=some J8)(f216:F 216=some O2)(eU:F 222=some S7)(cF:F 223=some D2)(eT:F 224=some J7)(eS:F 225=some K5)(f226:F 226=some J6)(f221:F 221=some a9a)(dQ:ct.init 6=32):∃h',b5 ct F (d+11) 221 [.ref 0] [.rol (ns.map .int)]=.ok (.bl true) h':=by
 generalize hg0:[Cell.rol (ns.map .int)]=g0;have hr:g0[0]? =some (.rol (ns.map .int)):=by rw[←hg0];rfl
 obtain⟨H,g3,a,b,c,d',e,f,i,j,K,bP,P3,A,hH⟩:=b5t (ct:=ct) (k:=d+7) (n:=0) (m:=2) (ns:=ns) (h:=g0) dl bN cg f204 cZ f206 f207 f208 f209 dB f211 f212 hr ∅;have hT:=b2q (ct:=ct) (k:=d+8) K dU f214 f215 A;obtain⟨g4,ht,hA,hR⟩:=a5j (ct:=ct) (d:=d+8) (h:=g3) (text:=a8W H) (H':=R4 H) W dQ (by have:=b3P K;ac_nf) (by rw[a9q K];exact a9D W K);have P4:Pf g3 g4:=⟨by rw[←ht,aM];ac_nf,λi hi=>by
  have:(g4.take ↥g3)[i]? =g3[i]? :=by rw[ht]
  rw[←this,bz hi]⟩
 have hr4:g4[0]? =some (.rol (ns.map .int)):=P4.at (P3.at hr);have a0:=P4.at A.sh;have a3:=P4.at A.ls;have a5:=P4.at A.cs;have a6:=P4.at A.fe;have t0:∀h,ixD h (.tup [.ref a,.ref b,.ref c,.ref d',.ref e,.ref f,.ref i,.ref j]) (.int 0)=.ok (.ref a) h:=λh=>ix_tup (i:=0) rfl;have t3:∀h,ixD h (.tup [.ref a,.ref b,.ref c,.ref d',.ref e,.ref f,.ref i,.ref j]) (.int 3)=.ok (.ref d') h:=λh=>ix_tup (i:=3) rfl;have t5:∀h,ixD h (.tup [.ref a,.ref b,.ref c,.ref d',.ref e,.ref f,.ref i,.ref j]) (.int 5)=.ok (.ref f) h:=λh=>ix_tup (i:=5) rfl;have t6:∀h,ixD h (.tup [.ref a,.ref b,.ref c,.ref d',.ref e,.ref f,.ref i,.ref j]) (.int 6)=.ok (.ref i) h:=λh=>ix_tup (i:=6) rfl;generalize hTt:D.tup [.ref a,.ref b,.ref c,.ref d',.ref e,.ref f,.ref i,.ref j]=T at hH hT t0 t3 t5 t6;obtain⟨row,r1,r2,r3⟩:=b7e (ct:=ct) (k:=d+8) (m:=40) bN f216 hr4 a3 K.ls.1 ∅;have z40:row.length<=40:=by rw[r1,aM];ac_nf
 obtain⟨y,y1,y2⟩:=N6 ltD K.ls.1 0;rw[Nat.zero_mod] at y2;have iy:=o0 (i:=0) (b6 (g:=[Cell.lst (row.map .str)]) a3) y2;have y0:∀h,ixD h (ltD y) (.int 0)=.ok (.str y.n) h:=λh=>ix_tup (i:=0) rfl;have ad:T0 (g4++[Cell.lst (row.map .str)]++[Cell.lst [.str y.n]]) (.ref ↥g4) (.ref ↥(g4++[Cell.lst (row.map .str)]))=.ok (.ref ↥(g4++[Cell.lst (row.map .str)]++[Cell.lst [.str y.n]])) (g4++[Cell.lst (row.map .str)]++[Cell.lst [.str y.n]]++[.lst ((row++[y.n]).map .str)]):=by rw[a4b (b6 b7) b7 (by rw[aa];show row.length+1<=100000;ac_nf),ao];rfl
 have P6:=(((Pf.refl g4).app [.lst (row.map .str)]).app [.lst [.str y.n]]).app [.lst ((row++[y.n]).map .str)];have c6:(g4++[Cell.lst (row.map .str)]++[Cell.lst [.str y.n]]++[Cell.lst ((row++[y.n]).map .str)])[↥(g4++[Cell.lst (row.map .str)]++[Cell.lst [.str y.n]])]? =some (.lst ((row++[y.n]).map .str)):=b7;have st3:ex ct (b5 ct F (d+10)) (.set 3 (.bin .add (.call 216 (.v 0>=>.i 6>=>.i 40>=>.o (.ix (.v 1) (.i 3)))) (.lst (.o (.ix (.ix (.ix (.v 1) (.i 3)) (.i 0)) (.i 0)))))) [some (.ref 0),some T,~~~↥g3,none,none,none,none,none,none,none,none,none,none,none] g4=.ok (.nx [some (.ref 0),some T,~~~↥g3,some (.ref ↥(g4++[Cell.lst (row.map .str)]++[Cell.lst [.str y.n]])),none,none,none,none,none,none,none,none,none,none]) (g4++[Cell.lst (row.map .str)]++[Cell.lst [.str y.n]]++[Cell.lst ((row++[y.n]).map .str)]):=by simp![t3,show b5 ct F (d+10) 216 [.ref 0,.int 6,.int 40,.ref d'] g4=_ from r3,show ixD (g4++[Cell.lst (row.map .str)]) (.ref d') (.int 0)=_ from iy,y0,ay (show 1<=SL by decide),v8,op2,ad]
 have r2':∀x∈row++[y.n],x∈H.ls.map (·.n):=λx hx=>by
  rcases aL.mp hx with hx|hx
  · exact r2 x hx
  · rw[aO.mp hx];exact al.mpr ⟨y,y1,rfl⟩
 have rl:1<=↥(row++[y.n])/\↥(row++[y.n])<=41:=by rw[aq,length_singleton];ac_nf
 generalize ↥(g4++[Cell.lst (row.map .str)]++[Cell.lst [.str y.n]])=lI at c6 st3;generalize g4++[Cell.lst (row.map .str)]++[Cell.lst [.str y.n]]++[Cell.lst ((row++[y.n]).map .str)]=g6 at P6 c6 st3;generalize row++[y.n]=bX at P6 c6 st3 r2' rl;have fo:=a7X (ct:=ct) (k:=d+7) f33 f34 f35 f36 f37 K (hA.pf P6) c6 r2' nofun;have fl:↥(A9 H.ls bX)=↥bX:=by unfold A9;rw[aa,aK]
 obtain⟨fc1,fc2⟩:=b2T (A9 H.ls bX) 0;have P7:=(P6.app [.lst ((A9 H.ls bX).map .str)]).app [.lst ((fcL 0 (A9 H.ls bX)).map clD)];have fe:=b2P (ct:=ct) (c:=b5 ct F (d+10)) (a:=(.call 34 (.v 2>=>.o (.v 3)))) (env:=[some (.ref 0),some T,~~~↥g3,~~~lI,none,none,none,none,none,none,none,none,none,none]) (h:=g6) (h1:=g6++[.lst ((A9 H.ls bX).map .str)]) (w:=↥g6) (fs:=A9 H.ls bX) (by simp![fo]) b7 nofun;have c7:(g6++[Cell.lst ((A9 H.ls bX).map .str)]++[.lst ((fcL 0 (A9 H.ls bX)).map clD)])[↥(g6++[Cell.lst ((A9 H.ls bX).map .str)])]? =some (.lst ((fcL 0 (A9 H.ls bX)).map clD)):=b7;have c67:=b6 (g:=[.lst ((fcL 0 (A9 H.ls bX)).map clD)]) (b6 (g:=[.lst ((A9 H.ls bX).map .str)]) c6);generalize ↥(g6++[Cell.lst ((A9 H.ls bX).map .str)])=w0 at fe c7;generalize g6++[Cell.lst ((A9 H.ls bX).map .str)]++[Cell.lst ((fcL 0 (A9 H.ls bX)).map clD)]=g7 at fe P7 c7 c67;obtain⟨cl4,hcl4⟩:=Z0 (ct:=ct) (k:=d+9) (j:=4) dl (P7.at hr4);obtain⟨M,hM⟩:=B8 (ct:=ct) (k:=d+9) (c:=cl4) (j:=9) (h:=g7) bN ∅;have nf:=b1K K r2';have ho:=c0P (A9 H.ls bX) 0;rw[fl] at fc1 fc2;generalize fcL 0 (A9 H.ls bX)=cells at*
 obtain⟨r1,r2,g8,x,o1,o2,q1,P8,q3⟩:=b6L (ct:=ct) (k:=d+9) (M:=M) f226 K nf nofun t0 t6 (P7.at a0) (P7.at a6) c7;have P78:=P7.trans P8;obtain⟨p,p1,p2⟩:=N6 feD K.fe.1 0;rw[Nat.zero_mod] at p2;have ip:=o0 (i:=0) (P78.at a6) p2;have p0:∀h,ixD h (feD p) (.int 0)=.ok (.str p.1) h:=λh=>ix_tup (i:=0) rfl;have ln:biD .len g8 [.ref lI]=.ok ⇑↥bX g8:=by rw[n5 (P8.at c67),aa]
 obtain⟨g9,ss,e4,e9,e10,w1,P9,w3,w4⟩:=b4p (ct:=ct) (k:=d+9) (n:=↥g3) (w:=w0) (M:=M) (x:=x) (T:=T) (h:=g8) (s0:=⟨p.1,0,(↥bX:Int),true⟩) dl bN K (P78.at hr4) t6 (P78.at a6) (P8.at c67) rl.1 (al.mpr ⟨p,p1,rfl⟩);have P89:=P78.trans P9;obtain⟨g',bF,b⟩:=a8E (ct:=ct) (k:=d+4) (l:=.ref lI) (M:=M) (e4:=e4) (e9:=e9) (e10:=e10) W Q eU cF eT eS K (hA.pf P89) t5 t6 (P89.at a5) (P89.at a6) w3 (P9.at q3) w4 [r1,r2] cells w0 g9 none none none (λr hr=>by
  rcases aF.mp hr with rfl|hr
  · exact o1
  · rw[aO.mp hr];exact o2) (Pf.refl g9) ((P8.trans P9).at c7) (by rw[fc1];show _*9<=_;ac_nf) nofun ho nf
 refine⟨g',?_⟩;rw[i6 f221 rfl,a9a];rw[gc0,seq (by simp![show b5 ct F (d+10) 212 [.ref 0,.int 2] g0=_ from hH];rfl),seq (by simp![hT,hR];rfl)];rw[seq st3,seq (by simp![fe];rfl),seq (by simp![show b5 ct F (d+10) 201 [.ref 0,.int 4] g7=.ok (.int cl4) g7 from hcl4,hM];rfl),seq (by simp![q1];rfl)];unfold lwE;rw[seq (bF:=a1E T (.ref lI) ↥g3 w0 M x ↥g8 none none none none none none) (h':=g8++[.lst [sgD ⟨p.1,0,(↥bX:Int),true⟩]]) (by simp![t6,show ixD g8 (.ref i) (.int 0)=_ from ip,p0,ln,ay (show 4<=SL by decide),ay (show 1<=SL by decide),v8];rfl)]
 rw[seq w1,seq (by rw[a3N,R7];rw[show ev ct (b5 ct F (d+10)) (.v 7) (a1E T (.ref lI) ↥g3 w0 M x ↥g8 e4 e9 e10 none none none) g9=.ok (.ref x) g9 from rfl,b9];rw[show L3 g9 (.ref x)=.ok ([ruD r1,ruD r2],[(x,.lst [ruD r1,ruD r2])]) g9 by simp only[L3,P9.at q3]];exact b)]
 simp![]
end
end EV
namespace K21
open PySem L2 EV
theorem pf:PF F:=⟨rfl,rfl,rfl,rfl,rfl,rfl,rfl,rfl,rfl,rfl,rfl,rfl,rfl,rfl,rfl,rfl,rfl,rfl,rfl,rfl,rfl,rfl,rfl,rfl,rfl,rfl,rfl,rfl,rfl,rfl,rfl,rfl⟩
end K21
theorem a7O:∀ns:List Int,↥ns<=63->∃h',EV.b5 K21.ct K21.F 20 221 [.ref 0] [.rol (ns.map .int)]=.ok (.bl true) h':=λns _=>EV.b7X (d:=9) K21.pf ⟨rfl,rfl,rfl,rfl,rfl,rfl,rfl,rfl,rfl,rfl⟩ rfl rfl rfl rfl rfl rfl rfl rfl rfl rfl rfl rfl rfl rfl rfl rfl rfl rfl rfl rfl rfl rfl rfl rfl rfl rfl rfl rfl
open PySem PySem.W PyProof.Rows
end
namespace PySem.W.Fast
def tw3268009229212980753:=0
def tw3094701115853657799:=0
def tw5777760755785981019:=0
def tw6672632470092094475:=0
def tw1647960591809683682:=0
def tw15009507340508220881:=0
def tw15224785268189004562:=0
def tw3267510847301241254:=0
def tw14878676915296349670:=0
def tw2154460739446816824:=0
def tw1051708918922035514:=0
def tw9552311987445059284:=0
def tw16459021049253542911:=0
def tw517312751163448032:=0
def tw1064061443771881104:=0
def tw12791913056434229634:=0
def tw12300527617525357084:=0
def tw5232580246900481102:=0
def tw12434779806091606683:=0
def tw18325833102151324646:=0
def tw8097608412982310534:=0
def tw5680315236850328200:=0
def tw1096926160377077083:=0
def tw7950223703418521501:=0
def tw2912592304959361012:=0
def tw7215932318001415403:=0
def tw6708892414054319099:=0
def tw7254989234349611870:=0
def tw10762484250532422250:=0
def tw17100184641858439841:=0
def tw2337977823195543630:=0
def tw3414106826494052011:=0
def tw3520363519792060846:=0
def tw13078823862939028812:=0
def tw3555141088238359772:=0
def tw10209164474934016114:=0
def tw3369663099759083609:=0
def tw16266442582153907279:=0
def tw16919330064296535691:=0
def tw15772355805533515408:=0
def tw4982327473614321822:=0
def tw5260856337621036202:=0
def tw1191315250883676292:=0
def tw3092117133297227249:=0
def tw15790453512448054794:=0
def tw13698048360955963301:=0
def tw15078095837771203109:=0
def tw13231743877010270464:=0
def tw7042659310547366237:=0
def tw6012122021747098740:=0
def tw16002967266952078866:=0
def tw12392129776423771058:=0
def tw2680141511932349947:=0
def tw11654023200298843171:=0
def tw12694112234171929671:=0
def tw13197444509695450237:=0
def tw704147369595269066:=0
def tw9516800180062724845:=0
def tw16507829595119238490:=0
def tw16317983856663788926:=0
def tw2294854397974045510:=0
def tw15726315211890062517:=0
def tw1948689806639624469:=0
def tw2747774915501398362:=0
def tw14712817762504950641:=0
def tw11732214188671553305:=0
def tw17004574920194074796:=0
def tw1820406046763328738:=0
def tw5488966160659634681:=0
def tw16950569574821323974:=0
def tw3373145609055282853:=0
def tw17624731456758155189:=0
def tw5266450434754204200:=0
def tw4211952112222678748:=0
def tw5011889884212318148:=0
def tw17108046237660401759:=0
def tw15854262060937163188:=0
def tw8934421753687110507:=0
def tw11224361182253327997:=0
def tw1998032249293215463:=0
def tw12018387782679925087:=0
def tw8060744490709563079:=0
def tw2947586027576077979:=0
def tw16607927582987124570:=0
def tw7090585071989052306:=0
def tw17456480263006714056:=0
def tw3903891618737965568:=0
def tw15724745641170818534:=0
def tw14722794537435163219:=0
def tw3345597093286824917:=0
def tw6784790241324674965:=0
def tw1176975735165151067:=0
def tw16968176118458789586:=0
def tw13148303815899264127:=0
def tw11187973929812520656:=0
def tw3904583755211930517:=0
def tw9601000219436670146:=0
def tw3321576952164483024:=0
def tw15545184769064153574:=0
def tw3638187344944282256:=0
def tw16539199913488330184:=0
def tw1267704075650749254:=0
def tw14788362278542820120:=0
def tw15536387163757344236:=0
def tw1462193419119380569:=0
def tw17119971604622065936:=0
def tw5427499738942290107:=0
def tw5713610079918043996:=0
def tw13553050674002434610:=0
def tw15943592676296772274:=0
def tw9715166753854553471:=0
def tw5681066748535004433:=0
def tw12798869161161681673:=0
def tw1541540961381408409:=0
def tw11786325122171474085:=0
def tw4248988804066548162:=0
def tw729466047920990731:=0
def tw17601101962401091345:=0
def tw13305670439411429421:=0
def tw17643754061406199020:=0
def tw6771182271545134960:=0
def tw13323373534744806615:=0
def tw3083371992184736890:=0
def tw8621301723031713458:=0
def tw16925118299729312639:=0
def tw1712973634487312807:=0
def tw13887902116395311400:=0
def tw12694589447371642155:=0
def tw4153491320931672185:=0
def tw4185518321428705831:=0
def tw16149030986926176842:=0
def tw2450569374399577549:=0
def tw17427895641331663283:=0
def tw6731276024794131016:=0
def tw4033379813872489195:=0
def tw15886500619415505586:=0
def tw7343611390307366373:=0
def tw15755044616229629136:=0
def tw12976177241038019767:=0
def tw11763852733077360975:=0
def tw4842887358765978389:=0
def tw5015507407206683207:=0
def tw5552461122284547459:=0
def tw8164005668110941744:=0
def tw6662249597110656733:=0
def tw13350131943787299761:=0
def tw12325562205625792791:=0
def tw11289143093466461953:=0
def tw14734032772098568817:=0
def tw10042499479572932358:=0
def tw550859730669387710:=0
def tw18167724695441219349:=0
def tw11320351676317602388:=0
def tw9585978970863474492:=0
def tw13218621648322568166:=0
def tw7618804249908900691:=0
def tw734138898119960010:=0
def tw14869557710840242666:=0
def tw11843833423457600547:=0
def tw7470021291188754609:=0
def tw11418939547134857076:=0
def tw14566440943485919492:=0
def tw9305391788130653963:=0
def tw16286715671046524454:=0
def tw12079628635447562283:=0
def tw5738919822854818926:=0
def tw13840814423707232359:=0
def tw10693841506766600124:=0
def tw2969480146181677978:=0
def tw15845117809764550140:=0
def tw15137687247720179910:=0
def tw5958337225494893492:=0
def tw1826987945724244988:=0
def tw14398365135244066966:=0
def tw2484844197603217540:=0
def tw1877378965866140348:=0
def tw14501001857826371202:=0
def tw358491328311820773:=0
def tw15431134087688302020:=0
def tw8839083969933755074:=0
def tw7328447075739424539:=0
def tw5587826856885255690:=0
def tw8008005557923197168:=0
def tw14495299557687959983:=0
def tw17960406059949683352:=0
def tw15213048550514571353:=0
def tw17969941481158815411:=0
def tw15862806813707239167:=0
def tw14827384380277173613:=0
def tw539595736760451978:=0
def tw2648174423076098445:=0
def tw10390157646234782899:=0
def tw6623812351622530092:=0
def tw17960848765466677729:=0
def tw11630328935867623959:=0
def tw7492102371377302679:=0
def tw4157206338815638501:=0
def tw6793172497655745189:=0
def tw3822784309164373692:=0
def tw17093224777342109595:=0
def tw6788773261714906821:=0
def tw6205024481829086969:=0
def tw17698735102306075112:=0
def tw14987661418082201831:=0
def tw5845538515087863352:=0
def tw2962324470309885386:=0
def tw7363425622247834253:=0
def tw5485572742587201778:=0
def tw4968929673044707356:=0
def tw7894344252036594922:=0
def tw17802128708061929859:=0
def tw13402640891724300857:=0
def tw3285859953031059425:=0
def tw7942853410682446962:=0
def tw425938344300624212:=0
def tw2944391684731814369:=0
def tw274189353798237994:=0
def tw12221415409051222339:=0
def tw12048056826642495367:=0
def tw16472409268878238316:=0
def tw1099786997935966427:=0
def tw2257529940240947247:=0
def tw17704188385166749297:=0
def tw10199354318988768051:=0
def tw4491058772748593153:=0
def tw14048895322960730393:=0
def tw3101917741504857134:=0
def tw9840342860782594374:=0
def tw15221209806709932071:=0
def tw12996339429388188178:=0
end PySem.W.Fast
open_top head for PySem.Challenge.rw_glyphhall_k21_homes
theorem PySem.Challenge.cw_glyphhall_k21_homes_holds : PySem.Challenge.rw_glyphhall_k21_homes.Holds :=
 head (by
 refine K21.b9v (l:=PySem.Challenge.rw_glyphhall_k21_homes) (n:=63) (k:=46) (x:="_law_script") (CX:=fun _=>L2.CX0) (sp:=K21.spK) rfl (by decide) rfl ⟨rfl,by decide,by decide⟩ (fun w h Y=>PySem.W.kIn_of Y) ?F ?S ?C
 case F=>
  intro w mg fa h KX G hmg;have T:∃cA,K21.DfE (L2.KOf KX) "law" (K21.top 99)/\∀{h:Heap}{mg:Str->Option Value},(L2.KOf KX).In h->h.Ns mainGlobals mg->EV.Stat PySem.Challenge.rw_glyphhall_k21_homes.prog w ⟨L2.KOf KX,cA,[6],[]⟩ K21.G K21.ct K21.F mg:=by
   dsimp only[L2.KOf]
   clear hmg;refine' K21.b4h ?a0 ?a1 ?a2 ?a3 ?a4 ?a5 ?a6 ?a7 ?a8 ?a9 ?a10 ?a11 ?a12 ?a13 ?a14 ?a15 ?a16 ?a17 ?a18 ?a19 ?a20 ?a21 ?a22 ?a23 ?a24 ?a25 ?a26 ?a27 ?a28 ?a29 ?a30 ?a31 ?a32 ?a33 ?a34 ?a35 ?a36 ?a37 ?a38 ?a39 ?a40 ?a41 ?a42 ?a43 ?a44 ?a45
   (case a0|a23|a24|a25|a26|a27|a28|a29|a30|a31|a32|a33|a34|a35|a36|a37|a38|a39|a40|a41|a42|a43|a44|a45=>k_is)
   (case a1=>(repeat (refine' K21.ds1 ?f _;(case f=>refine' K21.c0M ?x ?y ?z ?u;(case x=>k_is);(case y=>k_is);(case z=>k_is);(case u=>k_is))));exact True.intro)
   (case a2|a3|a4=>refine' K21.b6X ?e1;(case e1=>k_is))
   (case a5|a6|a7|a8|a9|a10|a11|a12|a13|a14|a15=>refine' K21.b8k ?e1;(case e1=>k_is))
   (case a16|a17|a19=>refine' K21.b3S ?e1 ?e2;(case e1=>k_is);(case e2=>k_is))
   (case a18=>refine' K21.b3R ?e1 ?e2;(case e1=>k_is);(case e2=>k_is))
   (case a20=>refine' K21.b5U ?e1 ?e2 ?e3 ?e4 ?e5 ?e6 ?e7 ?e8;(case e1=>k_is);(case e2=>k_is);(case e3=>decide);(case e4=>rfl);(case e5=>rfl);(case e6=>rfl);(case e7=>rfl);(case e8=>decide))
   (case a21=>refine' K21.b5u ?m1 ?m2 ?m3 ?m4 ?e2 ?e3 ?e4;(case m1=>k_is);(case m2=>k_is);(case m3=>k_is);(case m4=>k_is);(case e2=>k_is);(case e3=>k_is);(case e4=>k_is))
   (case a22=>refine' ⟨?p1,?p2,?p3,?p4⟩;(case p1=>k_is);(case p2=>k_is);(case p3=>k_is);(case p4=>k_is))
  obtain⟨cA,D,T⟩:=T;obtain⟨fd,h1,h2⟩:=K21.b8s D (T KX G) KX G hmg;exact⟨fd,h1,fun base _ _=>h2 base⟩
 case S=>
  intro w H a ns hl hO hS;refine K21.b7W a7O ?nl hl hO hS
  (case nl=>kernel_rfl)
 case C=>exact fun w H s e s' z=>z)
