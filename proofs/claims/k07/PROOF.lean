import PyProof.Rows.All
import Wide.All
import OpenK.AllK
import Wide.FinOn
import PyProof.EqAt
import PyProof.EqKinds
import PyProof.TupleCall
import OpenK.KOwn
import PyProof.CompUse
import PyProof.NeKinds
import PyProof.StrOps2
import KE.KDictOf
import PyProof.AttrMissHeap
import PyProof.ListRange
import PyProof.TupleOfGen
import PyProof.CollectStr
import KE.KRevIter
import PyProof.DictItems
import KE.KItemsList
import KE.KPairComp
import KE.KDictList
import PyProof.StrLawsTight
import PyProof.StrLawsChain
import PyProof.StrLawsIn
import PyProof.StrLawsIdx
import PyProof.Rows.CatFin
import PyProof.Rows.StrItems
import KE.IntTextLaws
import PyProof.Rows.ReprOcc
import PyProof.FitsInt
import KE.KIntText
import Lean
import PySem.Challenge.RW_glyphhall_k07_halls_apart
set_option Elab.async false
set_option linter.all false
set_option maxRecDepth 100000
set_option maxHeartbeats 0
set_option genSizeOf false
def aa:=@List.length_map
def ae:=@List.getElem?_eq_some_iff
def af:=@Bool.and_eq_true
def ai:=@List.getElem?_eq_getElem
def aj:=@Nat.le_refl
def ak:=@List.getElem?_map
def am:=@List.mem_map
def ao:=@List.map_append
def aq:=@List.length_append
def au:=@List.getElem?_append_right
def av:=@List.getElem?_append_left
def aw:=@of_decide_eq_true
def ax:=@Option.some.inj
def ay:=@if_pos
def az:=@if_neg
def aA:=@List.append_assoc
def aB:=@Nat.zero_add
def aC:=@Nat.lt_of_lt_of_le
def aD:=@List.mem_cons_of_mem
def aE:=@List.mem_cons
def aF:=@List.mem_of_getElem?
def aG:=@List.map_map
def aH:=@List.length_range
def aI:=@List.mem_append
def aJ:=@List.length_take
def aK:=@List.length_set
def aL:=@List.mem_range
def aM:=@List.mem_singleton
def aN:=@Nat.lt_irrefl
def aO:=@Nat.le_trans
def aP:=@Nat.lt_succ_self
def aQ:=@Nat.le_of_not_lt
def aR:=@List.nodup_cons
def aS:=@List.getElem?_eq_none
def aT:=@List.map_congr_left
def aU:=@List.mem_cons_self
def aV:=@List.append_nil
def aW:=@decide_eq_true
def aX:=@List.take_length
def aY:=@List.take_of_length_le
def aZ:=@List.length_replicate
def ba:=@List.all_eq_true
def bc:=@List.any_eq_true
def bf:=@Bool.or_eq_true
def bg:=@Bool.false_ne_true
def bh:=@List.getElem_mem
def bj:=@decide_eq_false
def bm:=@List.length_drop
def bn:=@List.getElem?_take_of_lt
def bo:=@List.getElem?_replicate
def eP:=@PySem.wpAny_bind
def eQ:=@PySem.Heap.get?_push_of_some
def eR:=@PySem.wpAny_pure
def eS:=@PySem.Heap.lt_size
def eT:=@Nat.le_of_ble_eq_true
def eU:=@PySem.Heap.get?_push_size
def eV:=@Nat.ne_of_lt
def eW:=@List.getElem?_set_ne
def eX:=@decide_true
def eY:=@Nat.mod_lt
def eZ:=@decide_false
def fb:=@List.getElem?_set_self
def fc:=@Bool.not_true
def ff:=@Ne.symm
def fh:=@congrArg
def fi:=@PySem.Heap.SameBut.update
def fj:=@Bool.false_eq_true
def fk:=@if_true
def fm:=@PySem.wpAny_field
def fq:=@Nat.zero_le
def ft:=@Nat.ne_of_gt
def fu:=@PySem.wpAny_truthy_bool
def fv:=@PySem.Heap.get?_update_self
def fw:=@of_decide_eq_false
def fz:=@PySem.wpAny_callSpecial?_slot
def fA:=@List.take_succ_eq_append_getElem
def fB:=@if_false
def fC:=@PySem.Heap.size_push
def fD:=@PyProof.Rows.callWith_type1
def fE:=@PySem.Heap.get?_update_other
def fF:=@PySem.wpAny_mono
def fG:=@Nat.le_add_right
def fH:=@PySem.wpAny_setField_rec
def fI:=@PySem.wpAny_setField
def fJ:=@PySem.wpAny_seqItems
def fK:=@PySem.wpAny_typeNameOfWhole_itemiter
def fL:=@PySem.wpAny_newObj_type
def fM:=@Bool.true_and
def fN:=@Bool.false_and
def fO:=@PySem.Calls.callWith_builtin
def fP:=@decide_eq_true_iff
def fQ:=@PySem.wpAny_passesOwn
def fR:=@Bool.eq_iff_iff
def fS:=@PySem.StrLaws.glued_eq_join
def fT:=@PySem.wpAny_holding
def fU:=@List.drop_eq_getElem_cons
def fV:=@PySem.sizeLine_eq
def fW:=@or_false
def fX:=@PySem.wpAny_getItem_str_slice
def fY:=@Bool.and_self
def fZ:=@PySem.tupleKind_room_in1
def ga:=@Nat.lt_trans
def gb:=@PySem.wpAny_call_entry
def gd:=@PySem.Around.under_plainId
def gf:=@PySem.codeAny_call_builtin
def gh:=@PySem.strKind_is
def gi:=@PySem.Calls.spliced_cons
def gj:=@PySem.wpAny_Call_Name_kw
def gm:=@PySem.Txt.slice_le
def gq:=@Nat.le_succ
def gu:=@PySem.plainId_quiet
def gv:=@PySem.wpAny_onRaise
open PySem.W (instObj methodObj Frag lookIn plainGet hasDictIn handedIn plainOver takerIn makesIn emptyDict specialIn takesIn mroIn kitOne kia_one kitx_list kitx_dict isFn fnOf mg_of ns_none_of)
open PyProof.Rows (boot_bool boot_int boot_tuple boot_str boot_dict boot_all boot_any boot_max split_pos slice_from_eq)
open PySem.F (slot_tuple_add entry_tuple_add args_tuple_add_2 slot_dict_get slot_str_split entry_str_split args_str_split_2 slot_dict_itemiterator_next slot_dict_items plainAttrs_dict slot_zip_next plain_extend_loop plainAttrs_str)
open PySem.Builtin.SmallTypes (nextOf stopIteration)
open PySem.Builtin.Str (occurrences strKind partsBetween tooLong glued)
open PySem.Builtin.Slice (sliceAdjust slicePlaces sliceApplied sliceFields)
open PySem.Builtin.List (listTooLong listExtendWith listSameRef listItems listUpdate)
open List (mem_append_left getElem_inj mem_append_right size_toArray length_cons map_cons of_mem_zip all_cons any_cons length_nil map_nil lookup_cons all_map not_mem_nil replicate_succ foldl_cons drop_zero mem_iff_getElem? length_eq_zero_iff nodup_append ext_getElem? nil_append nodup_nil isEmpty_iff drop_length cons_ne_nil cons_append set_cons_zero map_id all_nil drop_succ_cons)
local macro_rules
  | `(⋯) => `(by simp)
noncomputable section
set_option compiler.extract_closed false
namespace L2
open PySem PySem.Spec PyProof.Rows
abbrev Key:=Sum Int Str
def a1V:Key->Value->Bool
 |.inl k,v=>Value.isInt k v
 |.inr x,v=>Value.isStrOf x v
def c1h(w:World):Key->Int
 |.inl k=>hashInt k
 |.inr x=>hashStr w x
theorem v8:∀{k:Key} {v:Value},a1V k v=true->(∃i t,k=Sum.inl i/\v=Value.int i t)∨(∃x t,k=Sum.inr x/\v=Value.str x t)
 |.inl i,v,h=>by obtain⟨t,e⟩:=Value.isInt_shape (k:=i) (v:=v) h;exact .inl ⟨i,t,rfl,e⟩
 |.inr x,v,h=>by obtain⟨t,e⟩:=Value.isStrOf_shape (x:=x) (v:=v) h;exact .inr ⟨x,t,rfl,e⟩
theorem a8T(i:Int)(t:Tok):a1V (.inl i) (.int i t)=true:=by simp[a1V,Value.isInt]
theorem a8S(x:Str)(t:Tok):a1V (.inr x) (.str x t)=true:=by simp[a1V,Value.isStrOf]
theorem b6A(a b:Int):decide ((Sum.inl a:Key)=Sum.inl b)=(a==b):=by
 by_cases e:a=b
 · subst e;simp
 · have h:¬(Sum.inl a:Key)=Sum.inl b:=λq=>e (Sum.inl.inj q);rw[bj h];exact(beq_eq_false_iff_ne.mpr e).symm
theorem b6x(a b:Str):decide ((Sum.inr a:Key)=Sum.inr b)=decide (a=b):=by
 by_cases e:a=b
 · subst e;simp
 · have h:¬(Sum.inr a:Key)=Sum.inr b:=λq=>e (Sum.inr.inj q);rw[bj h,bj e]
theorem b6z(a:Int)(b:Str):decide ((Sum.inl a:Key)=Sum.inr b)=false:=bj (λq=>nomatch q)
theorem b6y(a:Str)(b:Int):decide ((Sum.inr a:Key)=Sum.inl b)=false:=bj (λq=>nomatch q)
noncomputable def n0 (prog:Program) (w:World):PySem.KeyKind prog w Key where
 is:=a1V
 hash:=c1h w
 inj:=λv a b ha hb=>by
  rcases v8 ha with⟨i,t,rfl,rfl⟩|⟨x,t,rfl,rfl⟩
  · rcases v8 hb with⟨j,u,rfl,e⟩|⟨y,u,rfl,e⟩
    · injection e with e1 _;rw[e1]
    · exact nomatch e
  · rcases v8 hb with⟨j,u,rfl,e⟩|⟨y,u,rfl,e⟩
    · exact nomatch e
    · injection e with e1 _;rw[e1]
 byValue:=λk v h=>by rcases v8 h with⟨i,t,rfl,rfl⟩|⟨x,t,rfl,rfl⟩<;>rfl
 pyHash:=λhv h=>by
  rcases v8 hv with⟨i,t,rfl,rfl⟩|⟨x,t,rfl,rfl⟩
  · exact wpAny_pyHash_int h
  · exact wpAny_pyHash_str h
 eqBool:=λhu hv h=>by
  rcases v8 hu with⟨i,t,rfl,rfl⟩|⟨x,t,rfl,rfl⟩
  · rcases v8 hv with⟨j,u,rfl,rfl⟩|⟨y,u,rfl,rfl⟩
    · rw[b6A] at h;exact wpAny_eqBool_int h
    · rw[b6z] at h;exact SeqAt.EqAt.int_str i t y u _ _ _ _ h
  · rcases v8 hv with⟨j,u,rfl,rfl⟩|⟨y,u,rfl,rfl⟩
    · rw[b6y] at h;exact SeqAt.EqAt.str_int x t j u _ _ _ _ h
    · rw[b6x] at h;exact wpAny_eqBool_str h
 «strs»:=λk x t v h=>by
  rcases v8 h with⟨i,u,rfl,e⟩|⟨y,u,rfl,e⟩
  · exact nomatch e
  · injection e with e1 _;subst e1;cases v<;>rfl
theorem a5W(prog:Program)(w:World)(i:Int)(t:Tok):(n0 prog w).is (.inl i) (.int i t)=true:=a8T i t
theorem a5V(prog:Program)(w:World)(x:Str)(t:Tok):(n0 prog w).is (.inr x) (.str x t)=true:=a8S x t
inductive V where
 |non|bl (b:Bool)|int (i:Int)|str (x:Str)|byt (b:Array UInt8)|flt (b:UInt64)|ref (a:Addr)|ty (n:String)
 deriving DecidableEq
def i8:V->Value->Prop
 |.non,u=>u=Value.none
 |.bl b,u=>u=Value.bool b
 |.int i,u=>∃t,u=Value.int i t
 |.str x,u=>∃t,u=Value.str x t
 |.byt b,u=>∃t,u=Value.bytes b t
 |.flt b,u=>∃t,u=Value.float b t
 |.ref a,u=>u=Value.ref a
 |.ty n,u=>u=Value.type n
abbrev k8:List V->List Value->Prop:=Paired i8
variable{us:List Value}
theorem k8.length{xs:List V}(r:k8 xs us):xs.length=us.length:=Paired.length r
theorem k8.get:∀{xs:List V} {us:List Value} {i:Nat} {x:V},k8 xs us->xs[i]? =some x->∃u,us[i]? =some u/\i8 x u
 |_,_,_,_,.nil,e=>by simp at e
 |_,_,0,_,.cons r _,e=>by simp at e;subst e;exact⟨_,rfl,r⟩
 |_,_,i+1,x,.cons _ t,e=>by obtain⟨u,h1,h2⟩:=k8.get (i:=i) (x:=x) t (by simpa using e);exact⟨u,by simpa using h1,h2⟩
theorem k8.set{x:V}{u:Value}(r:i8 x u):∀{xs:List V} {us:List Value} (i:Nat),k8 xs us->k8 (xs.set i x) (us.set i u)
 |_,_,_,.nil=>.nil
 |_,_,0,.cons _ t=>.cons r t
 |_,_,i+1,.cons q t=>.cons q (k8.set r i t)
theorem k8.append:∀{xs ys:List V} {us ws:List Value},k8 xs us->k8 ys ws->k8 (xs++ys) (us++ws)
 |_,_,_,_,.nil,s=>s
 |_,_,_,_,.cons r t,s=>.cons r (k8.append t s)
theorem k8.take:∀{xs:List V} {us:List Value} (n:Nat),k8 xs us->k8 (xs.take n) (us.take n)
 |_,_,0,_=>.nil
 |_,_,_+1,.nil=>.nil
 |_,_,n+1,.cons r t=>.cons r (k8.take n t)
theorem k8.drop:∀{xs:List V} {us:List Value} (n:Nat),k8 xs us->k8 (xs.drop n) (us.drop n)
 |_,_,0,r=>r
 |_,_,_+1,.nil=>.nil
 |_,_,n+1,.cons _ t=>k8.drop n t
def a0p:Option V->Option Value->Prop
 |some v,some u=>i8 v u
 |none,none=>True
 |_,_=>False
def KV{κ:Type}:List (κ×V)->List (κ×Value)->Prop:=Paired fun(p:κ×V) (q:κ×Value)=>p.1=q.1/\i8 p.2 q.2
def kV:Key->V
 |.inl i=>.int i
 |.inr x=>.str x
inductive HO where
 /-- a list -/
 |lst (xs:List V)
 /-- a tuple (never changes) -/
 |tup (xs:List V)
 /-- a dict whose de are ints and texts; one whose de are tuples of ints and texts (the empty one is both) -/
 |dK (bq:List (Key×V))|dT (bq:List (List Key×V))
 /-- a set of ints: bt members, bt size -/
 |set (S:Int->Bool) (n:Nat)
 /-- an instance of the class at C, bt dict at dx, bt attributes -/
 |ins (C dx:Addr) (fs:List (Str×V))
 /-- the dict of the instance at x -/
 |own (x:Addr)
 /-- the dict of an exception -/
 |xd (fs:List (Str×V))
 /-- a bound method, f of x -/
 |met (f x:Addr)
 /-- a range object lo, lo + 1, .. below hi -/
 |rng (lo hi:Int)
 /-- a thing that is known to the object (the script; a dict while a loop walks it): read, never written while it is so -/
 |frz (o:Obj) (u:HO)
 /-- a code object's table -/
 |tbl (ps:Array Value)
 /-- any other thing, by what is true of bt one object (a def of one's own: SetO a S n := HO.ext λh => ..) -/
 |ext (φ:Heap->Prop)
abbrev Hp:=Addr->Option HO
def upd(H:Hp)(a:Addr)(o:HO):Hp:=λb=>if b=a then some o else H b
variable{H:Hp}{a:Addr}
theorem b8{o:HO}:upd H a o a=some o:=by unfold upd;rw[ay rfl]
variable{b:Addr}
theorem c9{o:HO}(h:b≠a):upd H a o b=H b:=by unfold upd;rw[az h]
theorem b8S{o u:HO}(h:H a=some o)(h':H b=some u)(d:o≠u):a≠b:=by intro e;subst e;rw[h] at h';exact d (ax h')
theorem r8{o:HO}(h:H a=some o)(h':H b=none):a≠b:=by intro e;subst e;rw[h] at h';cases h'
def a0b(h:Heap)(a:Addr)(items:Array Value):Prop:=∃o,h.get? a=some o/\o.cls=.type "tuple"/\o.dict=none/\∃n,o.data=.seq items n
theorem a0b.tup{h:Heap}{a:Addr}{items:Array Value}(x:a0b h a items):IsTup h a items:=let⟨o,e,c,_,n⟩:=x;⟨o,e,c,n⟩
theorem a0b.new(h:Heap)(items:Array Value):a0b (h.push {cls:=.type "tuple",data:=.seq items}) h.objs.size items:=⟨_,eU _ rfl,rfl,rfl,_,rfl⟩
section
variable(P:Program)(w:World)
def p8(H:Hp)(h:Heap)(a:Addr):HO->Prop
 |.lst xs=>xs.length<=sizeLine/\∃(bt:List Value) (n:Nat),k8 xs bt/\h.get? a=some {cls:=.type "list",data:=.seq bt.toArray n}
 |.tup xs=>xs.length<=sizeLine/\∃bt:List Value,k8 xs bt/\a0b h a bt.toArray
 |.dK bq=>bq.length<=sizeLine/\(a==sysModules)=false/\∃vs,KV bq vs/\h.DictOf (n0 P w) a vs
 |.dT bq=>bq.length<=sizeLine/\(a==sysModules)=false/\∃xs:List (List Key×Addr×Value),
  Paired (fun(p:List Key×V) (q:List Key×Addr×Value)=>p.1=q.1/\H q.2.1=some (.tup (p.1.map kV))/\i8 p.2 q.2.2) bq xs∧
  ∃o es ep,h.get? a=some o/\o.ExactDict/\o.data=.dict es ep/\es.toList=xs.map (entryOfKey (tupleKind (n0 P w)))/\(xs.map (·.1)).Nodup
 |.set S n=>h.SetOf (intKind P w) a S n
 |.ins C dx fs=>H dx=some (.own a)/\fs.length<=1000/\dx≠a/\h.get? a=some (instObj C dx)∧
  ∃mA,h.Ns1 dx mA/\(∀f,a0p (fs.lookup f) (mA f))/\PySem.Within mA (fs.map (·.1))
 |.own _=>∃o,h.get? a=some o
 |.xd fs=>∃mA,h.Ns1 a mA/\∀f,a0p (fs.lookup f) (mA f)
 |.rng lo hi=>∃t u v,h.get? a=some {cls:=.type "range",data:=.fields #[.int lo t,.int hi u,.int 1 v]}
 |.frz o u=>h.get? a=some o/\p8 H h a u
 |.tbl ps=>h.get? a=some {cls:=.none,data:=.fields ps}
 |.met f x=>h.get? a=some (methodObj (.ref f) (.ref x))
 |.ext φ=>φ h/\(∃o,h.get? a=some o)/\∀h1 h2:Heap,φ h1->(∀o,h1.get? a=some o->h2.get? a=some o)->φ h2
def HOk(H:Hp)(h:Heap):Prop:=∀a o,H a=some o->p8 P w H h a o
end
variable{α:Type}
section
variable{P:Program}{w:World}{H':Hp}{h h':Heap}{o:HO}
theorem p8.lt(x:p8 P w H h a o):a<h.objs.size:=by
 cases o with
 |lst xs=>obtain⟨_,_,_,_,e⟩:=x;exact eS e
 |tup xs=>obtain⟨_,_,_,p⟩:=x;exact p.tup.lt
 |dK bq=>obtain⟨_,_,_,_,o,_,_,e,_⟩:=x;exact eS e
 |dT bq=>obtain⟨_,_,_,_,o,_,_,e,_⟩:=x;exact eS e
 |set S n=>obtain⟨o,_,_,_,e,_⟩:=x;exact eS e
 |ins C dx fs=>obtain⟨_,_,_,e,_⟩:=x;exact eS e
 |own y=>obtain⟨_,e⟩:=x;exact eS e
 |xd fs=>obtain⟨_,⟨_,_,_,e,_⟩,_⟩:=x;exact eS e
 |rng lo hi=>obtain⟨_,_,_,e⟩:=x;exact eS e
 |frz ob u=>obtain⟨e,_⟩:=x;exact eS e
 |tbl ps=>exact eS (show h.get? a=some _ from x)
 |met f y=>exact eS (show h.get? a=some _ from x)
 |ext φ=>obtain⟨_,⟨_,e⟩,_⟩:=x;exact eS e
theorem Paired.mapP{α β:Type}{F G:α->β->Prop}:∀{l₁:List α} {l₂:List β},Paired F l₁ l₂->(∀a b,F a b->G a b)->Paired G l₁ l₂
 |_,_,.nil,_=>.nil
 |_,_,.cons r t,f=>.cons (f _ _ r) (Paired.mapP t f)
theorem p8.stay(x:p8 P w H h a o)(k:∀b u,(b=a∨H b=some (.own a))->h.get? b=some u->h'.get? b=some u)
 (ho:∀b,H b=some (.own a)->H' b=some (.own a)) (ht:∀b xs,H b=some (.tup xs)->H' b=some (.tup xs)):p8 P w H' h' a o:=by
 induction o with
 |lst xs=>obtain⟨z,bt,n,r,e⟩:=x;exact⟨z,bt,n,r,k _ _ (.inl rfl) e⟩
 |tup xs=>obtain⟨z,bt,r,ob,e,c⟩:=x;exact⟨z,bt,r,ob,k _ _ (.inl rfl) e,c⟩
 |dK bq=>obtain⟨z,y,vs,r,ob,es,ep,e,c⟩:=x;exact⟨z,y,vs,r,ob,es,ep,k _ _ (.inl rfl) e,c⟩
 |dT bq=>
  obtain⟨z,y,xs,r,ob,es,ep,e,c⟩:=x;exact⟨z,y,xs,Paired.mapP r λp q z=>⟨z.1,ht _ _ z.2.1,z.2.2⟩,ob,es,ep,k _ _ (.inl rfl) e,c⟩
 |set S n=>obtain⟨ob,es,ep,t,e,c⟩:=x;exact⟨ob,es,ep,t,k _ _ (.inl rfl) e,c⟩
 |ins C dx fs=>
  obtain⟨d,z,ne,e,mA,⟨od,es,ep,e2,c⟩,r⟩:=x;exact⟨ho _ d,z,ne,k _ _ (.inl rfl) e,mA,⟨od,es,ep,k _ _ (.inr d) e2,c⟩,r⟩
 |own y=>obtain⟨ob,e⟩:=x;exact⟨ob,k _ _ (.inl rfl) e⟩
 |xd fs=>obtain⟨mA,⟨od,es,ep,e,c⟩,r⟩:=x;exact⟨mA,⟨od,es,ep,k _ _ (.inl rfl) e,c⟩,r⟩
 |rng lo hi=>obtain⟨t,u,v,e⟩:=x;exact⟨t,u,v,k _ _ (.inl rfl) e⟩
 |frz ob u ih=>obtain⟨e,q⟩:=x;exact⟨k _ _ (.inl rfl) e,ih q⟩
 |tbl ps=>
  have e:h.get? a=some {cls:=.none,data:=.fields ps}:=x;show h'.get? a=some {cls:=.none,data:=.fields ps};exact k a _ (.inl rfl) e
 |met f y=>
  have e:h.get? a=some (methodObj (.ref f) (.ref y)):=x;show h'.get? a=some (methodObj (.ref f) (.ref y));exact k a _ (.inl rfl) e
 |ext φ=>obtain⟨p,⟨o,e⟩,st⟩:=x;exact⟨st _ _ p λo q=>k _ _ (.inl rfl) q,⟨o,k _ _ (.inl rfl) e⟩,st⟩
theorem HOk.lt(x:HOk P w H h)(e:H a=some o):a<h.objs.size:=(x a o e).lt
theorem HOk.fresh(x:HOk P w H h)(e:h.objs.size<=a):H a=none:=by
 cases q:H a with
 |none=>rfl
 |some u=>exact absurd (aC (x.lt q) e) (aN _)
theorem HOk.kept(x:HOk P w H h)(k:∀b u,h.get? b=some u->h'.get? b=some u):HOk P w H h':=λa o e=>
 (x a o e).stay (λb u _ q=>k b u q) (λ_ q=>q) λ_ _ q=>q
theorem HOk.laid(x:HOk P w H h)(k:∀b u,h.get? b=some u->h'.get? b=some u)(hp:h.objs.size<=a)(new:p8 P w (upd H a o) h' a o):HOk P w (upd H a o) h':=λb u e=>by
 have hn:=x.fresh hp
 by_cases hb:b=a
 · subst hb;rw[b8] at e;cases e;exact new
 · rw[c9 hb] at e;exact(x b u e).stay (λc v _ q=>k c v q) (λc q=>by rw[c9 (r8 q hn)];exact q) λc xs q=>by rw[c9 (r8 q hn)];exact q
end
def Rd(H:Hp)(a:Addr)(u:HO):Prop:=H a=some u∨∃o,H a=some (.frz o u)
variable{P:Program}{w:World}{h:Heap}
theorem Rd.ok{u:HO}(r:Rd H a u)(x:HOk P w H h):p8 P w H h a u:=by
 rcases r with r|⟨o,r⟩
 · exact x a u r
 · obtain⟨_,q⟩:=x a _ r;exact q
def Mut:Option HO->Prop
 |some (.lst _)=>True
 |some (.dK _)=>True
 |some (.dT _)=>True
 |some (.set _ _)=>True
 |some (.ins _ _ _)=>True
 |some (.ext _)=>True
 |_=>False
section
variable{h':Heap}{x e:Addr}{o':HO}
theorem HOk.write(ok:HOk P w H h)(mu:Mut (H x))(he:e=x∨H e=some (.own x))(k:∀b u,b≠e->h.get? b=some u->h'.get? b=some u)(heo:∃u,h'.get? e=some u)
 (new:p8 P w (upd H x o') h' x o'):HOk P w (upd H x o') h':=λb u q=>by
 have nown:∀c y,H c=some (.own y)->c≠x:=λc y r z=>by subst z;rw[r] at mu;exact mu
 have ntup:∀c xs,H c=some (.tup xs)->c≠x:=λc xs r z=>by subst z;rw[r] at mu;exact mu
 by_cases hb:b=x
 · subst hb;rw[b8] at q;cases q;exact new
 · rw [c9 hb] at q
   by_cases hbe:b=e
   · have q':H b=some (.own x):=by
      rcases he with z|z
      · exact absurd (hbe.trans z) hb
      · rw[hbe];exact z
     rw[q] at q';cases q';obtain⟨v,hv⟩:=heo;exact⟨v,by rw[hbe];exact hv⟩
   · refine(ok b u q).stay (λc v hc r=>k c v ?_ r) (λc r=>by rw[c9 (nown c b r)];exact r) λc xs r=>by rw[c9 (ntup c xs r)];exact r
     rcases hc with rfl|hc
     · exact hbe
     · rintro rfl;rcases he with z|z
       · exact nown c b hc z
       · rw[hc] at z;cases z;exact hb rfl
end
structure Un(fs ex:List Addr)(H H':Hp)(h h':Heap):Prop where
 keep:∀b o,h.get? b=some o->H b=none->b∉fs->b∉ex->h'.get? b=some o
 slot:∀b o,h.get? b=some o->H b=none->b∈fs->b∉ex->∃sl,h'.get? b=some {o with slots:=sl}
 free:∀b o,h.get? b=some o->H b=none->b∉ex->H' b=none
 there:∀b o,h.get? b=some o->b∉ex->∃o',h'.get? b=some o'
 tups:∀b xs,H b=some (.tup xs)->H' b=some (.tup xs)
 frzs:∀b o u,H b=some (.frz o u)->H' b=some (.frz o u)
 tbls:∀b ps,H b=some (.tbl ps)->∃cP,H' b=some (.tbl (ps++cP))
section
variable{fs fs' ex ex':List Addr}{H1 H2:Hp}{h1 h2 h':Heap}{x e:Addr}{o:HO}
theorem Un.any(u:Un fs ex H H1 h h1){ob:Obj}(q:h.get? b=some ob)(n:H b=none)(hx:b∉ex):∃sl,h1.get? b=some {ob with slots:=sl}:=by
 by_cases hb:b∈fs
 · exact u.slot b ob q n hb hx
 · exact⟨ob.slots,u.keep b ob q n hb hx⟩
theorem Un.kept(k:∀b u,h.get? b=some u->h'.get? b=some u):Un fs ex H H h h':=
 ⟨λb ob q _ _ _=>k b ob q,λb ob q _ _ _=>⟨ob.slots,k b ob q⟩,λ_ _ _ n _=>n,λb ob q _=>⟨ob,k b ob q⟩,λ_ _ q=>q,λ_ _ _ q=>q,λ_ ps q=>⟨#[],by rw[q];simp⟩⟩
theorem Un.refl:Un fs ex H H h h:=Un.kept λ_ _ q=>q
theorem Un.laid(k:∀b u,h.get? b=some u->h'.get? b=some u)(hp:h.objs.size<=a)(hn:H a=none):Un fs ex H (upd H a o) h h' where
 keep:=λb u q _ _ _=>k b u q
 slot:=λb u q _ _ _=>⟨u.slots,k b u q⟩
 free:=λb u q n _=>by rw[c9 (eV (aC (eS q) hp))];exact n
 there:=λb u q _=>⟨u,k b u q⟩
 tups:=λb xs q=>by rw[c9 (r8 q hn)];exact q
 frzs:=λb u xs q=>by rw[c9 (r8 q hn)];exact q
 tbls:=λb ps q=>⟨#[],by rw[c9 (r8 q hn),q];simp⟩
theorem Un.write(mu:Mut (H x))(he:e=x∨H e=some (.own x))(k:∀b u,b≠e->h.get? b=some u->h'.get? b=some u)(heo:∃u,h'.get? e=some u):Un fs ex H (upd H x o) h h':=by
 have hx:∀b,H b=none->b≠x:=λb n z=>by subst z;rw[n] at mu;exact mu
 have hb:∀b,H b=none->b≠e:=λb n z=>by
  subst z;rcases he with r|r
  · exact hx b n r
  · rw[n] at r;cases r
 have hm:∀b u,H b=some u->¬Mut (some u)->b≠x:=λb u q nm z=>by subst z;rw[q] at mu;exact nm mu
 refine⟨λb u q n _ _=>k b u (hb b n) q,λb u q n _ _=>⟨u.slots,k b u (hb b n) q⟩,λb u q n _=>by rw[c9 (hx b n)];exact n,λb u q _=>?_,
  λb xs q=>by rw[c9 (hm b _ q λz=>z)];exact q,λb u xs q=>by rw[c9 (hm b _ q λz=>z)];exact q,λb ps q=>⟨#[],by rw[c9 (hm b _ q λz=>z),q];simp⟩⟩
 by_cases hbe:b=e
 · subst hbe;exact heo
 · exact⟨u,k b u hbe q⟩
end
def trk(h:Heap)(H:Hp):List Addr:=(List.range h.objs.size).filter λa=>(H a).isSome
def a5e(h:Heap)(H:Hp):Heap:=PySem.W.hideAll h (trk h H)
theorem a8Y(h:Heap)(H:Hp):(a5e h H).objs.size=h.objs.size:=PySem.W.hideAll_size _ _
theorem b1d{o:Obj}(e:h.get? b=some o)(n:H b=none):(a5e h H).get? b=some o:=
 PySem.W.hideAll_get _ e λhm=>by have q:(H b).isSome=true:=(List.mem_filter.mp hm).2;rw[n] at q;simp at q
theorem b3q{o:Obj}(e:(a5e h H).get? b=some o):h.get? b=some o/\H b=none:=by
 have e':h.get? b=some o:=PySem.W.of_hideAll (trk h H) e;refine⟨e',?_⟩;cases q:H b with
 |none=>rfl
 |some x=>
  have hm:b∈trk h H:=List.mem_filter.mpr ⟨aL.mpr (eS e'),by simp[q]⟩;have z:(a5e h H).get? b=none:=PySem.W.hideAll_none (trk h H) hm;rw[z] at e;cases e
noncomputable def b4B(g h:Heap)(L:Addr):List (Addr×Obj):=(List.range h.objs.size).filterMap λa=>if a=L∨(g.get? a).isSome=true then none else(h.get? a).map λo=>(a,o)
variable{g:Heap}
def d9(g h:Heap)(L d:Addr):List (Addr×Obj):=(b4B g h L).filter λp=>decide (p.1≠d)
variable{d:Addr}{h':Heap}{m:Str->Option Value}
structure Mod(K:Frag)(mg:Str->Option Value)(base:Heap):Prop where
 kin:K.In base
 glob:base.Ns mainGlobals mg
 blt:∃mb,base.Ns builtinsNs mb/\∀x:Str,x≠"__name__"->mb x=bootBuiltins x
 nolimit:base.NoLimit
structure Cx where
 prog:Program
 w:World
 K:Frag
 mg:Str->Option Value
 base:Heap
 A:Around
 N:List Str
 s₀:Shared
 H₀:Hp
 env:Env
 outer:List Env
 stack:List Env
 ex:List Addr
 fn:Str->Bool
 calm:Bool
 pn:List (Addr×Obj)
 xe:Value->Shared->Prop
def frs(l:List Env):List Addr:=l.filterMap (·.frame)
abbrev Cx.fs(X:Cx):List Addr:=frs X.outer
def Vis(sc:Scope)(x:Str):Prop:=sc.names.lookup x=some .local∨sc.names.lookup x=some .cell∨sc.names.lookup x=some .free
def Loc(sc:Scope)(x:Str):Prop:=sc.names.lookup x=some .local∨sc.names.lookup x=some .cell
def c1L(env:Env)(h:Heap)(m:Str->Option Value)(x:Str)(u:Value):Prop:=
 (env.kindOf x=some .local/\m x=some u)∨((env.kindOf x=some .cell∨env.kindOf x=some .free)/\∃c,env.cells.lookup x=some c/\h.IsCell c (some u))
structure Cx.Ok(X:Cx):Prop where
 mod:Mod X.K X.mg X.base
 kind:X.env.scope.kind=.function
 glob:X.env.globals=mainGlobals
 blt:X.env.builtins=builtinsNs
 above:X.s₀.heap.objs.size<=X.env.locals
 inj:∀x y c,X.env.cells.lookup x=some c->X.env.cells.lookup y=some c->x=y
 has:∀x,(X.env.kindOf x=some .cell∨X.env.kindOf x=some .free)->∃c,X.env.cells.lookup x=some c
 cab:∀x c,X.fn x=true->X.env.cells.lookup x=some c->X.s₀.heap.objs.size<=c
 hd:X.calm=true->X.A.handled=none
 frames:X.A.frames=some X.stack
 stk:X.stack=X.outer∨(X.stack=X.env::X.outer/\X.env.frame=some X.env.locals)
 exf:∀b∈X.ex,b≠X.env.locals/\∀x c,X.env.cells.lookup x=some c->c≠b
 bs:∀b o,X.base.get? b=some o->X.s₀.heap.get? b=some o/\X.H₀ b=none
 bsz:X.base.objs.size<=X.s₀.heap.objs.size
 noex:∀b o,X.base.get? b=some o->b∉X.ex
 exfs:∀b∈X.ex,b∉X.fs
 funs:X.s₀.heap.FunFrames X.base X.outer
 frf:∀b∈X.fs,X.H₀ b=none
structure Inv(X:Cx)(bp:List (Addr×Obj))(σ:List (Option V))(H:Hp)(s:Shared):Prop where
 ok:X.Ok
 os:s.os=X.s₀.os
 bare:AllBare s.gens
 base:Un X.fs X.ex X.H₀ H X.s₀.heap s.heap
 loc:∃m,s.heap.Ns X.env.locals m/\∀(i:Nat) (x:Str) (v:V),X.N[i]? =some x->σ[i]? =some (some v)->Vis X.env.scope x->∃u,i8 v u/\c1L X.env s.heap m x u
 cell:∀x c,X.env.cells.lookup x=some c->∃v,s.heap.IsCell c v
 free:H X.env.locals=none
 freeC:∀x c,X.env.cells.lookup x=some c->H c=none
 pin:∀p∈X.pn++bp,s.heap.get? p.1=some p.2/\H p.1=none/\p.1≠X.env.locals/\p.1∉X.fs/\∀v,p.2.data≠.cell v
 hok:HOk X.prog X.w H s.heap
 len:σ.length=X.N.length
variable{g':Array GenState}{ch:List Addr}{it:Addr}{N:List Str}{j:Nat}{x:Str}{M:Model}{A:Around}{v:V}{u:Value}{s':Shared}
section
variable{X:Cx}{bp:List (Addr×Obj)}{σ:List (Option V)}{H':Hp}{s:Shared}
theorem Cx.Ok.nofr(ok:X.Ok){o:Obj}(e:X.base.get? b=some o):b∉X.fs:=λhb=>by have:=(ok.funs.mem hb).1;rw[e] at this;cases this
theorem Inv.bs(I:Inv X bp σ H s):∀b o,X.base.get? b=some o->s.heap.get? b=some o/\H b=none:=λb o e=>
 ⟨I.base.keep b o (I.ok.bs b o e).1 (I.ok.bs b o e).2 (I.ok.nofr e) (I.ok.noex b o e),I.base.free b o (I.ok.bs b o e).1 (I.ok.bs b o e).2 (I.ok.noex b o e)⟩
theorem Inv.bk(I:Inv X bp σ H s):∀b o,X.base.get? b=some o->s.heap.get? b=some o:=λb o e=>(I.bs b o e).1
theorem Inv.mod(I:Inv X bp σ H s):Mod X.K X.mg X.base:=I.ok.mod
theorem Inv.kIn(I:Inv X bp σ H s):X.K.In s.heap:=I.ok.mod.kin.keeps I.bk
theorem Inv.lt(I:Inv X bp σ H s):X.env.locals<s.heap.objs.size:=let⟨_,hn,_⟩:=I.loc;hn.lt
theorem Inv.sz(I:Inv X bp σ H s):X.s₀.heap.objs.size<=s.heap.objs.size:=aO I.ok.above (Nat.le_of_lt I.lt)
theorem Inv.nofs(I:Inv X bp σ H s)(h:s.heap.objs.size<=a):a∉X.fs:=λhb=>by obtain⟨_,o,ho,_⟩:=I.ok.funs.mem hb;exact absurd (aC (eS ho) (aO I.sz h)) (aN _)
theorem Inv.cne(I:Inv X bp σ H s):∀x c,X.env.cells.lookup x=some c->c≠X.env.locals:=λx c e z=>by obtain⟨v,o,ho,hd⟩:=I.cell x c e;obtain⟨m,⟨o',es,ep,dl,hd',_⟩,_⟩:=I.loc;rw[z,dl] at ho;cases ho;rw[hd'] at hd;cases hd
theorem Inv.funs(I:Inv X bp σ H s):s.heap.FunFrames X.base X.outer:=by
 have all:∀(l:List Env),(∀b∈frs l,b∈X.fs)->X.s₀.heap.FunFrames X.base l->s.heap.FunFrames X.base l:=by
  intro l
  induction l with
  |nil=>intro _ _;trivial
  |cons env r ih=>
   intro hs hl;obtain⟨hk,⟨L,o,hf,hn,ho,hd⟩,hr⟩:=hl;have hL:L∈X.fs:=hs L (by unfold frs;rw[List.filterMap_cons,hf];exact aU);obtain⟨sl,e⟩:=I.base.slot L o ho (I.ok.frf L hL) hL λz=>I.ok.exfs L z hL;exact⟨hk,⟨L,_,hf,hn,e,hd⟩,ih (λb hb=>hs b (by unfold frs;rw[List.filterMap_cons,hf];exact aD _ hb)) hr⟩
 exact all X.outer (λ_ hb=>hb) I.ok.funs
theorem Inv.stack(I:Inv X bp σ H s):s.heap.FunFrames X.base X.stack:=by
 rcases I.ok.stk with e|⟨e,hf⟩
 · rw[e];exact I.funs
 · rw[e];obtain⟨m,hn,_⟩:=I.loc;refine .cons (by rw[I.ok.kind];decide) hf hn ?_ I.funs;exact Heap.get?_none_of_le (aO I.ok.bsz I.ok.above)
theorem Inv.stkSub(I:Inv X bp σ H s):∀b∈frs X.stack,b∈X.env.locals::X.fs:=λb hb=>by
 rcases I.ok.stk with e|⟨e,hf⟩
 · rw[e] at hb;exact aD _ hb
 · rw[e] at hb;unfold frs at hb;rw[List.filterMap_cons,hf] at hb;exact hb
theorem Inv.stkFree(I:Inv X bp σ H s):∀b∈frs X.stack,H b=none:=λb hb=>by
 rcases aE.mp (I.stkSub b hb) with e|hb
 · rw[e];exact I.free
 · obtain⟨_,o,ho,_⟩:=I.ok.funs.mem hb;exact I.base.free b o ho (I.ok.frf b hb) λz=>I.ok.exfs b z hb
theorem Inv.step{t':Nat}{d':Drawn}(I:Inv X bp σ H s)
 (hch:∀b∈ch,(b∈X.ex∨X.s₀.heap.objs.size<=b)/\b≠X.env.locals/\(∀x c,X.env.cells.lookup x=some c->c≠b)/\∀p∈X.pn++bp,p.1≠b)
 (keep:∀b o,b≠X.env.locals->b∉X.fs->b∉ch->s.heap.get? b=some o->H b=none->h'.get? b=some o)
 (slot:∀b o,b≠X.env.locals->b∈X.fs->b∉ch->s.heap.get? b=some o->H b=none->∃sl,h'.get? b=some {o with slots:=sl}) (free:∀b o,b∉ch->s.heap.get? b=some o->H b=none->H' b=none)
 (there:∀b o,b∉ch->s.heap.get? b=some o->∃o',h'.get? b=some o')
 (tups:∀b xs,H b=some (.tup xs)->H' b=some (.tup xs)) (frzs:∀b o u,H b=some (.frz o u)->H' b=some (.frz o u)) (tbls:∀b ps,H b=some (.tbl ps)->∃cP,H' b=some (.tbl (ps++cP)))
 (ns:∀m,s.heap.Ns X.env.locals m->h'.Ns X.env.locals m) (hok:HOk X.prog X.w H' h') (hg:AllBare g'):
 Inv X bp σ H' {s with heap:=h',gens:=g',drawn:=d',toks:=t'}:=by
 have neL:∀b o,X.s₀.heap.get? b=some o->b≠X.env.locals:=λb o e=>eV (aC (eS e) I.ok.above);have neC:∀b o,X.s₀.heap.get? b=some o->b∉X.ex->b∉ch:=λb o e hx hb=>by
  rcases(hch b hb).1 with z|z
  · exact hx z
  · exact absurd (aC (eS e) z) (aN _)
 have cellK:∀x c,X.env.cells.lookup x=some c->∀v,s.heap.IsCell c v->h'.IsCell c v:=λx c e v ⟨o,ho,hd⟩=>by
  have nch:c∉ch:=λz=>(hch c z).2.2.1 x c e rfl
  by_cases hc:c∈X.fs
  · obtain⟨sl,q⟩:=slot c o (I.cne x c e) hc nch ho (I.freeC x c e);exact⟨_,q,hd⟩
  · exact⟨o,keep c o (I.cne x c e) hc nch ho (I.freeC x c e),hd⟩
 refine⟨I.ok,I.os,hg,⟨λb o e n hb hx=>?_,λb o e n hb hx=>?_,λb o e n hx=>?_,λb o e hx=>?_,λb xs e=>tups b xs (I.base.tups b xs e),λb o xs e=>frzs b o xs (I.base.frzs b o xs e),λb ps e=>?_⟩,?_,λx c e=>?_,?_,λx c e=>?_,λp hp=>?_,hok,I.len⟩
 · exact keep b o (neL b o e) hb (neC b o e hx) (I.base.keep b o e n hb hx) (I.base.free b o e n hx)
 · obtain⟨sl,e1⟩:=I.base.slot b o e n hb hx;obtain⟨sl',e2⟩:=slot b _ (neL b o e) hb (neC b o e hx) e1 (I.base.free b o e n hx);exact⟨sl',e2⟩
 · obtain⟨o',e1⟩:=I.base.there b o e hx;exact free b o' (neC b o e hx) e1 (I.base.free b o e n hx)
 · obtain⟨o',e1⟩:=I.base.there b o e hx;exact there b o' (neC b o e hx) e1
 · obtain⟨m1,e1⟩:=I.base.tbls b ps e;obtain⟨m2,e2⟩:=tbls b _ e1;exact⟨m1++m2,by rw[e2,Array.append_assoc]⟩
 · obtain⟨m,hn,hl⟩:=I.loc;refine⟨m,ns m hn,λi x v e1 e2 e3=>?_⟩;obtain⟨u,r,l⟩:=hl i x v e1 e2 e3;refine⟨u,r,?_⟩;rcases l with l|⟨k,c,e,z⟩
   · exact .inl l
   · exact .inr ⟨k,c,e,cellK x c e _ z⟩
 · obtain⟨v,z⟩:=I.cell x c e;exact⟨v,cellK x c e v z⟩
 · obtain⟨m,⟨o,_,_,ho,_⟩,_⟩:=I.loc;exact free _ o (λz=>(hch _ z).2.1 rfl) ho I.free
 · obtain⟨v,o,ho,hd⟩:=I.cell x c e;exact free c o (λz=>(hch c z).2.2.1 x c e rfl) ho (I.freeC x c e)
 · obtain⟨e,n,ne,nf,d⟩:=I.pin p hp;have nch:p.1∉ch:=λz=>(hch p.1 z).2.2.2 p hp rfl;exact⟨keep p.1 p.2 ne nf nch e n,free p.1 p.2 nch e n,ne,nf,d⟩
theorem Inv.un{t':Nat}(I:Inv X bp σ H s)(u:Un X.fs [] H H' s.heap h')(hok:HOk X.prog X.w H' h'):Inv X bp σ H' {s with heap:=h',toks:=t'}:=by
 obtain⟨m,⟨o,es,ep,ho,r⟩,_⟩:=id I.loc;obtain⟨sl,hL⟩:=u.any ho I.free ⋯;exact I.step (g':=s.gens) (d':=s.drawn) (ch:=[]) (λ_ z=>nomatch z) (λb o _ hb _ e n=>u.keep b o e n hb ⋯) (λb o _ hb _ e n=>u.slot b o e n hb ⋯) (λb o _ e n=>u.free b o e n ⋯) (λb o _ e=>u.there b o e ⋯) u.tups u.frzs u.tbls (λm' hm=>by obtain⟨o',es',ep',dl,r'⟩:=hm;rw[ho] at dl;cases dl;exact⟨_,es',ep',hL,r'⟩) hok I.bare
theorem Inv.call{t':Nat}{d':Drawn}(I:Inv X bp σ H s)(u:Un (frs X.stack) ch H H' s.heap h')(hok:HOk X.prog X.w H' h')(hg:AllBare g')
 (hch:∀b∈ch,(b∈X.ex∨X.s₀.heap.objs.size<=b)/\b≠X.env.locals/\(∀x c,X.env.cells.lookup x=some c->c≠b)/\∀p∈X.pn++bp,p.1≠b):
 Inv X bp σ H' {s with heap:=h',gens:=g',drawn:=d',toks:=t'}:=by
 obtain⟨m,⟨o,es,ep,ho,r⟩,_⟩:=id I.loc;obtain⟨sl,hL⟩:=u.any ho I.free λz=>(hch _ z).2.1 rfl;exact I.step (ch:=ch) hch (λb o hL hb hc e n=>u.keep b o e n (λz=>(aE.mp (I.stkSub b z)).elim hL hb) hc) (λb o _ _ hc e n=>u.any e n hc) (λb o hc e n=>u.free b o e n hc) (λb o hc e=>u.there b o e hc) u.tups u.frzs u.tbls (λm' hm=>by obtain⟨o',es',ep',dl,r'⟩:=hm;rw[ho] at dl;cases dl;exact⟨_,es',ep',hL,r'⟩) hok hg
theorem Inv.turned{t':Nat}(I:Inv X bp σ H s)(k:∀b o,b≠it->s.heap.get? b=some o->h'.get? b=some o)(hn:H it=none)(hL:it≠X.env.locals)
 (h1:it∈X.ex∨X.s₀.heap.objs.size<=it) (h2:∀x c,X.env.cells.lookup x=some c->c≠it) (h3:∀p∈X.pn++bp,p.1≠it):Inv X bp σ H {s with heap:=h',toks:=t'}:=by
 have nit:∀b u,H b=some u->b≠it:=λb u e z=>by rw[z,hn] at e;cases e
 refine I.step (g':=s.gens) (d':=s.drawn) (ch:=[it]) (λb hb=>?_) (λb o _ _ hc e _=>k b o (λz=>hc (by simp[z])) e) (λb o _ _ hc e _=>⟨o.slots,k b o (λz=>hc (by simp[z])) e⟩) (λ_ _ _ _ n=>n)
  (λb o hc e=>⟨o,k b o (λz=>hc (by simp[z])) e⟩) (λ_ _ e=>e) (λ_ _ _ e=>e) (λb ps e=>⟨#[],by rw[e];simp⟩) (λm hm=>?_) (λb u e=>?_) I.bare
 · have e:b=it:=by simpa using hb
   subst e;exact⟨h1,hL,h2,h3⟩
 · obtain⟨o,es,ep,ho,r⟩:=hm;exact⟨o,es,ep,k _ o (ff hL) ho,r⟩
 · refine(I.hok b u e).stay (λc v hc q=>k c v ?_ q) (λ_ q=>q) λ_ _ q=>q;rcases hc with z|z
   · rw[z];exact nit b u e
   · exact nit c _ z
theorem Inv.tok(I:Inv X bp σ H s)(t:Nat):Inv X bp σ H {s with toks:=t}:=I.un (h':=s.heap) (t':=t) Un.refl I.hok
theorem Inv.kept{t':Nat}(I:Inv X bp σ H s)(k:∀b u,s.heap.get? b=some u->h'.get? b=some u):Inv X bp σ H {s with heap:=h',toks:=t'}:=I.un (Un.kept k) (I.hok.kept k)
theorem Inv.laid{o:HO}{t':Nat}(I:Inv X bp σ H s)(k:∀b u,s.heap.get? b=some u->h'.get? b=some u)(hp:s.heap.objs.size<=a)(new:p8 X.prog X.w (upd H a o) h' a o):
 Inv X bp σ (upd H a o) {s with heap:=h',toks:=t'}:=I.un (Un.laid k hp (I.hok.fresh hp)) (I.hok.laid k hp new)
theorem Inv.write{x e:Addr}{o:HO}{t':Nat}(I:Inv X bp σ H s)(mu:Mut (H x))(he:e=x∨H e=some (.own x))(k:∀b u,b≠e->s.heap.get? b=some u->h'.get? b=some u)(heo:∃u,h'.get? e=some u)
 (new:p8 X.prog X.w (upd H x o) h' x o):Inv X bp σ (upd H x o) {s with heap:=h',toks:=t'}:=I.un (Un.write mu he k heo) (I.hok.write mu he k heo new)
theorem Inv.weak{bE:List (Option V)}(I:Inv X bp σ H s)(hl:bE.length=σ.length)(w:∀(i:Nat) v,bE[i]? =some (some v)->σ[i]? =some (some v)):Inv X bp bE H s:=
 ⟨I.ok,I.os,I.bare,I.base,let⟨m,hn,hl'⟩:=I.loc;⟨m,hn,λi x v e1 e2 e3=>hl' i x v e1 (w i v e2) e3⟩,I.cell,I.free,I.freeC,I.pin,I.hok,hl.trans I.len⟩
theorem Inv.pins_of{pins':List (Addr×Obj)}(I:Inv X bp σ H s)(h:∀p∈pins',s.heap.get? p.1=some p.2/\H p.1=none/\p.1≠X.env.locals/\p.1∉X.fs/\∀v,p.2.data≠.cell v):Inv X pins' σ H s:=
 ⟨I.ok,I.os,I.bare,I.base,I.loc,I.cell,I.free,I.freeC,λp hp=>(aI.mp hp).elim (λz=>I.pin p (mem_append_left _ z)) (h p),I.hok,I.len⟩
theorem a5T(hN:N.Nodup){i:Nat}(a:N[i]? =some x)(b:N[j]? =some x):i=j:=by obtain⟨h1,e1⟩:=ae.mp a;obtain⟨h2,e2⟩:=ae.mp b;exact(getElem_inj hN).mp (e1.trans e2.symm)
theorem a3N{E:Value->Shared->Prop}{i:Nat}{Q:Unit->Shared->Prop}(I:Inv X bp σ H s)(hN:X.N.Nodup)(hi:X.N[i]? =some x)(hx:Loc X.env.scope x)(r:i8 v u)
 (h:∀s',Inv X bp (σ.set i (some v)) H s'->(∃a,Heap.SameBut a s.heap s'.heap/\(a=X.env.locals∨X.env.cells.lookup x=some a))->Q () s') (hf:X.fn x=true∨X.env.scope.names.lookup x=some .local:=by first|exact .inl rfl|exact .inr rfl|assumption):wpAny M A (storeName X.env x u) Q E s:=by
 obtain⟨m,hn,hl⟩:=id I.loc;have hcls:(X.env.scope.kind==.class||(X.env.scope.kind==.module&&X.env.locals !=X.env.globals))=false:=by rw[I.ok.kind];rfl
 have hiσ:i<σ.length:=by rw[I.len];exact(ae.mp hi).1
 have cne:=I.cne;have tracked:∀{a:Addr} {h':Heap},(∃o,s.heap.get? a=some o/\H a=none)->Heap.SameBut a s.heap h'->HOk X.prog X.w H h':=fun{a h'} ha hs b ob e=>by
  obtain⟨_,_,hfree⟩:=ha;refine(I.hok b ob e).stay (λc w' hc q=>(hs.2 c ?_).trans q) (λ_ q=>q) λ_ _ q=>q;rintro rfl;rcases hc with rfl|hc
  · rw[hfree] at e;cases e
  · rw[hfree] at hc;cases hc
 rcases hx with hk|hk
 · refine wpAny_storeName_local hk hn (λh' hn' hs=>?_) hcls;obtain⟨oL,_,_,hoL,_⟩:=id hn;refine h _ ⟨I.ok,I.os,I.bare,⟨λb o e n hb hx=>?_,λb o e n hb hx=>?_,I.base.free,λb o e hx=>?_,I.base.tups,I.base.frzs,I.base.tbls⟩,⟨_,hn',λj y v' e1 e2 e3=>?_⟩,λy c e=>?_,I.free,I.freeC,λp hp=>?_,tracked ⟨oL,hoL,I.free⟩ hs,by simpa using I.len⟩ ⟨_,hs,.inl rfl⟩
   · exact(hs.2 b (eV (aC (eS e) I.ok.above))).trans (I.base.keep b o e n hb hx)
   · obtain⟨sl,e1⟩:=I.base.slot b o e n hb hx;exact⟨sl,(hs.2 b (eV (aC (eS e) I.ok.above))).trans e1⟩
   · obtain⟨o',e1⟩:=I.base.there b o e hx;exact⟨o',(hs.2 b (eV (aC (eS e) I.ok.above))).trans e1⟩
   · by_cases hj:j=i
     · subst hj;rw[hi] at e1;cases e1;rw[fb hiσ] at e2;cases e2;exact⟨u,r,.inl ⟨hk,by simp⟩⟩
     · rw[eW (ff hj)] at e2;obtain⟨u',r',q⟩:=hl j y v' e1 e2 e3;refine⟨u',r',?_⟩;rcases q with⟨k,e⟩|⟨k,c,e,z⟩
       · refine .inl ⟨k,?_⟩;have:y≠x:=λe=>hj (a5T hN e1 (e▸hi));simp[this,e]
       · exact .inr ⟨k,c,e,z.sameBut hs (cne y c e)⟩
   · obtain⟨w',z⟩:=I.cell y c e;exact⟨w',z.sameBut hs (cne y c e)⟩
   · obtain⟨e,n,ne,nf,d⟩:=I.pin p hp;exact⟨(hs.2 p.1 ne).trans e,n,ne,nf,d⟩
 · have hfn:X.fn x=true:=by
    rcases hf with z|z
    · exact z
    · rw[z] at hk;cases hk
   obtain⟨c,hc⟩:=I.ok.has x (.inl hk);obtain⟨w',z⟩:=I.cell x c hc;refine wpAny_storeName_cell I.ok.kind hk hc z (λh' em hs=>?_);obtain⟨oc,hoc,hocd⟩:=id z;refine h {s with heap:=h'} ⟨I.ok,I.os,I.bare,⟨λb o e n hb hx=>?_,λb o e n hb hx=>?_,I.base.free,λb o e hx=>?_,I.base.tups,I.base.frzs,I.base.tbls⟩,⟨m,hn.sameBut hs (ff (cne x c hc)),λj y v' e1 e2 e3=>?_⟩,λy c' e=>?_,I.free,I.freeC,λp hp=>?_,tracked ⟨oc,hoc,I.freeC x c hc⟩ hs,by simpa using I.len⟩ ⟨c,hs,.inr hc⟩
   · exact(hs.2 b (eV (aC (eS e) (I.ok.cab x c hfn hc)))).trans (I.base.keep b o e n hb hx)
   · obtain⟨sl,e1⟩:=I.base.slot b o e n hb hx;exact⟨sl,(hs.2 b (eV (aC (eS e) (I.ok.cab x c hfn hc)))).trans e1⟩
   · obtain⟨o',e1⟩:=I.base.there b o e hx;exact⟨o',(hs.2 b (eV (aC (eS e) (I.ok.cab x c hfn hc)))).trans e1⟩
   · by_cases hj:j=i
     · subst hj;rw[hi] at e1;cases e1;rw[fb hiσ] at e2;cases e2;exact⟨u,r,.inr ⟨.inl hk,c,hc,em⟩⟩
     · rw[eW (ff hj)] at e2;obtain⟨u',r',q⟩:=hl j y v' e1 e2 e3;refine⟨u',r',?_⟩;rcases q with q|⟨k,c',e,z'⟩
       · exact .inl q
       · refine .inr ⟨k,c',e,z'.sameBut hs ?_⟩;rintro rfl;exact hj (a5T hN e1 (I.ok.inj _ _ _ e hc▸hi))
   · by_cases dG:c'=c
     · subst dG;exact⟨_,em⟩
     · obtain⟨w2,z2⟩:=I.cell y c' e;exact⟨w2,z2.sameBut hs dG⟩
   · obtain⟨e,n,ne,nf,d⟩:=I.pin p hp;refine⟨(hs.2 p.1 ?_).trans e,n,ne,nf,d⟩;intro q;rw[q,hoc] at e;have q':oc=p.2:=ax e;exact d w' (by rw[←q'];exact hocd)
theorem a5E{E:Value->Shared->Prop}{i:Nat}{Q:Unit->Shared->Prop}(I:Inv X bp σ H s)(hN:X.N.Nodup)(hi:X.N[i]? =some x)(hx:Loc X.env.scope x)(r:i8 v u)
 (h:∀s',Inv X bp (σ.set i (some v)) H s'->Q () s') (hf:X.fn x=true∨X.env.scope.names.lookup x=some .local:=by first|exact .inl rfl|exact .inr rfl|assumption):wpAny M A (storeName X.env x u) Q E s:=
 a3N I hN hi hx r (λs' I' _=>h s' I') hf
theorem Inv.call'(I:Inv X bp σ H s)(ho:s'.os=s.os)(u:Un (frs X.stack) ch H H' s.heap s'.heap)(hok:HOk X.prog X.w H' s'.heap)(hg:AllBare s'.gens)
 (hch:∀b∈ch,(b∈X.ex∨X.s₀.heap.objs.size<=b)/\b≠X.env.locals/\(∀x c,X.env.cells.lookup x=some c->c≠b)/\∀p∈X.pn++bp,p.1≠b):Inv X bp σ H' s':=by
 obtain⟨h',g',d',t',o'⟩:=s';have e:o'=s.os:=ho;subst e;exact I.call (g':=g') (t':=t') (d':=d') u hok hg hch
end
abbrev XK:=Value->Option Addr->Hp->Prop
abbrev St:=List (Option V)
abbrev VK:=V->Hp->Prop
abbrev TE:=St->Hp->VK->Prop
abbrev TT:=St->Hp->(Bool->Hp->Prop)->Prop
abbrev TA:=St->Hp->(List V->Hp->Prop)->Prop
structure Ends where
 nx:St->Hp->Prop
 rt:VK
 bk:St->Hp->Prop:=λ_ _=>False
 ct:St->Hp->Prop:=λ_ _=>False
abbrev TS:=Ends->St->Hp->Prop
def EP(X:Cx)(bp:List (Addr×Obj))(σ:St)(Q:VK)(u:Value)(s':Shared):Prop:=∃v H',Inv X bp σ H' s'/\i8 v u/\Q v H'
def TP(X:Cx)(bp:List (Addr×Obj))(σ:St)(Q:Bool->Hp->Prop)(b:Bool)(s':Shared):Prop:=∃H',Inv X bp σ H' s'/\Q b H'
def AP(X:Cx)(bp:List (Addr×Obj))(σ:St)(Q:List V->Hp->Prop)(us:List Value)(s':Shared):Prop:=∃vs H',Inv X bp σ H' s'/\k8 vs us/\Q vs H'
def SP(X:Cx)(bp:List (Addr×Obj))(D:Ends)(f:Flow)(s':Shared):Prop:=
 match f with
 |.next=>∃bE H',Inv X bp bE H' s'/\D.nx bE H'
 |.brk=>∃bE H',Inv X bp bE H' s'/\D.bk bE H'
 |.cont=>∃bE H',Inv X bp bE H' s'/\D.ct bE H'
 |.ret u=>∃v bE H',Inv X bp bE H' s'/\i8 v u/\D.rt v H'
def PE(X:Cx)(e:Expr)(t:TE):Prop:=
 ∀(bp:List (Addr×Obj)) (s:Shared) (σ:St) (H:Hp) (Q:VK),Inv X bp σ H s->t σ H Q->wpAny (model X.prog X.w) X.A (eval e X.env) (EP X bp σ Q) X.xe s
def PT(X:Cx)(e:Expr)(t:TT):Prop:=
 ∀(bp:List (Addr×Obj)) (s:Shared) (σ:St) (H:Hp) (Q:Bool->Hp->Prop),Inv X bp σ H s->t σ H Q->wpAny (model X.prog X.w) X.A (isTrue e X.env (eval e X.env)) (TP X bp σ Q) X.xe s
def PW(X:Cx)(e:Expr)(t:TT):Prop:=
 ∀(cK:Sem Value) (bp:List (Addr×Obj)) (s:Shared) (σ:St) (H:Hp) (Q:Bool->Hp->Prop),Inv X bp σ H s->t σ H Q->wpAny (model X.prog X.w) X.A (isTrue e X.env cK) (TP X bp σ Q) X.xe s
variable{X:Cx}{e:Expr}
theorem PW.pt{t:TT}(h:PW X e t):PT X e t:=h _
def PA(X:Cx)(es:List Expr)(t:TA):Prop:=
 ∀(pos:Pos) (bp:List (Addr×Obj)) (s:Shared) (σ:St) (H:Hp) (Q:List V->Hp->Prop),Inv X bp σ H s->t σ H Q->wpAny (model X.prog X.w) X.A (spliced (backTo pos (starEach es X.env))) (AP X bp σ Q) X.xe s
def PS(X:Cx)(st:Stmt)(t:TS):Prop:=
 ∀(bp:List (Addr×Obj)) (s:Shared) (σ:St) (H:Hp) (D:Ends),Inv X bp σ H s->t D σ H->wpAny (model X.prog X.w) X.A (exec st X.env) (SP X bp D) X.xe s
def PSs(X:Cx)(st:List Stmt)(t:TS):Prop:=
 ∀(bp:List (Addr×Obj)) (s:Shared) (σ:St) (H:Hp) (D:Ends),Inv X bp σ H s->t D σ H->wpAny (model X.prog X.w) X.A (execs st X.env) (SP X bp D) X.xe s
theorem thn{t:Sem α}{Q Q':α->Shared->Prop}{E:Value->Shared->Prop}{s:Shared}(h:wpAny M A t Q E s)(hQ:∀a s,Q a s->Q' a s):wpAny M A t Q' E s:=fF h hQ λ_ _ x=>x
variable{bp:List (Addr×Obj)}{σ:St}{pos:Pos}{Q:Value->Shared->Prop}{op:CmpOp}{c:Expr}
section
theorem bin{a b:Expr}{ta tb:TE}(ha:PE X a ta)(hb:PE X b tb){s:Shared}{R:V->V->Hp->Prop}(I:Inv X bp σ H s)(h:ta σ H λx H1=>tb σ H1 λy H2=>R x y H2)
 {Q :α->Shared->Prop} {f:Value->Value->Sem α}
    (hf:∀v u s2 x y H2,Inv X bp σ H2 s2->i8 x v->i8 y u->R x y H2->wpAny (model X.prog X.w) X.A (f v u) Q X.xe s2):
    wpAny (model X.prog X.w) X.A (eval a X.env) (λv bB=>wpAny (model X.prog X.w) X.A (eval b X.env) (λu cN=>wpAny (model X.prog X.w) X.A (f v u) Q X.xe cN) X.xe bB) X.xe s:=by
  refine thn (ha bp s σ H _ I h) λv s1 zz=>?_;obtain⟨x,H1,I1,r1,q1⟩:=zz;refine thn (hb bp s1 σ H1 _ I1 q1) λu s2 zz=>?_;obtain⟨y,H2,I2,r2,q2⟩:=zz;exact hf v u s2 x y H2 I2 r1 r2 q2
def c0H(i:Nat):TE:=λσ H Q=>∃v,σ[i]? =some (some v)/\Q v H
def tC(v:V):TE:=λ_ H Q=>Q v H
theorem b5M{i:Nat}(hN:X.N[i]? =some x)(hv:Vis X.env.scope x)(hd:(x==("__debug__":Str))=false:=by decide)(eE:(x==("__classdict__":Str))=false:=by decide):PE X (.Name x pos) (c0H i):=by
 intro bp s σ H Q I h;obtain⟨v,e,h⟩:=h;obtain⟨m,hn,hl⟩:=I.loc;obtain⟨u,r,l⟩:=hl i x v hN e hv;have cn:EP X bp σ Q u s:=⟨v,H,I,r,h⟩;rcases l with⟨hk,hm⟩|⟨hk,c,hc,hcell⟩
 · exact wpAny_Name (wpAny_loadName_local I.ok.kind hk hn hm cn) hd
 · rcases hk with hk|hk
   · exact wpAny_Name (wpAny_loadName_cell I.ok.kind hk hc hcell cn) hd
   · exact wpAny_Name (wpAny_loadName_free I.ok.kind hk hc hcell cn eE) hd
theorem b0q{i j pos}:PE X (.Constant (.int i) j pos) (tC (.int i)):=λ_ _ _ H _ I h=>wpAny_Constant_int ⟨.int i,H,I.tok _,⟨_,rfl⟩,h⟩
theorem b8J{b j pos}:PE X (.Constant (.bool b) j pos) (tC (.bl b)):=λ_ _ _ H _ I h=>Constant_bool ⟨.bl b,H,I,rfl,h⟩
theorem b5Q{j pos}:PE X (.Constant .none j pos) (tC .non):=λ_ _ _ H _ I h=>Constant_none ⟨.non,H,I,rfl,h⟩
theorem b0n{x j pos}:PE X (.Constant (.str x) j pos) (tC (.str x)):=λ_ _ _ H _ I h=>Calls.Constant_str ⟨.str x,H,I.tok _,⟨_,rfl⟩,h⟩
def Gl(X:Cx)(x:Str):Prop:=X.env.kindOf x=some .globalImplicit
theorem a4U{E:Value->Shared->Prop}{s:Shared}(I:Inv X bp σ H s)(hg:Gl X x)(hm:X.mg x=some u)(h:Q u s)
 (hd:(x==("__debug__":Str))=false:=by decide):wpAny (model X.prog X.w) X.A (eval (.Name x pos) X.env) Q E s:=
 Calls.Name_function_global I.ok.kind hg (Calls.loadGlobal_global (by rw[I.ok.glob];exact I.mod.glob.keeps I.bk) hm h) hd
theorem a0E{E:Value->Shared->Prop}{s:Shared}(I:Inv X bp σ H s)(hg:Gl X x)(hm:X.mg x=none)(hv:bootBuiltins x=some u)(h:Q u s)
 (hn:x≠"__name__":=by decide) (hd:(x==("__debug__":Str))=false:=by decide):wpAny (model X.prog X.w) X.A (eval (.Name x pos) X.env) Q E s:=by
 obtain⟨mb,h1,h2⟩:=I.mod.blt;exact Calls.Name_function_global I.ok.kind hg (Calls.loadGlobal_builtin (by rw[I.ok.glob];exact I.mod.glob.keeps I.bk) hm (by rw[I.ok.blt];exact h1.keeps I.bk) ((h2 x hn).trans hv) h) hd
theorem a0Z(hg:Gl X x)(hm:X.mg x=some u)(r:i8 v u)(hd:(x==("__debug__":Str))=false:=by decide):PE X (.Name x pos) (tC v):=
 λ_ _ _ H _ I h=>a4U I hg hm ⟨v,H,I,r,h⟩ hd
theorem a0e(hg:Gl X x)(hm:X.mg x=none)(hv:bootBuiltins x=some u)(r:i8 v u)(hn:x≠"__name__":=by decide)(hd:(x==("__debug__":Str))=false:=by decide):PE X (.Name x pos) (tC v):=
 λ_ _ _ H _ I h=>a0E I hg hm hv ⟨v,H,I,r,h⟩ hn hd
variable{a b:Expr}{ta tb:TE}
def PC(X:Cx)(op:CmpOp)(a b:Expr)(t:TE):Prop:=
 ∀(bp:List (Addr×Obj)) (s:Shared) (σ:St) (H:Hp) (Q:VK),Inv X bp σ H s->t σ H Q→
  wpAny (model X.prog X.w) X.A (eval a X.env) (λv bB=>wpAny (model X.prog X.w) X.A (eval b X.env) (λu cN=>wpAny (model X.prog X.w) X.A (compareOp op v u) (EP X bp σ Q) X.xe cN) X.xe bB) X.xe s
theorem a5U(b:Expr)(h:op≠.In)(h2:op≠.NotIn):behindInMarks op b=false:=by
 have e1:(op==CmpOp.In)=false:=by cases op<;>first|rfl|exact absurd rfl h
 have e2:(op==CmpOp.NotIn)=false:=by cases op<;>first|rfl|exact absurd rfl h2
 cases b<;>simp[behindInMarks,e1,e2]
def c0P(ta:TE):TE:=λσ H Q=>ta σ H λx H1=>Q (.bl (decide (x=.non))) H1
def b8d(ta:TE):TE:=λσ H Q=>ta σ H λx H1=>Q (.bl (!decide (x=.non))) H1
theorem i8.none_iff{x:V}{v:Value}(r:i8 x v):(v==Value.none)=decide (x=.non):=by
 cases x with
 |non=>cases r;rfl
 |bl _=>cases r;rfl
 |int _=>obtain⟨t,rfl⟩:=r;rfl
 |str _=>obtain⟨t,rfl⟩:=r;rfl
 |byt _=>obtain⟨t,rfl⟩:=r;rfl
 |flt _=>obtain⟨t,rfl⟩:=r;rfl
 |ref _=>cases r;rfl
 |ty _=>cases r;rfl
theorem b0w{j cC}(ha:PE X a ta):PC X .Is a (.Constant .none j cC) (c0P ta):=by intro bp s σ H Q I h;refine thn (ha bp s σ H _ I h) λv s1 zz=>?_;obtain⟨x,H1,I1,r1,q1⟩:=zz;exact Constant_none (is_none_gen ⟨.bl _,H1,I1,by rw[r1.none_iff];rfl,q1⟩)
theorem a7I{j cC}(ha:PE X a ta):PC X .IsNot a (.Constant .none j cC) (b8d ta):=by intro bp s σ H Q I h;refine thn (ha bp s σ H _ I h) λv s1 zz=>?_;obtain⟨x,H1,I1,r1,q1⟩:=zz;exact Constant_none (isnot_none_gen ⟨.bl _,H1,I1,by rw[r1.none_iff];rfl,q1⟩)
def tB(t:TE):TT:=λσ H Q=>t σ H λx H1=>∃c,x=.bl c/\Q c H1
theorem b0u{t:TE}(h:PC X op a b t)(h1:behindInMarks op b=false:=by first|exact a5U _ (by decide) (by decide)|rfl):PE X (.Compare a [op] [b] pos) t:=λbp s σ H Q I hw=>wpAny_Compare1 (h bp s σ H Q I hw) h1
theorem b0a{t:TE}(h:PC X op a b t)(h1:behindInMarks op b=false:=by first|exact a5U _ (by decide) (by decide)|rfl):PT X (.Compare a [op] [b] pos) (tB t):=by intro bp s σ H Q I hw;refine wpAny_isTrue_Compare1 (thn (h bp s σ H _ I hw) λv s1 h1=>thn h1 λu s2 h2=>thn h2 λc s3 zz=>?_) h1;obtain⟨x,H1,I1,r1,q1⟩:=zz;obtain⟨d,rfl,q⟩:=q1;cases r1;exact fu ⟨H1,I1,q⟩
variable{tA tB':TT}{d9:List Expr}
def c0T(t u:TT):TT:=λσ H Q=>t σ H λc H1=>if c=true then u σ H1 Q else Q false H1
def tOr(t u:TT):TT:=λσ H Q=>t σ H λc H1=>if c=true then Q true H1 else u σ H1 Q
def c0M(t:TT):TT:=λσ H Q=>t σ H λc H1=>Q (!c) H1
theorem b2O(ha:PT X a tA):PW X (.BoolOp .And [a] pos) tA:=by
 intro wh bp s σ H Q I h;refine isTrue_and (thn (ha bp s σ H Q I h) λc s1 e=>?_);cases c with
 |true=>exact isTrue_and_nil e
 |false=>exact e
theorem b5w(ha:PT X a tA):PW X (.BoolOp .Or [a] pos) tA:=by
 intro wh bp s σ H Q I h;refine isTrue_or (thn (ha bp s σ H Q I h) λc s1 e=>?_);cases c with
 |false=>exact isTrue_or_nil e
 |true=>exact e
theorem b5x(ha:PT X a tA)(hb:PW X (.BoolOp .And (b::d9) pos) tB'):PW X (.BoolOp .And (a::b::d9) pos) (c0T tA tB'):=by
 intro wh bp s σ H Q I h;refine isTrue_and (thn (ha bp s σ H _ I h) λc s1 zz=>?_);obtain⟨H1,I1,q1⟩:=zz;cases c with
 |true=>exact hb wh bp s1 σ H1 Q I1 q1
 |false=>exact⟨H1,I1,q1⟩
theorem b8D(ha:PT X a tA)(hb:PW X (.BoolOp .Or (b::d9) pos) tB'):PW X (.BoolOp .Or (a::b::d9) pos) (tOr tA tB'):=by
 intro wh bp s σ H Q I h;refine isTrue_or (thn (ha bp s σ H _ I h) λc s1 zz=>?_);obtain⟨H1,I1,q1⟩:=zz;cases c with
 |true=>exact⟨H1,I1,q1⟩
 |false=>exact hb wh bp s1 σ H1 Q I1 q1
theorem b5A(ha:PT X a tA):PT X (.UnaryOp .Not a pos) (c0M tA):=by intro bp s σ H Q I h;exact isTrue_not (ha bp s σ H (λc H1=>Q (!c) H1) I h)
noncomputable def b8k(ta tb:TE):TE:=λσ H Q=>ta σ H λx H1=>∃c,x=.bl c/\if c=true then tb σ H1 Q else Q (.bl false) H1
noncomputable def c0L(ta tb:TE):TE:=λσ H Q=>ta σ H λx H1=>∃c,x=.bl c/\if c=true then Q (.bl true) H1 else tb σ H1 Q
def b8c(ta:TE):TE:=λσ H Q=>ta σ H λx H1=>∃c,x=.bl c/\Q (.bl (!c)) H1
theorem b5O{op}{t:TE}(h:PE X a t):PE X (.BoolOp op [a] pos) t:=λbp s σ H Q I hw=>BoolOp_one (h bp s σ H Q I hw)
theorem b5U(ha:PE X a ta)(hb:PE X (.BoolOp .And (b::d9) pos) tb):PE X (.BoolOp .And (a::b::d9) pos) (b8k ta tb):=by
 intro bp s σ H Q I h;refine BoolOp_and (thn (ha bp s σ H _ I h) λv s1 zz=>?_);obtain⟨x,H1,I1,r1,q1⟩:=zz;obtain⟨c,rfl,q1⟩:=q1;cases r1;refine fu ?_;cases c with
 |true=>exact hb bp s1 σ H1 Q I1 q1
 |false=>exact⟨.bl false,H1,I1,rfl,q1⟩
theorem b8H(ha:PE X a ta)(hb:PE X (.BoolOp .Or (b::d9) pos) tb):PE X (.BoolOp .Or (a::b::d9) pos) (c0L ta tb):=by
 intro bp s σ H Q I h;refine BoolOp_or (thn (ha bp s σ H _ I h) λv s1 zz=>?_);obtain⟨x,H1,I1,r1,q1⟩:=zz;obtain⟨c,rfl,q1⟩:=q1;cases r1;refine fu ?_;cases c with
 |false=>exact hb bp s1 σ H1 Q I1 q1
 |true=>exact⟨.bl true,H1,I1,rfl,q1⟩
theorem b5P(ha:PE X a ta):PE X (.UnaryOp .Not a pos) (b8c ta):=by intro bp s σ H Q I h;refine UnaryOp_ (thn (ha bp s σ H _ I h) λv s1 zz=>?_);obtain⟨x,H1,I1,r1,q1⟩:=zz;obtain⟨c,rfl,q1⟩:=q1;cases r1;exact not_of (fu ⟨.bl (!c),H1,I1,rfl,q1⟩)
def tIf(t:TT)(ta tb:TE):TE:=λσ H Q=>t σ H λc H1=>if c=true then ta σ H1 Q else tb σ H1 Q
theorem b0r(hc:PT X c tA)(ha:PE X a ta)(hb:PE X b tb):PE X (.IfExp c a b pos) (tIf tA ta tb):=by
 intro bp s σ H Q I h;refine wpAny_IfExp (thn (hc bp s σ H _ I h) λd s1 zz=>?_);obtain⟨H1,I1,q1⟩:=zz;cases d with
 |true=>exact ha bp s1 σ H1 Q I1 q1
 |false=>exact hb bp s1 σ H1 Q I1 q1
end
def SqL(K:Frag)(H:Hp)(a:Addr)(xs:List V):Prop:=
 Rd H a (.lst xs)∨
  ∃(o:Obj) (bt:Array Value) (n:Nat),K.lookup a=some o/\o.cls=.type "list"/\o.dict=none/\o.data=.seq bt n/\bt.size<=sizeLine/\k8 xs bt.toList
def SqT(K:Frag)(H:Hp)(a:Addr)(xs:List V):Prop:=
 Rd H a (.tup xs)∨
  ∃(o:Obj) (bt:Array Value) (n:Nat),K.lookup a=some o/\o.cls=.type "tuple"/\o.data=.seq bt n/\bt.size<=sizeLine/\k8 xs bt.toList
noncomputable def c1y:Value->Option V
 |.none=>some .non
 |.bool b=>some (.bl b)
 |.int i _=>some (.int i)
 |.str x _=>some (.str x)
 |.bytes b _=>some (.byt b)
 |.float b _=>some (.flt b)
 |.ref a=>some (.ref a)
 |.type n=>some (.ty n)
 |_=>none
theorem i8.abs{x:V}(r:i8 x u):c1y u=some x:=by
 cases x with
 |non=>cases r;rfl
 |bl _=>cases r;rfl
 |int _=>obtain⟨t,rfl⟩:=r;rfl
 |str _=>obtain⟨t,rfl⟩:=r;rfl
 |byt _=>obtain⟨t,rfl⟩:=r;rfl
 |flt _=>obtain⟨t,rfl⟩:=r;rfl
 |ref _=>cases r;rfl
 |ty _=>cases r;rfl
variable{y:V}
theorem i8.inj{x:V}(r:i8 x u)(q:i8 y u):x=y:=ax (r.abs.symm.trans q.abs)
theorem k8.inj:∀{xs ys:List V} {us:List Value},k8 xs us->k8 ys us->xs=ys
 |_,_,_,.nil,.nil=>rfl
 |_,_,_,.cons r t,.cons r' t'=>by rw[r.inj r',k8.inj t t']
variable{K:Frag}
section
variable{s:Shared}{xs ys:List V}
theorem Inv.list(I:Inv X bp σ H s)(h:SqL X.K H a xs):∃bt:List Value,k8 xs bt/\PlainL s.heap a bt.toArray/\xs.length<=sizeLine:=by
 rcases h with h|⟨o,bt,n,hk,hc,hd,hs,hz,r⟩
 · obtain⟨z,bt,n,r,e⟩:=h.ok I.hok;exact⟨bt,r,⟨_,n,e,rfl,rfl,rfl⟩,z⟩
 · refine⟨bt.toList,r,⟨o,n,I.kIn a o hk,hc,hd,by simpa using hs⟩,?_⟩;have e:=r.length;simp only[Array.length_toList] at e;omega
theorem Inv.tuple(I:Inv X bp σ H s)(h:SqT X.K H a xs):∃bt:List Value,k8 xs bt/\IsTup s.heap a bt.toArray/\xs.length<=sizeLine:=by
 rcases h with h|⟨o,bt,n,hk,hc,hs,hz,r⟩
 · obtain⟨z,bt,r,p⟩:=h.ok I.hok;exact⟨bt,r,p.tup,z⟩
 · refine⟨bt.toList,r,⟨o,I.kIn a o hk,hc,n,by simpa using hs⟩,?_⟩;have e:=r.length;simp only[Array.length_toList] at e;omega
theorem Inv.list_inj(I:Inv X bp σ H s)(h:SqL X.K H a xs)(h':SqL X.K H a ys):xs=ys:=by
 obtain⟨bt,r,⟨o,n,e,_,_,d⟩,_⟩:=I.list h;obtain⟨its',r',⟨o',n',e',_,_,d'⟩,_⟩:=I.list h';rw[e] at e';cases e';rw[d] at d';injection d' with d1 _;have:bt=its':=by simpa using fh Array.toList d1
 subst this;exact r.inj r'
theorem Inv.tuple_inj(I:Inv X bp σ H s)(h:SqT X.K H a xs)(h':SqT X.K H a ys):xs=ys:=by
 obtain⟨bt,r,⟨o,e,_,n,d⟩,_⟩:=I.tuple h;obtain⟨its',r',⟨o',e',_,n',d'⟩,_⟩:=I.tuple h';rw[e] at e';cases e';rw[d] at d';injection d' with d1 _;have:bt=its':=by simpa using fh Array.toList d1
 subst this;exact r.inj r'
end
variable{tc:TT}
section
variable{st:Stmt}{d9:List Stmt}{t u:TS}{te:TE}
def b8e:TS:=λD σ H=>D.nx σ H
def c0J(t u:TS):TS:=λD σ H=>t {D with nx:=u D} σ H
theorem b2P:PSs X [] b8e:=λ_ _ σ H _ I h=>wpAny_execs_nil ⟨σ,H,I,h⟩
theorem b0d(h1:PS X st t)(h2:PSs X d9 u):PSs X (st::d9) (c0J t u):=by
 intro bp s σ H D I h;refine wpAny_execs_cons (thn (h1 bp s σ H {D with nx:=u D} I h) λf s1 q=>?_);cases f with
 |next=>
  obtain⟨bE,H',I',q⟩:=q;exact h2 bp s1 bE H' D I' q
 |ret v=>exact q
 |brk=>exact q
 |cont=>exact q
theorem Inv.quiet{s:Shared}(I:Inv X bp σ H s):interactive X.env=false:=by simp[interactive,I.ok.kind]
def b8g(te:TE):TS:=λD σ H=>te σ H λ_ H1=>D.nx σ H1
theorem b2R(he:PE X e te)(hs:swapsWith e none pos.line X.env=pure false:=by rfl):PS X (.Expr e pos) (b8g te):=by intro bp s σ H D I h;exact wpAny_Expr_any (thn (he bp s σ H _ I h) λv s1 ⟨x,H1,I1,r1,q1⟩=>⟨σ,H1,I1,q1⟩) I.quiet hs
def c0K(te:TE):TS:=λD σ H=>te σ H D.rt
theorem b5B(he:PE X e te):PS X (.Return (some e) pos) (c0K te):=by intro bp s σ H D I h;exact wpAny_Return_some (thn (he bp s σ H _ I h) λv s1 ⟨x,H1,I1,r1,q1⟩=>⟨x,σ,H1,I1,r1,q1⟩)
def c0Q(c:TT)(t u:TS):TS:=λD σ H=>c σ H λb H1=>if b=true then t D σ H1 else u D σ H1
theorem b8F{a b:List Stmt}(hc:PT X c tc)(ha:PSs X a t)(hb:PSs X b u):PS X (.If c a b pos) (c0Q tc t u):=by
 intro bp s σ H D I h;refine wpAny_If (thn (hc bp s σ H _ I h) λd s1 zz=>?_);obtain⟨H1,I1,q1⟩:=zz;cases d with
 |true=>exact ha bp s1 σ H1 D I1 q1
 |false=>exact hb bp s1 σ H1 D I1 q1
end
abbrev TG:=V->St->Hp->(St->Hp->Prop)->Prop
abbrev TGs:=List V->St->Hp->(St->Hp->Prop)->Prop
def PG(X:Cx)(target:Expr)(t:TG):Prop:=
 ∀(bp:List (Addr×Obj)) (s:Shared) (σ:St) (H:Hp) (v:V) (u:Value) (Q:St->Hp->Prop),Inv X bp σ H s->i8 v u->t v σ H Q→
  wpAny (model X.prog X.w) X.A (assign target X.env u) (λ_ s'=>∃bE H',Inv X bp bE H' s'/\Q bE H') X.xe s
def PGs(X:Cx)(ts:List Expr)(t:TGs):Prop:=
 ∀(bp:List (Addr×Obj)) (s:Shared) (σ:St) (H:Hp) (vs:List V) (us:List Value) (Q:St->Hp->Prop),Inv X bp σ H s->k8 vs us->t vs σ H Q→
  wpAny (model X.prog X.w) X.A (assignInOrder ((assignEach ts X.env).map (·.2)) us) (λ_ s'=>∃bE H',Inv X bp bE H' s'/\Q bE H') X.xe s
abbrev b7N:=V->V->V->Hp->(Hp->Prop)->Prop
def b7O(X:Cx)(t:b7N):Prop:=
 ∀(bp:List (Addr×Obj)) (s:Shared) (σ:St) (H:Hp) (o i v:V) (ov iv u:Value) (Q:Hp->Prop),Inv X bp σ H s->i8 o ov->i8 i iv->i8 v u->t o i v H Q→
  wpAny (model X.prog X.w) X.A (setItem ov iv u) (λ_ s'=>∃H',Inv X bp σ H' s'/\Q H') X.xe s
variable{n:Nat}{to:TE}{ti:TE}{tg:Expr}{te:TE}{cC:Pos}{ta:TA}
section
def b1p(i:Nat):TG:=λv σ H Q=>Q (σ.set i (some v)) H
theorem b3c{i:Nat}(hN:X.N.Nodup)(hi:X.N[i]? =some x)(hx:Loc X.env.scope x)(hf:X.fn x=true∨X.env.scope.names.lookup x=some .local:=by first|exact .inl rfl|exact .inr rfl|assumption):PG X (.Name x pos) (b1p i):=by intro bp s σ H v u Q I r h;exact wpAny_assign_Name (a5E I hN hi hx r (λs' I'=>⟨_,H,I',h⟩) hf)
def c1o:TGs:=λvs σ H Q=>vs=[]/\Q σ H
def b9s(t:TG)(u:TGs):TGs:=λvs σ H Q=>∃v r,vs=v::r/\t v σ H λbE H'=>u r bE H' Q
theorem b3b:PGs X [] c1o:=by intro bp s σ H vs us Q I r h;obtain⟨e,h⟩:=h;subst e;cases r;exact assignInOrder_nil ⟨σ,H,I,h⟩
theorem b0m{es:List Expr}{t:TG}{u:TGs}(h1:PG X e t)(h2:PGs X es u)
 (hs:(assignEach (e::es) X.env).map (·.2)=assign e X.env::(assignEach es X.env).map (·.2):=by rfl):PGs X (e::es) (b9s t u):=by
 intro bp s σ H vs us Q I r h;obtain⟨v,vr,e1,h⟩:=h;subst e1;cases r with
 |cons r rr=>
  rw[hs];refine assignInOrder_cons (thn (h1 bp s σ H _ _ _ I r h) λ_ s1 zz=>?_);obtain⟨σ1,H1,I1,q1⟩:=zz;exact h2 bp s1 σ1 H1 _ _ Q I1 rr q1
def c1m(K:Frag)(n:Nat)(t:TGs):TG:=λv σ H Q=>∃a xs,v=.ref a/\SqT K H a xs/\xs.length=n/\t xs σ H Q
theorem b5K{es:List Expr}{k:Nat}{t:TGs}(hc:X.calm=true)(h:PGs X es t)
 (hn:(assignEach es X.env).length=n:=by rfl) (dN:(assignEach es X.env).findIdx? (·.1)=none:=by rfl):PG X (.Tuple es k pos) (c1m X.K n t):=by
 intro bp s σ H v u Q I r hw;obtain⟨a,xs,e1,hq,hl,hw⟩:=hw;subst e1;cases r;obtain⟨bt,rv,ht,hz⟩:=I.tuple hq;refine assign_Tuple_tuple (I.ok.hd hc) ht (by simp[hn,←hl,rv.length]) dN λh' hx=>?_;have I1:Inv X bp σ H {s with heap:=h'}:=I.kept (t':=s.toks) λb o e=>hx b o (eV (eS e)) e;exact h bp _ σ H xs _ Q I1 (by simpa using rv) hw
def b9r(to ti:TE)(t:b7N):TG:=λv σ H Q=>to σ H λo H1=>ti σ H1 λi H2=>t o i v H2 λH3=>Q σ H3
theorem b5L{o i:Expr}{t:b7N}(ho:PE X o to)(hi:PE X i ti)(hs:b7O X t)
 (ha:∀v,assign (.Subscript o i pos) X.env v=(do
  let ov←holding [v] (eval o X.env)
  let iv←holding [v,ov] (eval i X.env)
  standAt pos
  holding [v,ov,iv] (setItem ov iv v)
  release [v,ov,iv] []):=by intro _;rfl):PG X (.Subscript o i pos) (b9r to ti t):=by
 intro bp s σ H v u Q I r h;rw[ha];refine eP (fT (thn (ho bp s σ H _ I h) λov s1 zz=>?_));obtain⟨x,H1,I1,r1,q1⟩:=zz;refine eP (fT (thn (hi bp s1 σ H1 _ I1 q1) λiv s2 zz=>?_));obtain⟨y,H2,I2,r2,q2⟩:=zz;refine eP (wpAny_standAt (eP (fT (thn (hs bp s2 σ H2 x y v ov iv u _ I2 r1 r2 r q2) λ_ s3 zz=>?_))));obtain⟨H3,I3,q3⟩:=zz;exact wpAny_release ⟨σ,H3,I3,q3⟩
def b5k(te:TE)(g:TG):TS:=λD σ H=>te σ H λx H1=>g x σ H1 D.nx
theorem b0g{g:TG}(he:PE X e te)(hg:PG X tg g)(hs:swapsWithSole [tg] e pos.line X.env=pure false:=by rfl)(hw:swappedStores [tg] e X.env=pure none:=by rfl)
 (h1:(assignEach [tg] X.env).map (·.2)=[assign tg X.env]:=by rfl):PS X (.Assign [tg] e pos) (b5k te g):=by
 intro bp s σ H D I h;refine wpAny_Assign_stores (thn (he bp s σ H _ I h) λv s1 zz=>?_) hs hw;obtain⟨x,H1,I1,r1,q1⟩:=zz;rw[h1];exact thn (hg bp s1 σ H1 x v _ I1 r1 q1) λ_ s2 q=>q
theorem b0f{i:Nat}(hN:X.N.Nodup)(hi:X.N[i]? =some x)(hx:Loc X.env.scope x)(he:PE X e te)(hs:swapsWith e (some (.Name x cC)) pos.line X.env=pure false:=by rfl)(hf:X.fn x=true∨X.env.scope.names.lookup x=some .local:=by first|exact .inl rfl|exact .inr rfl|assumption):
 PS X (.Assign [.Name x cC] e pos) (b5k te (b1p i)):=by
 intro bp s σ H D I h;refine wpAny_Assign_Name (thn (he bp s σ H _ I h) λv s1 zz=>?_) hs;obtain⟨y,H1,I1,r1,q1⟩:=zz;exact a5E I1 hN hi hx r1 (λs2 I2=>⟨_,H1,I2,q1⟩) hf
end
variable{body:List Stmt}{tb:TS}
section
noncomputable def b5g(c:TT)(tb:TS):TS:=λD σ H=>∃W:Nat->St->Hp->Prop,(∃m,W m σ H)/\∀m σ H,W m σ H→
 c σ H λb H1=>if b=true then∃N:St->Hp->Prop,(∀bE H',N bE H'->∃m',m'<m/\W m' bE H')/\tb {D with nx:=N,ct:=N,bk:=D.nx} σ H1 else D.nx σ H1
theorem b0e(hp:PassesOwn (model X.prog X.w) X.A X.env X.xe)(hc:PT X c tc)(hb:PSs X body tb):PS X (.While c body [] pos) (b5g tc tb):=by
 intro bp s σ H D I h;obtain⟨W,⟨m0,w0⟩,dH⟩:=h;refine wpAny_While (codeAny_whileLoop (λn s'=>∃bE H',Inv X bp bE H' s'/\W n bE H') ?_ m0 ⟨σ,H,I,w0⟩);rintro n s1 ⟨σ1,H1,I1,w1⟩;refine fQ hp (thn (hc bp s1 σ1 H1 _ I1 (dH n σ1 H1 w1)) λb s2 zz=>?_);obtain⟨H2,I2,q2⟩:=zz;cases b with
 | true=>
  obtain⟨N,hN,q2⟩:=q2;rw[ay rfl];refine fQ hp (thn (hb bp s2 σ1 H2 _ I2 q2) λf s3 q3=>?_);cases f with
  |next=>
   obtain⟨σ3,H3,I3,n3⟩:=q3;obtain⟨m',hm,w3⟩:=hN σ3 H3 n3;exact⟨m',hm,σ3,H3,I3,w3⟩
  |cont=>
   obtain⟨σ3,H3,I3,n3⟩:=q3;obtain⟨m',hm,w3⟩:=hN σ3 H3 n3;exact⟨m',hm,σ3,H3,I3,w3⟩
  |brk=>exact q3
  |ret v=>exact q3
 |false=>
  rw[az bg];exact wpAny_execs_nil ⟨σ1,H2,I2,q2⟩
end
structure It where
 go:Nat->Hp->Prop
 yld:Nat->Hp->V->Hp->Prop
 stop:Nat->Hp->Prop
def a2o(X:Cx)(bp:List (Addr×Obj))(H:Hp)(b:Addr):Prop:=
 H b=none/\b≠X.env.locals/\b∉X.fs/\(b∈X.ex∨X.s₀.heap.objs.size<=b)/\(∀x c,X.env.cells.lookup x=some c->c≠b)/\∀p∈X.pn++bp,p.1≠b
variable{H':Hp}
theorem Inv.fpOk{s:Shared}(I:Inv X bp σ H s)(hb:s.heap.objs.size<=b)(hn:H' b=none):a2o X bp H' b:=by
 refine⟨hn,ft (aC I.lt hb),I.nofs hb,.inr (aO I.sz hb),λx c e z=>?_,λp hp z=>?_⟩
 · obtain⟨v,q⟩:=I.cell x c e;exact absurd (aC q.lt (by rw[z];exact hb)) (aN _)
 · exact absurd (aC (eS (I.pin p hp).1) (by rw[z];exact hb)) (aN _)
structure Turn(P:Program)(w:World)(K:Frag)(tg:Expr)(J:It)(fp:List Addr)(it:Addr)(tn:Nat->Heap->Prop):Prop where
 mem:it∈fp
 obj:∀i h,tn i h->∀b∈fp,∃o,h.get? b=some o/\∀v,o.data≠.cell v
 keep:∀i h h',tn i h->(∀b∈fp,∀o,h.get? b=some o->h'.get? b=some o)->tn i h'
 item:∀(X:Cx),X.prog=P->X.w=w->X.K=K->X.calm=true->∀(i:Nat) (bp:List (Addr×Obj)) (s:Shared) (σ:St) (H:Hp) (E:Value->Shared->Prop),Inv X bp σ H s->(∀b∈fp,a2o X bp H b)->tn i s.heap->J.go i H→
  wpAny (model P w) X.A (pyNext (.ref it)) (λr s1=>∃u,r=some u∧
   wpAny (model P w) X.A (letOwnedTupleGo tg (.ref it) u) (λ_ s2=>∃x H',Inv X bp σ H' s2/\i8 x u/\J.yld i H x H'/\tn (i+1) s2.heap/\∀b∈fp,H' b=none) E s1) E s
 done:∀(X:Cx),X.prog=P->X.w=w->X.K=K->X.calm=true->∀(i:Nat) (bp:List (Addr×Obj)) (s:Shared) (σ:St) (H:Hp) (E:Value->Shared->Prop),Inv X bp σ H s->(∀b∈fp,a2o X bp H b)->tn i s.heap->J.stop i H→
  wpAny (model P w) X.A (pyNext (.ref it)) (λr s1=>r=none/\Inv X bp σ H s1) E s
 self:∀(A:Around) (i:Nat) (s:Shared) (Q:Value->Shared->Prop) (E:Value->Shared->Prop),tn i s.heap->Q (.ref it) s->wpAny (model P w) A (pyIter (.ref it)) Q E s
abbrev TI:=St->Hp->(It->Hp->Prop)->Prop
def PIE(X:Cx)(bp:List (Addr×Obj))(σ:St)(tg:Expr)(R:It->Hp->Prop)(itv:Value)(s2:Shared):Prop:=
 ∃(it:Addr) (fp:List Addr) (tn:Nat->Heap->Prop) (J:It) (H':Hp),itv=.ref it/\Inv X bp σ H' s2/\Turn X.prog X.w X.K tg J fp it tn/\tn 0 s2.heap/\(∀b∈fp,a2o X bp H' b)/\R J H'
def PI(X:Cx)(tg iter:Expr)(wi:TI):Prop:=
 ∀(bp:List (Addr×Obj)) (s:Shared) (σ:St) (H:Hp) (R:It->Hp->Prop),Inv X bp σ H s->wi σ H R→
  wpAny (model X.prog X.w) X.A (eval iter X.env) (λv s1=>wpAny (model X.prog X.w) X.A (pyIter v) (PIE X bp σ tg R) X.xe s1) X.xe s
theorem a7Z{E:Value->Shared->Prop}{s:Shared}{o:Obj}{n:String}{vs:Array Value}{Q:Unit->Shared->Prop}(ho:s.heap.get? it=some o)(hc:o.cls=.type n)(hd:o.data=.fields vs)
   (hn:["enumerate","zip","dict_itemiterator","dict_reverseitemiterator","odict_iterator","itertools.zip_longest","itertools.pairwise"].contains n=false) (hQ:Q () s):wpAny M A (letOwnedTupleGo tg (.ref it) u) Q E s:=by
 unfold letOwnedTupleGo;cases tg <;>first
   |exact eR hQ
   |(cases u<;>first
       |exact eR hQ
       | (refine eP (wpAny_load ho ?_)
          rw[hc,hd];show wpAny M A (if(["enumerate","zip","dict_itemiterator","dict_reverseitemiterator","odict_iterator","itertools.zip_longest","itertools.pairwise"].contains n&&vs[0]? ==some (rawInt _))=true then _ else _) Q E s;rw[az (by intro h;rw[hn,fN] at h;cases h)];exact eR hQ))
noncomputable def Itl(K:Frag)(a:Addr):It:=
 ⟨λi H=>∃xs x,SqL K H a xs/\xs[i]? =some x,λi H x H'=>H'=H/\∀xs,SqL K H a xs->xs[i]? =some x,λi H=>∃xs,SqL K H a xs/\xs.length<=i⟩
noncomputable def Itt(K:Frag)(a:Addr):It:=
 ⟨λi H=>∃xs x,SqT K H a xs/\xs[i]? =some x,λi H x H'=>H'=H/\∀xs,SqT K H a xs->xs[i]? =some x,λi H=>∃xs,SqT K H a xs/\xs.length<=i⟩
def Itr(lo:Int)(n:Nat):It:=⟨λi _=>i<n,λi H x H'=>H'=H/\x=.int (lo+i),λi _=>n<=i⟩
theorem a8t(a it:Addr):Turn P w K tg (Itl K a) [it] it (λi h=>h.IsListIter it a i) where
 mem:=by simp
 obj:=λi h st b hb=>by
  have e:b=it:=by simpa using hb
  subst e;obtain⟨o,e,c,d⟩:=st;exact⟨o,e,λv z=>by rw[d] at z;cases z⟩
 keep:=λi h h' st k=>st.at λo e=>k it ⋯ o e
 item:=by intro X hP hw hK hc i bp s σ H E I hf st hg;subst hP hw hK;obtain⟨xs,x,hq,hx⟩:=hg;obtain⟨bt,rv,p,hz⟩:=I.list hq;obtain⟨u,hu,ru⟩:=rv.get hx;obtain⟨f0,f1,f2,f3,f4,f5⟩:=hf it ⋯;refine wpAny_pyNext_list_item st p.isList (x:=u) (by simpa using hu) λh' eh sb=>?_;have I1:Inv X bp σ H {s with heap:=h'}:=I.turned (t':=s.toks) (λb o hb e=>(sb.2 b hb).trans e) f0 f1 f3 f4 f5;obtain⟨o,e,c,d⟩:=id eh;exact⟨u,rfl,a7Z (s:={s with heap:=h'}) e c d (by decide) ⟨x,H,I1,ru,⟨rfl,λys hy=>by rw[I.list_inj hy hq];exact hx⟩,eh,λb hb=>(hf b hb).1⟩⟩
 done:=by intro X hP hw hK hc i bp s σ H E I hf st hg;subst hP hw hK;obtain⟨xs,hq,hx⟩:=hg;obtain⟨bt,rv,p,hz⟩:=I.list hq;obtain⟨f0,f1,f2,f3,f4,f5⟩:=hf it ⋯;have hl:=rv.length;exact wpAny_pyNext_list_end (I.ok.hd hc) st p.isList (by simp;omega) λh' eb=>⟨rfl,I.turned (t':=s.toks) (λb o hb e=>eb b o hb e) f0 f1 f3 f4 f5⟩
 self:=λ_ _ _ _ _ st h=>wpAny_pyIter_listiter st h
theorem a6G(a it:Addr):Turn P w K tg (Itt K a) [it] it (λi h=>h.IsTupleIter it a i) where
 mem:=by simp
 obj:=λi h st b hb=>by
  have e:b=it:=by simpa using hb
  subst e;obtain⟨o,e,c,d⟩:=st;exact⟨o,e,λv z=>by rw[d] at z;cases z⟩
 keep:=λi h h' st k=>st.at λo e=>k it ⋯ o e
 item:=by intro X hP hw hK hc i bp s σ H E I hf st hg;subst hP hw hK;obtain⟨xs,x,hq,hx⟩:=hg;obtain⟨bt,rv,p,hz⟩:=I.tuple hq;obtain⟨u,hu,ru⟩:=rv.get hx;obtain⟨f0,f1,f2,f3,f4,f5⟩:=hf it ⋯;refine wpAny_pyNext_tuple_item st (show s.heap.IsTuple a bt.toArray from p) (x:=u) (by simpa using hu) λh' eh sb=>?_;have I1:Inv X bp σ H {s with heap:=h'}:=I.turned (t':=s.toks) (λb o hb e=>(sb.2 b hb).trans e) f0 f1 f3 f4 f5;obtain⟨o,e,c,d⟩:=id eh;exact⟨u,rfl,a7Z (s:={s with heap:=h'}) e c d (by decide) ⟨x,H,I1,ru,⟨rfl,λys hy=>by rw[I.tuple_inj hy hq];exact hx⟩,eh,λb hb=>(hf b hb).1⟩⟩
 done:=by intro X hP hw hK hc i bp s σ H E I hf st hg;subst hP hw hK;obtain⟨xs,hq,hx⟩:=hg;obtain⟨bt,rv,p,hz⟩:=I.tuple hq;obtain⟨f0,f1,f2,f3,f4,f5⟩:=hf it ⋯;have hl:=rv.length;exact wpAny_pyNext_tuple_end (I.ok.hd hc) st (show s.heap.IsTuple a bt.toArray from p) (by simp;omega) λh' eb=>⟨rfl,I.turned (t':=s.toks) (λb o hb e=>eb b o hb e) f0 f1 f3 f4 f5⟩
 self:=λ_ _ _ _ _ st h=>wpAny_pyIter_tupleiter st h
theorem a6H(it:Addr)(lo:Int)(n:Nat):Turn P w K tg (Itr lo n) [it] it (λi h=>IsRangeIter h it (lo+(i:Nat)*1) ((n:Int)-(i:Nat)) 1) where
 mem:=by simp
 obj:=λi h st b hb=>by
  have e:b=it:=by simpa using hb
  subst e;exact⟨_,st,λv z=>by have z':Data.fields _=Data.cell v:=z;cases z'⟩
 keep:=λi h h' st k=>k it ⋯ _ st
 item:=by intro X hP hw hK hc i bp s σ H E I hf st hg;subst hP hw hK;obtain⟨f0,f1,f2,f3,f4,f5⟩:=hf it ⋯;have W:=Walks.range (prog:=X.prog) (w:=X.w) (I.ok.hd hc) it lo 1 n;refine W.item i s _ _ hg st λv h' tk hv eh kk=>?_;obtain⟨t,rfl⟩:=hv;have I1:Inv X bp σ H {s with heap:=h',toks:=tk}:=I.turned (λb o hb e=>kk b o (by simpa using hb) e) f0 f1 f3 f4 f5;refine⟨_,rfl,a7Z (s:={s with heap:=h',toks:=tk}) (n:="range_iterator") eh rfl rfl (by decide) ⟨.int (lo+i),H,I1,⟨t,?_⟩,⟨rfl,rfl⟩,eh,λb hb=>(hf b hb).1⟩⟩;rw[Int.mul_one]
 done:=by intro X hP hw hK hc i bp s σ H E I hf st hg;subst hP hw hK;obtain⟨f0,f1,f2,f3,f4,f5⟩:=hf it ⋯;exact wpAny_pyNext_range_end (I.ok.hd hc) st (by have:n<=i:=hg;omega) λh' eb=>⟨rfl,I.turned (t':=s.toks) (λb o hb e=>eb b o hb e) f0 f1 f3 f4 f5⟩
 self:=λ_ _ _ _ _ st h=>wpAny_pyIter_rangeiter st h
variable{lo:Int}{p:Pos}{fp:List Addr}{iter:Expr}
section
def b9b(K:Frag)(tl:TE):TI:=λσ H R=>tl σ H λx H1=>∃a,x=.ref a/\(∃xs,SqL K H1 a xs)/\R (Itl K a) H1
def c1k(K:Frag)(tl:TE):TI:=λσ H R=>tl σ H λx H1=>∃a,x=.ref a/\(∃xs,SqT K H1 a xs)/\R (Itt K a) H1
theorem b2Z{l:Expr}{tl:TE}(hl:PE X l tl):PI X tg l (b9b X.K tl):=by
 intro bp s σ H R I h;refine thn (hl bp s σ H _ I h) λv s1 zz=>?_;obtain⟨x,H1,I1,r1,q1⟩:=zz;obtain⟨a,e,⟨xs,hq⟩,q⟩:=q1;subst e;cases r1;obtain⟨bt,rv,p,hz⟩:=I1.list hq;refine wpAny_pyIter_list p.isList ?_;refine⟨s1.heap.objs.size,[s1.heap.objs.size],_,_,H1,rfl,I1.kept (t':=s1.toks) λb o e=>eQ _ e,a8t a _,⟨_,eU _ rfl,rfl,rfl⟩,λb hb=>?_,q⟩;have e:b=s1.heap.objs.size:=by simpa using hb
 subst e;exact I1.fpOk (aj _) (I1.hok.fresh (aj _))
theorem b5I{l:Expr}{tl:TE}(hl:PE X l tl):PI X tg l (c1k X.K tl):=by
 intro bp s σ H R I h;refine thn (hl bp s σ H _ I h) λv s1 zz=>?_;obtain⟨x,H1,I1,r1,q1⟩:=zz;obtain⟨a,e,⟨xs,hq⟩,q⟩:=q1;subst e;cases r1;obtain⟨bt,rv,p,hz⟩:=I1.tuple hq;refine wpAny_pyIter_tuple (show s1.heap.IsTuple a bt.toArray from p) ?_;refine⟨s1.heap.objs.size,[s1.heap.objs.size],_,_,H1,rfl,I1.kept (t':=s1.toks) λb o e=>eQ _ e,a6G a _,⟨_,eU _ rfl,rfl,rfl⟩,λb hb=>?_,q⟩;have e:b=s1.heap.objs.size:=by simpa using hb
 subst e;exact I1.fpOk (aj _) (I1.hok.fresh (aj _))
theorem a9W{s:Shared}{R:It->Hp->Prop}{E:Value->Shared->Prop}{hi:Int}{t u v:Tok}{tk:Nat}(I:Inv X bp σ H s)(h1: -(2^62)<=lo)(h2:lo<2^62)(h3: -(2^62)<=hi)(h4:hi<2^62)
 (q:R (Itr lo (hi-lo).toNat) H):wpAny (model X.prog X.w) X.A (pyIter (.ref s.heap.objs.size)) (PIE X bp σ tg R) E {s with heap:=s.heap.push {cls:=.type "range",data:=.fields #[.int lo t,.int hi u,.int 1 v]},toks:=tk}:=by
 refine wpAny_pyIter_range (IsRange.new ..) (small_one h1 h2 h3 h4) ?_;have I1:Inv X bp σ H {s with heap:=s.heap.push {cls:=.type "range",data:=.fields #[.int lo t,.int hi u,.int 1 v]},toks:=tk}:=I.kept λb o e=>eQ _ e;refine⟨(s.heap.push {cls:=.type "range",data:=.fields #[.int lo t,.int hi u,.int 1 v]}).objs.size,[(s.heap.push {cls:=.type "range",data:=.fields #[.int lo t,.int hi u,.int 1 v]}).objs.size],_,_,H,rfl,
  I1.kept (t':=tk) λb o e=>eQ _ e,a6H _ lo (hi-lo).toNat,?_,λb hb=>?_,q⟩
 · have e1:lo+((0:Nat):Int)*1=lo:=by simp
   have e2:(((hi-lo).toNat:Nat):Int)-((0:Nat):Int)=Builtin.Range.rangeSize lo hi 1:=by rw[rangeSize_one];split<;>omega
   show IsRangeIter _ _ (lo+((0:Nat):Int)*1) ((((hi-lo).toNat:Nat):Int)-((0:Nat):Int)) 1;rw[e1,e2];exact eU _ rfl
 · have e:b=(s.heap.push {cls:=.type "range",data:=.fields #[.int lo t,.int hi u,.int 1 v]}).objs.size:=by simpa using hb
   subst e;exact I1.fpOk (aj _) (I1.hok.fresh (aj _))
noncomputable def b9a(ta:TA):TI:=λσ H R=>ta σ H λvs H1=>∃j:Int,vs=[.int j]/\ -(2^62)<=j/\j<2^62/\R (Itr 0 j.toNat) H1
theorem a8I{a:Expr}(hg:Gl X "range")(hm:X.mg "range"=none)(ha:PA X [a] ta)(hs:starEach [a] X.env=[(false,eval a X.env)]:=by rfl):PI X tg (.Call (.Name "range" p) [a] [] pos) (b9a ta):=by
 intro bp s σ H R I h;refine Call_ (a0E I hg hm boot_range (fD (thn (ha pos bp s σ H _ I h) λus s1 zz=>?_) hs rfl));obtain⟨vs,H1,I1,r1,q1⟩:=zz;obtain⟨j,e,q1,q2,q⟩:=q1;subst e;cases r1 with
 |cons r rr=>
  cases rr;obtain⟨t,rfl⟩:=r;exact call_range_1 (a9W I1 (by omega) (by omega) q1 q2 (by simpa using q))
noncomputable def c0R(wi:TI)(g:TG)(tb:TS):TS:=λD σ H=>wi σ H λJ H1=>∃W:Nat->Nat->St->Hp->Prop,(∃m,W 0 m σ H1)/\∀i m σ H,W i m σ H→
 (J.stop i H/\D.nx σ H)∨(J.go i H/\∃N:St->Hp->Prop,(∀bE H',N bE H'->∃m',m'<m/\W (i+1) m' bE H')/\∀x H',J.yld i H x H'->g x σ H' λσ2 H2=>tb {D with nx:=N,ct:=N,bk:=D.nx} σ2 H2)
def a2T(fp:List Addr)(h:Heap):List (Addr×Obj):=fp.filterMap λb=>(h.get? b).map λo=>(b,o)
theorem U7{o:Obj}(hb:b∈fp)(e:h.get? b=some o):(b,o)∈a2T fp h:=List.mem_filterMap.mpr ⟨b,hb,by rw[e];rfl⟩
theorem a8L{p:Addr×Obj}(hp:p∈a2T fp h):p.1∈fp/\h.get? p.1=some p.2:=by
 obtain⟨b,hb,e⟩:=List.mem_filterMap.mp hp;cases q:h.get? b with
 |none=>rw[q] at e;cases e
 |some o=>
  rw[q] at e;have e':(b,o)=p:=ax e;subst e';exact⟨hb,q⟩
theorem Inv.pinned{s:Shared}(I:Inv X bp σ H s)(hf:∀b∈fp,a2o X bp H b)(ho:∀b∈fp,∃o,s.heap.get? b=some o/\∀v,o.data≠.cell v):Inv X (bp++a2T fp s.heap) σ H s:=
 I.pins_of λp hp=>(aI.mp hp).elim (λz=>I.pin p (mem_append_right _ z)) λz=>by obtain⟨hb,e⟩:=a8L z;obtain⟨f0,f1,f2,_⟩:=hf p.1 hb;obtain⟨o,e',d⟩:=ho p.1 hb;rw[e] at e';cases e';exact⟨e,f0,f1,f2,d⟩
theorem Inv.unpinned{pl:List (Addr×Obj)}{s:Shared}(I:Inv X (bp++pl) σ H s):Inv X bp σ H s:=I.pins_of λp hp=>I.pin p (mem_append_right _ (mem_append_left _ hp))
theorem b5C{wi:TI}{g:TG}(hp:PassesOwn (model X.prog X.w) X.A X.env X.xe)(hc:X.calm=true)(hi:PI X tg iter wi)(hg:PG X tg g)(hb:PSs X body tb)
 (hs:∀x,foldedSetIterable iter X.env x=pure x:=by intro _;rfl):PS X (.For tg iter body [] pos) (c0R wi g tb):=by
 intro bp s σ H D I h;refine wpAny_For (thn (hi bp s σ H _ I h) λv s1 h1=>thn h1 λitv s2 h2=>?_) hs;obtain⟨it,fp,tn,J,H2,e,I2,T,st2,f2,W,⟨m0,w0⟩,dH⟩:=h2;subst e
 -- what stays true of the iterator's objects through the loop
 have stat:∀{H':Hp},(∀b∈fp,H' b=none)->∀b∈fp,a2o X bp H' b:=λhn b hb=>⟨hn b hb,(f2 b hb).2⟩;refine codeAny_forLoop_any (λn s'=>∃i bE H',Inv X bp bE H' s'/\tn i s'.heap/\(∀b∈fp,H' b=none)/\W i n bE H') ?_ m0 ⟨0,σ,H2,I2,st2,λb hb=>(f2 b hb).1,w0⟩;rintro n s3 ⟨i,σ3,H3,I3,st3,fr3,w3⟩;rcases dH i n σ3 H3 w3 with⟨stop,qn⟩|⟨go,N,hN,step⟩
 · refine fQ hp (thn (T.done X rfl rfl rfl hc i bp s3 σ3 H3 X.xe I3 (stat fr3) st3 stop) λr s4 zz=>?_);obtain⟨hr,I4⟩:=zz;subst hr;exact wpAny_execs_nil ⟨σ3,H3,I4,qn⟩
 · refine fQ hp (thn (T.item X rfl rfl rfl hc i bp s3 σ3 H3 X.xe I3 (stat fr3) st3 go) λr s4 zz=>?_);obtain⟨u,hr,h4⟩:=zz;subst hr;refine fQ hp (thn h4 λ_ s5 zz=>?_);obtain⟨x,H5,I5,r5,y5,st5,fr5⟩:=zz;have I5':=I5.pinned (stat fr5) (T.obj _ _ st5);refine fQ hp (thn (hg _ s5 σ3 H5 x u _ I5' r5 (step x H5 y5)) λ_ s6 zz=>?_);obtain⟨σ6,H6,I6,q6⟩:=zz;refine fQ hp (thn (hb _ s6 σ6 H6 _ I6 q6) λf s7 q7=>?_);have again:∀{dD:St} {H7:Hp},Inv X (bp++a2T fp s5.heap) dD H7 s7->N dD H7->∃m,m<n/\∃i bE H',Inv X bp bE H' s7/\tn i s7.heap/\(∀b∈fp,H' b=none)/\W i m bE H':=fun{dD H7} I7 n7=>by obtain⟨m',hm,w7⟩:=hN dD H7 n7;refine⟨m',hm,i+1,dD,H7,I7.unpinned,T.keep _ _ _ st5 λb hb o e=>(I7.pin (b,o) (mem_append_right _ (mem_append_right _ (U7 hb e)))).1,λb hb=>?_,w7⟩;obtain⟨o,e,d⟩:=T.obj _ _ st5 b hb;exact(I7.pin (b,o) (mem_append_right _ (mem_append_right _ (U7 hb e)))).2.1
   cases f with
   |next=>obtain⟨dD,H7,I7,n7⟩:=q7;exact again I7 n7
   |cont=>obtain⟨dD,H7,I7,n7⟩:=q7;exact again I7 n7
   |brk=>obtain⟨dD,H7,I7,q7⟩:=q7;exact⟨dD,H7,I7.unpinned,q7⟩
   |ret v=>obtain⟨x7,dD,H7,I7,r7,q7⟩:=q7;exact⟨x7,dD,H7,I7.unpinned,r7,q7⟩
end
abbrev R2:=V->V->Hp->VK->Prop
def OpR(X:Cx)(f:Value->Value->Sem Value)(r:R2):Prop:=
 ∀(bp:List (Addr×Obj)) (s:Shared) (σ:St) (H:Hp) (x y:V) (v u:Value) (Q:VK),Inv X bp σ H s->i8 x v->i8 y u->r x y H Q→
  wpAny (model X.prog X.w) X.A (f v u) (EP X bp σ Q) X.xe s
def UnR(X:Cx)(f:Value->Sem Value)(r:V->Hp->VK->Prop):Prop:=
 ∀(bp:List (Addr×Obj)) (s:Shared) (σ:St) (H:Hp) (x:V) (v:Value) (Q:VK),Inv X bp σ H s->i8 x v->r x H Q→
  wpAny (model X.prog X.w) X.A (f v) (EP X bp σ Q) X.xe s
def E4(X:Cx)(f:Value)(r:List V->Hp->VK->Prop):Prop:=
 ∀(bp:List (Addr×Obj)) (s:Shared) (σ:St) (H:Hp) (xs:List V) (us:List Value) (Q:VK),Inv X bp σ H s->k8 xs us->r xs H Q→
  wpAny (model X.prog X.w) X.A (call f us) (EP X bp σ Q) X.xe s
def c1I(X:Cx)(r:V->Hp->(Bool->Hp->Prop)->Prop):Prop:=
 ∀(bp:List (Addr×Obj)) (s:Shared) (σ:St) (H:Hp) (x:V) (v:Value) (Q:Bool->Hp->Prop),Inv X bp σ H s->i8 x v->r x H Q→
  wpAny (model X.prog X.w) X.A (truthy v) (TP X bp σ Q) X.xe s
def tOp(r:R2)(ta tb:TE):TE:=λσ H Q=>ta σ H λx H1=>tb σ H1 λy H2=>r x y H2 Q
def tUn(r:V->Hp->VK->Prop)(ta:TE):TE:=λσ H Q=>ta σ H λx H1=>r x H1 Q
def rI(C:Int->Int->Prop)(g:Int->Int->V):R2:=λx y H Q=>∃i j,x=.int i/\y=.int j/\C i j/\Q (g i j) H
def rI0(g:Int->Int->V):R2:=λx y H Q=>∃i j,x=.int i/\y=.int j/\Q (g i j) H
def rU(g:Int->V):V->Hp->VK->Prop:=λx H Q=>∃i,x=.int i/\Q (g i) H
variable{f:Value->Value->Sem Value}
section
variable{a b:Expr}{ta tb tc:TE}
theorem b7u(ha:PE X a ta)(hb:PE X b tb){s:Shared}{R:V->V->Hp->Prop}(I:Inv X bp σ H s)
 (h:ta σ H λx H1=>tb σ H1 λy H2=>R x y H2)
 (hf:∀v u s2 x y H2,Inv X bp σ H2 s2->i8 x v->i8 y u->R x y H2->wpAny (model X.prog X.w) X.A (f v u) Q X.xe s2):
 wpAny (model X.prog X.w) X.A (eval a X.env) (λv bB=>wpAny (model X.prog X.w) X.A (eval b X.env) (λu cN=>wpAny (model X.prog X.w) X.A (f v u) Q X.xe cN) X.xe bB) X.xe s:=by
 refine thn (ha bp s σ H _ I h) λv s1 zz=>?_;obtain⟨x,H1,I1,r1,q1⟩:=zz;refine thn (hb bp s1 σ H1 _ I1 q1) λu s2 zz=>?_;obtain⟨y,H2,I2,r2,q2⟩:=zz;exact hf v u s2 x y H2 I2 r1 r2 q2
theorem b8I{op:Operator}{r:R2}(ho:OpR X (binaryOp op) r)(ha:PE X a ta)(hb:PE X b tb):PE X (.BinOp a op b pos) (tOp r ta tb):=by intro bp s σ H Q I h;exact wpAny_BinOp (b7u ha hb I h λv u s2 x y H2 I2 rx ry q=>ho bp s2 σ H2 x y v u Q I2 rx ry q)
theorem b8G{op:UnaryOp}{r:V->Hp->VK->Prop}(ho:UnR X (unaryOp op) r)(ha:PE X a ta):PE X (.UnaryOp op a pos) (tUn r ta):=by intro bp s σ H Q I h;exact UnaryOp_ (thn (ha bp s σ H _ I h) λv s1 ⟨x,H1,I1,r1,q1⟩=>ho bp s1 σ H1 x v Q I1 r1 q1)
theorem opI{C:Int->Int->Prop}{g:Int->Int->Int}
 (rule:∀(i j:Int) (t u:Tok) (s:Shared) (Q:Value->Shared->Prop) (E:Value->Shared->Prop),C i j->Q (.int (g i j) s.toks) {s with toks:=s.toks+1}->wpAny (model X.prog X.w) X.A (f (.int i t) (.int j u)) Q E s):
 OpR X f (rI C λi j=>.int (g i j)):=by
 intro bp s σ H x y v u Q I rx ry h;obtain⟨i,j,rfl,rfl,hc,q⟩:=h;obtain⟨t,rfl⟩:=rx;obtain⟨t',rfl⟩:=ry;exact rule i j t t' s _ _ hc ⟨.int (g i j),H,I.tok _,⟨_,rfl⟩,q⟩
theorem b8R{g:Int->Int->Int}
 (rule:∀(i j:Int) (t u:Tok) (s:Shared) (Q:Value->Shared->Prop) (E:Value->Shared->Prop),Q (.int (g i j) s.toks) {s with toks:=s.toks+1}->wpAny (model X.prog X.w) X.A (f (.int i t) (.int j u)) Q E s):
 OpR X f (rI0 λi j=>.int (g i j)):=by
 intro bp s σ H x y v u Q I rx ry h;obtain⟨i,j,rfl,rfl,q⟩:=h;obtain⟨t,rfl⟩:=rx;obtain⟨t',rfl⟩:=ry;exact rule i j t t' s _ _ ⟨.int (g i j),H,I.tok _,⟨_,rfl⟩,q⟩
theorem b3o{g:Int->Int->Bool}
 (rule:∀(i j:Int) (t u:Tok) (s:Shared) (Q:Value->Shared->Prop) (E:Value->Shared->Prop),Q (.bool (g i j)) s->wpAny (model X.prog X.w) X.A (f (.int i t) (.int j u)) Q E s):
 OpR X f (rI0 λi j=>.bl (g i j)):=by
 intro bp s σ H x y v u Q I rx ry h;obtain⟨i,j,rfl,rfl,q⟩:=h;obtain⟨t,rfl⟩:=rx;obtain⟨t',rfl⟩:=ry;exact rule i j t t' s _ _ ⟨.bl (g i j),H,I,rfl,q⟩
def c1O(i j:Int):Prop:=0<j/\j<1073741824
def c1N(i j:Int):Prop:=0<=j/\j<=1000000/\i.natAbs<2^64
def b7R(i j:Int):Prop:=(-(2^64)<i/\i<2^64)∨(-(2^64)<j/\j<2^64)
theorem b7R.ok{i j:Int}(h:b7R i j):IntMulOk i j:=by
 rcases h with⟨h1,h2⟩|⟨h1,h2⟩
 · exact .of_left (intBits_le_64 h1 h2)
 · exact .of_right (intBits_le_64 h1 h2)
theorem b6e:OpR X (binaryOp .Add) (rI0 λi j=>.int (i+j)):=b8R λ_ _ _ _ _ _ _ q=>add_int q
theorem b5V:OpR X (binaryOp .Sub) (rI0 λi j=>.int (i-j)):=b8R λ_ _ _ _ _ _ _ q=>sub_int q
theorem b5Z:OpR X (binaryOp .Mult) (rI b7R λi j=>.int (i*j)):=opI λ_ _ _ _ _ _ _ hc q=>mul_int q hc.ok
theorem b3m:OpR X (binaryOp .FloorDiv) (rI c1O λi j=>.int (i/j)):=opI λi j _ _ _ _ _ hc q=>by have h1:(0:Int)<j:=hc.1;have h2:j<1073741824:=hc.2;exact floordiv_int (by omega) (by rw[Int.fdiv_eq_ediv_of_nonneg i (by omega)];exact q) (.inl (PyProof.noPylong_small (by omega)))
theorem b6a:OpR X (binaryOp .Mod) (rI (λ_ j=>0<j) λi j=>.int (i%j)):=opI λi j _ _ _ _ _ hc q=>by have h1:(0:Int)<j:=hc;exact mod_int' (by omega) (by rw[Int.fmod_eq_emod_of_nonneg i (by omega)];exact q)
theorem b5W:OpR X (binaryOp .Pow) (rI c1N λi j=>.int (i^j.toNat)):=opI λ_ _ _ _ _ _ _ hc q=>pow_int_small hc.1 hc.2.1 hc.2.2 q
theorem unI{f:Value->Sem Value}{g:Int->Int}
 (rule:∀(i:Int) (t:Tok) (s:Shared) (Q:Value->Shared->Prop) (E:Value->Shared->Prop),Q (.int (g i) s.toks) {s with toks:=s.toks+1}->wpAny (model X.prog X.w) X.A (f (.int i t)) Q E s):
 UnR X f (rU λi=>.int (g i)):=by
 intro bp s σ H x v Q I rx h;obtain⟨i,rfl,q⟩:=h;obtain⟨t,rfl⟩:=rx;exact rule i t s _ _ ⟨.int (g i),H,I.tok _,⟨_,rfl⟩,q⟩
theorem b4X:UnR X (unaryOp .USub) (rU λi=>.int (-i)):=unI λ_ _ _ _ _ q=>neg_int q
end
noncomputable def scal:V->V->Bool
 |.non,.non=>true|.non,.int _=>true|.int _,.non=>true|.non,.bl _=>true|.bl _,.non=>true|.non,.str _=>true|.str _,.non=>true
 |.int _,.int _=>true|.bl _,.bl _=>true|.str _,.str _=>true|.byt _,.byt _=>true
 |.int _,.str _=>true|.str _,.int _=>true|.bl _,.str _=>true|.str _,.bl _=>true
 |_,_=>false
def rEq:R2:=λx y H Q=>scal x y=true/\Q (.bl (decide (x=y))) H
def rNe:R2:=λx y H Q=>scal x y=true/\Q (.bl (!decide (x=y))) H
theorem a8h{i j:Int}:decide (V.int i=V.int j)=(i==j):=by rw[fR];simp
theorem b1M{i j:Bool}:decide (V.bl i=V.bl j)=(i==j):=by rw[fR];simp
theorem a8g{i j:Str}:decide (V.str i=V.str j)=(i==j):=by rw[fR];simp
theorem a8i{i j:Array UInt8}:decide (V.byt i=V.byt j)=(i.toList==j.toList):=by rw[fR];cases i;cases j;simp
variable{op':CmpOp}{bt:List Value}
section
variable{a b:Expr}{ta tb tc:TE}
theorem n8{s:Shared}{Q:VK}{k k':Bool}(I:Inv X bp σ H s)(q:Q (.bl k) H)(e:k=k'):EP X bp σ Q (.bool k') s:=by subst e;exact⟨.bl k,H,I,rfl,q⟩
theorem b8Q:OpR X (compareOp .Eq) rEq:=by
 intro bp s σ H x y v u Q I rx ry h;obtain⟨hs,q⟩:=h;cases x with
 |non=>
  cases rx;cases y with
  |non=>cases ry;exact PySem.EqNone.eq_none_none (n8 I q ⋯)
  |bl j=>cases ry;exact PySem.EqNone.eq_none_bool (n8 I q ⋯)
  |int j=>obtain⟨t',rfl⟩:=ry;exact PySem.EqNone.eq_none_int (n8 I q ⋯)
  |str j=>obtain⟨t',rfl⟩:=ry;exact PySem.EqNone.eq_none_str (n8 I q ⋯)
  |_=>exact absurd (show false=true from hs) bg
 |bl i=>
  cases rx;cases y with
  |non=>cases ry;exact PySem.EqNone.eq_bool_none (n8 I q ⋯)
  |bl j=>cases ry;exact eq_bool (n8 I q b1M)
  |str j=>obtain⟨t',rfl⟩:=ry;exact PySem.EqMixed.eq_bool_str (n8 I q ⋯)
  |_=>exact absurd (show false=true from hs) bg
 |int i=>
  obtain⟨t,rfl⟩:=rx;cases y with
  |non=>cases ry;exact PySem.EqNone.eq_int_none (n8 I q ⋯)
  |int j=>obtain⟨t',rfl⟩:=ry;exact eq_int (n8 I q a8h)
  |str j=>obtain⟨t',rfl⟩:=ry;exact PySem.EqMixed.eq_int_str (n8 I q ⋯)
  |_=>exact absurd (show false=true from hs) bg
 |str i=>
  obtain⟨t,rfl⟩:=rx;cases y with
  |non=>cases ry;exact PySem.EqNone.eq_str_none (n8 I q ⋯)
  |bl j=>cases ry;exact PySem.EqMixed.eq_str_bool (n8 I q ⋯)
  |int j=>obtain⟨t',rfl⟩:=ry;exact PySem.EqMixed.eq_str_int (n8 I q ⋯)
  |str j=>obtain⟨t',rfl⟩:=ry;exact eq_str (n8 I q a8g)
  |_=>exact absurd (show false=true from hs) bg
 |byt i=>
  obtain⟨t,rfl⟩:=rx;cases y with
  |byt j=>obtain⟨t',rfl⟩:=ry;exact PySem.W.eq_bytes (n8 I q a8i)
  |_=>exact absurd (show false=true from hs) bg
 |_=>cases y<;>exact absurd (show false=true from hs) bg
theorem b8L:OpR X (compareOp .NotEq) rNe:=by
 intro bp s σ H x y v u Q I rx ry h;obtain⟨hs,q⟩:=h;cases x with
 |non=>
  cases rx;cases y with
  |non=>cases ry;exact PySem.EqNone.ne_none_none (n8 I q ⋯)
  |bl j=>cases ry;exact PySem.EqNone.ne_none_bool (n8 I q ⋯)
  |int j=>obtain⟨t',rfl⟩:=ry;exact PySem.EqNone.ne_none_int (n8 I q ⋯)
  |str j=>obtain⟨t',rfl⟩:=ry;exact PySem.EqNone.ne_none_str (n8 I q ⋯)
  |_=>exact absurd (show false=true from hs) bg
 |bl i=>
  cases rx;cases y with
  |non=>cases ry;exact PySem.EqNone.ne_bool_none (n8 I q ⋯)
  |bl j=>cases ry;exact ne_bool (n8 I q (fh not b1M))
  |str j=>obtain⟨t',rfl⟩:=ry;exact PySem.EqMixed.ne_bool_str (n8 I q ⋯)
  |_=>exact absurd (show false=true from hs) bg
 |int i=>
  obtain⟨t,rfl⟩:=rx;cases y with
  |non=>cases ry;exact PySem.EqNone.ne_int_none (n8 I q ⋯)
  |int j=>obtain⟨t',rfl⟩:=ry;exact ne_int (n8 I q (fh not a8h))
  |str j=>obtain⟨t',rfl⟩:=ry;exact PySem.EqMixed.ne_int_str (n8 I q ⋯)
  |_=>exact absurd (show false=true from hs) bg
 |str i=>
  obtain⟨t,rfl⟩:=rx;cases y with
  |non=>cases ry;exact PySem.EqNone.ne_str_none (n8 I q ⋯)
  |bl j=>cases ry;exact PySem.EqMixed.ne_str_bool (n8 I q ⋯)
  |int j=>obtain⟨t',rfl⟩:=ry;exact PySem.EqMixed.ne_str_int (n8 I q ⋯)
  |str j=>obtain⟨t',rfl⟩:=ry;exact ne_str (n8 I q (fh not a8g))
  |_=>exact absurd (show false=true from hs) bg
 |byt i=>
  obtain⟨t,rfl⟩:=rx;cases y with
  |byt j=>obtain⟨t',rfl⟩:=ry;exact PySem.W.ne_bytes (n8 I q (fh not a8i))
  |_=>exact absurd (show false=true from hs) bg
 |_=>cases y<;>exact absurd (show false=true from hs) bg
theorem b8M:OpR X (compareOp .Lt) (rI0 λi j=>.bl (decide (i<j))):=b3o λ_ _ _ _ _ _ _ q=>lt_int q
theorem b8N:OpR X (compareOp .LtE) (rI0 λi j=>.bl (decide (i<=j))):=b3o λ_ _ _ _ _ _ _ q=>le_int q
theorem b8O:OpR X (compareOp .Gt) (rI0 λi j=>.bl (decide (j<i))):=b3o λ_ _ _ _ _ _ _ q=>gt_int q
theorem b8P:OpR X (compareOp .GtE) (rI0 λi j=>.bl (decide (j<=i))):=b3o λ_ _ _ _ _ _ _ q=>ge_int q
theorem a8K:OpR X (compareOp .In) (λx y H Q=>∃i j,x=.str i/\y=.str j/\Q (.bl (!(occurrences j i 0 j.length 1).isEmpty)) H):=by intro bp s σ H x y v u Q I rx ry h;obtain⟨i,j,rfl,rfl,q⟩:=h;obtain⟨t,rfl⟩:=rx;obtain⟨t',rfl⟩:=ry;exact in_str (n8 I q rfl)
theorem OpR.or{r r':R2}(h:OpR X f r)(h':OpR X f r'):OpR X f (λx y H Q=>r x y H Q∨r' x y H Q):=by
 intro bp s σ H x y v u Q I rx ry q;rcases q with q|q
 · exact h bp s σ H x y v u Q I rx ry q
 · exact h' bp s σ H x y v u Q I rx ry q
theorem a4J{r:R2}(ho:OpR X (compareOp op) r)(ha:PE X a ta)(hb:PE X b tb)(hm:behindInMarks op b=false):PE X (.Compare a [op] [b] pos) (tOp r ta tb):=by intro bp s σ H Q I h;exact wpAny_Compare1 (b7u ha hb I h λv u s2 x y H2 I2 rx ry q=>ho bp s2 σ H2 x y v u Q I2 rx ry q) hm
def a9B(t:TE):TT:=λσ H Q=>t σ H λx H'=>∃k,x=.bl k/\Q k H'
theorem a4I{r:R2}(ho:OpR X (compareOp op) r)(ha:PE X a ta)(hb:PE X b tb)(hm:behindInMarks op b=false):PT X (.Compare a [op] [b] pos) (a9B (tOp r ta tb)):=by
 intro bp s σ H Q I h;refine wpAny_isTrue_Compare1 (thn (ha bp s σ H _ I h) λv s1 ⟨x,H1,I1,r1,q1⟩=>thn (hb bp s1 σ H1 _ I1 q1) λu s2 ⟨y,H2,I2,r2,q2⟩=>
  thn (ho bp s2 σ H2 x y v u _ I2 r1 r2 q2) λc s3 ⟨z,H3,I3,r3,k,e,q3⟩=>?_) hm
 subst e;cases r3;exact fu ⟨H3,I3,q3⟩
noncomputable def a6L(r r':R2)(ta tb tc:TE):TE:=λσ H Q=>ta σ H λx H1=>tb σ H1 λy H2=>r x y H2 λz H3=>∃k,z=.bl k∧
 (if k=true then tc σ H3 λw' H4=>r' y w' H4 Q else Q (.bl false) H3)
theorem b0v{r r':R2}(ho:OpR X (compareOp op) r)(dl:OpR X (compareOp op') r')(ha:PE X a ta)(hb:PE X b tb)(hc:PE X c tc)
 (hm:lastMarks [op,op'] [b,c]=false:=by with_unfolding_all rfl):PE X (.Compare a [op,op'] [b,c] pos) (a6L r r' ta tb tc):=by
 intro bp s σ H Q I h;refine Compare_chain (thn (ha bp s σ H _ I h) λv s1 ⟨x,H1,I1,r1,q1⟩=>chain_link (thn (hb bp s1 σ H1 _ I1 q1) λu s2 ⟨y,H2,I2,r2,q2⟩=>
  thn (ho bp s2 σ H2 x y v u _ I2 r1 r2 q2) λd s3 ⟨z,H3,I3,r3,k,e,q3⟩=>?_)) hm
 subst e;cases r3;refine fu ?_;cases k with
 |false=>exact ite_ff ⟨.bl false,H3,I3,rfl,q3⟩
 |true=>exact ite_tt (chain_last (thn (hc bp s3 σ H3 _ I3 q3) λw' s4 ⟨z',H4,I4,r4,q4⟩=>dl bp s4 σ H4 y z' u w' Q I4 r2 r4 q4))
theorem b0b{r r':R2}(ho:OpR X (compareOp op) r)(dl:OpR X (compareOp op') r')(ha:PE X a ta)(hb:PE X b tb)(hc:PE X c tc)
 (hm:lastMarks [op,op'] [b,c]=false:=by with_unfolding_all rfl):PT X (.Compare a [op,op'] [b,c] pos) (a9B (a6L r r' ta tb tc)):=by
 intro bp s σ H Q I h;refine isTrue_chain (thn (ha bp s σ H _ I h) λv s1 ⟨x,H1,I1,r1,q1⟩=>test_link (thn (hb bp s1 σ H1 _ I1 q1) λu s2 ⟨y,H2,I2,r2,q2⟩=>
  thn (ho bp s2 σ H2 x y v u _ I2 r1 r2 q2) λd s3 ⟨z,H3,I3,r3,k,e,q3⟩=>?_)) hm
 subst e;cases r3;refine fu ?_;cases k with
 |false=>
  obtain⟨k',e',q'⟩:=q3;cases e';exact ite_ff ⟨H3,I3,q'⟩
 |true=>
  refine ite_tt (test_last (thn (hc bp s3 σ H3 _ I3 q3) λw' s4 ⟨z',H4,I4,r4,q4⟩=>thn (dl bp s4 σ H4 y z' u w' _ I4 r2 r4 q4) λd' s5 zz=>?_));obtain⟨z2,H5,I5,r5,k2,e2,q5⟩:=zz;subst e2;cases r5;exact fu ⟨H5,I5,q5⟩
def c0G(K:Frag)(x:V)(H:Hp)(k:Bool):Prop:=
 match x with
 |.non=>k=false
 |.bl b=>k=b
 |.int i=>k=(i !=0)
 |.str y=>y.length<=sizeLine/\k=((y.length:Int) !=0)
 |.byt y=>y.size<=sizeLine/\k=((y.size:Int) !=0)
 |.ref p=>(∃xs,SqL K H p xs/\k=!xs.isEmpty)∨(∃xs,SqT K H p xs/\k=!xs.isEmpty)∨∃bq,H p=some (.dK bq)/\k=!bq.isEmpty
 |_=>False
theorem a7e{κ:Type}{bq:List (κ×V)}{vs:List (κ×Value)}(r:KV bq vs):(!vs.isEmpty)=!bq.isEmpty:=by cases r<;>rfl
theorem a3l{xs:List V}(r:k8 xs bt):(!bt.toArray.isEmpty)=!xs.isEmpty:=by cases r<;>simp
theorem a0D:(sizeLine:Nat)<2^63:=by rw[fV];decide
theorem b5c:c1I X (λx H Q=>∃k,c0G X.K x H k/\Q k H):=by
 intro bp s σ H x v Q I rx h;obtain⟨k,e,q⟩:=h;have hl:=a0D;have hs:sizeLine=16777216:=fV;cases x with
 |non=>
  cases rx;have e':k=false:=e;subst e';exact truthy_none ⟨H,I,q⟩
 |bl b=>
  cases rx;have e':k=b:=e;subst e';exact fu ⟨H,I,q⟩
 |int i=>
  obtain⟨t,rfl⟩:=rx;have e':k=(i !=0):=e;subst e';exact PySem.P.truthy_int ⟨H,I,q⟩
 |str y=>
  obtain⟨t,rfl⟩:=rx;obtain⟨hy,e'⟩:y.length<=sizeLine/\k=((y.length:Int) !=0):=e;subst e';exact PySem.P.truthy_str (by omega) ⟨H,I.tok _,q⟩
 |byt y=>
  obtain⟨t,rfl⟩:=rx;obtain⟨hy,e'⟩:y.size<=sizeLine/\k=((y.size:Int) !=0):=e;subst e';exact PySem.W.truthy_bytes (by omega) ⟨H,I.tok _,q⟩
 |ref p=>
  cases rx;have e':(∃xs,SqL X.K H p xs/\k=!xs.isEmpty)∨(∃xs,SqT X.K H p xs/\k=!xs.isEmpty)∨∃bq,H p=some (.dK bq)/\k=!bq.isEmpty:=e;rcases e' with⟨xs,hx,e'⟩|⟨xs,hx,e'⟩|⟨bq,hx,e'⟩
  · subst e';obtain⟨bt,r,pl,hz⟩:=I.list hx;have bL:=r.length;exact wpAny_truthy_list pl.isList (by simp only[size_toArray];omega) ⟨H,I.tok _,by rw[a3l r];exact q⟩
  · subst e';obtain⟨bt,r,pl,hz⟩:=I.tuple hx;have bL:=r.length;exact truthy_tuple pl (by simp only[size_toArray];omega) ⟨H,I.tok _,by rw[a3l r];exact q⟩
  · subst e';obtain⟨hz,hS,vs,r,m⟩:bq.length<=sizeLine/\(p==sysModules)=false/\∃vs,KV bq vs/\s.heap.DictOf (n0 X.prog X.w) p vs:=I.hok p _ hx;have bL:bq.length=vs.length:=Paired.length r;exact wpAny_truthy_dict hS m (by omega) ⟨H,I.tok _,by rw[a7e r];exact q⟩
 |_=>exact(show False from e).elim
theorem a9Y(ha:PE X a ta)(he:∀cK,isTrue a X.env cK=(do let v←cK;standAt a.pos;holding [v] (truthy v))):
 PT X a (λσ H Q=>ta σ H λx H'=>∃k,c0G X.K x H' k/\Q k H'):=by
 intro bp s σ H Q I h;exact isTrue_plain (thn (ha bp s σ H _ I h) λv s1 ⟨x,H1,I1,r1,q1⟩=>b5c bp s1 σ H1 x v Q I1 r1 q1) (he _)
theorem a6S:OpR X (binaryOp .Add) (λx y H Q=>∃i j,x=.str i/\y=.str j/\i.length+j.length<=sizeLine/\Q (.str (i++j)) H):=by intro bp s σ H x y v u Q I rx ry h;obtain⟨i,j,rfl,rfl,hz,q⟩:=h;obtain⟨t,rfl⟩:=rx;obtain⟨t',rfl⟩:=ry;exact add_str (λt' tk=>⟨.str (i++j),H,I.tok _,⟨_,rfl⟩,q⟩) hz
theorem T4{x:V}(r:k8 [x] us):∃u,us=[u]/\i8 x u:=by
 cases r with
 |cons r1 r2=>cases r2;exact⟨_,rfl,r1⟩
theorem a5y{x:V}(r:k8 [x,y] us):∃u w',us=[u,w']/\i8 x u/\i8 y w':=by
 cases r with
 |cons r1 r2=>
  cases r2 with
  |cons r3 r4=>cases r4;exact⟨_,_,rfl,r1,r3⟩
theorem a9k(hc:X.calm=true):E4 X (.builtin "max") (λxs H Q=>∃i j,xs=[.int i,.int j]/\Q (.int (if j>i then j else i)) H):=by
 intro bp s σ H xs us Q I r h;obtain⟨i,j,rfl,q⟩:=h;obtain⟨u,w',rfl,⟨t,rfl⟩,⟨t',rfl⟩⟩:=a5y r;refine max_two_ints (I.ok.hd hc) λh' tk k=>⟨_,H,I.kept k,?_,q⟩
 by_cases hj:j>i
 · rw[ay hj,ay hj];exact⟨_,rfl⟩
 · rw[az hj,az hj];exact⟨_,rfl⟩
theorem a4m:E4 X (.type "int") (λxs H Q=>(∃i,xs=[.int i]/\Q (.int i) H)∨∃k,xs=[.bl k]/\Q (.int (if k then 1 else 0)) H):=by
 intro bp s σ H xs us Q I r h;rcases h with⟨i,rfl,q⟩|⟨k,rfl,q⟩
 · obtain⟨u,rfl,t,rfl⟩:=T4 r;exact call_int_int ⟨.int i,H,I,⟨_,rfl⟩,q⟩
 · obtain⟨u,rfl,r1⟩:=T4 r;cases r1;exact call_int_bool ⟨.int (if k then 1 else 0),H,I.tok _,⟨_,rfl⟩,q⟩
theorem a5p:E4 X (.type "str") (λxs H Q=>∃i,xs=[.int i]/\i.natAbs.log2<1920/\Q (.str (toString i)) H):=by intro bp s σ H xs us Q I r h;obtain⟨i,rfl,hz,q⟩:=h;obtain⟨u,rfl,t,rfl⟩:=T4 r;exact PySem.P.str_of_int hz ⟨.str _,H,I.tok _,⟨_,rfl⟩,q⟩
end
structure ObjM(h:Heap)(x dx C:Addr)(mA:Str->Option Value):Prop where
 obj:h.get? x=some (instObj C dx)
 ns:h.Ns1 dx mA
 ne:dx≠x
variable{dx:Addr}{mA:Str->Option Value}
theorem a8Q(n:h.Ns1 dx mA):∃od,h.get? dx=some od/\∀name,lookIn name od=some (mA name):=by
 obtain⟨o,es,ep,ho,hd,hk,_,hm⟩:=n;refine⟨o,ho,λname=>?_⟩;have e:=hm name;unfold nsFind findBy at e;rw[←Array.find?_toList] at e;unfold lookIn;rw[hd]
 dsimp only
 split
 · rename_i y q;rw[q] at e;exact fh some e
 · rename_i q;rw[q] at e;have a:es.toList.any (·.refKey)=false:=by rw[List.any_eq_false];intro y hy;obtain⟨z,t,hkey⟩:=hk y (Array.mem_toList_iff.mp hy);simp[DictEntry.refKey,hkey]
   have a':¬es.toList.any (·.refKey)=true:=by rw[a];exact bg
   rw[az a'];exact fh some e
variable{C:Addr}
theorem ObjM.look{x:Addr}(I:ObjM h x dx C mA):∃od,PySem.W.InstAt h x (instObj C dx) C (some od)/\∀name,lookIn name od=some (mA name):=
 let⟨od,ho,hl⟩:=a8Q I.ns
 ⟨od,⟨I.obj,rfl,rfl,ho⟩,hl⟩
variable{expr:Bool}{kw:List (Str×Value)}
section
variable{prog:Program}{E:Value->Shared->Prop}{s:Shared}{x f:Addr}{name:Str}{v:Value}
theorem b3R(X:K.In s.heap)(I:ObjM s.heap x dx C mA)(hg:plainGet K C name=true)(hh:hasDictIn K C=true)
 (ha:PySem.W.findIn K (.ref C) name=some none) (hv:mA name=some v) (hv':handedIn v=true) (h:Q v {s with toks:=s.toks+1}):
 wpAny (model prog w) A (getAttr (.ref x) name expr) Q E s:=by
 obtain⟨od,J,hl⟩:=I.look;exact PySem.W.get_value X J (PySem.W.plainGet_of hg).1 (PySem.W.findObj_own hh ha rfl (by rw[hl,hv])) hv' h
theorem b2J{ns:List Str}{Q:Unit->Shared->Prop}(X:K.In s.heap)(I:ObjM s.heap x dx C mA)
 (hs:PySem.W.findIn K (.ref C) "__setattr__"=some (some (.builtin "object.__setattr__"))) (hp:plainOver K C=true) (ht:takerIn K C name=some none) (hh:hasDictIn K C=true)
 (hw:PySem.Within mA ns) (hsz:ns.length<=sizeLine)
 (h:∀h',ObjM h' x dx C (λy=>if y=name then some v else mA y)->Heap.SameBut dx s.heap h'->Q () {s with heap:=h',toks:=s.toks+2}):
 wpAny (model prog w) A (setAttr (.ref x) name v) Q E s:=by
 obtain⟨od,J,hl⟩:=I.look;refine PySem.W.set_plain X J hs (PySem.W.osa_open (s:={s with toks:=s.toks+1}) (r:=none) X J hp ht λb=>?_);obtain⟨cd,hc,hd'⟩:=PySem.W.any_some hh;have hx:s.heap.get? x=some ⟨.ref C,some dx,.plain,#[]⟩:=I.obj;refine eP (eR (eP (eP (wpAny_loadPart hx (eP (PySem.W.Looks.here (s:={s with toks:=s.toks+1}) (PySem.W.looks_clsIn X hc) ?_))))));rw[hd'];refine eR (a:=some dx) (eP (eR (eP ?_)));refine wpAny_nsSet1 (s:={s with toks:=s.toks+1}) I.ns λh' hn2 hs2=>?_;obtain⟨oD,esD,epD,hoD,hdD,hcD⟩:=hn2.count (PySem.Within.cons name v hw);refine eP (wpAny_lookBehind hoD (by rw[hdD];exact pastItsLine_dict (aO hcD (by rw[length_cons];omega))) ?_);exact eR (h _ ⟨(hs2.2 _ (ff I.ne)).trans I.obj,hn2,I.ne⟩ hs2)
theorem b0F{R:Result->Shared->Prop}{vs:List Value}(X:K.In s.heap)(hm:makesIn K C=true)
 (hi:PySem.W.findIn K (.ref C) "__init__"=some (some (.ref f))) (hf:PySem.W.typeIn K (.ref f)=some (.type "function"))
 (h:codeAny (model prog w) (A.under (.builtin "type.__call__" ⟨.ref C::vs,kw⟩)) (.call (.ref f) ⟨.ref (s.heap.objs.size+1)::vs,kw⟩) (PySem.W.InitBack (s.heap.objs.size+1) R)
  {s with heap:=(s.heap.push emptyDict).push (instObj C s.heap.objs.size)}):
 codeAny (model prog w) A (.call (.ref C) ⟨vs,kw⟩) R s:=by
 obtain⟨hh,g,d,t,os⟩:=s;exact PySem.W.make_core (PySem.W.makes_of X hm) (PySem.W.looks_findIn X hi) (λself=>PySem.W.bind_fn X self hf) (.inl rfl) h
end
noncomputable def U4(f:Str)(v:V):List (Str×V)->List (Str×V)
 |[]=>[(f,v)]
 |(g,x)::r=>if g=f then(g,v)::r else(g,x)::U4 f v r
theorem a1T(f g:Str)(v:V):∀fs:List (Str×V),(U4 f v fs).lookup g=if g=f then some v else fs.lookup g
 |[]=>by
  show List.lookup g [(f,v)]=_
  by_cases h:g=f
  · have hb:(g==f)=true:=beq_iff_eq.mpr h;simp only[List.lookup,hb,ay h]
  · have hb:(g==f)=false:=beq_eq_false_iff_ne.mpr h;simp only[List.lookup,hb,az h]
 | (k,x)::r=>by
  have ih:=a1T f g v r;rw[show U4 f v ((k,x)::r)=(if k=f then(k,v)::r else(k,x)::U4 f v r) from rfl]
  by_cases hk:k=f
  · rw[ay hk]
    by_cases h:g=k
    · have hb:(g==k)=true:=beq_iff_eq.mpr h;simp only[List.lookup,hb,ay (h.trans hk)]
    · have hb:(g==k)=false:=beq_eq_false_iff_ne.mpr h;simp only[List.lookup,hb,az (λe:g=f=>h (e.trans hk.symm))]
  · rw[az hk]
    by_cases h:g=k
    · have hb:(g==k)=true:=beq_iff_eq.mpr h;simp only[List.lookup,hb,az (λe:g=f=>hk (h.symm.trans e))]
    · have hb:(g==k)=false:=beq_eq_false_iff_ne.mpr h;simp only[List.lookup,hb];exact ih
theorem a1B(f:Str)(v:V):∀fs:List (Str×V),f∈(U4 f v fs).map (·.1)/\∀g,g∈fs.map (·.1)->g∈(U4 f v fs).map (·.1)
 |[]=>⟨by simp[U4],λg h=>by simp at h⟩
 | (k,x)::r=>by
  obtain⟨i1,i2⟩:=a1B f v r;rw[show U4 f v ((k,x)::r)=(if k=f then(k,v)::r else(k,x)::U4 f v r) from rfl]
  by_cases hk:k=f
  · rw[ay hk];subst hk;exact⟨by simp,λg h=>by simpa using h⟩
  · rw[az hk];refine⟨?_,λg h=>?_⟩
    · rw[map_cons];exact aD _ i1
    · rw[map_cons] at h⊢;rcases aE.mp h with e|e
      · exact aE.mpr (.inl e)
      · exact aD _ (i2 g e)
theorem a1U(f:Str)(v:V):∀fs:List (Str×V),(U4 f v fs).length<=fs.length+1
 |[]=>by simp[U4]
 |(k,x)::r=>by
  have ih:=a1U f v r;rw[show U4 f v ((k,x)::r)=(if k=f then(k,v)::r else(k,x)::U4 f v r) from rfl]
  by_cases hk:k=f
  · rw[ay hk,length_cons,length_cons];omega
  · rw[az hk,length_cons,length_cons];omega
theorem a0p.some_of{o:Option Value}(r:a0p (some v) o):∃u,o=some u/\i8 v u:=by
 cases o with
 |none=>exact(show False from r).elim
 |some u=>exact⟨u,rfl,r⟩
theorem a8Z(r:i8 v u):handedIn u=true:=by
 cases v with
 |non=>cases (show u=Value.none from r);rfl
 |bl b=>cases (show u=Value.bool b from r);rfl
 |int i=>obtain⟨t,e⟩:=(show∃t,u=Value.int i t from r);cases e;rfl
 |str x=>obtain⟨t,e⟩:=(show∃t,u=Value.str x t from r);cases e;rfl
 |byt b=>obtain⟨t,e⟩:=(show∃t,u=Value.bytes b t from r);cases e;rfl
 |flt b=>obtain⟨t,e⟩:=(show∃t,u=Value.float b t from r);cases e;rfl
 |ref a=>cases (show u=Value.ref a from r);rfl
 |ty n=>cases (show u=Value.type n from r);rfl
section
variable{fs fs':List (Str×V)}
theorem a5c(hok:HOk P w H h)(e:H a=some (.ins C dx fs)):∃mA,ObjM h a dx C mA/\(∀f,a0p (fs.lookup f) (mA f))/\PySem.Within mA (fs.map (·.1))/\fs.length<=1000/\H dx=some (.own a):=by obtain⟨d,z,ne,ob,mA,n,r,q⟩:=(show p8 P w H h a (.ins C dx fs) from hok a _ e);exact⟨mA,⟨ob,n,ne⟩,r,q,z,d⟩
end
structure Cls(K:Frag)(C:Addr):Prop where
 pg:plainGet K C Str.empty=true
 hd:hasDictIn K C=true
 po:plainOver K C=true
 sa:PySem.W.findIn K (.ref C) "__setattr__"=some (some (.builtin "object.__setattr__"))
theorem Cls.get(c:Cls K C)(f:Str):plainGet K C f=true:=c.pg
def a0a(K:Frag)(C:Addr)(f:Str):Prop:=PySem.W.findIn K (.ref C) f=some none
theorem a0a.taker{f:Str}(n:a0a K C f):takerIn K C f=some none:=by unfold takerIn;rw[show PySem.W.findIn K (.ref C) f=some none from n];rfl
variable{prog:Program}{env:Env}
section
variable{s:Shared}{fs:List (Str×V)}{f:Str}{E:Value->Shared->Prop}
theorem a7h{b:Bool}(I:Inv X bp σ H s)(e:H a=some (.ins C dx fs))(c:Cls X.K C)(n:a0a X.K C f)(l:fs.lookup f=some v)
 (h:∀u s',Inv X bp σ H s'->i8 v u->Q u s'):wpAny (model X.prog X.w) A (getAttr (.ref a) f b) Q E s:=by
 obtain⟨mA,O,r,_,_,_⟩:=a5c I.hok e;obtain⟨u,hu,ru⟩:=a0p.some_of (v:=v) (o:=mA f) (by rw[←l];exact r f);exact b3R I.kIn O (c.get f) c.hd n hu (a8Z ru) (h u _ (I.tok _) ru)
theorem a6P{Q:Unit->Shared->Prop}(I:Inv X bp σ H s)(e:H a=some (.ins C dx fs))(c:Cls X.K C)(n:a0a X.K C f)(hl:fs.length<1000)(ry:i8 y u)
 (h:∀s',Inv X bp σ (upd H a (.ins C dx (U4 f y fs))) s'->Q () s'):wpAny (model X.prog X.w) A (setAttr (.ref a) f u) Q E s:=by
 obtain⟨mA,O,r,wi,_,ho⟩:=a5c I.hok e;have hz:(fs.map (·.1)).length<=sizeLine:=by rw[aa,fV];omega
 refine b2J I.kIn O c.sa c.po n.taker c.hd wi hz λh' O' sb=>h _ ?_;have hd:∃o,h'.get? dx=some o:=let⟨o,_,_,e',_⟩:=O'.ns;⟨o,e'⟩;refine I.write (x:=a) (e:=dx) (by rw[e];exact True.intro) (.inr ho) (λb q hb z=>(sb.2 b hb).trans z) hd ?_;refine⟨by rw[c9 O.ne];exact ho,?_,O.ne,O'.obj,_,O'.ns,λg=>?_,λg hg=>?_⟩
 · have:=a1U f y fs;omega
 · show a0p ((U4 f y fs).lookup g) (if g=f then some u else mA g);rw[a1T]
   by_cases q:g=f
   · rw[ay q,ay q];exact ry
   · rw[az q,az q];exact r g
 · by_cases q:g=f
   · rw[q];exact(a1B f y fs).1
   · refine(a1B f y fs).2 g (wi g λz=>hg ?_);show(if g=f then some u else mA g)=none;rw[az q];exact z
theorem Inv.made(I:Inv X bp σ H s):Inv X bp σ (upd (upd H s.heap.objs.size (.own (s.heap.objs.size+1))) (s.heap.objs.size+1) (.ins C s.heap.objs.size []))
 {s with heap:=(s.heap.push emptyDict).push (instObj C s.heap.objs.size)}:=by
 have e1:(s.heap.push emptyDict).get? s.heap.objs.size=some emptyDict:=eU s.heap rfl;have e2:((s.heap.push emptyDict).push (instObj C s.heap.objs.size)).get? (s.heap.objs.size+1)=some (instObj C s.heap.objs.size):=by
  have:=eU (s.heap.push emptyDict) (o:=instObj C s.heap.objs.size) rfl
  rwa [fC] at this
 have e3:(s.heap.push emptyDict).Ns s.heap.objs.size (λ_=>none):=⟨emptyDict,#[],_,e1,rfl,(λe he=>absurd he ⋯),λ_=>rfl⟩;have I1:=I.laid (a:=s.heap.objs.size) (o:=.own (s.heap.objs.size+1)) (h':=s.heap.push emptyDict) (t':=s.toks) (λb u q=>eQ _ q) (aj _) ⟨_,e1⟩;refine I1.laid (a:=s.heap.objs.size+1) (o:=.ins C s.heap.objs.size []) (t':=s.toks) (λb u q=>eQ _ q) (Nat.le_of_eq (fC _ _)) ?_;have ne:s.heap.objs.size≠s.heap.objs.size+1:=eV (aP _);refine⟨by rw[c9 ne,b8],fq _,ne,e2,λ_=>none,(Heap.Ns1.of_empty e3).at λo q=>eQ _ q,λ_=>True.intro,λy hy=>absurd rfl hy⟩
theorem b4y{f:Str}{s:Shared}(hb:attributeBase e f env (eval e env)=eval e env)
 (h:wpAny (model prog w) A (eval e env) (λo bB=>wpAny (model prog w) A (getAttr o f true) Q E bB) E s):wpAny (model prog w) A (eval (.Attribute e f pos) env) Q E s:=
 Attribute_any_ h (by rw[arm_eval_Attribute,hb])
end
noncomputable def c0S(K:Frag)(ta:TE)(f:Str):TE:=λσ H Q=>ta σ H λx H1=>∃a C dx fs v,x=.ref a/\H1 a=some (.ins C dx fs)/\Cls K C/\a0a K C f/\fs.lookup f=some v/\Q v H1
def c0V(K:Frag)(ta tv:TE)(f:Str):TS:=λD σ H=>tv σ H λy H1=>ta σ H1 λx H2=>∃a C dx fs,x=.ref a/\H2 a=some (.ins C dx fs)/\Cls K C/\a0a K C f/\fs.length<1000∧
 D.nx σ (upd H2 a (.ins C dx (U4 f y fs)))
variable{bH:Pos}
section
variable{o value:Expr}{f:Str}{ef:Pos}{ta tv:TE}
theorem b5T(he:PE X e ta)(hb:attributeBase e f X.env (eval e X.env)=eval e X.env):PE X (.Attribute e f pos) (c0S X.K ta f):=by intro bp s σ H Q I h;refine b4y hb (thn (he bp s σ H _ I h) λu s1 zz=>?_);obtain⟨x,H1,I1,rx,a,C,dx,fs,v,ex,ea,c,n,l,q⟩:=zz;subst ex;obtain rfl:u=Value.ref a:=rx;exact a7h I1 ea c n l λu' s2 I2 ru=>⟨v,H1,I2,ru,q⟩
theorem b5D(ha:PE X o ta)(hv:PE X value tv)(hs:swapsWith value (some (.Attribute o f cC)) pos.line X.env=pure false):PS X (.Assign [.Attribute o f cC] value pos) (c0V X.K ta tv f):=by intro bp s σ H D I h;refine plainObj_wpAny_Assign_Attribute (thn (hv bp s σ H _ I h) λu s1 ⟨y,H1,I1,ry,q⟩=>thn (ha bp s1 σ H1 _ I1 q) λov s2 zz=>?_) hs;obtain⟨x,H2,I2,rx,a,C,dx,fs,ex,ea,c,n,l,q2⟩:=zz;subst ex;obtain rfl:ov=Value.ref a:=rx;exact a6P I2 ea c n l ry λs3 I3=>⟨σ,_,I3,q2⟩
end
section
variable{s:Shared}{E:Value->Shared->Prop}{c:Value}{b:Bool}
inductive TyOf(K:Frag)(H:Hp):V->Value->Prop where
 |non:TyOf K H .non (.type "NoneType")
 |bl (x:Bool):TyOf K H (.bl x) (.type "bool")
 |int (i:Int):TyOf K H (.int i) (.type "int")
 |str (x:Str):TyOf K H (.str x) (.type "str")
 |flt (x:UInt64):TyOf K H (.flt x) (.type "float")
 |lst {a:Addr} {xs:List V} (e:H a=some (.lst xs)):TyOf K H (.ref a) (.type "list")
 |frz {a:Addr} {o:Obj} {xs:List V} (e:H a=some (.frz o (.lst xs))):TyOf K H (.ref a) (.type "list")
 |tup {a:Addr} {xs:List V} (e:H a=some (.tup xs)):TyOf K H (.ref a) (.type "tuple")
 |dK {a:Addr} {bq:List (Key×V)} (e:H a=some (.dK bq)):TyOf K H (.ref a) (.type "dict")
 |dT {a:Addr} {bq:List (List Key×V)} (e:H a=some (.dT bq)):TyOf K H (.ref a) (.type "dict")
 |ins {a C dx:Addr} {fs:List (Str×V)} (e:H a=some (.ins C dx fs)) (cl:Cls K C) (ha:PySem.W.findIn K (.ref C) "__class__"=some (some (.builtin "object.__class__")))
  (hn:specialIn K (.builtin "object.__class__") "__get__"=some (some (.builtin "getset_descriptor.__get__"))) (htk:takesIn K (.builtin "object.__class__")=some true)
  (hm:mroIn K C (.type "object")=some true):TyOf K H (.ref a) (.ref C)
theorem a8V{x:V}{t:Value}(I:Inv X bp σ H s)(rx:i8 x u)(ty:TyOf X.K H x t)(e:kitOne X.K t c=some b)(h:∀tk,Q (.bool b) {s with toks:=tk}):
 wpAny (model X.prog X.w) A (call (.builtin "isinstance") [u,c]) Q E s:=by
 cases ty with
 |non=>cases (show u=Value.none from rx);exact kia_one PySem.W.kitx_none I.kIn True.intro e (λz=>nomatch z) h
 |bl y=>cases (show u=Value.bool y from rx);exact kia_one PySem.W.kitx_bool I.kIn True.intro e (λz=>nomatch z) h
 |int i=>obtain⟨t,q⟩:=(show∃t,u=Value.int i t from rx);cases q;exact kia_one PySem.W.kitx_int I.kIn True.intro e (λz=>nomatch z) h
 |str y=>obtain⟨t,q⟩:=(show∃t,u=Value.str y t from rx);cases q;exact kia_one PySem.W.kitx_str I.kIn True.intro e (λz=>nomatch z) h
 |flt y=>obtain⟨t,q⟩:=(show∃t,u=Value.float y t from rx);cases q;exact kia_one PySem.W.kitx_float I.kIn True.intro e (λz=>nomatch z) h
 | @lst a xs ea=>
  cases (show u=Value.ref a from rx);obtain⟨_,_,n,_,h1⟩:=(show p8 X.prog X.w H s.heap a (.lst xs) from I.hok a _ ea);exact kia_one kitx_list I.kIn ⟨_,h1,rfl⟩ e (λz=>nomatch z) h
 | @frz a ob xs ea=>
  cases (show u=Value.ref a from rx);obtain⟨_,_,_,n,_,h1⟩:=(show p8 X.prog X.w H s.heap a (.frz ob (.lst xs)) from I.hok a _ ea);exact kia_one kitx_list I.kIn ⟨_,h1,rfl⟩ e (λz=>nomatch z) h
 | @tup a xs ea=>
  cases (show u=Value.ref a from rx);obtain⟨_,_,_,p⟩:=(show p8 X.prog X.w H s.heap a (.tup xs) from I.hok a _ ea);obtain⟨o,h1,h2,_⟩:=p;exact kia_one PySem.W.kitx_tuple I.kIn ⟨o,h1,h2⟩ e (λz=>nomatch z) h
 | @dK a bq ea=>
  cases (show u=Value.ref a from rx);obtain⟨_,_,vs,_,p⟩:=(show p8 X.prog X.w H s.heap a (.dK bq) from I.hok a _ ea);obtain⟨o,es,ep,h1,h2,_⟩:=p;exact kia_one kitx_dict I.kIn ⟨o,h1,h2.1⟩ e (λz=>nomatch z) h
 | @dT a bq ea=>
  cases (show u=Value.ref a from rx);obtain⟨_,_,xs,_,o,es,ep,h1,h2,_⟩:=(show p8 X.prog X.w H s.heap a (.dT bq) from I.hok a _ ea);exact kia_one kitx_dict I.kIn ⟨o,h1,h2.1⟩ e (λz=>nomatch z) h
 | @ins a C dx fs ea cl ha hn htk hm=>
  cases (show u=Value.ref a from rx);obtain⟨mA,O,_⟩:=a5c I.hok ea;obtain⟨od,J,_⟩:=O.look;exact kia_one (PySem.W.kitx_own (cl.get _) cl.hd ha hn htk hm) I.kIn J e (λz=>nomatch z) h
end
structure Room(k:Nat)(A:Around):Prop where
 hd:A.handled=none
 dp:A.depth+3*k+5<recursionLimit
 un:A.units+16*k+200<cLine
theorem Room.mono{k:Nat}(r:Room k A)(h:j<=k):Room j A:=⟨r.hd,by have:=r.dp;omega,by have:=r.un;omega⟩
theorem Room.deeper{k:Nat}(r:Room (k+1) A)(env:Env):Room k (A.deeper env):=
 ⟨r.hd,by have:=r.dp;show A.depth+1+3*k+5<_;omega,by have:=r.un;show A.units+3+16*k+200<_;omega⟩
theorem a6Z:(A.under (.builtin "type.__call__" ⟨.ref C::us,kw⟩)).depth=A.depth+1:=by first|rfl|simp[Around.under,Code.weight,Code.isCreation,Code.isGuard,Code.isCaller,Code.frames,Code.isFrame,guardIds]
theorem a6Y:(A.under (.builtin "type.__call__" ⟨.ref C::us,kw⟩)).units=A.units+1:=by first|rfl|simp[Around.under,Code.cUnits,Code.frames,Code.isFrame]
theorem Room.make{k:Nat}(r:Room (k+1) A)(C:Addr)(us:List Value)(kw:List (Str×Value)):Room k (A.under (.builtin "type.__call__" ⟨.ref C::us,kw⟩)):=
 ⟨r.hd,by have:=r.dp;rw[a6Z];omega,by have:=r.un;rw[a6Y];omega⟩
theorem Room.depth{k:Nat}(r:Room k A):A.depth<recursionLimit:=by have:=r.dp;omega
theorem Room.units{k:Nat}(r:Room k A):A.units+64<cLine:=by have:=r.un;omega
def b5h:TA:=λ_ H Q=>Q [] H
def a9C(ta:TE)(tr:TA):TA:=λσ H Q=>ta σ H λx H1=>tr σ H1 λxs H2=>Q (x::xs) H2
section
variable{es:List Expr}{t:TA}
theorem a2X:PA X [] b5h:=λ_ _ _ _ H Q I h=>Calls.spliced_nil ⟨[],H,I,.nil,h⟩
theorem U5(ha:PE X e te)(hr:PA X es t)(hs:starEach (e::es) X.env=(false,eval e X.env)::starEach es X.env:=by rfl):PA X (e::es) (a9C te t):=by intro pos bp s σ H Q I h;rw[hs];show wpAny _ _ (spliced ((false,eval e X.env)::backTo pos (starEach es X.env))) _ _ s;refine gi (thn (ha bp s σ H _ I h) λu s1 zz=>?_);obtain⟨x,H1,I1,r1,q1⟩:=zz;exact thn (hr pos bp s1 σ H1 _ I1 q1) λus s2 ⟨xs,H2,I2,r2,q2⟩=>⟨x::xs,H2,I2,.cons r1 r2,q2⟩
noncomputable def c0I(t:TA):TE:=λσ H Q=>t σ H λxs H1=>xs.length<=sizeLine/\∀p,H1 p=none->Q (.ref p) (upd H1 p (.tup xs))
noncomputable def c0N(t:TA):TE:=λσ H Q=>t σ H λxs H1=>xs.length<=sizeLine/\∀p,H1 p=none->Q (.ref p) (upd H1 p (.lst xs))
theorem b5N{x1}(h:PA X es t):PE X (.Tuple es x1 pos) (c0I t):=by intro bp s σ H Q I hq;refine wpAny_Tuple_spliced (thn (h pos bp s σ H _ I hq) λus s1 ⟨xs,H1,I1,r,z,q⟩=>⟨by rw[←r.length];exact z,?_⟩);have hf:H1 s1.heap.objs.size=none:=I1.hok.fresh (aj _);refine⟨.ref s1.heap.objs.size,upd H1 s1.heap.objs.size (.tup xs),I1.laid (t':=s1.toks) (λb u e=>eQ _ e) (aj _) ?_,rfl,q _ hf⟩;exact⟨z,us,r,⟨_,eU _ rfl,rfl,rfl,_,rfl⟩⟩
theorem b5R(h:PA X es t):PE X (.List es pos) (c0N t):=by intro bp s σ H Q I hq;refine wpAny_List_spliced (thn (h pos bp s σ H _ I hq) λus s1 ⟨xs,H1,I1,r,z,q⟩=>⟨by rw[←r.length];exact z,?_⟩);have hf:H1 s1.heap.objs.size=none:=I1.hok.fresh (aj _);refine⟨.ref s1.heap.objs.size,upd H1 s1.heap.objs.size (.lst xs),I1.laid (t':=s1.toks) (λb u e=>eQ _ e) (aj _) ?_,rfl,q _ hf⟩;exact⟨z,us,0,r,eU _ rfl⟩
end
abbrev Sp:=List V->Hp->VK->XK->Prop
abbrev CXT:=List Env->Hp->Shared->XK->Value->Shared->Prop
structure Env0(P:Program)(w:World)(K:Frag)(mg:Str->Option Value)(base:Heap)(A:Around)(outer:List Env)(s:Shared)(H:Hp):Prop where
 frames:A.frames=some outer
 mod:Mod K mg base
 bs:∀b o,base.get? b=some o->s.heap.get? b=some o/\H b=none
 bsz:base.objs.size<=s.heap.objs.size
 funs:s.heap.FunFrames base outer
 frf:∀b∈frs outer,H b=none
 hok:HOk P w H s.heap
 bare:AllBare s.gens
def CE(outer:List Env)(P:Program)(w:World)(H:Hp)(s:Shared)(Q:VK)(u:Value)(s':Shared):Prop:=
 ∃v H',s'.os=s.os/\AllBare s'.gens/\Un (frs outer) [] H H' s.heap s'.heap/\HOk P w H' s'.heap/\i8 v u/\Q v H'
def CR(CX:CXT)(outer:List Env)(P:Program)(w:World)(H:Hp)(s:Shared)(Q:VK)(E:XK)(r:Result)(s':Shared):Prop:=
 match r with
 |.ok (.ret u)=>CE outer P w H s Q u s'
 |.ok _=>False
 |.error e=>CX outer H s E e s'
structure FnOk(P:Program)(w:World)(K:Frag)(mg:Str->Option Value)(base:Heap)(CX:CXT)(k:Nat)(f:Addr)(fd:FuncData)(ps:List Str)(sp:Sp):Prop where
 len:∀vs H Q E,sp vs H Q E->vs.length=ps.length
 run:∀(A:Around) (outer:List Env) (s:Shared) (H:Hp) (args:Args) (us:List Value) (vs:List V) (Q:VK) (E:XK),Room k A->Env0 P w K mg base A outer s H->BindsTo s fd args (ps.zip us)->k8 vs us->sp vs H Q E→
  codeAny (model P w) A (.call (.ref f) args) (CR CX outer P w H s Q E) s
variable{mg:Str->Option Value}{base:Heap}{CX:CXT}{fd:FuncData}{ps:List Str}{sp:Sp}{outer:List Env}
theorem Env0.make{s:Shared}(e:Env0 P w K mg base A outer s H)(C:Addr)(us:List Value)(kw:List (Str×Value)):
 Env0 P w K mg base (A.under (.builtin "type.__call__" ⟨.ref C::us,kw⟩)) outer s H:=⟨by first|exact e.frames|(simpa [Around.under,Code.envs,Code.isFrame,pushEnvs] using e.frames),e.mod,e.bs,e.bsz,e.funs,e.frf,e.hok,e.bare⟩
section
variable{s:Shared}
theorem Inv.env0(I:Inv X bp σ H s):Env0 X.prog X.w X.K X.mg X.base X.A X.stack s H:=
 ⟨I.ok.frames,I.ok.mod,I.bs,aO I.ok.bsz I.sz,I.stack,I.stkFree,I.hok,I.bare⟩
theorem Inv.after{Q:VK}(I:Inv X bp σ H s)(h:CE X.stack X.prog X.w H s Q u s'):EP X bp σ Q u s':=by obtain⟨v,H',os,bare,un,hok,r,q⟩:=h;obtain⟨hh,g,d,t,os'⟩:=s';obtain rfl:os'=s.os:=os;exact⟨v,H',I.call (h':=hh) (g':=g) (d':=d) (t':=t) (ch:=[]) un hok bare (λb z=>absurd z ⋯),r,q⟩
end
def b8j(sp:Sp)(dQ:List V)(E:XK)(t:TA):TE:=λσ H Q=>t σ H λvs H1=>sp (vs++dQ) H1 Q E
noncomputable def b8f(C:Addr)(sp:Sp)(dQ:List V)(E:XK)(t:TA):TE:=λσ H Q=>t σ H λvs H1=>∀x dx,H1 x=none->H1 dx=none->dx≠x→
 sp (.ref x::(vs++dQ)) (upd (upd H1 dx (.own x)) x (.ins C dx [])) (λv H2=>v=.non/\Q (.ref x) H2) E
def R6(K:Frag)(fd:FuncData)(ps:List Str)(ds:List Value):Prop:=
 ∀(s:Shared) (us:List Value),K.In s.heap->(us++ds).length=ps.length->BindsTo s fd ⟨us,[]⟩ (ps.zip (us++ds))
theorem R6.all(h:∀us:List Value,us.length=ps.length->bindArgs fd ⟨us,[]⟩=pure (ps.zip us)):R6 K fd ps []:=λs us _ hl=>by rw[aV] at hl⊢;exact .of_eq (h us hl)
def a3y(CX:CXT)(X:Cx)(E:XK):Prop:=∀(bp:List (Addr×Obj)) (σ:St) (H:Hp) (s:Shared) (e:Value) (s':Shared),Inv X bp σ H s->CX X.stack H s E e s'->X.xe e s'
section
variable{k:Nat}{f:Addr}{dQ:List V}{ds:List Value}{E:XK}{m:Str}{o:Expr}{es:List Expr}{ta:TE}{t:TA}
theorem b5s{s:Shared}{Q:VK}{vs:List V}(F:FnOk X.prog X.w X.K X.mg X.base CX k f fd ps sp)(hr:Room k X.A)(hb:R6 X.K fd ps ds)(hd:k8 dQ ds)(hx:a3y CX X E)
 (I:Inv X bp σ H s) (r:k8 vs us) (h:sp (vs++dQ) H Q E):wpAny (model X.prog X.w) X.A (call (.ref f) us) (EP X bp σ Q) X.xe s:=by
 have r2:k8 (vs++dQ) (us++ds):=r.append hd;have hl:(us++ds).length=ps.length:=by rw[←r2.length];exact F.len _ _ _ _ h
 refine wpAny_call (codeAny_mono (F.run X.A X.stack s H ⟨us,[]⟩ (us++ds) (vs++dQ) Q E hr I.env0 (hb s us I.kIn hl) r2 h) λr s' hq=>?_);cases r with
 |error e=>exact hx bp σ H s e s' I hq
 |ok fl=>
  cases fl with
  |ret u=>exact I.after hq
  |next=>exact False.elim hq
  |brk=>exact False.elim hq
  |cont=>exact False.elim hq
theorem b3g(F:FnOk X.prog X.w X.K X.mg X.base CX k f fd ps sp)(hr:Room k X.A)(hg:Gl X x)(hm:X.mg x=some (.ref f))(hk:PySem.W.keepIn X.K (.ref f)=true)(hb:R6 X.K fd ps ds)(hd:k8 dQ ds)(hx:a3y CX X E)
 (ha:PA X (e::es) t) (hdb:(x==("__debug__":Str))=false:=by decide) (he:starEach (e::es) X.env=(false,eval e X.env)::starEach es X.env:=by rfl) (hpl:(backTo pos (starEach es X.env)).any (·.1)=false:=by rfl):
 PE X (.Call (.Name x p) (e::es) [] pos) (b8j sp dQ E t):=by
 intro bp s σ H Q I h;refine gj (a4U I hg hm ?_ hdb);refine PySem.W.callWith_K (h₀:=X.base) I.ok.mod.kin hk (thn (ha pos bp s σ H _ I h) λus s1 ⟨vs,H1,I1,r,q⟩=>⟨I1.kIn,?_⟩) he hpl;exact b5s F hr hb hd hx I1 r q
structure Mk(K:Frag)(C f:Addr):Prop where
 makes:makesIn K C=true
 init:PySem.W.findIn K (.ref C) "__init__"=some (some (.ref f))
 fn:isFn K (.ref f)=true
 kp:PySem.W.keepIn K (.ref C)=true
theorem a9L{s:Shared}{Q:VK}{vs:List V}(M:Mk X.K C f)(F:FnOk X.prog X.w X.K X.mg X.base CX k f fd ps sp)(hr:Room (k+1) X.A)(hb:R6 X.K fd ps ds)(hd:k8 dQ ds)
 (hx:a3y CX X E) (I:Inv X bp σ H s) (r:k8 vs us)
 (h:∀x dx,H x=none->H dx=none->dx≠x->sp (.ref x::(vs++dQ)) (upd (upd H dx (.own x)) x (.ins C dx [])) (λv H2=>v=.non/\Q (.ref x) H2) E):
 wpAny (model X.prog X.w) X.A (call (.ref C) us) (EP X bp σ Q) X.xe s:=by
 have hq:=h (s.heap.objs.size+1) s.heap.objs.size (I.hok.fresh (gq _)) (I.hok.fresh (aj _)) (eV (aP _));have I2:=Inv.made (C:=C) I;have r2:k8 (V.ref (s.heap.objs.size+1)::(vs++dQ)) (Value.ref (s.heap.objs.size+1)::(us++ds)):=.cons rfl (r.append hd);have hl:(Value.ref (s.heap.objs.size+1)::us++ds).length=ps.length:=by have e:=r2.length;rw[F.len _ _ _ _ hq] at e;exact e.symm
 refine wpAny_call (b0F (f:=f) I.kIn M.makes M.init (beq_iff_eq.mp M.fn) (codeAny_mono (F.run _ X.stack _ _ ⟨Value.ref (s.heap.objs.size+1)::us,[]⟩ (Value.ref (s.heap.objs.size+1)::(us++ds)) _ _ E (hr.make C us [])
  (I2.env0.make C us []) (hb _ (Value.ref (s.heap.objs.size+1)::us) I2.kIn hl) r2 hq) λr s' hq'=>?_))
 cases r with
 |error e=>exact hx bp σ _ _ e s' I2 hq'
 | ok fl=>
  cases fl with
  |ret u=>
   obtain⟨v,H',I3,rv,ev,q3⟩:=I2.after hq';subst ev;exact⟨rv,⟨V.ref (s.heap.objs.size+1),H',I3,rfl,q3⟩⟩
  |next=>exact False.elim hq'
  |brk=>exact False.elim hq'
  |cont=>exact False.elim hq'
theorem b0p(M:Mk X.K C f)(F:FnOk X.prog X.w X.K X.mg X.base CX k f fd ps sp)(hr:Room (k+1) X.A)(hg:Gl X x)(hm:X.mg x=some (.ref C))(hb:R6 X.K fd ps ds)(hd:k8 dQ ds)(hx:a3y CX X E)
 (hdb:(x==("__debug__":Str))=false:=by decide):PE X (.Call (.Name x p) [] [] pos) (b8f C sp dQ E b5h):=by
 intro bp s σ H Q I h;refine gj (a4U I hg hm ?_ hdb);exact PySem.W.callWith_K0 I.kIn M.kp (a9L (us:=[]) M F hr hb hd hx I .nil h)
end
structure FnScope(N P:List Str)(sc:Scope):Prop where
 kind:sc.kind=.function
 co:sc.isCoroutine=false
 gen:sc.isGenerator=false
 nd:N.Nodup
 pre:N.take P.length=P
 par:∀x∈P,sc.names.lookup x=some .local∨sc.names.lookup x=some .cell
 nofree:∀y∈sc.names,y.2≠.free
theorem a4o{kindOf:Str->Option NameKind}{x:Str}:∀{binds:List (Str×Value)} {m:Str->Option Value},(∀v,(x,v)∉binds)->bindL kindOf binds m x=m x
 |[],_,_=>rfl
 | (n,v)::r,m,h=>by
  unfold bindL;rw[a4o λw hw=>h w (aD _ hw)];split
  · have:x≠n:=by rintro rfl;exact h v aU
    simp[this]
  · rfl
theorem a4q{kindOf:Str->Option NameKind}{x:Str}:∀{binds:List (Str×Value)} {m:Str->Option Value},(∀v,(x,v)∉binds)->bindC kindOf binds m x=m x
 |[],_,_=>rfl
 | (n,v)::r,m,h=>by
  unfold bindC;rw[a4q λw hw=>h w (aD _ hw)];split
  · rfl
  · have:x≠n:=by rintro rfl;exact h v aU
    simp[this]
theorem a4p{kindOf:Str->Option NameKind}{x:Str}{v:Value}:∀{P:List Str} {vs:List Value} {i:Nat} {m:Str->Option Value},P.Nodup->P[i]? =some x->vs[i]? =some v->kindOf x=some .local→
 bindL kindOf (P.zip vs) m x=some v
 |[],_,_,_,_,h,_,_=>by simp at h
 |_::_,[],_,_,_,_,h,_=>by simp at h
 |p::P,w::vs,0,m,nd,h1,h2,hk=>by simp at h1 h2;subst h1;subst h2;show bindL kindOf ((p,w)::P.zip vs) m p=_;unfold bindL;rw[a4o λv hv=>(aR.mp nd).1 (of_mem_zip hv).1,ay hk];simp
 |p::P,w::vs,i+1,m,nd,h1,h2,hk=>by show bindL kindOf ((p,w)::P.zip vs) m x=_;unfold bindL;exact a4p (i:=i) (aR.mp nd).2 (by simpa using h1) (by simpa using h2) hk
theorem a4r{kindOf:Str->Option NameKind}{x:Str}{v:Value}:∀{P:List Str} {vs:List Value} {i:Nat} {m:Str->Option Value},P.Nodup->P[i]? =some x->vs[i]? =some v->kindOf x≠some .local→
 bindC kindOf (P.zip vs) m x=some v
 |[],_,_,_,_,h,_,_=>by simp at h
 |_::_,[],_,_,_,_,h,_=>by simp at h
 |p::P,w::vs,0,m,nd,h1,h2,hk=>by simp at h1 h2;subst h1;subst h2;show bindC kindOf ((p,w)::P.zip vs) m p=_;unfold bindC;rw[a4q λv hv=>(aR.mp nd).1 (of_mem_zip hv).1,az hk];simp
 |p::P,w::vs,i+1,m,nd,h1,h2,hk=>by show bindC kindOf ((p,w)::P.zip vs) m x=_;unfold bindC;exact a4r (i:=i) (aR.mp nd).2 (by simpa using h1) (by simpa using h2) hk
def a0T(N:List Str)(vs:List V):St:=vs.map some++List.replicate (N.length-vs.length) none
noncomputable def a7l(CX:CXT)(P:Program)(w:World)(K:Frag)(mg:Str->Option Value)(base:Heap)(N:List Str)(qual:Str)(scope:Scope)(f:Addr)(cd:Value)(A:Around)(outer:List Env)(s:Shared)(H:Hp)(E:XK):Cx where
 prog:=P
 w:=w
 K:=K
 mg:=mg
 base:=base
 A:=A.deeper (envOfC qual scope s.heap.objs.size f cd)
 N:=N
 s₀:=s
 H₀:=H
 env:=envOfC qual scope s.heap.objs.size f cd
 outer:=outer
 stack:=envOfC qual scope s.heap.objs.size f cd::outer
 ex:=[]
 calm:=true
 fn:=λ_=>true
 pn:=[]
 xe:=λe s'=>wpAny (model P w) (A.deeper (envOfC qual scope s.heap.objs.size f cd)) (leaving (envOfC qual scope s.heap.objs.size f cd) e) (λ_ s''=>CX outer H s E e s'') (λe' s''=>CX outer H s E e' s'') s'
variable{sc:Scope}
theorem a6z(h:sc.names.lookup x=some .cell):∃c,(cellsFrom n sc.names []).lookup x=some c:=by have q:=PySem.W.cellsFrom_some sc.names n [] (.inl h);exact Option.isSome_iff_exists.mp q
variable{qual:Str}{scope:Scope}
theorem a8W{f:Addr}{cd:Value}{s s1:Shared}{E:XK}{vs:List V}
 (S:FnScope N ps scope) (hd:A.handled=none) (e0:Env0 P w K mg base A outer s H) (hl:vs.length=ps.length) (r:k8 vs us)
 (x:InCallC s s.heap.objs.size (bindL (envOfC qual scope s.heap.objs.size f cd).kindOf (ps.zip us) λ_=>none) (cellsFrom (s.heap.objs.size+1) scope.names []) (bindC (envOfC qual scope s.heap.objs.size f cd).kindOf (ps.zip us) λ_=>none) s1):
 Inv (a7l CX P w K mg base N qual scope f cd A outer s H E) [] (a0T N vs) H s1:=by
 have hpl:ps.length<=N.length:=by have:=fh List.length S.pre;rw[aJ] at this;omega
 obtain⟨h1,tk,rfl,hk⟩:=x.done;have noA:∀b:Addr,b∉(a7l CX P w K mg base N qual scope f cd A outer s H E).ex:=λb z=>absurd (show b∈([]:List Addr) from z) ⋯;refine⟨⟨e0.mod,S.kind,rfl,rfl,aj _,λy z c h1 h2=>?_,λy hy=>?_,λy c _ h=>?_,λ_=>hd,Around.frames_deeper e0.frames,.inr ⟨rfl,rfl⟩,λb z=>absurd z (noA b),e0.bs,e0.bsz,λb _ _=>noA b,λb z=>absurd z (noA b),e0.funs,e0.frf⟩,
  rfl,e0.bare,Un.kept hk,⟨_,x.toInCall.ns,λi y v h1 h2 h3=>?_⟩,λy c h=>⟨_,x.cell y c h⟩,e0.hok.fresh (aj _),λy c h=>?_,λp hp=>absurd (show p∈([]:List (Addr×Obj)) from hp) ⋯,e0.hok.kept hk,?_⟩
 · exact name_of_addr x.apart (PySem.mem_of_lookup h1) (PySem.mem_of_lookup h2)
 · have hy:scope.names.lookup y=some .cell∨scope.names.lookup y=some .free:=hy;rcases hy with hy|hy
   · exact a6z hy
   · exact absurd rfl (S.nofree _ (PySem.mem_of_lookup hy))
 · exact Nat.le_of_lt (x.above y c (PySem.mem_of_lookup h))
 · have hi:i<vs.length:=by
    unfold a0T at h2
    by_cases hi:i<vs.length
    · exact hi
    · rw[au (by simpa using hi)] at h2;rw[bo] at h2;split at h2<;>cases h2
   have ha:vs[i]? =some v:=by
    unfold a0T at h2;rw[av (by simpa using hi),ak] at h2;cases e:vs[i]? with
    |none=>rw[e] at h2;cases h2
    |some a=>rw[e] at h2;cases h2;rfl
   obtain⟨u,hu,rv⟩:=r.get ha;have hp:ps[i]? =some y:=by rw[←S.pre,bn (by omega)];exact h1
   have ndP:ps.Nodup:=by rw[←S.pre];exact S.nd.sublist (List.take_sublist _ _)
   refine⟨u,rv,?_⟩;rcases S.par y (aF hp) with k|k
   · exact .inl ⟨k,a4p ndP hp hu k⟩
   · obtain⟨c,e⟩:=a6z (n:=s.heap.objs.size+1) k;refine .inr ⟨.inl k,c,e,?_⟩;have q:=x.cell y c e;rw[a4r ndP hp hu (by show scope.names.lookup y≠_;rw[k];decide)] at q;exact q
 · exact e0.hok.fresh (Nat.le_of_lt (x.above y c (PySem.mem_of_lookup h)))
 · unfold a0T;show _=N.length;rw[aq,aa,aZ];omega
variable{cM:Value}{pm:Value}{cu:Value}{ct:Value}{oc:Value}{an:Option Addr}{ei:Array (Option Value)}
theorem b9t{k:Nat}{f:Addr}{name:Str}{params:Arguments}{dV kV:Value}{od:Option Addr}
 (lk:K.lookup f=some ⟨oc,od,.func (fnOf name qual params body scope dV kV cM pm an cu ct),ei⟩) (eE:PySem.W.codeIn K cu qual=true) (S:FnScope N ps scope)
    (len:∀vs H Q E,sp vs H Q E->vs.length=ps.length)
    (hbody:∀(A:Around) (outer:List Env) (s:Shared) (H:Hp) (vs:List V) (Q:VK) (E:XK),Room k (A.deeper (envOfC qual scope s.heap.objs.size f cu))->sp vs H Q E→
      ∃t,PSs (a7l CX P w K mg base N qual scope f cu A outer s H E) body t/\t {nx:=λ_ H'=>Q .non H',rt:=Q} (a0T N vs) H):
    FnOk P w K mg base CX (k+1) f (fnOf name qual params body scope dV kV cM pm an cu ct) ps sp:=by
  refine⟨len,λA outer s H args us vs Q E hr e0 hb r eB=>?_⟩;have hl:=len _ _ _ _ eB;have KX:K.In s.heap:=e0.mod.kin.keeps λb o e=>(e0.bs b o e).1;have lim:s.heap.NoLimit:=e0.mod.nolimit.keeps λb o e=>(e0.bs b o e).1;have hkind:∀y∈ps.zip us,scope.names.lookup y.1=some .local∨(scope.names.lookup y.1=some .cell/\((cellsFrom (s.heap.objs.size+1) scope.names []).lookup y.1).isSome=true):=λ⟨n,v⟩ hy=>by
    rcases S.par n (of_mem_zip hy).1 with q|q
    · exact .inl q
    · exact .inr ⟨q,PySem.W.cellsFrom_some _ _ _ (.inl q)⟩
  refine codeAny_call_function hr.depth (KX _ _ lk) rfl S.co S.gen rfl (PySem.W.codeRec_of KX eE) (hb _ _ _ _ ?_);refine wpAny_newFunctionEnv_cells S.kind hkind λenv he s1 x=>?_;subst he;refine⟨lim.keeps x.toInCall.keep,codeAny_func ?_⟩;obtain⟨t,ht,hq⟩:=hbody A outer s H vs Q E (hr.deeper _) eB;have I:Inv (a7l CX P w K mg base N qual scope f cu A outer s H E) [] (a0T N vs) H s1:=a8W S hr.hd e0 hl r x;refine fF (ht [] s1 (a0T N vs) H _ I hq) (λfl s' hs=>?_) λe s' hs=>hs;have cn:∀{bE:St} {H':Hp} {v:V} {u:Value},Inv (a7l CX P w K mg base N qual scope f cu A outer s H E) [] bE H' s'->i8 v u->Q v H'->CE outer P w H s Q u s':=
    fun{bE H' v u} J rv q=>⟨v,H',J.os,J.bare,J.base,J.hok,rv,q⟩
  cases fl with
  | ret u=>
    obtain⟨v,bE,H',J,rv,q⟩:=hs;exact cn J rv q
  | next=>
    obtain⟨bE,H',J,q⟩:=hs;exact cn (v:=V.non) (u:=Value.none) J rfl q
  | brk=>
    obtain⟨_,_,_,q⟩:=hs;exact False.elim q
  | cont=>
    obtain⟨_,_,_,q⟩:=hs;exact False.elim q
section
variable{es:List Expr}{t:TA}{id T:String}{r:List V->Hp->VK->Prop}
def tCB(r:List V->Hp->VK->Prop)(t:TA):TE:=λσ H Q=>t σ H λvs H1=>r vs H1 Q
theorem X1(hc:E4 X (.builtin id) r)(hg:Gl X x)(hm:X.mg x=none)(hv:bootBuiltins x=some (.builtin id))(ha:PA X (e::es) t)(hn:x≠"__name__":=by decide)(hdb:(x==("__debug__":Str))=false:=by decide)
 (he:starEach (e::es) X.env=(false,eval e X.env)::starEach es X.env:=by rfl) (hpl:(backTo pos (starEach es X.env)).any (·.1)=false:=by rfl):PE X (.Call (.Name x p) (e::es) [] pos) (tCB r t):=by
 intro bp s σ H Q I h;refine gj (a0E I hg hm hv ?_ hn hdb);exact PyProof.Rows.callWith_builtin1 (thn (ha pos bp s σ H _ I h) λus s1 ⟨vs,H1,I1,r1,q1⟩=>hc bp s1 σ H1 vs us Q I1 r1 q1) he hpl
theorem T8(hc:E4 X (.type T) r)(hg:Gl X x)(hm:X.mg x=none)(hv:bootBuiltins x=some (.type T))(ha:PA X (e::es) t)(hn:x≠"__name__":=by decide)(hdb:(x==("__debug__":Str))=false:=by decide)
 (he:starEach (e::es) X.env=(false,eval e X.env)::starEach es X.env:=by rfl) (hpl:(backTo pos (starEach es X.env)).any (·.1)=false:=by rfl):PE X (.Call (.Name x p) (e::es) [] pos) (tCB r t):=by
 intro bp s σ H Q I h;refine gj (a0E I hg hm hv ?_ hn hdb);exact fD (thn (ha pos bp s σ H _ I h) λus s1 ⟨vs,H1,I1,r1,q1⟩=>hc bp s1 σ H1 vs us Q I1 r1 q1) he hpl
end
end L2
namespace HT
open PySem PyProof.Rows
variable{b:Addr}{items:Array Value}{Q:Value->Shared->Prop}{sl:Addr}{vl:Value}{vu:Value}{lo:Option Int}{hi:Option Int}
section
variable{prog:Program}{w:World}{A:Around}{E:Value->Shared->Prop}{s:Shared}
theorem b4q{t:Addr}{vs ws:List Value}(ht:IsTup s.heap t vs.toArray)(hb:IsTup s.heap b ws.toArray)(hv:vs≠[])
 (h1:ws=[]->Q (.ref t) s) (h2:ws≠[]->Q (.ref s.heap.objs.size) {s with heap:=s.heap.push {cls:=.type "tuple",data:=.seq (vs++ws).toArray}})
 (hsz:vs.length+ws.length<=sizeLine):wpAny (model prog w) A (binaryOp .Add (.ref t) (.ref b)) Q E s:=by
 obtain⟨⟨cls,dd,data,sl⟩,ho,hc,n,hd⟩:=id ht;obtain⟨⟨cls2,dd2,data2,sl2⟩,ho2,hc2,n2,hd2⟩:=id hb;simp only at hc hd hc2 hd2;subst hc hd hc2 hd2;have e:vs.toArray++ws.toArray=(vs++ws).toArray:=by simp
 by_cases hw:ws=[]
 · exact concat_meets ⟨_,ho,rfl⟩ ⟨_,ho2,rfl⟩ noFill_tuple_add seq_tuple_add slot_tuple_add entry_tuple_add (args_tuple_add_2 _ _)
    (tuple_addW1 t b vs.toArray ws.toArray n n2 dd dd2 sl sl2 (by simpa using hv) (by simp[hw])) ⟨ho,ho2,h1 hw⟩
 · refine concat_meets ⟨_,ho,rfl⟩ ⟨_,ho2,rfl⟩ noFill_tuple_add seq_tuple_add slot_tuple_add entry_tuple_add (args_tuple_add_2 _ _)
    (tuple_addW2 t b vs.toArray ws.toArray n n2 dd dd2 sl sl2 (by simpa using hv) (by simpa using hw) (by rw[size_toArray,size_toArray];exact hsz)) ⟨ho,ho2,?_⟩
   rw[e];exact h2 hw
def sIx(n d:Nat):Option Int->Nat
 |none=>d
 |some v=>if v<0 then(v+(n:Int)).toNat else min v.toNat n
theorem b5r(n d:Nat)(hd:d<=n)(o:Option Int):sIx n d o<=n:=by
 cases o with
 |none=>exact hd
 |some v=>
  show(if v<0 then(v+(n:Int)).toNat else min v.toNat n)<=n
  by_cases hv:v<0
  · rw[ay hv];omega
  · rw[az hv];exact Nat.min_le_right _ _
theorem a8k(v:Int)(n d:Nat):(if v<0 then max (v+(n:Int)) 0 else min v (n:Int))=((sIx n d (some v):Nat):Int):=by
 show(if v<0 then max (v+(n:Int)) 0 else min v (n:Int))=(((if v<0 then(v+(n:Int)).toNat else min v.toNat n):Nat):Int)
 by_cases hv:v<0
 · simp only[ay hv];omega
 · simp only[az hv];omega
theorem a7s(lo hi:Option Int)(n:Nat):sliceAdjust lo hi 1 (n:Int)=(((sIx n 0 lo:Nat):Int),((sIx n n hi:Nat):Int)):=by
 have h1:¬((1:Int)<0):=by omega
 unfold sliceAdjust;simp only[h1,fB];refine Prod.ext ?_ ?_
 · cases lo with
   |none=>rfl
   |some v=>exact a8k v n 0
 · cases hi with
   |none=>rfl
   |some v=>exact a8k v n n
theorem a6Q(i j:Nat):slicePlaces (i:Int) (j:Int) 1=j-i:=by
 unfold slicePlaces;have h1:(1:Int)>0:=by omega
 simp only[h1,fk,Int.ediv_one];split<;>omega
theorem a2O{v:Value}{o:Option Int}{Q:Option Int->Shared->Prop}(p:IsPart v o)(h:Q o s):wpAny (model prog w) A (Builtin.Slice.slicePartIndex v) Q E s:=by
 cases p with
 |none=>exact slicePart_none h
 |int i t=>exact slicePart_int h
theorem a1v{n:Nat}{Q:Int×Int×Nat->Shared->Prop}(hs:s.heap.IsSliceOf sl vl vu .none)(pl:IsPart vl lo)(pu:IsPart vu hi)
 (h:Q (((sIx n 0 lo:Nat):Int),1,sIx n n hi-sIx n 0 lo) s):wpAny (model prog w) A (sliceApplied (.ref sl) (pure (n:Int))) Q E s:=by
 obtain⟨os,hos,hcs,hds⟩:=id hs;unfold sliceApplied sliceFields;refine eP (eP (fm hos hds (x:=vl) rfl (eP (fm hos hds (x:=vu) rfl (eP (fm hos hds (x:=.none) rfl (eR ?_)))))));refine eP (slicePart_none ?_);show wpAny _ _ (if((1:Int)==0)=true then _ else _) _ _ s;rw[az (by decide)];refine eP (a2O pl (eP (a2O pu (eP (eR ?_)))));show wpAny _ _ (match sliceAdjust lo hi 1 (n:Int) with|(lo,hi)=>pure (lo,(1:Int),slicePlaces lo hi 1)) _ _ s;rw[a7s lo hi n];show wpAny _ _ (pure (((sIx n 0 lo:Nat):Int),(1:Int),slicePlaces ((sIx n 0 lo:Nat):Int) ((sIx n n hi:Nat):Int) 1)) _ _ s;rw[a6Q];exact eR h
theorem b0k(xs:Array Value)(i k:Nat):((List.range k).filterMap fun(m:Nat)=>xs[((i:Int)+(m:Int)*1).toNat]?).toArray=((xs.toList.drop i).take k).toArray:=by
 have e:(fun(m:Nat)=>xs[((i:Int)+(m:Int)*1).toNat]?)=λm=>xs[i+m]? :=by
  funext m
  have:((i:Int)+(m:Int)*1).toNat=i+m:=by omega
  rw[this]
 rw[e];have:=pick_run xs i k;rw[List.filterMap_map] at this;have e2:((λx=>xs[x]?)∘λx=>i+x)=λm=>xs[i+m]? :=rfl;rw[e2] at this;rw[this]
theorem a1f{t:Addr}(ht:IsTup s.heap t items)(hs:s.heap.IsSliceOf sl vl vu .none)(pl:IsPart vl lo)(pu:IsPart vu hi)
 (hw:¬(sIx items.size 0 lo=0/\sIx items.size items.size hi=items.size))
 (h:Q (.ref s.heap.objs.size) {s with heap:=s.heap.push {cls:=.type "tuple",data:=.seq ((items.toList.drop (sIx items.size 0 lo)).take (sIx items.size items.size hi-sIx items.size 0 lo)).toArray}})
 (hsz:items.size<=sizeLine):wpAny (model prog w) A (getItem (.ref t) (.ref sl)) Q E s:=by
 have htake:sizeOk (.seq ((items.toList.drop (sIx items.size 0 lo)).take (sIx items.size items.size hi-sIx items.size 0 lo)).toArray):=by show((items.toList.drop (sIx items.size 0 lo)).take (sIx items.size items.size hi-sIx items.size 0 lo)).toArray.size<=sizeLine;rw[size_toArray,aJ,bm,Array.length_toList];omega
 have hj:sIx items.size items.size hi<=items.size:=b5r _ _ (aj _) hi;obtain⟨os,hos,hcs,hds⟩:=id hs;have hTs:s.TypeIs (.ref sl) "slice":=⟨os,hos,hcs⟩;unfold getItem
 try with_reducible refine fT ?_
 first|refine eP (eR ?_)|skip
 refine eP (wpAny_sequenceKey ht.typeIs (by decide) ?_);refine eP (fz (name:=Str.ofString "__getitem__") ht.typeIs PyProof.Rows.slot_tuple_getitem
  (gb PyProof.Rows.slot_tuple_getitem ht.typeIs entry_tuple_getitem ?_ (args_tuple_getitem _ _)))
 show wpAny _ _ (Builtin.Tuple.tupleItemsOf (.ref t)>>=_) _ _ s;refine eP (tupleItemsOf_ ht ?_);refine eP (wpAny_typeOf hTs ?_);rw[ay (by decide)];refine eP (a1v hs pl pu ?_);have hno:¬((((sIx items.size 0 lo:Nat):Int)==0&&(1:Int)==1&&(sIx items.size items.size hi-sIx items.size 0 lo)==items.size)=true):=by intro q;rw[af,af] at q;have q1:((sIx items.size 0 lo:Nat):Int)=0:=eq_of_beq q.1.1;have q2:sIx items.size items.size hi-sIx items.size 0 lo=items.size:=eq_of_beq q.2;exact hw ⟨by omega,by omega⟩
 show wpAny _ _ (if(((sIx items.size 0 lo:Nat):Int)==0&&(1:Int)==1&&(sIx items.size items.size hi-sIx items.size 0 lo)==items.size)=true then _ else _) _ _ s;rw[az hno,b0k]
 first
  |exact eP (m:=Builtin.Tuple.tupleExact _) (fL (eR ⟨_,rfl,eR h⟩) htake)
  |exact eP (m:=Builtin.Tuple.tupleExact _) (fL (eP (eR (eR ⟨_,rfl,eR h⟩))) htake)
  |exact eP (eP (m:=Builtin.Tuple.tupleExact _) (fL (eR (eR ⟨_,rfl,eR h⟩)) htake))
  |exact eP (eP (m:=Builtin.Tuple.tupleExact _) (fL (eR ⟨_,rfl,eR h⟩) htake))
end
end HT
namespace L2
open PySem PySem.Spec PyProof.Rows
abbrev TO:=St->Hp->(Option Int->Hp->Prop)->Prop
def PO(X:Cx)(e:Option Expr)(t:TO):Prop:=
 ∀(bp:List (Addr×Obj)) (s:Shared) (σ:St) (H:Hp) (Q:Option Int->Hp->Prop),Inv X bp σ H s->t σ H Q→
  wpAny (model X.prog X.w) X.A (evalPart e X.env) (λu s'=>∃o H',Inv X bp σ H' s'/\IsPart u o/\Q o H') X.xe s
def b2y:TO:=λ_ H Q=>Q none H
def b8b(t:TE):TO:=λσ H Q=>t σ H λx H1=>∃i,x=.int i/\Q (some i) H1
variable{ns:List Int}{r:V->Option Int->Option Int->Hp->VK->Prop}{us:List Value}
section
variable{X:Cx}{e:Expr}{te:TE}{lo hi:Option Expr}{tl th:TO}{pos p2:Pos}
theorem b2V:PO X none b2y:=by intro bp s σ H Q I h;rw[evalPart_none];exact eR ⟨none,H,I,.none,h⟩
theorem b2U(h:PE X e te):PO X (some e) (b8b te):=by intro bp s σ H Q I hw;rw[evalPart_some];refine thn (h bp s σ H _ I hw) λu s1 zz=>?_;obtain⟨x,H1,I1,r1,q1⟩:=zz;obtain⟨i,rfl,q⟩:=q1;obtain⟨t,rfl⟩:=r1;exact⟨some i,H1,I1,.int i t,q⟩
def SlR(X:Cx)(r:V->Option Int->Option Int->Hp->VK->Prop):Prop:=
 ∀(bp:List (Addr×Obj)) (s:Shared) (σ:St) (H:Hp) (x:V) (v vl vu:Value) (lo hi:Option Int) (sl:Addr) (Q:VK),Inv X bp σ H s->i8 x v->s.heap.IsSliceOf sl vl vu .none->IsPart vl lo->IsPart vu hi->r x lo hi H Q→
  ∃T id,typeLookup (.type T) "__getitem__"=pure (some (.builtin id))/\s.TypeIs v T/\wpAny (model X.prog X.w) X.A (getItem v (.ref sl)) (EP X bp σ Q) X.xe s
def tSl(r:V->Option Int->Option Int->Hp->VK->Prop)(te:TE)(tl th:TO):TE:=λσ H Q=>te σ H λx H1=>tl σ H1 λl H2=>th σ H2 λu H3=>r x l u H3 Q
theorem b0o(hr:SlR X r)(he:PE X e te)(hl:PO X lo tl)(hu:PO X hi th):PE X (.Subscript e (.Slice lo hi none p2) pos) (tSl r te tl th):=by intro bp s σ H Q I h;refine Subscript_ (thn (he bp s σ H _ I h) λv s1 zz=>?_);obtain⟨x,H1,I1,r1,q1⟩:=zz;refine wpAny_Slice (thn (hl bp s1 σ H1 _ I1 q1) λvl s2 ⟨l,H2,I2,pl,q2⟩=>thn (hu bp s2 σ H2 _ I2 q2) λvu s3 zz=>?_);obtain⟨u,H3,I3,pu,q3⟩:=zz;rw[evalPart_none];refine eR ?_;have I4:Inv X bp σ H3 {s3 with heap:=s3.heap.push {cls:=.type "slice",data:=.fields #[vl,vu,.none]}}:=I3.kept (t':=s3.toks) λb ob q=>eQ _ q;obtain⟨T,id,hT,ht,hg⟩:=hr bp {s3 with heap:=s3.heap.push {cls:=.type "slice",data:=.fields #[vl,vu,.none]}} σ H3 x v vl vu l u s3.heap.objs.size Q I4 r1 (Heap.IsSliceOf.new ..) pl pu q3;show wpAny (model X.prog X.w) X.A (subscriptTail e (.Slice lo hi none p2) v (.ref s3.heap.objs.size)) (EP X bp σ Q) X.xe {s3 with heap:=s3.heap.push {cls:=.type "slice",data:=.fields #[vl,vu,.none]}};exact tail_any (ops:=[.ref s3.heap.objs.size,v]) ht hT hg (by with_unfolding_all rfl)
noncomputable def a6v(xs:List V)(lo hi:Option Int):List V:=(xs.drop (HT.sIx xs.length 0 lo)).take (HT.sIx xs.length xs.length hi-HT.sIx xs.length 0 lo)
theorem a2e(xs:List V)(lo hi:Option Int):(a6v xs lo hi).length<=xs.length:=by unfold a6v;rw[aJ,bm];omega
def c0W(K:Frag):V->Option Int->Option Int->Hp->VK->Prop:=λx lo hi H Q=>∃a xs,x=.ref a/\SqT K H a xs∧
 ¬(HT.sIx xs.length 0 lo=0/\HT.sIx xs.length xs.length hi=xs.length)/\∀p,H p=none->Q (.ref p) (upd H p (.tup (a6v xs lo hi)))
theorem b5n:SlR X (c0W X.K):=by
 intro bp s σ H x v vl vu lo hi sl Q I rx hs pl pu h;obtain⟨a,xs,rfl,hx,hw,q⟩:=h;cases rx;obtain⟨bt,r,ht,hz⟩:=I.tuple hx;have bL:bt.toArray.size=xs.length:=by rw[size_toArray];exact r.length.symm
 refine⟨"tuple",_,PyProof.Rows.slot_tuple_getitem.lookup,ht.typeIs,?_⟩;refine HT.a1f ht hs pl pu (by rw[bL];exact hw) ?_ (by rw[bL];exact hz);rw[bL];refine⟨.ref s.heap.objs.size,_,I.laid (t':=s.toks) (o:=.tup (a6v xs lo hi)) (λb ob q=>eQ _ q) (aj _) ?_,rfl,q _ (I.hok.fresh (aj _))⟩;exact⟨aO (a2e xs lo hi) hz,_,(r.drop (HT.sIx xs.length 0 lo)).take (HT.sIx xs.length xs.length hi-HT.sIx xs.length 0 lo),a0b.new _ _⟩
noncomputable def b8C(K:Frag):R2:=λx y H Q=>∃a b xs ys,x=.ref a/\y=.ref b/\SqT K H a xs/\SqT K H b ys/\xs≠[]/\xs.length+ys.length<=sizeLine∧
 (ys=[]->Q (.ref a) H)/\(ys≠[]->∀p,H p=none->Q (.ref p) (upd H p (.tup (xs++ys))))
theorem k8.nil_iff{xs:List V}(r:k8 xs us):us=[]↔xs=[]:=by
 cases r with
 |nil=>simp
 |cons _ _=>simp
theorem b3n:OpR X (binaryOp .Add) (b8C X.K):=by intro bp s σ H x y v u Q I rx ry h;obtain⟨a,b,xs,ys,rfl,rfl,ha,hb,hx,hz,q1,q2⟩:=h;cases rx;cases ry;obtain⟨bt,r1,p1,_⟩:=I.tuple ha;obtain⟨bI,r2,p2,_⟩:=I.tuple hb;refine HT.b4q p1 p2 (λz=>hx (r1.nil_iff.mp z)) (λz=>⟨.ref a,H,I,rfl,q1 (r2.nil_iff.mp z)⟩) (λz=>?_) (by rw[←r1.length,←r2.length];exact hz);refine⟨.ref s.heap.objs.size,_,I.laid (t':=s.toks) (o:=.tup (xs++ys)) (λb ob q=>eQ _ q) (aj _) ?_,rfl,q2 (λw=>z (r2.nil_iff.mpr w)) _ (I.hok.fresh (aj _))⟩;exact⟨by rw[aq];exact hz,_,r1.append r2,a0b.new _ _⟩
end
noncomputable def ixN(n:Nat)(i:Int):Option Nat:=if 0<=i then(if i<n then some i.toNat else none) else if-(n:Int)<=i then some (i+n).toNat else none
def atI{α:Type}(xs:List α)(i:Int):Option α:=(ixN xs.length i).bind λj=>xs[j]?
variable{n:Nat}{j:Nat}
theorem a7Q{i:Int}(h:ixN n i=some j):seqIndex? i n=some j/\j<n/\ -(n:Int)<=i/\i<n:=by
 unfold ixN at h
 by_cases h0:0<=i
 · rw[ay h0] at h
   by_cases h1:i<n
   · rw[ay h1] at h;have e:i.toNat=j:=ax h;exact⟨by rw[seqIndex_of h0 h1,e],by omega,by omega,h1⟩
   · rw[az h1] at h;cases h
 · rw[az h0] at h
   by_cases h1: -(n:Int)<=i
   · rw[ay h1] at h;have e:(i+n).toNat=j:=ax h;exact⟨by rw[seqIndex_neg (by omega) h1,e],by omega,h1,by omega⟩
   · rw[az h1] at h;cases h
variable{α:Type}
theorem a5u{xs:List α}{i:Int}{v:α}(h:atI xs i=some v):∃j,seqIndex? i xs.length=some j/\xs[j]? =some v/\j<xs.length/\ -(xs.length:Int)<=i/\i<xs.length:=by
 unfold atI at h;cases e:ixN xs.length i with
 |none=>rw[e] at h;cases h
 |some j=>
  rw[e] at h;obtain⟨h1,h2,h3,h4⟩:=a7Q e;exact⟨j,h1,h,h2,h3,h4⟩
def a2B(b:Expr):Prop:=∀o i,subscripted b false o i=operate [o,i] (getItem o i)
def IxR(X:Cx)(r:R2):Prop:=
 ∀(value slice:Expr) (bp:List (Addr×Obj)) (s:Shared) (σ:St) (H:Hp) (x y:V) (v u:Value) (Q:VK),Inv X bp σ H s->i8 x v->i8 y u->r x y H Q→
  subscripted slice false v u=operate [v,u] (getItem v u)->wpAny (model X.prog X.w) X.A (subscriptTail value slice v u) (EP X bp σ Q) X.xe s
def MtR(X:Cx)(id:String)(r:V->List V->Hp->VK->Prop):Prop:=
 ∀(bp:List (Addr×Obj)) (s:Shared) (σ:St) (H:Hp) (x:V) (xs:List V) (v:Value) (us:List Value) (Q:VK),Inv X bp σ H s->i8 x v->k8 xs us->r x xs H Q→
  wpAny (model X.prog X.w) X.A (call (.builtin id) (v::us)) (EP X bp σ Q) X.xe s
variable{id:String}{bp:List (Addr×Obj)}{σ:St}{H:Hp}{bt:List Value}{its':List Value}{A:Around}{y:V}{u:Value}
section
variable{X:Cx}{a b:Expr}{ta tb:TE}{pos:Pos}
theorem b4H{r:R2}(hr:IxR X r)(ha:PE X a ta)(hb:PE X b tb)(hs:a2B b):PE X (.Subscript a b pos) (tOp r ta tb):=by intro bp s σ H Q I h;exact Subscript_ (b7u ha hb I h λv u s2 x y H2 I2 rx ry q=>hr a b bp s2 σ H2 x y v u Q I2 rx ry q (hs _ _))
def c1c(K:Frag):R2:=λx y H Q=>∃p xs i v,x=.ref p/\y=.int i/\SqL K H p xs/\atI xs i=some v/\Q v H
def c1a(K:Frag):R2:=λx y H Q=>∃p xs i v,x=.ref p/\y=.int i/\SqT K H p xs/\atI xs i=some v/\Q v H
noncomputable def c1b:R2:=λx y H Q=>∃z i c,x=.str z/\y=.int i/\z.length<=sizeLine/\atI z.cps.toList i=some c/\Q (.str ⟨#[c]⟩) H
theorem a7P:IxR X (c1c X.K):=by
 intro value slice bp s σ H x y v u Q I rx ry h hs;obtain⟨p,xs,i,z,rfl,rfl,hq,he,q⟩:=h;cases rx;obtain⟨t,rfl⟩:=ry;obtain⟨bt,r,pl,hz⟩:=I.list hq;obtain⟨j,h1,h2,h3,h4,h5⟩:=a5u he;obtain⟨w,ew,cw⟩:=r.get h2;have hl:=r.length;have hn:=a0D;have cn:EP X bp σ Q w s:=⟨z,H,I,cw,q⟩
 by_cases h0:0<=i
 · have hj:i.toNat=j:=by rw[seqIndex_of h0 h5] at h1;exact ax h1
   exact item_listR pl.isList h0 (by omega) (by rw[hj];simpa using ew) cn hs
 · have hj:(i+(bt.toArray.size:Int)).toNat=j:=by rw[seqIndex_neg (by omega) h4] at h1;rw[size_toArray,←hl];exact ax h1
   exact subscriptTail_builtinR (x:=w) pl.isList.typeIs slot_list_getitem.lookup
    (wpAny_getItem_list_neg (Q:=λr s'=>r=w/\EP X bp σ Q r s') pl.isList (by omega) (by rw[size_toArray]<;>omega) (by omega) (by rw[hj];simpa using ew) ⟨rfl,cn⟩) hs
theorem ix_tup:IxR X (c1a X.K):=by
 intro value slice bp s σ H x y v u Q I rx ry h hs;obtain⟨p,xs,i,z,rfl,rfl,hq,he,q⟩:=h;cases rx;obtain⟨t,rfl⟩:=ry;obtain⟨bt,r,pl,hz⟩:=I.tuple hq;obtain⟨j,h1,h2,h3,h4,h5⟩:=a5u he;obtain⟨w,ew,cw⟩:=r.get h2;have hl:=r.length;have hn:=a0D;have cn:EP X bp σ Q w s:=⟨z,H,I,cw,q⟩;exact subscriptTail_builtinR (x:=w) pl.typeIs slot_tuple_getitem.lookup
  (getItem_tuple (j:=j) (Q:=λr s'=>r=w/\EP X bp σ Q r s') pl (by omega) (by omega) (by rw[size_toArray,←hl];exact h1) (by simpa using ew) ⟨rfl,cn⟩) hs
theorem ix_str:IxR X c1b:=by
 intro value slice bp s σ H x y v u Q I rx ry h hs;obtain⟨z,i,c,rfl,rfl,hz,he,q⟩:=h;obtain⟨t,rfl⟩:=rx;obtain⟨t',rfl⟩:=ry;obtain⟨j,h1,h2,h3,h4,h5⟩:=a5u he;have hl:z.cps.toList.length=z.length:=by simp[Str.length]
 rw[hl] at h1 h4 h5;have hn:=a0D;exact tail_any (typeIs_str s z t) slot_str_getitem.lookup (getItem_str (c:=c) (by have e1:decide (i< -(2^63:Int))=false:=bj (by omega);have e2:decide (i≥2^63)=false:=bj (by omega);rw[e1,e2,Bool.or_false]) (by rw[h1];simpa using h2) ⟨.str ⟨#[c]⟩,H,I.tok _,⟨_,rfl⟩,q⟩) hs
theorem a6X(bt:List Value)(n j:Nat)(u:Value):Obj.mapSeq (·.setIfInBounds j u) {cls:=.type "list",data:=.seq bt.toArray n}={cls:=.type "list",data:=.seq (bt.set j u).toArray n}:=by simp[Obj.mapSeq]
theorem Inv.lst{bp:List (Addr×Obj)}{σ:St}{H:Hp}{s:Shared}{p:Addr}{xs:List V}(I:Inv X bp σ H s)(h:H p=some (.lst xs)):
 ∃(bt:List Value) (n:Nat),k8 xs bt/\s.heap.get? p=some {cls:=.type "list",data:=.seq bt.toArray n}/\xs.length<=sizeLine:=by
 obtain⟨z,bt,n,r,e⟩:=I.hok p _ h;exact⟨bt,n,r,e,z⟩
theorem Inv.lstUpd{s:Shared}{p:Addr}{xs ys:List V}{n':Nat}{f:Obj->Obj}(I:Inv X bp σ H s)(h:H p=some (.lst xs))
 (ho:s.heap.get? p=some {cls:=.type "list",data:=.seq bt.toArray n}) (hf:f {cls:=.type "list",data:=.seq bt.toArray n}={cls:=.type "list",data:=.seq its'.toArray n'}) (r:k8 ys its') (hz:ys.length<=sizeLine) (t:Nat):
 Inv X bp σ (upd H p (.lst ys)) {s with heap:=s.heap.update p f,toks:=t}:=by
 have e:(s.heap.update p f).get? p=some {cls:=.type "list",data:=.seq its'.toArray n'}:=by rw[fv f ho (by rw[hf]<;>rfl),hf]
 refine I.write (x:=p) (e:=p) (by rw[h];trivial) (.inl rfl) (λb u hb q=>(fE _ _ (ff hb)).trans q) ⟨_,e⟩ ?_;exact⟨hz,its',n',r,e⟩
def b8x:V->V->V->Hp->(Hp->Prop)->Prop:=λo i v H Q=>∃p xs k j,o=.ref p/\i=.int k/\H p=some (.lst xs)/\ixN xs.length k=some j/\Q (upd H p (.lst (xs.set j v)))
theorem a9I:b7O X b8x:=by
 intro bp s σ H o i v ov iv u Q I ro ri rv h;obtain⟨p,xs,k,j,rfl,rfl,hp,hj,q⟩:=h;cases ro;obtain⟨t,rfl⟩:=ri;obtain⟨bt,n,r,ho,hz⟩:=I.lst hp;obtain⟨h1,h2,h3,h4⟩:=a7Q hj;have hl:=r.length;have hn:=a0D;have I':Inv X bp σ (upd H p (.lst (xs.set j v))) {s with heap:=s.heap.update p (Obj.mapSeq (·.setIfInBounds j u))}:=
  I.lstUpd hp ho (a6X bt n j u) (r.set rv j) (by rw[aK];exact hz) s.toks
 by_cases h0:0<=k
 · have hk:k.toNat=j:=by rw[seqIndex_of h0 h4] at h1;exact ax h1
   exact PySem.W.ki_setAt ho h0 (by omega) (by rw[size_toArray,←hl];exact h4) (by rw[hk];exact⟨_,I',q⟩)
 · have hk:(k+(bt.toArray.size:Int)).toNat=j:=by rw[seqIndex_neg (by omega) h3] at h1;rw[size_toArray,←hl];exact ax h1
   exact PySem.W.ki_setBack ho (by omega) (by rw[size_toArray,←hl];exact h3) (by omega) (by rw[hk];exact⟨_,I',q⟩)
theorem a4z(lo hi:Option Int)(n:Nat):(sliceBounds lo hi none n).1=((HT.sIx n 0 lo:Nat):Int)/\(sliceBounds lo hi none n).2.1=((HT.sIx n n hi:Nat):Int)/\(sliceBounds lo hi none n).2.2=1:=by
 refine⟨?_,?_,rfl⟩
 · cases lo with
   |none=>simp[sliceBounds,HT.sIx]
   |some i=>
    simp only[sliceBounds,HT.sIx,Option.getD_none,show(1:Int)>0 by decide,fk]
    by_cases h:i<0
    · simp only[h,fk]<;>omega
    · simp only[h,fB]<;>omega
 · cases hi with
   |none=>simp[sliceBounds,HT.sIx]
   |some i=>
    simp only[sliceBounds,HT.sIx,Option.getD_none,show(1:Int)>0 by decide,fk]
    by_cases h:i<0
    · simp only[h,fk]<;>omega
    · simp only[h,fB]<;>omega
theorem a3C(bt:List Value)(lo hi:Option Int):slicePick bt.toArray lo hi none=((bt.drop (HT.sIx bt.length 0 lo)).take (HT.sIx bt.length bt.length hi-HT.sIx bt.length 0 lo)).toArray:=by obtain⟨h1,h2,h3⟩:=a4z lo hi bt.toArray.size;unfold slicePick;rw[h1,h2,h3];simp only[sliceRange_one,pick_run,size_toArray]<;>rfl
def c0Y(K:Frag):V->Option Int->Option Int->Hp->VK->Prop:=λx lo hi H Q=>∃a xs,x=.ref a/\SqL K H a xs/\∀p,H p=none->Q (.ref p) (upd H p (.lst (a6v xs lo hi)))
theorem b2D:SlR X (c0Y X.K):=by intro bp s σ H x v vl vu lo hi sl Q I rx hs pl pu h;obtain⟨a,xs,rfl,hx,q⟩:=h;cases rx;obtain⟨bt,r,ht,hz⟩:=I.list hx;have bL:=r.length;refine⟨"list",_,slot_list_getitem.lookup,ht.isList.typeIs,?_⟩;refine wpAny_getItem_list_slice ht.isList hs pl pu .none ⋯ ?_ (by rw[size_toArray]<;>omega);rw[a3C,←bL];refine⟨.ref s.heap.objs.size,_,I.laid (t':=s.toks) (o:=.lst (a6v xs lo hi)) (λb ob q=>eQ _ q) (aj _) ?_,rfl,q _ (I.hok.fresh (aj _))⟩;exact⟨aO (a2e xs lo hi) hz,_,0,(r.drop (HT.sIx xs.length 0 lo)).take (HT.sIx xs.length xs.length hi-HT.sIx xs.length 0 lo),eU _ rfl⟩
def a0u:V->Bool
 |.non=>true
 |.bl _=>true
 |.int _=>true
 |.str _=>true
 |_=>false
noncomputable def eqV:V->V->Bool
 |.non,.non=>true
 |.bl a,.bl b=>a==b
 |.bl a,.int b=>(if a then 1 else 0)==b
 |.int a,.bl b=>a==(if b then 1 else 0)
 |.int a,.int b=>a==b
 |.str a,.str b=>a==b
 |_,_=>false
theorem b1K{s:Shared}{x:V}{v:Value}(ry:i8 y u)(rx:i8 x v)(fy:a0u y=true)(fx:a0u x=true):SeqAt.EqAt A s u v (eqV y x):=by
 cases y with
 |non=>
  cases ry;cases x with
  |non=>cases rx;exact SeqAt.EqAt.same _
  |bl b=>cases rx;exact SeqAt.EqAt.none_bool b
  |int b=>obtain⟨t,rfl⟩:=rx;exact SeqAt.EqAt.none_int b t
  |str b=>obtain⟨t,rfl⟩:=rx;exact SeqAt.EqAt.none_str b t
  |_=>exact absurd (show false=true from fx) bg
 |bl a=>
  cases ry;cases x with
  |non=>cases rx;exact SeqAt.EqAt.bool_none a
  |bl b=>cases rx;exact SeqAt.EqAt.bool_bool a b
  |int b=>obtain⟨t,rfl⟩:=rx;exact SeqAt.EqAt.bool_int a b t
  |str b=>obtain⟨t,rfl⟩:=rx;exact SeqAt.EqAt.bool_str a b t
  |_=>exact absurd (show false=true from fx) bg
 |int a=>
  obtain⟨t',rfl⟩:=ry;cases x with
  |non=>cases rx;exact SeqAt.EqAt.int_none a t'
  |bl b=>cases rx;exact SeqAt.EqAt.int_bool a t' b
  |int b=>obtain⟨t,rfl⟩:=rx;exact SeqAt.EqAt.int_int a t' b t
  |str b=>obtain⟨t,rfl⟩:=rx;exact SeqAt.EqAt.int_str a t' b t
  |_=>exact absurd (show false=true from fx) bg
 |str a=>
  obtain⟨t',rfl⟩:=ry;cases x with
  |non=>cases rx;exact SeqAt.EqAt.str_none a t'
  |bl b=>cases rx;exact SeqAt.EqAt.str_bool a t' b
  |int b=>obtain⟨t,rfl⟩:=rx;exact SeqAt.EqAt.str_int a t' b t
  |str b=>obtain⟨t,rfl⟩:=rx;exact SeqAt.EqAt.str_str a t' b t
  |_=>exact absurd (show false=true from fx) bg
 |_=>exact absurd (show false=true from fy) bg
def eqU(x:V)(u:Value):Bool:=match u with
 |.none=>eqV .non x
 |.bool b=>eqV (.bl b) x
 |.int i _=>eqV (.int i) x
 |.str z _=>eqV (.str z) x
 |_=>false
theorem b1G{x:V}(r:i8 y u)(f:a0u y=true):eqU x u=eqV y x:=by
 cases y with
 |non=>cases r;rfl
 |bl b=>cases r;rfl
 |int i=>obtain⟨t,rfl⟩:=r;rfl
 |str z=>obtain⟨t,rfl⟩:=r;rfl
 |_=>exact absurd (show false=true from f) bg
theorem a1p{x:V}:∀{xs:List V} {us:List Value},k8 xs us->xs.all a0u=true->us.any (eqU x)=xs.any λy=>eqV y x
 |_,_,.nil,_=>rfl
 |y::xs,u::us,.cons r t,f=>by rw[all_cons,af] at f;rw[any_cons,any_cons,b1G r f.1,a1p t f.2]
theorem X9{A:Around}{s:Shared}{x:V}{v:Value}(rx:i8 x v)(fx:a0u x=true):∀{xs:List V} {us:List Value},k8 xs us->xs.all a0u=true->∀u∈us,SeqAt.EqAt A s u v (eqU x u)
 |_,_,.nil,_=>λu hu=>by cases hu
 |y::xs,u::us,.cons r t,f=>λu' hu=>by
  rw[all_cons,af] at f;rcases aE.mp hu with rfl|hu
  · rw[b1G r f.1];exact b1K r rx f.1 fx
  · exact X9 rx fx t f.2 u' hu
def inV(x:V)(xs:List V):Bool:=xs.any λy=>eqV y x
def rIn(K:Frag)(neg:Bool):R2:=λx y H Q=>∃p xs,y=.ref p/\(SqL K H p xs∨SqT K H p xs)/\a0u x=true/\xs.all a0u=true/\Q (.bl (if neg then !inV x xs else inV x xs)) H
theorem a0g:OpR X (compareOp .In) (rIn X.K false):=by
 intro bp s σ H x y v u Q I rx ry h;obtain⟨p,xs,rfl,hq,fx,fs,q⟩:=h;cases ry;rcases hq with hq|hq
 · obtain⟨bt,r,pl,hz⟩:=I.list hq;refine SeqAt.in_listAt (eqU x) pl.isList (λw hw=>X9 rx fx r fs w (by simpa using hw)) ⟨.bl _,H,I,rfl,?_⟩;rw[show bt.toArray.any (eqU x)=bt.any (eqU x) by simp,a1p r fs];exact q
 · obtain⟨bt,r,pl,hz⟩:=I.tuple hq;refine SeqAt.in_tupleAt (eqU x) pl (λw hw=>X9 rx fx r fs w (by simpa using hw)) ⟨.bl _,H,I,rfl,?_⟩;rw[show bt.toArray.any (eqU x)=bt.any (eqU x) by simp,a1p r fs];exact q
theorem O3:OpR X (compareOp .NotIn) (rIn X.K true):=by
 intro bp s σ H x y v u Q I rx ry h;obtain⟨p,xs,rfl,hq,fx,fs,q⟩:=h;cases ry;rcases hq with hq|hq
 · obtain⟨bt,r,pl,hz⟩:=I.list hq;refine SeqAt.notIn_listAt (eqU x) pl.isList (λw hw=>X9 rx fx r fs w (by simpa using hw)) ⟨.bl _,H,I,rfl,?_⟩;rw[show bt.toArray.any (eqU x)=bt.any (eqU x) by simp,a1p r fs];exact q
 · obtain⟨bt,r,pl,hz⟩:=I.tuple hq;refine SeqAt.notIn_tupleAt (eqU x) pl (λw hw=>X9 rx fx r fs w (by simpa using hw)) ⟨.bl _,H,I,rfl,?_⟩;rw[show bt.toArray.any (eqU x)=bt.any (eqU x) by simp,a1p r fs];exact q
theorem a4M:OpR X (compareOp .NotIn) (λx y H Q=>∃i j,x=.str i/\y=.str j/\Q (.bl (!(!(occurrences j i 0 j.length 1).isEmpty))) H):=by intro bp s σ H x y v u Q I rx ry h;obtain⟨i,j,rfl,rfl,q⟩:=h;obtain⟨t,rfl⟩:=rx;obtain⟨t',rfl⟩:=ry;exact notIn_str ⟨.bl _,H,I,rfl,q⟩
theorem a1o:E4 X (.builtin "len") (λxs H Q=>∃p ys,xs=[.ref p]/\(SqL X.K H p ys∨SqT X.K H p ys)/\Q (.int ys.length) H):=by
 intro bp s σ H xs us Q I r h;obtain⟨p,ys,rfl,hq,q⟩:=h;obtain⟨u,rfl,rx⟩:=T4 r;cases rx;have hn:=a0D;rcases hq with hq|hq
 · obtain⟨bt,r',pl,hz⟩:=I.list hq;have bL:=r'.length;exact Calls.call_len_list pl.isList (by simp only[size_toArray]<;>omega) ⟨.int ys.length,H,I.tok _,⟨s.toks+1,by rw[size_toArray,bL]⟩,q⟩
 · obtain⟨bt,r',pl,hz⟩:=I.tuple hq;have bL:=r'.length;exact len_tuple pl (by simp only[size_toArray]<;>omega) ⟨.int ys.length,H,I.tok _,⟨s.toks+1,by rw[size_toArray,bL]⟩,q⟩
theorem a5q:E4 X (.builtin "len") (λxs H Q=>∃z,xs=[.str z]/\z.length<=sizeLine/\Q (.int z.length) H):=by intro bp s σ H xs us Q I r h;obtain⟨z,rfl,hz,q⟩:=h;obtain⟨u,rfl,t,rfl⟩:=T4 r;have hn:=a0D;exact len_str (by omega) ⟨.int z.length,H,I.tok _,⟨_,rfl⟩,q⟩
theorem a1n:E4 X (.type "list") (λxs H Q=>∃p ys,xs=[.ref p]/\(SqL X.K H p ys∨SqT X.K H p ys)/\∀l,H l=none->Q (.ref l) (upd H l (.lst ys))):=by
 intro bp s σ H xs us Q I r h;obtain⟨p,ys,rfl,hq,q⟩:=h;obtain⟨u,rfl,rx⟩:=T4 r;cases rx;have cn:∀(bt:List Value),k8 ys bt->ys.length<=sizeLine->∀(h':Heap) (c':Nat),(∀b o',s.heap.get? b=some o'->h'.get? b=some o')→
  h'.get? s.heap.objs.size=some {cls:=.type "list",dict:=none,data:=.seq bt.toArray c',slots:= #[]}->EP X bp σ Q (.ref s.heap.objs.size) {s with heap:=h'}:=λbt r' hz h' c' kp e=>
  ⟨.ref s.heap.objs.size,_,I.laid (t':=s.toks) kp (aj _) (show p8 X.prog X.w _ h' _ (.lst ys) from⟨hz,bt,c',r',e⟩),rfl,q _ (I.hok.fresh (aj _))⟩
 rcases hq with hq|hq
 · obtain⟨bt,r',pl,hz⟩:=I.list hq;have bL:=r'.length;obtain⟨o,ho,hc,n,hd⟩:=pl.isList;exact call_list_seq p (.inl rfl) ho hc hd (λh' c' kp e=>cn bt r' hz h' c' kp e) (by simp only[size_toArray]<;>omega)
 · obtain⟨bt,r',pl,hz⟩:=I.tuple hq;have bL:=r'.length;obtain⟨o,ho,hc,n,hd⟩:=pl;exact call_list_seq p (.inr rfl) ho hc hd (λh' c' kp e=>cn bt r' hz h' c' kp e) (by simp only[size_toArray]<;>omega)
theorem a0x:E4 X (.type "tuple") (λxs H Q=>∃p ys,xs=[.ref p]/\((SqL X.K H p ys/\∀l,H l=none->Q (.ref l) (upd H l (.tup ys)))∨(SqT X.K H p ys/\Q (.ref p) H))):=by
 intro bp s σ H xs us Q I r h;obtain⟨p,ys,rfl,h⟩:=h;obtain⟨u,rfl,rx⟩:=T4 r;cases rx;rcases h with⟨hq,q⟩|⟨hq,q⟩
 · obtain⟨bt,r',pl,hz⟩:=I.list hq;have bL:=r'.length;refine call_tuple_list pl.isList (λh' kp=>?_) (by simp only[size_toArray]<;>omega);have I1:Inv X bp σ H {s with heap:=h'}:=I.kept (t':=s.toks) kp;have I2:Inv X bp σ (upd H h'.objs.size (.tup ys)) {s with heap:=h'.push {cls:=.type "tuple",data:=.seq bt.toArray}}:=
    I1.laid (t':=s.toks) (λb o e=>eQ _ e) (aj _) (show p8 X.prog X.w _ _ _ (.tup ys) from⟨hz,bt,r',a0b.new _ _⟩)
   exact⟨.ref h'.objs.size,_,I2,rfl,q _ (I1.hok.fresh (aj _))⟩
 · obtain⟨bt,r',pl,hz⟩:=I.tuple hq;exact call_tuple_same pl ⟨.ref p,H,I,rfl,q⟩
def tyV(K:Frag)(T:String)(x:V)(H:Hp):Prop:=match x with
 |.str _=>T="str"
 |.int _=>T="int"
 |.ref p=>(T="list"/\∃xs,SqL K H p xs)∨(T="tuple"/\∃o,K.lookup p=some o/\o.cls=.type "tuple"/\o.dict=none)∨
  (T="dict"/\((∃bq,H p=some (.dK bq))∨∃bq,H p=some (.dT bq)))∨(T="set"/\∃S n,H p=some (.set S n))
 |_=>False
theorem b4Y{s:Shared}{T:String}{x:V}{v:Value}(I:Inv X bp σ H s)(r:i8 x v)(ty:tyV X.K T x H):
 s.TypeIs v T/\∀a,v=.ref a->∃ob,s.heap.get? a=some ob/\ob.dict=none:=by
 cases x with
 |str z=>
  obtain⟨t,rfl⟩:=r;cases (show T="str" from ty);exact⟨typeIs_str s z t,λ_ e=>nomatch e⟩
 |int i=>
  obtain⟨t,rfl⟩:=r;cases (show T="int" from ty);exact⟨typeIs_int s i t,λ_ e=>nomatch e⟩
 |ref p=>
  cases r;rcases ty with⟨rfl,xs,hq⟩|⟨rfl,o,hk,hc,hd⟩|⟨rfl,hk⟩|⟨rfl,S,n,hk⟩
  · obtain⟨bt,_,pl,_⟩:=I.list hq;refine⟨pl.isList.typeIs,λa e=>?_⟩;cases e;obtain⟨o,n,e,c,hd,_⟩:=pl;exact⟨o,e,hd⟩
  · refine⟨⟨o,I.kIn p o hk,hc⟩,λa e=>?_⟩;cases e;exact⟨o,I.kIn _ o hk,hd⟩
  · have z:∃o,s.heap.get? p=some o/\o.ExactDict:=by
     rcases hk with⟨bq,hk⟩|⟨bq,hk⟩
     · obtain⟨_,_,_,_,o,_,_,e,ex,_⟩:=I.hok p _ hk;exact⟨o,e,ex⟩
     · obtain⟨_,_,_,_,o,_,_,e,ex,_⟩:=I.hok p _ hk;exact⟨o,e,ex⟩
    obtain⟨o,e,ex⟩:=z;refine⟨⟨o,e,ex.1⟩,λa e2=>?_⟩;cases e2;exact⟨o,e,ex.2.1⟩
  · obtain⟨o,_,_,_,e,ex,_⟩:=I.hok p _ hk;refine⟨⟨o,e,ex.1⟩,λa e2=>?_⟩;cases e2;exact⟨o,e,ex.2.1⟩
 |_=>exact False.elim ty
def tBM(K:Frag)(T:String)(r:V->List V->Hp->VK->Prop)(to:TE)(t:TA):TE:=λσ H Q=>to σ H λx H1=>tyV K T x H1/\t σ H1 λxs H2=>r x xs H2 Q
variable{o e:Expr}{es:List Expr}{to:TE}{t:TA}{name:Str}{bH bF:Pos}{T:String}{r:V->List V->Hp->VK->Prop}
theorem a5Q(pa:PlainAttrs T)(slot:Slot T name id)(hty:typeOf (.builtin id)=pure (.type "method_descriptor"))(hm:MtR X id r)(ho:PE X o to)(ha:PA X (e::es) t)
 (bZ:attributeBase o name X.env (eval o X.env)=eval o X.env:=by rfl)
 (dP:((backTo bF (starEach (e::es) X.env)).all (λx=>!x.1)&&(backToKw bF (keywordEach [] X.env)).all (λx=>x.1.isSome)
  &&decide ((e::es).length+([]:List Keyword).length+(if([]:List Keyword).isEmpty then 0 else 1)<30))=true:=by rfl)
 (bN:(bH.endLine==bF.line)=true:=by rfl) (hs:starEach (e::es) X.env=(false,eval e X.env)::starEach es X.env:=by rfl) (hplain:(backTo bF (starEach es X.env)).any (·.1)=false:=by rfl):
 PE X (.Call (.Attribute o name bH) (e::es) [] bF) (tBM X.K T r to t):=by
 intro bp s σ H Q I h;refine wpAny_Call_method_late bZ dP bN rfl (thn (ho bp s σ H _ I h) λv s1 zz=>?_);obtain⟨x,H1,I1,r1,ty,q1⟩:=zz;obtain⟨h1,h2⟩:=b4Y I1 r1 ty;refine⟨T,id,pa,slot,hty,h1,h2,?_⟩;have hA:=ha bF bp s1 σ H1 _ I1 q1;rw[hs] at hA⊢;refine fO (by show(false||(backTo bF (starEach es X.env)).any (·.1))=false;rw[hplain]<;>rfl) (Calls.evalArgs_plain ?_);exact thn hA λus s2 ⟨vs,H2,I2,r2,q2⟩=>hm bp s2 σ H2 x vs v us Q I2 r1 r2 q2
end
def MtM(X:Cx)(id:String)(r:V->List V->Hp->VK->Prop):Prop:=
 ∀(bp:List (Addr×Obj)) (s:Shared) (σ:St) (H:Hp) (x:V) (xs:List V) (v:Value) (us:List Value) (Q:VK),Inv X bp σ H s->i8 x v->k8 xs us->r x xs H Q→
  wpAny (model X.prog X.w) X.A (call (.builtin id) (v::us)) (EP X bp σ Q) X.xe s
theorem k8.one{x:V}(h:k8 [x] us):∃u,us=[u]/\i8 x u:=by obtain- |⟨r,q⟩:=h;cases q;exact⟨_,rfl,r⟩
section
variable{X:Cx}{s:Shared}{l b:Addr}{xs ys zs:List V}
theorem Inv.lset{f:Array Value->Array Value}{t':Nat}(I:Inv X bp σ H s)(hH:H l=some (.lst xs))
 (e:s.heap.get? l=some {cls:=.type "list",data:=.seq bt.toArray n}) (hf:f bt.toArray=its'.toArray) (hv:k8 ys its') (hz:ys.length<=sizeLine):
 Inv X bp σ (upd H l (.lst ys)) {s with heap:=s.heap.update l (Obj.mapSeq f),toks:=t'}:=by
 have q:=PySem.IsL.update e f;rw[hf] at q;refine I.write (x:=l) (e:=l) (by rw[hH];exact trivial) (.inl rfl) (λb' u hb hu=>(fE s.heap (Obj.mapSeq f) (ff hb)).trans hu) ⟨_,q⟩ ?_;exact⟨hz,its',_,hv,q⟩
theorem Inv.lnew{t':Nat}(I:Inv X bp σ H s)(hv:k8 ys bt)(hz:ys.length<=sizeLine):
 Inv X bp σ (upd H s.heap.objs.size (.lst ys)) {s with heap:=s.heap.push {cls:=.type "list",data:=.seq bt.toArray},toks:=t'}:=
 I.laid (λ_ _ q=>eQ _ q) (aj _) ⟨hz,bt,0,hv,eU _ rfl⟩
theorem Inv.fresh(I:Inv X bp σ H s):H s.heap.objs.size=none:=I.hok.fresh (aj _)
theorem Inv.lstM(I:Inv X bp σ H s)(hH:H l=some (.lst xs)):xs.length<=sizeLine/\∃(bt:List Value) (n:Nat),k8 xs bt/\xs.length=bt.length/\s.heap.get? l=some {cls:=.type "list",data:=.seq bt.toArray n}:=by obtain⟨z,bt,n,r,e⟩:=I.hok l _ hH;exact⟨z,bt,n,r,r.length,e⟩
theorem b0B(h:n<=sizeLine):listTooLong n=false:=by unfold listTooLong;exact bj (by omega)
end
section
variable{X:Cx}
def b2N:V->List V->Hp->VK->Prop:=λx vs H Q=>∃l xs y,x=.ref l/\vs=[y]/\H l=some (.lst xs)/\xs.length<sizeLine/\Q .non (upd H l (.lst (xs++[y])))
theorem a3W:MtM X "list.append" b2N:=by intro bp s σ H x vs v us Q I rx rv h;obtain⟨l,xs,y,rfl,rfl,hH,hz,q⟩:=h;cases rx;obtain⟨u,rfl,ru⟩:=rv.one;obtain⟨z,bt,n,r,hl,e⟩:=I.lstM hH;refine call_meets F.slot_list_append ⟨_,e,rfl⟩ F.entry_list_append (F.args_list_append_2 _ _) (PySem.list_append l bt.toArray n u (by rw[size_toArray];omega)) ⟨e,?_⟩;refine⟨.non,_,I.lset (its':=bt++[u]) hH e ⋯ (r.append (.cons ru .nil)) ?_,rfl,q⟩;rw[aq,List.length_singleton];omega
def b2M:V->List V->Hp->VK->Prop:=λx vs H Q=>∃l b xs zs,x=.ref l/\vs=[.ref b]/\H l=some (.lst xs)/\H b=some (.lst zs)/\xs.length+zs.length<=sizeLine/\Q .non (upd H l (.lst (xs++zs)))
theorem a8O:MtM X "list.extend" b2M:=by
 intro bp s σ H x vs v us Q I rx rv h;obtain⟨l,b,xs,zs,rfl,rfl,hH,hB,hz,q⟩:=h;cases rx;obtain⟨u,rfl,ru⟩:=rv.one;cases ru;obtain⟨z,bt,n,r,hl,e⟩:=I.lstM hH;obtain⟨z2,bI,n2,r2,hl2,e2⟩:=I.lstM hB;have hsz:bt.toArray.size+bI.toArray.size<=sizeLine:=by rw[size_toArray,size_toArray];omega
 have hlong:¬(!bt.toArray.isEmpty&&listTooLong (bt.toArray.size+bI.toArray.size))=true:=by rw[b0B hsz,Bool.and_false];exact bg
 refine call_meets F.slot_list_extend ⟨_,e,rfl⟩ F.entry_list_extend (F.args_list_extend_2 _ _)
  (AutoSeq1.list_extend_list_list_0 l bt.toArray n b bI.toArray n2 hlong (by rw[size_toArray];omega) (by omega)) ⟨e,e2,?_⟩
 refine⟨.non,_,I.lset (its':=bt++bI) hH e ⋯ (r.append r2) ?_,rfl,q⟩;rw[aq];omega
noncomputable def c1d:R2:=λx y H Q=>∃l b xs zs,x=.ref l/\y=.ref b/\H l=some (.lst xs)/\H b=some (.lst zs)/\xs.length+zs.length<=sizeLine/\∀p,H p=none->Q (.ref p) (upd H p (.lst (xs++zs)))
theorem b6d:OpR X (binaryOp .Add) c1d:=by
 intro bp s σ H x y v u Q I rx ry h;obtain⟨l,b,xs,zs,rfl,rfl,hH,hB,hz,q⟩:=h;cases rx;cases ry;obtain⟨z,bt,n,r,hl,e⟩:=I.lstM hH;obtain⟨z2,bI,n2,r2,hl2,e2⟩:=I.lstM hB;refine PySem.P.add_list e e2 ?_ (by rw[size_toArray,size_toArray];omega);have ea:bt.toArray++bI.toArray=(bt++bI).toArray:=by simp
 rw[ea];exact⟨.ref _,_,I.lnew (t':=s.toks) (r.append r2) (by rw[aq];omega),rfl,q _ I.fresh⟩
end
variable{b:Addr}{sl:Addr}{items:Array Value}{vl:Value}{vu:Value}
section
variable{κ:Type}[DecidableEq κ]
def T6(bq:List (κ×V))(k:κ):Option V:=(bq.find? λkv=>decide (kv.1=k)).map (·.2)
noncomputable def N1(bq:List (κ×V))(k:κ)(v:V):List (κ×V):=
 if(bq.any λkv=>decide (kv.1=k))=true then bq.map (λkv=>if kv.1=k then(kv.1,v) else kv) else bq++[(k,v)]
theorem W7{p:κ×V}{r:List (κ×V)}{k:κ}(e:p.1=k):T6 (p::r) k=some p.2:=by simp[T6,List.find?_cons,e]
theorem W8{p:κ×V}{r:List (κ×V)}{k:κ}(e:¬p.1=k):T6 (p::r) k=T6 r k:=by simp[T6,List.find?_cons,e]
theorem a5z(k:κ):∀bq:List (κ×V),(bq.any λkv=>decide (kv.1=k))=(T6 bq k).isSome
 |[]=>rfl
 |p::r=>by
  rw[any_cons]
  by_cases e:p.1=k
  · simp only[W7 e,aW e,Bool.true_or,Option.isSome_some]
  · rw[W8 e,bj e,Bool.false_or];exact a5z k r
theorem Y0(bq:List (κ×V))(k:κ)(v:V):(N1 bq k v).length<=bq.length+1:=by
 unfold N1;split
 · rw[aa];omega
 · rw[aq,length_cons,length_nil];omega
theorem a0p.isSome_eq{o:Option V}{u:Option Value}(r:a0p o u):o.isSome=u.isSome:=by
 cases o with
 |none=>cases u with
  |none=>rfl
  |some _=>exact(show False from r).elim
 |some _=>cases u with
  |none=>exact(show False from r).elim
  |some _=>rfl
theorem a0p.getD{o:Option V}{u:Option Value}{d:V}{d':Value}(r:a0p o u)(rd:i8 d d'):i8 (o.getD d) (u.getD d'):=by
 cases o with
 |none=>cases u with
  |none=>exact rd
  |some _=>exact(show False from r).elim
 |some _=>cases u with
  |none=>exact(show False from r).elim
  |some _=>exact r
theorem KV.val{bq:List (κ×V)}{vs:List (κ×Value)}(r:KV bq vs)(k:κ):a0p (T6 bq k) (valueAt vs k):=by
 unfold KV at r
 induction r with
 |nil=>exact True.intro
 | @cons p q ps qs h t ih=>
  obtain⟨h1,h2⟩:=h
  by_cases e:p.1=k
  · have e':q.1=k:=h1.symm.trans e;have b:valueAt (q::qs) k=some q.2:=by simp[valueAt,List.find?_cons,e']
    rw[W7 e,b];exact h2
  · have e':¬q.1=k:=λz=>e (h1.trans z);have b:valueAt (q::qs) k=valueAt qs k:=by simp[valueAt,List.find?_cons,e']
    rw[W8 e,b];exact ih
theorem KV.any{bq:List (κ×V)}{vs:List (κ×Value)}(r:KV bq vs)(k:κ):(bq.any λkv=>decide (kv.1=k))=vs.any λkv=>decide (kv.1=k):=by
 unfold KV at r
 induction r with
 |nil=>rfl
 |cons h t ih=>rw[any_cons,any_cons,ih,h.1]
theorem KV.repl{bq:List (κ×V)}{vs:List (κ×Value)}(r:KV bq vs)(k:κ)(ry:i8 y u):
 KV (bq.map λkv=>if kv.1=k then(kv.1,y) else kv) (vs.map λkv=>if kv.1=k then(kv.1,u) else kv):=by
 unfold KV at r⊢
 induction r with
 |nil=>exact .nil
 | @cons p q ps qs h t ih=>
  rw[map_cons,map_cons];refine .cons ?_ ih;obtain⟨h1,h2⟩:=h
  by_cases e:p.1=k
  · rw[ay e,ay (h1.symm.trans e)];exact⟨h1,ry⟩
  · rw[az e,az (λz=>e (h1.trans z))];exact⟨h1,h2⟩
theorem KV.put{bq:List (κ×V)}{vs:List (κ×Value)}(r:KV bq vs)(k:κ)(ry:i8 y u):KV (N1 bq k y) (stored vs k u):=by
 unfold N1 stored;rw[r.any k]
 by_cases e:(vs.any λkv=>decide (kv.1=k))=true
 · rw[ay e,ay e];exact r.repl k ry
 · rw[az e,az e];exact Paired.snoc r ⟨rfl,ry⟩
theorem KV.length{bq:List (κ×V)}{vs:List (κ×Value)}(r:KV bq vs):bq.length=vs.length:=Paired.length r
end
variable{P:Program}{w:World}
theorem Y2{k:Key}(r:i8 (kV k) u):(n0 P w).is k u=true:=by
 cases k with
 |inl i=>obtain⟨t,e⟩:=(show∃t,u=Value.int i t from r);subst e;exact a5W P w i t
 |inr x=>obtain⟨t,e⟩:=(show∃t,u=Value.str x t from r);subst e;exact a5V P w x t
theorem a4a{P:Program}{w:World}:∀{ks:List Key} {us:List Value},k8 (ks.map kV) us->ItemsAre (n0 P w) ks us
 |[],_,r=>by rw[map_nil] at r;cases r;exact .nil
 |k::ks,_,r=>by
  rw[map_cons] at r;cases r with
  |cons h t=>exact .cons (Y2 h) (a4a t)
abbrev KT(H:Hp):List (List Key×V)->List (List Key×Addr×Value)->Prop:=Paired λp q=>p.1=q.1/\H q.2.1=some (.tup (p.1.map kV))/\i8 p.2 q.2.2
variable{bq:List (List Key×V)}{xs:List (List Key×Addr×Value)}
theorem KT.val(r:KT H bq xs)(k:List Key):a0p (T6 bq k) ((atKey xs k).map (·.2)):=by
 induction r with
 |nil=>exact True.intro
 | @cons p q ps qs h t ih=>
  obtain⟨h1,_,h2⟩:=h
  by_cases e:p.1=k
  · have e':q.1=k:=h1.symm.trans e;have b:atKey (q::qs) k=some q.2:=by simp[atKey,List.find?_cons,e']
    rw[W7 e,b];exact h2
  · have e':¬q.1=k:=λz=>e (h1.trans z);have b:atKey (q::qs) k=atKey qs k:=by simp[atKey,List.find?_cons,e']
    rw[W8 e,b];exact ih
theorem KT.repl(r:KT H bq xs)(k:List Key)(ry:i8 y u):
 KT H (bq.map λkv=>if kv.1=k then(kv.1,y) else kv) (xs.map (putAt k u)):=by
 induction r with
 |nil=>exact .nil
 | @cons p q ps qs h t ih=>
  rw[map_cons,map_cons];refine .cons ?_ ih;obtain⟨h1,h2,h3⟩:=h;unfold putAt
  by_cases e:p.1=k
  · rw[ay e,ay (h1.symm.trans e)];exact⟨h1,h2,ry⟩
  · rw[az e,az (λz=>e (h1.trans z))];exact⟨h1,h2,h3⟩
theorem KT.put(r:KT H bq xs)(k:List Key)(hb:H b=some (.tup (k.map kV)))(ry:i8 y u):
 KT H (N1 bq k y) (storedH xs k b u):=by
 have e:(bq.any λkv=>decide (kv.1=k))=(atKey xs k).isSome:=by rw[a5z,(r.val k).isSome_eq,Option.isSome_map]
 unfold N1 storedH;rw[e]
 by_cases q:(atKey xs k).isSome=true
 · rw[ay q,ay q];exact r.repl k ry
 · rw[az q,az q];exact Paired.snoc r ⟨rfl,hb,ry⟩
variable{H':Hp}
theorem KT.keeps(r:KT H bq xs)(ht:∀b ys,H b=some (.tup ys)->H' b=some (.tup ys)):KT H' bq xs:=
 Paired.mapP r λ_ _ z=>⟨z.1,ht _ _ z.2.1,z.2.2⟩
section
variable{h:Heap}{a:Addr}
theorem b4G{u:HO}(ok:HOk P w H h)(e:Rd H a u):p8 P w H h a u:=e.ok ok
theorem a2c{bq:List (Key×V)}(ok:HOk P w H h)(e:Rd H a (.dK bq)):bq.length<=sizeLine/\(a==sysModules)=false/\∃vs,KV bq vs/\h.DictOf (n0 P w) a vs:=
 show p8 P w H h a (.dK bq) from b4G ok e
theorem b4P{bq:List (Key×V)}(ok:HOk P w H h)(e:H a=some (.dK bq)):bq.length<=sizeLine/\(a==sysModules)=false/\∃vs,KV bq vs/\h.DictOf (n0 P w) a vs:=a2c ok (.inl e)
theorem a1D{ks:List Key}(ok:HOk P w H h)(e:H a=some (.tup (ks.map kV))):(tupleKind (n0 P w)).is h ks a:=by obtain⟨_,bt,r,o,h1,h2,_,n,h3⟩:=(show p8 P w H h a (.tup (ks.map kV)) from ok a _ e);exact⟨o,bt.toArray,n,h1,h2,h3,by simpa using a4a r⟩
theorem a3n(ok:HOk P w H h)(e:Rd H a (.dT bq)):bq.length<=sizeLine/\(a==sysModules)=false∧
 ∃xs,KT H bq xs/\h.DictOfH (tupleKind (n0 P w)) a xs:=by
 obtain⟨z,y,xs,r,o,es,ep,h1,h2,h3,h4,h5⟩:=(show p8 P w H h a (.dT bq) from b4G ok e);refine⟨z,y,xs,r,o,es,ep,h1,h2,h3,h4,λx hx=>?_,h5⟩;have all:∀{l:List (List Key×V)} {m:List (List Key×Addr×Value)},KT H l m->∀x∈m,(tupleKind (n0 P w)).is h x.1 x.2.1:=by
  intro l m q
  induction q with
  |nil=>intro x hx;exact nomatch hx
  | @cons p q ps qs hq t ih=>
   intro x hx;rcases aE.mp hx with e|hx
   · subst e;exact a1D ok (by rw[←hq.1];exact hq.2.1)
   · exact ih x hx
 exact all r x hx
theorem b9O(ok:HOk P w H h)(e:H a=some (.dT bq)):bq.length<=sizeLine/\(a==sysModules)=false∧
 ∃xs,KT H bq xs/\h.DictOfH (tupleKind (n0 P w)) a xs:=a3n ok (.inl e)
end
def a7u(H:Hp)(a:Addr)(y:V)(r:Option V):Prop:=
 (∃bq k,Rd H a (.dK bq)/\y=kV k/\r=T6 bq k)∨∃bq k b,Rd H a (.dT bq)/\y=.ref b/\H b=some (.tup (k.map kV))/\r=T6 bq k
def c1M(H:Hp)(a:Addr)(y v:V)(H':Hp):Prop:=
 (∃bq k,H a=some (.dK bq)/\y=kV k/\bq.length<sizeLine/\H'=upd H a (.dK (N1 bq k v)))∨
 ∃bq k b,H a=some (.dT bq)/\y=.ref b/\H b=some (.tup (k.map kV))/\bq.length<sizeLine/\H'=upd H a (.dT (N1 bq k v))
variable{a:Addr}{v:V}{Q:Value->Shared->Prop}{h':Heap}{vs:List (Key×Value)}
section
variable{X:Cx}{s:Shared}{r:Value}{o:Option V}{E:Value->Shared->Prop}
theorem Inv.big(I:Inv X bp σ H s):sysModules<s.heap.objs.size:=by have h:mainGlobals<s.heap.objs.size:=(I.mod.glob.keeps I.bk).lt;exact ga (by decide) h
theorem a9g(hu:A.units+1<cLine)(I:Inv X bp σ H s)(g:a7u H a y (some v))(ry:i8 y u)(h:∀w' s',Inv X bp σ H s'->i8 v w'->Q w' s'):
 wpAny (model X.prog X.w) A (getItem (.ref a) u) Q E s:=by
 rcases g with⟨bq,k,e,ey,l⟩|⟨bq,k,b,e,ey,eb,l⟩
 · subst ey;obtain⟨z,hd,vs,cb,dd⟩:=a2c I.hok e;obtain⟨w',hw,cw⟩:=a0p.some_of (v:=v) (o:=valueAt vs k) (by rw[l];exact cb.val k);exact wpAny_getItem_of (Y2 ry) dd.mapOf hw (h w' _ (I.tok _) cw)
 · subst ey;cases (show u=Value.ref b from ry);obtain⟨z,hd,xs,cb,dd⟩:=a3n I.hok e;obtain⟨w',hw,cw⟩:=a0p.some_of (v:=v) (o:=(atKey xs k).map (·.2)) (by rw[l];exact cb.val k);obtain⟨p,hp,hp2⟩:=Option.map_eq_some_iff.mp hw;refine wpAny_getItem_heap (fZ hu) (a1D I.hok eb) dd hp ?_;rw[hp2];exact h w' _ (I.tok _) cw
theorem c1v(hu:A.units+1<cLine)(I:Inv X bp σ H s)(g:a7u H a y o)(ry:i8 y u)(h:∀s',Inv X bp σ H s'->Q (.bool o.isSome) s'):
 wpAny (model X.prog X.w) A (compareOp .In u (.ref a)) Q E s:=by
 rcases g with⟨bq,k,e,ey,l⟩|⟨bq,k,b,e,ey,eb,l⟩
 · subst ey;obtain⟨z,hd,vs,cb,dd⟩:=a2c I.hok e;refine wpAny_in_of (Y2 ry) hd dd.mapOf ?_;rw[←(cb.val k).isSome_eq,←l];exact h _ (I.tok _)
 · subst ey;cases (show u=Value.ref b from ry);obtain⟨z,hd,xs,cb,dd⟩:=a3n I.hok e;refine wpAny_in_heap (fZ hu) (a1D I.hok eb) hd dd ?_;have q:=(cb.val k).isSome_eq;rw[Option.isSome_map] at q;rw[←q,←l];exact h _ (I.tok _)
theorem b4m(hu:A.units+1<cLine)(I:Inv X bp σ H s)(g:a7u H a y o)(ry:i8 y u)(h:∀s',Inv X bp σ H s'->Q (.bool (!o.isSome)) s'):
 wpAny (model X.prog X.w) A (compareOp .NotIn u (.ref a)) Q E s:=by
 rcases g with⟨bq,k,e,ey,l⟩|⟨bq,k,b,e,ey,eb,l⟩
 · subst ey;obtain⟨z,hd,vs,cb,dd⟩:=a2c I.hok e;refine wpAny_notIn_of (Y2 ry) hd dd.mapOf ?_;rw[←(cb.val k).isSome_eq,←l];exact h _ (I.tok _)
 · subst ey;cases (show u=Value.ref b from ry);obtain⟨z,hd,xs,cb,dd⟩:=a3n I.hok e;refine wpAny_notIn_heap (fZ hu) (a1D I.hok eb) hd dd ?_;have q:=(cb.val k).isSome_eq;rw[Option.isSome_map] at q;rw[←q,←l];exact h _ (I.tok _)
theorem a5l{t':Nat}{ob:HO}(I:Inv X bp σ H s)(mu:Mut (H a))(hs:Heap.SameBut a s.heap h')(he:∃q,h'.get? a=some q)(new:p8 X.prog X.w (upd H a ob) h' a ob):
 Inv X bp σ (upd H a ob) {s with heap:=h',toks:=t'}:=
 I.write (x:=a) (e:=a) mu (.inl rfl) (λb q hb z=>(hs.2 b hb).trans z) he new
theorem a7j{bq:List (Key×V)}(z:bq.length<=sizeLine)(hd:(a==sysModules)=false)(cb:KV bq vs)(dd:h'.DictOf (n0 P w) a vs):
 p8 P w H' h' a (.dK bq):=⟨z,hd,vs,cb,dd⟩
theorem a4g{Q:Unit->Shared->Prop}(hu:A.units+1<cLine)(I:Inv X bp σ H s)(g:c1M H a y v H')(ry:i8 y u)(rv:i8 v r)(h:∀s',Inv X bp σ H' s'->Q () s'):
 wpAny (model X.prog X.w) A (setItem (.ref a) u r) Q E s:=by
 rcases g with⟨bq,k,e,ey,l,eH⟩|⟨bq,k,b,e,ey,eb,l,eH⟩
 · subst ey eH;obtain⟨z,hd,vs,cb,dd⟩:=b4P I.hok e;have hz:vs.length<=sizeLine:=by rw[←cb.length];exact z
   have hl:(N1 bq k v).length<=sizeLine:=by have:=Y0 bq k v;omega
   refine wpAny_setItem_pairs (hsz:=hz) (Y2 ry) dd λh' dd' hs=>h _ ?_;have he:∃q,h'.get? a=some q:=let⟨q,_,_,hq,_⟩:=dd';⟨q,hq⟩;exact a5l I (by rw[e];exact True.intro) hs he (a7j hl hd (cb.put k rv) dd')
 · subst ey eH;cases (show u=Value.ref b from ry);obtain⟨z,hd,xs,cb,dd⟩:=b9O I.hok e;have hz:xs.length<=sizeLine:=by rw[←Paired.length cb];exact z
   have hl:(N1 bq k v).length<=sizeLine:=by have:=Y0 bq k v;omega
   refine wpAny_setItem_heap (hsz:=hz) (fZ hu) (a1D I.hok eb) dd λh' dd' hs=>h _ ?_;obtain⟨q,es,ep,hq,h2,h3,h4,_,h5⟩:=dd';refine a5l I (by rw[e];exact True.intro) hs ⟨q,hq⟩ ⟨hl,hd,_,(cb.put k eb rv).keeps λc ys ec=>?_,q,es,ep,hq,h2,h3,h4,h5⟩;rw[c9 (b8S ec e (λz=>nomatch z))];exact ec
end
section
variable{X:Cx}{s:Shared}{bq:List (Key×V)}{k:Key}{E:Value->Shared->Prop}
theorem b9Q(I:Inv X bp σ H s)(e:Rd H a (.dK bq))(h:∀t s',Inv X bp σ H s'->Q (.int bq.length t) s'):wpAny (model X.prog X.w) A (call (.builtin "len") [.ref a]) Q E s:=by obtain⟨z,hd,vs,cb,dd⟩:=a2c I.hok e;refine call_len_dict hd dd (by rw[←cb.length];rw[fV] at z;omega) ?_;rw[←cb.length];exact h _ _ (I.tok _)
end
variable{prog:Program}{env:Env}{pos:Pos}{X:Cx}
theorem a6s{s:Shared}{o:Option V}(I:Inv X bp σ H s)(g:a7u H a y o):s.TypeIs (.ref a) "dict":=by
 rcases g with⟨bq,k,e,_,_⟩|⟨bq,k,b,e,_,_,_⟩
 · obtain⟨_,_,vs,_,dd⟩:=a2c I.hok e;exact dd.typeIs
 · obtain⟨_,_,xs,_,dd⟩:=a3n I.hok e;exact dd.typeIs
theorem a6r(h:Heap)(hb:sysModules<h.objs.size):p8 P w H (h.push {cls:=.type "dict",data:=.dict #[]}) h.objs.size (.dK []):=
 ⟨fq _,beq_eq_false_iff_ne.mpr (ff (eV hb)),[],.nil,Heap.DictOf.new h⟩
def b5i:TE:=λ_ H Q=>∀p,H p=none->Q (.ref p) (upd H p (.dK []))
section
theorem b0s:PE X (.Dict [] [] pos) b5i:=λbp s σ H Q I h=>
 wpAny_Dict_empty ⟨.ref s.heap.objs.size,_,I.laid (a:=s.heap.objs.size) (o:=.dK []) (t':=s.toks) (λ_ _ q=>eQ _ q) (aj _) (a6r s.heap I.big),rfl,h _ (I.hok.fresh (aj _))⟩
end
def a4v:List (TE×TE)->St->Hp->(List (V×V)->Hp->Prop)->Prop
 |[],_,H,Q=>Q [] H
 |(tk,tv)::r,σ,H,Q=>tk σ H λx H1=>tv σ H1 λy H2=>a4v r σ H2 λps H3=>Q ((x,y)::ps) H3
abbrev VV:List (V×V)->List (Value×Value)->Prop:=Paired λp q=>i8 p.1 q.1/\i8 p.2 q.2
def PPs(X:Cx)(pos:Pos)(de:List (Option Expr))(cX:List Expr)(dW:List (TE×TE)):Prop:=
 ∀(bp:List (Addr×Obj)) (s:Shared) (σ:St) (H:Hp) (Q:List (V×V)->Hp->Prop),Inv X bp σ H s->a4v dW σ H Q→
  wpAny (model X.prog X.w) X.A (evalPairs (pairTrees de cX X.env pos)) (λvs s'=>∃ps H',Inv X bp σ H' s'/\VV ps vs/\Q ps H') X.xe s
theorem b2T:PPs X pos [] [] []:=λbp s σ H Q I h=>pairTrees_nil_walk ⟨[],H,I,.nil,h⟩
variable{dW:List (TE×TE)}
theorem b0j{k v:Expr}{ks:List (Option Expr)}{vs:List Expr}{tk tv:TE}(hk:PE X k tk)(hv:PE X v tv)(hr:PPs X pos ks vs dW):
 PPs X pos (some k::ks) (v::vs) ((tk,tv)::dW):=λbp s σ H Q I h=>
 pairTrees_cons_walk (thn (hk bp s σ H _ I h) λu s1 ⟨x,H1,I1,rx,q1⟩=>thn (hv bp s1 σ H1 _ I1 q1) λw2 s2 ⟨y,H2,I2,ry,q2⟩=>
  thn (hr bp s2 σ H2 _ I2 q2) λws s3 ⟨ps,H3,I3,cb,q3⟩=>⟨(x,y)::ps,H3,I3,.cons ⟨rx,ry⟩ cb,q3⟩)
def U6(bq cP:List (Key×V)):List (Key×V):=cP.foldl (λbw kv=>N1 bw kv.1 kv.2) bq
theorem KV.merge:∀{cP:List (Key×V)} {rs:List (Key×Value)} {bq:List (Key×V)} {vs:List (Key×Value)},KV cP rs->KV bq vs->KV (U6 bq cP) (merged vs rs):=by
 intro cP rs bq vs r;unfold KV at r
 induction r generalizing bq vs with
 |nil=>intro q;exact q
 | @cons p q ps qs h t ih=>
  intro r0;have e:KV (N1 bq p.1 p.2) (stored vs q.1 q.2):=by have:=r0.put p.1 h.2;rw[←h.1];exact this
  exact ih e
theorem R9:∀(cP bq:List (Key×V)),(U6 bq cP).length<=bq.length+cP.length
 |[],bq=>by show bq.length<=bq.length+0;omega
 |p::r,bq=>by have h1:=R9 r (N1 bq p.1 p.2);have h2:=Y0 bq p.1 p.2;show(U6 (N1 bq p.1 p.2) r).length<=_;rw[length_cons];omega
theorem a3p{P:Program}{w:World}:∀{bq:List (Key×V)} {ws:List (Value×Value)},VV (bq.map λkv=>(kV kv.1,kv.2)) ws->∃rs,Carries (n0 P w) ws rs/\KV bq rs
 |[],_,r=>by rw[map_nil] at r;cases r;exact⟨[],True.intro,.nil⟩
 | p::bq,_,r=>by
  rw[map_cons] at r;cases r with
  | @cons a b as bs h t=>
   obtain⟨rs,c,q⟩:=a3p (P:=P) (w:=w) t;obtain⟨b1,b2⟩:=b;exact⟨(p.1,b2)::rs,⟨Y2 h.1,rfl,c⟩,.cons ⟨rfl,h.2⟩ q⟩
def b8h(dW:List (TE×TE)):TE:=λσ H Q=>∀p,H p=none->a4v dW σ (upd H p (.dK [])) λps H2=>H2 p=some (.dK [])/\∃bq:List (Key×V),ps=bq.map (λkv=>(kV kv.1,kv.2))/\bq.length<=15/\Q (.ref p) (upd H2 p (.dK (U6 [] bq)))
theorem b3e{de:List (Option Expr)}{cX:List Expr}(h:PPs X pos de cX dW)(hall:de.all (·.isSome)=true)(hl:de.length=cX.length)(h0:de≠[])
 (h15:de.length<=15):PE X (.Dict de cX pos) (b8h dW):=by
 intro bp s σ H Q I q;have hn:=I.hok.fresh (aj s.heap.objs.size);have I1:=I.laid (a:=s.heap.objs.size) (o:=.dK []) (h':=s.heap.push {cls:=.type "dict",data:=.dict #[]}) (t':=s.toks) (λ_ _ q=>eQ _ q) (aj _) (a6r s.heap I.big);refine wpAny_Dict_walk (knd:=n0 X.prog X.w) hall hl h0 h15 (thn (h bp _ σ _ _ I1 (q _ hn)) λws s2 zz=>?_);obtain⟨ps,H2,I2,cb,e,bq,ep,lk,q2⟩:=zz;subst ep;obtain⟨rs,c,rk⟩:=a3p (P:=X.prog) (w:=X.w) cb;obtain⟨z,hd,vs0,r0,dd⟩:=b4P I2.hok e;cases r0;refine⟨rs,c,dd,λh' dd' hs=>⟨.ref s.heap.objs.size,_,?_,rfl,q2⟩⟩;have hz:(U6 [] bq).length<=sizeLine:=by have h1:=R9 bq [];rw[length_nil] at h1;rw[fV];omega
 have he:∃q,h'.get? s.heap.objs.size=some q:=let⟨q,_,_,hq,_⟩:=dd';⟨q,hq⟩;exact a5l I2 (by rw[e];exact True.intro) hs he (a7j hz hd (rk.merge .nil) dd')
structure M2(X:Cx)(o:Expr)(m:Str)(bH:Pos)(e f:Expr)(bF:Pos):Prop where
 base:attributeBase o m X.env (eval o X.env)=eval o X.env
 few:((backTo bF (starEach [e,f] X.env)).all (λx=>!x.1)&&(backToKw bF (keywordEach [] X.env)).all (λx=>x.1.isSome)
  &&decide (([e,f]:List Expr).length+([]:List Keyword).length+(if([]:List Keyword).isEmpty then 0 else 1)<30))=true
 line:(bH.endLine==bF.line)=true
 trees:backTo bF (starEach [e,f] X.env)=[(false,eval e X.env),(false,eval f X.env)]
def IsD(H:Hp)(a:Addr):Prop:=(∃bq,Rd H a (.dK bq))∨∃bq,Rd H a (.dT bq)
theorem b6J{s:Shared}(I:Inv X bp σ H s)(d:IsD H a):
 s.TypeIs (.ref a) "dict"/\(∀b,Value.ref a=.ref b->∃ob,s.heap.get? b=some ob/\ob.dict=none)/\(a==sysModules)=false:=by
 rcases d with⟨bq,e⟩|⟨bq,e⟩
 · obtain⟨_,hd,vs,_,dd⟩:=a2c I.hok e;refine⟨dd.typeIs,λb q=>?_,hd⟩;cases q;obtain⟨ob,_,_,h1,h2,_⟩:=dd;exact⟨ob,h1,h2.2.1⟩
 · obtain⟨_,hd,xs,_,dd⟩:=a3n I.hok e;refine⟨dd.typeIs,λb q=>?_,hd⟩;cases q;obtain⟨ob,_,_,h1,h2,_⟩:=dd;exact⟨ob,h1,h2.2.1⟩
section
variable{s:Shared}{d:V}{r:Value}{o:Option V}{E:Value->Shared->Prop}
theorem b7m(hu:A.units+1<cLine)(I:Inv X bp σ H s)(g:a7u H a y o)(ry:i8 y u)(rd:i8 d r)(h:∀w' s',Inv X bp σ H s'->i8 (o.getD d) w'->Q w' s'):
 wpAny (model X.prog X.w) A (call (.builtin "dict.get") [.ref a,u,r]) Q E s:=by
 rcases g with⟨bq,k,e,ey,l⟩|⟨bq,k,b,e,ey,eb,l⟩
 · subst ey;obtain⟨z,hd,vs,cb,dd⟩:=a2c I.hok e;refine call_meetsIn slot_dict_get dd.typeIs PySem.F.entry_dict_get (PySem.F.args_dict_get_3 _ _ _) (meets_dict_get_default (n0 X.prog X.w) a (Y2 ry) hd r) ⟨_,dd.mapOf,h _ _ (I.tok _) ?_⟩;rw[l];exact(cb.val k).getD rd
 · subst ey;cases (show u=Value.ref b from ry);obtain⟨z,hd,xs,cb,dd⟩:=a3n I.hok e;refine call_meetsIn slot_dict_get dd.typeIs PySem.F.entry_dict_get (PySem.F.args_dict_get_3 _ _ _) (meetsH_dict_get_default (tupleKind (n0 X.prog X.w)) a b hd r) ⟨fZ hu,k,xs,a1D I.hok eb,dd,h _ _ (I.tok _) ?_⟩;rw[l];exact(cb.val k).getD rd
end
end L2
namespace Att
open PySem PySem.W PySem.Calls PyProof.Rows
variable{P:Params}{h:Heap}
theorem a2m:∀(ns:List Int) (vs:List Value),WellAll P h vs (ns.map WData.int)->IntsAre vs ns:=by
 intro ns
 induction ns with
 |nil=>
  intro vs w;rw[map_nil] at w;cases w;exact .nil
 | cons n ns ih=>
  intro vs w;rw[map_cons] at w;cases w with
  |cons a b=>
   cases a;exact .cons _ _ (ih _ b)
variable{l:OpenLaw}{n:Nat}
theorem a8B(hn:l.most=some n){args:List WData}{vals:List Value}
 (hpre:l.row.toRowW.claim.pre args=true) (hwl:WellAll P h vals args):
 ∃a vs ns,vals=[Value.ref a]/\args=[WData.list (ns.map WData.int)]/\h.get? a=some {cls:=.type "list",data:=.seq vs.toArray}/\IntsAre vs ns/\ns.length<=n:=by
 have hsh:WShape.hasAll [] args [.list .int]=true:=(pre_splitW hpre).1;have hc:l.pre.holds [] {args:=args}=true:=(pre_splitW hpre).2;obtain⟨d,r,rfl,h1,h2⟩:=hasAllW_cons hsh;obtain rfl:=hasAllW_nil h2;obtain⟨xs,rfl,h3⟩:=hasW_list h1;obtain⟨ns,rfl⟩:=items_int h3;have bL:ns.length<=n:=by
  unfold OpenLaw.pre at hc;have h4:(WTm.not (.lt (.lit (.int (n:Int))) (.len (.arg 0)))).holds [] {args:=[.list (ns.map .int)]}=true:=by have h4:=(holds_andW hc).1;rw[hn] at h4;exact h4
  have h5:=condW_of h4 (w_not (w_lt w_lit (w_len_list (w_arg rfl))));rw[aa] at h5;refine aQ λq=>?_;have q':(n:Int)<((ns.length:Nat):Int):=by omega
  first
   |(rw[aW q'] at h5;exact absurd h5 (by decide))
   |(simp at h5;omega)
 cases hwl with
 |cons w1 w2=>
  cases w2;cases w1 with
  |list ho hall=>exact⟨_,_,ns,rfl,rfl,ho,a2m ns _ hall,bL⟩
theorem a8G(l:OpenLaw)(args:List WData):l.row.toRowW.claim.post args (.bool true) args=true:=
 postW_of (r:=l.row.toRowW) (X:=(true==true))
  (show WShape.has [] (.bool true) .bool=true by first|rfl|decide|simp[WShape.has,WShape.arms,WShape.armsAll])
  (show(WTm.eq .res (.lit (.bool true))).value [] {args:=args,res:=some (.bool true),after:=args}=some (.bool (true==true)) from w_eq_bool (w_res rfl) w_lit) rfl
variable{q:Program}{dj:List Str}{XP:(Str->Option Value)->Heap->Prop}{YP:World->Heap->Prop}{d:DefRec}
theorem a6E
 (hn:l.most=some n) (hdf:d.params.defaults=[])
 (call:∀(w:World) (s₀ bB:Shared) (mg mb:Str->Option Value) (fa:Addr) (o:Obj) (pm cd cM:Value) (a:Addr) (vs:List Value) (ns:List Int),
  Ground q dj [] XP w s₀ mg mb bB.heap->YP w bB.heap→
  bB.heap.get? fa=some o->o.data=.func (docDef d.name d.params d.body d.scope pm cd cM)->bB.heap.CodeRec cd d.name->mg d.name=some (.ref fa)→
  bB.heap.get? a=some {cls:=.type "list",data:=.seq vs.toArray}->IntsAre vs ns->ns.length<=n->bB.gens= #[]→
  codeAny (model l.prog w) callerA (.call (.ref fa) ⟨[.ref a],[]⟩) (λr s'=>r=.ok (.ret (.bool true))/\OldK bB.heap s'.heap/\s'.os=bB.os/\AllBare s'.gens) bB):
 WalkO q dj XP YP l.row.toRowW d [] (λf vs=>PySem.call f vs):=by
 intro w s₀ bB mg mb G Y fa o pm cd cM dV kV ho hd eE hD hmg hg args vals as hpre hlay hrd hwl hlo;obtain rfl:dV=.none:=Dflts.none hD hdf;obtain rfl:kV=.none:=Dflts.noKw hD;obtain⟨a,vs,ns,rfl,rfl,hobj,eG,bL⟩:=a8B hn hpre hwl;refine enter_call (codeAny_mono (call w s₀ bB mg mb fa o pm cd cM a vs ns G Y ho (fd_plain hd) eE hmg hobj eG bL hg) λr s' hq=>?_);obtain⟨rfl,h2,h3,h4⟩:=hq;exact⟨.inl ⟨.bool true,.bool true,[],rfl,λ_=>rfl,.bool true,a8G l _,λ_=>⟨List.Pairwise.nil,λ_ hm=>(nomatch hm)⟩⟩,h2,h3,h4⟩
variable{f:Addr}{C:Addr}{x:Addr}{ox:Obj}{es:List DictEntry}{v:Value}{L:Addr}{m:Str->Option Value}
end Att
namespace L2
open PySem PySem.Spec PyProof.Rows
theorem a3K:∀{vs:List Value} {ns:List Int},IntsAre vs ns->k8 (ns.map V.int) vs
 |_,_,.nil=>.nil
 |_,_,.cons n t h=>.cons ⟨t,rfl⟩ (a3K h)
def b2g(H:Hp):Prop:=∀b,H b=none∨∃o xs,H b=some (.frz o (.lst xs))
variable{P:Program}{w:World}{K:Frag}{mg:Str->Option Value}{CX:CXT}{a:Addr}{fd:FuncData}{x:Str}{sp:Sp}{ns:List Int}
theorem b0L{mb:Str->Option Value}{k:Nat}{fa:Addr}{bB:Shared}{vs:List Value}
 (KX:K.In bB.heap) (hns:bB.heap.Ns mainGlobals mg) (hb:bB.heap.Ns builtinsNs mb) (hbb:∀x:Str,x≠"__name__"->mb x=bootBuiltins x) (hlim:bB.heap.NoLimit) (hg:bB.gens= #[])
 (ha:bB.heap.get? a=some {cls:=.type "list",data:=.seq vs.toArray}) (hi:IntsAre vs ns) (hl:ns.length<=sizeLine) (hr:Room k callerA)
 (F:∀base:Heap,K.In base->base.Ns mainGlobals mg->FnOk P w K mg base CX k fa fd [x] sp) (hbind:∀(s:Shared) (u:Value),BindsTo s fd ⟨[u],[]⟩ [(x,u)])
 (eB:∀H:Hp,b2g H->SqL K H a (ns.map V.int)->sp [.ref a] H (λv _=>v=.bl true) λ_ _ _=>False)
 (hCX:∀H e s',CX [] H bB (λ_ _ _=>False) e s'->False):
 codeAny (model P w) callerA (.call (.ref fa) ⟨[.ref a],[]⟩) (λr s'=>r=.ok (.ret (.bool true))/\OldK bB.heap s'.heap/\s'.os=bB.os/\AllBare s'.gens) bB:=by
 have rv:=a3K hi;have lenV:=hi.length
 -- from an abstract heap in which nothing but the script may be tracked
 have br:∀H:Hp,b2g H->SqL K H a (ns.map V.int)->HOk P w H bB.heap->(∀b,H b≠none->b=a)->(H a≠none->K.lookup a=none)→
  codeAny (model P w) callerA (.call (.ref fa) ⟨[.ref a],[]⟩) (λr s'=>r=.ok (.ret (.bool true))/\OldK bB.heap s'.heap/\s'.os=bB.os/\AllBare s'.gens) bB:=by
  intro H hO hS hok hA hK;have base_of:∀{b:Addr} {o:Obj},bB.heap.get? b=some o->H b=none->(a5e bB.heap H).get? b=some o:=λe n=>b1d e n;have noA:∀{b:Addr} {o:Obj} {es:Array DictEntry} {ep:Nat},bB.heap.get? b=some o->o.data=.dict es ep->H b=none:=fun{b o es ep} e d=>by
   cases q:H b with
   |none=>rfl
   |some u=>
    have e':b=a:=hA b (by rw[q];simp);subst e';rw[ha] at e;cases e;have d':Data.seq vs.toArray _=Data.dict es ep:=d;cases d'
  have nsK:∀{b:Addr} {m:Str->Option Value},bB.heap.Ns b m->(a5e bB.heap H).Ns b m:=fun{b m} ⟨o,es,ep,e,d,r⟩=>⟨o,es,ep,base_of e (noA e d),d,r⟩;have hKb:K.In (a5e bB.heap H):=λb o e=>base_of (KX b o e) (by
   cases q:H b with
   |none=>rfl
   |some u=>
    have e':b=a:=hA b (by rw[q];simp);subst e';rw[hK (by rw[q];simp)] at e;cases e)
  have hM:Mod K mg (a5e bB.heap H):=⟨hKb,nsK hns,⟨mb,nsK hb,hbb⟩,let⟨mc,h1,h2⟩:=hlim;⟨mc,nsK h1,h2⟩⟩;have e0:Env0 P w K mg (a5e bB.heap H) callerA [] bB H:=⟨rfl,hM,λb o e=>b3q e,Nat.le_of_eq (a8Y _ _),trivial,λb hb=>absurd (show b∈([]:List Addr) from hb) ⋯,hok,.of_eq hg⟩;refine codeAny_mono ((F _ hKb (nsK hns)).run callerA [] bB H ⟨[.ref a],[]⟩ [.ref a] [.ref a] _ _ hr e0 (hbind bB (.ref a)) (.cons rfl .nil) (eB H hO hS)) λr s' h=>?_;cases r with
  |error e=>exact(hCX H e s' h).elim
  | ok fl=>
   cases fl with
   |next=>exact False.elim h
   |brk=>exact False.elim h
   |cont=>exact False.elim h
   | ret u=>
    obtain⟨v,H',os,bare,un,hok',r',q⟩:=h;have q':v=.bl true:=q;subst q';obtain rfl:u=Value.bool true:=r';refine⟨rfl,OldK.of_keep λb o e=>?_,os,bare⟩;cases q:H b with
    |none=>exact un.keep b o e q (by intro z;exact absurd (show b∈([]:List Addr) from z) ⋯) ⋯
    |some u=>
     rcases hO b with z|⟨ob,xs,z⟩
     · rw[q] at z;cases z
     · have z2:=un.frzs b ob _ z;obtain⟨e1,_⟩:=hok b _ z;obtain⟨e2,_⟩:=hok' b _ z2;rw[e] at e1;cases e1;exact e2
 cases hk:K.lookup a with
 |some o=>
  -- the script is one of the module's own objects
  have e:=KX a o hk;rw[ha] at e;cases e;refine br (λ_=>none) (λ_=>.inl rfl) (.inr ⟨_,vs.toArray,_,hk,rfl,rfl,rfl,by rw[size_toArray,lenV];exact hl,by simpa using rv⟩) (λb u z=>by have z':(none:Option HO)=some u:=z;cases z') (λb z=>absurd rfl z) λz=>absurd rfl z
 |none=>
  refine br (λb=>if b=a then some (.frz {cls:=.type "list",data:=.seq vs.toArray} (.lst (ns.map V.int))) else none) (λb=>?_) (.inl (.inr ⟨{cls:=.type "list",data:=.seq vs.toArray},ay rfl⟩)) (λb u z=>?_) (λb z=>?_) λ_=>hk
  · by_cases hb:b=a
    · exact .inr ⟨_,_,ay hb⟩
    · exact .inl (az hb)
  · by_cases hb:b=a
    · have z':=(ay hb).symm.trans z;cases z';subst hb;exact⟨ha,by rw[aa];exact hl,vs,_,rv,ha⟩
    · have z':=(az hb).symm.trans z;cases z'
  · by_cases hb:b=a
    · exact hb
    · exact absurd (az hb) z
abbrev KOf{K:Frag}{h:Heap}(_:K.In h):Frag:=K
variable{n:Nat}{q:Program}{dj:List Str}{XP:(Str->Option Value)->Heap->Prop}{YP:World->Heap->Prop}
theorem b2k{l:PySem.W.OpenLaw}{k:Nat}{d:DefRec}{K:Params->Frag}{CX:World->CXT}{sp:World->Sp}
 (hn:l.most=some n) (hn2:n<=sizeLine) (hdf:d.params.defaults=[]) (hr:Room k callerA)
 (hY:∀(w:World) (h:Heap),YP w h->(K w.params).In h)
 (F:∀(w:World) (mg:Str->Option Value) (fa:Addr) (h:Heap),(K w.params).In h->h.Ns mainGlobals mg->mg d.name=some (.ref fa)→
  ∃fd:FuncData,(∀(s:Shared) (u:Value),BindsTo s fd ⟨[u],[]⟩ [(x,u)])∧
   ∀base:Heap,(K w.params).In base->base.Ns mainGlobals mg->FnOk l.prog w (K w.params) mg base (CX w) k fa fd [x] (sp w))
 (eB:∀(w:World) (H:Hp) (a:Addr) (ns:List Int),ns.length<=n->b2g H->SqL (K w.params) H a (ns.map V.int)->sp w [.ref a] H (λv _=>v=.bl true) λ_ _ _=>False)
 (hCX:∀(w:World) (H:Hp) (s:Shared) (e:Value) (s':Shared),CX w [] H s (λ_ _ _=>False) e s'->False):
 PySem.W.WalkO q dj XP YP l.row.toRowW d [] (λf vs=>PySem.call f vs):=by
 refine Att.a6E hn hdf λw s₀ bB mg mb fa o pm cd cM a vs ns G Y ho hd eE hmg hobj eG bL hg=>?_;have KX:=hY w _ Y;obtain⟨fd,hb,hF⟩:=F w mg fa _ KX G.T.g hmg;exact b0L KX G.T.g G.T.b G.T.builtins G.T.nolimit hg hobj eG (aO bL hn2) hr hF hb (λH hO hS=>eB w H a ns bL hO hS) λH e s'=>hCX w H bB e s'
noncomputable def b3G(s:Stmt)(j:Nat):Stmt:=match s with
 |.ClassDef _ _ _ body _ _ _ _ _ _ _=>body.getD j (.Pass ⟨0,0,0,0⟩)
 |_=>.Pass ⟨0,0,0,0⟩
noncomputable def R5(s:Stmt):Arguments:=match s with
 |.FunctionDef _ a _ _ _ _ _ _ _ _=>a
 |_=>{posonlyargs:=[],args:=[],vararg:=none,kwonlyargs:=[],kw_defaults:=[],kwarg:=none,defaults:=[]}
def L8(s:Stmt):List Stmt:=match s with
 |.FunctionDef _ _ b _ _ _ _ _ _ _=>b
 |_=>[]
noncomputable def p7(s:Stmt):Scope:=match s with
 |.FunctionDef _ _ _ _ _ _ sc _ _ _=>sc
 |_=>{kind:=.function,names:=[],isGenerator:=false,isCoroutine:=false}
abbrev CX0:CXT:=λ_ _ _ _ _ _=>False
abbrev E0:XK:=λ_ _ _=>False
variable{X:Cx}
theorem b4I:a3y CX0 X E0:=λ_ _ _ _ _ _ _ h=>h.elim
structure Fun(K:Frag)(x qual:Str)(st:Stmt)(f:Addr)(fd:FuncData):Prop where
 ex:∃(oc:Value) (od:Option Addr) (kV cM pm:Value) (an:Option Addr) (cu ct:Value) (ei:Array (Option Value)),
  fd=fnOf x qual (R5 st) (L8 st) (p7 st) .none kV cM pm an cu ct/\K.lookup f=some ⟨oc,od,.func fd,ei⟩/\PySem.W.codeIn K cu qual=true
 kp:PySem.W.keepIn K (.ref f)=true
variable{qual:Str}{st:Stmt}{N:List Str}{ps:List Str}{oc:Value}{an:Option Addr}{ei:Array (Option Value)}{cM:Value}{pm:Value}{cu:Value}{ct:Value}
section
variable{base:Heap}
theorem Fun.binds{f:Addr}(F:Fun K x qual st f fd)
 (h:∀(kV cM pm:Value) (an:Option Addr) (cu ct:Value) (us:List Value),us.length=ps.length->bindArgs (fnOf x qual (R5 st) (L8 st) (p7 st) .none kV cM pm an cu ct) ⟨us,[]⟩=pure (ps.zip us)):R6 K fd ps []:=by
 obtain⟨oc,od,kV,cM,pm,an,cu,ct,ei,rfl,lk,eE⟩:=F.ex;exact .all (h kV cM pm an cu ct)
theorem b1q{f:Addr}{od:Option Addr}{kV:Value}(l:K.lookup f=some ⟨oc,od,.func (fnOf x qual (R5 st) (L8 st) (p7 st) .none kV cM pm an cu ct),ei⟩)
 (c:PySem.W.codeIn K cu qual=true) (k:PySem.W.keepIn K (.ref f)=true):Fun K x qual st f (fnOf x qual (R5 st) (L8 st) (p7 st) .none kV cM pm an cu ct):=⟨⟨oc,od,kV,cM,pm,an,cu,ct,ei,rfl,l,c⟩,k⟩
end
variable{A:Around}{pos:Pos}
theorem b6C{A B:Prop}(h:B):if false=true then A else B:=by rw[az bg];exact h
theorem b6B{A B:Prop}(h:A):if true=true then A else B:=by rw[ay rfl];exact h
def c1K(H H':Hp):Prop:=∀b o,H b=some o->H' b=some o
variable{H:Hp}{H':Hp}
noncomputable def J4(cells:List (Str×Addr)):List (Str×NameKind)->List (Str×Addr)->List (Str×Addr)
 |[],bw=>bw
 |(n,k)::r,bw=>if k=NameKind.free then(match cells.lookup n with|some c=>J4 cells r ((n,c)::bw)|none=>J4 cells r bw) else J4 cells r bw
theorem U0{cells:List (Str×Addr)}{x:Str}{c:Addr}:∀{l:List (Str×NameKind)} {bw:List (Str×Addr)},(x,c)∈J4 cells l bw->(x,c)∈bw∨((x,NameKind.free)∈l/\cells.lookup x=some c)
 |[],_,h=>.inl h
 | (n, k)::r,bw,h=>by
  unfold J4 at h
  by_cases hk:k=NameKind.free
  · rw [ay hk] at h;cases e:cells.lookup n with
    |none=>
     rw[e] at h;rcases U0 h with q|⟨q,z⟩
     · exact .inl q
     · exact .inr ⟨aD _ q,z⟩
    |some d=>
     rw[e] at h;rcases U0 h with q|⟨q,z⟩
     · rcases aE.mp q with q|q
       · cases q;exact .inr ⟨by rw[hk];exact aU,e⟩
       · exact .inl q
     · exact .inr ⟨aD _ q,z⟩
  · rw[az hk] at h;rcases U0 h with q|⟨q,z⟩
    · exact .inl q
    · exact .inr ⟨aD _ q,z⟩
theorem a0m{cells:List (Str×Addr)}{p:Str×Addr}:∀{l:List (Str×NameKind)} {bw:List (Str×Addr)},p∈bw->p∈J4 cells l bw
 |[],_,h=>h
 | (n,k)::r,bw,h=>by
  unfold J4
  by_cases hk:k=NameKind.free
  · rw[ay hk];cases e:cells.lookup n with
    |none=>exact a0m h
    |some d=>exact a0m (aD _ h)
  · rw[az hk];exact a0m h
theorem a1d{cells:List (Str×Addr)}{x:Str}{c:Addr}(hc:cells.lookup x=some c):∀{l:List (Str×NameKind)} {bw:List (Str×Addr)},(x,NameKind.free)∈l->(x,c)∈J4 cells l bw
 | (n,k)::r,bw,h=>by
  unfold J4;rcases aE.mp h with q|q
  · cases q;rw[ay rfl,hc];exact a0m aU
  · by_cases hk:k=NameKind.free
    · rw[ay hk];cases e:cells.lookup n with
      |none=>exact a1d hc q
      |some d=>exact a1d hc q
    · rw[az hk];exact a1d hc q
theorem a3D{cl:List (Str×Addr)}{c:Addr}:(∀d,(x,d)∈cl->d=c)->(x,c)∈cl->cl.lookup x=some c:=by
 induction cl with
 |nil=>intro _ h;cases h
 |cons p r ih=>
  intro ha h;obtain⟨n,d⟩:=p;rw[lookup_cons]
  by_cases e:x=n
  · subst e;rw[beq_self_eq_true];rw[ha d aU]
  · rw[show(x==n)=false from beq_eq_false_iff_ne.mpr e];refine ih (λd' hd'=>ha d' (aD _ hd')) ?_;rcases aE.mp h with q|q
    · cases q;exact absurd rfl e
    · exact q
variable{cells:List (Str×Addr)}{l:List (Str×NameKind)}
theorem a1c{c:Addr}(hl:(x,NameKind.free)∈l)(hc:cells.lookup x=some c):(J4 cells l []).lookup x=some c:=
 a3D (λd hd=>by
  rcases U0 hd with q|⟨_,z⟩
  · cases q
  · rw[hc] at z;exact(ax z).symm) (a1d hc hl)
theorem O7{c:Addr}(h:(J4 cells l []).lookup x=some c):cells.lookup x=some c:=by
 rcases U0 (PySem.mem_of_lookup h) with q|⟨_,z⟩
 · cases q
 · exact z
theorem a0F{env:Env}{f:Str×NameKind->List (Str×Addr)->Sem (ForInStep (List (Str×Addr)))}
 (hf:∀n k r,f (n,k) r=if(k==NameKind.free)=true then(cellOf env n>>=λa=>pure (ForInStep.yield ((n,a)::r))) else pure (ForInStep.yield r)):
 ∀(l:List (Str×NameKind)) (bw:List (Str×Addr)),(∀y∈l,y.2=NameKind.free->∃c,env.cells.lookup y.1=some c)->(forIn l bw f:Sem (List (Str×Addr)))=pure (J4 env.cells l bw)
 |[],bw,_=>rfl
 | (n,k)::r,bw,h=>by
  rw[List.forIn_cons,hf];unfold J4
  by_cases hk:k=NameKind.free
  · subst hk;obtain⟨c,hc⟩:=h (n,.free) aU rfl;have em:env.cells.lookup n=some c:=hc;have e1:cellOf env n=pure c:=by unfold cellOf;rw[em]
    rw[ay (beq_self_eq_true _),ay rfl,e1,em];simp only[pure_bind];exact a0F hf r _ λy hy=>h y (aD _ hy)
  · have hb:¬(k==NameKind.free)=true:=λz=>hk (by simpa using z);rw[az hb,az hk];simp only[pure_bind];exact a0F hf r _ λy hy=>h y (aD _ hy)
variable{scope:Scope}{env:Env}
theorem a0w(h:∀y∈scope.names,y.2=NameKind.free->∃c,env.cells.lookup y.1=some c):closureFor scope env=pure (J4 env.cells scope.names []):=by
 unfold closureFor
 dsimp only
 rw[a0F (env:=env) (λn k r=>by rfl) scope.names [] h];rfl
theorem a1Q{k:NameKind}(h:(relabel scope env).names.lookup x=some k):(x,k)∈scope.names∨((x,NameKind.free)∈scope.names/\k=.cell):=by
 obtain⟨⟨n,k'⟩,hm,e⟩:=am.mp (PySem.mem_of_lookup h)
 dsimp only at e
 split at e
 · rename_i hc;cases e;have hk:k'=NameKind.free:=by simp only[af,beq_iff_eq] at hc;exact hc.1.1
   exact .inr ⟨hk▸hm,rfl⟩
 · cases e;exact .inl hm
theorem a0X{env:Env}:∀{names:List (Str×NameKind)} {x:Str},names.lookup x=some .free→
 (names.map fun(n,k)=>if(k==NameKind.free&&env.scope.kind==.function&&env.kindOf n==some .cell) then(n,NameKind.cell) else(n,k)).lookup x=some .cell∨
 (names.map fun(n,k)=>if(k==NameKind.free&&env.scope.kind==.function&&env.kindOf n==some .cell) then(n,NameKind.cell) else(n,k)).lookup x=some .free
 |[],_,h=>by simp at h
 | (n,k)::r,x,h=>by
  have ih:= @a0X env r x;rw[map_cons];cases hx:x==n with
  |true=>
   simp only[lookup_cons,hx] at h;cases h
   by_cases hc:(NameKind.free==NameKind.free&&env.scope.kind==.function&&env.kindOf n==some .cell)=true
   · refine .inl ?_;simp only[ay hc,lookup_cons,hx]
   · refine .inr ?_;simp only[az hc,lookup_cons,hx]
  |false=>
   simp only[lookup_cons,hx] at h
   by_cases hc:(k==NameKind.free&&env.scope.kind==.function&&env.kindOf n==some .cell)=true
   · simp only[ay hc,lookup_cons,hx];exact ih h
   · simp only[az hc,lookup_cons,hx];exact ih h
structure CompScope(sc scope:Scope)(own frees:List Str):Prop where
 kind:scope.kind=.function
 nocell:∀y∈scope.names,y.2≠.cell
 locs:∀y∈scope.names,y.2=.local->scope.names.lookup y.1=some .local
 out:∀y∈scope.names,y.2=.free->sc.names.lookup y.1=some .cell
 nd:(own++frees).Nodup
 ownL:∀x∈own,scope.names.lookup x=some .local
 fr:∀x∈frees,scope.names.lookup x=some .free
def o9(X:Cx)(own frees:List Str)(scope:Scope)(C:Addr)(s₀:Shared)(H₀:Hp)(ex:List Addr):Cx:=
 { prog:=X.prog,w:=X.w,K:=X.K,mg:=X.mg,base:=X.base,A:=X.A,N:=own++frees,s₀:=s₀,H₀:=H₀,env:=compEnvC scope (J4 X.env.cells scope.names []) C X.env,
   outer:=X.stack,stack:=X.stack,ex:=ex,fn:=λ_=>false,calm:=X.calm,pn:=[],xe:=λ_ _=>False}
def A8(own:List Str)(js:List Nat)(σ:St):St:=own.map (λ_=>none)++js.map (λj=>(σ[j]?).join)
def Wk(σ bE:St):Prop:=σ.length=bE.length/\∀(i:Nat) (v:V),σ[i]? =some (some v)->bE[i]? =some (some v)
variable{σ:St}{v:V}
def a6F(X:Cx)(ifs:List Expr)(t:TT):Prop:=
 ∀(bp:List (Addr×Obj)) (s:Shared) (σ:St) (H:Hp) (Q:Bool->Hp->Prop),Inv X bp σ H s->t σ H Q→
  wpAny (model X.prog X.w) X.A (forIn ifs true λc r=>if r=true then do let ok←isTrue c X.env (eval c X.env);pure (ForInStep.yield ok) else pure (ForInStep.yield r)) (TP X bp σ Q) X.xe s
theorem b2X:a6F X [] (λ_ H Q=>Q true H):=λ_ _ _ H _ I h=>wpAny_tests_nil ⟨H,I,h⟩
variable{c:Expr}
theorem b2W{t:TT}(h:PT X c t):a6F X [c] t:=λbp s σ H Q I q=>wpAny_tests_one (h bp s σ H Q I q)
variable{iter:Expr}
section
variable{prog:Program}{R:Result->Shared->Prop}{s:Shared}
theorem a5m{ca target:Expr}{ifs:List Expr}{it bw:Value}(I:Nat->Shared->Prop)
 (dH:∀n s,I n s->wpAny (model prog w) A (pyNext it) (λr bB=>match r with
  |none=>R (.ok .next) bB
  | some v=>wpAny (model prog w) A (letOwnedTupleGo target it v) (λ_ s₁'=>wpAny (model prog w) A (assign target env v) (λ_ cN=>
   wpAny (model prog w) A (forIn ifs true λc r=>if r=true then do let ok←isTrue c env (eval c env);pure (ForInStep.yield ok) else pure (ForInStep.yield r)) (λok eg=>
    if ok=true then wpAny (model prog w) A (eval ca env) (λx s₄=>
     wpAny (model prog w) A (call (.builtin "list.append") [bw,x]) (λ_ s₅=>∃m,m<n/\I m s₅) (λ_ _=>False) s₄) (λ_ _=>False) eg
    else∃m,m<n/\I m eg) (λ_ _=>False) cN) (λ_ _=>False) s₁') (λ_ _=>False) bB) (λ_ _=>False) s)
 (n:Nat) (h:I n s):codeAny (model prog w) A (.compLoop (.ListComp ca [⟨target,iter,ifs,0⟩] scope pos) 0 it bw env) R s:=by
 have no:∀{α:Type} {t:Sem α} {Q:α->Shared->Prop} {E:Value->Shared->Prop} {s:Shared},wpAny (model prog w) A t Q (λ_ _=>False) s->wpAny (model prog w) A t Q E s:=
  λh=>fF h (λ_ _ q=>q) λ_ _ z=>z.elim
 refine codeAny_loop rfl I (λn s hI=>?_) n h;show wpAny _ A ((compTurn (.ListComp ca [⟨target,iter,ifs,0⟩] scope pos) 0 it bw env).onRaise (λx=>do noteFrame x env;theTreesLotGoes x)) _ _ s;refine wpAny_noted ?_;rw[compTurn_list];refine eP (wpAny_standAt (eP (no (fF (dH n s hI) (λr bB dA=>?_) λ_ _ h'=>h'))));cases r with
 |none=>exact eR dA
 | some v=>
  refine eP (no (fF dA (λ_ s₁' h₁'=>?_) λ_ _ h'=>h'));refine eP (no (fF h₁' (λ_ cN h₂=>eP (no (fF h₂ (λok eg h₃=>?_) λ_ _ h'=>h'))) λ_ _ h'=>h'));cases ok with
  |false=>exact eR ⟨rfl,h₃⟩
  |true=>
   exact eP (eP (no (fF h₃ (λx s₄ h₄=>eP (no (fF h₄ (λ_ s₅ h₅=>eR (eR ⟨rfl,h₅⟩)) λ_ _ h'=>h'))) λ_ _ h'=>h')))
end
variable{h:Heap}{h':Heap}
noncomputable def a5B(own:List Str)(js:List Nat)(wi:TI)(g:TG)(tc:TT)(te:TE):TE:=λσ H Q=>wi σ H λJ H1=>∀D,H1 D=none→
 ∃ W:Nat->Nat->List V->Hp->Prop,(∃m,W 0 m [] (upd H1 D (.lst [])))/\∀i m ys H2,W i m ys H2→
  (J.stop i H2/\Q (.ref D) H2)∨(J.go i H2/\∀x H3,J.yld i H2 x H3->g x (A8 own js σ) H3 λdZ H4=>Wk (A8 own js σ) dZ/\tc dZ H4 λb H5=>
   if b=true then te dZ H5 λy H6=>H6 D=some (.lst ys)/\ys.length<sizeLine/\∃m',m'<m/\W (i+1) m' (ys++[y]) (upd H6 D (.lst (ys++[y])))
   else∃m',m'<m/\W (i+1) m' ys H5)
variable{bp:List (Addr×Obj)}{C:Addr}{fp:List Addr}{s':Shared}{m:Str->Option Value}
section
variable{ca tg:Expr}{ifs:List Expr}{own frees:List Str}{js:List Nat}{wi:TI}{g:TG}{tc:TT}{te:TE}
theorem b4p{s:Shared}(I:Inv X bp σ H s)(S:CompScope X.env.scope scope own frees)(hC:s.heap.objs.size<=C)
 (hf:∀b∈fp,a2o X bp H b) (ho:∀b∈fp,∃o,s.heap.get? b=some o):(o9 X own frees scope C s H fp).Ok:=by
 have cellX:∀x c,(J4 X.env.cells scope.names []).lookup x=some c->X.env.cells.lookup x=some c:=λx c e=>O7 e;refine⟨I.ok.mod,S.kind,I.ok.glob,I.ok.blt,hC,λx y c h1 h2=>I.ok.inj x y c (cellX x c h1) (cellX y c h2),λx hx=>?_,λx c h=>(bg h).elim,I.ok.hd,I.ok.frames,.inl rfl,λb hb=>⟨?_,λx c e=>(hf b hb).2.2.2.2.1 x c (cellX x c e)⟩,
  I.bs,aO I.ok.bsz I.sz,λb o e hb=>?_,λb hb hm=>?_,I.stack,I.stkFree⟩
 · have dE:(relabel scope X.env).names.lookup x=some .cell∨(relabel scope X.env).names.lookup x=some .free:=hx;have hm:(x,NameKind.free)∈scope.names:=by
    rcases dE with q|q
    · rcases a1Q q with z|z
      · exact absurd rfl (S.nocell _ z)
      · exact z.1
    · rcases a1Q q with z|z
      · exact z
      · exact z.1
   obtain⟨c,hc⟩:=I.ok.has x (.inl (S.out _ hm rfl));exact⟨c,a1c hm hc⟩
 · intro e;obtain⟨o,q⟩:=ho b hb;have e':b=C:=e;have:=eS q;rw[e'] at this;exact absurd (aC this hC) (aN _)
 · rcases(hf b hb).2.2.2.1 with z|z
   · exact I.ok.noex b o e z
   · exact absurd (aC (aC (eS e) I.ok.bsz) z) (aN _)
 · rcases aE.mp (I.stkSub b hm) with z|z
   · exact(hf b hb).2.1 z
   · exact(hf b hb).2.2.1 z
theorem b1N {s:Shared} (I:Inv X bp σ H s) (S:CompScope X.env.scope scope own frees) (hj:frees.map some=js.map (X.N[·]?)) (hC:s.heap.objs.size<=C)
 (hf:∀b∈fp,a2o X bp H b) (ho:∀b∈fp,∃o,s.heap.get? b=some o) (os:s'.os=s.os) (bare:AllBare s'.gens) (k:∀b o,s.heap.get? b=some o->s'.heap.get? b=some o) (un:Un (frs X.stack) fp H H' s.heap s'.heap)
 (hn:s'.heap.Ns C m) (hCn:H' C=none) (hok:HOk X.prog X.w H' s'.heap) (hcl:∀x c,X.env.cells.lookup x=some c->H' c=none):
 Inv (o9 X own frees scope C s H fp) [] (A8 own js σ) H' s':=by
 have bL:frees.length=js.length:=by have:=fh List.length hj;simpa using this
 refine⟨b4p I S hC hf ho,os,bare,un,⟨m,hn,λi x v h1 h2 h3=>?_⟩,λx c e=>?_,hCn,λx c e=>hcl x c (O7 e),λp hp=>absurd (show p∈([]:List (Addr×Obj)) from hp) ⋯,hok,?_⟩
 · have h1':(own++frees)[i]? =some x:=h1;unfold A8 at h2
   by_cases hi:i<own.length
   · rw[av (by simpa using hi),ak] at h2;cases q:own[i]? with
     |none=>rw[q] at h2;cases h2
     |some z=>rw[q] at h2;cases h2
   · have hi':own.length<=i:=aQ hi;rw[au hi'] at h1';rw[au (by simpa using hi'),aa,ak] at h2;cases q:js[i-own.length]? with
     |none=>rw[q] at h2;cases h2
     | some j=>
      rw[q] at h2;have h2':(σ[j]?).join=some v:=ax h2;have hσ:σ[j]? =some (some v):=by
       cases z:σ[j]? with
       |none=>rw[z] at h2';cases h2'
       |some w'=>rw[z] at h2';exact fh some h2'
      have hX:X.N[j]? =some x:=by have e:=fh (λl=>l[i-own.length]?) hj;rw[ak,ak,h1',q] at e;exact(ax e).symm
      have hm:(x,NameKind.free)∈scope.names:=PySem.mem_of_lookup (S.fr x (aF h1'));have dl:=S.out _ hm rfl;obtain⟨m0,hn0,hl0⟩:=I.loc;obtain⟨u,ru,l⟩:=hl0 j x v hX hσ (.inr (.inl dl));refine⟨u,ru,?_⟩;rcases l with⟨q1,_⟩|⟨_,c,e,z⟩
      · have q1':X.env.scope.names.lookup x=some .local:=q1;rw[dl] at q1';cases q1'
      · refine .inr ⟨a0X (S.fr x (aF h1')),c,a1c hm e,?_⟩;obtain⟨o,eo,d⟩:=z;exact⟨o,k c o eo,d⟩
 · obtain⟨v,o,eo,d⟩:=I.cell x c (O7 e);exact⟨v,o,k c o eo,d⟩
 · show(A8 own js σ).length=(own++frees).length;unfold A8;rw[aq,aa,aa,aq,bL]
end
variable{Q:Value->Shared->Prop}
section
def c0X:V->Option Int->Option Int->Hp->VK->Prop:=λx lo hi H Q=>∃z,x=.str z/\z.length<=sizeLine/\Q (.str (Txt.slice z lo hi)) H
theorem b5o:SlR X c0X:=by
 intro bp s σ H x v vl vu lo hi sl Q I rx hs pl pu h;obtain⟨z,rfl,hz,q⟩:=h;obtain⟨t,rfl⟩:=rx;have cn:∀(t':Tok) (k:Nat),EP X bp σ Q (.str (Txt.slice z lo hi) t') {s with toks:=k}:=λt' k=>⟨.str _,H,I.tok _,⟨_,rfl⟩,q⟩;refine⟨"str",_,PySem.F.slot_str_getitem.lookup,typeIs_str _ _ _,?_⟩;obtain⟨o,e1,e2,e3⟩:=hs;cases pl with
 |none=>
  cases pu with
  |none=>exact fX (l:=none) (u:=none) (st:=none) ⟨o,e1,e2,e3⟩ rfl (post_val_or_str ⟨aO (gm z _ _) hz,λt' k=>cn t' k⟩)
  |int j uj=>exact fX (l:=none) (u:=some (j,uj)) (st:=none) ⟨o,e1,e2,e3⟩ rfl (post_val_or_str ⟨aO (gm z _ _) hz,λt' k=>cn t' k⟩)
 |int i ui=>
  cases pu with
  |none=>exact fX (l:=some (i,ui)) (u:=none) (st:=none) ⟨o,e1,e2,e3⟩ rfl (post_val_or_str ⟨aO (gm z _ _) hz,λt' k=>cn t' k⟩)
  |int j uj=>exact fX (l:=some (i,ui)) (u:=some (j,uj)) (st:=none) ⟨o,e1,e2,e3⟩ rfl (post_val_or_str ⟨aO (gm z _ _) hz,λt' k=>cn t' k⟩)
theorem a3I:∀l:List (Str×Tok),k8 ((l.map (·.1)).map V.str) (strValues l)
 |[]=>.nil
 |(x,t)::r=>.cons ⟨t,rfl⟩ (a3I r)
theorem a3M:∀{xs:List Str} {us:List Value},k8 (xs.map V.str) us->∃l:List (Str×Tok),us=strValues l/\l.map (·.1)=xs
 |[],us,r=>by rw[map_nil] at r;cases r;exact⟨[],rfl,rfl⟩
 | x::xs,us,r=>by
  rw[map_cons] at r;cases r with
  |cons r1 r2=>
   obtain⟨t,rfl⟩:=r1;obtain⟨l,rfl,rfl⟩:=a3M r2;exact⟨(x,t)::l,rfl,rfl⟩
def b5v:V->List V->Hp->VK->Prop:=λx vs H Q=>∃z y,x=.str z/\vs=[.str y]/\0<y.length/\z.length+2<=sizeLine/\∀p,H p=none->Q (.ref p) (upd H p (.lst ((Txt.split z y).map V.str)))
theorem b0D:MtR X "str.split" b5v:=by
 intro bp s σ H x vs v us Q I rx rv h;obtain⟨z,y,rfl,rfl,hy0,hz,q⟩:=h;obtain⟨t,rfl⟩:=rx;obtain⟨u,rfl,tu,rfl⟩:=rv.one;have hy:(y.length==0)=false:=by rw[beq_eq_false_iff_ne];omega
 have cn:∀(l:List (Str×Tok)) (k:Nat),l.map (·.1)=Txt.split z y->EP X bp σ Q (.ref s.heap.objs.size) {s with toks:=k,heap:=s.heap.push {cls:=.type "list",data:=.seq (strValues l).toArray}}:=λl k e=>by
  refine⟨.ref s.heap.objs.size,upd H s.heap.objs.size (.lst ((Txt.split z y).map V.str)),?_,rfl,q _ (I.hok.fresh (aj _))⟩;refine I.laid (t':=k) (λb o e=>eQ _ e) (aj _) ⟨?_,strValues l,0,?_,eU _ rfl⟩
  · rw[aa];exact aO (split_le z y) hz
  · rw[←e];exact a3I l
 cases h1:(decide (z.length<y.length)||decide (strKind z<strKind y))
 · cases hf:(occurrences z y 0 z.length (z.length+1)).isEmpty
   · have es:Txt.split z y=partsBetween z (occurrences z y 0 z.length (z.length+1)) y.length:=(az (ne_true_of_eq_false h1)).trans (az (ne_true_of_eq_false hf));refine call_meets slot_str_split (typeIs_str _ _ _) entry_str_split (args_str_split_2 _ _) (meets_str_split_sep z y t tu h1 hy hf (by omega) (by rw[←es];exact aO (split_le z y) hz)) ?_;show wants _ _ _ {s with toks:=_,heap:=s.heap.push {cls:=.type "list",data:=.seq (strsFrom s.toks (partsBetween z (occurrences z y 0 z.length (z.length+1)) y.length)).toArray}};rw[strsFrom_eq];exact cn (numbered s.toks _) _ ((numbered_texts _ _).trans es.symm)
   · exact call_meets slot_str_split (typeIs_str _ _ _) entry_str_split (args_str_split_2 _ _) (meets_str_split_not_found z y t tu h1 hy hf)
      (cn [(z,t)] s.toks ((az (ne_true_of_eq_false h1)).trans (ay hf)).symm)
 · exact call_meets slot_str_split (typeIs_str _ _ _) entry_str_split (args_str_split_2 _ _) (meets_str_split_cannot_occur z y t tu h1)
    (cn [(z,t)] s.toks (ay h1).symm)
def b2L:V->List V->Hp->VK->Prop:=λx vs H Q=>∃z y,x=.str z/\vs=[.str y]/\Q (.bl (Txt.startswith z y)) H
theorem a8N:MtR X "str.startswith" b2L:=by intro bp s σ H x vs v us Q I rx rv h;obtain⟨z,y,rfl,rfl,q⟩:=h;obtain⟨t,rfl⟩:=rx;obtain⟨u,rfl,tu,rfl⟩:=rv.one;exact call_gives PySem.F.slot_str_startswith (typeIs_str _ _ _) PySem.F.entry_str_startswith (PySem.F.args_str_startswith_2 _ _) (gives_str_startswith z y t tu) ⟨.bl _,H,I,rfl,q⟩
def b8z(K:Frag):V->List V->Hp->VK->Prop:=λx vs H Q=>∃z p ts,x=.str z/\vs=[.ref p]/\SqL K H p (ts.map V.str)/\JoinOk z ts=true/\Q (.str (Txt.join z ts)) H
theorem b3v:MtR X "str.join" (b8z X.K):=by intro bp s σ H x vs v us Q I rx rv h;obtain⟨z,p,ts,rfl,rfl,hp,hok,q⟩:=h;obtain⟨t,rfl⟩:=rx;obtain⟨u,rfl,ru⟩:=rv.one;cases ru;obtain⟨bt,r,pl,hz⟩:=I.list hp;obtain⟨l,rfl,e⟩:=a3M r;exact SC.join pl.isList e hok λt' k=>⟨.str _,H,I.tok _,⟨_,rfl⟩,q⟩
theorem a6C:∀{bs:List Bool} {us:List Value},k8 (bs.map V.bl) us->us=bs.map Value.bool
 |[],us,r=>by rw[map_nil] at r;cases r;rfl
 | b::bs,us,r=>by
  rw[map_cons] at r;cases r with
  |cons r1 r2=>
   cases r1;rw[a6C r2];rfl
theorem a8F(bs:List Bool)(p:Bool->Bool):(List.range bs.length).all (λi=>p (bs.getD i true))=bs.all p:=by
 induction bs with
 |nil=>rfl
 |cons b r ih=>
  rw[length_cons,List.range_succ_eq_map,all_cons,all_map,all_cons,←ih];rfl
theorem a8E(bs:List Bool)(p:Bool->Bool):(List.range bs.length).any (λi=>p (bs.getD i true))=bs.any p:=by
 induction bs with
 |nil=>rfl
 |cons b r ih=>
  rw[length_cons,List.range_succ_eq_map,any_cons,List.any_map,any_cons,←ih];rfl
theorem a4n{s:Shared}{p:Addr}{bs:List Bool}(hc:X.calm=true)(I:Inv X bp σ H s)(hp:SqL X.K H p (bs.map V.bl)){E:Value->Shared->Prop}{f:(Nat->Bool)->Bool}
 (hq:∀s',Inv X bp σ H s'->Q (.bool (f λi=>bs.getD i true)) s'):
 wpAny (model X.prog X.w) X.A.in1 (pyIter (.ref p)) (λit cN=>∃I fp wr n P St tr,it=.ref I/\Walks X.prog X.w X.A.in1 I fp wr n P St/\St 0 cN.heap/\TruthOf X.prog X.w X.A.in1 P tr/\n=bs.length∧
  ∀h' tk,(∀b o,b∉wr->cN.heap.get? b=some o->h'.get? b=some o)->Q (.bool (f tr)) {cN with heap:=h',toks:=tk}) E s:=by
 obtain⟨bt,r,pl,hz⟩:=I.list hp;have e:=a6C r;subst e;have ej:p≠s.heap.objs.size:=by obtain⟨o,n,e,_⟩:=pl;exact eV (eS e)
 refine wpAny_pyIter_list pl.isList ⟨s.heap.objs.size,_,_,_,_,_,λi=>bs.getD i true,rfl,Walks.list (A:=X.A.in1) (I.ok.hd hc) s.heap.objs.size p ej (bs.map Value.bool).toArray,⟨⟨_,eU _ rfl,rfl,rfl⟩,?_⟩,?_,?_,?_⟩
 · exact pl.isList.at λo e=>eQ _ e
 · intro i v s' Q' E' hP hQ;have hP':(bs.map Value.bool).toArray[i]? =some v:=hP;rw[List.getElem?_toArray,ak] at hP';cases q:bs[i]? with
   |none=>rw[q] at hP';cases hP'
   |some b=>
    rw[q] at hP';cases hP';have:bs.getD i true=b:=by rw[List.getD_eq_getElem?_getD,q];rfl
    have hQ':Q' b s':=this▸hQ;exact fu hQ'
 · simp
 · intro h' tk k;exact hq _ (I.kept λb o e=>k b o (by
    have:=eV (eS e)
    simpa using this) (eQ _ e))
theorem b1S(hc:X.calm=true):E4 X (.builtin "all") (λxs H Q=>∃(p:Addr) (bs:List Bool),xs=[.ref p]/\SqL X.K H p (bs.map V.bl)/\Q (.bl (bs.all id)) H):=by
 intro bp s σ H xs us Q I r h;obtain⟨p,bs,rfl,hp,q⟩:=h;obtain⟨u,rfl,ru⟩:=T4 r;cases ru;refine call_all_walk (thn (a4n (f:=λtr=>(List.range bs.length).all tr) (Q:=EP X bp σ Q) hc I hp λs' I'=>⟨.bl (bs.all id),H,I',?_,q⟩) λit s2 zz=>?_)
 · show Value.bool _=Value.bool _;exact fh Value.bool (a8F bs id)
 · obtain⟨i,fp,wr,n,P,St,tr,e1,e2,e3,e4,e5,e6⟩:=zz;refine⟨i,fp,wr,n,P,St,tr,e1,e2,e3,e4,?_⟩;subst e5;exact e6
theorem b1R(hc:X.calm=true):E4 X (.builtin "any") (λxs H Q=>∃(p:Addr) (bs:List Bool),xs=[.ref p]/\SqL X.K H p (bs.map V.bl)/\Q (.bl (bs.any id)) H):=by
 intro bp s σ H xs us Q I r h;obtain⟨p,bs,rfl,hp,q⟩:=h;obtain⟨u,rfl,ru⟩:=T4 r;cases ru;refine call_any_walk (thn (a4n (f:=λtr=>(List.range bs.length).any tr) (Q:=EP X bp σ Q) hc I hp λs' I'=>⟨.bl (bs.any id),H,I',?_,q⟩) λit s2 zz=>?_)
 · show Value.bool _=Value.bool _;exact fh Value.bool (a8E bs id)
 · obtain⟨i,fp,wr,n,P,St,tr,e1,e2,e3,e4,e5,e6⟩:=zz;refine⟨i,fp,wr,n,P,St,tr,e1,e2,e3,e4,?_⟩;subst e5;exact e6
theorem a5r:E4 X (.type "int") (λxs H Q=>∃z n,xs=[.str z]/\z.length<=640/\PySem.intText? z=some n/\Q (.int n) H):=by intro bp s σ H xs us Q I r h;obtain⟨z,n,rfl,hz,hn,q⟩:=h;obtain⟨u,rfl,t,rfl⟩:=T4 r;exact PySem.W.KIN.call_text hn hz ⟨.int n,H,I.tok _,⟨_,rfl⟩,q⟩
end
section
variable{s:Shared}
theorem Inv.turnedF{t':Nat}(I:Inv X bp σ H s)(hf:∀b∈fp,a2o X bp H b)(k:∀b u,b∉fp->s.heap.get? b=some u->h'.get? b=some u):Inv X bp σ H {s with heap:=h',toks:=t'}:=by
 have nit:∀b u,H b=some u->b∉fp:=λb u e z=>by rw[(hf b z).1] at e;cases e
 refine I.step (g':=s.gens) (d':=s.drawn) (ch:=fp) (λb hb=>⟨(hf b hb).2.2.2.1,(hf b hb).2.1,(hf b hb).2.2.2.2.1,(hf b hb).2.2.2.2.2⟩) (λb o _ _ hc e _=>k b o hc e) (λb o _ _ hc e _=>⟨o.slots,k b o hc e⟩) (λ_ _ _ _ n=>n)
  (λb o hc e=>⟨o,k b o hc e⟩) (λ_ _ e=>e) (λ_ _ _ e=>e) (λb ps e=>⟨#[],by rw[e];simp⟩) (λm hm=>?_) (λb u e=>?_) I.bare
 · obtain⟨o,es,ep,ho,r⟩:=hm;exact⟨o,es,ep,k _ o (λz=>(hf _ z).2.1 rfl) ho,r⟩
 · refine(I.hok b u e).stay (λc v hc q=>k c v ?_ q) (λ_ q=>q) λ_ _ q=>q;rcases hc with z|z
   · rw[z];exact nit b u e
   · exact nit c _ z
theorem Inv.turnedN{t':Nat}{T:Addr}{o:HO}(I:Inv X bp σ H s)(hf:∀b∈fp,a2o X bp H b)(k:∀b u,b∉fp->s.heap.get? b=some u->h'.get? b=some u)(hT:s.heap.objs.size<=T)(new:p8 X.prog X.w (upd H T o) h' T o):
 Inv X bp σ (upd H T o) {s with heap:=h',toks:=t'}:=by
 have hn:H T=none:=I.hok.fresh hT;have nit:∀b u,H b=some u->b∉fp:=λb u e z=>by rw[(hf b z).1] at e;cases e
 have ne:∀b u,s.heap.get? b=some u->b≠T:=λb u e=>eV (aC (eS e) hT);have up:∀b u,H b=some u->upd H T o b=some u:=λb u e=>by rw[c9 (r8 e hn)];exact e
 refine I.step (g':=s.gens) (d':=s.drawn) (ch:=fp) (λb hb=>⟨(hf b hb).2.2.2.1,(hf b hb).2.1,(hf b hb).2.2.2.2.1,(hf b hb).2.2.2.2.2⟩) (λb u _ _ hc e _=>k b u hc e) (λb u _ _ hc e _=>⟨u.slots,k b u hc e⟩) (λb u _ e n=>by rw[c9 (ne b u e)];exact n)
  (λb u hc e=>⟨u,k b u hc e⟩) (λb xs e=>up b _ e) (λb u xs e=>up b _ e) (λb ps e=>⟨#[],by rw[up b _ e];simp⟩) (λm hm=>?_) (λb u e=>?_) I.bare
 · obtain⟨u,es,ep,ho,r⟩:=hm;exact⟨u,es,ep,k _ u (λz=>(hf _ z).2.1 rfl) ho,r⟩
 · by_cases hb:b=T
   · subst hb;rw[b8] at e;cases e;exact new
   · rw[c9 hb] at e;refine(I.hok b u e).stay (λc v hc q=>k c v ?_ q) (λc q=>up c _ q) λc xs q=>up c _ q;rcases hc with z|z
     · rw[z];exact nit b u e
     · exact nit c _ z
end
noncomputable def Its(x:Str):It:=⟨λi _=>i<x.cps.size,λi H v H'=>H'=H/\∃c,x.cps[i]? =some c/\v=.str ⟨#[c]⟩,λi _=>i=x.cps.size⟩
variable{tg:Expr}
theorem a5A{K:Frag}{ty:String}(x:Str)(t:Tok)(it:Addr)(hty:["enumerate","zip","dict_itemiterator","dict_reverseitemiterator","odict_iterator","itertools.zip_longest","itertools.pairwise"].contains ty=false)
 (W:∀A:Around,A.handled=none->Walks P w A it [it] [it] x.cps.size (SignAt x) (λi h=>h.IsStrIter it ty x t i))
 (Sf:∀(A:Around) (i:Nat) (s:Shared) (Q:Value->Shared->Prop) (E:Value->Shared->Prop),s.heap.IsStrIter it ty x t i->Q (.ref it) s->wpAny (model P w) A (pyIter (.ref it)) Q E s):Turn P w K tg (Its x) [it] it (λi h=>h.IsStrIter it ty x t i) where
 mem:=by simp
 obj:=λi h st b hb=>by
  have e:b=it:=by simpa using hb
  subst e;obtain⟨o,e,c,d⟩:=st;exact⟨o,e,λv z=>by rw[d] at z;cases z⟩
 keep:=λi h h' st k=>let⟨o,e,r⟩:=st;⟨o,k it ⋯ o e,r⟩
 item:=by intro X hP hw hK hc i bp s σ H E I hf st hg;subst hP hw hK;refine(W X.A (I.ok.hd hc)).item i s _ _ hg st λv h' tk hv eh kk=>?_;obtain⟨c,u,hcx,rfl⟩:=hv;have I1:Inv X bp σ H {s with heap:=h',toks:=tk}:=I.turnedF hf λb o hb e=>kk b o hb e;obtain⟨o,e,hcl,d⟩:=id eh;exact⟨_,rfl,a7Z (s:={s with heap:=h',toks:=tk}) e hcl d hty ⟨.str ⟨#[c]⟩,H,I1,⟨u,rfl⟩,⟨rfl,c,hcx,rfl⟩,eh,λb hb=>(hf b hb).1⟩⟩
 done:=by intro X hP hw hK hc i bp s σ H E I hf st hg;subst hP hw hK;have hg':i=x.cps.size:=hg;subst hg';exact(W X.A (I.ok.hd hc)).done s _ _ st λh' tk k=>⟨rfl,I.turnedF (t':=tk) hf λb o hb e=>k b o hb e⟩
 self:=λA i s Q E st h=>Sf A i s Q E st h
variable{tb:TS}
section
def c1l(tl:TE):TI:=λσ H R=>tl σ H λx H1=>∃z,x=.str z/\R (Its z) H1
theorem b5J{l:Expr}{tl:TE}(hl:PE X l tl):PI X tg l (c1l tl):=by
 intro bp s σ H R I h;refine thn (hl bp s σ H _ I h) λv s1 zz=>?_;obtain⟨x,H1,I1,r1,z,e,q⟩:=zz;subst e;obtain⟨t,rfl⟩:=r1;have fp:∀b∈[s1.heap.objs.size],a2o X bp H1 b:=λb hb=>by
  have e:b=s1.heap.objs.size:=by simpa using hb
  subst e;exact I1.fpOk (aj _) (I1.hok.fresh (aj _))
 cases ha:z.cps.all (· <128)
 · exact wpAny_pyIter_wide ha ⟨s1.heap.objs.size,[s1.heap.objs.size],_,_,H1,rfl,I1.kept (t':=s1.toks) λb o e=>eQ _ e,a5A (ty:="str_iterator") z t _ (by decide) (λA hA=>Walks.strWide hA _ z t) (λA i s Q E st h=>wpAny_pyIter_striter_wide st h),
    ⟨_,eU _ rfl,rfl,rfl⟩,fp,q⟩
 · exact wpAny_pyIter_ascii ha ⟨s1.heap.objs.size,[s1.heap.objs.size],_,_,H1,rfl,I1.kept (t':=s1.toks) λb o e=>eQ _ e,a5A (ty:="str_ascii_iterator") z t _ (by decide) (λA hA=>Walks.strAscii hA _ z t) (λA i s Q E st h=>wpAny_pyIter_striter_ascii st h),
    ⟨_,eU _ rfl,rfl,rfl⟩,fp,q⟩
end
noncomputable def Ite(K:Frag)(l:Addr):It:=⟨λi H=>∃xs x,SqL K H l xs/\xs[i]? =some x,λi H v H'=>∃T x,H T=none/\v=.ref T/\(∀xs,SqL K H l xs->xs[i]? =some x)/\H'=upd H T (.tup [.int i,x]),λi H=>∃xs,SqL K H l xs/\xs.length<=i⟩
variable{cV:List Expr}
theorem a8u{k:Nat}(e it l:Addr)(hei:e≠it):
 Turn P w K (.Tuple cV k pos) (Ite K l) [e,it] e (λi h=>(∃dh,IsEnum h e it i dh)/\h.IsListIter it l i) where
 mem:=by simp
 obj :=λi h st b hb=>by
  obtain⟨⟨dh,he⟩,o,e1,c,d⟩:=st;rcases aE.mp hb with z|z
  · subst z;exact⟨_,he,λv z=>by have z':Data.fields _=Data.cell v:=z;cases z'⟩
  · have z':b=it:=by simpa using z
    subst z';exact⟨o,e1,λv z=>by rw[d] at z;cases z⟩
 keep:=λi h h' st k=>by obtain⟨⟨dh,he⟩,eC⟩:=st;exact⟨⟨dh,k e ⋯ _ he⟩,eC.at λo x=>k it ⋯ o x⟩
 item:=by
  intro X hP hw hK hc i bp s σ H E I hf st hg;subst hP hw hK;obtain⟨⟨dh,he⟩,eC⟩:=st;obtain⟨xs,x,hq,hx⟩:=hg;obtain⟨bt,rv,p,hz⟩:=I.list hq;obtain⟨u,hu,ru⟩:=rv.get hx;have helt:e<s.heap.objs.size:=eS he;refine wpAny_pyNext_enum_item he eC p.isList (x:=u) (by simpa using hu) hei λh' ho hit' hT hsz hk=>?_;refine⟨_,rfl,wpAny_letOwnedTupleGo_enum ho λh2 he2 hs2=>?_⟩;have kk:∀b o,b∉[e,it]->s.heap.get? b=some o->h2.get? b=some o:=λb o hb q=>by have h1:b≠e:=λz=>hb (by simp[z]);have h2':b≠it:=λz=>hb (by simp[z]);exact(hs2.2 b h1).trans (hk b o h1 h2' q)
  have hT2:h2.get? s.heap.objs.size=some {cls:=.type "tuple",data:=.seq #[.int i s.toks,u]}:=(hs2.2 _ (ft helt)).trans hT;have I1:Inv X bp σ (upd H s.heap.objs.size (.tup [.int i,x])) {s with heap:=h2,toks:=s.toks+1}:=
   I.turnedN (fp:=[e,it]) hf kk (aj _) ⟨by show 2<=sizeLine;decide,[.int i s.toks,u],.cons ⟨_,rfl⟩ (.cons ru .nil),_,hT2,rfl,rfl,_,rfl⟩
  refine⟨.ref s.heap.objs.size,_,I1,rfl,⟨s.heap.objs.size,x,I.hok.fresh (aj _),rfl,λys hy=>by rw[I.list_inj hy hq];exact hx,rfl⟩,⟨⟨_,by simpa using he2⟩,hit'.at λo x=>(hs2.2 it (ff hei)).trans x⟩,λb hb=>?_⟩;have hbs:b<s.heap.objs.size:=by
   rcases aE.mp hb with z|z
   · rw[z];exact helt
   · have z':b=it:=by simpa using z
     rw[z'];obtain⟨o,e1,_⟩:=eC;exact eS e1
  rw[c9 (eV hbs)];exact(hf b hb).1
 done:=by intro X hP hw hK hc i bp s σ H E I hf st hg;subst hP hw hK;obtain⟨⟨dh,he⟩,eC⟩:=st;obtain⟨xs,hq,hx⟩:=hg;obtain⟨bt,rv,p,hz⟩:=I.list hq;have hl:=rv.length;exact wpAny_pyNext_enum_end (I.ok.hd hc) he eC p.isList (by simp;omega) λh' eb=>⟨rfl,I.turnedF (t':=s.toks) hf λb o hb q=>eb b o (λz=>hb (by simp[z])) q⟩
 self:=λA i s Q E st h=>by obtain⟨⟨dh,he⟩,_⟩:=st;exact wpAny_pyIter_enum he h
variable{ta:TA}{p:Pos}
section
variable{k:Nat}{ef:Pos}
def b9c(K:Frag)(ta:TA):TI:=λσ H R=>ta σ H λvs H1=>∃l xs,vs=[.ref l]/\SqL K H1 l xs/\R (Ite K l) H1
theorem b3a{a:Expr}(hg:Gl X "enumerate")(hm:X.mg "enumerate"=none)(ha:PA X [a] ta)(hs:starEach [a] X.env=[(false,eval a X.env)]:=by rfl):
 PI X (.Tuple cV k ef) (.Call (.Name "enumerate" p) [a] [] pos) (b9c X.K ta):=by
 intro bp s σ H R I h;refine Call_ (a0E I hg hm boot_enumerate (fD (thn (ha pos bp s σ H _ I h) λus s1 zz=>?_) hs rfl));obtain⟨vs,H1,I1,r1,q1⟩:=zz;obtain⟨l,xs,e,hq,q⟩:=q1;subst e;obtain⟨u,rfl,ru⟩:=T4 r1;cases ru;obtain⟨bt,rv,pl,hz⟩:=I1.list hq;refine call_enumerate_list pl.isList λh' he eC hsz hk=>?_;have I2:Inv X bp σ H1 {s1 with heap:=h'}:=I1.kept (t':=s1.toks) hk;refine wpAny_pyIter_enum he ⟨s1.heap.objs.size+1,[s1.heap.objs.size+1,s1.heap.objs.size],_,_,H1,rfl,I2,a8u (s1.heap.objs.size+1) s1.heap.objs.size l (ft (aP _)),⟨⟨_,he⟩,eC⟩,λb hb=>?_,q⟩;have hb':s1.heap.objs.size<=b:=by
  rcases aE.mp hb with z|z
  · rw[z];exact gq _
  · have z':b=s1.heap.objs.size:=by simpa using z
    rw[z'];exact aj _
 exact I1.fpOk hb' (I1.hok.fresh hb')
end
section
def b8A(K:Frag):List V->Hp->VK->Prop:=λxs H Q=>∃x T c t b,xs=[x,T]/\(∀u,i8 T u->u=c)/\TyOf K H x t/\kitOne K t c=some b/\Q (.bl b) H
theorem b1Q:E4 X (.builtin "isinstance") (b8A X.K):=by intro bp s σ H xs us Q I r h;obtain⟨x,T,c,t,b,rfl,hT,ty,e,q⟩:=h;obtain⟨u1,u2,rfl,ru1,ru2⟩:=a5y r;cases hT _ ru2;exact a8V I ru1 ty e λtk=>⟨.bl b,H,I.tok _,rfl,q⟩
end
def b7Y:TT:=λ_ H Q=>Q true H
theorem b5H:a6F X [] b7Y:=b2X
noncomputable def b7p(sc scope:Scope)(own frees:List Str):Bool:=
 decide (scope.kind=.function)&&scope.names.all (λy=>decide (y.2≠.cell))&&scope.names.all (λy=>decide (y.2=.local->scope.names.lookup y.1=some .local))&&
 scope.names.all (λy=>decide (y.2=.free->sc.names.lookup y.1=some .cell))&&decide ((own++frees).Nodup)&&own.all (λx=>decide (scope.names.lookup x=some .local))&&frees.all (λx=>decide (scope.names.lookup x=some .free))
variable{sc:Scope}
theorem b9R{own frees:List Str}(h:b7p sc scope own frees=true):CompScope sc scope own frees:=by unfold b7p at h;simp only[af,decide_eq_true_eq,ba] at h;obtain⟨⟨⟨⟨⟨⟨a,b⟩,c⟩,d⟩,e⟩,f⟩,g⟩:=h;exact⟨a,b,c,d,e,f,g⟩
variable{cC:Pos}
section
variable{ca:Expr}{ifs:List Expr}{own frees:List Str}{js:List Nat}{wi:TI}{g:TG}{tc:TT}{te:TE}
theorem a4k{s:Shared}{Q:VK}{RR:Value->Addr->Result->Shared->Prop}(da:X.calm=true)(hi:PI X tg iter wi)(S:CompScope X.env.scope scope own frees)(hj:frees.map some=js.map (X.N[·]?))
 (hg:∀C s₀ H₀ ex,PG (o9 X own frees scope C s₀ H₀ ex) tg g) (hc:∀C s₀ H₀ ex,a6F (o9 X own frees scope C s₀ H₀ ex) ifs tc) (he:∀C s₀ H₀ ex,PE (o9 X own frees scope C s₀ H₀ ex) ca te)
 (I:Inv X bp σ H s) (h:a5B own js wi g tc te σ H Q)
 (cn:∀D C s5 H4 m5,Inv X bp σ H4 s5->s5.heap.Ns C m5->H4 C=none->X.s₀.heap.objs.size<=C->C≠X.env.locals->(∀x c,X.env.cells.lookup x=some c->c≠C)->(∀p∈X.pn++bp,p.1≠C)->Q (.ref D) H4->RR (.ref D) C (.ok .next) s5):
 wpAny (model X.prog X.w) X.A (eval iter X.env) (λv s1=>wpAny (model X.prog X.w) X.A (pyIter v) (λit s2=>wpAny (model X.prog X.w) X.A (newList []) (λbw s3=>
  wpAny (model X.prog X.w) X.A (newFunctionEnv scope X.env.globals (J4 X.env.cells scope.names []) [] X.env.qual none .none (some X.env)) (λcenv s4=>
   codeAny (model X.prog X.w) X.A (.compStart (.ListComp ca [⟨tg,iter,ifs,0⟩] scope pos) 0 it bw {cenv with scope:=relabel scope X.env}) (RR bw cenv.locals) s4) X.xe s3) X.xe s2) X.xe s1) X.xe s:=by
 refine thn (hi bp s σ H _ I h) λv s1 h1=>thn h1 λitv s2 h2=>?_;obtain⟨it,fp,tn,J,H2,e,I2,T,st2,f2,R2⟩:=h2;subst e;have hD:H2 s2.heap.objs.size=none:=I2.hok.fresh (aj _);obtain⟨W,⟨m0,w0⟩,dH⟩:=R2 s2.heap.objs.size hD;have hcells:∀x c,X.env.cells.lookup x=some c->c<s2.heap.objs.size:=λx c e=>by obtain⟨v,z⟩:=I2.cell x c e;exact z.lt
 refine fL (wpAny_newFunctionEnv S.nocell (by intro y hy;simp at hy) (λdA dO dw=>?_) S.kind)
 dsimp only at dO dw⊢
 generalize hHH:s2.heap.push {cls:=.type "list",dict:=none,data:=.seq ([]:List Value).toArray}=HH at dO dw⊢;have hC:HH.objs.size=s2.heap.objs.size+1:=by rw[←hHH,fC]
 have hCle:s2.heap.objs.size<=HH.objs.size:=by rw[hC];exact gq _
 have hDC:s2.heap.objs.size≠HH.objs.size:=by rw[hC];exact eV (aP _)
 have neC:∀b,b<s2.heap.objs.size->b≠HH.objs.size:=λb hb=>by rw[hC];exact eV (Nat.lt_succ_of_lt hb)
 have dh:∀b o,s2.heap.get? b=some o->dA.get? b=some o:=λb o e=>dw.extBut b o (neC b (eS e)) (eQ _ (hHH▸eQ _ e));have accAt:dA.get? s2.heap.objs.size=some {cls:=.type "list",dict:=none,data:=.seq ([]:List Value).toArray}:=dw.extBut _ _ hDC (eQ _ (hHH▸eU _ rfl));have hfo:∀b∈fp,∃o,s2.heap.get? b=some o:=λb hb=>let⟨o,e,_⟩:=T.obj _ _ st2 b hb;⟨o,e⟩;have hnD:∀b,b<s2.heap.objs.size->upd H2 s2.heap.objs.size (.lst []) b=H2 b:=λb hb=>c9 (eV hb);have hok1:HOk X.prog X.w (upd H2 s2.heap.objs.size (.lst [])) dA:=I2.hok.laid dh (aj _) ⟨fq _,[],0,.nil,accAt⟩;have I3:∀s3:Shared,s3={s2 with heap:=dA,toks:=s2.toks+([]:List (Str×Value)).length}->Inv (o9 X own frees scope HH.objs.size s2 H2 fp) [] (A8 own js σ) (upd H2 s2.heap.objs.size (.lst [])) s3:=by
  rintro s3 rfl;refine b1N I2 S hj hCle f2 hfo rfl I2.bare dh (Un.laid dh (aj _) hD) dO ?_ hok1 (λx c e=>?_)
  · rw[c9 (ff hDC)];exact I2.hok.fresh hCle
  · rw[hnD c (hcells x c e)];exact I2.freeC x c e
 -- what stays true of the iterator's objects
 have stat:∀{H':Hp},(∀b∈fp,H' b=none)->∀b∈fp,a2o (o9 X own frees scope HH.objs.size s2 H2 fp) [] H' b:=fun{H'} hn b hb=>by
  obtain⟨o,q⟩:=hfo b hb;refine⟨hn b hb,neC b (eS q),λhm=>?_,.inl hb,λx c e=>(f2 b hb).2.2.2.2.1 x c (O7 e),λp hp=>absurd (show p∈([]:List (Addr×Obj)) from hp) ⋯⟩;rcases aE.mp (I2.stkSub b hm) with z|z
  · exact(f2 b hb).2.1 z
  · exact(f2 b hb).2.2.1 z
 have loop:∀s3:Shared,s3={s2 with heap:=dA,toks:=s2.toks+([]:List (Str×Value)).length}→
  codeAny (model X.prog X.w) X.A (.compLoop (.ListComp ca [⟨tg,iter,ifs,0⟩] scope pos) 0 (.ref it) (.ref s2.heap.objs.size) (compEnvC scope (J4 X.env.cells scope.names []) HH.objs.size X.env))
   (RR (.ref s2.heap.objs.size) HH.objs.size) s3:=by
  intro s3 dF;refine a5m (λn s'=>∃i ys H',Inv (o9 X own frees scope HH.objs.size s2 H2 fp) [] (A8 own js σ) H' s'/\tn i s'.heap/\(∀b∈fp,H' b=none)/\W i n ys H') ?_ m0
   ⟨0,[],_,I3 s3 dF,T.keep _ _ _ st2 (λb hb o e=>by rw[dF];exact dh b o e),λb hb=>by obtain⟨o,q⟩:=hfo b hb;rw[hnD b (eS q)];exact(f2 b hb).1,w0⟩
  rintro n s4 ⟨i,ys,H4,I4,st4,fr4,w4⟩;rcases dH i n ys H4 w4 with⟨stop,qn⟩|⟨go,step⟩
  · refine thn (T.done (o9 X own frees scope HH.objs.size s2 H2 fp) rfl rfl rfl da i [] s4 (A8 own js σ) H4 _ I4 (stat fr4) st4 stop) λr s5 zz=>?_;obtain⟨hr,I5⟩:=zz;subst hr;obtain⟨m5,hn5,_⟩:=I5.loc;have ub:Un (frs X.stack) fp H2 H4 s2.heap s5.heap:=I5.base;refine cn _ _ s5 H4 m5 (I2.call' (ch:=fp) I5.os ub I5.hok I5.bare λb hb=>⟨(f2 b hb).2.2.2.1,(f2 b hb).2.1,(f2 b hb).2.2.2.2.1,(f2 b hb).2.2.2.2.2⟩) hn5 I5.free (aO I2.sz hCle) ?_ ?_ ?_ qn
    · exact ff (neC _ I2.lt)
    · exact λx c e=>neC c (hcells x c e)
    · exact λp hp=>neC _ (eS (I2.pin p hp).1)
  · refine thn (T.item (o9 X own frees scope HH.objs.size s2 H2 fp) rfl rfl rfl da i [] s4 (A8 own js σ) H4 _ I4 (stat fr4) st4 go) λr s5 zz=>?_;obtain⟨u,hr,h5⟩:=zz;subst hr;refine thn h5 λ_ s6 zz=>?_;obtain⟨x,H6,I6,r6,y6,st6,fr6⟩:=zz;have I6':=I6.pinned (stat fr6) (T.obj _ _ st6);refine thn (hg _ _ _ _ _ s6 _ H6 x u _ I6' r6 (step x H6 y6)) λ_ s7 zz=>?_;obtain⟨dD,H7,I7,wk7,q7⟩:=zz;refine thn (hc _ _ _ _ _ s7 dD H7 _ I7 q7) λb s8 zz=>?_;obtain⟨H8,I8,q8⟩:=zz;have again:∀{s9:Shared} {H9:Hp} {zs:List V},Inv (o9 X own frees scope HH.objs.size s2 H2 fp) ([]++a2T fp s6.heap) dD H9 s9->(∃m',m'<n/\W (i+1) m' zs H9)→
     ∃m,m<n/\∃i ys H',Inv (o9 X own frees scope HH.objs.size s2 H2 fp) [] (A8 own js σ) H' s9/\tn i s9.heap/\(∀b∈fp,H' b=none)/\W i m ys H':=fun{s9 H9 zs} I9 ⟨m',hm,w9⟩=>by
     refine⟨m',hm,i+1,zs,H9,(I9.weak wk7.1 wk7.2).unpinned,T.keep _ _ _ st6 λb hb o e=>(I9.pin (b,o) (mem_append_right _ (mem_append_right _ (U7 hb e)))).1,λb hb=>?_,w9⟩;obtain⟨o,e,d⟩:=T.obj _ _ st6 b hb;exact(I9.pin (b,o) (mem_append_right _ (mem_append_right _ (U7 hb e)))).2.1
    cases b with
    |false=>
     rw[az bg] at q8⊢;exact again I8 q8
    | true=>
     rw[ay rfl] at q8⊢;refine thn (he _ _ _ _ _ s8 dD H8 _ I8 q8) λy s9 zz=>?_;obtain⟨v9,H9,I9,r9,hD9,hz9,q9⟩:=zz;refine thn (a3W (X:=o9 X own frees scope HH.objs.size s2 H2 fp) _ s9 dD H9 (.ref s2.heap.objs.size) [v9] (.ref s2.heap.objs.size) [y] (λ_ H'=>∃m',m'<n/\W (i+1) m' (ys++[v9]) H') I9 rfl (.cons r9 .nil)
      ⟨_,ys,v9,rfl,rfl,hD9,hz9,q9⟩) λ_ s10 ⟨_,H10,I10,_,q10⟩=>?_
     exact again I10 q10
 exact codeAny_compStart_list (loop _ rfl) (T.self _ 0 _ _ _ (T.keep _ _ _ st2 λb hb o e=>dh b o e) (loop _ rfl))
theorem a2U(da:X.calm=true)(hi:PI X tg iter wi)(S:CompScope X.env.scope scope own frees)(hj:frees.map some=js.map (X.N[·]?))
 (hg:∀C s₀ H₀ ex,PG (o9 X own frees scope C s₀ H₀ ex) tg g) (hc:∀C s₀ H₀ ex,a6F (o9 X own frees scope C s₀ H₀ ex) ifs tc) (he:∀C s₀ H₀ ex,PE (o9 X own frees scope C s₀ H₀ ex) ca te)
 (hs:∀x,foldedSetIterable iter X.env x=pure x):PE X (.ListComp ca [⟨tg,iter,ifs,0⟩] scope pos) (a5B own js wi g tc te):=by
 intro bp s σ H Q I h;rw[eval_ListComp];have hcl:closureFor scope X.env=pure (J4 X.env.cells scope.names []):=a0w λy hy e=>I.ok.has y.1 (.inl (S.out y hy e));refine wpAny_comprehension_free (use:=none) rfl hs hcl S.kind S.locs (a4k da hi S hj hg hc he I h λD C s5 H4 m5 I5 hn5 c1 c2 c3 c4 c5 q=>?_);exact⟨m5,hn5,λh' hs'=>⟨.ref D,H4,I5.turned (t':=s5.toks) (λb o hb e=>(hs'.2 b hb).trans e) c1 (ff (ff c3)) (.inr c2) c4 c5,rfl,q⟩⟩
theorem a7H{i:Nat}{spos:Pos}(da:X.calm=true)(hi:PI X tg iter wi)(S:CompScope X.env.scope scope own frees)(hj:frees.map some=js.map (X.N[·]?))
 (hg:∀C s₀ H₀ ex,PG (o9 X own frees scope C s₀ H₀ ex) tg g) (hc:∀C s₀ H₀ ex,a6F (o9 X own frees scope C s₀ H₀ ex) ifs tc) (he:∀C s₀ H₀ ex,PE (o9 X own frees scope C s₀ H₀ ex) ca te)
 (hs:∀x,foldedSetIterable iter X.env x=pure x) (hN:X.N.Nodup) (hix:X.N[i]? =some x) (hx:Loc X.env.scope x) (hf:X.fn x=true∨X.env.scope.names.lookup x=some .local):
 PS X (.Assign [.Name x cC] (.ListComp ca [⟨tg,iter,ifs,0⟩] scope pos) spos) (b5k (a5B own js wi g tc te) (b1p i)):=by
 obtain⟨b,hb⟩:∃b,swapsWith (.ListComp ca [⟨tg,iter,ifs,0⟩] scope pos) (some (.Name x cC)) spos.line X.env=pure b:=⟨_,rfl⟩;cases b with
 |false=>exact b0f hN hix hx (a2U da hi S hj hg hc he hs) hb hf
 | true=>
  intro bp s σ H Dn I h;rw[exec_Assign_Name_used _ _ _ _ hb];have hcl:closureFor scope X.env=pure (J4 X.env.cells scope.names []):=a0w λy hy e=>I.ok.has y.1 (.inl (S.out y hy e));refine eP (wpAny_standAt (eP ?_));show wpAny _ X.A (do let _←comprehension (.ListComp ca [⟨tg,iter,ifs,0⟩] scope pos) scope X.env _ (newList []) false (eval iter X.env) (some (assign (.Name x cC) X.env))) _ _ s;refine eP (fF (wpAny_comprehension_free (use:=some (assign (.Name x cC) X.env)) (Q:=λ_ s'=>SP X bp Dn .next s') rfl hs hcl S.kind S.locs
   (a4k da hi S hj hg hc he I h λD C s5 H4 m5 I5 hn5 c1 c2 c3 c4 c5 q=>?_)) (λ_ s' hq=>eR (eR hq)) λ_ _ e=>e)
  show wpAny _ X.A (assign (.Name x cC) X.env (.ref D)) _ _ s5;refine wpAny_assign_Name (a3N (v:=.ref D) I5 hN hix hx rfl (λs6 I6 zz=>?_) hf);obtain⟨a,sb,ea⟩:=zz;have hCa:C≠a:=λz=>by
   rcases ea with y|y
   · exact c3 (z.trans y)
   · exact c4 x a y z.symm
  exact⟨m5,hn5.sameBut sb hCa,λh' hs'=>⟨_,H4,I6.turned (t':=s6.toks) (λb o hb e=>(hs'.2 b hb).trans e) c1 c3 (.inr c2) c4 c5,q⟩⟩
end
noncomputable def Itz(K:Frag)(l1 l2:Addr):It:=⟨λi H=>∃xs ys x y,SqL K H l1 xs/\SqL K H l2 ys/\xs[i]? =some x/\ys[i]? =some y,
 λi H v H'=>∃T x y,H T=none/\v=.ref T/\(∀xs,SqL K H l1 xs->xs[i]? =some x)/\(∀ys,SqL K H l2 ys->ys[i]? =some y)/\H'=upd H T (.tup [x,y]),
 λi H=>∃xs ys,SqL K H l1 xs/\SqL K H l2 ys/\(xs.length<=i∨ys.length<=i)⟩
theorem a9r{k:Nat}(z TI TO i1 i2 l1 l2:Addr)(D:ZipApart z TI TO i1 i2 l1 l2):
 Turn P w K (.Tuple cV k pos) (Itz K l1 l2) [z,TI,TO,i1,i2] z (λi h=>IsZip h z TI TO .none/\IsPair h TI (.ref i1) (.ref i2)/\(∃a b,IsPair h TO a b)/\h.IsListIter i1 l1 i/\h.IsListIter i2 l2 i) where
 mem:=by simp
 obj:=λi h st b hb=>by
  obtain⟨hz,cG,⟨a,c,cQ⟩,⟨o1,e1,c1,d1⟩,⟨o2,e2,c2,d2⟩⟩:=st;simp only[aE,not_mem_nil,fW] at hb;rcases hb with rfl|rfl|rfl|rfl|rfl
  · exact⟨_,hz,λv q=>by have q':Data.fields _=Data.cell v:=q;cases q'⟩
  · exact⟨_,cG,λv q=>by have q':Data.seq _ _=Data.cell v:=q;cases q'⟩
  · exact⟨_,cQ,λv q=>by have q':Data.seq _ _=Data.cell v:=q;cases q'⟩
  · exact⟨o1,e1,λv q=>by rw[d1] at q;cases q⟩
  · exact⟨o2,e2,λv q=>by rw[d2] at q;cases q⟩
 keep:=λi h h' st k=>by obtain⟨hz,cG,⟨a,c,cQ⟩,h1,h2⟩:=st;exact⟨k z ⋯ _ hz,k TI ⋯ _ cG,⟨a,c,k TO ⋯ _ cQ⟩,h1.at λo x=>k i1 ⋯ o x,h2.at λo x=>k i2 ⋯ o x⟩
 item:=by
  intro X hP hw hK hc i bp s σ H E I hf st hg;subst hP hw hK;obtain⟨hz,cG,⟨a,c,cQ⟩,h1,h2⟩:=st;obtain⟨xs,ys,x,y,hq1,hq2,hx,hy⟩:=hg;obtain⟨bt,rv,p,hz1⟩:=I.list hq1;obtain⟨its',rv',p',hz2⟩:=I.list hq2;obtain⟨u,hu,ru⟩:=rv.get hx;obtain⟨u',hu',ru'⟩:=rv'.get hy;have hzlt:z<s.heap.objs.size:=eS hz;refine wpAny_pyNext_zip_item D hz cG cQ h1 h2 p.isList p'.isList (x:=u) (y:=u') (by simpa using hu) (by simpa using hu') λh' a1 a2 a3 a4 a5 a6 hk=>?_;refine⟨_,rfl,wpAny_letOwnedTupleGo_zip a1 λh3 hz3 dF=>?_⟩;have kk:∀b o,b∉[z,TI,TO,i1,i2]->s.heap.get? b=some o->h3.get? b=some o:=λb o hb q=>by have n1:b≠z:=λw=>hb (by simp[w]);exact(dF.2 b n1).trans (hk b o n1 (λw=>hb (by simp[w])) (λw=>hb (by simp[w])) (λw=>hb (by simp[w])) q)
  have hT3:h3.get? s.heap.objs.size=some {cls:=.type "tuple",data:=.seq #[u,u']}:=(dF.2 _ (ft hzlt)).trans a5;have I1:Inv X bp σ (upd H s.heap.objs.size (.tup [x,y])) {s with heap:=h3,toks:=s.toks}:=
   I.turnedN (fp:=[z,TI,TO,i1,i2]) hf kk (aj _) ⟨by show 2<=sizeLine;decide,[u,u'],.cons ru (.cons ru' .nil),_,hT3,rfl,rfl,_,rfl⟩
  refine⟨.ref s.heap.objs.size,_,I1,rfl,⟨s.heap.objs.size,x,y,I.hok.fresh (aj _),rfl,λzs hy=>by rw[I.list_inj hy hq1];exact hx,λzs hy'=>by rw[I.list_inj hy' hq2];exact hy,rfl⟩,
   ⟨hz3,(dF.2 _ D.TIz).trans (hk _ _ D.TIz D.TITO D.TIi1 D.TIi2 cG),⟨_,_,(dF.2 _ D.TOz).trans a2⟩,a3.at λo x=>(dF.2 _ D.i1z).trans x,a4.at λo x=>(dF.2 _ D.i2z).trans x⟩,λb hb=>?_⟩
  have hbs:b<s.heap.objs.size:=by
   obtain⟨o1,e1,_⟩:=h1;obtain⟨o2,e2,_⟩:=h2;simp only[aE,not_mem_nil,fW] at hb;rcases hb with rfl|rfl|rfl|rfl|rfl
   · exact hzlt
   · exact eS cG
   · exact eS cQ
   · exact eS e1
   · exact eS e2
  rw[c9 (eV hbs)];exact(hf b hb).1
 done:=by
  intro X hP hw hK hc i bp s σ H E I hf st hg;subst hP hw hK;obtain⟨hz,cG,⟨a,c,cQ⟩,h1,h2⟩:=st;obtain⟨xs,ys,hq1,hq2,hx⟩:=hg;obtain⟨bt,rv,p,hz1⟩:=I.list hq1;obtain⟨its',rv',p',hz2⟩:=I.list hq2;have hl:=rv.length;have hl':=rv'.length;refine wpAny_pyNext_zip_end (I.ok.hd hc) D hz cG cQ h1 h2 p.isList p'.isList ?_ λh' eb=>⟨rfl,I.turnedF (t':=s.toks) hf λb o hb q=>eb b o (λz=>hb (by simp[z])) (λz=>hb (by simp[z])) (λz=>hb (by simp[z])) (λz=>hb (by simp[z])) q⟩;rcases hx with hx|hx
  · exact .inl (by simp;omega)
  · exact .inr (by simp;omega)
 self:=λA i s Q E st h=>wpAny_pyIter_zip st.1 h
def D6(n:Nat)(x:Str):Str:=⟨(List.replicate n x.cps).foldl (· ++ ·) #[]⟩
theorem a4b(x:Array Nat):∀(n:Nat) (a:Array Nat),((List.replicate n x).foldl (· ++ ·) a).toList=a.toList++(List.replicate n x.toList).flatten
 |0,a=>by simp
 |n+1,a=>by rw[replicate_succ,foldl_cons,a4b x n,replicate_succ,List.flatten_cons];simp
theorem a5D(n:Nat)(x:Str):(D6 n x).cps.toList=(List.replicate n x.cps.toList).flatten:=by unfold D6;rw[a4b];simp
theorem a2H(n:Nat)(x:Str):(D6 n x).length=x.length*n:=by show(D6 n x).cps.size=x.cps.size*n;rw[←Array.length_toList,a5D];simp[List.length_flatten,Nat.mul_comm]
theorem a6M(x:Str):D6 1 x=x:=by unfold D6;simp
theorem a6N(n:Nat)(x:Str)(h:x.length=0):D6 n x=x:=by
 have h1:(D6 n x).cps.size=0:=by have:=a2H n x;rw[h,Nat.zero_mul] at this;exact this
 have h2:x.cps.size=0:=h;have e1:=Array.eq_empty_of_size_eq_zero h1;have e2:=Array.eq_empty_of_size_eq_zero h2;cases x;simp only at e2;subst e2;generalize hq:D6 n ⟨#[]⟩=q at e1;cases q;simp only at e1;rw[e1]
variable{us:List Value}
section
noncomputable def b8y:R2:=λx y H Q=>∃t k,x=.str t/\y=.int k/\ -(2^63)<=k/\k<2^63/\t.length*k.toNat<=sizeLine/\Q (.str (D6 k.toNat t)) H
theorem b3l:OpR X (binaryOp .Mult) b8y:=by
 intro bp s σ H x y v u Q I rx ry h;obtain⟨t,k,rfl,rfl,h1,h2,h3,q⟩:=h;obtain⟨a,rfl⟩:=rx;obtain⟨b,rfl⟩:=ry;refine P.mul_str ?_ ?_ ?_ ?_
 · rw[bj (by omega),bj (by omega)];rfl
 · intro h4 h5 h6;have hk:0<k:=by omega
   have h8:(t.length:Int)*k<=2^62:=by have h9:((t.length*k.toNat:Nat):Int)<=((sizeLine:Nat):Int):=Int.ofNat_le.mpr h3;rw[Int.natCast_mul,Int.toNat_of_nonneg (by omega),fV] at h9;exact Int.le_trans h9 (by decide)
   have h7:(t.length:Int)<=(2^63-1)/k:=by rw[Int.le_ediv_iff_mul_le hk];omega
   omega
 · intro h4 h5;simp only[tooLong,decide_eq_false_iff_not];omega
 · by_cases c1:k<1
   · rw[ay c1];have:k.toNat=0:=by omega
     rw[this] at q;exact⟨fq _,.str _,H,I.tok _,⟨_,rfl⟩,q⟩
   · rw [az c1]
     by_cases c2:(k==1||t.length==0)=true
     · rw [ay c2];have e:D6 k.toNat t=t:=by
        rw[bf] at c2;rcases c2 with c|c
        · have:k=1:=by simpa using c
          subst this;exact a6M t
        · exact a6N _ _ (by simpa using c)
       rw[e] at q;exact⟨.str _,H,I,⟨_,rfl⟩,q⟩
     · rw[az c2];refine⟨?_,.str _,H,I.tok _,⟨_,rfl⟩,q⟩;show(D6 k.toNat t).length<=sizeLine;rw[a2H];exact h3
end
end L2
namespace PySem
open Sem (wp)
theorem a4W:typeLookup (.type "list") "keys"=pure none:=by rw[typeLookup_type,builtinLookup_eq_fast];kernel_rfl
variable{A:Around}
theorem a8P{prog:Program}{w:World}{E:Value->Shared->Prop}{s:Shared}{a:Addr}{o:Obj}{xs:Array Value}{k:Nat}{Q:Option Value->Shared->Prop}
 (hx:s.heap.get? a=some o) (hc:o.cls=.type "list") (ek:o.data=.seq xs k) (hd:o.dict=none) (hA:A.handled=none)
 (h:∀h' tk,(∀b ob,s.heap.get? b=some ob->h'.get? b=some ob)->Q none {s with heap:=h',toks:=tk}):wpAny (model prog w) A (getAttr? (.ref a) "keys") Q E s:=by
 obtain⟨c,dct,dat,sl⟩:=o;simp only at hc ek hd;subst hc ek hd;obtain⟨hp,g,d,tk,os⟩:=s;have hT:∀tk',(⟨hp,g,d,tk',os⟩:Shared).TypeIs (.ref a) "list":=λ_=>⟨_,hx,rfl⟩;have f1:=sub_AttributeError;have f3:=F.slot_list_getattribute.lookup;have f4:=F.slot_list_getattribute.bind (.ref a);have f5:=am_list_getattr_none;unfold getAttr? getAttrBy? getAttrBy
 repeat (any_goals (first|assumption|exact hT _|((with_reducible show wpAny _ _ (call (Value.builtin "list.__getattribute__") _ _) _ _ _);refine call_meets F.slot_list_getattribute (hT _) am_entry_list_getattribute (F.args_list_getattribute_2 _ _) (meets_getattribute_miss_list a xs k sl "keys" _ a4W (by decide) (by decide)) ⟨hx,hA,λh' tk' e dE=>?_⟩)|wp_step))
 obtain⟨t2,u2,he⟩:=dE.there;show wpAny _ _ (getattributeRaised _ _ _ _ _ _ _) _ _ _;unfold getattributeRaised
 repeat (any_goals (first|assumption|wp_step))
 exact h _ _ dE.keeps
open PyProof.Rows
theorem J6:plainId "dict.update.loop"=true:=by decide+kernel
theorem Z4:entryFor table "dict.update.loop"=some Builtin.«dict.update.loop»:=entryFor_of_tree (by kernel_rfl)
variable{l:Addr}{items:Array Value}{Q:Value->Shared->Prop}
section
variable{prog:Program}{w:World}{K:Type}[DecidableEq K]{knd:KeyKind prog w K}
theorem a6R{E:Value->Shared->Prop}{s:Shared}{t:Addr}{a b:Value}{Q:List Value->Shared->Prop}(ht:IsTup s.heap t #[a,b])(h:Q [a,b] s):wpAny (model prog w) A (Builtin.Dict.pairItems (.ref t)) Q E s:=by
 obtain⟨o,ho,hc,n,hd⟩:=ht;obtain⟨hp,g,d,tk,os⟩:=s;have hT:(⟨hp,g,d,tk,os⟩:Shared).TypeIs (.ref t) "tuple":=⟨_,ho,hc⟩;unfold Builtin.Dict.pairItems
 repeat (any_goals (first|assumption|wp_step))
 rw[hd];exact eR (eR h)
theorem a9p{d it:Addr}{ps:List (K×Value)}(n1:d≠it)(n2:d≠l)(n3:it≠l)(hsz:items.size=ps.length)(k:Nat):∀(i:Nat) (bq:List (K×Value)),ps.length-i=k->i<=ps.length->MeetsIn prog w (Builtin.«dict.update.loop» ⟨[.ref d,.ref it,rawInt i,.none],[]⟩)
 (λA R s=>A.handled=none/\s.heap.IsListIter it l i/\s.heap.IsList l items/\s.heap.DictOf knd d bq/\bq.length+(ps.length-i)<=sizeLine∧
  (∀(j:Nat) (p:K×Value),ps[j]? =some p->∃t kv,items[j]? =some (.ref t)/\t≠d/\t≠it/\IsTup s.heap t #[kv,p.2]/\knd.is p.1 kv=true)∧
  ∀h' tk,h'.DictOf knd d (merged bq (ps.drop i))->(∀b o,b≠d->b≠it->s.heap.get? b=some o->h'.get? b=some o)->R (.ok (.ret .none)) {s with heap:=h',toks:=tk}):=by
 induction k with
 |zero=>
  intro i bq hk hi A R s h;obtain⟨hA,eC,hl,hd,hz,hq,h⟩:=h;have hx:items[i]? =none:=by rw[Array.getElem?_eq_none];omega
  have hdr:ps.drop i=[]:=List.drop_eq_nil_of_le (by omega);rw[hdr] at h;unfold Builtin.«dict.update.loop»;refine eP (wpAny_pyNext_list_end hA eC hl hx λh' eb=>?_);refine eP ?_;unfold Builtin.Dict.addKeywords;refine eR (eR (h h' s.toks ?_ λb o n1 n2 e=>eb b o n2 e));exact hd.extBut eb n1
 | succ k ih=>
  intro i bq hk hi A R s h;obtain⟨hA,eC,hl,hd,hz,hq,h⟩:=h;have hlt:i<ps.length:=by omega
  obtain⟨t,kv,e1,e2,e3,e4,e5⟩:=hq i ps[i] (ai hlt);have hdr:ps.drop i=ps[i]::ps.drop (i+1):=fU hlt;unfold Builtin.«dict.update.loop»;refine eP (wpAny_pyNext_list_item eC hl e1 λh1 st sb=>?_);have k1:∀b o,b≠it->s.heap.get? b=some o->h1.get? b=some o:=λb o n e=>(sb.2 b n).trans e;refine eP (fT (eP (wpAny_tryCatch (a6R (show IsTup h1 t #[kv,ps[i].2] from let⟨o,ho,r⟩:=e4;⟨o,k1 t o e3 ho,r⟩) ?_))));refine fT (wpAny_dictSet_pairs (hsz:=by omega) e5 (hd.sameBut sb n1) λh2 dd dL=>?_);have k2:∀b o,b≠d->b≠it->s.heap.get? b=some o->h2.get? b=some o:=λb o n n' e=>(dL.2 b n).trans (k1 b o n' e);refine eR ⟨gu J6 _,codeAny_builtin Z4 (by
   rw[gd J6 _,show((i:Nat):Int)+1=((i+1:Nat):Int) by omega];refine ih (i+1) (stored bq ps[i].1 ps[i].2) (by omega) (by omega) A R _ ⟨hA,?_,?_,dd,?_,λj p hj=>?_,λh' tk d1 d2=>?_⟩
   · obtain⟨o,ho,r⟩:=st;exact⟨o,(dL.2 it n1.symm).trans ho,r⟩
   · obtain⟨o,ho,r⟩:=hl;exact⟨o,k2 l o n2.symm n3.symm ho,r⟩
   · have:=stored_length_le bq ps[i].1 ps[i].2;omega
   · obtain⟨t,kv,q1,q2,q3,⟨o,ho,r⟩,q5⟩:=hq j p hj;exact⟨t,kv,q1,q2,q3,⟨o,k2 t o q2 q3 ho,r⟩,q5⟩
   · refine h h' tk ?_ λb o n n' e=>d2 b o n n' (k2 b o n n' e);rw[hdr];exact d1)⟩
theorem a2n{E:Value->Shared->Prop}{s:Shared}{ol:Obj}{n:Nat}{ps:List (K×Value)}(hA:A.handled=none)(hx:s.heap.get? l=some ol)(hc:ol.cls=.type "list")(ek:ol.data=.seq items n)(hd:ol.dict=none)(hsz:items.size=ps.length)(hz:ps.length<=sizeLine)
 (hq:∀(j:Nat) (p:K×Value),ps[j]? =some p->∃t kv,items[j]? =some (.ref t)/\IsTup s.heap t #[kv,p.2]/\knd.is p.1 kv=true)
 (h:∀h' tk,h'.DictOf knd s.heap.objs.size (merged [] ps)->(∀b o,s.heap.get? b=some o->h'.get? b=some o)->Q (.ref s.heap.objs.size) {s with heap:=h',toks:=tk}):
 wpAny (model prog w) A (call (.type "dict") [.ref l]) Q E s:=by
 refine callType_codes (Q₁:=λobj bB=>obj=.ref s.heap.objs.size/\bB={s with heap:=s.heap.push {cls:=.type "dict",data:=.dict #[]}}) F.kt_called_dict (F.kt_typeCall_dict_1 _) F.entry_dict_init (kt_code_dict_new _ ⟨rfl,rfl⟩) ?_;rintro obj bB ⟨rfl,rfl⟩;have hnew:(s.heap.push {cls:=.type "dict",data:=.dict #[]}).DictOf knd s.heap.objs.size []:=Heap.DictOf.new s.heap;have hx1:(s.heap.push {cls:=.type "dict",data:=.dict #[]}).get? l=some ol:=eQ _ hx;have ty:Shared.TypeIs {s with heap:=s.heap.push {cls:=.type "dict",data:=.dict #[]}} (.ref l) "list":=⟨_,hx1,hc⟩;have nl:s.heap.objs.size≠l:=λe=>absurd (eS hx) (by rw[e];exact aN _);refine⟨hnew.typeIs,F.args_dict_init_2 _ _,?_⟩;unfold Builtin.«dict.__init__»;refine eP ?_;unfold Builtin.Dict.selfAndRest;refine eP (wpAny_notOrdered_dict hnew.typeIs ?_);show wpAny _ _ (pure (s.heap.objs.size,[Value.ref l])) _ _ _;refine eR ?_;show wpAny _ _ (Builtin.Dict.updateFrom "dict.__init__" s.heap.objs.size (.ref l) [] .none) _ _ _;unfold Builtin.Dict.updateFrom;refine eP (wpAny_typeOf ty ?_);rw[ay (by decide)];refine eP (a8P hx1 hc ek hd ?_ λh1 tk1 k1=>?_)
 · exact hA
 · rw [ay (show(none:Option Value).isNone=true from rfl)];have hx2:h1.get? l=some ol:=k1 l _ hx1;have hd2:h1.DictOf knd s.heap.objs.size []:=hnew.keep k1;have lt1:s.heap.objs.size<h1.objs.size:=by obtain⟨o,_,_,ho,_⟩:=hd2;exact eS ho
   refine eP (wpAny_rule (eP (wpAny_pyIter_list (items:=items) ⟨ol,hx2,hc,n,ek⟩ ?_)));refine eR ⟨gu J6 _,codeAny_builtin Z4 (by
    rw[gd J6 _];refine a9p (knd:=knd) (d:=s.heap.objs.size) (it:=h1.objs.size) (l:=l) (ps:=ps) (eV lt1) nl (λe=>absurd (eS hx2) (by rw[←e];exact aN _)) hsz _ 0 [] rfl (fq _) A.in1 _ _ ⟨hA,⟨_,eU _ rfl,rfl,rfl⟩,⟨ol,eQ _ hx2,hc,n,ek⟩,hd2.push _,by simpa using hz,λj p hj=>?_,λh' tk d1 d2=>⟨rfl,?_⟩⟩
    · obtain⟨t,kv,q1,⟨o,ho,r⟩,q3⟩:=hq j p hj;have ho1:=k1 t o (eQ _ ho);exact⟨t,kv,q1,λe=>absurd (eS ho) (by rw[e];exact aN _),λe=>absurd (eS ho1) (by rw[e];exact aN _),⟨o,eQ _ ho1,r⟩,q3⟩
    · refine h h' tk (by rwa [drop_zero] at d1) λb o e=>d2 b o (λz=>absurd (eS e) (by rw[z];exact aN _)) (λz=>?_) (eQ _ (k1 b o (eQ _ e)));have:=eS (k1 b o (eQ _ e));rw[z] at this;exact absurd this (aN _))⟩
end
end PySem
namespace L2
open PySem PySem.Spec PyProof.Rows
def PrT(H:Hp):List V->List (Key×V)->Prop:=Paired λy p=>∃t,y=.ref t/\H t=some (.tup [kV p.1,p.2])
variable{bp:List (Addr×Obj)}{σ:St}{H:Hp}
section
variable{X:Cx}
theorem b5F{s:Shared}(I:Inv X bp σ H s){ys:List V}{bq:List (Key×V)}(hp:PrT H ys bq):∀{bt:List Value},k8 ys bt->∃ps:List (Key×Value),KV bq ps/\ps.length=bt.length/\∀(j:Nat) (p:Key×Value),ps[j]? =some p->∃t kv,bt[j]? =some (.ref t)/\IsTup s.heap t #[kv,p.2]/\(n0 X.prog X.w).is p.1 kv=true:=by
 unfold PrT at hp
 induction hp with
 |nil=>
  intro bt r;cases r;exact⟨[],.nil,rfl,λj p h=>by simp at h⟩
 | cons h t ih=>
  intro bt r;obtain- |⟨r,q⟩:=r;obtain⟨ps,k1,k2,k3⟩:=ih q;obtain⟨a,rfl,ha⟩:=h;cases r;obtain⟨_,bt,rv,pa⟩:=I.hok a _ ha;obtain⟨u,w,rfl,ru,cw⟩:=a5y rv;refine⟨(_,w)::ps,.cons ⟨rfl,cw⟩ k1,by rw[length_cons,length_cons,k2],λj p hj=>?_⟩
  cases j with
  |zero=>
   cases hj;exact⟨a,u,rfl,pa.tup,Y2 ru⟩
  |succ j=>exact k3 j p hj
theorem a5s(hc:X.calm=true):E4 X (.type "dict") (λxs H Q=>∃p ys bq,xs=[.ref p]/\SqL X.K H p ys/\PrT H ys bq/\∀d,H d=none->Q (.ref d) (upd H d (.dK (U6 [] bq)))):=by
 intro bp s σ H xs us Q I r h;obtain⟨p,ys,bq,rfl,hq,pr,q⟩:=h;obtain⟨u,rfl,rx⟩:=T4 r;cases rx;obtain⟨bt,rv,pl,hz⟩:=I.list hq;obtain⟨o,n,e,c,hd,dat⟩:=pl;obtain⟨ps,k1,k2,k3⟩:=b5F I pr rv;have l1:=rv.length;have l2:=Paired.length pr;refine a2n (knd:=n0 X.prog X.w) (items:=bt.toArray) (ps:=ps) (I.ok.hd hc) e c dat hd (by simp[k2]) (by omega) (λj p hj=>?_) λh' tk dd kp=>?_
 · obtain⟨t,kv,q1,q2,q3⟩:=k3 j p hj;exact⟨t,kv,by simpa using q1,q2,q3⟩
 · have hl:=R9 bq [];rw[length_nil] at hl;exact⟨.ref s.heap.objs.size,_,I.laid (t':=tk) (λb o e=>kp b o e) (aj _) (a7j (by omega) (beq_eq_false_iff_ne.mpr (ft I.big)) (k1.merge .nil) dd),rfl,q _ (I.hok.fresh (aj _))⟩
end
def IIt(h:Heap)(it d:Addr)(i n ep:Nat):Prop:=∃f0 f1 k0 v0,(f0=Value.none∨∃a:Nat,f0=rawInt a)∧
 h.get? it=some {cls:=.type "dict_itemiterator",dict:=none,data:=.fields #[f0,f1,.ref d,.int i 0,.int n 0,.int ep 0,k0,v0],slots:= #[]}
variable{h:Heap}{h':Heap}{it:Addr}{d:Addr}{n:Nat}{ep:Nat}
theorem IIt.at{i:Nat}(x:IIt h it d i n ep)(k:∀o,h.get? it=some o->h'.get? it=some o):IIt h' it d i n ep:=by obtain⟨a,b,c,e,f,g⟩:=x;exact⟨a,b,c,e,f,k _ g⟩
def a0s(e:DictEntry):Obj:={cls:=.type "tuple",data:=.seq #[e.key,e.val]}
variable{a:Addr}{es:Array DictEntry}{od:Obj}{Q:Value->Shared->Prop}
section
variable{prog:Program}{w:World}{A:Around}{E:Value->Shared->Prop}{s:Shared}
theorem a8X{Q:Option Obj->Shared->Prop}(h:Q (s.heap.get? a) s):wpAny (model prog w) A (loadIfAlive a) Q E s:=λ_ _ _=>h
theorem a6g{i:Nat}{Q:Option Value->Shared->Prop}(st:IIt s.heap it d i es.size ep)(e1:s.heap.get? d=some od)(e2:od.data=.dict es ep)(lt:i<es.size)
 (done:∀g:Heap,IIt g it d (i+1) es.size ep->g.get? s.heap.objs.size=some (a0s es[i])->g.objs.size=s.heap.objs.size+1->(∀b o,b≠it->s.heap.get? b=some o->g.get? b=some o)->Q (some (.ref s.heap.objs.size)) {s with heap:=g}):
 wpAny (model prog w) A (pyNext (.ref it)) Q E s:=by
 obtain⟨hp,gn,dr,tk,os⟩:=s;obtain⟨f0,f1,k0,v0,hf,st⟩:=st;have ty:Shared.TypeIs ⟨hp,gn,dr,tk,os⟩ (.ref it) "dict_itemiterator":=⟨_,st,rfl⟩;unfold pyNext;refine eP (wpAny_attempt (fz (name:=Str.ofString "__next__") ty slot_dict_itemiterator_next (gb slot_dict_itemiterator_next ty PySem.F.entry_dict_itemiterator_next ?_ (PySem.F.args_dict_itemiterator_next_1 _))));refine eP (eR (eP (eP (eP (fK ty (eR (eP (wpAny_fieldsOf st rfl ?_))))))));have ow:Builtin.Dict_items.ownsTuple "dict_itemiterator"=true:=by decide
 simp only[ow,fk];show wpAny _ _ (if(Value.ref d==Value.none)=true then _ else _) _ _ _;rw[az (show¬(Value.ref d==Value.none)=true from λz=>nomatch z)];refine eP (eR (eP (wpAny_dictEntries e1 e2 ?_)));rw[az ⋯];refine eP (eR (eP (wpAny_dictEpoch e1 e2 ?_)));rw[az ⋯];refine eR ?_;have nn:¬(i:Int)<0:=by omega
 simp only[nn,fB,Int.toNat_natCast,Array.getElem?_eq_getElem lt];refine eP (eP (fK ty (eR (eP (wpAny_isOneOf_itemiter ty ?_)))));show wpAny _ _ (setField (.ref it) 3 (rawInt ((i:Int)+1))>>=_) _ _ _;refine eP (fH st ⋯ λg1 q1 dc=>?_);replace dc:Heap.SameBut it hp g1:=dc;replace q1:g1.get? it=some {cls:=.type "dict_itemiterator",dict:=none,data:=.fields #[f0,f1,.ref d,.int ((i+1:Nat):Int) 0,.int es.size 0,.int ep 0,k0,v0],slots:= #[]}:=by
  have z:((i+1:Nat):Int)=(i:Int)+1:=by omega
  rw[z];simpa [rawInt] using q1
 have ty1:Shared.TypeIs ⟨g1,gn,dr,tk,os⟩ (.ref it) "dict_itemiterator":=⟨_,q1,rfl⟩;refine eP (fT (eP (wpAny_isOneOf_itemiter ty1 (eP (wpAny_isOneOf_itemiter ty1 ?_)))));show wpAny _ _ (Builtin.Dict_items.pairFromOwner (.ref it) 6 es[i].key es[i].val) _ _ _;unfold Builtin.Dict_items.pairFromOwner;refine eP (wpAny_newTuple ?_);have il:it<hp.objs.size:=eS st;have z1:g1.objs.size=hp.objs.size:=dc.1;have q2:=eQ (a0s es[i]) q1;have t2:(g1.push (a0s es[i])).get? hp.objs.size=some (a0s es[i]):=by rw[←z1];exact eU _ rfl
 have z2:(g1.push (a0s es[i])).objs.size=hp.objs.size+1:=by rw[fC,z1]
 have k2:∀b o,b≠it->hp.get? b=some o->(g1.push (a0s es[i])).get? b=some o:=λb o hb e=>eQ _ ((dc.2 b hb).trans e);show wpAny _ _ (Builtin.Dict_items.ownedTupleIsFree (.ref it)>>=_) _ _ ⟨g1.push (a0s es[i]),gn,dr,tk,os⟩;rw[z1];generalize g1.push (a0s es[i])=g2 at q2 t2 z2 k2⊢;have cn:∀g3:Heap,IIt g3 it d (i+1) es.size ep->Heap.SameBut it g2 g3->Q (some (.ref hp.objs.size)) ⟨g3,gn,dr,tk,os⟩:=λg3 c3 cW=>
  done g3 c3 ((cW.2 _ (ft il)).trans t2) (by show g3.objs.size=hp.objs.size+1;rw[cW.1,z2]) λb o hb e=>(cW.2 b hb).trans (k2 b o hb e)
 have free:wpAny (model prog w) A.in1 (Builtin.Dict_items.ownedTupleIsFree (.ref it)) (λb s'=>(b=true/\s'=⟨g2,gn,dr,tk,os⟩)∨(b=false/\∃g3,s'=⟨g3,gn,dr,tk,os⟩/\IIt g3 it d (i+1) es.size ep/\Heap.SameBut it g2 g3)) (λ_ _=>False) ⟨g2,gn,dr,tk,os⟩:=by
  unfold Builtin.Dict_items.ownedTupleIsFree;rcases hf with rfl|⟨a,rfl⟩
  · exact eP (fm q2 rfl (x:=.none) rfl (eR (.inl ⟨rfl,rfl⟩)))
  · refine eP (fm q2 rfl (x:=rawInt a) rfl ?_);show wpAny _ _ (loadIfAlive ((a:Int).toNat)>>=_) _ _ _;refine eP (a8X ?_);cases ha:g2.get? ((a:Int).toNat) with
    |none=>
     exact eR (.inl ⟨rfl,rfl⟩)
    |some oa=>
     simp only[Option.isNone_some,fj,fB];refine eP (fm q2 rfl (x:=f1) rfl ?_);refine wpAny_ite_split (λ_=>?_) λ_=>eR (.inr ⟨rfl,g2,rfl,⟨_,_,_,_,.inr ⟨a,rfl⟩,q2⟩,Heap.SameBut.refl _ _⟩);exact eP (fH q2 ⋯ λg3 q3 cW=>eR (.inr ⟨rfl,g3,rfl,⟨_,_,_,_,.inr ⟨a,rfl⟩,q3⟩,cW⟩))
 refine eP (fF free (λb s' hb=>?_) λ_ _ x=>x.elim);rcases hb with⟨rfl,rfl⟩|⟨rfl,g3,rfl,c3,cW⟩
 · simp only[fk];refine eP (fm q2 rfl (x:=k0) rfl (eP (fm q2 rfl (x:=v0) rfl ?_)));refine eP (fH q2 ⋯ λg3 q3 cW=>eP (fH q3 ⋯ λg4 q4 sb4=>eP (fH q4 ⋯ λg5 q5 sb5=>eP (fH q5 ⋯ λg6 q6 sb6=>?_))));replace cW:Heap.SameBut it g2 g3:=cW;replace sb4:Heap.SameBut it g3 g4:=sb4;replace sb5:Heap.SameBut it g4 g5:=sb5;replace sb6:Heap.SameBut it g5 g6:=sb6;refine eP (wpAny_letGo (eR (eR ⟨_,rfl,eR ?_⟩)));exact cn g6 ⟨rawInt hp.objs.size,_,_,_,.inr ⟨_,rfl⟩,q6⟩ ⟨by rw[sb6.1,sb5.1,sb4.1,cW.1],λb hb=>(sb6.2 b hb).trans ((sb5.2 b hb).trans ((sb4.2 b hb).trans (cW.2 b hb)))⟩
 · simp only[fj,fB];exact eR (eR ⟨_,rfl,eR (cn g3 c3 cW)⟩)
theorem a7W{i:Nat}{Q:Option Value->Shared->Prop}(hh:A.handled=none)(st:IIt s.heap it d i es.size ep)(e1:s.heap.get? d=some od)(e2:od.data=.dict es ep)(ge:es.size<=i)
 (done:∀g:Heap,Heap.ExtBut it s.heap g->Q none {s with heap:=g}):wpAny (model prog w) A (pyNext (.ref it)) Q E s:=by
 obtain⟨f0,f1,k0,v0,hf,st⟩:=st;have ty:s.TypeIs (.ref it) "dict_itemiterator":=⟨_,st,rfl⟩;unfold pyNext;refine eP (wpAny_attempt (fz (name:=Str.ofString "__next__") ty slot_dict_itemiterator_next (gb slot_dict_itemiterator_next ty PySem.F.entry_dict_itemiterator_next ?_ (PySem.F.args_dict_itemiterator_next_1 _))));refine eP (eR (eP (eP (eP (fK ty (eR (eP (wpAny_fieldsOf st rfl ?_))))))));have ow:Builtin.Dict_items.ownsTuple "dict_itemiterator"=true:=by decide
 simp only[ow,fk];show wpAny _ _ (if(Value.ref d==Value.none)=true then _ else _) _ _ _;rw[az (show¬(Value.ref d==Value.none)=true from λz=>nomatch z)];refine eP (eR (eP (wpAny_dictEntries e1 e2 ?_)));rw[az ⋯];refine eP (eR (eP (wpAny_dictEpoch e1 e2 ?_)));rw[az ⋯];refine eR ?_;have nn:¬(i:Int)<0:=by omega
 simp only[nn,fB,Int.toNat_natCast,Array.getElem?_eq_none ge];refine eP (eP (fK ty (eR ?_)));show wpAny _ _ (setField (.ref it) 2 .none>>=_) _ _ s;refine eP (fI st rfl ⋯ ?_);show wpAny _ _ (newExc (.type "StopIteration") []>>=_) _ _ _;unfold newExc;refine eP (eP (wpAny_newTuple (eP (eR (a:=Value.none) ?_)) (by decide)));refine eP (wpAny_alloc (eR (wpAny_raiseNew_none hh ?_)));refine eP (wpAny_isInstance (T:="StopIteration") (b:=true) ⟨_,eU _ rfl,rfl⟩ isSubtype_stop ?_);exact eR (done _ (((fi _ _ _).extBut.push _).push _))
theorem a6f{v:Addr}(hv:s.heap.IsItemsView v d)(e1:s.heap.get? d=some od)(e2:od.data=.dict es ep)
 (done:∀g:Heap,IIt g s.heap.objs.size d 0 es.size ep->(∀b o,s.heap.get? b=some o->g.get? b=some o)->Q (.ref s.heap.objs.size) {s with heap:=g}):wpAny (model prog w) A (pyIter (.ref v)) Q E s:=by
 obtain⟨ov,a1,a2,a3⟩:=id hv;refine wpAny_pyIter_slot hv.typeIs PySem.F.slot_dict_items_iter (gb PySem.F.slot_dict_items_iter hv.typeIs PySem.F.entry_dict_items_iter ?_ (PySem.F.args_dict_items_iter_1 _));unfold Builtin.«dict_items.__iter__»;refine eP (eR (eP ?_));unfold Builtin.Dict_items.dictOf;refine eP (fm a1 a3 (x:=.ref d) rfl (eR (eP ?_)));unfold Builtin.Dict_items.newIterator;refine eP (wpAny_dictEntries e1 e2 (eP (wpAny_dictEpoch e1 e2 ?_)));have ow:Builtin.Dict_items.ownsTuple "dict_itemiterator"=true:=by decide
 simp only[ow,fk];refine fL (eR ⟨_,rfl,"dict_itemiterator",_,⟨_,eU _ rfl,rfl⟩,PySem.F.slot_dict_itemiterator_next.lookup,?_⟩)
  (by simp only[sizeOk,Builtin.Dict_items.ownedTupleFields,size_toArray,aq,length_cons,length_nil,fV];omega)
 exact done _ ⟨.none,.bool false,.none,.none,.inl rfl,eU _ rfl⟩ λb o e=>eQ _ e
end
section
variable{prog:Program}{w:World}{A:Around}{E:Value->Shared->Prop}{s:Shared}
theorem a6W(d:Addr)(nd:(d==sysModules)=false):MeetsIn prog w (Builtin.«dict.items» ⟨[.ref d],[]⟩) (λ_ R s=>s.TypeIs (.ref d) "dict"/\R (.ok (.ret (.ref s.heap.objs.size))) {s with heap:=s.heap.push {cls:=.type "dict_items",data:=.fields #[.ref d]}}):=
 .of_wp λA R s ⟨t,h⟩=>by unfold Builtin.«dict.items»;refine eP ?_;unfold Builtin.Dict.noArgs;refine eP (wpAny_notOrdered_dict t ?_);show wpAny _ _ (pure d) _ _ s;refine eR ?_;show wpAny _ _ (Builtin.Dict.showsAll d>>=_) _ _ s;unfold Builtin.Dict.showsAll;rw[az (by rw[nd];exact bg)];exact eP (eR (eP (fL (eR ⟨_,rfl,h⟩))))
theorem b4N(ty:s.TypeIs (.ref d) "dict")(nd:(d==sysModules)=false)
 (h:Q (.ref s.heap.objs.size) {s with heap:=s.heap.push {cls:=.type "dict_items",data:=.fields #[.ref d]}}):wpAny (model prog w) A (call (.builtin "dict.items") [.ref d]) Q E s:=
 call_meetsIn slot_dict_items ty PySem.F.entry_dict_items (PySem.F.args_dict_items_1 _) (a6W d nd) ⟨ty,h⟩
end
def DIt(H:Hp)(d:Addr)(bq:List (V×V)):Prop:=(∃l,H d=some (.dK l)/\bq=l.map λp=>(kV p.1,p.2))∨
 ∃l,H d=some (.dT l)/\Paired (λp q=>(∃b,q.1=V.ref b/\H b=some (.tup (p.1.map kV)))/\p.2=q.2) l bq
abbrev a2h:List DictEntry->List (V×V)->Prop:=Paired λe q=>i8 q.1 e.key/\i8 q.2 e.val
variable{u:Value}
theorem a3Z{k:Key}(h:a1V k u=true):i8 (kV k) u:=by
 rcases v8 h with⟨i,t,rfl,rfl⟩|⟨x,t,rfl,rfl⟩
 · exact⟨t,rfl⟩
 · exact⟨t,rfl⟩
theorem Paired.len{α β:Type}{F:α->β->Prop}:∀{l:List α} {l':List β},Paired F l l'->l.length=l'.length
 |_,_,.nil=>rfl
 |_,_,.cons _ t=>fh (· +1) (Paired.len t)
theorem a9V{P:Program}{w:World}:∀{es:List DictEntry} {vs:List (Key×Value)} {l:List (Key×V)},Pairs (n0 P w) es vs->KV l vs->a2h es (l.map λp=>(kV p.1,p.2))
 |_,_,[],h,.nil=>by cases h;exact .nil
 | _,_,(k,v)::l,h,.cons ⟨q1,q2⟩ t=>by
  cases h with
  |cons h1 h2 h3=>
   refine .cons ⟨?_,?_⟩ (a9V h3 t)
   · exact a3Z (by rw[show k=_ from q1];exact h1)
   · rw[h2];exact q2
theorem a9U{P:Program}{w:World}{H:Hp}:∀{xs:List (List Key×Addr×Value)} {l:List (List Key×V)},Paired (fun(p:List Key×V) (q:List Key×Addr×Value)=>p.1=q.1/\H q.2.1=some (.tup (p.1.map kV))/\i8 p.2 q.2.2) l xs→
 ∃bq,a2h (xs.map (entryOfKey (tupleKind (n0 P w)))) bq/\Paired (λp q=>(∃b,q.1=V.ref b/\H b=some (.tup (p.1.map kV)))/\p.2=q.2) l bq
 |_,_,.nil=>⟨[],.nil,.nil⟩
 |_,_,.cons (a:=p) (b:=x) ⟨e1,e2,e3⟩ t=>by obtain⟨bq,r1,r2⟩:=a9U (P:=P) (w:=w) t;exact⟨(.ref x.2.1,p.2)::bq,.cons ⟨rfl,e3⟩ r1,.cons ⟨⟨_,rfl,e2⟩,rfl⟩ r2⟩
variable{P:Program}{w:World}
section
variable{X:Cx}{s:Shared}
def b7Q:HO->Prop
 |.dK _=>True
 |.dT _=>True
 |_=>False
theorem Inv.freeze{u:HO}(I:Inv X bp σ H s)(hd:H d=some u)(hu:b7Q u):∃od es ep bq,s.heap.get? d=some od/\od.ExactDict/\od.data=.dict es ep/\(d==sysModules)=false/\a2h es.toList bq/\DIt H d bq/\(∀o u,X.H₀ d≠some (.frz o u))/\Inv X bp σ (upd H d (.frz od u)) s:=by
 have nf:∀o' u',X.H₀ d≠some (.frz o' u'):=λo' u' q=>by have:=I.base.frzs d o' u' q;rw[hd] at this;cases this;exact hu
 cases u with
 |dK l=>
  obtain⟨z,nd,vs,kv,od,es,ep,e1,ex,e2,k3,pr,k5⟩:=id (I.hok d _ hd);exact⟨od,es,ep,_,e1,ex,e2,nd,a9V pr kv,.inl ⟨l,hd,rfl⟩,nf,I.write (t':=s.toks) (h':=s.heap) (by rw[hd];exact trivial) (.inl rfl) (λ_ _ _ q=>q) ⟨_,e1⟩ ⟨e1,z,nd,vs,kv,od,es,ep,e1,ex,e2,k3,pr,k5⟩⟩
 |dT l=>
  obtain⟨z,nd,xs,pr,od,es,ep,e1,ex,e2,e3,k5⟩:=id (I.hok d _ hd);obtain⟨bq,r1,r2⟩:=a9U (P:=X.prog) (w:=X.w) pr;rw[←e3] at r1;refine⟨od,es,ep,bq,e1,ex,e2,nd,r1,.inr ⟨l,hd,r2⟩,nf,I.write (t':=s.toks) (h':=s.heap) (by rw[hd];exact trivial) (.inl rfl) (λ_ _ _ q=>q) ⟨_,e1⟩ ⟨e1,z,nd,xs,Paired.mapP pr λp q z=>⟨z.1,?_,z.2.2⟩,od,es,ep,e1,ex,e2,e3,k5⟩⟩;rw[c9 (λy=>by have:=z.2.1;rw[y,hd] at this;cases this)];exact z.2.1
 |_=>exact hu.elim
theorem p8.thaw{x u:HO}(hd:H d=some (.frz od u)):∀{o:HO},p8 P w H h a o->p8 P w (upd H d x) h a o:=by
 intro o;have ne:∀{b:Addr} {v:HO},H b=some v->(∀o' u',v≠.frz o' u')->upd H d x b=some v:=fun{b v} e n=>by
  have:b≠d:=λz=>by rw[z,hd] at e;exact n _ _ (ax e).symm
  rw[c9 this];exact e
 induction o with
 |dT bq=>
  rintro⟨z,nd,xs,pr,r⟩;refine⟨z,nd,xs,?_,r⟩;clear r z
  induction pr with
  |nil=>exact .nil
  |cons q t ih=>exact .cons ⟨q.1,ne q.2.1 (λ_ _=>nofun),q.2.2⟩ ih
 |ins C dx fs=>rintro⟨e,r⟩;exact⟨ne e (λ_ _=>nofun),r⟩
 |frz o' u' ih=>rintro⟨e,r⟩;exact⟨e,ih r⟩
 |_=>exact id
theorem Inv.thaw{u:HO}(I:Inv X bp σ H s)(hd:H d=some (.frz od u))(h0:∀o u,X.H₀ d≠some (.frz o u)):Inv X bp σ (upd H d u) s:=by
 have nd:∀{b:Addr},H b=none->upd H d u b=none:=fun{b} e=>by rw[c9 (λz=>by rw[z,hd] at e;cases e)];exact e
 have ne:∀{b:Addr} {v:HO},H b=some v->(∀o' u',v≠.frz o' u')->upd H d u b=some v:=fun{b v} e n=>by
  rw[c9 (λz=>by rw[z,hd] at e;exact n _ _ (ax e).symm)];exact e
 refine⟨I.ok,I.os,I.bare,⟨I.base.keep,I.base.slot,λb o e n hx=>nd (I.base.free b o e n hx),I.base.there,λb xs e=>ne (I.base.tups b xs e) (λ_ _=>nofun),λb o u e=>?_,λb ps e=>?_⟩,I.loc,I.cell,nd I.free,λx c e=>nd (I.freeC x c e),λp hp=>?_,λa o e=>?_,I.len⟩
 · rw[c9 (λz=>h0 o u (by rw[←z];exact e))];exact I.base.frzs b o u e
 · obtain⟨m,e⟩:=I.base.tbls b ps e;exact⟨m,ne e (λ_ _=>nofun)⟩
 · obtain⟨a1,a2,a3⟩:=I.pin p hp;exact⟨a1,nd a2,a3⟩
 · by_cases z:a=d
   · subst z;rw[b8] at e;cases e;exact p8.thaw hd (I.hok a _ hd).2
   · rw[c9 z] at e;exact p8.thaw hd (I.hok a o e)
end
noncomputable def Itd(d:Addr)(od:Obj)(u:HO)(bq:List (V×V)):It:=⟨λi H=>H d=some (.frz od u)/\∃p,bq[i]? =some p,λi H v H'=>∃T p,H T=none/\v=.ref T/\bq[i]? =some p/\H'=upd H T (.tup [p.1,p.2]),λi H=>H d=some (.frz od u)/\bq.length<=i⟩
theorem a2h.at{es:List DictEntry}{bq:List (V×V)}(r:a2h es bq):∀{i:Nat} {p:V×V},bq[i]? =some p->∃e,es[i]? =some e/\i8 p.1 e.key/\i8 p.2 e.val:=by
 induction r with
 |nil=>intro i p h;cases i<;>cases h
 | @cons a b as bs h t ih=>
  intro i p e;cases i with
  |zero=>cases ax e;exact⟨a,rfl,h⟩
  |succ i=>exact ih e
variable{prog:Program}{A:Around}{cV:List Expr}{pos:Pos}
theorem b6L{E:Value->Shared->Prop}{s:Shared}{k:Nat}{i:Nat}{Q:Unit->Shared->Prop}(st:IIt s.heap it d i n ep)
 (hQ:∀h',IIt h' it d i n ep->(∀b o,b≠it->s.heap.get? b=some o->h'.get? b=some o)->Q () {s with heap:=h'}):wpAny (model prog w) A (letOwnedTupleGo (.Tuple cV k pos) (.ref it) (.ref a)) Q E s:=by
 have st0:=st;obtain⟨f0,f1,k0,v0,hf,st⟩:=st;unfold letOwnedTupleGo;refine eP (wpAny_load st ?_);show wpAny _ _ (if(["enumerate","zip","dict_itemiterator","dict_reverseitemiterator","odict_iterator","itertools.zip_longest","itertools.pairwise"].contains "dict_itemiterator"&&(#[f0,f1,.ref d,.int i 0,.int n 0,.int ep 0,k0,v0]:Array Value)[0]? ==some (rawInt a))=true then _ else _) Q E s;split
 · refine eP (wpAny_rule ?_);show wpAny _ _ (setField (.ref it) 0 .none) Q E s;exact fH st ⋯ λh' he' hs'=>hQ h' ⟨.none,f1,k0,v0,.inl rfl,he'⟩ λb o hb e=>(hs'.2 b hb).trans e
 · exact eR (hQ s.heap st0 λ_ _ _ e=>e)
variable{K:Frag}
theorem a6I{k:Nat}{u:HO}{bq:List (V×V)}(cw:a2h es.toList bq)(ej:d≠it)(hat:od.data=.dict es ep):
 Turn P w K (.Tuple cV k pos) (Itd d od u bq) [it] it (λi h=>IIt h it d i es.size ep) where
 mem:=by simp
 obj:=λi h st b hb=>by obtain⟨f0,f1,k0,v0,hf,he⟩:=st;obtain rfl:=aM.mp hb;exact⟨_,he,λv q=>by have q':Data.fields _=Data.cell v:=q;cases q'⟩
 keep:=λi h h' st k=>st.at λo e=>k it ⋯ o e
 item:=by
  intro X hP hw hK hc i bp s σ H E I hf st hg;subst hP hw hK;obtain⟨hd,p,hp⟩:=hg;obtain⟨e,he,rk,rv⟩:=cw.at hp;have lt:i<es.size:=by
   have:=(ae.mp he).1
   simpa using this
  have hlt:it<s.heap.objs.size:=by obtain⟨_,_,_,_,_,q⟩:=st;exact eS q
  have ee:es[i]=e:=by
   have:=(ae.mp he).2
   simpa using this
  refine a6g st (I.hok d _ hd).1 hat lt λg eh hT hsz hk=>⟨_,rfl,b6L (s:={s with heap:=g}) eh λh3 st3 hk3=>?_⟩;have kk:∀b o,b∉[it]->s.heap.get? b=some o->h3.get? b=some o:=λb o hb q=>by have n1:b≠it:=λw=>hb (by simp[w]);exact hk3 b o n1 (hk b o n1 q)
  have hT3:=hk3 _ _ (ft hlt) hT;rw[ee] at hT3;have I1:Inv X bp σ (upd H s.heap.objs.size (.tup [p.1,p.2])) {s with heap:=h3,toks:=s.toks}:=
   I.turnedN (fp:=[it]) hf kk (aj _) ⟨by show 2<=sizeLine;decide,[e.key,e.val],.cons rk (.cons rv .nil),_,hT3,rfl,rfl,_,rfl⟩
  refine⟨.ref s.heap.objs.size,_,I1,rfl,⟨s.heap.objs.size,p,I.hok.fresh (aj _),rfl,hp,rfl⟩,st3,λb hb=>?_⟩;obtain rfl:=aM.mp hb;rw[c9 (eV hlt)];exact(hf b ⋯).1
 done:=by intro X hP hw hK hc i bp s σ H E I hf st hg;subst hP hw hK;have hl:=Paired.len cw;rw[Array.length_toList] at hl;refine a7W (I.ok.hd hc) st (I.hok d _ hg.1).1 hat (by have:=hg.2;omega) λh' eb=>⟨rfl,I.turnedF (t':=s.toks) hf λb o hb q=>eb b o (λz=>hb (by simp[z])) q⟩
 self:=λA i s Q E st h=>by obtain⟨f0,f1,k0,v0,hf,he⟩:=st;have ty:s.TypeIs (.ref it) "dict_itemiterator":=⟨_,he,rfl⟩;refine wpAny_pyIter_slot ty PySem.F.slot_dict_itemiterator_iter ?_;refine gb PySem.F.slot_dict_itemiterator_iter ty PySem.W.kcp_entry ?_ (PySem.F.args_dict_itemiterator_iter_1 _);exact eR ⟨_,rfl,_,_,ty,PySem.F.slot_dict_itemiterator_next.lookup,h⟩
section
variable{X:Cx}{k:Nat}{ef:Pos}{o:Expr}{to:TE}{bH bF:Pos}
def a7g(H₀:Hp)(to:TE):TI:=λσ H R=>to σ H λv H1=>∃d u,v=.ref d/\H1 d=some u/\b7Q u/\∀od bq,DIt H1 d bq->(∀o u,H₀ d≠some (.frz o u))->R (Itd d od u bq) (upd H1 d (.frz od u))
theorem b0l(ho:PE X o to)(bZ:attributeBase o "items" X.env (eval o X.env)=eval o X.env:=by rfl)(bN:(bH.endLine==bF.line)=true:=by rfl):
 PI X (.Tuple cV k ef) (.Call (.Attribute o "items" bH) [] [] bF) (a7g X.H₀ to):=by
 intro bp s σ H R I h;refine wpAny_Call_method0_late bZ bN (thn (ho bp s σ H _ I h) λv s1 ⟨x,H1,I1,r1,d,u,ex,hd,hu,q1⟩=>?_);subst ex;cases r1;obtain⟨od,es,ep,bq,e1,exd,e2,nd,cw,di,h0,I2⟩:=I1.freeze hd hu;have ty:s1.TypeIs (.ref d) "dict":=⟨od,e1,exd.1⟩;have hlt:d<s1.heap.objs.size:=eS e1;refine⟨"dict","dict.items",plainAttrs_dict,slot_dict_items,PySem.F.type_dict_items,ty,λa e=>?_,fO rfl (PySem.evalArgs_none (b4N ty nd ?_))⟩
 · cases e;exact⟨od,e1,exd.2.1⟩
 have hS:(s1.heap.push {cls:=.type "dict_items",data:=.fields #[.ref d]}).objs.size=s1.heap.objs.size+1:=fC ..;refine a6f ⟨_,eU _ rfl,rfl,rfl⟩ (eQ _ e1) e2 λg st kp=>?_;refine⟨(s1.heap.push {cls:=.type "dict_items",data:=.fields #[.ref d]}).objs.size,[(s1.heap.push {cls:=.type "dict_items",data:=.fields #[.ref d]}).objs.size],_,_,upd H1 d (.frz od u),rfl,I2.kept (t':=s1.toks) (λb u e=>kp b u (eQ _ e)),a6I cw (eV (by rw[hS];exact Nat.lt_succ_of_lt hlt)) e2,st,λb hb=>?_,q1 od bq di h0⟩;obtain rfl:=aM.mp hb;exact I2.fpOk (by rw[hS];omega) (I2.hok.fresh (by rw[hS];omega))
end
variable{e:Expr}{st:Stmt}
section
variable{X:Cx}{ca iter tg:Expr}{ifs:List Expr}{scope:Scope}{own frees:List Str}{js:List Nat}{wi:TI}{g:TG}{tc:TT}{te:TE}
def a7w(H₀:Hp)(Q:Hp->Prop):Hp->Prop:=λH=>∃d od u,H d=some (.frz od u)/\(∀o u,H₀ d≠some (.frz o u))/\Q (upd H d u)
def b8a(H₀:Hp)(t:TE):TE:=λσ H Q=>t σ H λv=>a7w H₀ (Q v)
theorem b3d{t:TE}(h:PE X e t):PE X e (b8a X.H₀ t):=by intro bp s σ H Q I q;refine thn (h bp s σ H _ I q) λv s1 ⟨x,H1,I1,r1,d,od,u,hd,h0,q1⟩=>?_;exact⟨x,_,I1.thaw hd h0,r1,q1⟩
def b8n(H₀:Hp)(t:TS):TS:=λD=>t {D with nx:=λσ=>a7w H₀ (D.nx σ)}
theorem b2Q{t:TS}(h:PS X st t):PS X st (b8n X.H₀ t):=by
 intro bp s σ H D I q;refine thn (h bp s σ H _ I q) λf s1 h1=>?_;cases f with
 |next=>
  obtain⟨bE,H',I1,d,od,u,hd,h0,q1⟩:=h1;exact⟨bE,_,I1.thaw hd h0,q1⟩
 |brk=>exact h1
 |cont=>exact h1
 |ret u=>exact h1
end
theorem b1n{o:Obj}{vs:Array Value}(f:Array Value->Array Value)(e:h.get? a=some o)(d:o.data=.fields vs):∃o',(h.update a (Obj.mapFields f)).get? a=some o'/\o'.cls=o.cls/\o'.data=.fields (f vs):=by
 refine⟨Obj.mapFields f o,fv _ e ?_,?_,?_⟩
 · cases o;subst d;rfl
 · cases o;subst d;rfl
 · cases o;subst d;rfl
variable{items:Array Value}
theorem N2{E:Value->Shared->Prop}{s:Shared}{t:Addr}{i:Nat}{x:Value}(st:s.heap.IsTupleIter it t i)(hl:s.heap.IsTuple t items)(hx:items[i]? =some x)
 (h:∀h':Heap,h'.IsTupleIter it t (i+1)->Heap.SameBut it s.heap h'->Q x {s with heap:=h'}):wpAny (model prog w) A (nextOf (.ref it)) Q E s:=by
 unfold nextOf;refine eP (fz st.typeIs slot_tupleiter_next (wpAny_call (gf slot_tupleiter_next.plain entry_tupleiter_next (slot_tupleiter_next.check _ _ _ _ _ _ _ _ st.typeIs (args_tupleiter_next _) ?_))));obtain⟨o,e,c,d⟩:=st;obtain⟨o2,e2,c2,n,d2⟩:=hl;refine eP (eR (a:=(Value.ref it,[])) ?_);refine eP (fm e d rfl ?_);refine eP (fm e d rfl ?_);refine eP (fJ e2 d2 ?_);have dE:items[((i:Nat):Int).toNat]? =some x:=hx;simp only[dE];refine eP (fI e d (show 1<2 by decide) (eR ?_));obtain⟨o',e',c',d'⟩:=b1n (λx=>x.setIfInBounds 1 (rawInt (↑i+1))) e d;exact eR (h _ ⟨o',e',c'.trans c,d'⟩ (fi _ _ _))
variable{α:Type}{M:Model}
theorem b2z{E:Value->Shared->Prop}{s:Shared}{Q:α->Shared->Prop}(hh:A.handled=none)
 (h:∀(h':Heap) (e:Addr),(∀b o,s.heap.get? b=some o->h'.get? b=some o)->(∃o,h'.get? e=some o/\o.cls=Value.type "StopIteration")->E (.ref e) {s with heap:=h'}):wpAny M A (stopIteration (α:=α)) Q E s:=by
 unfold stopIteration newExc;refine eP (eP (wpAny_newTuple (eP (eR (a:=Value.none) ?_)) (by decide)));refine eP (wpAny_alloc (eR (wpAny_raiseNew_none hh (h _ _ (λb o e=>eQ _ (eQ _ e)) ⟨_,eU _ rfl,rfl⟩))))
theorem X3{E:Value->Shared->Prop}{s:Shared}{t:Addr}{i:Nat}(hh:A.handled=none)(st:s.heap.IsTupleIter it t i)(hl:s.heap.IsTuple t items)(hx:items[i]? =none)
 (h:∀(h':Heap) (e:Addr),Heap.ExtBut it s.heap h'->(∃o,h'.get? e=some o/\o.cls=Value.type "StopIteration")->E (.ref e) {s with heap:=h'}):wpAny (model prog w) A (nextOf (.ref it)) Q E s:=by
 unfold nextOf;refine eP (fz st.typeIs slot_tupleiter_next (wpAny_call (gf slot_tupleiter_next.plain entry_tupleiter_next (slot_tupleiter_next.check _ _ _ _ _ _ _ _ st.typeIs (args_tupleiter_next _) ?_))));obtain⟨o,e,c,d⟩:=st;obtain⟨o2,e2,c2,n,d2⟩:=hl;refine eP (eR (a:=(Value.ref it,[])) ?_);refine eP (fm e d rfl ?_);refine eP (fm e d rfl ?_);refine eP (fJ e2 d2 ?_);have dE:items[((i:Nat):Int).toNat]? =none:=hx;simp only[dE];refine eP (wpAny_rule (eP (fI e d (show 0<2 by decide) ?_)));exact b2z hh λh' ea k t=>h _ ea (λb o hb q=>k b o (((fi _ _ _).2 b hb).trans q)) t
variable{z:Addr}{f0:Value}{v1:Value}
theorem a1e{TI TO:Addr}(v:Value)(e:h.get? z=some {cls:=Value.type "zip",data:=Data.fields #[f0,v1,Value.bool false,Value.ref TI,Value.ref TO]}):
 (h.update z (Obj.mapFields λx=>x.setIfInBounds 0 v)).get? z=some {cls:=Value.type "zip",data:=Data.fields #[v,v1,Value.bool false,Value.ref TI,Value.ref TO]}:=fv _ e rfl
theorem b1l{TI TO:Addr}(v:Value)(e:h.get? z=some {cls:=Value.type "zip",data:=Data.fields #[f0,v1,Value.bool false,Value.ref TI,Value.ref TO]}):
 (h.update z (Obj.mapFields λx=>x.setIfInBounds 1 v)).get? z=some {cls:=Value.type "zip",data:=Data.fields #[f0,v,Value.bool false,Value.ref TI,Value.ref TO]}:=fv _ e rfl
variable{l1:Addr}{l2:Addr}{k1:Nat}{k2:Nat}{ys:Array Value}
theorem a8n{E:Value->Shared->Prop}{s:Shared}{TI TO i1 i2:Addr}{xs:Array Value}{x y a b:Value}
 (D:ZipApart z TI TO i1 i2 l1 l2) (hz:IsZip s.heap z TI TO .none) (cG:IsPair s.heap TI (.ref i1) (.ref i2)) (cQ:IsPair s.heap TO a b) (h1:s.heap.IsTupleIter i1 l1 k1) (h2:s.heap.IsTupleIter i2 l2 k2) (p1:s.heap.IsTuple l1 xs) (p2:s.heap.IsTuple l2 ys) (hx:xs[k1]? =some x) (hy:ys[k2]? =some y)
 (h:∀h':Heap,IsZip h' z TI TO (rawInt ↑s.heap.objs.size)->IsPair h' TO x y->h'.IsTupleIter i1 l1 (k1+1)->h'.IsTupleIter i2 l2 (k2+1)->IsPair h' s.heap.objs.size x y->h'.objs.size=s.heap.objs.size+1->(∀(c:Addr) (o:Obj),c≠z->c≠TO->c≠i1->c≠i2->s.heap.get? c=some o->h'.get? c=some o)->Q (.ref s.heap.objs.size) {s with heap:=h'}):
 wpAny (model prog w) A (Builtin.«zip.__next__» {pos:=[.ref z]}) (λcn s'=>∃v,cn=.done (.ret v)/\Q v s') E s:=by
 unfold Builtin.«zip.__next__»;refine eP (eR (a:=(Value.ref z,[])) ?_);refine eP (fm hz rfl rfl ?_);refine eP (fm hz rfl rfl ?_);refine eP (fJ cG rfl ?_);refine eP (eP (fm hz rfl rfl (eR ?_)));refine eP (wpAny_rule (eP (fm hz rfl rfl ?_)));refine eP (fI hz rfl (show 0<5 by decide) ?_);have dc:=fi s.heap z (Obj.mapFields λx=>x.setIfInBounds 0 Value.ellipsis);have hz1:=a1e Value.ellipsis hz;generalize s.heap.update z (Obj.mapFields λx=>x.setIfInBounds 0 Value.ellipsis)=g1 at dc hz1⊢;have t1:g1.get? TO=_:=(dc.2 _ D.TOz).trans cQ;have i1':=h1.at λo e=>(dc.2 _ D.i1z).trans e;have i2':=h2.at λo e=>(dc.2 _ D.i2z).trans e;refine eP (eP (eP (gv (eP (N2 i1' (p1.at λo e=>(dc.2 _ D.l1z).trans e) hx λg2 j1 dL=>eR ?_)))));have t2:g2.get? TO=_:=(dL.2 _ D.TOi1).trans t1;have hz2:=(dL.2 _ (ff D.i1z)).trans hz1;refine eP (fJ t2 rfl ?_);refine eP (wpAny_updateSeq_pair t2 λg3 t3 cW=>?_);refine eP (wpAny_letGo (eR ?_));have hz3:=(cW.2 _ (ff D.TOz)).trans hz2;have m1:=j1.at λo e=>(cW.2 _ (ff D.TOi1)).trans e;have m2:=i2'.at λo e=>(cW.2 _ (ff D.TOi2)).trans ((dL.2 _ (ff D.i12)).trans e);refine eP (eP (gv (eP (N2 m2 (p2.at λo e=>(cW.2 _ D.l2TO).trans ((dL.2 _ D.l2i1).trans ((dc.2 _ D.l2z).trans e))) hy λg4 j2 sb4=>eR ?_))));have t4:g4.get? TO=some {cls:=.type "tuple",data:=.seq #[x,b]}:=(sb4.2 _ D.TOi2).trans t3;have hz4:=(sb4.2 _ (ff D.i2z)).trans hz3;have n1:=m1.at λo e=>(sb4.2 _ D.i12).trans e;refine eP (fJ t4 rfl ?_);refine eP (wpAny_updateSeq_pair t4 λg5 t5 sb5=>?_);refine eP (wpAny_letGo (eR (eR ?_)));have t5':g5.get? TO=some {cls:=.type "tuple",data:=.seq #[x,y]}:=t5;have hz5:=(sb5.2 _ (ff D.TOz)).trans hz4;have q1:=n1.at λo e=>(sb5.2 _ (ff D.TOi1)).trans e;have q2:=j2.at λo e=>(sb5.2 _ (ff D.TOi2)).trans e;refine eP (fJ t5' rfl ?_);refine eP (wpAny_newTuple ?_ (show 2<=sizeLine by decide));have zs:g5.objs.size=s.heap.objs.size:=by rw[sb5.1,sb4.1,cW.1,dL.1,dc.1]
 have zlt:z<g5.objs.size:=eS hz5;have hz6:=eQ {cls:=Value.type "tuple",data:=Data.seq #[x,y].toList.toArray} hz5;refine eP (eP (fI hz6 rfl (show 0<5 by decide) (fI (a1e _ hz6) rfl (show 1<5 by decide) (eR ⟨_,rfl,?_⟩))));have nz:g5.objs.size≠z:=ft zlt;have ot:∀c,c≠z->(((g5.push {cls:=Value.type "tuple",data:=Data.seq #[x,y].toList.toArray}).update z (Obj.mapFields λx=>x.setIfInBounds 0 (rawInt ↑g5.objs.size))).update z (Obj.mapFields λx=>x.setIfInBounds 1 (.bool false))).get? c=(g5.push {cls:=Value.type "tuple",data:=Data.seq #[x,y].toList.toArray}).get? c:=λc hc=>
  ((fi _ _ _).2 c hc).trans ((fi _ _ _).2 c hc)
 have hz7:=b1l (Value.bool false) (a1e (rawInt ↑g5.objs.size) hz6);have sz7:(((g5.push {cls:=Value.type "tuple",data:=Data.seq #[x,y].toList.toArray}).update z (Obj.mapFields λx=>x.setIfInBounds 0 (rawInt ↑g5.objs.size))).update z (Obj.mapFields λx=>x.setIfInBounds 1 (.bool false))).objs.size=g5.objs.size+1:=by rw[(fi _ _ _).1,(fi _ _ _).1];exact Array.size_push ..
 have r:=h _ (zs▸hz7) ((ot _ D.TOz).trans (eQ _ t5')) (q1.at λo e=>(ot _ D.i1z).trans (eQ _ e)) (q2.at λo e=>(ot _ D.i2z).trans (eQ _ e)) (by rw[←zs];exact(ot _ nz).trans (eU _ rfl)) (by rw[←zs];exact sz7)
  (λc o c1 c2 c3 c4 e=>(ot _ c1).trans (eQ _ ((sb5.2 _ c2).trans ((sb4.2 _ c4).trans ((cW.2 _ c2).trans ((dL.2 _ c3).trans ((dc.2 _ c1).trans e)))))))
 rw[←zs] at r;exact r
theorem a1y{E:Value->Shared->Prop}{s:Shared}{TI TO i1 i2:Addr}{xs:Array Value}{x y a b:Value}{Q:Option Value->Shared->Prop}
 (D:ZipApart z TI TO i1 i2 l1 l2) (hz:IsZip s.heap z TI TO .none) (cG:IsPair s.heap TI (.ref i1) (.ref i2)) (cQ:IsPair s.heap TO a b) (h1:s.heap.IsTupleIter i1 l1 k1) (h2:s.heap.IsTupleIter i2 l2 k2) (p1:s.heap.IsTuple l1 xs) (p2:s.heap.IsTuple l2 ys) (hx:xs[k1]? =some x) (hy:ys[k2]? =some y)
 (h:∀h':Heap,IsZip h' z TI TO (rawInt ↑s.heap.objs.size)->IsPair h' TO x y->h'.IsTupleIter i1 l1 (k1+1)->h'.IsTupleIter i2 l2 (k2+1)->IsPair h' s.heap.objs.size x y->h'.objs.size=s.heap.objs.size+1->(∀(c:Addr) (o:Obj),c≠z->c≠TO->c≠i1->c≠i2->s.heap.get? c=some o->h'.get? c=some o)->Q (some (.ref s.heap.objs.size)) {s with heap:=h'}):
 wpAny (model prog w) A (pyNext (.ref z)) Q E s:=by
 have ti:s.TypeIs (.ref z) "zip":=⟨_,hz,rfl⟩;unfold pyNext;refine eP (wpAny_attempt (fz ti slot_zip_next (wpAny_call (gf PySem.F.slot_zip_next.plain PySem.F.entry_zip_next (PySem.F.slot_zip_next.check _ _ _ _ _ _ _ _ ti (PySem.F.args_zip_next_1 _) ?_)))));refine fF (a8n (E:=λ_ _=>False) (Q:=λv s'=>Q (some v) s') D hz cG cQ h1 h2 p1 p2 hx hy h) ?_ ?_
 · rintro cn s' ⟨v,rfl,q⟩;exact eR q
 · exact λe s' q=>q.elim
theorem a9m{E:Value->Shared->Prop}{s:Shared}{TI TO i1 i2:Addr}{xs:Array Value}{a b:Value}{Q:Fin->Shared->Prop}(hh:A.handled=none)
 (D:ZipApart z TI TO i1 i2 l1 l2) (hz:IsZip s.heap z TI TO .none) (cG:IsPair s.heap TI (.ref i1) (.ref i2)) (cQ:IsPair s.heap TO a b) (h1:s.heap.IsTupleIter i1 l1 k1) (h2:s.heap.IsTupleIter i2 l2 k2) (p1:s.heap.IsTuple l1 xs) (p2:s.heap.IsTuple l2 ys) (hn:xs[k1]? =none∨ys[k2]? =none)
 (h:∀(h':Heap) (e:Addr),(∀(c:Addr) (o:Obj),c≠z->c≠TO->c≠i1->c≠i2->s.heap.get? c=some o->h'.get? c=some o)->(∃o,h'.get? e=some o/\o.cls=Value.type "StopIteration")->E (.ref e) {s with heap:=h'}):
 wpAny (model prog w) A (Builtin.«zip.__next__» {pos:=[.ref z]}) Q E s:=by
 unfold Builtin.«zip.__next__»;refine eP (eR (a:=(Value.ref z,[])) ?_);refine eP (fm hz rfl rfl ?_);refine eP (fm hz rfl rfl ?_);refine eP (fJ cG rfl ?_);refine eP (eP (fm hz rfl rfl (eR ?_)));refine eP (wpAny_rule (eP (fm hz rfl rfl ?_)));refine eP (fI hz rfl (show 0<5 by decide) ?_);have dc:=fi s.heap z (Obj.mapFields λx=>x.setIfInBounds 0 Value.ellipsis);have hz1:=a1e Value.ellipsis hz;generalize s.heap.update z (Obj.mapFields λx=>x.setIfInBounds 0 Value.ellipsis)=g1 at dc hz1⊢;have t1:g1.get? TO=_:=(dc.2 _ D.TOz).trans cQ;have i1':=h1.at λo e=>(dc.2 _ D.i1z).trans e;have i2':=h2.at λo e=>(dc.2 _ D.i2z).trans e;have pp1:g1.IsTuple l1 xs:=p1.at λo e=>(dc.2 _ D.l1z).trans e;cases hx:xs[k1]? with
 | none=>
  refine eP (eP (eP (gv (eP (X3 hh i1' pp1 hx λg2 e eb st=>?_)))));have q1:=eb _ _ (ff D.i1z) hz1;refine fI q1 rfl (show 0<5 by decide) (h _ e (λc o c1 c2 c3 c4 q=>((fi _ _ _).2 c c1).trans (eb _ _ c3 ((dc.2 _ c1).trans q))) ?_);obtain⟨o,w1,w2⟩:=st;have ez:e≠z:=by rintro rfl;have q3:=w1.symm.trans q1;injection q3 with q3;subst q3;exact absurd (show Value.type "zip"=Value.type "StopIteration" from w2) (by decide)
  exact⟨o,((fi _ _ _).2 _ ez).trans w1,w2⟩
 | some x=>
  have hy:ys[k2]? =none:=by
   rcases hn with hn|hn
   · rw[hx] at hn;cases hn
   · exact hn
  refine eP (eP (eP (gv (eP (N2 i1' pp1 hx λg2 j1 dL=>eR ?_)))));have t2:g2.get? TO=_:=(dL.2 _ D.TOi1).trans t1;have hz2:=(dL.2 _ (ff D.i1z)).trans hz1;refine eP (fJ t2 rfl ?_);refine eP (wpAny_updateSeq_pair t2 λg3 t3 cW=>?_);refine eP (wpAny_letGo (eR ?_));have hz3:=(cW.2 _ (ff D.TOz)).trans hz2;have m2:=i2'.at λo e=>(cW.2 _ (ff D.TOi2)).trans ((dL.2 _ (ff D.i12)).trans e);refine eP (eP (gv (eP (X3 hh m2 (p2.at λo e=>(cW.2 _ D.l2TO).trans ((dL.2 _ D.l2i1).trans ((dc.2 _ D.l2z).trans e))) hy λg4 e eb st=>?_))));have q1:=eb _ _ (ff D.i2z) hz3;refine fI q1 rfl (show 0<5 by decide) (h _ e (λc o c1 c2 c3 c4 q=>((fi _ _ _).2 c c1).trans (eb _ _ c4 ((cW.2 _ c2).trans ((dL.2 _ c3).trans ((dc.2 _ c1).trans q))))) ?_);obtain⟨o,w1,w2⟩:=st;have ez:e≠z:=by rintro rfl;have q3:=w1.symm.trans q1;injection q3 with q3;subst q3;exact absurd (show Value.type "zip"=Value.type "StopIteration" from w2) (by decide)
  exact⟨o,((fi _ _ _).2 _ ez).trans w1,w2⟩
theorem a2l{E:Value->Shared->Prop}{s:Shared}{TI TO i1 i2:Addr}{xs:Array Value}{a b:Value}{Q:Option Value->Shared->Prop}(hh:A.handled=none)
 (D:ZipApart z TI TO i1 i2 l1 l2) (hz:IsZip s.heap z TI TO .none) (cG:IsPair s.heap TI (.ref i1) (.ref i2)) (cQ:IsPair s.heap TO a b) (h1:s.heap.IsTupleIter i1 l1 k1) (h2:s.heap.IsTupleIter i2 l2 k2) (p1:s.heap.IsTuple l1 xs) (p2:s.heap.IsTuple l2 ys) (hn:xs[k1]? =none∨ys[k2]? =none)
 (h:∀(h':Heap),(∀(c:Addr) (o:Obj),c≠z->c≠TO->c≠i1->c≠i2->s.heap.get? c=some o->h'.get? c=some o)->Q none {s with heap:=h'}):
 wpAny (model prog w) A (pyNext (.ref z)) Q E s:=by
 have ti:s.TypeIs (.ref z) "zip":=⟨_,hz,rfl⟩;unfold pyNext;refine eP (wpAny_attempt (fz ti slot_zip_next (wpAny_call (gf PySem.F.slot_zip_next.plain PySem.F.entry_zip_next (PySem.F.slot_zip_next.check _ _ _ _ _ _ _ _ ti (PySem.F.args_zip_next_1 _) ?_)))));refine a9m (A:=A.in1) hh D hz cG cQ h1 h2 p1 p2 hn λh' e k st=>?_;exact eP (wpAny_isInstance (T:="StopIteration") (b:=true) st rfl (eR (h h' k)))
def oIt(a:Addr):Obj:={cls:=.type "tuple_iterator",data:=.fields #[.ref a,.int 0 0]}
def oTp(l:List Value):Obj:={cls:=.type "tuple",data:=.seq l.toArray}
noncomputable def oZp(i j:Nat):Obj:={cls:=.type "zip",data:=.fields #[.none,.bool false,.bool false,.ref i,.ref j]}
def zA(h:Heap)(a:Addr):Heap:=h.push (oIt a)
def zB(h:Heap)(a b:Addr):Heap:=(zA h a).push (oIt b)
def zC(h:Heap)(a b:Addr):Heap:=(zB h a b).push (oTp [.ref h.objs.size,.ref (zA h a).objs.size])
def zD(h:Heap)(a b:Addr):Heap:=(zC h a b).push (oTp [.none,.none])
def zE(h:Heap)(a b:Addr):Heap:=(zD h a b).push (oZp (zB h a b).objs.size (zC h a b).objs.size)
theorem b3u(a b:Addr)(xs ys:Array Value):Meets (Builtin.«zip.__new__» ⟨[.type "zip",.ref a,.ref b],[]⟩) (λ_ R s=>s.heap.IsTuple a xs/\s.heap.IsTuple b ys/\R (.ok (.ret (.ref (zD s.heap a b).objs.size))) {s with heap:=zE s.heap a b}):=
 .of_wp λprog w A R s h=>by
  obtain⟨u,g,d,tk,os⟩:=s;obtain⟨h1,h2,h⟩:=h;have hsub:=sub_zip;have e1:Heap.IsTuple (Shared.heap ⟨u,g,d,tk,os⟩) a xs:=h1;have e2:Heap.IsTuple (Shared.heap ⟨u.push {cls:=.type "tuple_iterator",data:=.fields #[.ref a,.int 0 0]},g,d,tk,os⟩) b ys:=h2.at λo e=>eQ _ e
  wp_walk using wpAny_pyIter_tuple e1,wpAny_pyIter_tuple e2
  exact⟨_,rfl,h⟩
variable{b:Addr}
theorem b1T{E:Value->Shared->Prop}{s:Shared}{xs:Array Value}(h1:s.heap.IsTuple a xs)(h2:s.heap.IsTuple b ys)
 (h:∀h':Heap,IsZip h' (s.heap.objs.size+4) (s.heap.objs.size+2) (s.heap.objs.size+3) .none->IsPair h' (s.heap.objs.size+2) (.ref s.heap.objs.size) (.ref (s.heap.objs.size+1))->IsPair h' (s.heap.objs.size+3) .none .none->h'.IsTupleIter s.heap.objs.size a 0->h'.IsTupleIter (s.heap.objs.size+1) b 0->(∀c o,s.heap.get? c=some o->h'.get? c=some o)->Q (.ref (s.heap.objs.size+4)) {s with heap:=h'}):
 wpAny (model prog w) A (call (.type "zip") [.ref a,.ref b]) Q E s:=by
 refine callType_new F.called_zip (by decide) (F.typeCall_zip_2 _ _) (F.newCall_zip_2 _ _) (λobj=>F.args_object_init_3 obj _ _) F.entry_zip_new (b3u a b xs ys) ⟨h1,h2,?_⟩;have n1:(zA s.heap a).objs.size=s.heap.objs.size+1:=fC ..;have n2:(zB s.heap a b).objs.size=s.heap.objs.size+2:=(fC ..).trans (by rw[n1]);have n3:(zC s.heap a b).objs.size=s.heap.objs.size+3:=(fC ..).trans (by rw[n2]);have n4:(zD s.heap a b).objs.size=s.heap.objs.size+4:=(fC ..).trans (by rw[n3]);have k4:(zE s.heap a b).get? (zD s.heap a b).objs.size=some (oZp (zB s.heap a b).objs.size (zC s.heap a b).objs.size):=eU _ rfl;have k3:(zE s.heap a b).get? (zC s.heap a b).objs.size=some (oTp [.none,.none]):=eQ _ (eU _ rfl);have k2:(zE s.heap a b).get? (zB s.heap a b).objs.size=some (oTp [.ref s.heap.objs.size,.ref (zA s.heap a).objs.size]):=eQ _ (eQ _ (eU _ rfl));have k1:(zE s.heap a b).get? (zA s.heap a).objs.size=some (oIt b):=eQ _ (eQ _ (eQ _ (eU _ rfl)));have k0:(zE s.heap a b).get? s.heap.objs.size=some (oIt a):=eQ _ (eQ _ (eQ _ (eQ _ (eU _ rfl))));rw[n2,n3,n4] at k4;rw[n3] at k3;rw[n1,n2] at k2;rw[n1] at k1;show _/\_;rw[n4];exact⟨⟨_,k4,rfl⟩,h _ k4 k2 k3 ⟨_,k0,rfl,rfl⟩ ⟨_,k1,rfl,rfl⟩ λc o e=>eQ _ (eQ _ (eQ _ (eQ _ (eQ _ e))))⟩
noncomputable def b7P(K:Frag)(l1 l2:Addr):It:=⟨λi H=>∃xs ys x y,SqT K H l1 xs/\SqT K H l2 ys/\xs[i]? =some x/\ys[i]? =some y,
 λi H v H'=>∃T x y,H T=none/\v=.ref T/\(∀xs,SqT K H l1 xs->xs[i]? =some x)/\(∀ys,SqT K H l2 ys->ys[i]? =some y)/\H'=upd H T (.tup [x,y]),
 λi H=>∃xs ys,SqT K H l1 xs/\SqT K H l2 ys/\(xs.length<=i∨ys.length<=i)⟩
theorem a8s{k:Nat}(z TI TO i1 i2 l1 l2:Addr)(D:ZipApart z TI TO i1 i2 l1 l2):
 Turn P w K (.Tuple cV k pos) (b7P K l1 l2) [z,TI,TO,i1,i2] z (λi h=>IsZip h z TI TO .none/\IsPair h TI (.ref i1) (.ref i2)/\(∃a b,IsPair h TO a b)/\h.IsTupleIter i1 l1 i/\h.IsTupleIter i2 l2 i) where
 mem:=by simp
 obj:=λi h st b hb=>by
  obtain⟨hz,cG,⟨a,c,cQ⟩,⟨o1,e1,c1,d1⟩,⟨o2,e2,c2,d2⟩⟩:=st;simp only[aE,not_mem_nil,fW] at hb;rcases hb with rfl|rfl|rfl|rfl|rfl
  · exact⟨_,hz,λv q=>by have q':Data.fields _=Data.cell v:=q;cases q'⟩
  · exact⟨_,cG,λv q=>by have q':Data.seq _ _=Data.cell v:=q;cases q'⟩
  · exact⟨_,cQ,λv q=>by have q':Data.seq _ _=Data.cell v:=q;cases q'⟩
  · exact⟨o1,e1,λv q=>by rw[d1] at q;cases q⟩
  · exact⟨o2,e2,λv q=>by rw[d2] at q;cases q⟩
 keep:=λi h h' st k=>by obtain⟨hz,cG,⟨a,c,cQ⟩,h1,h2⟩:=st;exact⟨k z ⋯ _ hz,k TI ⋯ _ cG,⟨a,c,k TO ⋯ _ cQ⟩,h1.at λo x=>k i1 ⋯ o x,h2.at λo x=>k i2 ⋯ o x⟩
 item:=by
  intro X hP hw hK hc i bp s σ H E I hf st hg;subst hP hw hK;obtain⟨hz,cG,⟨a,c,cQ⟩,h1,h2⟩:=st;obtain⟨xs,ys,x,y,hq1,hq2,hx,hy⟩:=hg;obtain⟨bt,rv,p,hz1⟩:=I.tuple hq1;obtain⟨its',rv',p',hz2⟩:=I.tuple hq2;obtain⟨u,hu,ru⟩:=rv.get hx;obtain⟨u',hu',ru'⟩:=rv'.get hy;have hzlt:z<s.heap.objs.size:=eS hz;refine a1y D hz cG cQ h1 h2 (show s.heap.IsTuple l1 bt.toArray from p) (show s.heap.IsTuple l2 its'.toArray from p') (x:=u) (y:=u') (by simpa using hu) (by simpa using hu') λh' a1 a2 a3 a4 a5 a6 hk=>?_;refine⟨_,rfl,wpAny_letOwnedTupleGo_zip a1 λh3 hz3 dF=>?_⟩;have kk:∀b o,b∉[z,TI,TO,i1,i2]->s.heap.get? b=some o->h3.get? b=some o:=λb o hb q=>by have n1:b≠z:=λw=>hb (by simp[w]);exact(dF.2 b n1).trans (hk b o n1 (λw=>hb (by simp[w])) (λw=>hb (by simp[w])) (λw=>hb (by simp[w])) q)
  have hT3:h3.get? s.heap.objs.size=some {cls:=.type "tuple",data:=.seq #[u,u']}:=(dF.2 _ (ft hzlt)).trans a5;have I1:Inv X bp σ (upd H s.heap.objs.size (.tup [x,y])) {s with heap:=h3,toks:=s.toks}:=
   I.turnedN (fp:=[z,TI,TO,i1,i2]) hf kk (aj _) ⟨by show 2<=sizeLine;decide,[u,u'],.cons ru (.cons ru' .nil),_,hT3,rfl,rfl,_,rfl⟩
  refine⟨.ref s.heap.objs.size,_,I1,rfl,⟨s.heap.objs.size,x,y,I.hok.fresh (aj _),rfl,λzs hy=>by rw[I.tuple_inj hy hq1];exact hx,λzs hy'=>by rw[I.tuple_inj hy' hq2];exact hy,rfl⟩,
   ⟨hz3,(dF.2 _ D.TIz).trans (hk _ _ D.TIz D.TITO D.TIi1 D.TIi2 cG),⟨_,_,(dF.2 _ D.TOz).trans a2⟩,a3.at λo x=>(dF.2 _ D.i1z).trans x,a4.at λo x=>(dF.2 _ D.i2z).trans x⟩,λb hb=>?_⟩
  have hbs:b<s.heap.objs.size:=by
   obtain⟨o1,e1,_⟩:=h1;obtain⟨o2,e2,_⟩:=h2;simp only[aE,not_mem_nil,fW] at hb;rcases hb with rfl|rfl|rfl|rfl|rfl
   · exact hzlt
   · exact eS cG
   · exact eS cQ
   · exact eS e1
   · exact eS e2
  rw[c9 (eV hbs)];exact(hf b hb).1
 done:=by
  intro X hP hw hK hc i bp s σ H E I hf st hg;subst hP hw hK;obtain⟨hz,cG,⟨a,c,cQ⟩,h1,h2⟩:=st;obtain⟨xs,ys,hq1,hq2,hx⟩:=hg;obtain⟨bt,rv,p,hz1⟩:=I.tuple hq1;obtain⟨its',rv',p',hz2⟩:=I.tuple hq2;have hl:=rv.length;have hl':=rv'.length;refine a2l (I.ok.hd hc) D hz cG cQ h1 h2 (show s.heap.IsTuple l1 bt.toArray from p) (show s.heap.IsTuple l2 its'.toArray from p') ?_ λh' eb=>⟨rfl,I.turnedF (t':=s.toks) hf λb o hb q=>eb b o (λz=>hb (by simp[z])) (λz=>hb (by simp[z])) (λz=>hb (by simp[z])) (λz=>hb (by simp[z])) q⟩;rcases hx with hx|hx
  · exact .inl (by simp;omega)
  · exact .inr (by simp;omega)
 self:=λA i s Q E st h=>wpAny_pyIter_zip st.1 h
variable{ta:TA}{p:Pos}
section
variable{X:Cx}{k:Nat}{ef:Pos}
def b8Z(K:Frag)(ta:TA):TI:=λσ H R=>ta σ H λvs H1=>∃l1 l2 xs ys,vs=[.ref l1,.ref l2]/\((SqL K H1 l1 xs/\SqL K H1 l2 ys/\R (Itz K l1 l2) H1)∨(SqT K H1 l1 xs/\SqT K H1 l2 ys/\R (b7P K l1 l2) H1))
theorem b2Y{a b:Expr}(hg:Gl X "zip")(hm:X.mg "zip"=none)(ha:PA X [a,b] ta)(hs:starEach [a,b] X.env=(false,eval a X.env)::starEach [b] X.env)(hp:(backTo pos (starEach [b] X.env)).any (·.1)=false):
 PI X (.Tuple cV k ef) (.Call (.Name "zip" p) [a,b] [] pos) (b8Z X.K ta):=by
 intro bp s σ H R I h;refine Call_ (a0E I hg hm boot_zip (fD (thn (ha pos bp s σ H _ I h) λus s1 ⟨vs,H1,I1,r1,q1⟩=>?_) hs hp));obtain⟨l1,l2,xs,ys,e,⟨hq1,hq2,q⟩|⟨hq1,hq2,q⟩⟩:=q1<;>subst e
 · obtain⟨u,u',rfl,ru,ru'⟩:=a5y r1;cases ru;cases ru';obtain⟨bt,rv,pl,hz⟩:=I1.list hq1;obtain⟨its',rv',pl',hz'⟩:=I1.list hq2;refine call_zip_2 pl.isList pl'.isList λh' a1 a2 a3 a4 a5 a6 hk=>?_;have I2:Inv X bp σ H1 {s1 with heap:=h'}:=I1.kept (t':=s1.toks) hk;have lt1:l1<s1.heap.objs.size:=by obtain⟨o,e,_⟩:=pl.isList;exact eS e
   have lt2:l2<s1.heap.objs.size:=by obtain⟨o,e,_⟩:=pl'.isList;exact eS e
   refine wpAny_pyIter_zip a1 ⟨s1.heap.objs.size+4,[s1.heap.objs.size+4,s1.heap.objs.size+2,s1.heap.objs.size+3,s1.heap.objs.size,s1.heap.objs.size+1],_,_,H1,rfl,I2,a9r _ _ _ _ _ l1 l2 (zipApart_new lt1 lt2),⟨a1,a2,⟨_,_,a3⟩,a4,a5⟩,λb hb=>?_,q⟩;have hb':s1.heap.objs.size<=b:=by
    simp only[aE,not_mem_nil,fW] at hb;rcases hb with rfl|rfl|rfl|rfl|rfl
    · exact fG _ _
    · exact fG _ _
    · exact fG _ _
    · exact aj _
    · exact fG _ _
   exact I1.fpOk hb' (I1.hok.fresh hb')
 · obtain⟨u,u',rfl,ru,ru'⟩:=a5y r1;cases ru;cases ru';obtain⟨bt,rv,pl,hz⟩:=I1.tuple hq1;obtain⟨its',rv',pl',hz'⟩:=I1.tuple hq2;refine b1T (show s1.heap.IsTuple l1 bt.toArray from pl) (show s1.heap.IsTuple l2 its'.toArray from pl') λh' a1 a2 a3 a4 a5 hk=>?_;have I2:Inv X bp σ H1 {s1 with heap:=h'}:=I1.kept (t':=s1.toks) hk;have lt1:l1<s1.heap.objs.size:=by obtain⟨o,e,_⟩:=pl;exact eS e
   have lt2:l2<s1.heap.objs.size:=by obtain⟨o,e,_⟩:=pl';exact eS e
   refine wpAny_pyIter_zip a1 ⟨s1.heap.objs.size+4,[s1.heap.objs.size+4,s1.heap.objs.size+2,s1.heap.objs.size+3,s1.heap.objs.size,s1.heap.objs.size+1],_,_,H1,rfl,I2,a8s _ _ _ _ _ l1 l2 (zipApart_new lt1 lt2),⟨a1,a2,⟨_,_,a3⟩,a4,a5⟩,λb hb=>?_,q⟩;have hb':s1.heap.objs.size<=b:=by
    simp only[aE,not_mem_nil,fW] at hb;rcases hb with rfl|rfl|rfl|rfl|rfl
    · exact fG _ _
    · exact fG _ _
    · exact fG _ _
    · exact aj _
    · exact fG _ _
   exact I1.fpOk hb' (I1.hok.fresh hb')
end
structure Prs(h:Heap)(es:Array DictEntry)(lo:Addr)(as:List Addr):Prop where
 up:as.Pairwise (· < ·)
 lo:∀a∈as,lo<a
 is:∀(j:Nat) (a:Addr),as[j]? =some a->∃e,es[j]? =some e/\h.get? a=some (a0s e)
section
variable{s:Shared}{R:Result->Shared->Prop}
theorem b1b{S I:Addr}(hh:A.handled=none)(lt:S<I)(nS:d≠S)(nI:d≠I)(hn:es.size<=sizeLine)(e2:od.data=.dict es ep)(res:Value){h0:Heap}
 (done:∀(g:Heap) (bw:Array Value) (c:Nat) (as:List Addr),(∀b o,b≠S->b≠I->h0.get? b=some o->g.get? b=some o)->g.get? S=some {cls:=.type "list",dict:=none,data:=.seq bw c,slots:= #[]}->as.length=es.size->Prs g es I as->bw.toList=as.map Value.ref->R (.ok (.ret res)) {s with heap:=g}):
 ∀(k i:Nat) (h:Heap) (c:Nat) (bw:Array Value) (as:List Addr),es.size-i=k->i<=es.size->IIt h I d i es.size ep->h.get? d=some od->(∀b o,b≠S->b≠I->h0.get? b=some o->h.get? b=some o)→
  h.get? S=some {cls:=.type "list",dict:=none,data:=.seq bw c,slots:= #[]}->bw.toList=as.map Value.ref->as.length=i->Prs h es I as->codeAny (model prog w) A (.builtin "list.extend.loop" ⟨[.ref S,.ref I,res],[]⟩) R {s with heap:=h}:=by
 intro k
 induction k with
 |zero=>
  intro i h c bw as hk hi st e1 kp hS ha hl pr;refine codeAny_builtin PySem.F.entry_extend_loop ?_;rw[gd plain_extend_loop _];show wpAny _ A.in1 (pyNext (.ref I)>>=_) _ _ _;refine eP (a7W (s:={s with heap:=h}) (A:=A.in1) hh st e1 e2 (by omega) λg eb=>eR (done g bw c as (λb o b1 b2 e=>eb b o b2 (kp b o b1 b2 e)) (eb S _ (eV lt) hS) (by omega) ⟨pr.up,pr.lo,λj a hj=>?_⟩ ha));obtain⟨e,x1,x2⟩:=pr.is j a hj;exact⟨e,x1,eb a _ (ft (pr.lo a (aF hj))) x2⟩
 |succ k ih=>
  intro i h c bw as hk hi st e1 kp hS ha hl pr;have li:i<es.size:=by omega
  have zs:bw.size=i:=by rw[←Array.length_toList,ha,aa,hl]
  have lS:S<h.objs.size:=eS hS;have lI:I<h.objs.size:=by obtain⟨_,_,_,_,_,x⟩:=st;exact eS x
  refine codeAny_builtin PySem.F.entry_extend_loop ?_;rw[gd plain_extend_loop _];show wpAny _ A.in1 (pyNext (.ref I)>>=_) _ _ _;refine eP (a6g (s:={s with heap:=h}) st e1 e2 li λg st2 t2 z2 k2=>?_)
  dsimp only at t2 z2 k2⊢
  have hS2:=k2 S _ (eV lt) hS;have up:∀b o,b≠S->g.get? b=some o->(g.update S (Obj.mapSeq (·.push (Value.ref h.objs.size)))).get? b=some o:=λb o hb e=>(fE _ _ (ff hb)).trans e;show wpAny _ A.in1 (updateSeq S (·.push (Value.ref h.objs.size))>>=_) _ _ _;refine eP (wpAny_updateSeq hS2 rfl (eR ⟨gu plain_extend_loop _,?_⟩) (by rw[zs];omega) (by show(bw.push (Value.ref h.objs.size)).size<=sizeLine+1;rw[Array.size_push,zs];omega));refine ih (i+1) _ _ (bw.push (Value.ref h.objs.size)) (as++[h.objs.size]) (by omega) li (st2.at λo e=>up I o (ft lt) e) (up d od nS (k2 d od nI e1)) (λb o b1 b2 e=>up b o b1 (k2 b o b2 (kp b o b1 b2 e))) (fv _ hS2 rfl) (by rw[Array.toList_push,ha,ao];rfl) (by rw[aq,hl];rfl) ⟨?_,?_,?_⟩
  · refine List.pairwise_append.mpr ⟨pr.up,List.pairwise_singleton _ _,λa ma b mb=>?_⟩;rw[aM.mp mb];obtain⟨j,hj⟩:=mem_iff_getElem?.mp ma;obtain⟨_,_,x⟩:=pr.is j a hj;exact eS x
  · intro a ma;rcases aI.mp ma with q|q
    · exact pr.lo a q
    · rw[aM.mp q];exact lI
  · intro j b hj;rcases Nat.lt_trichotomy j as.length with q|q|q
    · rw[av q] at hj;obtain⟨e,x1,x2⟩:=pr.is j b hj;have hb:=pr.lo b (aF hj);exact⟨e,x1,up b _ (ft (ga lt hb)) (k2 b _ (ft hb) x2)⟩
    · subst q;have hb:h.objs.size=b:=by simpa using hj
      subst hb;refine⟨es[i],by rw[hl];simp[li],up _ _ (ft lS) t2⟩
    · rw[aS (by rw[aq,List.length_singleton];omega)] at hj;cases hj
end
section
variable{E:Value->Shared->Prop}{s:Shared}
theorem b3H{R:Result->Shared->Prop}{r S:Addr}{c0:Nat}(hh:A.handled=none)(hv:s.heap.IsItemsView r d)(e1:s.heap.get? d=some od)(e2:od.data=.dict es ep)(nr:S≠r)(nd:d≠S)(res:Value)(hS:s.heap.get? S=some {cls:=.type "list",data:=.seq #[] c0})(hn:es.size<=sizeLine)
 (done:∀(g:Heap) (bw:Array Value) (c:Nat) (as:List Addr),(∀b o,b≠S->s.heap.get? b=some o->g.get? b=some o)->g.get? S=some {cls:=.type "list",dict:=none,data:=.seq bw c,slots:= #[]}->as.length=es.size->Prs g es s.heap.objs.size as->bw.toList=as.map Value.ref->R (.ok (.ret res)) {s with heap:=g}):
 wpAny (model prog w) A.in1 (listExtendWith (.ref S) (.ref r) res) (λcn s'=>match cn with|.done f=>R (.ok f) s'|.again c'=>c'.quiet=true/\codeAny (model prog w) A c' R s') (λe s'=>R (.error e) s') s:=by
 have lS:S<s.heap.objs.size:=eS hS;have ld:d<s.heap.objs.size:=eS e1;have go:∀(h:Heap) (c1:Nat),IIt h s.heap.objs.size d 0 es.size ep->(∀b o,b≠S->s.heap.get? b=some o->h.get? b=some o)->h.get? S=some {cls:=.type "list",data:=.seq #[] c1}->codeAny (model prog w) A (.builtin "list.extend.loop" ⟨[.ref S,.ref s.heap.objs.size,res],[]⟩) R {s with heap:=h}:=by intro h c1 st kp hS1;refine b1b (s:=s) (h0:=s.heap) hh lS nd (eV ld) hn e2 res (λg bw c as kp2 hS2 hl pr ha=>done g bw c as (λb o hb e=>kp2 b o hb (eV (eS e)) e) hS2 hl pr ha) es.size 0 h c1 #[] [] (Nat.sub_zero _) (fq _) st (kp d od nd e1) (λb o b1 _ e=>kp b o b1 e) hS1 rfl rfl ⟨.nil,(λ_ z=>nomatch z),λj a hj=>by simp at hj⟩
 unfold listExtendWith;refine eP (wpAny_typeOf (T:="dict_items") hv.typeIs ?_);have n1:listSameRef (.ref S) (.ref r)=false:=by simp[listSameRef,nr]
 have n2:(Value.type "dict_items"==Value.type "list")=false:=by decide
 have n3:(Value.type "dict_items"==Value.type "tuple")=false:=by decide
 simp only[n1,n2,n3,Bool.or_false,fj,fB];refine eP (a6f hv e1 e2 λg1 st1 k1=>?_);have hS1:=k1 S _ hS;refine eP (fT (PySem.W.kdx_hint (let⟨o,ho,hc,_⟩:=hv;⟨o,k1 _ _ ho,hc⟩) ?_));refine wpAny_ite_split (λ_=>?_) λ_=>eR ⟨gu plain_extend_loop _,go _ c0 st1 (λb o _ e=>k1 b o e) hS1⟩;refine eP (wpAny_rule (eP ?_));show wpAny _ _ (updateSeq S (·.push .none)>>=λ_=>updateSeq S (·.pop)) _ _ _;refine eP (wpAny_updateSeq hS1 rfl ?_);have hS2:=fv (Obj.mapSeq (·.push Value.none)) hS1 rfl;refine wpAny_updateSeq (hz:=by seq_fits) hS2 rfl ?_;have hS3:=fv (Obj.mapSeq (·.pop)) hS2 rfl;have up:∀b o,b≠S->g1.get? b=some o->((g1.update S (Obj.mapSeq (·.push Value.none))).update S (Obj.mapSeq (·.pop))).get? b=some o:=λb o hb e=>(fE _ _ (ff hb)).trans ((fE _ _ (ff hb)).trans e);exact eR ⟨gu plain_extend_loop _,go _ _ (st1.at λo e=>up _ o (ft lS) e) (λb o hb e=>up b o hb (k1 b o e)) hS3⟩
theorem b1c{r:Addr}(hh:A.handled=none)(hv:s.heap.IsItemsView r d)(e1:s.heap.get? d=some od)(e2:od.data=.dict es ep)(hn:es.size<=sizeLine)
 (done:∀(g:Heap) (bw:Array Value) (c:Nat) (as:List Addr),(∀b o,s.heap.get? b=some o->g.get? b=some o)->g.get? s.heap.objs.size=some {cls:=.type "list",dict:=none,data:=.seq bw c,slots:= #[]}->as.length=es.size->Prs g es s.heap.objs.size as->bw.toList=as.map Value.ref->Q (.ref s.heap.objs.size) {s with heap:=g}):
 wpAny (model prog w) A (call (.type "list") [.ref r]) Q E s:=by
 refine callType_codes (Q₁:=λo s1=>o=.ref s.heap.objs.size/\s1={s with heap:=s.heap.push {cls:=.type "list",data:=.seq #[]}}) PySem.F.called_list (PySem.F.typeCall_list_1 _) PySem.F.entry_list_init (code_list_new _ ⟨rfl,rfl⟩) λo s1 x=>?_;obtain⟨rfl,rfl⟩:=x;have hS:(s.heap.push {cls:=.type "list",data:=.seq #[]}).get? s.heap.objs.size=some {cls:=.type "list",data:=.seq #[]}:=eU _ rfl;have lr:r<s.heap.objs.size:=let⟨_,ho,_⟩:=hv;eS ho;have ld:d<s.heap.objs.size:=eS e1;refine⟨⟨_,hS,rfl⟩,PySem.F.args_list_init_2 _ _,?_⟩;show wpAny _ _ (do let dh←listItems (.ref s.heap.objs.size);listUpdate (.ref s.heap.objs.size) (λ_=> #[]);letGo dh.toList.reverse;listExtendWith (.ref s.heap.objs.size) (.ref r) .none) _ _ _;refine eP ?_;unfold listItems;refine eP (fJ hS rfl (eR ?_));show wpAny _ _ (updateSeq s.heap.objs.size (λ_=> #[])>>=λ_=>letGo (#[]:Array Value).toList.reverse>>=λ_=>listExtendWith (.ref s.heap.objs.size) (.ref r) .none) _ _ _;refine eP (wpAny_updateSeq hS rfl (eP (wpAny_letGo ?_)));have hS2:=fv (Obj.mapSeq (λ_=>(#[]:Array Value))) hS rfl;have up:∀b o,b≠s.heap.objs.size->s.heap.get? b=some o->((s.heap.push {cls:=.type "list",data:=.seq #[]}).update s.heap.objs.size (Obj.mapSeq (λ_=>(#[]:Array Value)))).get? b=some o:=λb o hb e=>(fE _ _ (ff hb)).trans (eQ _ e);refine b3H (A:=A.in1) hh (let⟨o,ho,x⟩:=hv;⟨o,up r o (eV lr) ho,x⟩) (up d od (eV ld) e1) e2 (ft lr) (eV ld) .none hS2 hn λg bw c as kp hS3 hl pr ha=>⟨rfl,?_⟩;refine done g bw c as (λb o e=>kp b o (eV (eS e)) (up b o (eV (eS e)) e)) hS3 hl ⟨pr.up,λa ma=>ga (eS hS2) (pr.lo a ma),pr.is⟩ ha
end
def ovr(H:Hp)(L:List (Addr×HO)):Hp:=λb=>match L.lookup b with
 |some o=>some o
 |none=>H b
theorem b3h:ovr H []=H:=rfl
variable{L:List (Addr×HO)}
theorem a2Y{p:Addr}{o:HO}:ovr H ((p,o)::L)=upd (ovr H L) p o:=by
 funext b
 unfold ovr upd;rw[lookup_cons]
 by_cases e:b=p
 · subst e;simp
 · rw[az e,show(b==p)=false from beq_eq_false_iff_ne.mpr e]
theorem a5X{o:HO}:L.lookup b=some o->(b,o)∈L:=by
 induction L with
 |nil=>intro h;cases h
 |cons q r ih=>
  intro h;rw[lookup_cons] at h;split at h
  · rename_i z;have z:=eq_of_beq z;cases h;cases q;cases z;exact .head _
  · exact .tail _ (ih h)
theorem a4L(h:∀q∈L,q.1≠b):ovr H L b=H b:=by
 unfold ovr;cases e:L.lookup b with
 |none=>rfl
 |some o=>exact absurd rfl (h _ (a5X e))
section
variable{X:Cx}{s:Shared}
theorem Inv.many{t':Nat}(I:Inv X bp σ H s)(k:∀b u,s.heap.get? b=some u->h'.get? b=some u)(hp:∀q∈L,s.heap.objs.size<=q.1)(new:∀q∈L,p8 X.prog X.w (ovr H L) h' q.1 q.2):Inv X bp σ (ovr H L) {s with heap:=h',toks:=t'}:=by
 have dh:∀b,b<s.heap.objs.size->ovr H L b=H b:=λb lt=>a4L λq hq e=>Nat.not_le.mpr lt (e▸hp q hq);have trk:∀b o,H b=some o->ovr H L b=some o:=λb o e=>(dh b (p8.lt (I.hok b o e))).trans e;refine I.un ⟨λb u q _ _ _=>k b u q,λb u q _ _ _=>⟨u.slots,k b u q⟩,λb u q n _=>(dh b (eS q)).trans n,λb u q _=>⟨u,k b u q⟩,λb xs q=>trk b _ q,λb u xs q=>trk b _ q,λb ps q=>⟨#[],by rw[trk b _ q];simp⟩⟩ ?_;intro b u e;cases z:L.lookup b with
 |some o=>
  have e':some o=some u:=by unfold ovr at e;rw[z] at e;exact e
  cases e';exact new _ (a5X z)
 |none=>
  have e':H b=some u:=by unfold ovr at e;rw[z] at e;exact e
  exact(I.hok b u e').stay (λc v _ q=>k c v q) (λc q=>trk c _ q) λc xs q=>trk c _ q
end
def a0Q:List Addr->List (V×V)->List (Addr×HO)
 |a::as,q::r=>(a,.tup [q.1,q.2])::a0Q as r
 |_,_=>[]
def TPs(H:Hp):List Addr->List (V×V)->Prop
 |[],[]=>True
 |a::as,q::r=>H a=some (.tup [q.1,q.2])/\TPs H as r
 |_,_=>False
theorem a3L:∀{as:List Addr} {bq:List (V×V)} {q:Addr×HO},q∈a0Q as bq->q.1∈as
 |a::as,p::r,q,h=>by
  rcases aE.mp h with rfl|h
  · exact .head _
  · exact .tail _ (a3L h)
 |[],_,_,h=>nomatch h
 |_::_,[],_,h=>nomatch h
theorem TPs.up{H:Hp}{p:Addr}{o:HO}:∀{as:List Addr} {bq:List (V×V)},TPs H as bq->p∉as->TPs (upd H p o) as bq
 |[],[],_,_=>trivial
 |a::as,q::r,⟨h1,h2⟩,n=>⟨(c9 (λe=>n (by rw[←e];exact .head _))).trans h1,TPs.up h2 λm=>n (.tail _ m)⟩
 |[],_::_,h,_=>h.elim
 |_::_,[],h,_=>h.elim
theorem a9A{H:Hp}:∀{as:List Addr} {bq:List (V×V)},as.Pairwise (· < ·)->as.length=bq.length->TPs (ovr H (a0Q as bq)) as bq
 |[],[],_,_=>trivial
 |a::as,q::r,p,l=>by have p:=List.pairwise_cons.mp p;have n:a∉as:=λm=>aN _ (p.1 a m);show ovr H ((a,HO.tup [q.1,q.2])::a0Q as r) a=_/\TPs (ovr H ((a,HO.tup [q.1,q.2])::a0Q as r)) as r;rw[a2Y];exact⟨b8,TPs.up (a9A p.2 (by simpa using l)) n⟩
 |[],_::_,_,l=>nomatch l
 |_::_,[],_,l=>nomatch l
theorem a3J:∀as:List Addr,k8 (as.map V.ref) (as.map Value.ref)
 |[]=>.nil
 |_::r=>.cons rfl (a3J r)
variable{H':Hp}
theorem b5E{es:List DictEntry}{bq:List (V×V)}(r:a2h es bq):∀as:List Addr,as.length=es.length->(∀(j:Nat) (a:Addr),as[j]? =some a->∃e,es[j]? =some e/\h.get? a=some (a0s e))->∀q∈a0Q as bq,p8 P w H' h q.1 q.2:=by
 induction r with
 |nil=>
  intro as l f q hq;cases as with
  |nil=>exact nomatch hq
  |cons a as=>exact nomatch l
 | @cons e p es bq hp t ih=>
  intro as l f q hq;cases as with
  |nil=>exact nomatch l
  |cons a as=>
   rcases aE.mp hq with hq|hq
   · subst hq;obtain⟨e',x1,x2⟩:=f 0 a rfl;cases x1;exact⟨by show 2<=sizeLine;rw[fV];decide,[e.key,e.val],.cons hp.1 (.cons hp.2 .nil),⟨_,x2,rfl,rfl,_,rfl⟩⟩
   · exact ih as (by simpa using l) (λj b hj=>f (j+1) b (by simpa using hj)) q hq
section
variable{X:Cx}{o:Expr}{to:TE}{bH bF:Pos}
noncomputable def c0O(to:TE):TE:=λσ H Q=>to σ H λx H1=>∃d,x=.ref d/\((∃l,H1 d=some (.dK l))∨∃l,H1 d=some (.dT l))∧
 ∀bq p as H2,DIt H1 d bq->(∀b o,H1 b=some o->H2 b=some o)->H2 p=none->TPs H2 as bq->Q (.ref p) (upd H2 p (.lst (as.map V.ref)))
theorem b5S(hg:Gl X "list")(hm:X.mg "list"=none)(hc:X.calm=true)(ho:PE X o to)
 (bZ:attributeBase o "items" X.env (eval o X.env)=eval o X.env:=by rfl) (bN:(bH.endLine==bF.line)=true:=by rfl):
 PE X (.Call (.Name "list" p) [.Call (.Attribute o "items" bH) [] [] bF] [] pos) (c0O to):=by
 intro bp s σ H Q I h;refine Call_ (a0E I hg hm boot_list (fD ?_ rfl rfl));show wpAny _ _ (spliced [(false,eval (.Call (.Attribute o "items" bH) [] [] bF) X.env)]) _ _ s;refine gi (wpAny_Call_method0_late bZ bN (thn (ho bp s σ H _ I h) λv s1 ⟨x,H1,I1,r1,d,ex,hd,q1⟩=>?_));subst ex;cases r1;have raw:∃od es ep bq,s1.heap.get? d=some od/\od.ExactDict/\od.data=.dict es ep/\(d==sysModules)=false/\es.size<=sizeLine/\a2h es.toList bq/\DIt H1 d bq:=by
  rcases hd with⟨l,hd⟩|⟨l,hd⟩
  · obtain⟨z,nd,vs,kv,od,es,ep,e1,ex,e2,_,pr,_⟩:=I1.hok d _ hd;have rw:=a9V pr kv;exact⟨od,es,ep,_,e1,ex,e2,nd,by have:=Paired.len rw;rw[Array.length_toList,aa] at this;omega,rw,.inl ⟨l,hd,rfl⟩⟩
  · obtain⟨z,nd,xs,pr,od,es,ep,e1,ex,e2,e3,_⟩:=I1.hok d _ hd;obtain⟨bq,r1,r2⟩:=a9U (P:=X.prog) (w:=X.w) pr;rw[←e3] at r1;exact⟨od,es,ep,bq,e1,ex,e2,nd,by have a1:=Paired.len r1;have a2:=Paired.len r2;rw[Array.length_toList] at a1;omega,r1,.inr ⟨l,hd,r2⟩⟩
 obtain⟨od,es,ep,bq,e1,ex,e2,nd,z,rw,di⟩:=raw;have ty:s1.TypeIs (.ref d) "dict":=⟨od,e1,ex.1⟩;refine⟨"dict","dict.items",plainAttrs_dict,slot_dict_items,PySem.F.type_dict_items,ty,λa e=>?_,fO rfl (PySem.evalArgs_none (b4N ty nd (Calls.spliced_nil ?_)))⟩
 · cases e;exact⟨od,e1,ex.2.1⟩
 refine b1c (I1.ok.hd hc) ⟨_,eU _ rfl,rfl,rfl⟩ (eQ _ e1) e2 z λg bw c as kp hS hl pr ha=>?_;have kp1:∀b u,s1.heap.get? b=some u->g.get? b=some u:=λb u e=>kp b u (eQ _ e);have gs:s1.heap.objs.size<=(s1.heap.push {cls:=Value.type "dict_items",data:=Data.fields #[Value.ref d]}).objs.size:=by rw[fC];exact gq _
 generalize (s1.heap.push {cls:=Value.type "dict_items",data:=Data.fields #[Value.ref d]}).objs.size=S at hS pr gs⊢;have le:as.length=es.toList.length:=by rw[hl,Array.length_toList]
 have lk:as.length=bq.length:=le.trans (Paired.len rw);have hi:∀q∈a0Q as bq,S<q.1:=λq hq=>pr.lo _ (a3L hq);have nS:S∉as:=λm=>aN _ (pr.lo _ m);have ac:bw=(as.map Value.ref).toArray:=by rw[←ha]
 have I2:Inv X bp σ (ovr H1 ((S,.lst (as.map V.ref))::a0Q as bq)) {s1 with heap:=g,toks:=s1.toks}:=by
  refine I1.many kp1 (λq hq=>?_) λq hq=>?_
  · rcases aE.mp hq with rfl|hq
    · exact gs
    · exact aO gs (Nat.le_of_lt (hi q hq))
  · rcases aE.mp hq with rfl|hq
    · refine⟨by rw[aa,hl];exact z,as.map Value.ref,c,a3J as,by rw[←ac];exact hS⟩
    · exact b5E rw _ le (λj a hj=>by obtain⟨e,x1,x2⟩:=pr.is j a hj;exact⟨e,by simpa using x1,x2⟩) q hq
 rw[a2Y] at I2;have dh:∀b o,H1 b=some o->ovr H1 (a0Q as bq) b=some o:=λb u e=>(a4L λq hq z=>by have l1:=p8.lt (I1.hok b u e);have l2:=hi q hq;rw[z] at l2;exact aN _ (ga l1 (Nat.lt_of_le_of_lt gs l2))).trans e
 refine⟨.ref S,_,I2,rfl,q1 bq S as _ di dh ?_ (a9A pr.up lk)⟩;rw[a4L λq hq=>ft (hi q hq)];exact I1.hok.fresh gs
end
variable{vs:List (Key×Value)}{to:TE}{bH:Pos}{bF:Pos}
section
variable{X:Cx}
theorem a8p{l:List (Key×V)}(r:KV l vs):∀{us:List Value},us.length=vs.length->(∀(j:Nat) (v:Value),us[j]? =some v->∃k x,vs[j]? =some (k,x)/\a1V k v=true)->k8 (l.map λq=>kV q.1) us:=by
 unfold KV at r
 induction r with
 |nil=>
  intro us hl _;cases length_eq_zero_iff.mp hl;exact .nil
 | @cons p q l vs h t ih=>
  intro us hl hv;cases us with
  |nil=>cases hl
  |cons u us=>
   refine .cons ?_ (ih (by simpa using hl) λj v h=>by simpa using hv (j+1) v (by simpa using h));obtain⟨k,x,e1,e2⟩:=hv 0 u rfl;cases e1;show i8 (kV p.1) u;rw[h.1];exact a3Z e2
def c0Z:List V->Hp->VK->Prop:=λxs H Q=>∃a l,xs=[.ref a]/\H a=some (.dK l)/\∀p,H p=none->Q (.ref p) (upd H p (.lst (l.map λq=>kV q.1)))
theorem a3q(hc:X.calm=true):E4 X (.type "list") c0Z:=by
 intro bp s σ H xs us Q I r h;obtain⟨a,l,rfl,ha,q⟩:=h;obtain⟨u,rfl,ru⟩:=r.one;cases ru;obtain⟨z,nd,vs,kv,hD⟩:=I.hok a _ ha;obtain⟨ep,hat⟩:=hD.dictAt;have hl:l.length=vs.length:=Paired.length kv;refine PySem.W.kdl_call (PySem.W.kdl_dict (knd:=n0 X.prog X.w) (kvs:=vs) (ep:=ep) nd) (I.ok.hd hc) hat (by rw[←hl];exact z) λh' tk bw c hk hS hacc=>?_;have rv:k8 (l.map λq=>kV q.1) bw.toList:=a8p kv (by rw[Array.length_toList];exact hacc.1) λj v hv=>hacc.2 j v (by rw[←Array.getElem?_toList];exact hv);have I2:Inv X bp σ (ovr H [(s.heap.objs.size,.lst (l.map λq=>kV q.1))]) {s with heap:=h',toks:=tk}:=by
  refine I.many hk (λq hq=>?_) λq hq=>?_
  · rw[aM.mp hq];exact aj _
  · rw[aM.mp hq];exact⟨by rw[aa];exact z,bw.toList,c,rv,by rw[Array.toArray_toList];exact hS⟩
 rw[a2Y,b3h] at I2;exact⟨.ref s.heap.objs.size,_,I2,rfl,q _ (I.hok.fresh (aj _))⟩
noncomputable def b8i(X:Cx)(to:TE):TE:=λσ H Q=>to σ H λx H1=>∃H2,(∀bp σ s,Inv X bp σ H1 s->Inv X bp σ H2 s)/\∃d l,x=.ref d/\H2 d=some (.dK l)/\Q .non (upd H2 d (.dK []))
theorem b3f{o:Expr}(ho:PE X o to)(bZ:attributeBase o "clear" X.env (eval o X.env)=eval o X.env)(bN:(bH.endLine==bF.line)=true):
 PE X (.Call (.Attribute o "clear" bH) [] [] bF) (b8i X to):=by
 intro bp s σ H Q I h;refine wpAny_Call_method0_late bZ bN (thn (ho bp s σ H _ I h) λv s1 ⟨x,H1,I1,r1,H2,iv,d,l,ex,hd,q⟩=>?_);subst ex;cases r1;have I2:=iv _ _ _ I1;obtain⟨z,nd,vs,kv,hD⟩:=I2.hok d _ hd;obtain⟨od,_,_,e1,exd,_⟩:=id hD;refine⟨"dict","dict.clear",plainAttrs_dict,PySem.F.slot_dict_clear,PySem.F.type_dict_clear,hD.typeIs,λa e=>?_,fO rfl (PySem.evalArgs_none (call_meetsIn PySem.F.slot_dict_clear hD.typeIs PySem.F.entry_dict_clear (PySem.F.args_dict_clear_1 _) (meets_dict_clear (n0 X.prog X.w) d) ⟨vs,hD,by rw[←Paired.length kv];exact z,λh' hmm hs=>?_⟩))⟩
 · cases e;exact⟨od,e1,exd.2.1⟩
 have he:∃q,h'.get? d=some q:=let⟨q,_,_,hq,_⟩:=hmm;⟨q,hq⟩;exact⟨.non,_,I2.write (x:=d) (e:=d) (o:=.dK []) (t':=s1.toks) (by rw[hd];exact True.intro) (.inl rfl) (λb u hb e=>(hs.2 b hb).trans e) he ⟨fq _,nd,[],.nil,hmm⟩,rfl,q⟩
end
end L2
namespace EV
open PySem L2
inductive D where
 |non|bl (b:Bool)|int (i:Int)|str (x:Str)|tup (l:List D)|ref (n:Nat)
 deriving Inhabited
mutual
def D.dec:(a b:D)->Decidable (a=b)
  | .non,b=>match b with
    |.non=>Decidable.isTrue rfl
    |.bl _=>Decidable.isFalse (λh=>nomatch h)|.int _=>Decidable.isFalse (λh=>nomatch h)|.str _=>Decidable.isFalse (λh=>nomatch h)|.tup _=>Decidable.isFalse (λh=>nomatch h)|.ref _=>Decidable.isFalse (λh=>nomatch h)
  | .bl x,b=>match b with
    |.bl y=>if h:x=y then Decidable.isTrue (by rw[h]) else Decidable.isFalse (λe=>h (by injection e))
    |.non=>Decidable.isFalse (λh=>nomatch h)|.int _=>Decidable.isFalse (λh=>nomatch h)|.str _=>Decidable.isFalse (λh=>nomatch h)|.tup _=>Decidable.isFalse (λh=>nomatch h)|.ref _=>Decidable.isFalse (λh=>nomatch h)
  | .int x,b=>match b with
    |.int y=>if h:x=y then Decidable.isTrue (by rw[h]) else Decidable.isFalse (λe=>h (by injection e))
    |.non=>Decidable.isFalse (λh=>nomatch h)|.bl _=>Decidable.isFalse (λh=>nomatch h)|.str _=>Decidable.isFalse (λh=>nomatch h)|.tup _=>Decidable.isFalse (λh=>nomatch h)|.ref _=>Decidable.isFalse (λh=>nomatch h)
  | .str x,b=>match b with
    |.str y=>if h:x=y then Decidable.isTrue (by rw[h]) else Decidable.isFalse (λe=>h (by injection e))
    |.non=>Decidable.isFalse (λh=>nomatch h)|.bl _=>Decidable.isFalse (λh=>nomatch h)|.int _=>Decidable.isFalse (λh=>nomatch h)|.tup _=>Decidable.isFalse (λh=>nomatch h)|.ref _=>Decidable.isFalse (λh=>nomatch h)
  | .tup x,b=>match b with
    | .tup y=>match D.decs x y with
      |.isTrue h=>Decidable.isTrue (by rw[h])
      |.isFalse h=>Decidable.isFalse (λe=>h (by injection e))
    |.non=>Decidable.isFalse (λh=>nomatch h)|.bl _=>Decidable.isFalse (λh=>nomatch h)|.int _=>Decidable.isFalse (λh=>nomatch h)|.str _=>Decidable.isFalse (λh=>nomatch h)|.ref _=>Decidable.isFalse (λh=>nomatch h)
  | .ref x,b=>match b with
    |.ref y=>if h:x=y then Decidable.isTrue (by rw[h]) else Decidable.isFalse (λe=>h (by injection e))
    |.non=>Decidable.isFalse (λh=>nomatch h)|.bl _=>Decidable.isFalse (λh=>nomatch h)|.int _=>Decidable.isFalse (λh=>nomatch h)|.str _=>Decidable.isFalse (λh=>nomatch h)|.tup _=>Decidable.isFalse (λh=>nomatch h)
def D.decs:(a b:List D)->Decidable (a=b)
  | [],b=>match b with
    |[]=>Decidable.isTrue rfl
    |_::_=>Decidable.isFalse (λh=>nomatch h)
  | x ::xs,b=>match b with
    |[]=>Decidable.isFalse (λh=>nomatch h)
    | y ::ys=>match D.dec x y with
      | .isTrue h1=>match D.decs xs ys with
        |.isTrue h2=>Decidable.isTrue (by rw[h1,h2])
        |.isFalse h2=>Decidable.isFalse (λe=>h2 (by injection e))
      |.isFalse h1=>Decidable.isFalse (λe=>h1 (by injection e))
end
instance:DecidableEq D:=D.dec
inductive Cell where
 |lst (l:List D)|rol (l:List D)|rod (l:List (D×D))|dict (l:List (D×D))|obj (c:Nat) (fs:List (Str×D))
 deriving DecidableEq
abbrev AH:=List Cell
inductive R(α:Type)where
 |ok (a:α) (h:AH)|no
def R.bind{α β:Type}(r:R α)(k:α->AH->R β):R β:=match r with
 |.ok a h=>k a h
 |.no=>.no
@[simp] theorem g9 {α β:Type} (a:α) (h:AH) (k:α->AH->R β):(R.ok a h).bind k=k a h:=rfl
@[simp] theorem b4w {α β:Type} (k:α->AH->R β):(R.no).bind k=.no:=rfl
mutual
def D.flat:D->Bool
  |.tup l=>D.flats l
  |.ref _=>false
  |_=>true
def D.flats:List D->Bool
  |[]=>true
  |d::r=>d.flat&&D.flats r
end
abbrev SL:Nat:=16777216
def u9(c:Cell)(h:AH):R D:=.ok (.ref h.length) (h++[c])
noncomputable def rdL(h:AH)(n:Nat):Option (List D):=match h[n]? with
 |some (.lst l)=>some l
 |some (.rol l)=>some l
 |_=>none
noncomputable def a2r:Int->Bool
 |.ofNat n=>Nat.ble n 18446744073709551615
 |.negSucc n=>Nat.ble n 18446744073709551614
def a2K:Int->Bool
 |.ofNat n=>Nat.ble n 16777216
 |.negSucc n=>Nat.ble n 16777216
theorem a2L:∀{i:Int},a2r i=true-> -(2^64)<i/\i<2^64
 |.ofNat n,h=>by have h:=eT h;show-(2^64)<(n:Int)/\(n:Int)<2^64;omega
 |.negSucc n,h=>by have h:=eT h;rw[Int.negSucc_eq];omega
theorem a0c:∀{i:Int},a2K i=true-> -(2^62)<=i/\i<2^62
 |.ofNat n,h=>by have h:=eT h;show-(2^62)<=(n:Int)/\(n:Int)<2^62;omega
 |.negSucc n,h=>by have h:=eT h;rw[Int.negSucc_eq];omega
noncomputable def W2(h:AH):D->D->R D
 |.int i,.int j=>.ok (.int (i+j)) h
 |.str x,.str y=>if x.length+y.length<=SL then .ok (.str (x++y)) h else .no
 |.ref a,.ref b=>match h[a]?,h[b]? with
  |some (.lst xs),some (.lst ys)=>if xs.length+ys.length<=SL then u9 (.lst (xs++ys)) h else .no
  |_,_=>.no
 |.tup xs,.tup ys=>if xs.length+ys.length<=SL then .ok (.tup (xs++ys)) h else .no
 |_,_=>.no
def a5S(h:AH):D->D->R D
 |.int i,.int j=>.ok (.int (i-j)) h
 |_,_=>.no
def M0(h:AH):D->D->R D
 |.int i,.int j=>if(a2r i||a2r j)=true then .ok (.int (i*j)) h else .no
 |.str x,.int k=>if a2K k=true/\x.length*k.toNat<=SL then .ok (.str (D6 k.toNat x)) h else .no
 |_,_=>.no
noncomputable def v5(h:AH):D->D->R D
 |.int i,.int j=>if 0<j/\j<1073741824 then .ok (.int (i/j)) h else .no
 |_,_=>.no
def u0(h:AH):D->D->R D
 |.int i,.int j=>if 0<j then .ok (.int (i%j)) h else .no
 |_,_=>.no
noncomputable def eqS(a b:D):Option Bool:=match a with
 |.int i=>(match b with
  |.int j=>some (decide (i=j))
  |_=>none)
 |.str i=>(match b with
  |.str j=>some (decide (i=j))
  |_=>none)
 |.bl i=>(match b with
  |.bl j=>some (decide (i=j))
  |_=>none)
 |_=>none
def E3(p:Int->Int->Bool)(h:AH):D->D->R D
 |.int i,.int j=>.ok (.bl (p i j)) h
 |_,_=>.no
def a4O(i j:Str):Bool:=!(occurrences j i 0 j.length 1).isEmpty
def u8:D->Bool
 |.non=>true|.bl _=>true|.int _=>true|.str _=>true
 |_=>false
noncomputable def eqF(a b:D):Bool:=match a with
 |.str x=>(match b with
  |.str y=>x==y
  |_=>false)
 |.int x=>(match b with
  |.int y=>x==y
  |.bl y=>x==(if y then 1 else 0)
  |_=>false)
 |.bl x=>(match b with
  |.bl y=>x==y
  |.int y=>(if x then 1 else 0)==y
  |_=>false)
 |.non=>(match b with
  |.non=>true
  |_=>false)
 |_=>false
def inD(x:D)(xs:List D):Bool:=xs.any λy=>eqF y x
def same (h:AH):Nat->D->D->Bool
 |0,x,y=>decide (x=y)&&u8 x
 | n +1,x,y=>match x with
  |.tup l=>(match y with
   |.tup r=>decide (l.length=r.length)&&(l.zip r).all λp=>same h n p.1 p.2
   |_=>false)
  | .ref i=>(match y with
   | .ref j=>(match rdL h i with
    |some l=>(match rdL h j with
     |some r=>decide (l.length=r.length)&&(l.zip r).all λp=>same h n p.1 p.2
     |none=>false)
    |none=>false)
   |_=>false)
  |x=>decide (x=y)&&u8 x
def b4S(h:AH)(x y:D):Bool:=match x with
 |.ref _=>same h 5 x y
 |_=>false
def b4R(h:AH)(x y:D):Bool:=match x with
 |.tup _=>same h 5 x y
 |_=>false
def D8(h:AH)(a b:D):R D:=match eqS a b with
 |some c=>.ok (.bl c) h
 |none=>if b4R h a b=true then .ok (.bl true) h else .no
def a1A(h:AH)(a b:D):R D:=match eqS a b with
 |some c=>.ok (.bl (!c)) h
 |none=>if b4S h a b=true then .ok (.bl false) h else if b4R h a b=true then .ok (.bl false) h else .no
def D9:D->Option Key
 |.int i=>some (.inl i)
 |.str x=>some (.inr x)
 |_=>none
noncomputable def v7:List D->Option (List Key)
 |[]=>some []
 |d::r=>match D9 d,v7 r with
  |some k,some ks=>some (k::ks)
  |_,_=>none
def F6:D->Option Bool
 |.int _=>some false
 |.str _=>some false
 |.tup l=>if(v7 l).isSome then some true else none
 |_=>none
def z9(k:D)(bq:List (D×D)):Bool:=(F6 k).isSome&&bq.all λp=>F6 p.1==F6 k
def o7(bq:List (D×D))(k:D):Option D:=(bq.find? λp=>decide (p.1=k)).map (·.2)
noncomputable def W6(bq:List (D×D))(k v:D):List (D×D):=if(bq.any λp=>decide (p.1=k))=true then bq.map (λp=>if p.1=k then(p.1,v) else p) else bq++[(k,v)]
def a0A(neg:Bool)(h:AH):D->D->R D
 |.str i,.str j=>.ok (.bl (a4O i j !=neg)) h
 |x,.tup xs=>if u8 x&&xs.all u8 then .ok (.bl (inD x xs !=neg)) h else .no
 |x,.ref n=>match h[n]? with
  |some (.lst xs)=>if u8 x&&xs.all u8 then .ok (.bl (inD x xs !=neg)) h else .no
  |some (.rol xs)=>if u8 x&&xs.all u8 then .ok (.bl (inD x xs !=neg)) h else .no
  |some (.dict bq)=>if z9 x bq then .ok (.bl ((o7 bq x).isSome !=neg)) h else .no
  |_=>.no
 |_,_=>.no
noncomputable def b0y(h:AH):D->D->R D
 |.int i,.int j=>if 0<=j/\j<=64/\i.natAbs<=1000 then .ok (.int (i^j.toNat)) h else .no
 |_,_=>.no
inductive B where
 |add|sub|mul|div|mod|pow|eq|ne|lt|le|gt|ge|isin|notin
 deriving DecidableEq
def op2(o:B)(h:AH)(a b:D):R D:=match o with
 |.add=>W2 h a b|.sub=>a5S h a b|.mul=>M0 h a b|.div=>v5 h a b|.mod=>u0 h a b|.pow=>b0y h a b
 |.eq=>D8 h a b|.ne=>a1A h a b
 |.lt=>E3 (λi j=>decide (i<j)) h a b|.le=>E3 (λi j=>decide (i<=j)) h a b|.gt=>E3 (λi j=>decide (j<i)) h a b|.ge=>E3 (λi j=>decide (j<=i)) h a b
 |.isin=>a0A false h a b|.notin=>a0A true h a b
def ixD (h:AH):D->D->R D
 |.tup xs,.int i=>match atI xs i with
  |some d=>.ok d h
  |none=>.no
 |.str x,.int i=>if x.length<=SL then(match atI x.cps.toList i with
  |some c=>.ok (.str ⟨#[c]⟩) h
  |none=>.no) else .no
 | .ref n,k=>match h[n]? with
  | some (.lst xs)=>(match k with
   |.int i=>(match atI xs i with
    |some d=>.ok d h
    |none=>.no)
   |_=>.no)
  | some (.rol xs)=>(match k with
   |.int i=>(match atI xs i with
    |some d=>.ok d h
    |none=>.no)
   |_=>.no)
  |some (.dict bq)=>if z9 k bq then(match o7 bq k with
   |some d=>.ok d h
   |none=>.no) else .no
  |_=>.no
 |_,_=>.no
noncomputable def U2(xs:List D)(lo hi:Option Int):List D:=(xs.drop (HT.sIx xs.length 0 lo)).take (HT.sIx xs.length xs.length hi-HT.sIx xs.length 0 lo)
def slD(h:AH)(lo hi:Option Int):D->R D
 |.str x=>if x.length<=SL then .ok (.str (Txt.slice x lo hi)) h else .no
 |.tup xs=>if HT.sIx xs.length 0 lo=0/\HT.sIx xs.length xs.length hi=xs.length then .no else .ok (.tup (U2 xs lo hi)) h
 |.ref n=>match rdL h n with
  |some xs=>u9 (.lst (U2 xs lo hi)) h
  |none=>.no
 |_=>.no
noncomputable def S9(h:AH)(f:Str):D->R D
 | .ref n=>match h[n]? with
  |some (.obj _ fs)=>(match fs.lookup f with
   |some d=>.ok d h
   |none=>.no)
  |_=>.no
 |_=>.no
inductive Bi where
 |len|str|int|list|tuple|all|any|max|dict
 deriving DecidableEq
def a6D:List D->Option (List Bool)
 |[]=>some []
 |.bl b::r=>(a6D r).map (b:: ·)
 |_::_=>none
def a2G:List D->Option (List Str)
 |[]=>some []
 |.str x::r=>(a2G r).map (x:: ·)
 |_::_=>none
noncomputable def b2S:List D->Option (List (D×D))
 |[]=>some []
 |.tup [k,v]::r=>if(D9 k).isSome then(b2S r).map ((k,v):: ·) else none
 |_::_=>none
def biL(b:Bi)(h:AH)(xs:List D):R D:=match b with
 |.len=>.ok (.int xs.length) h
 |.list=>u9 (.lst xs) h
 |.tuple=>.ok (.tup xs) h
 |.all=>(match a6D xs with
  |some bs=>.ok (.bl (bs.all id)) h
  |none=>.no)
 |.any=>(match a6D xs with
  |some bs=>.ok (.bl (bs.any id)) h
  |none=>.no)
 |.dict=>(match b2S xs with
  |some bq=>u9 (.dict (bq.foldl (λa p=>W6 a p.1 p.2) [])) h
  |none=>.no)
 |_=>.no
def bi1(b:Bi)(h:AH)(d:D):R D:=match d with
 | .str x=>(match b with
  |.len=>if x.length<=SL then .ok (.int x.length) h else .no
  |.int=>if x.length<=640 then(match PySem.intText? x with
   |some n=>.ok (.int n) h
   |none=>.no) else .no
  |_=>.no)
 |.tup xs=>(match b with
  |.len=>.ok (.int xs.length) h
  |.list=>u9 (.lst xs) h
  |.tuple=>.ok (.tup xs) h
  |_=>.no)
 |.int i=>(match b with
  |.str=>if i.natAbs.log2<1920 then .ok (.str (toString i)) h else .no
  |.int=>.ok (.int i) h
  |_=>.no)
 |.bl k=>(match b with
  |.int=>.ok (.int (if k then 1 else 0)) h
  |_=>.no)
 | .ref n=>(match h[n]? with
  |some (.lst xs)=>biL b h xs
  |some (.rol xs)=>biL b h xs
  |some (.dict bq)=>(match b with
   |.len=>if z9 (.int 0) bq then .ok (.int bq.length) h else .no
   |.list=>if z9 (.int 0) bq then u9 (.lst (bq.map (·.1))) h else .no
   |_=>.no)
  |_=>.no)
 |.non=>.no
noncomputable def c1g(h:AH)(a b:D):R D:=match a with
 |.int i=>(match b with
  |.int j=>.ok (.int (if j>i then j else i)) h
  |_=>.no)
 |_=>.no
def biD(b:Bi)(h:AH)(ds:List D):R D:=match ds with
 |[]=>.no
 |d::l=>(match l with
  |[]=>bi1 b h d
  |e::l=>if b=.max/\l=[] then c1g h d e else .no)
inductive Mt where
 |append|split|join|starts|extend
 deriving DecidableEq
def mtD (b:Mt) (h:AH):D->List D->R D
 | .ref n,[d]=>match b,h[n]? with
  |.append,some (.lst xs)=>if xs.length<SL then .ok .non (h.set n (.lst (xs++[d]))) else .no
  | .extend,some (.lst xs)=>(match d with
   |.ref k=>(match h[k]? with
    |some (.lst ys)=>if xs.length+ys.length<=SL then .ok .non (h.set n (.lst (xs++ys))) else .no
    |_=>.no)
   |_=>.no)
  |_,_=>.no
 |.str x,[.str y]=>match b with
  |.split=>if 0<y.length/\x.length+2<=SL then u9 (.lst ((Txt.split x y).map D.str)) h else .no
  |.starts=>.ok (.bl (Txt.startswith x y)) h
  |_=>.no
 | .str x,[.ref n]=>match b with
  | .join=>(match rdL h n with
   |some xs=>(match a2G xs with
    |some ts=>if JoinOk x ts=true then .ok (.str (Txt.join x ts)) h else .no
    |none=>.no)
   |none=>.no)
  |_=>.no
 |_,_=>.no
def mtT(b:Mt)(h:AH):D->Bool
 |.str _=>match b with
  |.split=>true|.join=>true|.starts=>true
  |_=>false
 |.ref n=>match b with
  |.append=>(rdL h n).isSome
  |.extend=>(rdL h n).isSome
  |_=>false
 |_=>false
def b4Q(h:AH):D->D->D->R D
 |.ref n,k,x=>match h[n]? with
  |some (.dict bq)=>if z9 k bq&&(D9 k).isSome then .ok ((o7 bq k).getD x) h else .no
  |_=>.no
 |_,_,_=>.no
def b8X(h:AH):D->Bool
 |.ref n=>match h[n]? with
  |some (.dict _)=>true
  |_=>false
 |_=>false
def W1 (h:AH) (o i v:D):R Unit:=match o with
 | .ref n=>match h[n]? with
  | some (.lst xs)=>(match i with
   |.int k=>(match ixN xs.length k with
    |some j=>.ok () (h.set n (.lst (xs.set j v)))
    |none=>.no)
   |_=>.no)
  |some (.dict bq)=>if z9 i bq=true/\bq.length<SL then .ok () (h.set n (.dict (W6 bq i v))) else .no
  |_=>.no
 |_=>.no
noncomputable def a3T(f:Str)(v:D):List (Str×D)->List (Str×D)
 |[]=>[(f,v)]
 |(g,x)::r=>if g=f then(g,v)::r else(g,x)::a3T f v r
def a4B(h:AH)(o:D)(f:Str)(v:D):R Unit:=match o with
 |.ref n=>match h[n]? with
  |some (.obj c fs)=>if fs.length<1000 then .ok () (h.set n (.obj c (a3T f v fs))) else .no
  |_=>.no
 |_=>.no
variable{α:Type}
theorem ifs{c:Prop}[Decidable c]{a:Option α}{x:α}(h:(if c then a else none)=some x):c/\a=some x:=by
 split at h
 · rename_i z;exact⟨z,h⟩
 · cases h
theorem D.ind{P:D->Prop}{Q:List D->Prop}(h0:P .non)(h1:∀b,P (.bl b))(h2:∀i,P (.int i))(h3:∀x,P (.str x))(h4:∀l,Q l->P (.tup l))(h5:∀n,P (.ref n))(q0:Q [])(q1:∀d r,P d->Q r->Q (d::r)):
 (∀d,P d)/\∀l,Q l:=
 ⟨λd=>D.rec (motive_1:=P) (motive_2:=Q) h0 h1 h2 h3 h4 h5 q0 q1 d,λl=>by
  induction l with
  |nil=>exact q0
  |cons d r ih=>exact q1 d r (D.rec (motive_1:=P) (motive_2:=Q) h0 h1 h2 h3 h4 h5 q0 q1 d) ih⟩
mutual
def Rp(m:List Addr)(H:Hp):D->V->Prop
  |.non,v=>v=.non
  |.bl b,v=>v=.bl b
  |.int i,v=>v=.int i
  |.str x,v=>v=.str x
  |.tup l,v=>∃a vs,v=.ref a/\H a=some (.tup vs)/\Rps m H l vs
  |.ref n,v=>∃a,v=.ref a/\m[n]? =some a
def Rps(m:List Addr)(H:Hp):List D->List V->Prop
  |[],vs=>vs=[]
  |d::r,vs=>∃v t,vs=v::t/\Rp m H d v/\Rps m H r t
end
def Im:HO->Prop
 |.tup _=>True
 |.frz _ _=>True
 |_=>False
def Imt:HO->Prop
 |.tup _=>True
 |_=>False
theorem imt{o:HO}(h:Imt o):Im o:=by cases o<;>first|exact h.elim|trivial
abbrev KIm(H H':Hp):Prop:=∀b o,Imt o->H b=some o->H' b=some o
structure Keep(m m':List Addr)(H H':Hp):Prop where
 imm:∀b o,Im o->H b=some o->H' b=some o
 out:∀b o,b∉m->H b=some o->H' b=some o
 fr:∀a,a∈m'->a∈m∨H a=none
variable{m:List Addr}{m':List Addr}{H:Hp}{H':Hp}
theorem Keep.im(k:Keep m m' H H'):KIm H H':=λb o i h=>k.imm b o (imt i) h
theorem Keep.refl(m:List Addr)(H:Hp):Keep m m H H:=⟨λ_ _ _ h=>h,λ_ _ _ h=>h,λ_ h=>.inl h⟩
variable{m1:List Addr}{H1:Hp}
theorem Keep.trans{m2:List Addr}{H2:Hp}(a:Keep m m1 H H1)(b:Keep m1 m2 H1 H2):Keep m m2 H H2:=by
 refine⟨λc o i h=>b.imm c o i (a.imm c o i h),λc o n h=>b.out c o (λz=>?_) (a.out c o n h),λc h=>?_⟩
 · rcases a.fr c z with q|q
   · exact n q
   · rw[h] at q;cases q
 · rcases b.fr c h with q|q
   · exact a.fr c q
   · by_cases hc:c∈m
     · exact .inl hc
     · cases e:H c with
       |none=>exact .inr rfl
       |some o=>rw[a.out c o hc e] at q;cases q
theorem Keep.new{p:Addr}{o:HO}(hp:H p=none):Keep m m H (upd H p o):=
 ⟨λb ob _ h=>by rw[c9 (r8 h hp)];exact h,λb ob _ h=>by rw[c9 (r8 h hp)];exact h,λ_ h=>.inl h⟩
theorem Keep.newc{p:Addr}{o:HO}(hp:H p=none):Keep m (m++[p]) H (upd H p o):=
 ⟨λb ob _ h=>by rw[c9 (r8 h hp)];exact h,λb ob _ h=>by rw[c9 (r8 h hp)];exact h,λa h=>by
  rcases aI.mp h with q|q
  · exact .inl q
  · simp at q;subst q;exact .inr hp⟩
variable{o':HO}
theorem Keep.put{p:Addr}{o:HO}{k:Nat}(hm:m[k]? =some p)(hp:H p=some o)(ni:¬Im o):Keep m m H (upd H p o'):=by
 refine⟨λb ob i h=>?_,λb ob n h=>?_,λ_ h=>.inl h⟩
 · have:b≠p:=λe=>by rw[e,hp] at h;cases h;exact ni i
   rw[c9 this];exact h
 · have:b≠p:=λe=>n (by rw[e];exact aF hm);rw[c9 this];exact h
theorem Keep.tup{m m':List Addr}{H H':Hp}(k:Keep m m' H H'){a:Addr}{vs:List V}(h:H a=some (.tup vs)):H' a=some (.tup vs):=k.imm a _ trivial h
abbrev Pre(m m':List Addr):Prop:=∃t,m'=m++t
theorem Pre.refl(m:List Addr):Pre m m:=⟨[],by simp⟩
theorem Pre.trans{a b c:List Addr}(h:Pre a b)(k:Pre b c):Pre a c:=by obtain⟨t,rfl⟩:=h;obtain⟨u,rfl⟩:=k;exact⟨t++u,by simp⟩
theorem Pre.snoc(m:List Addr)(p:Addr):Pre m (m++[p]):=⟨[p],rfl⟩
variable{n:Nat}
theorem Pre.get(h:Pre m m'){a:Addr}(e:m[n]? =some a):m'[n]? =some a:=by obtain⟨t,rfl⟩:=h;rw[av (ae.mp e).1];exact e
theorem a2t(p:Pre m m')(k:KIm H H'):(∀d v,Rp m H d v->Rp m' H' d v)/\∀l vs,Rps m H l vs->Rps m' H' l vs:=by
 refine D.ind (P:=λd=>∀v,Rp m H d v->Rp m' H' d v) (Q:=λl=>∀vs,Rps m H l vs->Rps m' H' l vs) ?_ ?_ ?_ ?_ ?_ ?_ ?_ ?_
 · intro v h;exact h
 · intro b v h;exact h
 · intro b v h;exact h
 · intro b v h;exact h
 · rintro l ih v ⟨a,vs,rfl,e,q⟩;exact⟨a,vs,rfl,k _ _ trivial e,ih vs q⟩
 · rintro n v ⟨a,rfl,e⟩;exact⟨a,rfl,p.get e⟩
 · intro vs h;exact h
 · rintro d r ih ihs vs ⟨v,t,rfl,q1,q2⟩;exact⟨v,t,rfl,ih v q1,ihs t q2⟩
variable{d:D}{v:V}
theorem Rp.mono(h:Rp m H d v)(p:Pre m m')(k:Keep m m' H H'):Rp m' H' d v:=(a2t p k.im).1 d v h
theorem Rp.mono'(h:Rp m H d v)(p:Pre m m')(k:KIm H H'):Rp m' H' d v:=(a2t p k).1 d v h
variable{vs:List V}
theorem Rps.mono{l:List D}(h:Rps m H l vs)(p:Pre m m')(k:Keep m m' H H'):Rps m' H' l vs:=(a2t p k.im).2 l vs h
theorem Rps.mono'{l:List D}(h:Rps m H l vs)(p:Pre m m')(k:KIm H H'):Rps m' H' l vs:=(a2t p k).2 l vs h
theorem a4F:(∀d v,D.flat d=true->Rp m H d v->Rp m' H d v)/\∀l vs,D.flats l=true->Rps m H l vs->Rps m' H l vs:=by
 refine D.ind (P:=λd=>∀v,D.flat d=true->Rp m H d v->Rp m' H d v) (Q:=λl=>∀vs,D.flats l=true->Rps m H l vs->Rps m' H l vs) ?_ ?_ ?_ ?_ ?_ ?_ ?_ ?_
 · intro v _ h;exact h
 · intro b v _ h;exact h
 · intro b v _ h;exact h
 · intro b v _ h;exact h
 · rintro l ih v f ⟨a,vs,rfl,e,q⟩;exact⟨a,vs,rfl,e,ih vs f q⟩
 · intro n v f;exact absurd f (by simp[D.flat])
 · intro vs _ h;exact h
 · rintro d r ih ihs vs f ⟨v,t,rfl,q1,q2⟩;rw[D.flats,af] at f;exact⟨v,t,rfl,ih v f.1 q1,ihs t f.2 q2⟩
section
theorem Rps.len:∀{l:List D} {vs:List V},Rps m H l vs->vs.length=l.length
 |[],vs,h=>by rw[show vs=[] from h];rfl
 |d::r,vs,⟨v,t,e,_,q⟩=>by rw[e,length_cons,length_cons,Rps.len q]
theorem Rps.get:∀{l:List D} {vs:List V} {i:Nat} {d:D},Rps m H l vs->l[i]? =some d->∃v,vs[i]? =some v/\Rp m H d v
 |d'::r,vs,0,d,⟨v,t,e,q,_⟩,h=>by simp at h;subst h;exact⟨v,by rw[e];rfl,q⟩
 |d'::r,vs,i+1,d,⟨v,t,e,_,q⟩,h=>by obtain⟨w,h1,h2⟩:=Rps.get (i:=i) q (by simpa using h);exact⟨w,by rw[e];simpa using h1,h2⟩
 |[],_,_,_,_,h=>by simp at h
theorem Rps.app:∀{l l':List D} {vs eA:List V},Rps m H l vs->Rps m H l' eA->Rps m H (l++l') (vs++eA)
 |[],_,vs,_,h,k=>by rw[show vs=[] from h];exact k
 |d::r,_,vs,_,⟨v,t,e,q1,q2⟩,k=>by subst e;exact⟨v,_,rfl,q1,Rps.app q2 k⟩
theorem Rps.snoc{l:List D}(h:Rps m H l vs)(q:Rp m H d v):Rps m H (l++[d]) (vs++[v]):=h.app ⟨v,[],rfl,q,rfl⟩
theorem Rps.drop:∀{l:List D} {vs:List V} (n:Nat),Rps m H l vs->Rps m H (l.drop n) (vs.drop n)
 |[],vs,n,h=>by rw[show vs=[] from h];simp[Rps]
 |d::r,vs,0,h=>h
 |d::r,vs,n+1,⟨v,t,e,_,q⟩=>by subst e;exact Rps.drop n q
theorem Rps.take:∀{l:List D} {vs:List V} (n:Nat),Rps m H l vs->Rps m H (l.take n) (vs.take n)
 |[],vs,n,h=>by rw[show vs=[] from h];simp[Rps]
 |d::r,vs,0,h=>by simp[Rps]
 |d::r,vs,n+1,⟨v,t,e,q1,q⟩=>by subst e;exact⟨v,_,rfl,q1,Rps.take n q⟩
theorem Rps.set:∀{l:List D} {vs:List V} {d:D} {v:V} (n:Nat),Rps m H l vs->Rp m H d v->Rps m H (l.set n d) (vs.set n v)
 |[],vs,_,_,n,h,_=>by rw[show vs=[] from h];simp[Rps]
 |d::r,vs,_,_,0,⟨v,t,e,q1,q⟩,k=>by subst e;exact⟨_,t,rfl,k,q⟩
 |d::r,vs,_,_,n+1,⟨v,t,e,q1,q⟩,k=>by subst e;exact⟨v,_,rfl,q1,Rps.set n q k⟩
theorem Rps.strs:∀{ts:List Str},Rps m H (ts.map D.str) (ts.map V.str)
 |[]=>rfl
 |x::r=>⟨_,_,rfl,rfl,Rps.strs⟩
theorem Rps.cut{l:List D}(h:Rps m H l vs)(lo hi:Option Int):Rps m H (U2 l lo hi) (a6v vs lo hi):=by unfold U2 a6v;rw[h.len];exact(h.drop _).take _
theorem Rps.at{l:List D}{i:Int}(h:Rps m H l vs)(e:atI l i=some d):∃v,atI vs i=some v/\Rp m H d v:=by
 unfold atI at e⊢;rw[h.len];cases q:ixN l.length i with
 |none=>rw[q] at e;cases e
 |some j=>rw[q] at e;exact h.get e
theorem a5H:∀{l:List D} {ts:List Str} {vs:List V},a2G l=some ts->Rps m H l vs->vs=ts.map V.str
 |[],ts,vs,e,h=>by cases e;exact h
 |d::r,ts,vs,e,⟨v,t,ev,q1,q2⟩=>by
  subst ev;cases d<;>simp only[a2G] at e<;>try cases e
  rename_i x;cases q:a2G r with
  |none=>rw[q] at e;cases e
  |some us=>rw[q] at e;cases e;rw[a5H q q2,show v=V.str x from q1];rfl
theorem a4C:∀{l:List D} {ts:List Bool} {vs:List V},a6D l=some ts->Rps m H l vs->vs=ts.map V.bl
 |[],ts,vs,e,h=>by cases e;exact h
 |d::r,ts,vs,e,⟨v,t,ev,q1,q2⟩=>by
  subst ev;cases d<;>simp only[a6D] at e<;>try cases e
  rename_i x;cases q:a6D r with
  |none=>rw[q] at e;cases e
  |some us=>rw[q] at e;cases e;rw[a4C q q2,show v=V.bl x from q1];rfl
end
structure Gm where
 K:Frag
 cA:Nat->Addr
 ob:List Nat
 xs:List Nat
def Fl(m:List Addr)(H:Hp):List (Str×D)->List (Str×V)->Prop:=Paired λp q=>p.1=q.1/\Rp m H p.2 q.2
def DK(m:List Addr)(H:Hp):List (D×D)->List (Key×V)->Prop:=Paired λp q=>D9 p.1=some q.1/\Rp m H p.2 q.2
def DT(m:List Addr)(H:Hp):List (D×D)->List (List Key×V)->Prop:=Paired λp q=>(∃l,p.1=.tup l/\v7 l=some q.1)/\Rp m H p.2 q.2
def DU(m:List Addr)(H:Hp)(l:List (D×D))(u:HO):Prop:=(∃bq,u=.dK bq/\DK m H l bq)∨∃bq,u=.dT bq/\DT m H l bq
variable{l:List (D×D)}{u:HO}
theorem DU.is(h:DU m H l u):b7Q u:=by rcases h with⟨_,rfl,_⟩|⟨_,rfl,_⟩<;>trivial
def C8(Γ:Gm)(m:List Addr)(H:Hp)(a:Addr):Cell->Prop
 |.lst l=>∃vs,H a=some (.lst vs)/\Rps m H l vs
 |.rol l=>∃vs,SqL Γ.K H a vs/\Rps m H l vs/\∃o,H a=some (.frz o (.lst vs))
 |.rod l=>∃u o,H a=some (.frz o u)/\DU m H l u
 |.dict l=>(∃bq,H a=some (.dK bq)/\DK m H l bq)∨∃bq,H a=some (.dT bq)/\DT m H l bq
 |.obj c fs=>∃dx gs,H a=some (.ins (Γ.cA c) dx gs)/\Fl m H fs gs/\c∈Γ.ob
variable{Γ:Gm}
theorem C8.there{a:Addr}{c:Cell}(h:C8 Γ m H a c):∃o,H a=some o/\True:=by
 cases c with
 |lst l=>obtain⟨vs,e,_⟩:=h;exact⟨_,e,trivial⟩
 |rol l=>obtain⟨vs,_,_,o,e⟩:=h;exact⟨_,e,trivial⟩
 |rod l=>obtain⟨u,o,e,_⟩:=h;exact⟨_,e,trivial⟩
 |dict l=>
  rcases h with⟨bq,e,_⟩|⟨bq,e,_⟩
  · exact⟨_,e,trivial⟩
  · exact⟨_,e,trivial⟩
 |obj c fs=>obtain⟨dx,gs,e,_⟩:=h;exact⟨_,e,trivial⟩
theorem Fl.mono{fs:List (Str×D)}{gs:List (Str×V)}(h:Fl m H fs gs)(p:Pre m m')(k:KIm H H'):Fl m' H' fs gs:=Paired.mapP h λ_ _ z=>⟨z.1,z.2.mono' p k⟩
variable{gs:List (Key×V)}
theorem DK.mono{fs:List (D×D)}(h:DK m H fs gs)(p:Pre m m')(k:KIm H H'):DK m' H' fs gs:=Paired.mapP h λ_ _ z=>⟨z.1,z.2.mono' p k⟩
theorem DT.mono{fs:List (D×D)}{gs:List (List Key×V)}(h:DT m H fs gs)(p:Pre m m')(k:KIm H H'):DT m' H' fs gs:=Paired.mapP h λ_ _ z=>⟨z.1,z.2.mono' p k⟩
theorem C8.mono'{a:Addr}{c:Cell}(h:C8 Γ m H a c)(p:Pre m m')(k:KIm H H')(e:H' a=H a):C8 Γ m' H' a c:=by
 cases c with
 |lst l=>obtain⟨vs,q,r⟩:=h;exact⟨vs,e.trans q,r.mono' p k⟩
 |rol l=>obtain⟨vs,s,r,o,q⟩:=h;exact⟨vs,.inl (.inr ⟨o,e.trans q⟩),r.mono' p k,o,e.trans q⟩
 |rod l=>
  obtain⟨u,o,q,r⟩:=h;refine⟨u,o,e.trans q,?_⟩;rcases r with⟨bq,z,r⟩|⟨bq,z,r⟩
  · exact .inl ⟨bq,z,r.mono p k⟩
  · exact .inr ⟨bq,z,r.mono p k⟩
 |dict l=>
  rcases h with⟨bq,q,r⟩|⟨bq,q,r⟩
  · exact .inl ⟨bq,e.trans q,r.mono p k⟩
  · exact .inr ⟨bq,e.trans q,r.mono p k⟩
 |obj c fs=>obtain⟨dx,gs,q,r,z⟩:=h;exact⟨dx,gs,e.trans q,r.mono p k,z⟩
theorem C8.mono{a:Addr}{c:Cell}(h:C8 Γ m H a c)(p:Pre m m')(k:Keep m m' H H')(e:H' a=H a):C8 Γ m' H' a c:=h.mono' p k.im e
structure Sim(Γ:Gm)(ah:AH)(m:List Addr)(H:Hp):Prop where
 len:m.length=ah.length
 nd:m.Nodup
 cell:∀(n:Nat) (a:Addr) (c:Cell),m[n]? =some a->ah[n]? =some c->C8 Γ m H a c
section
variable{ah:AH}
theorem Sim.at(s:Sim Γ ah m H){a:Addr}{c:Cell}(h:m[n]? =some a)(e:ah[n]? =some c):C8 Γ m H a c:=s.cell n a c h e
theorem Sim.has(s:Sim Γ ah m H){a:Addr}(h:m[n]? =some a):∃c,ah[n]? =some c:=by have h:=(ae.mp h).1;rw[s.len] at h;exact⟨ah[n],ai h⟩
theorem Sim.fresh(s:Sim Γ ah m H){p:Addr}(hp:H p=none):p∉m:=λhm=>by obtain⟨n,hn⟩:=List.getElem?_of_mem hm;obtain⟨c,hc⟩:=s.has hn;obtain⟨o,e,_⟩:=(s.at hn hc).there;rw[hp] at e;cases e
theorem Sim.keep(s:Sim Γ ah m H)(k:Keep m m H H')(e:∀(n:Nat) (a:Addr),m[n]? =some a->H' a=H a):Sim Γ ah m H':=
 ⟨s.len,s.nd,λn a c h q=>(s.at h q).mono (Pre.refl m) k (e n a h)⟩
theorem Sim.same(s:Sim Γ ah m H)(k:c1K H H'):Sim Γ ah m H':=
 s.keep ⟨λb o _ h=>k b o h,λb o _ h=>k b o h,λ_ h=>.inl h⟩ λn a h=>by obtain⟨c,hc⟩:=s.has h;obtain⟨o,e,_⟩:=(s.at h hc).there;rw[e];exact k a o e
theorem Sim.new{p:Addr}{o:HO}(s:Sim Γ ah m H)(hp:H p=none):Sim Γ ah m (upd H p o):=s.same λb ob h=>by rw[c9 (r8 h hp)];exact h
theorem a0B{m:List Addr}{p:Addr}(nd:m.Nodup)(hp:p∉m):(m++[p]).Nodup:=by rw[nodup_append];refine⟨nd,by simp,λa ha b hb=>?_⟩;simp at hb;subst hb;rintro rfl;exact hp ha
theorem Sim.alloc{p:Addr}{o:HO}{c:Cell}(s:Sim Γ ah m H)(hp:H p=none)(h:C8 Γ (m++[p]) (upd H p o) p c):Sim Γ (ah++[c]) (m++[p]) (upd H p o):=by
 refine⟨by simp[s.len],a0B s.nd (s.fresh hp),λn a c' hn hc=>?_⟩
 by_cases hl:n<m.length
 · rw[av hl] at hn;rw[av (by rw[←s.len];exact hl)] at hc;have ok:=s.at hn hc;refine ok.mono (Pre.snoc m p) (Keep.newc hp) ?_;obtain⟨o',e,_⟩:=ok.there;rw[c9 (r8 e hp)]
 · have hn':n=m.length:=by have:=(ae.mp hn).1;simp at this;omega
   subst hn';rw[au (aj _)] at hn;rw[s.len,au (aj _)] at hc;simp at hn hc;subst hn;subst hc;exact h
theorem Sim.write{k:Nat}{q:Addr}{o:HO}{c:Cell}(s:Sim Γ ah m H)(hk:m[k]? =some q)(hq:H q=some o)(ni:¬Im o)(h:C8 Γ m (upd H q o') q c):Sim Γ (ah.set k c) m (upd H q o'):=by
  refine⟨by simp[s.len],s.nd,λn a c' hn hc=>?_⟩
  by_cases e:n=k
  · subst e;rw[hk] at hn;cases hn;rw[fb (by rw[←s.len];exact(ae.mp hk).1)] at hc;cases hc;exact h
  · rw[eW (ff e)] at hc;have ne:a≠q:=λz=>by subst z;exact e (nodup_ixA s.nd hn hk)
    exact(s.at hn hc).mono (Pre.refl m) (Keep.put hk hq ni) (c9 ne)
where
  nodup_ixA {m:List Addr} (hN:m.Nodup) {i j:Nat} {x:Addr} (a:m[i]? =some x) (b:m[j]? =some x):i=j:=by obtain⟨h1,e1⟩:=ae.mp a;obtain⟨h2,e2⟩:=ae.mp b;exact(getElem_inj hN).mp (e1.trans e2.symm)
theorem Sim.lst(s:Sim Γ ah m H){n:Nat}{l:List D}(e:ah[n]? =some (.lst l)){v:V}(r:Rp m H (.ref n) v):∃a vs,v=.ref a/\m[n]? =some a/\H a=some (.lst vs)/\Rps m H l vs:=by obtain⟨a,rfl,hm⟩:=r;obtain⟨vs,e1,e2⟩:=s.at hm e;exact⟨a,vs,rfl,hm,e1,e2⟩
theorem Sim.rdL(s:Sim Γ ah m H){l:List D}(e:rdL ah n=some l)(r:Rp m H (.ref n) v):∃a vs,v=.ref a/\m[n]? =some a/\SqL Γ.K H a vs/\Rps m H l vs:=by
 obtain⟨a,rfl,hm⟩:=r;unfold EV.rdL at e;split at e
 · rename_i l' q;cases e;obtain⟨vs,e1,e2⟩:=s.at hm q;exact⟨a,vs,rfl,hm,.inl (.inl e1),e2⟩
 · rename_i l' q;cases e;obtain⟨vs,e1,e2,_⟩:=s.at hm q;exact⟨a,vs,rfl,hm,e1,e2⟩
 · cases e
end
abbrev l0:=List (Option D)
structure EnvRel(m:List Addr)(H:Hp)(env:l0)(σ:St):Prop where
 len:env.length=σ.length
 val:∀(i:Nat) (d:D),env[i]? =some (some d)->∃v,σ[i]? =some (some v)/\Rp m H d v
variable{env:l0}{σ:St}
theorem EnvRel.mono(h:EnvRel m H env σ)(p:Pre m m')(k:Keep m m' H H'):EnvRel m' H' env σ:=
 ⟨h.len,λi d e=>let⟨v,a,b⟩:=h.val i d e;⟨v,a,b.mono p k⟩⟩
theorem EnvRel.set(h:EnvRel m H env σ){i:Nat}(r:Rp m H d v):EnvRel m H (env.set i (some d)) (σ.set i (some v)):=by
 refine⟨by simp[h.len],λj d' e=>?_⟩
 by_cases q:j=i
 · subst q
   by_cases hl:j<env.length
   · rw[fb hl] at e;cases e;exact⟨v,fb (by rw[←h.len];exact hl),r⟩
   · rw[aS (by simp;omega)] at e;cases e
 · rw[eW (ff q)] at e⊢;exact h.val j d' e
structure Rel(Γ:Gm)(env:l0)(ah:AH)(σ:St)(H:Hp)(m:List Addr):Prop where
 sim:Sim Γ ah m H
 env:EnvRel m H env σ
def d0(Γ:Gm)(E:XK)(m:List Addr)(H:Hp)(r:R D)(Q:VK):Prop:=match r with
 |.ok d eu=>∀m' H' v,Pre m m'->Keep m m' H H'->Sim Γ eu m' H'->Rp m' H' d v->Q v H'
 |.no=>False
variable{Q:VK}
theorem ifq{E:XK}{c:Prop}[Decidable c]{a:R D}(q:d0 Γ E m H (if c then a else .no) Q):c/\d0 Γ E m H a Q:=by
 split at q
 · rename_i z;exact⟨z,q⟩
 · exact q.elim
def j0{α:Type}(Γ:Gm)(E:XK)(m:List Addr)(H:Hp)(r:R α)(Q:α->AH->List Addr->Hp->Prop):Prop:=match r with
 |.ok a eu=>∀m' H',Pre m m'->Keep m m' H H'->Sim Γ eu m' H'->Q a eu m' H'
 |.no=>False
variable{r:R D}{β:Type}{ah:AH}
section
variable{E:XK}
theorem d0.later(h:d0 Γ E m H r Q)(p:Pre m m')(k:Keep m m' H H'):d0 Γ E m' H' r Q:=by
 cases r with
 |ok d ah=>exact λm2 H2 v p2 k2 s2 r2=>h m2 H2 v (p.trans p2) (k.trans k2) s2 r2
 |no=>exact h
theorem d0.bind{r:R α}{f:α->AH->R D}(h:d0 Γ E m H (r.bind f) Q):j0 Γ E m H r (λa bz m1 H1=>d0 Γ E m1 H1 (f a bz) Q):=by
 cases r with
 |ok d ah=>exact λm2 H2 p2 k2 s2=>d0.later h p2 k2
 |no=>exact h
theorem j0.later{r:R α}{Q:α->AH->List Addr->Hp->Prop}(h:j0 Γ E m H r Q)(p:Pre m m')(k:Keep m m' H H'):j0 Γ E m' H' r Q:=by
 cases r with
 |ok d ah=>exact λm2 H2 p2 k2 s2=>h m2 H2 (p.trans p2) (k.trans k2) s2
 |no=>exact h
theorem j0.bind{r:R α}{f:α->AH->R β}{Q:β->AH->List Addr->Hp->Prop}(h:j0 Γ E m H (r.bind f) Q):j0 Γ E m H r (λa bz m1 H1=>j0 Γ E m1 H1 (f a bz) Q):=by
 cases r with
 |ok d ah=>exact λm2 H2 p2 k2 s2=>j0.later h p2 k2
 |no=>exact h
theorem j0.val{P:D->AH->List Addr->Hp->Prop}(h:j0 Γ E m H r P)(k:∀d bz m1 H1 v,Pre m m1->Keep m m1 H H1->Sim Γ bz m1 H1->Rp m1 H1 d v->P d bz m1 H1->Q v H1):d0 Γ E m H r Q:=by
 cases r with
 |ok d ah=>exact λm2 H2 v p2 k2 s2 r2=>k d ah m2 H2 v p2 k2 s2 r2 (h m2 H2 p2 k2 s2)
 |no=>exact h
theorem d0.ok(h:d0 Γ E m H (.ok d ah) Q)(s:Sim Γ ah m H)(r:Rp m H d v):Q v H:=h m H v (Pre.refl m) (Keep.refl m H) s r
theorem d0.newc{c:Cell}{p:Addr}{o:HO}(h:d0 Γ E m H (u9 c ah) Q)(s:Sim Γ ah m H)(hp:H p=none)(ok:C8 Γ (m++[p]) (upd H p o) p c):Q (.ref p) (upd H p o):=by refine h (m++[p]) (upd H p o) (.ref p) (Pre.snoc m p) (Keep.newc hp) (s.alloc hp ok) ⟨p,rfl,?_⟩;rw[←s.len,au (aj _)];simp
theorem d0.newt{l:List D}{p:Addr}(h:d0 Γ E m H (.ok (.tup l) ah) Q)(s:Sim Γ ah m H)(hp:H p=none)(r:Rps m H l vs):Q (.ref p) (upd H p (.tup vs)):=
 h m _ (.ref p) (Pre.refl m) (Keep.new hp) (s.new hp) ⟨p,vs,rfl,b8,r.mono (Pre.refl m) (Keep.new hp)⟩
end
open PySem PySem.Spec L2
open PyProof.Rows hiding St
theorem Q1:SL=sizeLine:=by rw[fV]
theorem a2P{l:List α}{x:α}(h:l[n]? =some x):l.set n x=l:=by
 refine ext_getElem? λi=>?_
 by_cases e:i=n
 · subst e;rw[fb (ae.mp h).1,h]
 · rw[eW (ff e)]
variable{A:Around}{y:V}{op:CmpOp}{v':Value}{u':Value}{bp:List (Addr×Obj)}{bq:List (D×D)}
section
variable{X:Cx}{E:XK}
noncomputable def rOf(Γ:Gm)(E:XK)(g:AH->D->D->R D):R2:=λx y H Q=>∃d1 d2 ah m,Sim Γ ah m H/\Rp m H d1 x/\Rp m H d2 y/\d0 Γ E m H (g ah d1 d2) Q
theorem OpR.imp{f:Value->Value->Sem Value}{r r':R2}(h:OpR X f r)(i:∀x y H Q,r' x y H Q->r x y H Q):OpR X f r':=λbp s σ H x y v u Q I rx ry q=>h bp s σ H x y v u Q I rx ry (i _ _ _ _ q)
open PyProof PyProof.Rows PySem.SeqAt PySem.MeetsSeq PySem.MeetsSeq2 PySem.MeetsSeq3 in
theorem b1P{prog:Program}{w:World}{E:Value->Shared->Prop}{s:Shared}{t b:Addr}{vs ws:List Value}{Q:Value->Shared->Prop}(ht:PyProof.Rows.IsTup s.heap t vs.toArray)(hb:PyProof.Rows.IsTup s.heap b ws.toArray)(hv:vs=[])(h0:Q (.ref b) s):wpAny (model prog w) A (binaryOp .Add (.ref t) (.ref b)) Q E s:=by obtain⟨⟨cls,dd,data,sl⟩,ho,hc,n,hd⟩:=id ht;obtain⟨⟨cls2,dd2,data2,sl2⟩,ho2,hc2,n2,hd2⟩:=id hb;simp only at hc hd hc2 hd2;subst hc hd hc2 hd2;exact concat_meets ⟨_,ho,rfl⟩ ⟨_,ho2,rfl⟩ noFill_tuple_add seq_tuple_add slot_tuple_add entry_tuple_add (args_tuple_add_2 _ _) (tuple_addW0 t b vs.toArray ws.toArray n n2 dd dd2 sl sl2 (by simp[hv])) ⟨ho,ho2,h0⟩
theorem b0x:OpR X (binaryOp .Add) (λx y H Q=>∃a b xs ys,x=.ref a/\y=.ref b/\SqT X.K H a xs/\SqT X.K H b ys/\xs=[]/\Q (.ref b) H):=by intro bp s σ H x y v u Q I rx ry h;obtain⟨a,b,xs,ys,rfl,rfl,ha,hb,hx,q⟩:=h;cases rx;cases ry;obtain⟨bt,r1,p1,_⟩:=I.tuple ha;obtain⟨bI,r2,p2,_⟩:=I.tuple hb;exact b1P p1 p2 (r1.nil_iff.mpr hx) ⟨.ref b,H,I,rfl,q⟩
theorem b9M:OpR X (binaryOp .Add) (rOf Γ E W2):=by
 refine OpR.imp (b6e.or (a6S.or (b6d.or (b3n.or b0x)))) ?_;rintro x y H Q ⟨d1,d2,ah,m,s,r1,r2,q⟩;unfold W2 at q;split at q
 · cases r1;cases r2;exact .inl ⟨_,_,rfl,rfl,q.ok s rfl⟩
 · cases r1;cases r2;obtain⟨h,q⟩:=ifq q;exact .inr (.inl ⟨_,_,rfl,rfl,by rw[←Q1];exact h,q.ok s rfl⟩)
 · split at q
   · rename_i e1 e2;obtain⟨h,q⟩:=ifq q;obtain⟨a,vs,rfl,ha,h1,q1⟩:=s.lst e1 r1;obtain⟨b,ws,rfl,hb,h2,q2⟩:=s.lst e2 r2;refine .inr (.inr (.inl ⟨a,b,vs,ws,rfl,rfl,h1,h2,by rw[q1.len,q2.len,←Q1];exact h,λp hp=>q.newc s hp ⟨_,b8,?_⟩⟩));exact(q1.app q2).mono (Pre.snoc m p) (Keep.newc hp)
   · exact q.elim
 · split at q
   · rename_i xs ys h;obtain⟨a,vs,rfl,h1,q1⟩:=r1;obtain⟨b,ws,rfl,h2,q2⟩:=r2
     by_cases hx:xs=[]
     · subst hx;have:=q1.len;refine .inr (.inr (.inr (.inr ⟨a,b,vs,ws,rfl,rfl,.inl (.inl h1),.inl (.inl h2),length_eq_zero_iff.mp (by rw[this];rfl),?_⟩)));rw[nil_append] at q;exact q.ok s ⟨b,ws,rfl,h2,q2⟩
     refine .inr (.inr (.inr (.inl ⟨a,b,vs,ws,rfl,rfl,.inl (.inl h1),.inl (.inl h2),λe=>hx ?_,by rw[q1.len,q2.len,←Q1];exact h,λe=>?_,λ_ p hp=>q.newt s hp (q1.app q2)⟩)))
     · have:=q1.len;rw[e] at this;exact length_eq_zero_iff.mp this.symm
     · have:=q2.len;rw[e] at this;have z:ys=[]:=length_eq_zero_iff.mp this.symm;subst z;rw[aV] at q;exact q.ok s ⟨a,vs,rfl,h1,q1⟩
   · exact q.elim
 · exact q.elim
theorem b9F:OpR X (binaryOp .Pow) (rOf Γ E b0y):=by
 refine OpR.imp b5W ?_;rintro x y H Q ⟨d1,d2,ah,m,s,r1,r2,q⟩;unfold b0y at q;split at q
 · cases r1;cases r2;obtain⟨h,q⟩:=ifq q;exact⟨_,_,rfl,rfl,⟨h.1,by omega,by omega⟩,q.ok s rfl⟩
 · exact q.elim
theorem b9E:OpR X (binaryOp .Sub) (rOf Γ E a5S):=by
 refine OpR.imp b5V ?_;rintro x y H Q ⟨d1,d2,ah,m,s,r1,r2,q⟩;unfold a5S at q;split at q
 · cases r1;cases r2;exact⟨_,_,rfl,rfl,q.ok s rfl⟩
 · exact q.elim
theorem b9G:OpR X (binaryOp .Mult) (rOf Γ E M0):=by
 refine OpR.imp (b5Z.or b3l) ?_;rintro x y H Q ⟨d1,d2,ah,m,s,r1,r2,q⟩;unfold M0 at q;split at q
 · cases r1;cases r2;obtain⟨h,q⟩:=ifq q;rw[bf] at h;exact .inl ⟨_,_,rfl,rfl,h.imp a2L a2L,q.ok s rfl⟩
 · cases r1;cases r2;obtain⟨h,q⟩:=ifq q;exact .inr ⟨_,_,rfl,rfl,(by have:=a0c h.1;omega),(by have:=a0c h.1;omega),by rw[←Q1];exact h.2,q.ok s rfl⟩
 · exact q.elim
theorem b9K:OpR X (binaryOp .FloorDiv) (rOf Γ E v5):=by
 refine OpR.imp b3m ?_;rintro x y H Q ⟨d1,d2,ah,m,s,r1,r2,q⟩;unfold v5 at q;split at q
 · cases r1;cases r2;obtain⟨h,q⟩:=ifq q;exact⟨_,_,rfl,rfl,h,q.ok s rfl⟩
 · exact q.elim
theorem b9H:OpR X (binaryOp .Mod) (rOf Γ E u0):=by
 refine OpR.imp b6a ?_;rintro x y H Q ⟨d1,d2,ah,m,s,r1,r2,q⟩;unfold u0 at q;split at q
 · cases r1;cases r2;obtain⟨h,q⟩:=ifq q;exact⟨_,_,rfl,rfl,h,q.ok s rfl⟩
 · exact q.elim
theorem c1u{x:V}{b:Bool}(h:b=true↔x=y):b=decide (x=y):=by
 by_cases e:x=y
 · rw[aW e];exact h.mpr e
 · rw[bj e];cases b with
   |false=>rfl
   |true=>exact absurd (h.mp rfl) e
theorem b1H{d1 d2:D}{x:V}{b:Bool}(e:eqS d1 d2=some b)(r1:Rp m H d1 x)(r2:Rp m H d2 y):scal x y=true/\b=decide (x=y):=by unfold eqS at e;split at e<;>first|(cases e;done)|(split at e<;>first|(cases e;done)|(cases e;cases r1;cases r2;refine⟨rfl,c1u ⟨λh=>?_,λh=>?_⟩⟩<;>first|(rw[aw h])|(injection h with h;exact aW h)))
theorem a8f{p:Int->Int->Bool}(h:OpR X (compareOp op) (rI0 λi j=>.bl (p i j))):OpR X (compareOp op) (rOf Γ E (E3 p)):=by
 refine OpR.imp h ?_;rintro x y H Q ⟨d1,d2,ah,m,s,r1,r2,q⟩;unfold E3 at q;split at q
 · cases r1;cases r2;exact⟨_,_,rfl,rfl,q.ok s rfl⟩
 · exact q.elim
theorem L6{x:V}(r:Rp m H d x)(f:u8 d=true):a0u x=true:=by cases d<;>first|(cases r;rfl)|(simp[u8] at f)
theorem M3{m:List Addr}{H:Hp}:∀{l:List D} {vs:List V},Rps m H l vs->l.all u8=true->vs.all a0u=true
 |[],vs,h,_=>by rw[show vs=[] from h];rfl
 |d::r,vs,⟨v,t,e,q1,q2⟩,f=>by subst e;rw[all_cons,af] at f⊢;exact⟨L6 q1 f.1,M3 q2 f.2⟩
theorem b1J{e:D}{x:V}(r1:Rp m H d x)(r2:Rp m H e y)(f1:u8 d=true)(f2:u8 e=true):eqF d e=eqV x y:=by cases d<;>first|(simp[u8] at f1;done)|(cases e<;>first|(simp[u8] at f2;done)|(cases r1;cases r2;rfl))
theorem Y4{m:List Addr}{H:Hp}{d:D}{x:V}(r:Rp m H d x)(f:u8 d=true):∀{l:List D} {vs:List V},Rps m H l vs->l.all u8=true->inD d l=inV x vs
 |[],vs,h,_=>by rw[show vs=[] from h];rfl
 |e::t,vs,⟨v,u,ev,q1,q2⟩,fl=>by subst ev;rw[all_cons,af] at fl;have ih:=Y4 r f q2 fl.2;unfold inD inV at ih⊢;rw[any_cons,any_cons,b1J q1 r fl.1 f,ih]
theorem b1I(h:u8 d=true):eqF d d=true:=by cases d<;>simp_all [u8,eqF]
theorem hu1(h:n+8<cLine):n+1<cLine:=Nat.lt_of_le_of_lt (by omega) h
theorem b3Y{s:Shared}{u:V}(f:u8 d=true)(r1:Rp m H d v)(r2:Rp m H d u)(rv:i8 v v')(ru:i8 u u'):SeqAt.EqAt A s v' u' true:=by have:=b1K (A:=A) (s:=s) rv ru (L6 r1 f) (L6 r2 f);rw[←b1J r1 r2 f f,b1I f] at this;exact this
theorem Y3{s:Shared}{l r:List D}{us:List V}{bt bI:List Value}{f:D->D->Bool}(hs:(decide (l.length=r.length)&&(l.zip r).all λp=>f p.1 p.2)=true)(r1:Rps m H l vs)(r2:Rps m H r us)(ra:k8 vs bt)(rb:k8 us bI)(k:∀d e,f d e=true->∀v u v' u',Rp m H d v->Rp m H e u->i8 v v'->i8 u u'->SeqAt.EqAt A s v' u' true):
 bt.toArray.size=bI.toArray.size/\∀j (h1:j<bt.toArray.size) (h2:j<bI.toArray.size),SeqAt.EqAt A s bt.toArray[j] bI.toArray[j] true:=by
 rw[af] at hs;have e0:=aw hs.1;have e1:=ra.length;have e2:=rb.length;have e3:=r1.len;have e4:=r2.len;refine⟨by simp only[size_toArray];omega,λj h1 h2=>?_⟩;simp only[size_toArray] at h1 h2;have hj:j<l.length:=by omega
 have hj':j<r.length:=by omega
 obtain⟨v,g1,p1⟩:=r1.get (ai hj);obtain⟨u,g2,p2⟩:=r2.get (ai hj');obtain⟨v',g3,p3⟩:=ra.get g1;obtain⟨u',g4,p4⟩:=rb.get g2;have:=k l[j] r[j] (ba.mp hs.2 (l[j],r[j]) (mem_iff_getElem?.mpr ⟨j,List.getElem?_zip_eq_some.mpr ⟨ai hj,ai hj'⟩⟩)) v u v' u' p1 p2 p3 p4;rw[ai h1] at g3;rw[ai h2] at g4;cases g3;cases g4
 simpa using this
theorem b4K{s:Shared}{e:D}{u:V}(f:(decide (d=e)&&u8 d)=true)(r1:Rp m H d v)(r2:Rp m H e u)(rv:i8 v v')(ru:i8 u u'):SeqAt.EqAt A s v' u' true:=by rw[af] at f;cases aw f.1;exact b3Y f.2 r1 r2 rv ru
theorem a1k {bp:List (Addr×Obj)} {σ:St} {H:Hp} {s:Shared} (I:Inv X bp σ H s) (hK:X.K=Γ.K) {ah:AH} {m:List Addr} (S:Sim Γ ah m H):∀(n:Nat) (A:Around) (d e:D) (v u:V) (v' u':Value),same ah n d e=true->A.units+n<cLine->Rp m H d v->Rp m H e u->i8 v v'->i8 u u'->SeqAt.EqAt A s v' u' true
 |0,A,d,e,v,u,v',u',f,_,r1,r2,rv,ru=>b4K f r1 r2 rv ru
 | n + 1, A,d,e,v,u,v',u',f,hu,r1,r2,rv,ru=>by
  unfold same at f;split at f
  · split at f
    · obtain⟨a,vs,rfl,ha,rs⟩:=r1;obtain⟨b,us,rfl,hb,rt⟩:=r2;cases rv;cases ru
      by_cases hab:a=b
      · subst hab;exact SeqAt.EqAt.same _
      obtain⟨_,bt,ra,pa⟩:=I.hok a _ ha;obtain⟨_,bI,rb,pb⟩:=I.hok b _ hb;obtain⟨sz,el⟩:=Y3 (A:=A.in1) (s:=s) f rs rt ra rb λd e f v u v' u' p1 p2 p3 p4=>a1k I hK S n A.in1 d e v u v' u' f (by show A.units+1+n<cLine;omega) p1 p2 p3 p4;have:=SeqAt.RcAt.tuples (A:=A) (s:=s) (e:=λ_=>true) (show s.heap.IsTuple a bt.toArray from pa.tup) (show s.heap.IsTuple b bI.toArray from pb.tup) (by omega) el;rw[show((List.range (min bt.toArray.size bI.toArray.size)).all (λ_=>true)&&bt.toArray.size==bI.toArray.size)=true by rw[sz];simp] at this;exact SeqAt.EqAt.of_refs hab this
    · cases f
  · split at f
    · split at f
      · rename_i e1;split at f
        · rename_i e2;obtain⟨a,vs,rfl,_,s1,rs⟩:=S.rdL e1 r1;obtain⟨b,us,rfl,_,s2,rt⟩:=S.rdL e2 r2;cases rv;cases ru
          by_cases hab:a=b
          · subst hab;exact SeqAt.EqAt.same _
          obtain⟨bt,ra,pl,_⟩:=I.list (by rw[hK];exact s1);obtain⟨bI,rb,pl2,_⟩:=I.list (by rw[hK];exact s2);obtain⟨sz,el⟩:=Y3 (A:=A.in1) (s:=s) f rs rt ra rb λd e f v u v' u' p1 p2 p3 p4=>a1k I hK S n A.in1 d e v u v' u' f (by show A.units+1+n<cLine;omega) p1 p2 p3 p4;have:=SeqAt.RcAt.lists (A:=A) (s:=s) (e:=λ_=>true) pl.isList pl2.isList sz (by omega) el;rw[show(List.range bt.toArray.size).all (λ_=>true)=true by simp] at this;exact SeqAt.EqAt.of_refs hab this
        · cases f
      · cases f
    · cases f
  · exact b4K f r1 r2 rv ru
def b8B(Γ:Gm):R2:=λx y H Q=>∃i d ah m,Sim Γ ah m H/\Rp m H (.ref i) x/\Rp m H d y/\same ah 5 (.ref i) d=true/\Q (.bl false) H
theorem b4l{s:Shared}{i:Nat}{x:V}{v u:Value}(I:Inv X bp σ H s)(hK:X.K=Γ.K)(S:Sim Γ ah m H)(hu:X.A.units+8<cLine)(r1:Rp m H (.ref i) x)(r2:Rp m H d y)(rv:i8 x v)(ru:i8 y u)(f:same ah 5 (.ref i) d=true):
 ∃a b bt bI,v=.ref a/\u=.ref b/\s.heap.IsList a bt/\s.heap.IsList b bI/\bt.size=bI.size/\∀j (h1:j<bt.size) (h2:j<bI.size),SeqAt.EqAt X.A.in1 s bt[j] bI[j] true:=by
 unfold same at f;simp only at f;split at f
 · split at f
   · rename_i e1;split at f
     · rename_i e2;obtain⟨a,vs,rfl,_,s1,rs⟩:=S.rdL e1 r1;obtain⟨b,us,rfl,_,s2,rt⟩:=S.rdL e2 r2;cases rv;cases ru;obtain⟨bt,ra,pl,_⟩:=I.list (by rw[hK];exact s1);obtain⟨bI,rb,pl2,_⟩:=I.list (by rw[hK];exact s2);obtain⟨sz,el⟩:=Y3 (A:=X.A.in1) (s:=s) f rs rt ra rb λd e f v u v' u' p1 p2 p3 p4=>a1k I hK S 4 X.A.in1 d e v u v' u' f (by show X.A.units+1+4<cLine;omega) p1 p2 p3 p4;exact⟨a,b,_,_,rfl,rfl,pl.isList,pl2.isList,sz,el⟩
     · cases f
   · cases f
 · cases f
def a9X(Γ:Gm)(k:Bool):R2:=λx y H Q=>∃l d ah m,Sim Γ ah m H/\Rp m H (.tup l) x/\Rp m H d y/\same ah 5 (.tup l) d=true/\Q (.bl k) H
theorem b5X(hu:X.A.units+8<cLine)(hK:X.K=Γ.K):OpR X (compareOp .NotEq) (a9X Γ false):=by
 intro bp s σ H x y v u Q I rx ry h;obtain⟨l,d,ah,m,S,r1,r2,f,q⟩:=h;unfold same at f;simp only at f;split at f
 · obtain⟨a,vs,rfl,ha,rs⟩:=r1;obtain⟨b,us,rfl,hb,rt⟩:=r2;cases rx;cases ry;obtain⟨_,bt,ra,pa⟩:=I.hok a _ ha;obtain⟨_,bI,rb,pb⟩:=I.hok b _ hb;obtain⟨sz,el⟩:=Y3 (A:=X.A.in1) (s:=s) f rs rt ra rb λd e f v u v' u' p1 p2 p3 p4=>a1k I hK S 4 X.A.in1 d e v u v' u' f (by show X.A.units+1+4<cLine;omega) p1 p2 p3 p4;refine SeqAt.RcNeAt.tuples (e:=λ_=>true) (show s.heap.IsTuple a bt.toArray from pa.tup) (show s.heap.IsTuple b bI.toArray from pb.tup) (by omega) el X.prog X.w _ _ ⟨.bl _,H,I,rfl,?_⟩;rw[show(!((List.range (min bt.toArray.size bI.toArray.size)).all (λ_=>true)&&bt.toArray.size==bI.toArray.size))=false by rw[sz];simp];exact q
 · cases f
theorem b6c(hu:X.A.units+8<cLine)(hK:X.K=Γ.K):OpR X (compareOp .Eq) (a9X Γ true):=by
 intro bp s σ H x y v u Q I rx ry h;obtain⟨l,d,ah,m,S,r1,r2,f,q⟩:=h;unfold same at f;simp only at f;split at f
 · obtain⟨a,vs,rfl,ha,rs⟩:=r1;obtain⟨b,us,rfl,hb,rt⟩:=r2;cases rx;cases ry;obtain⟨_,bt,ra,pa⟩:=I.hok a _ ha;obtain⟨_,bI,rb,pb⟩:=I.hok b _ hb;obtain⟨sz,el⟩:=Y3 (A:=X.A.in1) (s:=s) f rs rt ra rb λd e f v u v' u' p1 p2 p3 p4=>a1k I hK S 4 X.A.in1 d e v u v' u' f (by show X.A.units+1+4<cLine;omega) p1 p2 p3 p4;refine SeqAt.RcAt.tuples (e:=λ_=>true) (show s.heap.IsTuple a bt.toArray from pa.tup) (show s.heap.IsTuple b bI.toArray from pb.tup) (by omega) el X.prog X.w _ _ ⟨.bl _,H,I,rfl,?_⟩;rw[show((List.range (min bt.toArray.size bI.toArray.size)).all (λ_=>true)&&bt.toArray.size==bI.toArray.size)=true by rw[sz];simp];exact q
 · cases f
theorem b5Y(hu:X.A.units+8<cLine)(hK:X.K=Γ.K):OpR X (compareOp .NotEq) (b8B Γ):=by intro bp s σ H x y v u Q I rx ry h;obtain⟨i,d,ah,m,S,r1,r2,f,q⟩:=h;obtain⟨a,b,bt,bI,rfl,rfl,l1,l2,sz,el⟩:=b4l I hK S hu r1 r2 rx ry f;refine SeqAt.RcNeAt.lists (e:=λ_=>true) l1 l2 sz (by omega) el X.prog X.w _ _ ⟨.bl _,H,I,rfl,?_⟩;rw[show(List.range bt.size).all (λ_=>true)=true by simp];exact q
theorem c1t(hu:X.A.units+8<cLine)(hK:X.K=Γ.K):OpR X (compareOp .Eq) (rOf Γ E D8):=by
 refine OpR.imp (b8Q.or (b6c hu hK)) ?_;rintro x y H Q ⟨d1,d2,ah,m,s,r1,r2,q⟩;unfold D8 at q;split at q
 · rename_i c e;obtain⟨h1,h2⟩:=b1H e r1 r2;exact .inl ⟨h1,by rw[←h2];exact q.ok s rfl⟩
 · split at q
   · rename_i hd;cases d1<;>first|exact .inr ⟨_,_,_,_,s,r1,r2,hd,q.ok s rfl⟩|cases hd
   · exact q.elim
theorem c1r(hu:X.A.units+8<cLine)(hK:X.K=Γ.K):OpR X (compareOp .NotEq) (rOf Γ E a1A):=by
 refine OpR.imp ((b8L.or (b5Y hu hK)).or (b5X hu hK)) ?_;rintro x y H Q ⟨d1,d2,ah,m,s,r1,r2,q⟩;unfold a1A at q;split at q
 · rename_i c e;obtain⟨h1,h2⟩:=b1H e r1 r2;exact .inl (.inl ⟨h1,by rw[←h2];exact q.ok s rfl⟩)
 · split at q
   · rename_i hd;cases d1<;>first|exact .inl (.inr ⟨_,_,_,_,s,r1,r2,hd,q.ok s rfl⟩)|cases hd
   · split at q
     · rename_i hd;cases d1<;>first|exact .inr ⟨_,_,_,_,s,r1,r2,hd,q.ok s rfl⟩|cases hd
     · exact q.elim
theorem b5u{s:Shared}{a:Addr}(I:Inv X bp σ H s)(h:H a=some (.dK [])):Inv X bp σ (upd H a (.dT [])) s:=by
 obtain⟨z,hd,vs,cb,o,es,ep,ho,hx,hdt,hes,hp,hh⟩:=I.hok a _ h;cases cb;have e0:es.toList=[]:=by cases q:es.toList with
  |nil=>rfl
  |cons x r=>rw[q] at hp;cases hp
 exact I.write (x:=a) (e:=a) (h':=s.heap) (t':=s.toks) (by rw[h];trivial) (.inl rfl) (λb u _ q=>q) ⟨o,ho⟩ ⟨z,hd,[],.nil,o,es,ep,ho,hx,hdt,e0,nodup_nil⟩
theorem a9T{s:Shared}{a:Addr}(I:Inv X bp σ H s)(h:H a=some (.dT [])):Inv X bp σ (upd H a (.dK [])) s:=by obtain⟨z,hd,xs,cb,o,es,ep,ho,hx,hdt,hes,hh⟩:=I.hok a _ h;cases cb;have e0:es= #[]:=Array.toList_inj.mp hes;subst e0;refine I.write (x:=a) (e:=a) (h':=s.heap) (t':=s.toks) (by rw[h];trivial) (.inl rfl) (λb u _ q=>q) ⟨o,ho⟩ ⟨z,hd,[],.nil,o,#[],ep,ho,hx,hdt,λe he=>?_,.nil,nodup_nil⟩;simp at he
theorem U8{k:Key}(e:D9 d=some k)(r:Rp m H d v):v=kV k:=by cases d<;>simp only[D9] at e<;>first|(cases e;done)|(cases e;cases r;rfl)
theorem a3i{m:List Addr}{H:Hp}:∀{l:List D} {vs:List V} {ks:List Key},v7 l=some ks->Rps m H l vs->vs=ks.map kV
 |[],vs,ks,e,h=>by cases e;exact h
 |d::r,vs,ks,e,⟨v,t,ev,q1,q2⟩=>by
  subst ev;unfold v7 at e;split at e
  · rename_i k ks' e1 e2;cases e;rw[map_cons,U8 e1 q1,a3i e2 q2]
  · cases e
theorem Y1{a b:D}{k:Key}(h1:D9 a=some k)(h2:D9 b=some k):a=b:=by cases a<;>simp only[D9] at h1<;>first|(cases h1;done)|(cases h1;cases b<;>simp only[D9] at h2<;>first|(cases h2;done)|(cases h2;rfl))
theorem a1C:∀{a b:List D} {k:List Key},v7 a=some k->v7 b=some k->a=b
 |[],[],_,_,_=>rfl
 |[],y::ys,k,h1,h2=>by cases h1;unfold v7 at h2;split at h2<;>cases h2
 |x::xs,[],k,h1,h2=>by cases h2;unfold v7 at h1;split at h1<;>cases h1
 |x::xs,y::ys,k,h1,h2=>by
  unfold v7 at h1 h2;split at h1
  · rename_i k1 ks1 e1 e2;cases h1;split at h2
    · rename_i k2 ks2 e3 e4;cases h2;rw[Y1 e1 e3,a1C e2 e4]
    · cases h2
  · cases h1
theorem a4X(h:F6 d=some false):∃k,D9 d=some k:=by cases d<;>simp only[F6] at h<;>first|(cases h;done)|exact⟨_,rfl⟩|(split at h<;>cases h)
theorem a3j(h:F6 d=some true):∃l ks,d=.tup l/\v7 l=some ks:=by
 cases d<;>simp only[F6] at h<;>first|(cases h;done)|skip
 rename_i l;obtain⟨e,h⟩:=ifs h;obtain⟨ks,hk⟩:=Option.isSome_iff_exists.mp e;exact⟨l,ks,rfl,hk⟩
theorem DK.val{bq:List (Key×V)}(r:DK m H l bq){k:Key}(e:D9 d=some k):
 (∀c,o7 l d=some c->∃v,T6 bq k=some v/\Rp m H c v)/\(o7 l d=none->T6 bq k=none):=by
 induction r with
 |nil=>exact⟨λc h=>(by cases h),λ_=>rfl⟩
 | @cons p q ps qs h t ih=>
  by_cases z:p.1=d
  · have z':q.1=k:=by have:=h.1;rw[z,e] at this;exact(ax this).symm
    rw[W7 z',show o7 (p::ps) d=some p.2 from by simp[o7,List.find?_cons,z]];exact⟨λc hc=>by cases hc;exact⟨q.2,rfl,h.2⟩,λhc=>by cases hc⟩
  · have z':¬q.1=k:=λy=>z (Y1 (by rw[h.1,y]) e);rw[W8 z',show o7 (p::ps) d=o7 ps d from by simp[o7,List.find?_cons,z]];exact ih
theorem DT.val{bq:List (List Key×V)}(r:DT m H l bq){d:List D}{k:List Key}(e:v7 d=some k):
 (∀c,o7 l (.tup d)=some c->∃v,T6 bq k=some v/\Rp m H c v)/\(o7 l (.tup d)=none->T6 bq k=none):=by
 induction r with
 |nil=>exact⟨λc h=>(by cases h),λ_=>rfl⟩
 | @cons p q ps qs h t ih=>
  obtain⟨⟨l',e1,e2⟩,h2⟩:=h
  by_cases z:p.1=.tup d
  · have z':q.1=k:=by rw[e1] at z;injection z with z;rw[z,e] at e2;exact(ax e2).symm
    rw[W7 z',show o7 (p::ps) (.tup d)=some p.2 from by simp[o7,List.find?_cons,z]];exact⟨λc hc=>by cases hc;exact⟨q.2,rfl,h2⟩,λhc=>by cases hc⟩
  · have z':¬q.1=k:=λy=>z (e1.trans (fh D.tup (a1C (e2.trans (fh some y)) e)));rw[W8 z',show o7 (p::ps) (.tup d)=o7 ps (.tup d) from by simp[o7,List.find?_cons,z]];exact ih
theorem DK.put {bq:List (Key×V)} (r:DK m H l bq) {c:D} {k:Key} (e:D9 d=some k) (rv:Rp m H c v):DK m H (W6 l d c) (N1 bq k v):=by
 have any:(l.any λp=>decide (p.1=d))=bq.any λp=>decide (p.1=k):=by
  induction r with
  |nil=>rfl
  | @cons p q ps qs h t ih=>
   rw[any_cons,any_cons,ih];congr 1;refine decide_eq_decide.mpr ⟨fun(z:p.1=d)=>?_,fun(z:q.1=k)=>Y1 (by rw[h.1,z]) e⟩;have:=h.1;rw[z,e] at this;exact(ax this).symm
 unfold W6 N1;rw[any];split
 · clear any
   induction r with
   |nil=>exact .nil
   | @cons p q ps qs h t ih=>
    rename_i hh;rw[map_cons,map_cons];refine .cons ?_ ?_
    · by_cases z:p.1=d
      · have z':q.1=k:=by have:=h.1;rw[z,e] at this;exact(ax this).symm
        rw[ay z,ay z'];exact⟨h.1,rv⟩
      · have z':¬q.1=k:=λy=>z (Y1 (by rw[h.1,y]) e);rw[az z,az z'];exact h
    · clear hh ih h
      induction t with
      |nil=>exact .nil
      | @cons p q ps qs h t ih=>
       rw[map_cons,map_cons];refine .cons ?_ ih
       by_cases z:p.1=d
       · have z':q.1=k:=by have:=h.1;rw[z,e] at this;exact(ax this).symm
         rw[ay z,ay z'];exact⟨h.1,rv⟩
       · have z':¬q.1=k:=λy=>z (Y1 (by rw[h.1,y]) e);rw[az z,az z'];exact h
 · exact Paired.snoc r ⟨e,rv⟩
theorem DT.put{bq:List (List Key×V)}(r:DT m H l bq){d:List D}{c:D}{k:List Key}(e:v7 d=some k)(rv:Rp m H c v):DT m H (W6 l (.tup d) c) (N1 bq k v):=by
 have one:∀{p:D×D} {q:List Key×V},(∃l,p.1=.tup l/\v7 l=some q.1)->(p.1=.tup d↔q.1=k):=by rintro p q ⟨l',e1,e2⟩;refine⟨fun(z:p.1=.tup d)=>?_,fun(z:q.1=k)=>e1.trans (fh D.tup (a1C (e2.trans (fh some z)) e))⟩;rw[e1] at z;injection z with z;rw[z,e] at e2;exact(ax e2).symm
 have any:(l.any λp=>decide (p.1=.tup d))=bq.any λp=>decide (p.1=k):=by
  induction r with
  |nil=>rfl
  | @cons p q ps qs h t ih=>
   rw[any_cons,any_cons,ih];congr 1;exact decide_eq_decide.mpr (one h.1)
 unfold W6 N1;rw[any];split
 · have go:∀{l:List (D×D)} {bq:List (List Key×V)},DT m H l bq->DT m H (l.map λp=>if p.1=.tup d then(p.1,c) else p) (bq.map λp=>if p.1=k then(p.1,v) else p):=by
    intro l bq r
    induction r with
    |nil=>exact .nil
    | @cons p q ps qs h t ih=>
     rw[map_cons,map_cons];refine .cons ?_ ih
     by_cases z:p.1=.tup d
     · rw[ay z,ay ((one h.1).mp z)];exact⟨h.1,rv⟩
     · rw[az z,az λy=>z ((one h.1).mpr y)];exact h
   exact go r
 · exact Paired.snoc r ⟨⟨d,rfl,e⟩,rv⟩
theorem a2d{k:D}(S:Sim Γ ah m H)(e:ah[n]? =some (.dict bq))(ok:z9 k bq=true){a:Addr}(hm:m[n]? =some a):
 ∃H',(∀bp σ s,Inv X bp σ H s->Inv X bp σ H' s)/\Keep m m H H'/\Sim Γ ah m H'/\((∃ks gs,D9 k=some ks/\H' a=some (.dK gs)/\DK m H' bq gs)∨∃l ks gs,k=.tup l/\v7 l=some ks/\H' a=some (.dT gs)/\DT m H' bq gs):=by
 unfold z9 at ok;rw[af] at ok;obtain⟨ok1,ok2⟩:=ok;obtain⟨b,hb⟩:=Option.isSome_iff_exists.mp ok1;rcases S.at hm e with⟨gs,h1,h2⟩|⟨gs,h1,h2⟩
 · cases b with
   |false=>
    obtain⟨ks,hk⟩:=a4X hb;exact⟨H,λ_ _ _ I=>I,Keep.refl m H,S,.inl ⟨ks,gs,hk,h1,h2⟩⟩
   | true=>
    obtain⟨l,ks,rfl,hk⟩:=a3j hb;cases h2 with
    |nil=>
     have kp:Keep m m H (upd H a (.dT [])):=Keep.put hm h1 λz=>z;have S':=S.write (o':=.dT []) (c:=.dict []) hm h1 (λz=>z) (.inr ⟨[],b8,.nil⟩);rw[show ah.set n (.dict [])=ah from a2P e] at S';exact⟨_,λ_ _ _ I=>b5u I h1,kp,S',.inr ⟨l,ks,[],rfl,hk,b8,.nil⟩⟩
    | @cons p q ps qs h t=>
     rw[all_cons,af,hb] at ok2;exfalso;have:=eq_of_beq ok2.1;obtain⟨l',ks',e1,_⟩:=a3j this;have h1:=h.1;rw[e1] at h1;cases h1
 · cases b with
   |true=>
    obtain⟨l,ks,rfl,hk⟩:=a3j hb;exact⟨H,λ_ _ _ I=>I,Keep.refl m H,S,.inr ⟨l,ks,gs,rfl,hk,h1,h2⟩⟩
   | false=>
    obtain⟨ks,hk⟩:=a4X hb;cases h2 with
    |nil=>
     have kp:Keep m m H (upd H a (.dK [])):=Keep.put hm h1 λz=>z;have S':=S.write (o':=.dK []) (c:=.dict []) hm h1 (λz=>z) (.inl ⟨[],b8,.nil⟩);rw[show ah.set n (.dict [])=ah from a2P e] at S';exact⟨_,λ_ _ _ I=>a9T I h1,kp,S',.inl ⟨ks,[],hk,b8,.nil⟩⟩
    | @cons p q ps qs h t=>
     rw[all_cons,af,hb] at ok2;exfalso;have:=eq_of_beq ok2.1;obtain⟨ks',hk'⟩:=a4X this;obtain⟨⟨l',e1,_⟩,_⟩:=h;rw[e1] at hk';cases hk'
theorem L0{s:Shared}{k:D}(I:Inv X bp σ H s)(S:Sim Γ ah m H)(e:ah[n]? =some (.dict bq))(ok:z9 k bq=true){a:Addr}(hm:m[n]? =some a):
 ∃H',Inv X bp σ H' s/\Keep m m H H'/\Sim Γ ah m H'/\((∃ks gs,D9 k=some ks/\H' a=some (.dK gs)/\DK m H' bq gs)∨∃l ks gs,k=.tup l/\v7 l=some ks/\H' a=some (.dT gs)/\DT m H' bq gs):=
 let⟨H',f,r⟩:=a2d (X:=X) S e ok hm
 ⟨H',f _ _ _ I,r⟩
end
variable{ds:List D}{h:AH}
section
variable{X:Cx}{E:XK}
theorem a3u(b:Bool):(b !=false)=b:=by cases b<;>rfl
theorem a3t(b:Bool):(b !=true)=!b:=by cases b<;>rfl
theorem DK.some_eq{bq:List (Key×V)}(r:DK m H l bq){k:Key}(e:D9 d=some k):(o7 l d).isSome=(T6 bq k).isSome:=by
 obtain⟨h1,h2⟩:=r.val e;cases q:o7 l d with
 |none=>rw[h2 q];rfl
 |some c=>obtain⟨v,hv,_⟩:=h1 c q;rw[hv];rfl
theorem DT.some_eq{bq:List (List Key×V)}(r:DT m H l bq){d:List D}{k:List Key}(e:v7 d=some k):(o7 l (.tup d)).isSome=(T6 bq k).isSome:=by
 obtain⟨h1,h2⟩:=r.val e;cases q:o7 l (.tup d) with
 |none=>rw[h2 q];rfl
 |some c=>obtain⟨v,hv,_⟩:=h1 c q;rw[hv];rfl
theorem a1j{k:D}{x:V}{a:Addr}(kp:Keep m m H H')(r:Rp m H k x)
 (h:(∃ks gs,D9 k=some ks/\H' a=some (.dK gs)/\DK m H' bq gs)∨∃l ks gs,k=.tup l/\v7 l=some ks/\H' a=some (.dT gs)/\DT m H' bq gs):
 ∃o,a7u H' a x o/\(o7 bq k).isSome=o.isSome/\∀c,o7 bq k=some c->∃v,o=some v/\Rp m H' c v:=by
 rcases h with⟨ks,gs,hk,ha,dk⟩|⟨l,ks,gs,rfl,hk,ha,dt⟩
 · obtain⟨h1,h2⟩:=dk.val hk;exact⟨T6 gs ks,.inl ⟨gs,ks,.inl ha,U8 hk r,rfl⟩,dk.some_eq hk,λc hc=>h1 c hc⟩
 · obtain⟨h1,h2⟩:=dt.val hk;obtain⟨b,vs,rfl,hb,rs⟩:=r;have hv:=a3i hk rs;subst hv;exact⟨T6 gs ks,.inr ⟨gs,ks,b,.inl ha,rfl,kp.tup hb,rfl⟩,dt.some_eq hk,λc hc=>h1 c hc⟩
theorem c1s(hu:X.A.units+8<cLine)(hK:X.K=Γ.K):OpR X (compareOp .In) (rOf Γ E (a0A false)):=by
 rintro bp s σ H x y v u Q I rx ry ⟨d1,d2,ah,m,S,r1,r2,q⟩;unfold a0A at q;split at q
 · cases r1;cases r2;rw[a3u] at q;exact a8K bp s σ H _ _ v u Q I rx ry ⟨_,_,rfl,rfl,q.ok S rfl⟩
 · obtain⟨h,q⟩:=ifq q;rw[af] at h;obtain⟨a,vs,rfl,h1,q1⟩:=r2;refine a0g bp s σ H _ _ v u Q I rx ry ⟨a,vs,rfl,.inr (.inl (.inl h1)),L6 r1 h.1,M3 q1 h.2,?_⟩;rw[a3u,Y4 r1 h.1 q1 h.2] at q;exact q.ok S rfl
 · split at q
   · rename_i xs e;obtain⟨h,q⟩:=ifq q;rw[af] at h;obtain⟨a,vs,rfl,_,h1,q1⟩:=S.lst e r2;refine a0g bp s σ H _ _ v u Q I rx ry ⟨a,vs,rfl,.inl (.inl (.inl h1)),L6 r1 h.1,M3 q1 h.2,?_⟩;rw[a3u,Y4 r1 h.1 q1 h.2] at q;exact q.ok S rfl
   · rename_i xs e;obtain⟨h,q⟩:=ifq q;rw[af] at h;obtain⟨a,vs,rfl,_,h1,q1⟩:=S.rdL (l:=xs) (by unfold rdL;rw[e]) r2;refine a0g bp s σ H _ _ v u Q I rx ry ⟨a,vs,rfl,.inl (by rw[hK];exact h1),L6 r1 h.1,M3 q1 h.2,?_⟩;rw[a3u,Y4 r1 h.1 q1 h.2] at q;exact q.ok S rfl
   · rename_i bq e;obtain⟨h,q⟩:=ifq q;obtain⟨a,rfl,hm⟩:=r2;obtain⟨H',I',kp,S',hd⟩:=L0 I S e h hm;obtain⟨o,g,h1,_⟩:=a1j kp r1 hd;cases (show u=Value.ref a from ry);refine c1v (hu1 hu) I' g rx λs' eO=>⟨.bl o.isSome,H',eO,rfl,?_⟩;rw[a3u,h1] at q;exact q m H' _ (Pre.refl m) kp S' rfl
   · exact q.elim
 · exact q.elim
theorem b4i(hu:X.A.units+8<cLine)(hK:X.K=Γ.K):OpR X (compareOp .NotIn) (rOf Γ E (a0A true)):=by
 rintro bp s σ H x y v u Q I rx ry ⟨d1,d2,ah,m,S,r1,r2,q⟩;unfold a0A at q;split at q
 · cases r1;cases r2;rw[a3t] at q;exact a4M bp s σ H _ _ v u Q I rx ry ⟨_,_,rfl,rfl,q.ok S rfl⟩
 · obtain⟨h,q⟩:=ifq q;rw[af] at h;obtain⟨a,vs,rfl,h1,q1⟩:=r2;refine O3 bp s σ H _ _ v u Q I rx ry ⟨a,vs,rfl,.inr (.inl (.inl h1)),L6 r1 h.1,M3 q1 h.2,?_⟩;rw[a3t,Y4 r1 h.1 q1 h.2] at q;exact q.ok S rfl
 · split at q
   · rename_i xs e;obtain⟨h,q⟩:=ifq q;rw[af] at h;obtain⟨a,vs,rfl,_,h1,q1⟩:=S.lst e r2;refine O3 bp s σ H _ _ v u Q I rx ry ⟨a,vs,rfl,.inl (.inl (.inl h1)),L6 r1 h.1,M3 q1 h.2,?_⟩;rw[a3t,Y4 r1 h.1 q1 h.2] at q;exact q.ok S rfl
   · rename_i xs e;obtain⟨h,q⟩:=ifq q;rw[af] at h;obtain⟨a,vs,rfl,_,h1,q1⟩:=S.rdL (l:=xs) (by unfold rdL;rw[e]) r2;refine O3 bp s σ H _ _ v u Q I rx ry ⟨a,vs,rfl,.inl (by rw[hK];exact h1),L6 r1 h.1,M3 q1 h.2,?_⟩;rw[a3t,Y4 r1 h.1 q1 h.2] at q;exact q.ok S rfl
   · rename_i bq e;obtain⟨h,q⟩:=ifq q;obtain⟨a,rfl,hm⟩:=r2;obtain⟨H',I',kp,S',hd⟩:=L0 I S e h hm;obtain⟨o,g,h1,_⟩:=a1j kp r1 hd;cases (show u=Value.ref a from ry);refine b4m (hu1 hu) I' g rx λs' eO=>⟨.bl (!o.isSome),H',eO,rfl,?_⟩;rw[a3t,h1] at q;exact q m H' _ (Pre.refl m) kp S' rfl
   · exact q.elim
 · exact q.elim
noncomputable def B.cmp:B->Option CmpOp
 |.eq=>some .Eq|.ne=>some .NotEq|.lt=>some .Lt|.le=>some .LtE|.gt=>some .Gt|.ge=>some .GtE|.isin=>some .In|.notin=>some .NotIn
 |_=>none
noncomputable def B.bin:B->Option Operator
 |.add=>some .Add|.sub=>some .Sub|.mul=>some .Mult|.div=>some .FloorDiv|.mod=>some .Mod|.pow=>some .Pow
 |_=>none
theorem b9L{o:B}{op:Operator}(h:o.bin=some op):OpR X (binaryOp op) (rOf Γ E (op2 o)):=by
 cases o<;>cases h
 · exact b9M
 · exact b9E
 · exact b9G
 · exact b9K
 · exact b9H
 · exact b9F
theorem a1L(hu:X.A.units+8<cLine)(hK:X.K=Γ.K){o:B}(h:o.cmp=some op):OpR X (compareOp op) (rOf Γ E (op2 o)):=by
 cases o<;>cases h
 · exact c1t hu hK
 · exact c1r hu hK
 · exact a8f b8M
 · exact a8f b8N
 · exact a8f b8O
 · exact a8f b8P
 · exact c1s hu hK
 · exact b4i hu hK
theorem b9I (hu:X.A.units+8<cLine) (hK:X.K=Γ.K):IxR X (rOf Γ E ixD):=by
  rintro value slice bp s σ H x y v u Q I rx ry ⟨d1,d2,ah,m,S,r1,r2,q⟩ hs;unfold ixD at q;split at q
  · split at q
    · rename_i d e;obtain⟨a,vs,rfl,h1,q1⟩:=r1;cases r2;obtain⟨w,hw,cw⟩:=q1.at e;exact ix_tup value slice bp s σ H _ _ v u Q I rx ry ⟨a,vs,_,w,rfl,rfl,.inl (.inl h1),hw,q.ok S cw⟩ hs
    · exact q.elim
  · obtain⟨hl,q⟩:=ifq q;split at q
    · rename_i c e;cases r1;cases r2;exact ix_str value slice bp s σ H _ _ v u Q I rx ry ⟨_,_,c,rfl,rfl,by rw[←Q1];exact hl,e,q.ok S rfl⟩ hs
    · exact q.elim
  · split at q
    · rename_i xs e;split at q
      · split at q
        · rename_i d e2;obtain⟨a,vs,rfl,_,h1,q1⟩:=S.lst e r1;cases r2;obtain⟨w,hw,cw⟩:=q1.at e2;exact a7P value slice bp s σ H _ _ v u Q I rx ry ⟨a,vs,_,w,rfl,rfl,.inl (.inl h1),hw,q.ok S cw⟩ hs
        · exact q.elim
      · exact q.elim
    · rename_i xs e;split at q
      · split at q
        · rename_i d e2;obtain⟨a,vs,rfl,_,h1,q1⟩:=S.rdL (l:=xs) (by unfold rdL;rw[e]) r1;cases r2;obtain⟨w,hw,cw⟩:=q1.at e2;exact a7P value slice bp s σ H _ _ v u Q I rx ry ⟨a,vs,_,w,rfl,rfl,by rw[hK];exact h1,hw,q.ok S cw⟩ hs
        · exact q.elim
      · exact q.elim
    · rename_i bq e;obtain⟨h,q⟩:=ifq q;split at q
      · rename_i d e2;obtain⟨a,rfl,hm⟩:=r1;obtain⟨H',I',kp,S',hd⟩:=L0 I S e h hm;obtain⟨o,g,h1,h2⟩:=a1j kp r2 hd;obtain⟨w,hw,cw⟩:=h2 d e2;subst hw;cases (show v=Value.ref a from rx);refine ixd_tail (a6s I' g) hs ?_;exact a9g (hu1 hu) I' g ry λw' s' eO r''=>⟨w,H',eO,r'',q m H' _ (Pre.refl m) kp S' cw⟩
      · exact q.elim
    · exact q.elim
  · exact q.elim
where
  ixd_tail {value slice:Expr} {v u:Value} {Q:Value->Shared->Prop} {s:Shared} (hT:s.TypeIs v "dict") (hs:subscripted slice false v u=operate [v,u] (getItem v u)) (h:wpAny (model X.prog X.w) X.A (getItem v u) Q X.xe s):
      wpAny (model X.prog X.w) X.A (subscriptTail value slice v u) Q X.xe s:=by
    unfold subscriptTail;refine eP ?_;rw[getitemInPython_of_ne hT.not_modules];refine eP (wpAny_specialOf hT PySem.F.slot_dict_getitem.lookup ?_);have cn:wpAny (model X.prog X.w) X.A (subscripted slice false v u) (λr eg=>wpAny (model X.prog X.w) X.A (letTemporaryGo value v r>>=λ_=>pure r) Q X.xe eg) X.xe s:=by rw[hs];exact wpAny_operating (fF h (λr eg h₃=>eP (wpAny_letTemporaryGo (eR h₃))) λ_ _ x=>x)
    first
      |exact eR (eP cn)
      |exact eP (eR (eP cn))
      |exact eP cn
theorem c1q(hK:X.K=Γ.K):SlR X (λx lo hi H Q=>∃d ah m,Sim Γ ah m H/\Rp m H d x/\d0 Γ E m H (slD ah lo hi d) Q):=by
 rintro bp s σ H x v vl vu lo hi sl Q I rx hs pl pu ⟨d,ah,m,S,r,q⟩;unfold slD at q;split at q
 · obtain⟨hl,q⟩:=ifq q;cases r;exact b5o bp s σ H _ v vl vu lo hi sl Q I rx hs pl pu ⟨_,rfl,by rw[←Q1];exact hl,q.ok S rfl⟩
 · split at q
   · exact q.elim
   · rename_i hw;obtain⟨a,vs,rfl,h1,q1⟩:=r;refine b5n bp s σ H _ v vl vu lo hi sl Q I rx hs pl pu ⟨a,vs,rfl,.inl (.inl h1),by rw[q1.len];exact hw,λp hp=>q.newt S hp (q1.cut lo hi)⟩
 · split at q
   · rename_i xs e;obtain⟨a,vs,rfl,_,h1,q1⟩:=S.rdL e r;refine b2D bp s σ H _ v vl vu lo hi sl Q I rx hs pl pu ⟨a,vs,rfl,by rw[hK];exact h1,λp hp=>q.newc S hp ⟨_,b8,(q1.cut lo hi).mono (Pre.snoc m p) (Keep.newc hp)⟩⟩
   · exact q.elim
 · exact q.elim
def rBi(Γ:Gm)(E:XK)(b:Bi):List V->Hp->VK->Prop:=λxs H Q=>∃ds ah m,Sim Γ ah m H/\Rps m H ds xs/\d0 Γ E m H (biD b ah ds) Q
theorem a5K{xs:List V}(h:Rps m H [d] xs):∃x,xs=[x]/\Rp m H d x:=by obtain⟨v,t,rfl,q,e⟩:=h;exact⟨v,by rw[show t=[] from e],q⟩
theorem b8w{e:D}{xs:List V}(h:Rps m H [d,e] xs):∃x y,xs=[x,y]/\Rp m H d x/\Rp m H e y:=by obtain⟨v,t,rfl,q,h2⟩:=h;obtain⟨y,rfl,q2⟩:=a5K h2;exact⟨v,y,rfl,q,q2⟩
theorem Z8{b:Bi}{xs:List V}(hb:b≠.max)(rs:Rps m H ds xs)(q:d0 Γ E m H (biD b ah ds) Q):∃d x,ds=[d]/\xs=[x]/\Rp m H d x/\d0 Γ E m H (bi1 b ah d) Q:=by
 cases ds with
 |nil=>exact q.elim
 | cons d l=>
  cases l with
  |nil=>
   obtain⟨x,rfl,r1⟩:=a5K rs;exact⟨d,x,rfl,rfl,r1,q⟩
  |cons e l=>
   unfold biD at q;simp only at q;rw[az λz=>hb z.1] at q;exact q.elim
theorem a0N{b:Bi}{x:V}(hb:b≠.len/\b≠.list)(S:Sim Γ ah m H)(r1:Rp m H (.ref n) x)(q:d0 Γ E m H (bi1 b ah (.ref n)) Q):∃ys a vs,x=.ref a/\SqL Γ.K H a vs/\Rps m H ys vs/\d0 Γ E m H (biL b ah ys) Q:=by
 unfold bi1 at q;simp only at q;split at q
 · rename_i ys e;obtain⟨a,vs,rfl,_,h1,q1⟩:=S.rdL (l:=ys) (by unfold rdL;rw[e]) r1;exact⟨ys,a,vs,rfl,h1,q1,q⟩
 · rename_i ys e;obtain⟨a,vs,rfl,_,h1,q1⟩:=S.rdL (l:=ys) (by unfold rdL;rw[e]) r1;exact⟨ys,a,vs,rfl,h1,q1,q⟩
 · cases b<;>first|exact q.elim|exact absurd rfl hb.1|exact absurd rfl hb.2
 · exact q.elim
theorem b9V(hK:X.K=Γ.K):E4 X (.builtin "len") (rBi Γ E .len):=by
 rintro bp s σ H xs us Q I r ⟨ds,ah,m,S,rs,q⟩;obtain⟨d,x,rfl,rfl,r1,q⟩:=Z8 (by decide) rs q;have sq:∀{a vs ys},SqL Γ.K H a vs->Rps m H ys vs->i8 (.ref a) (.ref a)->x=.ref a->d0 Γ E m H (biL .len ah ys) Q->_:=fun{a vs ys} h1 q1 _ e q=>a1o bp s σ H [x] us Q I r ⟨a,vs,by rw[e],.inl (by rw[hK];exact h1),by rw[q1.len];exact q.ok S rfl⟩;cases d with
 |non=>exact q.elim
 |bl b=>exact q.elim
 |int i=>exact q.elim
 |str y=>
  cases r1;unfold bi1 at q;simp only at q;obtain⟨hl,q⟩:=ifq q;exact a5q bp s σ H _ us Q I r ⟨_,rfl,by rw[←Q1];exact hl,q.ok S rfl⟩
 |tup l=>
  obtain⟨a,vs,rfl,h1,q1⟩:=r1;exact a1o bp s σ H _ us Q I r ⟨a,vs,rfl,.inr (.inl (.inl h1)),by rw[q1.len];exact q.ok S rfl⟩
 |ref n=>
  unfold bi1 at q;simp only at q;split at q
  · rename_i ys e;obtain⟨a,vs,rfl,_,h1,q1⟩:=S.rdL (l:=ys) (by unfold rdL;rw[e]) r1;exact sq h1 q1 rfl rfl q
  · rename_i ys e;obtain⟨a,vs,rfl,_,h1,q1⟩:=S.rdL (l:=ys) (by unfold rdL;rw[e]) r1;exact sq h1 q1 rfl rfl q
  · rename_i bq e;obtain⟨h,q⟩:=ifq q;obtain⟨a,rfl,hm⟩:=r1;obtain⟨H',I',kp,S',hd⟩:=L0 I S e h hm;rcases hd with⟨ks,gs,hk,ha,dk⟩|⟨l,ks,gs,e0,_⟩
    · obtain⟨u,rfl,ru⟩:=T4 r;cases (show u=Value.ref a from ru);refine b9Q I' (.inl ha) λt s' eO=>⟨.int gs.length,H',eO,⟨t,rfl⟩,?_⟩;rw[←Paired.length dk];exact q m H' _ (Pre.refl m) kp S' rfl
    · cases e0
  · exact q.elim
theorem b9T:E4 X (.type "str") (rBi Γ E .str):=by
 rintro bp s σ H xs us Q I r ⟨ds,ah,m,S,rs,q⟩;obtain⟨d,x,rfl,rfl,r1,q⟩:=Z8 (by decide) rs q;cases d<;>first|exact q.elim|skip
 · unfold bi1 at q;simp only at q;obtain⟨hl,q⟩:=ifq q;cases r1;exact a5p bp s σ H _ us Q I r ⟨_,rfl,hl,q.ok S rfl⟩
 · obtain⟨_,_,_,_,_,_,q⟩:=a0N (by decide) S r1 q;exact q.elim
theorem b9W:E4 X (.type "int") (rBi Γ E .int):=by
 rintro bp s σ H xs us Q I r ⟨ds,ah,m,S,rs,q⟩;obtain⟨d,x,rfl,rfl,r1,q⟩:=Z8 (by decide) rs q;cases d<;>first|exact q.elim|skip
 · cases r1;exact a4m bp s σ H _ us Q I r (.inr ⟨_,rfl,q.ok S rfl⟩)
 · cases r1;exact a4m bp s σ H _ us Q I r (.inl ⟨_,rfl,q.ok S rfl⟩)
 · unfold bi1 at q;simp only at q;obtain⟨hl,q⟩:=ifq q;split at q
   · rename_i n e;cases r1;exact a5r bp s σ H _ us Q I r ⟨_,n,rfl,hl,e,q.ok S rfl⟩
   · exact q.elim
 · obtain⟨_,_,_,_,_,_,q⟩:=a0N (by decide) S r1 q;exact q.elim
theorem b5t(r:DK m H l gs):Rps m' H' (l.map (·.1)) (gs.map λq=>kV q.1):=by
 unfold DK at r
 induction r with
 |nil=>rfl
 | @cons p q l gs h t ih=>
  refine⟨_,_,rfl,?_,ih⟩;show Rp m' H' p.1 (kV q.1);have h:=h.1;revert h;cases p.1<;>intro h<;>first|(cases h;done)|(rw[←ax h];rfl)
theorem b7r(hc:X.calm=true)(hK:X.K=Γ.K):E4 X (.type "list") (rBi Γ E .list):=by
 rintro bp s σ H xs us Q I r ⟨ds,ah,m,S,rs,q⟩;obtain⟨d,x,rfl,rfl,r1,q⟩:=Z8 (by decide) rs q;cases d<;>first|exact q.elim|skip
 · obtain⟨a,vs,rfl,h1,q1⟩:=r1;exact a1n bp s σ H _ us Q I r ⟨a,vs,rfl,.inr (.inl (.inl h1)),λp hp=>d0.newc q S hp ⟨_,b8,q1.mono (Pre.snoc m p) (Keep.newc hp)⟩⟩
 · have go:∀{n:Nat} {ys:List D},Rp m H (.ref n) x->rdL ah n=some ys->d0 Γ E m H (biL .list ah ys) Q->wpAny (model X.prog X.w) X.A (call (.type "list") us) (EP X bp σ Q) X.xe s:=λr1 e q=>by obtain⟨a,vs,rfl,_,h1,q1⟩:=S.rdL e r1;exact a1n bp s σ H _ us Q I r ⟨a,vs,rfl,.inl (by rw[hK];exact h1),λp hp=>d0.newc q S hp ⟨_,b8,q1.mono (Pre.snoc m p) (Keep.newc hp)⟩⟩
   unfold bi1 at q;simp only at q;split at q
   · rename_i ys e;exact go r1 (by unfold rdL;rw[e]) q
   · rename_i ys e;exact go r1 (by unfold rdL;rw[e]) q
   · rename_i bq e;obtain⟨hk,q⟩:=ifq q;obtain⟨a,rfl,hm⟩:=r1;obtain⟨H',I',kp,S',hh⟩:=L0 I S e hk hm;rcases hh with⟨ks,gs,_,h1,h2⟩|⟨l,ks,gs,h0,_⟩
     · exact a3q hc bp s σ H' _ us Q I' r ⟨a,gs,rfl,h1,λp hp=>(q.later (Pre.refl m) kp).newc S' hp ⟨_,b8,b5t h2⟩⟩
     · cases h0
   · exact q.elim
theorem b4r(hK:X.K=Γ.K):E4 X (.type "tuple") (rBi Γ E .tuple):=by
 rintro bp s σ H xs us Q I r ⟨ds,ah,m,S,rs,q⟩;obtain⟨d,x,rfl,rfl,r1,q⟩:=Z8 (by decide) rs q;cases d<;>first|exact q.elim|skip
 · obtain⟨a,vs,rfl,h1,q1⟩:=r1;exact a0x bp s σ H _ us Q I r ⟨a,vs,rfl,.inr ⟨.inl (.inl h1),d0.ok q S ⟨a,vs,rfl,h1,q1⟩⟩⟩
 · obtain⟨ys,a,vs,rfl,h1,q1,q⟩:=a0N (by decide) S r1 q;exact a0x bp s σ H _ us Q I r ⟨a,vs,rfl,.inl ⟨by rw[hK];exact h1,λp hp=>d0.newt q S hp q1⟩⟩
theorem b0h{m:List Addr}{H:Hp}:∀{l:List D} {bq:List (D×D)} {vs:List V},b2S l=some bq->Rps m H l vs->∃gs,PrT H vs gs/\DK m H bq gs
 |[],bq,vs,h,r=>by cases h;rw[show vs=[] from r];exact⟨[],.nil,.nil⟩
 |d::l,bq,vs,h,⟨v,t,e,q1,q2⟩=>by
  unfold b2S at h;split at h
  · rename_i e0;cases e0
  · rename_i k x r e0;cases e0;obtain⟨hk,h⟩:=ifs h;obtain⟨kvs',h1,rfl⟩:=Option.map_eq_some_iff.mp h;obtain⟨gs,g1,g2⟩:=b0h h1 q2;obtain⟨kk,hk⟩:=Option.isSome_iff_exists.mp hk;obtain⟨a,ws,rfl,ha,rs⟩:=q1;obtain⟨y,z,rfl,r1,r2⟩:=b8w rs;have:=U8 hk r1;subst this;rw[e];exact⟨(kk,z)::gs,.cons ⟨a,rfl,ha⟩ g1,.cons ⟨hk,r2⟩ g2⟩
  · cases h
theorem b1L(h:DK m H bq gs):∀{bw:List (D×D)} {ag:List (Key×V)},DK m H bw ag->DK m H (bq.foldl (λa p=>W6 a p.1 p.2) bw) (U6 ag gs):=by
 unfold DK at h
 induction h with
 |nil=>exact λr=>r
 |cons h t ih=>exact λr=>ih (DK.put r h.1 h.2)
theorem b7s(hc:X.calm=true)(hK:X.K=Γ.K):E4 X (.type "dict") (rBi Γ E .dict):=by
 rintro bp s σ H xs us Q I r ⟨ds,ah,m,S,rs,q⟩;obtain⟨d,x,rfl,rfl,r1,q⟩:=Z8 (by decide) rs q;cases d<;>first|exact q.elim|skip
 obtain⟨ys,a,vs,rfl,h1,q1,q⟩:=a0N (by decide) S r1 q;unfold biL at q;simp only at q;split at q
 · rename_i bq e2;obtain⟨gs,g1,g2⟩:=b0h e2 q1;exact a5s hc bp s σ H _ us Q I r ⟨a,vs,gs,rfl,by rw[hK];exact h1,g1,λd hd=>q.newc S hd (.inl ⟨_,b8,(b1L g2 .nil).mono (Pre.snoc m d) (Keep.newc (m:=m) hd).im⟩)⟩
 · exact q.elim
theorem b9Y(hc:X.calm=true)(hK:X.K=Γ.K):E4 X (.builtin "all") (rBi Γ E .all):=by
 rintro bp s σ H xs us Q I r ⟨ds,ah,m,S,rs,q⟩;obtain⟨d,x,rfl,rfl,r1,q⟩:=Z8 (by decide) rs q;cases d<;>first|exact q.elim|skip
 obtain⟨ys,a,vs,rfl,h1,q1,q⟩:=a0N (by decide) S r1 q;unfold biL at q;simp only at q;split at q
 · rename_i bs e2;rw[a4C e2 q1] at h1;exact b1S hc bp s σ H _ us Q I r ⟨a,bs,rfl,by rw[hK];exact h1,q.ok S rfl⟩
 · exact q.elim
theorem b9X(hc:X.calm=true)(hK:X.K=Γ.K):E4 X (.builtin "any") (rBi Γ E .any):=by
 rintro bp s σ H xs us Q I r ⟨ds,ah,m,S,rs,q⟩;obtain⟨d,x,rfl,rfl,r1,q⟩:=Z8 (by decide) rs q;cases d<;>first|exact q.elim|skip
 obtain⟨ys,a,vs,rfl,h1,q1,q⟩:=a0N (by decide) S r1 q;unfold biL at q;simp only at q;split at q
 · rename_i bs e2;rw[a4C e2 q1] at h1;exact b1R hc bp s σ H _ us Q I r ⟨a,bs,rfl,by rw[hK];exact h1,q.ok S rfl⟩
 · exact q.elim
theorem b9U(hc:X.calm=true):E4 X (.builtin "max") (rBi Γ E .max):=by
 rintro bp s σ H xs us Q I r ⟨ds,ah,m,S,rs,q⟩;cases ds with
 |nil=>exact q.elim
 | cons d l=>
  cases l with
  |nil=>
   obtain⟨x,rfl,r1⟩:=a5K rs;cases d<;>first|exact q.elim|skip
   obtain⟨_,_,_,_,_,_,q⟩:=a0N (by decide) S r1 q;exact q.elim
  |cons e l=>
   unfold biD at q;simp only at q;obtain⟨z,q⟩:=ifq q;obtain⟨-,rfl⟩:=z;obtain⟨x,y,rfl,r1,r2⟩:=b8w rs;cases d<;>first|exact q.elim|skip
   cases e<;>first|exact q.elim|skip
   cases r1;cases r2;exact a9k hc bp s σ H _ us Q I r ⟨_,_,rfl,q.ok S rfl⟩
def rMt(Γ:Gm)(E:XK)(b:Mt):V->List V->Hp->VK->Prop:=λx xs H Q=>∃d ds ah m,Sim Γ ah m H/\Rp m H d x/\Rps m H ds xs/\d0 Γ E m H (mtD b ah d ds) Q
theorem b0I:MtR X "list.append" (rMt Γ E .append):=by
 rintro bp s σ H x xs v us Q I rx r ⟨d,ds,ah,m,S,rd,rs,q⟩;unfold mtD at q;split at q<;>(try exact q.elim)
 · rename_i n e0;obtain⟨y,rfl,r1⟩:=a5K rs;split at q
   · rename_i l e;obtain⟨hl,q⟩:=ifq q;obtain⟨a,vs,rfl,hm,h1,q1⟩:=S.lst e rd;refine a3W bp s σ H _ _ v us Q I rx r ⟨a,vs,y,rfl,rfl,h1,by rw[q1.len,←Q1];exact hl,?_⟩;have kp:Keep m m H (upd H a (.lst (vs++[y]))):=Keep.put hm h1 λz=>z;exact q m _ _ (Pre.refl m) kp (S.write hm h1 (λz=>z) ⟨_,b8,(q1.snoc r1).mono (Pre.refl m) kp⟩) rfl
   · contradiction
   · exact q.elim
theorem b0H:MtR X "list.extend" (rMt Γ E .extend):=by
 rintro bp s σ H x xs v us Q I rx r ⟨d,ds,ah,m,S,rd,rs,q⟩;unfold mtD at q;split at q<;>(try exact q.elim)
 · rename_i n e0;obtain⟨y,rfl,r1⟩:=a5K rs;split at q
   · contradiction
   · rename_i l e;split at q
     · split at q
       · rename_i ys e2;obtain⟨hl,q⟩:=ifq q;obtain⟨a,vs,rfl,hm,h1,q1⟩:=S.lst e rd;obtain⟨b,ws,rfl,dY,h2,q2⟩:=S.lst e2 r1;refine a8O bp s σ H _ _ v us Q I rx r ⟨a,b,vs,ws,rfl,rfl,h1,h2,by rw[q1.len,q2.len,←Q1];exact hl,?_⟩;have kp:Keep m m H (upd H a (.lst (vs++ws))):=Keep.put hm h1 λz=>z;exact q m _ _ (Pre.refl m) kp (S.write hm h1 (λz=>z) ⟨_,b8,(q1.app q2).mono (Pre.refl m) kp⟩) rfl
       · exact q.elim
     · exact q.elim
   · exact q.elim
theorem b3w:MtR X "str.split" (rMt Γ E .split):=by
 rintro bp s σ H x xs v us Q I rx r ⟨d,ds,ah,m,S,rd,rs,q⟩;unfold mtD at q;split at q<;>(try exact q.elim)
 · simp only at q;obtain⟨h,q⟩:=ifq q;obtain⟨y,rfl,r1⟩:=a5K rs;cases rd;cases r1;refine b0D bp s σ H _ _ v us Q I rx r ⟨_,_,rfl,rfl,h.1,by rw[←Q1];exact h.2,λp hp=>q.newc S hp ⟨_,b8,Rps.strs⟩⟩
theorem b0G:MtR X "str.startswith" (rMt Γ E .starts):=by
 rintro bp s σ H x xs v us Q I rx r ⟨d,ds,ah,m,S,rd,rs,q⟩;unfold mtD at q;split at q<;>(try exact q.elim)
 · obtain⟨y,rfl,r1⟩:=a5K rs;cases rd;cases r1;exact a8N bp s σ H _ _ v us Q I rx r ⟨_,_,rfl,rfl,q.ok S rfl⟩
theorem b6m(hK:X.K=Γ.K):MtR X "str.join" (rMt Γ E .join):=by
 rintro bp s σ H x xs v us Q I rx r ⟨d,ds,ah,m,S,rd,rs,q⟩;unfold mtD at q;split at q<;>(try exact q.elim)
 · simp only at q;split at q
   · rename_i l e;split at q
     · rename_i ts e2;obtain⟨hj,q⟩:=ifq q;obtain⟨y,rfl,r1⟩:=a5K rs;obtain⟨a,vs,rfl,_,h1,q1⟩:=S.rdL e r1;rw[a5H e2 q1] at h1;cases rd;exact b3v bp s σ H _ _ v us Q I rx r ⟨_,a,ts,rfl,rfl,by rw[hK];exact h1,hj,q.ok S rfl⟩
     · exact q.elim
   · exact q.elim
theorem c0U(hu:X.A.units+8<cLine):b7O X (λo i v H Q=>∃d1 d2 d3 ah m,Sim Γ ah m H/\Rp m H d1 o/\Rp m H d2 i/\Rp m H d3 v/\j0 Γ E m H (W1 ah d1 d2 d3) (λ_ _ _ H'=>Q H')):=by
 rintro bp s σ H o i v ov iv u Q I ro ri rv ⟨d1,d2,d3,ah,m,S,r1,r2,r3,q⟩;unfold W1 at q;split at q
 · split at q
   · rename_i xs e;split at q
     · rename_i k;split at q
       · rename_i j e2;obtain⟨a,vs,rfl,hm,h1,q1⟩:=S.lst e r1;cases r2;refine a9I bp s σ H _ _ _ ov iv u Q I ro ri rv ⟨a,vs,_,j,rfl,rfl,h1,by rw[q1.len];exact e2,?_⟩;have kp:Keep m m H (upd H a (.lst (vs.set j v))):=Keep.put hm h1 λz=>z;exact q m _ (Pre.refl m) kp (S.write hm h1 (λz=>z) ⟨_,b8,(q1.set j r3).mono (Pre.refl m) kp⟩)
       · exact q.elim
     · exact q.elim
   · rename_i bq e;split at q
     · rename_i h;obtain⟨a,rfl,hm⟩:=r1;cases (show ov=Value.ref a from ro);obtain⟨H',I',kp,S',hd⟩:=L0 I S e h.1 hm;have r3':=r3.mono (Pre.refl m) kp;rcases hd with⟨ks,gs,hk,ha,dk⟩|⟨l,ks,gs,rfl,hk,ha,dt⟩
       · have kp2:Keep m m H' (upd H' a (.dK (N1 gs ks v))):=Keep.put hm ha λz=>z;refine a4g (v:=v) (H':=upd H' a (.dK (N1 gs ks v))) (hu1 hu) I' (.inl ⟨gs,ks,ha,U8 hk r2,by rw[←Paired.length dk,←Q1];exact h.2,rfl⟩) ri rv λs' eO=>⟨_,eO,?_⟩;exact q m _ (Pre.refl m) (kp.trans kp2) (S'.write hm ha (λz=>z) (.inl ⟨_,b8,(dk.put hk r3').mono (Pre.refl m) kp2.im⟩))
       · have kp2:Keep m m H' (upd H' a (.dT (N1 gs ks v))):=Keep.put hm ha λz=>z;obtain⟨b,vs,rfl,hb,rs⟩:=r2;have hv:=a3i hk rs;subst hv;refine a4g (v:=v) (H':=upd H' a (.dT (N1 gs ks v))) (hu1 hu) I' (.inr ⟨gs,ks,b,ha,rfl,kp.tup hb,by rw[←Paired.length dt,←Q1];exact h.2,rfl⟩) ri rv λs' eO=>⟨_,eO,?_⟩;exact q m _ (Pre.refl m) (kp.trans kp2) (S'.write hm ha (λz=>z) (.inr ⟨_,b8,(dt.put hk r3').mono (Pre.refl m) kp2.im⟩))
     · exact q.elim
   · exact q.elim
 · exact q.elim
theorem Fl.put{f:Str}(r:Rp m H d v){fs:List (Str×D)}{gs:List (Str×V)}(h:Fl m H fs gs):Fl m H (a3T f d fs) (U4 f v gs):=by
 induction h with
 |nil=>exact .cons ⟨rfl,r⟩ .nil
 | @cons p q ps qs h t ih=>
  obtain⟨n,x⟩:=p;obtain⟨n',x'⟩:=q;have e:n=n':=h.1;subst e;unfold a3T U4;split
  · exact .cons ⟨rfl,r⟩ t
  · exact .cons h ih
theorem Fl.look{f:Str}{fs:List (Str×D)}{gs:List (Str×V)}(h:Fl m H fs gs)(e:fs.lookup f=some d):∃v,gs.lookup f=some v/\Rp m H d v:=by
 induction h with
 |nil=>cases e
 | @cons p q ps qs h t ih=>
  obtain⟨n,x⟩:=p;obtain⟨n',x'⟩:=q;have e1:n=n':=h.1;subst e1;rw[lookup_cons] at e⊢;cases z:f==n with
  |true=>rw[z] at e;cases e;exact⟨x',rfl,h.2⟩
  |false=>rw[z] at e;exact ih e
end
set_option genInjectivity false
mutual
inductive Pat where
  |nm (i:Nat)|tp (ps:Pats)
inductive Pats where
  |nil|cons (p:Pat) (r:Pats)
end
mutual
inductive E where
  |v (i:Nat)|k (d:D)|bin (o:B) (a b:E)|isN (a:E)|notN (a:E)|neg (a:E)|nt (a:E)|an (a b:E)|orr (a b:E)|chn (o p:B) (a b c:E)
  |ix (a b:E)|sl (a:E) (lo hi:O)|fld (a:E) (f:Str)|lst (es:Es)|tup (es:Es)|dnew|call (f:Nat) (es:Es)|mk (c:Nat) (es:Es)|bi (b:Bi) (es:Es)|mt (b:Mt) (o:E) (es:Es)
  |ins (k:Nat) (a:E)|comp (p:Pat) (it:I) (n:Nat) (fr:List Nat) (t:T) (e:E)|compI (p:Pat) (a:E) (n:Nat) (fr:List Nat) (t:T) (e:E)|gin (neg:Bool) (a:E) (ds:List D)|gdin (neg:Bool) (a:E) (bq:List (D×D))|gdix (a:E) (bq:List (D×D))|dlit (bq:List (D×D))|dget (a k x:E)|ife (t:T) (a b:E)|clr (a:E)|lsi (a:E)|inc (k:Nat) (a:E)
inductive Es where
  |nil|cons (e:E) (r:Es)
inductive T where
  |yes|val (e:E)|cmp (o:B) (a b:E)|isN (a:E)|notN (a:E)|chn (o p:B) (a b c:E)|an (a b:T)|orr (a b:T)|nt (a:T)
inductive O where
  |no|at(e:E)
inductive I where
  |seq (e:E)|rng1 (a:E)|enum (e:E)|zip (a b:E)
end
mutual
inductive S where
  |set (i:Nat) (e:E)|ex (e:E)|ret (e:E)|iff (t:T) (a b:Ss)|for (p:Pat) (it:I) (b:Ss)|whl (t:T) (b:Ss)|pat (p:Pat) (e:E)|bad|six (a i v:E)|sfl (a:E) (f:Str) (v:E)
inductive Ss where
  |nil|cons (s:S) (r:Ss)
end
set_option genInjectivity true
abbrev Es.o(a:E):Es:=.cons a .nil
abbrev Ss.o(a:S):Ss:=.cons a .nil
abbrev E.i(n:Int):E:=.k (.int n)
abbrev E.s(x:Str):E:=.k (.str x)
inductive Out where
 |nx (env:l0)|rt (d:D)
abbrev CF:=Nat->List D->AH->R D
structure CT where
 init:Nat->Nat
mutual
def w6:Pat->D->l0->Option l0
  |.nm i,d,env=>some (env.set i (some d))
  | .tp ps,d,env=>match d with
    |.tup ds=>N9 ps ds env
    |_=>none
def N9:Pats->List D->l0->Option l0
  | .nil,ds,env=>match ds with
    |[]=>some env
    |_::_=>none
  | .cons p r,ds,env=>match ds with
    |[]=>none
    | d::t=>match w6 p d env with
      |some bv=>N9 r t bv
      |none=>none
end
def gOk(g:List (Nat×Cell))(h:AH):Bool:=g.all λp=>decide (h[p.1]? =some p.2)
def asB(r:R D):R Bool:=r.bind λd h=>match d with
 |.bl b=>.ok b h
 |_=>.no
noncomputable def G9(g:List (Nat×Cell))(p:Pat)(body:l0->AH->R Out):List D->l0->AH->R Out
 |[],env,h=>if gOk g h=true then .ok (.nx env) h else .no
 | x::r,env,h=>if gOk g h=true then(match w6 p x env with
  |none=>.no
  |some bv=>(body bv h).bind λo h'=>match o with
   |.nx env''=>G9 g p body r env'' h'
   |.rt d=>.ok (.rt d) h') else .no
noncomputable def B0(g:List (Nat×Cell))(p:Pat)(t:l0->AH->R Bool)(ca:l0->AH->R D)(env0:l0):List D->List D->AH->R (List D)
 |[],bw,h=>if gOk g h=true then .ok bw h else .no
 | x::r,bw,h=>if gOk g h=true then(match w6 p x env0 with
  |none=>.no
  |some env=>(t env h).bind λb h1=>if b=true then((ca env h1).bind λd h2=>if bw.length<SL then B0 g p t ca env0 r (bw++[d]) h2 else .no)
   else B0 g p t ca env0 r bw h1) else .no
def b4W:Nat:=1000000
noncomputable def a9o(t:l0->AH->R Bool)(body:l0->AH->R Out):Nat->l0->AH->R Out
 |0,_,_=>.no
 |n+1,env,h=>(t env h).bind λb h1=>if b=true then((body env h1).bind λo h'=>match o with
  |.nx env''=>a9o t body n env'' h'
  |.rt d=>.ok (.rt d) h') else .ok (.nx env) h1
def z8:Nat->List D->List D
 |_,[]=>[]
 |n,x::r=>.tup [.int n,x]::z8 (n+1) r
def V8(x:Str):List D:=x.cps.toList.map λc=>.str ⟨#[c]⟩
def a9S(lo:Int)(n:Nat):List D:=(List.range n).map λi=>.int (lo+(i:Nat))
abbrev Its:=List D×List (Nat×Cell)
def W5(h:AH):D->R Its
 |.str x=>.ok (V8 x,[]) h
 |.tup l=>.ok (l,[]) h
 |.ref n=>match h[n]? with
  |some (.lst l)=>.ok (l,[(n,.lst l)]) h
  |some (.rol l)=>.ok (l,[(n,.rol l)]) h
  |_=>.no
 |_=>.no
def a9R(h:AH):D->D->R Its
 |.int i,.int j=>if a2K i=true/\a2K j=true then .ok (a9S i (j-i).toNat,[]) h else .no
 |_,_=>.no
def a1i(h:AH):D->R Its
 |.ref n=>match h[n]? with
  |some (.lst l)=>.ok (z8 0 l,[(n,.lst l)]) h
  |some (.rol l)=>.ok (z8 0 l,[(n,.rol l)]) h
  |_=>.no
 |_=>.no
noncomputable def a3Y(h:AH)(n:Nat):Option (List D×Cell):=match h[n]? with
 |some (.lst l)=>some (l,.lst l)
 |some (.rol l)=>some (l,.rol l)
 |_=>none
def O1:List D->List D->List D
 |x::xs,y::ys=>.tup [x,y]::O1 xs ys
 |_,_=>[]
def b2i(h:AH):D->D->R Its
 |.ref i,.ref j=>match a3Y h i,a3Y h j with
  |some a,some b=>.ok (O1 a.1 b.1,[(i,a.2),(j,b.2)]) h
  |_,_=>.no
 |_,_=>.no
def a8o(h:AH)(x y:D):R Its:=match x with
 |.tup l=>(match y with
  |.tup l'=>.ok (O1 l l',[]) h
  |_=>.no)
 |x=>b2i h x y
def J9(l:List (D×D)):List D:=l.map λp=>.tup [p.1,p.2]
noncomputable def a0v(h:AH):D->Option (Nat×List (D×D))
 |.ref n=>match h[n]? with
  |some (.dict l)=>some (n,l)
  |_=>none
 |_=>none
noncomputable def a9z(h:AH)(x:D):Option Nat:=match x with
 |.bl _=>some 0
 |.int _=>some 1
 |.tup _=>some 3
 |.str _=>some 4
 |.ref n=>(match h[n]? with
  |some (.lst _)=>some 2
  |some (.dict _)=>some 5
  |_=>none)
 |.non=>none
def a0n(h:AH)(k:Nat)(x:D):Option Bool:=(a9z h x).map λt=>decide (t=k)||(decide (t=0)&&decide (k=1))
noncomputable def b1a(h:AH)(k:Nat)(x:D):R D:=match x with
 |.ref n=>(match h[n]? with
  |some (.obj c _)=>if c=k then .ok (.bl true) h else .no
  |_=>.no)
 |_=>.no
def b3x(h:AH)(x:D):R D:=match a0v h x with
 |some (_,l)=>u9 (.lst (J9 l)) h
 |none=>.no
def b1O(h:AH)(x:D):R D:=match a0v h x with
 |some (n,l)=>if z9 (.int 0) l=true then .ok .non (h.set n (.dict [])) else .no
 |none=>.no
def t8(n:Nat)(fr:List Nat)(env:l0):l0:=List.replicate n none++fr.map λj=>(env[j]?).join
def a7U(r:R D):R (Option Int):=r.bind λd h=>match d with
 |.int i=>.ok (some i) h
 |_=>.no
section
variable(ct:CT)(c:CF)
mutual
def ev:E->l0->AH->R D
  | .v i,env,h=>match env[i]? with
    |some (some d)=>.ok d h
    |_=>.no
  |.k d,_,h=>.ok d h
  |.bin o a b,env,h=>(ev a env h).bind λx h1=>(ev b env h1).bind λy h2=>op2 o h2 x y
  |.isN a,env,h=>(ev a env h).bind λx h1=>.ok (.bl (decide (x=.non))) h1
  |.notN a,env,h=>(ev a env h).bind λx h1=>.ok (.bl (!decide (x=.non))) h1
  | .neg a,env,h=>(ev a env h).bind λx h1=>match x with
    |.int i=>.ok (.int (-i)) h1
    |_=>.no
  |.nt a,env,h=>(asB (ev a env h)).bind λb h1=>.ok (.bl (!b)) h1
  |.an a b,env,h=>(asB (ev a env h)).bind λx h1=>if x=true then ev b env h1 else .ok (.bl false) h1
  |.orr a b,env,h=>(asB (ev a env h)).bind λx h1=>if x=true then .ok (.bl true) h1 else ev b env h1
  |.chn o p a b e,env,h=>(ev a env h).bind λx h1=>(ev b env h1).bind λy h2=>(asB (op2 o h2 x y)).bind λk h3=>if k=true then(ev e env h3).bind λz h4=>op2 p h4 y z else .ok (.bl false) h3
  |.ix a b,env,h=>(ev a env h).bind λx h1=>(ev b env h1).bind λy h2=>ixD h2 x y
  |.sl a lo hi,env,h=>(ev a env h).bind λx h1=>(evo lo env h1).bind λl h2=>(evo hi env h2).bind λu h3=>slD h3 l u x
  |.fld a f,env,h=>(ev a env h).bind λx h1=>S9 h1 f x
  |.lst es,env,h=>(evs es env h).bind λds h1=>if ds.length<=SL then u9 (.lst ds) h1 else .no
  |.tup es,env,h=>(evs es env h).bind λds h1=>if ds.length<=SL then .ok (.tup ds) h1 else .no
  |.dnew,_,h=>u9 (.dict []) h
  |.call f es,env,h=>(evs es env h).bind λds h1=>c f ds h1
  | .mk k es,env,h=>(evs es env h).bind λds h1=>(c (ct.init k) (.ref h1.length::ds) (h1++[.obj k []])).bind λr h2=>match r with
    |.non=>.ok (.ref h1.length) h2
    |_=>.no
  |.bi b es,env,h=>(evs es env h).bind λds h1=>biD b h1 ds
  |.mt b o es,env,h=>(ev o env h).bind λx h1=>if mtT b h1 x=true then(evs es env h1).bind λds h2=>mtD b h2 x ds else .no
  | .ins k a,env,h=>(ev a env h).bind λx h1=>match a0n h1 k x with
    |some b=>.ok (.bl b) h1
    |none=>.no
  |.comp p it n fr t e,env,h=>(evi it env h).bind λx h1=>(B0 x.2 p (tst t) (ev e) (t8 n fr env) x.1 [] h1).bind λds h2=>u9 (.lst ds) h2
  | .compI p a n fr t e,env,h=>(ev a env h).bind λx h1=>match a0v h1 x with
    |some (k,l)=>(B0 [(k,.rod l)] p (tst t) (ev e) (t8 n fr env) (J9 l) [] (h1.set k (.rod l))).bind λds h2=>u9 (.lst ds) (h2.set k (.dict l))
    |none=>.no
  |.gin neg a ds,env,h=>(ev a env h).bind λx h1=>if u8 x=true/\ds.all u8=true then .ok (.bl (inD x ds !=neg)) h1 else .no
  |.gdin neg a bq,env,h=>(ev a env h).bind λx h1=>if(D9 x).isSome=true then .ok (.bl ((o7 bq x).isSome !=neg)) h1 else .no
  | .gdix a bq,env,h=>(ev a env h).bind λx h1=>if(D9 x).isSome=true then(match o7 bq x with
    |some d=>.ok d h1
    |none=>.no) else .no
  |.dlit bq,_,h=>u9 (.dict bq) h
  |.dget a k x,env,h=>(ev a env h).bind λo h1=>if b8X h1 o=true then(ev k env h1).bind λy h2=>(ev x env h2).bind λz h3=>b4Q h3 o y z else .no
  |.ife t a b,env,h=>(tst t env h).bind λx h1=>if x=true then ev a env h1 else ev b env h1
  |.clr a,env,h=>(ev a env h).bind λx h1=>b1O h1 x
  |.lsi a,env,h=>(ev a env h).bind λx h1=>b3x h1 x
  |.inc k a,env,h=>(ev a env h).bind λx h1=>b1a h1 k x
def evs:Es->l0->AH->R (List D)
  |.nil,_,h=>.ok [] h
  |.cons e r,env,h=>(ev e env h).bind λd h1=>(evs r env h1).bind λds h2=>.ok (d::ds) h2
def tst:T->l0->AH->R Bool
  |.yes,_,h=>.ok true h
  |.val e,env,h=>asB (ev e env h)
  |.cmp o a b,env,h=>asB ((ev a env h).bind λx h1=>(ev b env h1).bind λy h2=>op2 o h2 x y)
  |.isN a,env,h=>(ev a env h).bind λx h1=>.ok (decide (x=.non)) h1
  |.notN a,env,h=>(ev a env h).bind λx h1=>.ok (!decide (x=.non)) h1
  |.chn o p a b e,env,h=>asB ((ev a env h).bind λx h1=>(ev b env h1).bind λy h2=>(asB (op2 o h2 x y)).bind λk h3=>if k=true then(ev e env h3).bind λz h4=>op2 p h4 y z else .ok (.bl false) h3)
  |.an a b,env,h=>(tst a env h).bind λx h1=>if x=true then tst b env h1 else .ok false h1
  |.orr a b,env,h=>(tst a env h).bind λx h1=>if x=true then .ok true h1 else tst b env h1
  |.nt a,env,h=>(tst a env h).bind λx h1=>.ok (!x) h1
def evo:O->l0->AH->R (Option Int)
  |.no,_,h=>.ok none h
  |.at e,env,h=>a7U (ev e env h)
def evi:I->l0->AH->R Its
  |.seq e,env,h=>(ev e env h).bind λd h1=>W5 h1 d
  |.rng1 a,env,h=>(ev a env h).bind λd h1=>a9R h1 (.int 0) d
  |.enum e,env,h=>(ev e env h).bind λd h1=>a1i h1 d
  |.zip a b,env,h=>(ev a env h).bind λx h1=>(ev b env h1).bind λy h2=>a8o h2 x y
end
mutual
def ex:S->l0->AH->R Out
  |.set i e,env,h=>(ev ct c e env h).bind λd h1=>.ok (.nx (env.set i (some d))) h1
  |.ex e,env,h=>(ev ct c e env h).bind λ_ h1=>.ok (.nx env) h1
  |.ret e,env,h=>(ev ct c e env h).bind λd h1=>.ok (.rt d) h1
  |.iff t a b,env,h=>(tst ct c t env h).bind λx h1=>if x=true then exs a env h1 else exs b env h1
  |.for p it b,env,h=>(evi ct c it env h).bind λx h1=>G9 x.2 p (exs b) x.1 env h1
  |.whl t b,env,h=>a9o (tst ct c t) (exs b) b4W env h
  | .pat p e,env,h=>(ev ct c e env h).bind λd h1=>match w6 p d env with
    |some bv=>.ok (.nx bv) h1
    |none=>.no
  |.bad,_,_=>.no
  |.six a i v,env,h=>(ev ct c v env h).bind λx h1=>(ev ct c a env h1).bind λo h2=>(ev ct c i env h2).bind λk h3=>(W1 h3 o k x).bind λ_ h4=>.ok (.nx env) h4
  |.sfl a f v,env,h=>(ev ct c v env h).bind λx h1=>(ev ct c a env h1).bind λo h2=>(a4B h2 o f x).bind λ_ h3=>.ok (.nx env) h3
def exs:Ss->l0->AH->R Out
  |.nil,env,h=>.ok (.nx env) h
  | .cons s r,env,h=>(ex s env h).bind λo h1=>match o with
    |.nx bv=>exs r bv h1
    |.rt d=>.ok (.rt d) h1
end
end
structure Fn where
 np:Nat
 ns:Nat
 gc:Nat
 body:Ss
def Cell.flat:Cell->Bool
 |.lst l=>D.flats l
 |.dict l=>l.all λp=>p.1.flat&&p.2.flat
 |_=>false
noncomputable def gcR (n:Nat) (h:AH):R D->R D
 | .ok d h'=>if n=0 then .ok d h' else if n=1 then(if h'.take h.length=h/\d.flat=true then .ok d h else .no)
  else(match d with
   |.ref k=>(match h'[k]? with
    |some c=>if h'.take h.length=h/\h.length<=k/\c.flat=true then .ok (.ref h.length) (h++[c]) else .no
    |none=>.no)
   |_=>.no)
 |.no=>.no
def b4(ct:CT)(F:Nat->Option Fn):Nat->CF
 |0=>λ_ _ _=>.no
 | k+1=>λf ds h=>match F f with
  |none=>.no
  |some fd=>if ds.length=fd.np then gcR fd.gc h (match exs ct (b4 ct F k) fd.body (ds.map some++List.replicate (fd.ns-fd.np) none) h with
   |.ok (.nx _) h'=>.ok .non h'
   |.ok (.rt d) h'=>.ok d h'
   |.no=>.no) else .no
structure GT where
 fn:List (Str×Nat×Nat)
 scal:List (Str×D)
 tups:List (Str×List D)
 dicts:List (Str×List (D×D))
 obj:List (Str×Nat)
 atts:List Str
 blt:List Str
noncomputable def b9Z:Operator->Option B
 |.Add=>some .add|.Sub=>some .sub|.Mult=>some .mul|.FloorDiv=>some .div|.Mod=>some .mod|.Pow=>some .pow
 |_=>none
noncomputable def a7m:CmpOp->Option B
 |.Eq=>some .eq|.NotEq=>some .ne|.Lt=>some .lt|.LtE=>some .le|.Gt=>some .gt|.GtE=>some .ge|.In=>some .isin|.NotIn=>some .notin
 |_=>none
noncomputable def b0X(sc:Scope)(x:Str):Bool:=match sc.names.lookup x with
 |some .local=>true|some .cell=>true|some .free=>true
 |_=>false
noncomputable def K1(sc:Scope)(x:Str):Bool:=decide (sc.names.lookup x=some .globalImplicit)&&decide (x≠"__debug__")&&decide (x≠"__name__")
def slot(N:List Str)(sc:Scope)(x:Str):Option Nat:=if b0X sc x&&decide (x≠"__debug__")&&decide (x≠"__classdict__") then N.idxOf? x else none
noncomputable def b0Y(bJ:Bool)(sc:Scope)(x:Str):Bool:=match sc.names.lookup x with
 |some .local=>true|some .cell=>bJ
 |_=>false
def a2N(bJ:Bool)(N:List Str)(sc:Scope)(x:Str):Option Nat:=if b0Y bJ sc x then N.idxOf? x else none
noncomputable def b7v(x:Str):Option Bi:=if x="len" then some .len else if x="str" then some .str else if x="int" then some .int else if x="tuple" then some .tuple else if x="list" then some .list
 else if x="all" then some .all else if x="any" then some .any else if x="max" then some .max else if x="dict" then some .dict else none
noncomputable def b6l(x:Str):Option Mt:=if x="append" then some .append else if x="extend" then some .extend else if x="split" then some .split else if x="join" then some .join else if x="startswith" then some .starts else none
def t9:Expr->Bool
 |.Starred _ _=>false
 |_=>true
def J7:Expr->Bool
 |.Call (.Name _ _) [] [] _=>false
 |_=>true
def a2x:Expr->Bool
 |.Slice .. =>false
 |_=>true
def a1a:Expr->Bool
 |.Set .. =>false
 |_=>true
noncomputable def a7G(sc scope:Scope):Scope:={scope with names:=scope.names.map fun(n,k)=>if(k==NameKind.free&&sc.kind==.function&&sc.names.lookup n==some .cell) then(n,NameKind.cell) else(n,k)}
noncomputable def b5G:Expr->Bool
 |.Name .. =>true|.Call .. =>true|.Subscript .. =>true|.Attribute .. =>true
 |_=>false
mutual
def a7p (bJ:Bool) (N:List Str) (sc:Scope):Nat->Expr->Option Pat
  |0,_=>none
  | n+1,e=>match e with
    |.Name x _=>(a2N bJ N sc x).map .nm
    |.Tuple es _ _=>(a3s bJ N sc n es).map .tp
    |_=>none
def a3s (bJ:Bool) (N:List Str) (sc:Scope):Nat->List Expr->Option Pats
  |0,_=>none
  | n +1,es=>match es with
    |[]=>some .nil
    | e::r=>match a7p bJ N sc n e,a3s bJ N sc n r with
      |some p,some ps=>some (.cons p ps)
      |_,_=>none
end
mutual
def E6:Pat->List Nat
  |.nm i=>[i]
  |.tp ps=>a0f ps
def a0f:Pats->List Nat
  |.nil=>[]
  |.cons p r=>E6 p++a0f r
end
mutual
def o4:Nat->Expr->List Str
  |0,_=>[]
  | n+1,e=>match e with
    |.Name x _=>[x]
    |.Tuple es _ _=>a3U n es
    |_=>[]
def a3U:Nat->List Expr->List Str
  |0,_=>[]
  | n+1,es=>match es with
    |[]=>[]
    |e::r=>o4 n e++a3U n r
end
def C1(scope:Scope):List Str:=(scope.names.filter λy=>decide (y.2=.free)).map (·.1)
noncomputable def b3I(N:List Str):List Str->Option (List Nat)
 |[]=>some []
 |x::r=>match N.idxOf? x,b3I N r with
  |some i,some is=>some (i::is)
  |_,_=>none
structure Rec where
 E:List Str->Scope->Expr->Option E
 Es:List Str->Scope->List Expr->Option Es
 T:List Str->Scope->Expr->Option T
 O:List Str->Scope->Option Expr->Option O
 I:List Str->Scope->Expr->Expr->Option I
def b6I:Expr->Bool
 |.Constant k _ _=>(match k with
  |.none=>true
  |_=>false)
 |_=>false
def a6T:CmpOp->Option Bool
 |.Is=>some true
 |.IsNot=>some false
 |_=>none
noncomputable def b8m:Expr->Option (Option Expr×Option Expr)
 |.Slice lo hi st _=>(match st with
  |none=>some (lo,hi)
  |some _=>none)
 |_=>none
noncomputable def b8s:Const->Option E
 |.int i=>some (.k (.int i))
 |.str x=>some (.k (.str x))
 |.bool b=>some (.k (.bl b))
 |.none=>some (.k .non)
 |_=>none
noncomputable def sUn(G:GT)(r:Rec)(N:List Str)(sc:Scope)(a:Expr):UnaryOp->Option E
 |.USub=>(r.E N sc a).map .neg
 |.Not=>(r.E N sc a).map .nt
 |_=>none
noncomputable def sBo (G : GT) (r:Rec) (N:List Str) (sc:Scope) (p:Pos) (op:BoolOp):List Expr->Option E
 |[]=>none
 | a :: t => match t with
   |[]=>r.E N sc a
   | b::l=>match op with
     |.And=>(match r.E N sc a,r.E N sc (.BoolOp .And (b::l) p) with
             |some x,some y=>some (.an x y)
             |_,_=>none)
     |.Or=>(match r.E N sc a,r.E N sc (.BoolOp .Or (b::l) p) with
             |some x,some y=>some (.orr x y)
             |_,_=>none)
def b8u (G:GT) (r:Rec) (N:List Str) (sc:Scope) (a:Expr) (op:CmpOp) (b:Expr):Option E:=
 if b6I b&&(a6T op).isSome then(match a6T op with
  |some true=>(r.E N sc a).map .isN
  |_=>(r.E N sc a).map .notN) else
 if a1a b then(match a7m op,r.E N sc a,r.E N sc b with
  |some o,some x,some y=>some (.bin o x y)
  | some o,some x,none=>(match b with
   |.Name y _=>if K1 sc y then(match op,G.tups.lookup y with
    |.In,some ds=>some (.gin false x ds)
    |.NotIn,some ds=>some (.gin true x ds)
    |.In,none=>(G.dicts.lookup y).map (.gdin false x)
    |.NotIn,none=>(G.dicts.lookup y).map (.gdin true x)
    |_,_=>none) else none
   |_=>none)
  |_,_,_=>none) else none
def b8t(G:GT)(r:Rec)(N:List Str)(sc:Scope)(a:Expr)(op op':CmpOp)(b d:Expr):Option E:=if a1a d then(match a7m op,a7m op',r.E N sc a,r.E N sc b,r.E N sc d with
 |some o,some p,some x,some y,some z=>some (.chn o p x y z)
 |_,_,_,_,_=>none) else none
def sSl (G:GT) (r:Rec) (N:List Str) (sc:Scope) (a b:Expr):Option E:=match b8m b with
 | some (lo,hi)=>(match r.E N sc a,r.O N sc lo,r.O N sc hi with
         |some x,some l,some u=>some (.sl x l u)
         |_,_,_=>none)
 |none=>if a2x b then(match r.E N sc a,r.E N sc b with
     |some x,some y=>some (.ix x y)
     | none,some y=>(match a with
       |.Name z _=>if K1 sc z then(G.dicts.lookup z).map (.gdix y) else none
       |_=>none)
     |_,_=>none) else none
def b7n:Expr->Option Str
 |.Constant k _ _=>(match k with
  |.str x=>some x
  |_=>none)
 |_=>none
def b7o:Expr->Option Int
 |.Constant k _ _=>(match k with
  |.int i=>some i
  |_=>none)
 |_=>none
noncomputable def a9f:List (Option Expr)->List Expr->Option (List (D×D))
 |[],vs=>if vs.isEmpty then some [] else none
 | k::ks,vs=>(match vs with
  |[]=>none
  |v::r=>(match k.bind b7n,b7o v,a9f ks r with
   |some x,some i,some l=>some ((.str x,.int i)::l)
   |_,_,_=>none))
def a4P:List D->Bool
 |[]=>true
 |d::r=>!(r.any λe=>decide (e=d))&&a4P r
def b7k(bq:List (D×D)):Bool:=decide (bq.length<=15)&&a4P (bq.map (·.1))
noncomputable def b2m:List Expr->Option (Expr×Expr)
 |[]=>none
 |a::r=>(match r with
  |[]=>none
  |b::q=>if q.isEmpty then some (a,b) else none)
def b6f:List Expr->Option Expr
 |[]=>none
 |a::r=>if r.isEmpty then some a else none
def b6g:Expr->Option Str
 |.Name x _=>some x
 |_=>none
noncomputable def b3F(x:Str):Option Nat:=if x="bool" then some 0 else if x="int" then some 1 else if x="list" then some 2 else if x="tuple" then some 3 else if x="str" then some 4 else if x="dict" then some 5 else none
noncomputable def b6H(as:List Expr):Option (Expr×Pos×Pos):=match b6f as with
 |some (.Call (.Attribute o m ap) [] [] cp)=>if decide (m="items")&&J7 o&&(ap.endLine==cp.line) then some (o,ap,cp) else none
 |_=>none
def sIs (G:GT) (r:Rec) (N:List Str) (sc:Scope) (as:List Expr):Option E:=match b2m as with
 | some (a,b)=>(match b6g b with
  | some y=>if t9 a&&K1 sc y then(if G.blt.contains y then(match b3F y with
   |some k=>(r.E N sc a).map (.ins k)
   |none=>none)
   else match G.obj.lookup y with
    |some k=>(r.E N sc a).map (.inc k)
    |none=>none) else none
  |none=>none)
 |none=>none
def sCn (G:GT) (r:Rec) (N:List Str) (sc:Scope) (x:Str) (as:List Expr):Option E:=if K1 sc x then(match G.fn.lookup x with
 |some (f,np)=>if as.length=np&&decide (as≠[]) then(r.Es N sc as).map (.call f) else none
 | none=>match G.obj.lookup x with
  |some k=>if as=[] then some (.mk k .nil) else none
  | none=>if G.blt.contains x then(if x="isinstance" then sIs G r N sc as
   else match(if x="list" then b6H as else none) with
    |some (o,_,_)=>(r.E N sc o).map .lsi
    |none=>match b7v x with
     |some b=>if as≠[] then(r.Es N sc as).map (.bi b) else none
     |none=>none) else none) else none
def b8r(G:GT)(r:Rec)(N:List Str)(sc:Scope)(o:Expr)(as:List Expr):Option E:=match b2m as with
 |some (a,b)=>if t9 a&&t9 b then(match r.E N sc o,r.E N sc a,r.E N sc b with
  |some x,some y,some z=>some (.dget x y z)
  |_,_,_=>none) else none
 |none=>none
def sCa(G:GT)(r:Rec)(N:List Str)(sc:Scope)(o:Expr)(m:Str)(bH:Pos)(as:List Expr)(bF:Pos):Option E:=if J7 o&&(bH.endLine==bF.line)&&decide (m="get") then b8r G r N sc o as else if J7 o&&(bH.endLine==bF.line)&&decide (m="clear")&&as.isEmpty then(r.E N sc o).map .clr else if J7 o&&(bH.endLine==bF.line)&&decide (as.length<20)&&decide (as≠[]) then(match b6l m,r.E N sc o,r.Es N sc as with
 |some b,some x,some xs=>some (.mt b x xs)
 |_,_,_=>none) else none
def b5q (r:Rec) (N:List Str) (sc:Scope) (ca tg iter:Expr) (ifs:List Expr) (scope:Scope):Option (List Nat×Pat×T×E):=match b3I N (C1 scope) with
       | some js=>if b7p sc scope (o4 8 tg) (C1 scope)&&a1a iter then(match a7p false (o4 8 tg++C1 scope) (a7G sc scope) 8 tg,r.E (o4 8 tg++C1 scope) (a7G sc scope) ca with
         | some p,some x=>if(E6 p).all (λi=>decide (i<(o4 8 tg).length)) then(match ifs with
           |[]=>some (js,p,.yes,x)
           |[t]=>(r.T (o4 8 tg++C1 scope) (a7G sc scope) t).map λz=>(js,p,z,x)
           |_=>none) else none
         |_,_=>none) else none
       |none=>none
noncomputable def a5a(tg iter:Expr):Option Expr:=match iter with
 |.Call (.Attribute o m ap) [] [] cp=>if decide (m="items")&&J7 o&&(ap.endLine==cp.line) then(match tg with
  |.Tuple _ _ _=>some o
  |_=>none) else none
 |_=>none
def sLc(G:GT)(r:Rec)(N:List Str)(sc:Scope)(ca tg iter:Expr)(ifs:List Expr)(scope:Scope):Option E:=match b5q r N sc ca tg iter ifs scope with
 |some q=>(match a5a tg iter with
  |some o=>(r.E N sc o).map λx=>.compI q.2.1 x (o4 8 tg).length q.1 q.2.2.1 q.2.2.2
  |none=>(r.I N sc tg iter).map λit=>.comp q.2.1 it (o4 8 tg).length q.1 q.2.2.1 q.2.2.2)
 |none=>none
def sE2(G:GT)(r:Rec)(N:List Str)(sc:Scope)(e:Expr):Option E:=match e with
 |.Subscript a b _=>sSl G r N sc a b
 |.IfExp t a b _=>(match r.T N sc t,r.E N sc a,r.E N sc b with
  |some z,some x,some y=>some (.ife z x y)
  |_,_,_=>none)
 |.Attribute a f _=>if J7 a&&G.atts.contains f then(r.E N sc a).map (.fld · f) else none
 |.List es _=>(r.Es N sc es).map .lst
 |.Tuple es _ _=>(r.Es N sc es).map .tup
 | .Dict ks vs _=>(match ks with
  |[]=>(match vs with
   |[]=>some .dnew
   |_::_=>none)
  |_::_=>(a9f ks vs).bind λbq=>if b7k bq then some (.dlit bq) else none)
 |.Call f as ks bF=>if ks.isEmpty then(match f with
  |.Name x _=>sCn G r N sc x as
  |.Attribute o m bH=>sCa G r N sc o m bH as bF
  |_=>none) else none
 |.ListComp ca gens scope _=>(match gens with
  |[]=>none
  |g::t=>if t.isEmpty&&decide (g.is_async=0) then sLc G r N sc ca g.target g.iter g.ifs scope else none)
 |_=>none
def sE (G:GT) (r:Rec) (N:List Str) (sc:Scope) (e:Expr):Option E:=match e with
 |.Constant k _ _=>b8s k
 |.Name x _=>match slot N sc x with
  |some i=>some (.v i)
  |none=>if K1 sc x then(G.scal.lookup x).map .k else none
 |.BinOp a op b _=>match b9Z op,r.E N sc a,r.E N sc b with
  |some o,some x,some y=>some (.bin o x y)
  |_,_,_=>none
 |.UnaryOp op a _=>sUn G r N sc a op
 |.BoolOp op l p=>sBo G r N sc p op l
 | .Compare a ops bs _=>(match ops with
  |[]=>none
  | op::t=>(match bs with
   |[]=>none
   | b::u=>(match t with
    |[]=>(match u with
     |[]=>b8u G r N sc a op b
     |_::_=>none)
    |op'::t'=>(match u with
     |[]=>none
     |d::u'=>if t'.isEmpty&&u'.isEmpty then b8t G r N sc a op op' b d else none))))
 |e=>sE2 G r N sc e
noncomputable def sEs(G:GT)(r:Rec)(N:List Str)(sc:Scope)(es:List Expr):Option Es:=match es with
 |[]=>some .nil
 |e::l=>if t9 e then(match r.E N sc e,r.Es N sc l with
  |some x,some xs=>some (.cons x xs)
  |_,_=>none) else none
def sTd(G:GT)(r:Rec)(N:List Str)(sc:Scope)(e:Expr):Option T:=if b5G e then(r.E N sc e).map .val else none
def b8p (G:GT) (r:Rec) (N:List Str) (sc:Scope) (a:Expr) (op:CmpOp) (b:Expr):Option T:=
 if b6I b&&(a6T op).isSome then(match a6T op with
  |some true=>(r.E N sc a).map .isN
  |_=>(r.E N sc a).map .notN) else
 if a1a b then(match a7m op,r.E N sc a,r.E N sc b with
  |some o,some x,some y=>some (.cmp o x y)
  | some o,some x,none=>(match b with
   |.Name y _=>if K1 sc y then(match op,G.tups.lookup y with
    |.In,some ds=>some (.val (.gin false x ds))
    |.NotIn,some ds=>some (.val (.gin true x ds))
    |.In,none=>(G.dicts.lookup y).map λbq=>.val (.gdin false x bq)
    |.NotIn,none=>(G.dicts.lookup y).map λbq=>.val (.gdin true x bq)
    |_,_=>none) else none
   |_=>none)
  |_,_,_=>none) else none
def b8o(G:GT)(r:Rec)(N:List Str)(sc:Scope)(a:Expr)(op op':CmpOp)(b d:Expr):Option T:=if a1a d then(match a7m op,a7m op',r.E N sc a,r.E N sc b,r.E N sc d with
 |some o,some p,some x,some y,some z=>some (.chn o p x y z)
 |_,_,_,_,_=>none) else none
def sT (G:GT) (r:Rec) (N:List Str) (sc:Scope) (e:Expr):Option T:=match e with
 |.UnaryOp op a p=>(match op with
  |.Not=>(r.T N sc a).map .nt
  |op=>sTd G r N sc (.UnaryOp op a p))
 | .BoolOp op l p=>(match l with
  |[]=>sTd G r N sc (.BoolOp op [] p)
  | a::t=>(match t with
   |[]=>r.T N sc a
   | b::l=>(match op with
    |.And=>(match r.T N sc a,r.T N sc (.BoolOp .And (b::l) p) with
     |some x,some y=>some (.an x y)
     |_,_=>none)
    |.Or=>(match r.T N sc a,r.T N sc (.BoolOp .Or (b::l) p) with
     |some x,some y=>some (.orr x y)
     |_,_=>none))))
 | .Compare a ops bs p=>(match ops with
  |[]=>none
  | op::t=>(match bs with
   |[]=>none
   | b::u=>(match t with
    |[]=>(match u with
     |[]=>b8p G r N sc a op b
     |_::_=>none)
    |op'::t'=>(match u with
     |[]=>none
     |d::u'=>if t'.isEmpty&&u'.isEmpty then b8o G r N sc a op op' b d else none))))
 |e=>sTd G r N sc e
noncomputable def sO(G:GT)(r:Rec)(N:List Str)(sc:Scope)(o:Option Expr):Option O:=match o with
 |none=>some .no
 |some e=>(r.E N sc e).map .at
def sI (G:GT) (r:Rec) (N:List Str) (sc:Scope) (tg e:Expr):Option I:=match e with
 | .Call (.Name x p) as [] q=>if K1 sc x&&G.blt.contains x&&decide (x="range") then(match as with
  |[a]=>if t9 a then(r.E N sc a).map .rng1 else none
  |_=>none)
  else if K1 sc x&&G.blt.contains x&&decide (x="enumerate") then(match as,tg with
   |[a],.Tuple _ _ _=>if t9 a then(r.E N sc a).map .enum else none
   |_,_=>none)
  else if K1 sc x&&G.blt.contains x&&decide (x="zip") then(match as,tg with
   |[a,b],.Tuple _ _ _=>if t9 a&&t9 b then(match r.E N sc a,r.E N sc b with
    |some u,some v=>some (.zip u v)
    |_,_=>none) else none
   |_,_=>none)
  else(r.E N sc (.Call (.Name x p) as [] q)).map .seq
 |e=>(r.E N sc e).map .seq
def cR(G:GT):Nat->Rec
 |0=>⟨λ_ _ _=>none,λ_ _ _=>none,λ_ _ _=>none,λ_ _ _=>none,λ_ _ _ _=>none⟩
 |n+1=>⟨sE G (cR G n),sEs G (cR G n),sT G (cR G n),sO G (cR G n),sI G (cR G n)⟩
abbrev cE(G:GT)(N:List Str)(sc:Scope)(n:Nat)(e:Expr):Option E:=(cR G n).E N sc e
abbrev cEs(G:GT)(N:List Str)(sc:Scope)(n:Nat)(es:List Expr):Option Es:=(cR G n).Es N sc es
abbrev cT(G:GT)(N:List Str)(sc:Scope)(n:Nat)(e:Expr):Option T:=(cR G n).T N sc e
abbrev cO(G:GT)(N:List Str)(sc:Scope)(n:Nat)(o:Option Expr):Option O:=(cR G n).O N sc o
abbrev cI(G:GT)(N:List Str)(sc:Scope)(n:Nat)(tg e:Expr):Option I:=(cR G n).I N sc tg e
noncomputable def R8(e:Expr):Bool:=match e with
 |.ListComp .. =>false|.SetComp .. =>false|.DictComp .. =>false
 |_=>true
def b8W(e:Expr):Bool:=match e with
 |.ListComp .. =>true
 |_=>false
def b4J:Expr->Bool
 |.Subscript .. =>true
 |.Call .. =>true
 |_=>false
def sAs (G:GT) (N:List Str) (sc:Scope) (e:Expr):Expr->Option S
 | .Name x _=>(match a2N true N sc x,cE G N sc 40 e with
         |some i,some y=>if R8 e||b8W e then some (.set i y) else none
         |_,_=>none)
 |.Subscript a i _=>(match cE G N sc 40 a,cE G N sc 40 i,cE G N sc 40 e with
         |some x,some k,some y=>if R8 e&&a2x i then some (.six x k y) else none
         |_,_,_=>none)
 |.Attribute a f _=>(match cE G N sc 40 a,cE G N sc 40 e with
         |some x,some y=>if R8 e&&G.atts.contains f then some (.sfl x f y) else none
         |_,_=>none)
 |.Tuple es k q=>(match a7p true N sc 8 (.Tuple es k q),cE G N sc 40 e with
         |some p,some y=>if b4J e then some (.pat p y) else none
         |_,_=>none)
 |_=>none
def sS(G:GT)(N:List Str)(sc:Scope)(r:List Stmt->Option Ss)(s:Stmt):Option S:=match s with
 |.Assign tgs e _=>(match tgs with
  |[]=>none
  |t::u=>if u.isEmpty then sAs G N sc e t else none)
 |.Expr e _=>if R8 e then(cE G N sc 40 e).map .ex else none
 |.Return o _=>(match o with
  |some e=>(cE G N sc 40 e).map .ret
  |none=>none)
 |.If t a b _=>match cT G N sc 40 t,r a,r b with
  |some z,some x,some y=>some (.iff z x y)
  |_,_,_=>none
 |.For tg it b els _=>if els.isEmpty then(match a7p true N sc 8 tg,cI G N sc 40 tg it,r b with
  |some p,some i,some y=>if a1a it then some (.for p i y) else none
  |_,_,_=>none) else none
 |.While t b els _=>if els.isEmpty then(match cT G N sc 40 t,r b with
  |some z,some y=>some (.whl z y)
  |_,_=>none) else none
 |.Raise _ _ _=>some .bad
 |_=>none
def sSs(G:GT)(N:List Str)(sc:Scope)(r:List Stmt->Option Ss):List Stmt->Option Ss
 |[]=>some .nil
 |s::l=>match sS G N sc r s,sSs G N sc r l with
  |some x,some y=>some (.cons x y)
  |_,_=>none
def cSs(G:GT)(N:List Str)(sc:Scope):Nat->List Stmt->Option Ss
 |0=>λ_=>none
 |n+1=>sSs G N sc (cSs G N sc n)
variable{a:E}{e:E}{f:Nat}{p:Pat}{neg:Bool}{it:I}
section
variable{ct:CT}{c:CF}
theorem b9x{i:Nat}:ev ct c (.v i) env h=(match env[i]? with
 |some (some d)=>.ok d h
 |_=>.no):=rfl
theorem c1p:ev ct c (.k d) env h=.ok d h:=rfl
theorem b1F{o:B}{b:E}:ev ct c (.bin o a b) env h=(ev ct c a env h).bind λx h1=>(ev ct c b env h1).bind λy h2=>op2 o h2 x y:=rfl
theorem b7a:ev ct c (.isN a) env h=(ev ct c a env h).bind λx h1=>.ok (.bl (decide (x=.non))) h1:=rfl
theorem b4a:ev ct c (.notN a) env h=(ev ct c a env h).bind λx h1=>.ok (.bl (!decide (x=.non))) h1:=rfl
theorem b6Y:ev ct c (.neg a) env h=(ev ct c a env h).bind λx h1=>match x with
 |.int i=>.ok (.int (-i)) h1
 |_=>.no:=rfl
theorem b9z:ev ct c (.nt a) env h=(asB (ev ct c a env h)).bind λb h1=>.ok (.bl (!b)) h1:=rfl
theorem b9D{b:E}:ev ct c (.an a b) env h=(asB (ev ct c a env h)).bind λx h1=>if x=true then ev ct c b env h1 else .ok (.bl false) h1:=rfl
theorem b6X{b:E}:ev ct c (.orr a b) env h=(asB (ev ct c a env h)).bind λx h1=>if x=true then .ok (.bl true) h1 else ev ct c b env h1:=rfl
theorem b7h{o p:B}{b:E}:ev ct c (.chn o p a b e) env h=(ev ct c a env h).bind λx h1=>(ev ct c b env h1).bind λy h2=>(asB (op2 o h2 x y)).bind λk h3=>if k=true then(ev ct c e env h3).bind λz h4=>op2 p h4 y z else .ok (.bl false) h3:=rfl
theorem b9B{b:E}:ev ct c (.ix a b) env h=(ev ct c a env h).bind λx h1=>(ev ct c b env h1).bind λy h2=>ixD h2 x y:=rfl
theorem b9y{lo hi:O}:ev ct c (.sl a lo hi) env h=(ev ct c a env h).bind λx h1=>(evo ct c lo env h1).bind λl h2=>(evo ct c hi env h2).bind λu h3=>slD h3 l u x:=rfl
theorem b7f{f:Str}:ev ct c (.fld a f) env h=(ev ct c a env h).bind λx h1=>S9 h1 f x:=rfl
theorem b1E{es:Es}:ev ct c (.lst es) env h=(evs ct c es env h).bind λds h1=>if ds.length<=SL then u9 (.lst ds) h1 else .no:=rfl
theorem b6W{es:Es}:ev ct c (.tup es) env h=(evs ct c es env h).bind λds h1=>if ds.length<=SL then .ok (.tup ds) h1 else .no:=rfl
theorem b4d:ev ct c .dnew env h=u9 (.dict []) h:=rfl
theorem b4f{es:Es}:ev ct c (.call f es) env h=(evs ct c es env h).bind λds h1=>c f ds h1:=rfl
theorem b4M{k:Nat}{es:Es}:ev ct c (.mk k es) env h=(evs ct c es env h).bind λds h1=>(c (ct.init k) (.ref h1.length::ds) (h1++[.obj k []])).bind λr h2=>match r with
 |.non=>.ok (.ref h1.length) h2
 |_=>.no:=rfl
theorem b9C{b:Bi}{es:Es}:ev ct c (.bi b es) env h=(evs ct c es env h).bind λds h1=>biD b h1 ds:=rfl
theorem b9A{b:Mt}{o:E}{es:Es}:ev ct c (.mt b o es) env h=(ev ct c o env h).bind λx h1=>if mtT b h1 x=true then(evs ct c es env h1).bind λds h2=>mtD b h2 x ds else .no:=rfl
theorem b7b{k:Nat}:ev ct c (.ins k a) env h=(ev ct c a env h).bind λx h1=>match a0n h1 k x with
 |some b=>.ok (.bl b) h1
 |none=>.no:=rfl
theorem b7e:ev ct c (.gin neg a ds) env h=(ev ct c a env h).bind λx h1=>if u8 x=true/\ds.all u8=true then .ok (.bl (inD x ds !=neg)) h1 else .no:=rfl
theorem b4c:ev ct c (.gdin neg a bq) env h=(ev ct c a env h).bind λx h1=>if(D9 x).isSome=true then .ok (.bl ((o7 bq x).isSome !=neg)) h1 else .no:=rfl
theorem b4b:ev ct c (.gdix a bq) env h=(ev ct c a env h).bind λx h1=>if(D9 x).isSome=true then(match o7 bq x with
 |some d=>.ok d h1
 |none=>.no) else .no:=rfl
theorem b4e:ev ct c (.dlit bq) env h=u9 (.dict bq) h:=rfl
theorem b7d{t:T}{b:E}:ev ct c (.ife t a b) env h=(tst ct c t env h).bind λx h1=>if x=true then ev ct c a env h1 else ev ct c b env h1:=rfl
theorem b7g:ev ct c (.clr a) env h=(ev ct c a env h).bind λx h1=>b1O h1 x:=rfl
theorem b6Z:ev ct c (.lsi a) env h=(ev ct c a env h).bind λx h1=>b3x h1 x:=rfl
theorem b7c{k:Nat}:ev ct c (.inc k a) env h=(ev ct c a env h).bind λx h1=>b1a h1 k x:=rfl
theorem a8c:evs ct c .nil env h=.ok [] h:=rfl
theorem a6n{r:Es}:evs ct c (.cons e r) env h=(ev ct c e env h).bind λd h1=>(evs ct c r env h1).bind λds h2=>.ok (d::ds) h2:=rfl
theorem a0R:tst ct c .yes env h=.ok true h:=rfl
theorem b2p:tst ct c (.val e) env h=asB (ev ct c e env h):=rfl
theorem b2s{o:B}{b:E}:tst ct c (.cmp o a b) env h=asB ((ev ct c a env h).bind λx h1=>(ev ct c b env h1).bind λy h2=>op2 o h2 x y):=rfl
theorem b2r:tst ct c (.isN a) env h=(ev ct c a env h).bind λx h1=>.ok (decide (x=.non)) h1:=rfl
theorem a9s:tst ct c (.notN a) env h=(ev ct c a env h).bind λx h1=>.ok (!decide (x=.non)) h1:=rfl
theorem b2t{o p:B}{b:E}:tst ct c (.chn o p a b e) env h=asB ((ev ct c a env h).bind λx h1=>(ev ct c b env h1).bind λy h2=>(asB (op2 o h2 x y)).bind λk h3=>if k=true then(ev ct c e env h3).bind λz h4=>op2 p h4 y z else .ok (.bl false) h3):=rfl
theorem b5b{a b:T}:tst ct c (.an a b) env h=(tst ct c a env h).bind λx h1=>if x=true then tst ct c b env h1 else .ok false h1:=rfl
theorem b2q{a b:T}:tst ct c (.orr a b) env h=(tst ct c a env h).bind λx h1=>if x=true then .ok true h1 else tst ct c b env h1:=rfl
theorem b5a{a:T}:tst ct c (.nt a) env h=(tst ct c a env h).bind λx h1=>.ok (!x) h1:=rfl
theorem b6V:evo ct c .no env h=.ok none h:=rfl
theorem b1B:evo ct c (.at e) env h=a7U (ev ct c e env h):=rfl
theorem a2z:evi ct c (.seq e) env h=(ev ct c e env h).bind λd h1=>W5 h1 d:=rfl
theorem a6p:evi ct c (.rng1 a) env h=(ev ct c a env h).bind λd h1=>a9R h1 (.int 0) d:=rfl
theorem b1D:evi ct c (.enum e) env h=(ev ct c e env h).bind λd h1=>a1i h1 d:=rfl
theorem b3Z{b:E}:evi ct c (.zip a b) env h=(ev ct c a env h).bind λx h1=>(ev ct c b env h1).bind λy h2=>a8o h2 x y:=rfl
theorem a1J{i:Nat}:ex ct c (.set i e) env h=(ev ct c e env h).bind λd h1=>.ok (.nx (env.set i (some d))) h1:=rfl
theorem b9w:ex ct c (.ex e) env h=(ev ct c e env h).bind λ_ h1=>.ok (.nx env) h1:=rfl
theorem a1K:ex ct c (.ret e) env h=(ev ct c e env h).bind λd h1=>.ok (.rt d) h1:=rfl
theorem b6U{t:T}{a b:Ss}:ex ct c (.iff t a b) env h=(tst ct c t env h).bind λx h1=>if x=true then exs ct c a env h1 else exs ct c b env h1:=rfl
theorem b1A{b:Ss}:ex ct c (.for p it b) env h=(evi ct c it env h).bind λx h1=>G9 x.2 p (exs ct c b) x.1 env h1:=rfl
theorem b6S{i v:E}:ex ct c (.six a i v) env h=(ev ct c v env h).bind λx h1=>(ev ct c a env h1).bind λo h2=>(ev ct c i env h2).bind λk h3=>(W1 h3 o k x).bind λ_ h4=>.ok (.nx env) h4:=rfl
theorem b6T{v:E}{f:Str}:ex ct c (.sfl a f v) env h=(ev ct c v env h).bind λx h1=>(ev ct c a env h1).bind λo h2=>(a4B h2 o f x).bind λ_ h3=>.ok (.nx env) h3:=rfl
theorem a5k:exs ct c .nil env h=.ok (.nx env) h:=rfl
theorem K6{s:S}{r:Ss}:exs ct c (.cons s r) env h=(ex ct c s env h).bind λo h1=>match o with
 |.nx bv=>exs ct c r bv h1
 |.rt d=>.ok (.rt d) h1:=rfl
end
def TEv(Γ:Gm)(E:XK)(f:l0->AH->R D):TE:=λσ H Q=>∃env ah m,Rel Γ env ah σ H m/\d0 Γ E m H (f env ah) Q
noncomputable def TAv(Γ:Gm)(E:XK)(f:l0->AH->R (List D)):TA:=λσ H Q=>∃env ah m,Rel Γ env ah σ H m/\j0 Γ E m H (f env ah) (λds _ m1 H1=>∀vs,Rps m1 H1 ds vs->Q vs H1)
noncomputable def TTv(Γ:Gm)(E:XK)(f:l0->AH->R Bool):TT:=λσ H Q=>∃env ah m,Rel Γ env ah σ H m/\j0 Γ E m H (f env ah) (λb _ _ H1=>Q b H1)
noncomputable def TOv(Γ:Gm)(E:XK)(f:l0->AH->R (Option Int)):TO:=λσ H Q=>∃env ah m,Rel Γ env ah σ H m/\j0 Γ E m H (f env ah) (λb _ _ H1=>Q b H1)
variable{t':TE}{es:List Expr}{st:Stmt}{bz:AH}{Q':VK}{x:Str}
section
variable{X:Cx}{E:XK}{e a b d:Expr}{pos:Pos}
theorem PE.imp{t:TE}(h:PE X e t)(i:∀σ H Q,t' σ H Q->t σ H Q):PE X e t':=λbp s σ H Q I q=>h bp s σ H Q I (i _ _ _ q)
theorem PT.imp{t t':TT}(h:PT X e t)(i:∀σ H Q,t' σ H Q->t σ H Q):PT X e t':=λbp s σ H Q I q=>h bp s σ H Q I (i _ _ _ q)
theorem PW.imp{t t':TT}(h:PW X e t)(i:∀σ H Q,t' σ H Q->t σ H Q):PW X e t':=λw bp s σ H Q I q=>h w bp s σ H Q I (i _ _ _ q)
theorem PA.imp{t t':TA}(h:PA X es t)(i:∀σ H Q,t' σ H Q->t σ H Q):PA X es t':=λp bp s σ H Q I q=>h p bp s σ H Q I (i _ _ _ q)
theorem PO.imp{e:Option Expr}{t t':TO}(h:PO X e t)(i:∀σ H Q,t' σ H Q->t σ H Q):PO X e t':=λbp s σ H Q I q=>h bp s σ H Q I (i _ _ _ q)
theorem PS.imp{t t':TS}(h:PS X st t)(i:∀D σ H,t' D σ H->t D σ H):PS X st t':=λbp s σ H D I q=>h bp s σ H D I (i _ _ _ q)
theorem PSs.imp{st:List Stmt}{t t':TS}(h:PSs X st t)(i:∀D σ H,t' D σ H->t D σ H):PSs X st t':=λbp s σ H D I q=>h bp s σ H D I (i _ _ _ q)
theorem Rel.on(r:Rel Γ env ah σ H m)(p:Pre m m1)(k:Keep m m1 H H1)(s:Sim Γ bz m1 H1):Rel Γ env bz σ H1 m1:=⟨s,r.env.mono p k⟩
theorem d0.first{f:D->AH->R D}(rl:Rel Γ env ah σ H m)(h:d0 Γ E m H (r.bind f) Q)
 (k:∀d bz m1 H1 v,Pre m m1->Keep m m1 H H1->Rel Γ env bz σ H1 m1->Rp m1 H1 d v->d0 Γ E m1 H1 (f d bz) Q->Q' v H1):d0 Γ E m H r Q':=
 h.bind.val λd bz m1 H1 v p kp s r q=>k d bz m1 H1 v p kp (rl.on p kp s) r q
theorem j0.first{f:D->AH->R β}{P:β->AH->List Addr->Hp->Prop}(rl:Rel Γ env ah σ H m)(h:j0 Γ E m H (r.bind f) P)
 (k:∀d bz m1 H1 v,Pre m m1->Keep m m1 H H1->Rel Γ env bz σ H1 m1->Rp m1 H1 d v->j0 Γ E m1 H1 (f d bz) P->Q' v H1):d0 Γ E m H r Q':=
 h.bind.val λd bz m1 H1 v p kp s r q=>k d bz m1 H1 v p kp (rl.on p kp s) r q
theorem j0.mp{r:R α}{P P':α->AH->List Addr->Hp->Prop}(h:j0 Γ E m H r P)(k:∀a bz m1 H1,Pre m m1->Keep m m1 H H1->Sim Γ bz m1 H1->P a bz m1 H1->P' a bz m1 H1):j0 Γ E m H r P':=by
 cases r with
 |ok d ah=>exact λm2 H2 p2 k2 s2=>k d ah m2 H2 p2 k2 s2 (h m2 H2 p2 k2 s2)
 |no=>exact h
theorem d0.mp(h:d0 Γ E m H r Q)(k:∀v H',Q v H'->Q' v H'):d0 Γ E m H r Q':=by
 cases r with
 |ok d ah=>exact λm2 H2 v p2 k2 s2 r2=>k v H2 (h m2 H2 v p2 k2 s2 r2)
 |no=>exact h
theorem j0.ok{a:α}{P:α->AH->List Addr->Hp->Prop}(h:j0 Γ E m H (.ok a ah) P)(s:Sim Γ ah m H):P a ah m H:=h m H (Pre.refl m) (Keep.refl m H) s
theorem j0.bool{P:Bool->AH->List Addr->Hp->Prop}(h:j0 Γ E m H (asB r) P):d0 Γ E m H r (λx H1=>∃k,x=.bl k/\∃bz m1,Pre m m1/\Keep m m1 H H1/\Sim Γ bz m1 H1/\P k bz m1 H1):=by
 unfold asB at h;refine h.bind.val λd bz m1 H1 v p kp s r q=>?_;cases d<;>first|exact q.elim|skip
 rename_i k;exact⟨k,r,bz,m1,p,kp,s,q.ok s⟩
theorem a_v{i:Nat}(hN:X.N[i]? =some x)(hv:Vis X.env.scope x)(hd:(x==("__debug__":Str))=false)(eE:(x==("__classdict__":Str))=false)(c:CF)(ct:CT):PE X (.Name x pos) (TEv Γ E (ev ct c (.v i))):=by
 refine PE.imp (b5M hN hv hd eE) ?_;rintro σ H Q ⟨env,ah,m,rl,q⟩;rw[b9x] at q;split at q
 · rename_i d e;obtain⟨v,h1,h2⟩:=rl.env.val i d e;exact⟨v,h1,q.ok rl.sim h2⟩
 · exact q.elim
theorem a_k{dd:D}(h:PE X e (tC v))(hr:∀m H,Rp m H dd v)(c:CF)(ct:CT):PE X e (TEv Γ E (ev ct c (.k dd))):=by refine PE.imp h ?_;rintro σ H Q ⟨env,ah,m,rl,q⟩;exact q.ok rl.sim (hr m H)
end
variable{op':CmpOp}{p2:Pos}
section
variable{X:Cx}{Ex:XK}{e a b d:Expr}{pos:Pos}{ct:CT}{c:CF}{x y z:E}
theorem two{r:R2}{g:AH->D->D->R D}(ha:PE X a (TEv Γ Ex (ev ct c x)))(hb:PE X b (TEv Γ Ex (ev ct c y))):∀σ H Q,TEv Γ Ex (λenv h=>(ev ct c x env h).bind λu h1=>(ev ct c y env h1).bind λv h2=>g h2 u v) σ H Q→
 tOp (rOf Γ Ex g) (TEv Γ Ex (ev ct c x)) (TEv Γ Ex (ev ct c y)) σ H Q:=by
 rintro σ H Q ⟨env,ah,m,rl,q⟩;refine⟨env,ah,m,rl,d0.first rl q λd1 bz m1 H1 v1 p1 k1 bC r1 q1=>?_⟩;refine⟨env,bz,m1,bC,d0.first bC q1 λd2 bW m2 H2 v2 p2 k2 cy r2 q2=>?_⟩;exact⟨d1,d2,bW,m2,cy.sim,r1.mono p2 k2,r2,q2⟩
theorem c0D{o:B}{op:Operator}(h:o.bin=some op)(ha:PE X a (TEv Γ Ex (ev ct c x)))(hb:PE X b (TEv Γ Ex (ev ct c y))):PE X (.BinOp a op b pos) (TEv Γ Ex (ev ct c (.bin o x y))):=by
 refine PE.imp (b8I (b9L (Γ:=Γ) (E:=Ex) h) ha hb) λσ H Q q=>two (r:=rOf Γ Ex (op2 o)) ha hb σ H Q ?_
 simpa only[TEv,ev] using q
theorem c0A{o:B}(hu:X.A.units+8<cLine)(hK:X.K=Γ.K)(h:o.cmp=some op)(ha:PE X a (TEv Γ Ex (ev ct c x)))(hb:PE X b (TEv Γ Ex (ev ct c y)))(hm:behindInMarks op b=false):PE X (.Compare a [op] [b] pos) (TEv Γ Ex (ev ct c (.bin o x y))):=by
 refine PE.imp (a4J (a1L (Γ:=Γ) (E:=Ex) hu hK h) ha hb hm) λσ H Q q=>two (r:=rOf Γ Ex (op2 o)) ha hb σ H Q ?_
 simpa only[TEv,ev] using q
theorem a2q{f:l0->AH->R D}{t:TE}(h:∀σ H Q,TEv Γ Ex f σ H Q->t σ H Q):∀σ H Q,TTv Γ Ex (λenv h=>asB (f env h)) σ H Q->a9B t σ H Q:=by rintro σ H Q ⟨env,ah,m,rl,q⟩;exact h σ H _ ⟨env,ah,m,rl,q.bool.mp λv H1 ⟨k,e,_,_,_,_,_,w⟩=>⟨k,e,w⟩⟩
theorem b7K{o:B}(hu:X.A.units+8<cLine)(hK:X.K=Γ.K)(h:o.cmp=some op)(ha:PE X a (TEv Γ Ex (ev ct c x)))(hb:PE X b (TEv Γ Ex (ev ct c y)))(hm:behindInMarks op b=false):PT X (.Compare a [op] [b] pos) (TTv Γ Ex (tst ct c (.cmp o x y))):=by
 refine PT.imp (a4I (a1L (Γ:=Γ) (E:=Ex) hu hK h) ha hb hm) λσ H Q q=>a2q (two (r:=rOf Γ Ex (op2 o)) ha hb) σ H Q ?_
 simpa only[TTv,tst] using q
theorem a4E{d:D}(r:Rp m H d v):decide (v=.non)=decide (d=.non):=by
 cases d with
 |non=>cases r;rfl
 |bl _=>cases r;rfl
 |int _=>cases r;rfl
 |str _=>cases r;rfl
 |tup _=>obtain⟨_,_,rfl,_⟩:=r;rfl
 |ref _=>obtain⟨_,rfl,_⟩:=r;rfl
theorem c0v{j p'}(ha:PE X a (TEv Γ Ex (ev ct c x))):PE X (.Compare a [.Is] [.Constant .none j p'] pos) (TEv Γ Ex (ev ct c (.isN x))):=by refine PE.imp (b0u (b0w ha)) ?_;rintro σ H Q ⟨env,ah,m,rl,q⟩;refine⟨env,ah,m,rl,d0.first rl q λd1 bz m1 H1 v1 p1 k1 bC r1 q1=>?_⟩;rw[a4E r1];exact q1.ok bC.sim rfl
theorem b7B{j p'}(ha:PE X a (TEv Γ Ex (ev ct c x))):PE X (.Compare a [.IsNot] [.Constant .none j p'] pos) (TEv Γ Ex (ev ct c (.notN x))):=by refine PE.imp (b0u (a7I ha)) ?_;rintro σ H Q ⟨env,ah,m,rl,q⟩;refine⟨env,ah,m,rl,d0.first rl q λd1 bz m1 H1 v1 p1 k1 bC r1 q1=>?_⟩;rw[a4E r1];exact q1.ok bC.sim rfl
theorem b7C{j p'}(ha:PE X a (TEv Γ Ex (ev ct c x))):PT X (.Compare a [.Is] [.Constant .none j p'] pos) (TTv Γ Ex (tst ct c (.isN x))):=by refine PT.imp (b0a (b0w ha)) ?_;rintro σ H Q ⟨env,ah,m,rl,q⟩;refine⟨env,ah,m,rl,j0.first rl q λd1 bz m1 H1 v1 p1 k1 bC r1 q1=>?_⟩;rw[a4E r1];exact⟨_,rfl,q1.ok bC.sim⟩
theorem b4C{j p'}(ha:PE X a (TEv Γ Ex (ev ct c x))):PT X (.Compare a [.IsNot] [.Constant .none j p'] pos) (TTv Γ Ex (tst ct c (.notN x))):=by refine PT.imp (b0a (a7I ha)) ?_;rintro σ H Q ⟨env,ah,m,rl,q⟩;refine⟨env,ah,m,rl,j0.first rl q λd1 bz m1 H1 v1 p1 k1 bC r1 q1=>?_⟩;rw[a4E r1];exact⟨_,rfl,q1.ok bC.sim⟩
theorem c0s(ha:PE X a (TEv Γ Ex (ev ct c x))):PE X (.UnaryOp .USub a pos) (TEv Γ Ex (ev ct c (.neg x))):=by
 refine PE.imp (b8G b4X ha) ?_;rintro σ H Q ⟨env,ah,m,rl,q⟩;refine⟨env,ah,m,rl,d0.first rl q λd1 bz m1 H1 v1 p1 k1 bC r1 q1=>?_⟩;cases d1<;>first|exact q1.elim|skip
 cases r1;exact⟨_,rfl,q1.ok bC.sim rfl⟩
theorem d0.firstB{f:Bool->AH->R D}(rl:Rel Γ env ah σ H m)(h:d0 Γ Ex m H ((asB r).bind f) Q)
 (k:∀b bz m1 H1,Pre m m1->Keep m m1 H H1->Rel Γ env bz σ H1 m1->d0 Γ Ex m1 H1 (f b bz) Q->Q' (.bl b) H1):d0 Γ Ex m H r Q':=by
 refine h.bind.bool.mp λv H1 hh=>?_;obtain⟨b,rfl,bW,m2,p2,k2,s2,w⟩:=hh;exact k b bW m2 H1 p2 k2 (rl.on p2 k2 s2) w
theorem c1C(ha:PE X a (TEv Γ Ex (ev ct c x))):PE X (.UnaryOp .Not a pos) (TEv Γ Ex (ev ct c (.nt x))):=by refine PE.imp (b5P ha) ?_;rintro σ H Q ⟨env,ah,m,rl,q⟩;exact⟨env,ah,m,rl,d0.firstB rl q λb bz m1 H1 p1 k1 bC q1=>⟨b,rfl,q1.ok bC.sim rfl⟩⟩
theorem c1H{d9:List Expr}(ha:PE X a (TEv Γ Ex (ev ct c x)))(hb:PE X (.BoolOp .And (b::d9) pos) (TEv Γ Ex (ev ct c y))):PE X (.BoolOp .And (a::b::d9) pos) (TEv Γ Ex (ev ct c (.an x y))):=by
 refine PE.imp (b5U ha hb) ?_;rintro σ H Q ⟨env,ah,m,rl,q⟩;refine⟨env,ah,m,rl,d0.firstB rl q λk bz m1 H1 p1 k1 bC q1=>⟨k,rfl,?_⟩⟩;cases k with
 |true=>rw[ay rfl] at q1⊢;exact⟨env,bz,m1,bC,q1⟩
 |false=>rw[az (by decide)] at q1⊢;exact q1.ok bC.sim rfl
theorem c0o{d9:List Expr}(ha:PE X a (TEv Γ Ex (ev ct c x)))(hb:PE X (.BoolOp .Or (b::d9) pos) (TEv Γ Ex (ev ct c y))):PE X (.BoolOp .Or (a::b::d9) pos) (TEv Γ Ex (ev ct c (.orr x y))):=by
 refine PE.imp (b8H ha hb) ?_;rintro σ H Q ⟨env,ah,m,rl,q⟩;refine⟨env,ah,m,rl,d0.firstB rl q λk bz m1 H1 p1 k1 bC q1=>⟨k,rfl,?_⟩⟩;cases k with
 |true=>rw[ay rfl] at q1⊢;exact q1.ok bC.sim rfl
 |false=>rw[az (by decide)] at q1⊢;exact⟨env,bz,m1,bC,q1⟩
variable{t u:T}{v:List Expr}
theorem c0l(he:∀cK,isTrue e X.env cK=(do let v←cK;standAt e.pos;holding [v] (truthy v)))(ha:PE X e (TEv Γ Ex (ev ct c x))):PT X e (TTv Γ Ex (tst ct c (.val x))):=by refine PT.imp (a9Y ha he) ?_;rintro σ H Q ⟨env,ah,m,rl,q⟩;refine⟨env,ah,m,rl,q.bool.mp λv H1 hh=>?_⟩;obtain⟨b,rfl,bW,m2,p2,k2,s2,w⟩:=hh;exact⟨b,rfl,w⟩
theorem TTv.next{r:R Bool}{f:Bool->AH->R Bool}{Q Q':Bool->Hp->Prop}(rl:Rel Γ env ah σ H m)(h:j0 Γ Ex m H (r.bind f) (λb _ _ H1=>Q b H1))
 (k:∀b bz m1 H1,Pre m m1->Keep m m1 H H1->Rel Γ env bz σ H1 m1->j0 Γ Ex m1 H1 (f b bz) (λb _ _ H1=>Q b H1)->Q' b H1):j0 Γ Ex m H r (λb _ _ H1=>Q' b H1):=
 h.bind.mp λb bz m1 H1 p1 k1 s1 q1=>k b bz m1 H1 p1 k1 (rl.on p1 k1 s1) q1
theorem c0q(ha:PT X a (TTv Γ Ex (tst ct c t))):PT X (.UnaryOp .Not a pos) (TTv Γ Ex (tst ct c (.nt t))):=by refine PT.imp (b5A ha) ?_;rintro σ H Q ⟨env,ah,m,rl,q⟩;exact⟨env,ah,m,rl,TTv.next rl q λb bz m1 H1 p1 k1 bC q1=>q1.ok bC.sim⟩
theorem c0F{d9:List Expr}(ha:PT X a (TTv Γ Ex (tst ct c t)))(hb:PW X (.BoolOp .And (b::d9) pos) (TTv Γ Ex (tst ct c u))):PW X (.BoolOp .And (a::b::d9) pos) (TTv Γ Ex (tst ct c (.an t u))):=by
 refine PW.imp (b5x ha hb) ?_;rintro σ H Q ⟨env,ah,m,rl,q⟩;refine⟨env,ah,m,rl,TTv.next rl q λk bz m1 H1 p1 k1 bC q1=>?_⟩;cases k with
 |true=>rw[ay rfl] at q1⊢;exact⟨env,bz,m1,bC,q1⟩
 |false=>rw[az (by decide)] at q1⊢;exact q1.ok bC.sim
theorem c0p{d9:List Expr}(ha:PT X a (TTv Γ Ex (tst ct c t)))(hb:PW X (.BoolOp .Or (b::d9) pos) (TTv Γ Ex (tst ct c u))):PW X (.BoolOp .Or (a::b::d9) pos) (TTv Γ Ex (tst ct c (.orr t u))):=by
 refine PW.imp (b8D ha hb) ?_;rintro σ H Q ⟨env,ah,m,rl,q⟩;refine⟨env,ah,m,rl,TTv.next rl q λk bz m1 H1 p1 k1 bC q1=>?_⟩;cases k with
 |true=>rw[ay rfl] at q1⊢;exact q1.ok bC.sim
 |false=>rw[az (by decide)] at q1⊢;exact⟨env,bz,m1,bC,q1⟩
theorem c0y(hc:PT X e (TTv Γ Ex (tst ct c t)))(ha:PE X a (TEv Γ Ex (ev ct c x)))(hb:PE X b (TEv Γ Ex (ev ct c y))):PE X (.IfExp e a b pos) (TEv Γ Ex (ev ct c (.ife t x y))):=by
 refine PE.imp (b0r hc ha hb) ?_;rintro σ H Q ⟨env,ah,m,rl,q⟩;refine⟨env,ah,m,rl,q.bind.mp λk bz m1 H1 p1 k1 s1 q1=>?_⟩;cases k with
 |true=>rw[ay rfl] at q1⊢;exact⟨env,bz,m1,rl.on p1 k1 s1,q1⟩
 |false=>rw[az (by decide)] at q1⊢;exact⟨env,bz,m1,rl.on p1 k1 s1,q1⟩
theorem b4T{o p:B}{op op':CmpOp}(ha:PE X a (TEv Γ Ex (ev ct c x))):∀σ H Q,TEv Γ Ex (λenv h=>(ev ct c x env h).bind λx1 h1=>(ev ct c y env h1).bind λy1 h2=>(asB (op2 o h2 x1 y1)).bind λk h3=>if k=true then(ev ct c z env h3).bind λz1 h4=>op2 p h4 y1 z1 else .ok (.bl false) h3) σ H Q→
 a6L (rOf Γ Ex (op2 o)) (rOf Γ Ex (op2 p)) (TEv Γ Ex (ev ct c x)) (TEv Γ Ex (ev ct c y)) (TEv Γ Ex (ev ct c z)) σ H Q:=by
 rintro σ H Q ⟨env,ah,m,rl,q⟩;refine⟨env,ah,m,rl,d0.first rl q λd1 bz m1 H1 v1 p1 k1 bC r1 q1=>?_⟩;refine⟨env,bz,m1,bC,d0.first bC q1 λd2 bW m2 H2 v2 p2 k2 cy r2 q2=>?_⟩;refine⟨d1,d2,bW,m2,cy.sim,r1.mono p2 k2,r2,d0.firstB cy q2 λk eF m3 H3 p3 k3 dX q3=>⟨k,rfl,?_⟩⟩;cases k with
 |false=>rw[az (by decide)] at q3⊢;exact q3.ok dX.sim rfl
 |true=>
  rw[ay rfl] at q3⊢;refine⟨env,eF,m3,dX,d0.first dX q3 λd4 ah4 m4 H4 v4 p4 k4 rl4 r4 q4=>?_⟩;exact⟨d2,d4,ah4,m4,rl4.sim,r2.mono (p3.trans p4) (k3.trans k4),r4,q4⟩
theorem c0C{o p:B}(hu:X.A.units+8<cLine)(hK:X.K=Γ.K)(h:o.cmp=some op)(h':p.cmp=some op')(ha:PE X a (TEv Γ Ex (ev ct c x)))(hb:PE X b (TEv Γ Ex (ev ct c y)))(hd:PE X d (TEv Γ Ex (ev ct c z)))(hm:lastMarks [op,op'] [b,d]=false):
 PE X (.Compare a [op,op'] [b,d] pos) (TEv Γ Ex (ev ct c (.chn o p x y z))):=by
 refine PE.imp (b0v (a1L (Γ:=Γ) (E:=Ex) hu hK h) (a1L (Γ:=Γ) (E:=Ex) hu hK h') ha hb hd hm) λσ H Q q=>b4T (op:=op) (op':=op') ha σ H Q ?_
 simpa only[TEv,ev] using q
theorem b7L{o p:B}(hu:X.A.units+8<cLine)(hK:X.K=Γ.K)(h:o.cmp=some op)(h':p.cmp=some op')(ha:PE X a (TEv Γ Ex (ev ct c x)))(hb:PE X b (TEv Γ Ex (ev ct c y)))(hd:PE X d (TEv Γ Ex (ev ct c z)))(hm:lastMarks [op,op'] [b,d]=false):
 PT X (.Compare a [op,op'] [b,d] pos) (TTv Γ Ex (tst ct c (.chn o p x y z))):=by
 refine PT.imp (b0b (a1L (Γ:=Γ) (E:=Ex) hu hK h) (a1L (Γ:=Γ) (E:=Ex) hu hK h') ha hb hd hm) λσ H Q q=>a2q (b4T (op:=op) (op':=op') (o:=o) (p:=p) (y:=y) (z:=z) ha) σ H Q ?_
 simpa only[TTv,tst] using q
theorem c1F(hu:X.A.units+8<cLine)(hK:X.K=Γ.K)(ha:PE X a (TEv Γ Ex (ev ct c x)))(hb:PE X b (TEv Γ Ex (ev ct c y)))(hs:a2B b):PE X (.Subscript a b pos) (TEv Γ Ex (ev ct c (.ix x y))):=by
 refine PE.imp (b4H (b9I (Γ:=Γ) (E:=Ex) hu hK) ha hb hs) λσ H Q q=>two (r:=rOf Γ Ex ixD) ha hb σ H Q ?_
 simpa only[TEv,ev] using q
theorem c1B:PO X none (TOv Γ Ex (evo ct c .no)):=by refine PO.imp b2V ?_;rintro σ H Q ⟨env,ah,m,rl,q⟩;exact q.ok rl.sim
theorem c1A(ha:PE X a (TEv Γ Ex (ev ct c x))):PO X (some a) (TOv Γ Ex (evo ct c (.at x))):=by
 refine PO.imp (b2U ha) ?_;rintro σ H Q ⟨env,ah,m,rl,q⟩;rw[b1B,a7U] at q;refine⟨env,ah,m,rl,j0.first rl q λd1 bz m1 H1 v1 p1 k1 bC r1 q1=>?_⟩;cases d1<;>first|exact q1.elim|skip
 cases r1;exact⟨_,rfl,q1.ok bC.sim⟩
variable{l h:Option Expr}{ol oh:O}
theorem c1z(hK:X.K=Γ.K)(ha:PE X a (TEv Γ Ex (ev ct c x)))(hl:PO X l (TOv Γ Ex (evo ct c ol)))(hh:PO X h (TOv Γ Ex (evo ct c oh))):PE X (.Subscript a (.Slice l h none p2) pos) (TEv Γ Ex (ev ct c (.sl x ol oh))):=by refine PE.imp (b0o (c1q (Γ:=Γ) (E:=Ex) hK) ha hl hh) ?_;rintro σ H Q ⟨env,ah,m,rl,q⟩;refine⟨env,ah,m,rl,d0.first rl q λd1 bz m1 H1 v1 p1 k1 bC r1 q1=>?_⟩;refine⟨env,bz,m1,bC,q1.bind.mp λlo bW m2 H2 p2 k2 s2 q2=>?_⟩;refine⟨env,bW,m2,bC.on p2 k2 s2,q2.bind.mp λhi eF m3 H3 p3 k3 s3 q3=>?_⟩;exact⟨d1,eF,m3,s3,r1.mono (p2.trans p3) (k2.trans k3),q3⟩
variable{xs:Es}
theorem c0r:PA X [] (TAv Γ Ex (evs ct c .nil)):=by refine PA.imp a2X ?_;rintro σ H Q ⟨env,ah,m,rl,q⟩;exact q.ok rl.sim [] rfl
theorem b7I(ha:PE X a (TEv Γ Ex (ev ct c x)))(hr:PA X es (TAv Γ Ex (evs ct c xs)))(hs:starEach (a::es) X.env=(false,eval a X.env)::starEach es X.env):PA X (a::es) (TAv Γ Ex (evs ct c (.cons x xs))):=by refine PA.imp (U5 ha hr hs) ?_;rintro σ H Q ⟨env,ah,m,rl,q⟩;refine⟨env,ah,m,rl,j0.first rl q λd1 bz m1 H1 v1 p1 k1 bC r1 q1=>?_⟩;refine⟨env,bz,m1,bC,q1.bind.mp λds bW m2 H2 p2 k2 s2 q2=>λvs rs=>?_⟩;exact q2.ok s2 (v1::vs) ⟨v1,vs,rfl,r1.mono p2 k2,rs⟩
theorem c0t(ha:PA X es (TAv Γ Ex (evs ct c xs))):PE X (.List es pos) (TEv Γ Ex (ev ct c (.lst xs))):=by refine PE.imp (b5R ha) ?_;rintro σ H Q ⟨env,ah,m,rl,q⟩;refine⟨env,ah,m,rl,q.bind.mp λds bz m1 H1 p1 k1 s1 q1=>λvs rs=>?_⟩;obtain⟨hl,q1⟩:=ifq q1;exact⟨by rw[rs.len,←Q1];exact hl,λp hp=>q1.newc s1 hp ⟨_,b8,rs.mono (Pre.snoc m1 p) (Keep.newc hp)⟩⟩
theorem c0m{k:Nat}(ha:PA X es (TAv Γ Ex (evs ct c xs))):PE X (.Tuple es k pos) (TEv Γ Ex (ev ct c (.tup xs))):=by refine PE.imp (b5N ha) ?_;rintro σ H Q ⟨env,ah,m,rl,q⟩;refine⟨env,ah,m,rl,q.bind.mp λds bz m1 H1 p1 k1 s1 q1=>λvs rs=>?_⟩;obtain⟨hl,q1⟩:=ifq q1;exact⟨by rw[rs.len,←Q1];exact hl,λp hp=>q1.newt s1 hp rs⟩
theorem b7F:PE X (.Dict [] [] pos) (TEv Γ Ex (ev ct c .dnew)):=by refine PE.imp b0s ?_;rintro σ H Q ⟨env,ah,m,rl,q⟩;exact λp hp=>q.newc rl.sim hp (.inl ⟨[],b8,.nil⟩)
theorem c0E{b:Bi}(ha:PA X es (TAv Γ Ex (evs ct c xs))):∀σ H Q,TEv Γ Ex (ev ct c (.bi b xs)) σ H Q->tCB (rBi Γ Ex b) (TAv Γ Ex (evs ct c xs)) σ H Q:=by rintro σ H Q ⟨env,ah,m,rl,q⟩;exact⟨env,ah,m,rl,q.bind.mp λds bz m1 H1 p1 k1 s1 q1=>λvs rs=>⟨ds,bz,m1,s1,rs,q1⟩⟩
end
noncomputable def a4y(Γ:Gm)(c:CF)(f np:Nat):Sp:=λvs H Q E=>∃ds ah m,ds.length=np/\Rps m H ds vs/\Sim Γ ah m H/\d0 Γ E m H (c f ds ah) Q
theorem k7{a:Expr}{env:Env}(h:t9 a=true):starEach (a::es) env=(false,eval a env)::starEach es env:=by cases a<;>first|rfl|cases h
theorem T7{pos:Pos}{env:Env}:∀{es:List Expr},es.all t9=true->(backTo pos (starEach es env)).any (·.1)=false
 |[],_=>rfl
 |a::es,h=>by rw[all_cons,af] at h;rw[k7 h.1];exact T7 (es:=es) h.2
theorem a3O{pos:Pos}{env:Env}:∀{es:List Expr},es.all t9=true->(backTo pos (starEach es env)).all (λx=>!x.1)=true
 |[],_=>rfl
 |a::es,h=>by rw[all_cons,af] at h;rw[k7 h.1];exact a3O (es:=es) h.2
theorem L1{o:Expr}{f:Str}{env:Env}{w:Sem Value}(h:J7 o=true):attributeBase o f env w=w:=by
 unfold attributeBase;split
 · cases h
 · rfl
def a9l(P:Program)(w:World)(K:Frag)(a:Addr)(gs:List (Key×V)):Prop:=(a==sysModules)=false/\∃vs,KV gs vs/\∀h:Heap,K.In h->h.DictOf (n0 P w) a vs
structure TyC(K:Frag)(C:Addr):Prop where
 ha:PySem.W.findIn K (.ref C) "__class__"=some (some (.builtin "object.__class__"))
 hn:specialIn K (.builtin "object.__class__") "__get__"=some (some (.builtin "getset_descriptor.__get__"))
 ht:takesIn K (.builtin "object.__class__")=some true
 hm:mroIn K C (.type "object")=some true
 hk:kitOne K (.ref C) (.ref C)=some true
structure Cxt(X:Cx)(Γ:Gm)(G:GT)(ct:CT)(c:CF)(Ex:XK)(N:List Str)(sc:Scope)(bJ:Bool):Prop where
 hN:X.N=N
 nd:N.Nodup
 sc:X.env.scope=sc
 calm:X.calm=true
 hu:X.A.units+8<cLine
 K:X.K=Γ.K
 fnb:bJ=true->∀x,X.fn x=true
 scal:∀x d,G.scal.lookup x=some d->∃u v,X.mg x=some u/\i8 v u/\∀m H,Rp m H d v
 tups:∀x ds,G.tups.lookup x=some ds->∃a vs,X.mg x=some (.ref a)/\(∀H,SqT X.K H a vs)/\∀m H,Rps m H ds vs
 dicts:∀x bq,G.dicts.lookup x=some bq->∃a gs,X.mg x=some (.ref a)/\a9l X.prog X.w X.K a gs/\∀m H,DK m H bq gs
 blt:∀x,G.blt.contains x=true->X.mg x=none
 fn:∀x f np,G.fn.lookup x=some (f,np)->∃k a fd ps,ps.length=np/\Room k X.A/\X.mg x=some (.ref a)/\PySem.W.keepIn X.K (.ref a)=true/\R6 X.K fd ps []/\FnOk X.prog X.w X.K X.mg X.base CX0 k a fd ps (a4y Γ c f np)/\∀ds h,ds.length≠np->c f ds h=.no
 obj:∀x k,G.obj.lookup x=some k->k∈Γ.ob/\∃r a fd ps,ps.length=1/\Room (r+1) X.A/\Mk X.K (Γ.cA k) a/\X.mg x=some (.ref (Γ.cA k))/\R6 X.K fd ps []/\FnOk X.prog X.w X.K X.mg X.base CX0 r a fd ps (a4y Γ c (ct.init k) 1)
 att:∀k,k∈Γ.ob->Cls X.K (Γ.cA k)/\∀f,G.atts.contains f=true->a0a X.K (Γ.cA k) f
 tyc:∀k,k∈Γ.ob->TyC X.K (Γ.cA k)
variable{np:Nat}{K:Frag}{bH:Pos}{ad:Addr}
section
variable{X:Cx}{G:GT}{ct:CT}{c:CF}{Ex:XK}{N:List Str}{sc:Scope}{bJ:Bool}{e a b:Expr}{pos p:Pos}{x y z:E}{xs:Es}
theorem U9{n:Str}(h:K1 sc n=true):sc.names.lookup n=some .globalImplicit/\(n==("__debug__":Str))=false/\n≠"__name__":=by unfold K1 at h;rw[af,af] at h;exact⟨aw h.1.1,beq_eq_false_iff_ne.mpr (aw h.1.2),aw h.2⟩
theorem Cxt.gl(C:Cxt X Γ G ct c Ex N sc bJ){n:Str}(h:K1 sc n=true):Gl X n:=by show X.env.scope.names.lookup n=_;rw[C.sc];exact(U9 h).1
theorem Cxt.vis(C:Cxt X Γ G ct c Ex N sc bJ){n:Str}(h:b0X sc n=true):Vis X.env.scope n:=by
 rw[C.sc];unfold b0X at h;unfold Vis;split at h
 · rename_i e;exact .inl e
 · rename_i e;exact .inr (.inl e)
 · rename_i e;exact .inr (.inr e)
 · cases h
theorem a5d{N:List Str}{n:Str}{i:Nat}(h:N.idxOf? n=some i):N[i]? =some n:=by unfold List.idxOf? at h;rw[List.findIdx?_eq_some_iff_getElem] at h;obtain⟨h1,h2,_⟩:=h;rw[ai h1];exact fh some (eq_of_beq h2)
theorem b7M{n:Str}(C:Cxt X Γ G ct c Ex N sc bJ)(hf:G.fn.lookup n=some (f,np))(hg:K1 sc n=true)(hp:(a::es).all t9=true)(ha:PA X (a::es) (TAv Γ Ex (evs ct c xs))):
 PE X (.Call (.Name n p) (a::es) [] pos) (TEv Γ Ex (ev ct c (.call f xs))):=by
 obtain⟨k,ad,fd,ps,h1,h2,h3,h4,h5,h6,h7⟩:=C.fn n f np hf;rw[all_cons,af] at hp;refine PE.imp (b3g h6 h2 (C.gl hg) h3 h4 h5 .nil b4I ha (U9 hg).2.1 (k7 hp.1) (T7 hp.2)) ?_;rintro σ H Q ⟨env,ah,m,rl,q⟩;refine⟨env,ah,m,rl,q.bind.mp λds bz m1 H1 p1 k1 s1 q1=>λvs rs=>⟨ds,bz,m1,?_,by rw[aV];exact rs,s1,q1⟩⟩
 by_cases hl:ds.length=np
 · exact hl
 · rw[h7 ds bz hl] at q1;exact q1.elim
theorem c1E{n:Str}{k:Nat}(C:Cxt X Γ G ct c Ex N sc bJ)(hf:G.obj.lookup n=some k)(hg:K1 sc n=true):PE X (.Call (.Name n p) [] [] pos) (TEv Γ Ex (ev ct c (.mk k .nil))):=by
 obtain⟨hk,r,ad,fd,ps,h1,h2,h3,h4,h5,h6⟩:=C.obj n k hf;refine PE.imp (b0p h3 h6 h2 (C.gl hg) h4 h5 .nil b4I (U9 hg).2.1) ?_;rintro σ H Q ⟨env,ah,m,rl,q⟩;rw[b4M,a8c,g9] at q;intro x dx hx hdx ej;have kp:Keep m (m++[x]) H (upd (upd H dx (.own x)) x (.ins (Γ.cA k) dx [])):=(Keep.new hdx).trans (Keep.newc (by rw[c9 (ff ej)];exact hx));have s1:Sim Γ (ah++[.obj k []]) (m++[x]) (upd (upd H dx (.own x)) x (.ins (Γ.cA k) dx [])):=(rl.sim.new (o:=.own x) hdx).alloc (by rw[c9 (ff ej)];exact hx) ⟨dx,[],b8,.nil,hk⟩;refine⟨[.ref ah.length],ah++[.obj k []],m++[x],rfl,⟨.ref x,[],rfl,⟨x,rfl,?_⟩,rfl⟩,s1,?_⟩
 · rw[←rl.sim.len,au (aj _)];simp
 · refine(q.bind.later (Pre.snoc m x) kp).val λd bz m1 H1 v p1 k1 s1 r1 q1=>?_;cases d<;>first|exact q1.elim|skip
   cases r1;refine⟨rfl,q1.ok s1 ⟨x,rfl,p1.get ?_⟩⟩;rw[←rl.sim.len,au (aj _)];simp
theorem c0z{f:Str}(C:Cxt X Γ G ct c Ex N sc bJ)(hb:J7 a=true)(hf:G.atts.contains f=true)(ha:PE X a (TEv Γ Ex (ev ct c x))):PE X (.Attribute a f pos) (TEv Γ Ex (ev ct c (.fld x f))):=by
 refine PE.imp (b5T (pos:=pos) ha (L1 (f:=f) hb)) ?_;rintro σ H Q ⟨env,ah,m,rl,q⟩;refine⟨env,ah,m,rl,d0.first rl q λd1 bz m1 H1 v1 p1 k1 bC r1 q1=>?_⟩;unfold S9 at q1;split at q1
 · split at q1
   · rename_i k fs e2;split at q1
     · rename_i d e3;obtain⟨ad,rfl,hm1⟩:=r1;obtain⟨dx,gs,g1,g2,g3⟩:=bC.sim.at hm1 e2;obtain⟨w,hw,cw⟩:=g2.look e3;obtain⟨a1,a2⟩:=C.att k g3;exact⟨ad,Γ.cA k,dx,gs,w,rfl,g1,a1,a2 f hf,hw,q1.ok bC.sim cw⟩
     · exact q1.elim
   · exact q1.elim
 · exact q1.elim
def tyN:Nat->String
 |0=>"bool"
 |1=>"int"
 |2=>"list"
 |3=>"tuple"
 |4=>"str"
 |_=>"dict"
theorem b3A{t k:Nat}(ht:t<=5)(hk:k<=5):kitOne K (.type (tyN t)) (.type (tyN k))=some (decide (t=k)||(decide (t=0)&&decide (k=1))):=by
 have f:∀n,n<=5->n=0∨n=1∨n=2∨n=3∨n=4∨n=5:=by decide
 rcases f t ht with rfl|rfl|rfl|rfl|rfl|rfl<;>rcases f k hk with rfl|rfl|rfl|rfl|rfl|rfl<;>with_unfolding_all rfl
theorem b5d{t:Nat}(S:Sim Γ ah m H)(r1:Rp m H d v)(e:a9z ah d=some t):TyOf K H v (.type (tyN t))/\t<=5:=by
 cases d<;>first|(cases e;done)|(cases e;cases r1;first|exact⟨.bl _,by decide⟩|exact⟨.int _,by decide⟩|exact⟨.str _,by decide⟩)|skip
 · cases e;obtain⟨ad,vs,rfl,h1,_⟩:=r1;exact⟨.tup h1,by decide⟩
 · unfold a9z at e;simp only at e;split at e
   · rename_i e0;cases e;obtain⟨ad,vs,rfl,_,h1,_⟩:=S.lst e0 r1;exact⟨.lst h1,by decide⟩
   · rename_i e0;cases e;obtain⟨ad,rfl,hm⟩:=r1;rcases S.at hm e0 with⟨bq,h1,_⟩|⟨bq,h1,_⟩
     · exact⟨.dK h1,by decide⟩
     · exact⟨.dT h1,by decide⟩
   · cases e
theorem b3E{y:Str}{k:Nat}(C:Cxt X Γ G ct c Ex N sc bJ)(hk:b3F y=some k)(eD:K1 sc y=true)(dY:X.mg y=none):PE X (.Name y p2) (tC (.ty (tyN k)))/\k<=5:=by
 unfold b3F at hk
 repeat' split at hk
 all_goals (first|(cases hk;done)|(cases hk;rename_i e;subst e))
 · exact⟨a0e (C.gl eD) dY boot_bool rfl (by decide) (by decide),by decide⟩
 · exact⟨a0e (C.gl eD) dY boot_int rfl (by decide) (by decide),by decide⟩
 · exact⟨a0e (C.gl eD) dY PyProof.Rows.boot_list rfl (by decide) (by decide),by decide⟩
 · exact⟨a0e (C.gl eD) dY boot_tuple rfl (by decide) (by decide),by decide⟩
 · exact⟨a0e (C.gl eD) dY boot_str rfl (by decide) (by decide),by decide⟩
 · exact⟨a0e (C.gl eD) dY boot_dict rfl (by decide) (by decide),by decide⟩
theorem a6d{tT:TE}{y:Str}(C:Cxt X Γ G ct c Ex N sc bJ)(hg:K1 sc "isinstance"=true)(hm:X.mg "isinstance"=none)(hp:t9 a=true)(ha:PE X a (TEv Γ Ex (ev ct c x)))(hT:PE X (.Name y p2) tT):
 PE X (.Call (.Name "isinstance" p) [a,.Name y p2] [] pos) (tCB (b8A X.K) (a9C (TEv Γ Ex (ev ct c x)) (a9C tT b5h))):=
 X1 b1Q (C.gl hg) hm PyProof.Rows.boot_isinstance (U5 ha (U5 hT a2X (k7 rfl)) (k7 hp)) (by decide) (by decide) (k7 hp) (T7 rfl)
theorem c0w{k:Nat}{y:Str}(hk:b3F y=some k)(C:Cxt X Γ G ct c Ex N sc bJ)(hg:K1 sc "isinstance"=true)(hm:X.mg "isinstance"=none)(eD:K1 sc y=true)(dY:X.mg y=none)(hp:t9 a=true)(ha:PE X a (TEv Γ Ex (ev ct c x))):
 PE X (.Call (.Name "isinstance" p) [a,.Name y p2] [] pos) (TEv Γ Ex (ev ct c (.ins k x))):=by
 obtain⟨hT,k5⟩:=b3E C hk eD dY (p2:=p2);refine PE.imp (a6d C hg hm hp ha hT) ?_;rintro σ H Q ⟨env,ah,m,rl,q⟩;refine⟨env,ah,m,rl,d0.first rl q λd1 bz m1 H1 v1 p1 k1' bC r1 q1=>?_⟩;split at q1
 · rename_i b e;obtain⟨t,h1,rfl⟩:=Option.map_eq_some_iff.mp e;obtain⟨h2,h3⟩:=b5d (K:=X.K) bC.sim r1 h1;exact⟨_,_,_,_,_,rfl,λu h=>h,h2,b3A h3 k5,q1.ok bC.sim rfl⟩
 · exact q1.elim
theorem c0x{k:Nat}{y:Str}(hk:G.obj.lookup y=some k)(C:Cxt X Γ G ct c Ex N sc bJ)(hg:K1 sc "isinstance"=true)(hm:X.mg "isinstance"=none)(eD:K1 sc y=true)(hp:t9 a=true)(ha:PE X a (TEv Γ Ex (ev ct c x))):
 PE X (.Call (.Name "isinstance" p) [a,.Name y p2] [] pos) (TEv Γ Ex (ev ct c (.inc k x))):=by
 obtain⟨hk,_,_,_,_,_,_,_,hx,_⟩:=C.obj y k hk;refine PE.imp (a6d C hg hm hp ha (a0Z (v:=.ref (Γ.cA k)) (C.gl eD) hx rfl (U9 eD).2.1)) ?_;rintro σ H Q ⟨env,ah,m,rl,q⟩;refine⟨env,ah,m,rl,d0.first rl q λd1 bz m1 H1 v1 p1 k1' bC r1 q1=>?_⟩;unfold b1a at q1;split at q1
 · split at q1
   · rename_i e;obtain⟨hc,q2⟩:=ifq q1;subst hc;obtain⟨ad,rfl,hm⟩:=r1;obtain⟨dx,gs,h1,_,_⟩:=bC.sim.at hm e;have T:=C.tyc _ hk;exact⟨_,_,_,_,_,rfl,λu h=>h,.ins h1 (C.att _ hk).1 T.ha T.hn T.ht T.hm,T.hk,q2.ok bC.sim rfl⟩
   · exact q1.elim
 · exact q1.elim
theorem a6u(h:a0v ah d=some (n,l)):d=.ref n/\ah[n]? =some (.dict l):=by
 unfold a0v at h;split at h
 · split at h
   · rename_i e;cases h;exact⟨rfl,e⟩
   · cases h
 · cases h
theorem c0B(C:Cxt X Γ G ct c Ex N sc bJ)(hpb:J7 e=true)(bN:(bH.endLine==pos.line)=true)(ho:PE X e (TEv Γ Ex (ev ct c x))):PE X (.Call (.Attribute e "clear" bH) [] [] pos) (TEv Γ Ex (ev ct c (.clr x))):=by
 refine PE.imp (b3f ho (L1 hpb) bN) ?_;rintro σ H Q ⟨env,ah,m,rl,q⟩;refine⟨env,ah,m,rl,d0.first rl q λd1 bz m1 H1 v1 p1 k1' bC r1 q1=>?_⟩;unfold b1O at q1;split at q1
 · rename_i n l e;obtain⟨rfl,e1⟩:=a6u e;obtain⟨hk,q1⟩:=ifq q1;obtain⟨ad,rfl,hm⟩:=r1;obtain⟨H',iv,kp,S',hh⟩:=a2d (X:=X) bC.sim e1 hk hm;rcases hh with⟨ks,gs,_,h1,h2⟩|⟨l,ks,gs,h0,_⟩
   · exact⟨H',iv,ad,gs,rfl,h1,q1 m1 _ _ (Pre.refl m1) (kp.trans (Keep.put hm h1 λz=>z)) (S'.write (c:=.dict []) hm h1 (λz=>z) (.inl ⟨[],b8,.nil⟩)) rfl⟩
   · cases h0
 · exact q1.elim
theorem a8a(h1:∀H,SqT X.K H ad vs)(h2:∀m H,Rps m H ds vs):∀σ H Q,TEv Γ Ex (ev ct c (.gin neg x ds)) σ H Q->tOp (rIn X.K neg) (TEv Γ Ex (ev ct c x)) (tC (.ref ad)) σ H Q:=by
 rintro σ H Q ⟨env,ah,m,rl,q⟩;refine⟨env,ah,m,rl,d0.first rl q λd1 bz m1 H1 v1 p1 k1 bC r1 q1=>?_⟩;obtain⟨hf,q1⟩:=ifq q1;refine⟨ad,vs,rfl,.inr (h1 H1),L6 r1 hf.1,M3 (h2 m1 H1) hf.2,?_⟩;rw[Y4 r1 hf.1 (h2 m1 H1) hf.2] at q1;cases neg with
 |false=>rw[a3u] at q1;exact q1.ok bC.sim rfl
 |true=>rw[a3t] at q1;exact q1.ok bC.sim rfl
theorem b4V{n:Str}(C:Cxt X Γ G ct c Ex N sc bJ)(ho:(op=.In/\neg=false)∨(op=.NotIn/\neg=true))(hg:K1 sc n=true)(ht:G.tups.lookup n=some ds)(ha:PE X a (TEv Γ Ex (ev ct c x))):
 PE X (.Compare a [op] [.Name n p] pos) (TEv Γ Ex (ev ct c (.gin neg x ds)))/\PT X (.Compare a [op] [.Name n p] pos) (TTv Γ Ex (tst ct c (.val (.gin neg x ds)))):=by
 obtain⟨ad,vs,h1,h2,h3⟩:=C.tups n ds ht;have hb:PE X (.Name n p) (tC (.ref ad)):=a0Z (C.gl hg) h1 rfl (U9 hg).2.1;have dl:OpR X (compareOp op) (rIn X.K neg):=by
  rcases ho with⟨rfl,rfl⟩|⟨rfl,rfl⟩
  · exact a0g
  · exact O3
 refine⟨PE.imp (a4J dl ha hb rfl) (a8a h2 h3),PT.imp (a4I dl ha hb rfl) λσ H Q q=>a2q (a8a (neg:=neg) h2 h3) σ H Q ?_⟩
 simpa only[TTv,tst] using q
noncomputable def rMd(a:Addr)(gs:List (Key×V))(neg:Bool):R2:=λx y H Q=>∃k,x=kV k/\y=.ref a/\Q (.bl ((T6 gs k).isSome !=neg)) H
theorem b6b(d:a9l X.prog X.w X.K ad gs):OpR X (compareOp .In) (rMd ad gs false):=by intro bp s σ H x y v u Q I rx ry h;obtain⟨k,rfl,rfl,q⟩:=h;cases ry;obtain⟨hd,vs,cb,dd⟩:=d;refine wpAny_in_of (Y2 rx) hd (dd _ I.kIn).mapOf ?_;rw[←(cb.val k).isSome_eq];rw[a3u] at q;exact⟨.bl _,H,I.tok _,rfl,q⟩
theorem a8J(d:a9l X.prog X.w X.K ad gs):OpR X (compareOp .NotIn) (rMd ad gs true):=by intro bp s σ H x y v u Q I rx ry h;obtain⟨k,rfl,rfl,q⟩:=h;cases ry;obtain⟨hd,vs,cb,dd⟩:=d;refine wpAny_notIn_of (Y2 rx) hd (dd _ I.kIn).mapOf ?_;rw[←(cb.val k).isSome_eq];rw[a3t] at q;exact⟨.bl _,H,I.tok _,rfl,q⟩
def rMx(a:Addr)(gs:List (Key×V)):R2:=λx y H Q=>∃k v,x=.ref a/\y=kV k/\T6 gs k=some v/\Q v H
theorem c1i(d:a9l X.prog X.w X.K ad gs):IxR X (rMx ad gs):=by rintro value slice bp s σ H x y v u Q I rx ry ⟨k,z,rfl,rfl,hz,q⟩ hs;cases rx;obtain⟨hd,vs,cb,dd⟩:=d;have dd:=dd _ I.kIn;obtain⟨w',hw,cw⟩:=a0p.some_of (v:=z) (o:=valueAt vs k) (by rw[←hz];exact cb.val k);exact b9I.ixd_tail dd.typeIs hs (wpAny_getItem_of (Y2 ry) dd.mapOf hw ⟨z,H,I.tok _,cw,q⟩)
theorem a6m(h2:∀m H,DK m H bq gs):∀σ H Q,TEv Γ Ex (ev ct c (.gdin neg x bq)) σ H Q->tOp (rMd ad gs neg) (TEv Γ Ex (ev ct c x)) (tC (.ref ad)) σ H Q:=by rintro σ H Q ⟨env,ah,m,rl,q⟩;refine⟨env,ah,m,rl,d0.first rl q λd1 bz m1 H1 v1 p1 k1 bC r1 q1=>?_⟩;obtain⟨hf,q1⟩:=ifq q1;obtain⟨k,hk⟩:=Option.isSome_iff_exists.mp hf;refine⟨k,U8 hk r1,rfl,?_⟩;rw[(h2 m1 H1).some_eq hk] at q1;exact q1.ok bC.sim rfl
theorem b2e{n:Str}(C:Cxt X Γ G ct c Ex N sc bJ)(ho:(op=.In/\neg=false)∨(op=.NotIn/\neg=true))(hg:K1 sc n=true)(ht:G.dicts.lookup n=some bq)(ha:PE X a (TEv Γ Ex (ev ct c x))):
 PE X (.Compare a [op] [.Name n p] pos) (TEv Γ Ex (ev ct c (.gdin neg x bq)))/\PT X (.Compare a [op] [.Name n p] pos) (TTv Γ Ex (tst ct c (.val (.gdin neg x bq)))):=by
 obtain⟨ad,gs,h1,h2,h3⟩:=C.dicts n bq ht;have hb:PE X (.Name n p) (tC (.ref ad)):=a0Z (C.gl hg) h1 rfl (U9 hg).2.1;have dl:OpR X (compareOp op) (rMd ad gs neg):=by
  rcases ho with⟨rfl,rfl⟩|⟨rfl,rfl⟩
  · exact b6b h2
  · exact a8J h2
 refine⟨PE.imp (a4J dl ha hb rfl) (a6m h3),PT.imp (a4I dl ha hb rfl) λσ H Q q=>a2q (a6m (neg:=neg) (ad:=ad) h3) σ H Q ?_⟩
 simpa only[TTv,tst] using q
theorem b7D{n:Str}(C:Cxt X Γ G ct c Ex N sc bJ)(hg:K1 sc n=true)(ht:G.dicts.lookup n=some bq)(hb:PE X b (TEv Γ Ex (ev ct c y)))(hs:a2B b):
 PE X (.Subscript (.Name n p) b pos) (TEv Γ Ex (ev ct c (.gdix y bq))):=by
 obtain⟨ad,gs,h1,h2,h3⟩:=C.dicts n bq ht;have ha:PE X (.Name n p) (tC (.ref ad)):=a0Z (C.gl hg) h1 rfl (U9 hg).2.1;refine PE.imp (b4H (c1i h2) ha hb hs) ?_;rintro σ H Q ⟨env,ah,m,rl,q⟩;refine⟨env,ah,m,rl,d0.first rl q λd1 bz m1 H1 v1 p1 k1 bC r1 q1=>?_⟩;obtain⟨hf,q1⟩:=ifq q1;obtain⟨k,hk⟩:=Option.isSome_iff_exists.mp hf;split at q1
 · rename_i d hd;obtain⟨v,hv,rv⟩:=((h3 m1 H1).val hk).1 d hd;exact⟨k,v,rfl,U8 hk r1,hv,q1.ok bC.sim rv⟩
 · exact q1.elim
theorem c1G{n:Str}{b:Bi}(C:Cxt X Γ G ct c Ex N sc bJ)(hb:b7v n=some b)(hg:K1 sc n=true)(hm:X.mg n=none)(hp:(a::es).all t9=true)(ha:PA X (a::es) (TAv Γ Ex (evs ct c xs))):
 PE X (.Call (.Name n p) (a::es) [] pos) (TEv Γ Ex (ev ct c (.bi b xs))):=by
 obtain⟨_,hd,hn⟩:=U9 hg;rw[all_cons,af] at hp;have s1:=k7 (es:=es) (env:=X.env) hp.1;have s2:=T7 (pos:=pos) (env:=X.env) hp.2;have go:∀{b:Bi} {t:TE},PE X (.Call (.Name n p) (a::es) [] pos) (tCB (rBi Γ Ex b) (TAv Γ Ex (evs ct c xs)))->PE X (.Call (.Name n p) (a::es) [] pos) (TEv Γ Ex (ev ct c (.bi b xs))):=λh=>PE.imp h (c0E ha);unfold b7v at hb
 repeat' split at hb
 all_goals (first|(cases hb;done)|(cases hb;rename_i e;subst e))
 · exact go (t:=tCB (rBi Γ Ex .len) (TAv Γ Ex (evs ct c xs))) (X1 (b9V C.K) (C.gl hg) hm PySem.boot_len ha hn hd s1 s2)
 · exact go (t:=tCB (rBi Γ Ex .len) (TAv Γ Ex (evs ct c xs))) (T8 b9T (C.gl hg) hm boot_str ha hn hd s1 s2)
 · exact go (t:=tCB (rBi Γ Ex .len) (TAv Γ Ex (evs ct c xs))) (T8 b9W (C.gl hg) hm boot_int ha hn hd s1 s2)
 · exact go (t:=tCB (rBi Γ Ex .len) (TAv Γ Ex (evs ct c xs))) (T8 (b4r C.K) (C.gl hg) hm boot_tuple ha hn hd s1 s2)
 · exact go (t:=tCB (rBi Γ Ex .len) (TAv Γ Ex (evs ct c xs))) (T8 (b7r C.calm C.K) (C.gl hg) hm PyProof.Rows.boot_list ha hn hd s1 s2)
 · exact go (t:=tCB (rBi Γ Ex .len) (TAv Γ Ex (evs ct c xs))) (X1 (b9Y C.calm C.K) (C.gl hg) hm boot_all ha hn hd s1 s2)
 · exact go (t:=tCB (rBi Γ Ex .len) (TAv Γ Ex (evs ct c xs))) (X1 (b9X C.calm C.K) (C.gl hg) hm boot_any ha hn hd s1 s2)
 · exact go (t:=tCB (rBi Γ Ex .len) (TAv Γ Ex (evs ct c xs))) (X1 (b9U C.calm) (C.gl hg) hm boot_max ha hn hd s1 s2)
 · exact go (t:=tCB (rBi Γ Ex .len) (TAv Γ Ex (evs ct c xs))) (T8 (b7s C.calm C.K) (C.gl hg) hm boot_dict ha hn hd s1 s2)
theorem a3e{b:Mt}{T:String}(hK:X.K=Γ.K)(hT:(T="list"/\(b=.append∨b=.extend))∨(T="str"/\(b=.split∨b=.join∨b=.starts))):∀σ H Q,TEv Γ Ex (ev ct c (.mt b x xs)) σ H Q->tBM X.K T (rMt Γ Ex b) (TEv Γ Ex (ev ct c x)) (TAv Γ Ex (evs ct c xs)) σ H Q:=by
 rintro σ H Q ⟨env,ah,m,rl,q⟩;refine⟨env,ah,m,rl,d0.first rl q λd1 bz m1 H1 v1 p1 k1 bC r1 q1=>?_⟩;split at q1
 · rename_i ht;refine⟨?_,env,bz,m1,bC,q1.bind.mp λds bW m2 H2 p2 k2 s2 q2=>λvs rs=>⟨d1,ds,bW,m2,s2,r1.mono p2 k2,rs,q2⟩⟩;unfold mtT at ht;split at ht
   · cases r1;rcases hT with⟨rfl,rfl|rfl⟩|⟨rfl,_⟩
     · cases ht
     · cases ht
     · rfl
   · rename_i n;rcases hT with⟨rfl,hb⟩|⟨rfl,rfl|rfl|rfl⟩
     · have hs:(rdL bz n).isSome=true:=by rcases hb with rfl|rfl<;>exact ht
       obtain⟨l,hl⟩:=Option.isSome_iff_exists.mp hs;obtain⟨ad,vs,rfl,_,h1,_⟩:=bC.sim.rdL hl r1;exact .inl ⟨rfl,vs,by rw[hK];exact h1⟩
     · cases ht
     · cases ht
     · cases ht
   · cases ht
 · exact q1.elim
theorem c1D{n:Str}{b:Mt}(C:Cxt X Γ G ct c Ex N sc bJ)(hb:b6l n=some b)(hpb:J7 e=true)(bN:(bH.endLine==pos.line)=true)(bL:(a::es).length<20)(hp:(a::es).all t9=true)(ho:PE X e (TEv Γ Ex (ev ct c x)))(ha:PA X (a::es) (TAv Γ Ex (evs ct c xs))):
 PE X (.Call (.Attribute e n bH) (a::es) [] pos) (TEv Γ Ex (ev ct c (.mt b x xs))):=by
 have hp':=hp;rw[all_cons,af] at hp;have s1:=k7 (es:=es) (env:=X.env) hp.1;have s2:=T7 (pos:=pos) (env:=X.env) hp.2;have bZ:=L1 (f:=n) (env:=X.env) (w:=eval e X.env) hpb;have dP:((backTo pos (starEach (a::es) X.env)).all (λx=>!x.1)&&(backToKw pos (keywordEach [] X.env)).all (λx=>x.1.isSome)
  &&decide ((a::es).length+([]:List Keyword).length+(if([]:List Keyword).isEmpty then 0 else 1)<30))=true:=by
  rw[af,af];refine⟨⟨a3O hp',rfl⟩,aW ?_⟩;show(a::es).length+0+0<30;omega
 unfold b6l at hb
 repeat' split at hb
 all_goals (first|(cases hb;done)|(cases hb;rename_i e0;subst e0))
 · exact PE.imp (a5Q PySem.F.plainAttrs_list PySem.F.slot_list_append PySem.F.type_list_append (b0I (Γ:=Γ) (E:=Ex)) ho ha bZ dP bN s1 s2) (a3e C.K (.inl ⟨rfl,.inl rfl⟩))
 · exact PE.imp (a5Q PySem.F.plainAttrs_list PySem.F.slot_list_extend PySem.F.type_list_extend (b0H (Γ:=Γ) (E:=Ex)) ho ha bZ dP bN s1 s2) (a3e C.K (.inl ⟨rfl,.inr rfl⟩))
 · exact PE.imp (a5Q plainAttrs_str slot_str_split PySem.F.type_str_split (b3w (Γ:=Γ) (E:=Ex)) ho ha bZ dP bN s1 s2) (a3e C.K (.inr ⟨rfl,.inl rfl⟩))
 · exact PE.imp (a5Q plainAttrs_str PySem.F.slot_str_join PySem.F.type_str_join (b6m (Γ:=Γ) (E:=Ex) C.K) ho ha bZ dP bN s1 s2) (a3e C.K (.inr ⟨rfl,.inr (.inl rfl)⟩))
 · exact PE.imp (a5Q plainAttrs_str PySem.F.slot_str_startswith PySem.F.type_str_startswith (b0G (Γ:=Γ) (E:=Ex)) ho ha bZ dP bN s1 s2) (a3e C.K (.inr ⟨rfl,.inr (.inr rfl)⟩))
end
end EV
namespace L2
open PySem PySem.Spec PyProof.Rows
theorem a3g:∀(gs bw:List (Key×V)),((bw++gs).map (·.1)).Nodup->U6 bw gs=bw++gs
 |[],bw,_=>by rw[aV];rfl
 | g::gs,bw,h=>by
  have h2:((bw++[g]++gs).map (·.1)).Nodup:=by rw[aA];exact h
  have hn:(bw.any λkv=>decide (kv.1=g.1))=false:=by
   rw[List.any_eq_false];intro p hp;have e:p.1≠g.1:=by rw[ao,nodup_append] at h;exact h.2.2 p.1 (am.mpr ⟨p,hp,rfl⟩) g.1 ⋯
   simp[e]
  show U6 (N1 bw g.1 g.2) gs=_;rw[show N1 bw g.1 g.2=bw++[g] by unfold N1;rw[hn];rfl,a3g gs _ h2,aA];rfl
variable{H:Hp}
theorem a8q{p:Addr}{a b:HO}:upd (upd H p a) p b=upd H p b:=by
 funext x
 by_cases h:x=p
 · subst h;rw[b8,b8]
 · rw[c9 h,c9 h,c9 h]
noncomputable def b5j(X:Cx)(td ty tx:TE):TE:=λσ H Q=>td σ H λx H1=>∃a,x=.ref a/\IsD H1 a/\ty σ H1 λy H2=>tx σ H2 λz H3=>∃H4,(∀bp σ s,Inv X bp σ H3 s->Inv X bp σ H4 s)/\∃o,a7u H4 a y o/\Q (o.getD z) H4
variable{X:Cx}{e:Expr}{bH:Pos}{bF:Pos}
theorem b0t{o f:Expr}{td ty tx:TE}(hu:X.A.units+1<cLine)(ho:PE X o td)(he:PE X e ty)(hf:PE X f tx)(m:M2 X o "get" bH e f bF):PE X (.Call (.Attribute o "get" bH) [e,f] [] bF) (b5j X td ty tx):=by intro bp s σ H Q I h;refine wpAny_Call_method m.base m.few m.line plainAttrs_dict slot_dict_get PySem.F.type_dict_get (thn (ho bp s σ H _ I h) λu s1 hh=>?_);obtain⟨x,H1,I1,rx,a,ex,d,q1⟩:=hh;subst ex;obtain rfl:u=Value.ref a:=rx;obtain⟨t1,t2,_⟩:=b6J I1 d;refine⟨t1,t2,?_⟩;rw[m.trees];refine fO rfl (Calls.evalArgs_plain (gi (thn (he bp s1 σ H1 _ I1 q1) λiv s2 hh2=>?_)));obtain⟨y,H2,I2,ry,q2⟩:=hh2;refine gi (thn (hf bp s2 σ H2 _ I2 q2) λfv s3 hh3=>Calls.spliced_nil ?_);obtain⟨z,H3,I3,rz,H4,iv4,ov,g,q3⟩:=hh3;exact b7m hu (iv4 _ _ _ I3) g ry rz λw' s4 I4 cw=>⟨_,H4,I4,cw,q3⟩
end L2
namespace EV
open PySem PySem.Spec L2
open PyProof.Rows hiding St
def kDg:Key->D
 |.inl i=>.int i
 |.inr x=>.str x
theorem a3V:∀{l:List D},a4P l=true->l.Nodup
 |[],_=>.nil
 |d::r,h=>by rw[a4P,af] at h;refine aR.mpr ⟨λm=>?_,a3V h.2⟩;have:=h.1;rw[bc.mpr ⟨d,m,aW rfl⟩] at this;cases this
variable{bq:List (D×D)}{m:List Addr}{H:Hp}{bH:Pos}
section
variable{X:Cx}{Γ:Gm}{G:GT}{ct:CT}{c:CF}{Ex:XK}{N:List Str}{sc:Scope}{bJ:Bool}{e a b:Expr}{pos p:Pos}{x y z:E}
theorem b4n{e:Expr}{x:Str}(h:b7n e=some x):∃k q,e=.Constant (.str x) k q:=by
 unfold b7n at h;split at h
 · split at h
   · cases h;exact⟨_,_,rfl⟩
   · cases h
 · cases h
theorem b4o{e:Expr}{i:Int}(h:b7o e=some i):∃k q,e=.Constant (.int i) k q:=by
 unfold b7o at h;split at h
 · split at h
   · cases h;exact⟨_,_,rfl⟩
   · cases h
 · cases h
theorem b4O:∀{ks:List (Option Expr)} {vs:List Expr} {bq:List (D×D)},a9f ks vs=some bq->∃dW gs,PPs X pos ks vs dW/\ks.all (·.isSome)=true/\ks.length=vs.length/\ks.length=bq.length/\gs.length=bq.length/\bq.map (·.1)=(gs.map (·.1)).map kDg∧
 (∀σ H Q,Q (gs.map λkv=>(kV kv.1,kv.2)) H->a4v dW σ H Q)/\∀m H,DK m H bq gs
 |[],vs,bq,h=>by unfold a9f at h;obtain⟨e,h⟩:=ifs h;cases isEmpty_iff.mp e;cases h;exact⟨[],[],b2T,rfl,rfl,rfl,rfl,rfl,λ_ _ _ q=>q,λ_ _=>.nil⟩
 |k::ks,vs,bq,h=>by
  unfold a9f at h;split at h
  · cases h
  · rename_i v r;split at h
    · rename_i s i l h1 h2 h3;cases h;obtain⟨e,rfl,h1⟩:=Option.bind_eq_some_iff.mp h1;obtain⟨_,_,rfl⟩:=b4n h1;obtain⟨_,_,rfl⟩:=b4o h2;obtain⟨dW,gs,g1,g2,g3,g4,g5,g6,g7,g8⟩:=b4O h3;exact⟨(tC (.str s),tC (.int i))::dW,(.inr s,.int i)::gs,b0j b0n b0q g1,g2,fh (· +1) g3,fh (· +1) g4,fh (· +1) g5,by rw[map_cons,g6];rfl,λσ H Q q=>g7 σ H _ q,λm H=>.cons ⟨rfl,rfl⟩ (g8 m H)⟩
    · cases h
theorem b7G{ks:List (Option Expr)}{vs:List Expr}(h0:ks≠[])(h:a9f ks vs=some bq)(hk:b7k bq=true):PE X (.Dict ks vs pos) (TEv Γ Ex (ev ct c (.dlit bq))):=by
 unfold b7k at hk;rw[af] at hk;have h15:=aw hk.1;obtain⟨dW,gs,g1,g2,g3,g4,g5,g6,g7,g8⟩:=b4O (X:=X) (pos:=pos) h;have nd:(gs.map (·.1)).Nodup:=by have:=a3V hk.2;rw[g6] at this;exact List.Pairwise.of_map _ (λa b h e=>h (by rw[e])) this
 refine PE.imp (b3e g1 g2 g3 h0 (by omega)) ?_;rintro σ H Q ⟨env,ah,m,rl,q⟩;intro p hp;refine g7 σ _ _ ⟨b8,gs,rfl,by omega,?_⟩;rw[a8q,a3g gs [] nd];exact q.newc rl.sim hp (.inl ⟨gs,b8,g8 _ _⟩)
theorem b9P{k:D}:∀{bq:List (D×D)} {gs:List (List Key×V)},DT m H bq gs->z9 k bq=true->(D9 k).isSome=true->bq.isEmpty=true
 |_,_,.nil,_,_=>rfl
 |p::ps,_,.cons h t,hk,hs=>by obtain⟨⟨l,e1,e2⟩,_⟩:=h;unfold z9 at hk;rw[all_cons,e1] at hk;simp only[F6,e2,Option.isSome_some,fk] at hk;cases k<;>simp[D9,F6] at hk hs
theorem b7H(C:Cxt X Γ G ct c Ex N sc bJ)(hpb:J7 e=true)(bN:(bH.endLine==pos.line)=true)(hpa:t9 a=true)(hpc:t9 b=true)(ho:PE X e (TEv Γ Ex (ev ct c x)))(ha:PE X a (TEv Γ Ex (ev ct c y)))(hb:PE X b (TEv Γ Ex (ev ct c z))):
 PE X (.Call (.Attribute e "get" bH) [a,b] [] pos) (TEv Γ Ex (ev ct c (.dget x y z))):=by
 have t:backTo pos (starEach [a,b] X.env)=[(false,eval a X.env),(false,eval b X.env)]:=by rw[k7 hpa,k7 hpc];rfl
 refine PE.imp (b0t (hu1 C.hu) ho ha hb ⟨L1 hpb,by rw[t];rfl,bN,t⟩) ?_;rintro σ H Q ⟨env,ah,m,rl,q⟩;refine⟨env,ah,m,rl,d0.first rl q λd1 bz m1 H1 v1 p1 k1 bC r1 q1=>?_⟩;split at q1
 · rename_i hd;unfold b8X at hd;split at hd
   · rename_i n;split at hd
     · rename_i kvs0 e0;obtain⟨ad,rfl,hm⟩:=r1;refine⟨ad,rfl,?_,env,bz,m1,bC,d0.first bC q1 λd2 bW m2 H2 v2 p2 k2 cy r2 q2=>⟨env,bW,m2,cy,d0.first cy q2 λd3 eF m3 H3 v3 p3 k3 dX r3 q3=>?_⟩⟩
       · rcases bC.sim.at hm e0 with⟨bq,h1,_⟩|⟨bq,h1,_⟩
         · exact .inl ⟨bq,.inl h1⟩
         · exact .inr ⟨bq,.inl h1⟩
       · unfold b4Q at q3;simp only at q3;split at q3
         · rename_i bq e3;obtain⟨hk,q3⟩:=ifq q3;rw[af] at hk;obtain⟨hk1,hk2⟩:=hk;obtain⟨k,hk⟩:=Option.isSome_iff_exists.mp hk2;have hm3:=p3.get (p2.get hm);rcases dX.sim.at hm3 e3 with⟨gs,h1,h2⟩|⟨gs,h1,h2⟩
           · obtain⟨o,g,o1,o2⟩:=a1j (Keep.refl m3 H3) (r2.mono p3 k3) (.inl ⟨k,gs,hk,h1,h2⟩);refine⟨H3,λ_ _ _ z=>z,o,g,?_⟩;cases hg:o7 bq d2 with
             |none=>
              rw[hg] at o1 q3;cases o with
              |none=>exact q3.ok dX.sim r3
              |some w=>cases o1
             |some w=>
              rw[hg] at q3;obtain⟨v,rfl,rv⟩:=o2 w hg;exact q3.ok dX.sim rv
           · have e0:=isEmpty_iff.mp (b9P h2 hk1 hk2);subst e0;cases h2;have kp:Keep m3 m3 H3 (upd H3 ad (.dK [])):=Keep.put hm3 h1 λz=>z;have S':=dX.sim.write (o':=.dK []) (c:=.dict []) hm3 h1 (λz=>z) (.inl ⟨[],b8,.nil⟩);rw[show eF.set n (.dict [])=eF from a2P e3] at S';refine⟨upd H3 ad (.dK []),λ_ _ _ I=>a9T I h1,none,.inl ⟨[],k,.inl b8,U8 hk (r2.mono p3 k3),rfl⟩,?_⟩;exact q3 m3 _ _ (Pre.refl m3) kp S' (r3.mono (Pre.refl m3) kp)
         · exact q3.elim
     · cases hd
   · cases hd
 · exact q1.elim
end
noncomputable def TGv(Γ:Gm)(p:Pat):TG:=λv σ H Q=>∃env d m bv,EnvRel m H env σ/\Rp m H d v/\w6 p d env=some bv/\∀bE,EnvRel m H bv bE->bE.length=σ.length->(∀(j:Nat),j∉E6 p->bE[j]? =σ[j]?)->Q bE H
noncomputable def c1J(Γ:Gm)(p:Pats):TGs:=λvs σ H Q=>∃env ds m bv,EnvRel m H env σ/\Rps m H ds vs/\N9 p ds env=some bv/\∀bE,EnvRel m H bv bE->bE.length=σ.length->(∀(j:Nat),j∉a0f p->bE[j]? =σ[j]?)->Q bE H
def a2u:Pats->Nat
 |.nil=>0
 |.cons _ r=>a2u r+1
theorem a0M:∀(ps:Pats) {ds:List D} {env bv:l0},N9 ps ds env=some bv->ds.length=a2u ps
 |.nil,ds,env,bv,h=>by
  cases ds with
  |nil=>rfl
  |cons d r=>simp only[N9] at h;cases h
 | .cons p r,ds,env,bv,h=>by
  cases ds with
  |nil=>simp only[N9] at h;cases h
  |cons d t=>
   simp only[N9] at h;split at h
   · rw[length_cons,a0M r h];rfl
   · cases h
variable{es:List Expr}{n:Nat}{cc:Cell}{ah:AH}{K:Frag}{m0:List Addr}{H0:Hp}{vs:List V}{z:Str}{a':Addr}{l':List D}{cV:List Expr}{kk:Nat}{tp:Pos}{d:D}{bF:Pos}
section
variable{X:Cx}{Γ:Gm}{G:GT}{ct:CT}{c:CF}{Ex:XK}{N:List Str}{sc:Scope}{bJ:Bool}
theorem PG.imp{e:Expr}{t t':TG}(h:PG X e t)(i:∀v σ H Q,t' v σ H Q->t v σ H Q):PG X e t':=λbp s σ H v u Q I r q=>h bp s σ H v u Q I r (i _ _ _ _ q)
theorem PGs.imp{t t':TGs}(h:PGs X es t)(i:∀v σ H Q,t' v σ H Q->t v σ H Q):PGs X es t':=λbp s σ H v u Q I r q=>h bp s σ H v u Q I r (i _ _ _ _ q)
theorem a3w{env:Env}:∀{es:List Expr},(assignEach es env).length=es.length
 |[]=>rfl
 |e::r=>by have:=a3w (env:=env) (es:=r);cases e<;>simp only[assignEach,length_cons]<;>rw[this]
theorem Cxt.loc(C:Cxt X Γ G ct c Ex N sc bJ){n:Str}(h:b0Y bJ sc n=true):Loc X.env.scope n/\(X.fn n=true∨X.env.scope.names.lookup n=some .local):=by
 rw[C.sc];unfold b0Y at h;unfold L2.Loc;split at h
 · rename_i e;exact⟨.inl e,.inr e⟩
 · rename_i e;exact⟨.inr e,.inl (C.fnb h n)⟩
 · cases h
theorem a2M(C:Cxt X Γ G ct c Ex N sc bJ){n:Str}{i:Nat}(h:a2N bJ N sc n=some i):X.N[i]? =some n/\Loc X.env.scope n/\(X.fn n=true∨X.env.scope.names.lookup n=some .local):=by unfold a2N at h;obtain⟨hl,h⟩:=ifs h;rw[C.hN];exact⟨a5d h,C.loc hl⟩
theorem b2d (C:Cxt X Γ G ct c Ex N sc bJ):∀n,(∀e p,a7p bJ N sc n e=some p->PG X e (TGv Γ p)/\t9 e=true)/\∀es ps,a3s bJ N sc n es=some ps->PGs X es (c1J Γ ps)/\a2u ps=es.length/\(assignEach es X.env).findIdx? (·.1)=none:=by
 intro n
 induction n with
 |zero=>exact⟨λe p h=>(by simp only[a7p] at h;cases h),λes ps h=>(by simp only[a3s] at h;cases h)⟩
 | succ n ih=>
  obtain⟨ih1,ih2⟩:=ih;refine⟨λe p h=>?_,λes ps h=>?_⟩
  · cases e<;>simp only[a7p] at h<;>first|(cases h;done)|skip
    · rename_i nm pos;cases hs:a2N bJ N sc nm with
      |none=>rw[hs] at h;cases h
      |some i=>
       rw[hs] at h;cases h;obtain⟨h1,h2,h3⟩:=a2M C hs;refine⟨PG.imp (b3c (by rw[C.hN];exact C.nd) h1 h2 h3) ?_,rfl⟩;rintro v σ H Q ⟨env,d,m,bv,er,r,hb,q⟩;simp only[w6] at hb;cases hb;exact q _ (er.set r) ⋯ λj hj=>eW (λe=>hj (by simp[E6,e]))
    · rename_i es k pos;cases hs:a3s bJ N sc n es with
      |none=>rw[hs] at h;cases h
      |some ps=>
       rw[hs] at h;cases h;obtain⟨h1,h2,h3⟩:=ih2 es ps hs;refine⟨PG.imp (b5K C.calm h1 a3w h3) ?_,rfl⟩;rintro v σ H Q ⟨env,d,m,bv,er,r,hb,q⟩;simp only[w6] at hb;cases d<;>first|(cases hb;done)|skip
       rename_i ds;obtain⟨a,vs,rfl,ha,rs⟩:=r;refine⟨a,vs,rfl,.inl (.inl ha),by rw[rs.len,a0M ps hb,h2],env,ds,m,bv,er,rs,hb,λbE r' l' s'=>q bE r' l' s'⟩
  · cases es with
    | nil=>
     simp only[a3s] at h;cases h;refine⟨PGs.imp b3b ?_,rfl,rfl⟩;rintro vs σ H Q ⟨env,ds,m,bv,er,rs,hb,q⟩;have hl:=a0M .nil hb;have:vs=[]:=length_eq_zero_iff.mp (rs.len.trans hl);subst this;cases ds with
     |nil=>
      simp only[N9] at hb;cases hb;exact⟨rfl,q σ er rfl λ_ _=>rfl⟩
     |cons d r=>cases hl
    |cons e r=>
     simp only[a3s] at h;split at h
     · rename_i p ps' h1 h2;cases h;obtain⟨g1,g2⟩:=ih1 e p h1;obtain⟨g3,g4,g5⟩:=ih2 r ps' h2;have dN:(assignEach (e::r) X.env)=(false,assign e X.env)::assignEach r X.env:=by cases e<;>first|rfl|cases g2
       refine⟨PGs.imp (b0m g1 g3 (by rw[dN];rfl)) ?_,by simp only[a2u,length_cons,g4],by rw[dN,List.findIdx?_cons,g5];rfl⟩;rintro vs σ H Q ⟨env,ds,m,bv,er,rs,hb,q⟩;cases ds with
       |nil=>simp only[N9] at hb;cases hb
       |cons d t=>
        simp only[N9] at hb;split at hb
        · rename_i bV hb1;obtain⟨v,vt,rfl,rd,rt⟩:=rs;refine⟨v,vt,rfl,env,d,m,bV,er,rd,hb1,λσ1 er1 l1 s1=>⟨bV,t,m,bv,er1,rt,hb,λbE er' l' s'=>q bE er' (l'.trans l1) λj hj=>?_⟩⟩;simp only[a0f,aI,not_or] at hj;rw[s' j hj.2,s1 j hj.1]
        · cases hb
     · cases h
def a3H(Γ:Gm)(J:It)(bt:List D)(g:List (Nat×Cell))(m0:List Addr)(H0:Hp):Prop:=∀(i:Nat) (ah:AH) (m:List Addr) (H:Hp),Pre m0 m->Keep m0 m H0 H->Sim Γ ah m H->gOk g ah=true→
 (i=bt.length->J.stop i H)/\∀d,bt[i]? =some d->J.go i H/\∀v H',J.yld i H v H'->Keep m m H H'/\Sim Γ ah m H'/\Rp m H' d v
def TIv(Γ:Gm)(E:XK)(f:l0->AH->R Its):TI:=λσ H R=>∃env ah m,Rel Γ env ah σ H m/\j0 Γ E m H (f env ah) (λx bz m1 H1=>Sim Γ bz m1 H1->∀J,a3H Γ J x.1 x.2 m1 H1->R J H1)
theorem b3U(h:gOk [(n,cc)] ah=true):ah[n]? =some cc:=by unfold gOk at h;rw[all_cons,af] at h;exact aw h.1
theorem P0(hK:K=Γ.K){a:Addr}{l:List D}(h:cc=.lst l∨cc=.rol l)(S:Sim Γ ah m H)(hm:m[n]? =some a)(e:ah[n]? =some cc):∃vs,SqL K H a vs/\Rps m H l vs:=by
 have:rdL ah n=some l:=by unfold rdL;rcases h with rfl|rfl<;>rw[e]
 obtain⟨a',vs,e1,e2,e3,e4⟩:=S.rdL this ⟨a,rfl,hm⟩;rw[hm] at e2;cases e2;exact⟨vs,by rw[hK];exact e3,e4⟩
theorem a7R(hK:K=Γ.K){a:Addr}{l:List D}(h:cc=.lst l∨cc=.rol l)(hm:m0[n]? =some a):a3H Γ (Itl K a) l [(n,cc)] m0 H0:=by intro i ah m H p k0 S g;obtain⟨vs,h1,h2⟩:=P0 hK h S (p.get hm) (b3U g);refine⟨λhi=>⟨vs,h1,by rw[h2.len,hi];exact aj _⟩,λd hd=>?_⟩;obtain⟨v,hv,rv⟩:=h2.get hd;refine⟨⟨vs,v,h1,hv⟩,?_⟩;rintro w H' ⟨rfl,hw⟩;have:=hw vs h1;rw[hv] at this;cases this;exact⟨Keep.refl _ _,S,rv⟩
theorem a4e:∀{l:List D} {n i:Nat} {d:D},(z8 n l)[i]? =some d->∃x,l[i]? =some x/\d=.tup [.int ((n+i:Nat):Int),x]
 |[],_,_,_,h=>by simp[z8] at h
 |x::r,n,0,d,h=>by simp only[z8,List.getElem?_cons_zero] at h;cases h;exact⟨x,rfl,rfl⟩
 |x::r,n,i+1,d,h=>by simp only[z8,List.getElem?_cons_succ] at h;obtain⟨y,h1,h2⟩:=a4e h;exact⟨y,by simpa using h1,by rw[h2];congr 3;omega⟩
theorem a4d:∀{l:List D} {n:Nat},(z8 n l).length=l.length
 |[],_=>rfl
 |x::r,n=>by simp only[z8,length_cons,a4d]
theorem a7S(hK:K=Γ.K){a:Addr}{l:List D}(h:cc=.lst l∨cc=.rol l)(hm:m0[n]? =some a):a3H Γ (Ite K a) (z8 0 l) [(n,cc)] m0 H0:=by intro i ah m H p k0 S g;obtain⟨vs,h1,h2⟩:=P0 hK h S (p.get hm) (b3U g);refine⟨λhi=>⟨vs,h1,by rw[h2.len,hi,a4d];exact aj _⟩,λd hd=>?_⟩;obtain⟨x,hx,rfl⟩:=a4e hd;obtain⟨v,hv,rv⟩:=h2.get hx;refine⟨⟨vs,v,h1,hv⟩,?_⟩;rintro w H' ⟨T,y,hT,rfl,hw,rfl⟩;have:=hw vs h1;rw[hv] at this;cases this;refine⟨Keep.new hT,S.new hT,T,[.int i,v],rfl,b8,.int i,[v],rfl,?_,v,[],rfl,rv.mono (Pre.refl m) (Keep.new hT),rfl⟩;show V.int (i:Int)=V.int ((0+i:Nat):Int);rw[aB]
theorem b6E{a:Addr}{l:List D}(ha:H0 a=some (.tup vs))(r:Rps m0 H0 l vs):a3H Γ (Itt K a) l [] m0 H0:=by intro i ah m H p k0 S g;have h1:=k0.tup ha;have h2:=r.mono p k0;refine⟨λhi=>⟨vs,.inl (.inl h1),by rw[h2.len,hi];exact aj _⟩,λd hd=>?_⟩;obtain⟨v,hv,rv⟩:=h2.get hd;refine⟨⟨vs,v,.inl (.inl h1),hv⟩,?_⟩;rintro w H' ⟨rfl,hw⟩;have:=hw vs (.inl (.inl h1));rw[hv] at this;cases this;exact⟨Keep.refl _ _,S,rv⟩
theorem b6F:a3H Γ (L2.Its z) (V8 z) [] m0 H0:=by
 intro i ah m H p k0 S g;refine⟨λhi=>?_,λd hd=>?_⟩
 · show i=z.cps.size;rw[hi];simp[V8]
 · unfold V8 at hd;rw[ak] at hd;cases hc:z.cps.toList[i]? with
   |none=>rw[hc] at hd;cases hd
   | some cc=>
    rw[hc] at hd;cases hd;have hi:i<z.cps.size:=by
     have:=(ae.mp hc).1
     simpa using this
    refine⟨hi,?_⟩;rintro v H' ⟨rfl,c',h1,rfl⟩;rw[Array.getElem?_toList] at hc;rw[hc] at h1;cases h1;exact⟨Keep.refl _ _,S,rfl⟩
theorem b6G{lo:Int}:a3H Γ (Itr lo n) (a9S lo n) [] m0 H0:=by
 intro i ah m H p k0 S g;refine⟨λhi=>?_,λd hd=>?_⟩
 · show n<=i;rw[hi];simp[a9S]
 · unfold a9S at hd;rw[ak] at hd;cases hc:(List.range n)[i]? with
   |none=>rw[hc] at hd;cases hd
   |some j=>
    rw[hc] at hd;cases hd;obtain⟨h1,h2⟩:=ae.mp hc;rw[List.getElem_range] at h2;rw[aH] at h1;subst h2;refine⟨h1,?_⟩;rintro v H' ⟨rfl,rfl⟩;exact⟨Keep.refl _ _,S,rfl⟩
variable{tg a b:Expr}{x y:E}{pos p:Pos}
theorem c0n(C:Cxt X Γ G ct c Ex N sc bJ)(ha:PE X a (TEv Γ Ex (ev ct c x))):PI X tg a (TIv Γ Ex (evi ct c (.seq x))):=by
 intro bp s σ H R I ⟨env,ah,m,rl,q⟩;rw[a2z] at q;cases hr:ev ct c x env ah with
 | ok d bz=>
  rw[hr,g9] at q;unfold W5 at q;split at q
  · refine b5J ha bp s σ H R I ⟨env,ah,m,rl,?_⟩;rw[hr];intro m1 H1 v p1 k1 s1 r1;cases r1;exact⟨_,rfl,(q m1 H1 p1 k1 s1) s1 _ b6F⟩
  · refine b5I ha bp s σ H R I ⟨env,ah,m,rl,?_⟩;rw[hr];intro m1 H1 v p1 k1 s1 r1;obtain⟨ad,vs,rfl,h1,q1⟩:=r1;exact⟨ad,rfl,⟨vs,.inl (.inl h1)⟩,(q m1 H1 p1 k1 s1) s1 _ (b6E h1 q1)⟩
  · rename_i n;refine b2Z ha bp s σ H R I ⟨env,ah,m,rl,?_⟩;rw[hr];intro m1 H1 v p1 k1 s1 r1;split at q
    · rename_i l e;obtain⟨ad,vs,rfl,hm,h1,q1⟩:=s1.lst e r1;exact⟨ad,rfl,⟨vs,.inl (.inl h1)⟩,(q m1 H1 p1 k1 s1) s1 _ (a7R C.K (.inl rfl) hm)⟩
    · rename_i l e;obtain⟨ad,vs,rfl,hm,h1,q1⟩:=s1.rdL (l:=l) (by unfold rdL;rw[e]) r1;exact⟨ad,rfl,⟨vs,by rw[C.K];exact h1⟩,(q m1 H1 p1 k1 s1) s1 _ (a7R C.K (.inr rfl) hm)⟩
    · exact q.elim
  · exact q.elim
 |no=>rw[hr] at q;exact q.elim
theorem b7A(C:Cxt X Γ G ct c Ex N sc bJ)(hg:K1 sc "range"=true)(hm:X.mg "range"=none)(hp:t9 a=true)(ha:PE X a (TEv Γ Ex (ev ct c x))):PI X tg (.Call (.Name "range" p) [a] [] pos) (TIv Γ Ex (evi ct c (.rng1 x))):=by
 intro bp s σ H R I ⟨env,ah,m,rl,q⟩;refine a8I (C.gl hg) hm (U5 ha a2X (k7 hp)) (k7 hp) bp s σ H R I ⟨env,ah,m,rl,?_⟩;refine j0.first rl q λd1 bz m1 H1 v1 p1 k1 bC r1 q1=>?_;unfold a9R at q1;split at q1
 · rename_i i j e1;cases e1;cases r1;split at q1
   · rename_i hh;refine⟨j,rfl,(a0c hh.2).1,(a0c hh.2).2,?_⟩;have:=q1.ok bC.sim bC.sim (Itr 0 (j-0).toNat) b6G
     rwa [Int.sub_zero] at this
   · exact q1.elim
 · exact q1.elim
theorem c1n{g:Nat×Cell}{g':List (Nat×Cell)}(h:gOk (g::g') ah=true):ah[g.1]? =some g.2/\gOk g' ah=true:=by unfold gOk at h⊢;rw[all_cons,af] at h;exact⟨aw h.1,h.2⟩
theorem a6a{a:List D×Cell}(h:a3Y ah n=some a):ah[n]? =some a.2/\(a.2=.lst a.1∨a.2=.rol a.1):=by
 unfold a3Y at h;split at h
 · rename_i l e;cases h;exact⟨e,.inl rfl⟩
 · rename_i l e;cases h;exact⟨e,.inr rfl⟩
 · cases h
theorem a2D:∀{l l':List D} {i:Nat} {d:D},(O1 l l')[i]? =some d->∃x y,l[i]? =some x/\l'[i]? =some y/\d=.tup [x,y]
 |[],l',i,d,h=>by simp[O1] at h
 |x::xs,[],i,d,h=>by simp[O1] at h
 |x::xs,y::ys,0,d,h=>by simp only[O1,List.getElem?_cons_zero] at h;cases h;exact⟨x,y,rfl,rfl,rfl⟩
 |x::xs,y::ys,i+1,d,h=>by simp only[O1,List.getElem?_cons_succ] at h;obtain⟨a,b,h1,h2,h3⟩:=a2D h;exact⟨a,b,by simpa using h1,by simpa using h2,h3⟩
theorem a2C:∀{l l':List D},l.length<=(O1 l l').length∨l'.length<=(O1 l l').length
 |[],l'=>.inl (fq _)
 |x::xs,[]=>.inr (fq _)
 |x::xs,y::ys=>by
  simp only[O1,length_cons];rcases a2C (l:=xs) (l':=ys) with h|h
  · exact .inl (Nat.succ_le_succ h)
  · exact .inr (Nat.succ_le_succ h)
theorem b6D(hK:K=Γ.K){n':Nat}{a:Addr}{l:List D}{cc':Cell}(h:cc=.lst l∨cc=.rol l)(h':cc'=.lst l'∨cc'=.rol l')(hm:m0[n]? =some a)(hm':m0[n']? =some a'):
 a3H Γ (Itz K a a') (O1 l l') [(n,cc),(n',cc')] m0 H0:=by
 intro i ah m H p k0 S g;obtain⟨g1,g2⟩:=c1n g;obtain⟨vs,h1,h2⟩:=P0 hK h S (p.get hm) g1;obtain⟨ws,h3,h4⟩:=P0 hK h' S (p.get hm') (b3U g2);refine⟨λhi=>⟨vs,ws,h1,h3,?_⟩,λd hd=>?_⟩
 · rw[h2.len,h4.len,hi];exact a2C
 · obtain⟨x,y,hx,hy,rfl⟩:=a2D hd;obtain⟨v,hv,rv⟩:=h2.get hx;obtain⟨u,hu,ru⟩:=h4.get hy;refine⟨⟨vs,ws,v,u,h1,h3,hv,hu⟩,?_⟩;rintro w H' ⟨T,z,z',hT,rfl,hw,hw',rfl⟩;have e1:=hw vs h1;have e2:=hw' ws h3;rw[hv] at e1;rw[hu] at e2;cases e1;cases e2;exact⟨Keep.new hT,S.new hT,T,[v,u],rfl,b8,v,[u],rfl,rv.mono (Pre.refl m) (Keep.new hT),u,[],rfl,ru.mono (Pre.refl m) (Keep.new hT),rfl⟩
theorem b3B{a:Addr}{l:List D}{ws:List V}(ha:H0 a=some (.tup vs))(r:Rps m0 H0 l vs)(ha':H0 a'=some (.tup ws))(r':Rps m0 H0 l' ws):a3H Γ (b7P K a a') (O1 l l') [] m0 H0:=by
 intro i ah m H p k0 S g;have h1:SqT K H a vs:=.inl (.inl (k0.tup ha));have h3:SqT K H a' ws:=.inl (.inl (k0.tup ha'));have h2:=r.mono p k0;have h4:=r'.mono p k0;refine⟨λhi=>⟨vs,ws,h1,h3,?_⟩,λd hd=>?_⟩
 · rw[h2.len,h4.len,hi];exact a2C
 · obtain⟨x,y,hx,hy,rfl⟩:=a2D hd;obtain⟨v,hv,rv⟩:=h2.get hx;obtain⟨u,hu,ru⟩:=h4.get hy;refine⟨⟨vs,ws,v,u,h1,h3,hv,hu⟩,?_⟩;rintro w H' ⟨T,z,z',hT,rfl,hw,hw',rfl⟩;have e1:=hw vs h1;have e2:=hw' ws h3;rw[hv] at e1;rw[hu] at e2;cases e1;cases e2;exact⟨Keep.new hT,S.new hT,T,[v,u],rfl,b8,v,[u],rfl,rv.mono (Pre.refl m) (Keep.new hT),u,[],rfl,ru.mono (Pre.refl m) (Keep.new hT),rfl⟩
theorem c0k(C:Cxt X Γ G ct c Ex N sc bJ)(hg:K1 sc "zip"=true)(hm:X.mg "zip"=none)(hp:t9 a=true)(hpb:t9 b=true)(ha:PE X a (TEv Γ Ex (ev ct c x)))(hb:PE X b (TEv Γ Ex (ev ct c y))):PI X (.Tuple cV kk tp) (.Call (.Name "zip" p) [a,b] [] pos) (TIv Γ Ex (evi ct c (.zip x y))):=by
 intro bp s σ H R I ⟨env,ah,m,rl,q⟩;refine b2Y (C.gl hg) hm (U5 ha (U5 hb a2X (k7 hpb)) (k7 hp)) (k7 hp) (T7 (by simp[hpb])) bp s σ H R I ⟨env,ah,m,rl,?_⟩;refine j0.first rl q λd1 bz m1 H1 v1 p1 k1 bC r1 q1=>?_;refine⟨env,bz,m1,bC,j0.first bC q1 λd2 bW m2 H2 v2 p2 k2 cy r2 q2=>?_⟩;unfold a8o at q2;split at q2
 · split at q2
   · obtain⟨ad,vs,rfl,h1,g1⟩:=r1.mono p2 k2;obtain⟨ad',ws,rfl,h2,g2⟩:=r2;exact⟨ad,ad',vs,ws,rfl,.inr ⟨.inl (.inl h1),.inl (.inl h2),q2.ok cy.sim cy.sim _ (b3B h1 g1 h2 g2)⟩⟩
   · exact q2.elim
 · unfold b2i at q2;split at q2
   · split at q2
     · rename_i e1 e2;obtain⟨c1,w1⟩:=a6a e1;obtain⟨c2,w2⟩:=a6a e2;obtain⟨ad,rfl,hm1⟩:=r1.mono p2 k2;obtain⟨ad',rfl,dY⟩:=r2;obtain⟨vs,h1,_⟩:=P0 C.K w1 cy.sim hm1 c1;obtain⟨ws,h2,_⟩:=P0 C.K w2 cy.sim dY c2;exact⟨ad,ad',vs,ws,rfl,.inl ⟨h1,h2,q2.ok cy.sim cy.sim _ (b6D C.K w1 w2 hm1 dY)⟩⟩
     · exact q2.elim
   · exact q2.elim
theorem b7E(C:Cxt X Γ G ct c Ex N sc bJ)(hg:K1 sc "enumerate"=true)(hm:X.mg "enumerate"=none)(hp:t9 a=true)(ha:PE X a (TEv Γ Ex (ev ct c x))):PI X (.Tuple cV kk tp) (.Call (.Name "enumerate" p) [a] [] pos) (TIv Γ Ex (evi ct c (.enum x))):=by
 intro bp s σ H R I ⟨env,ah,m,rl,q⟩;refine b3a (C.gl hg) hm (U5 ha a2X (k7 hp)) (k7 hp) bp s σ H R I ⟨env,ah,m,rl,?_⟩;refine j0.first rl q λd1 bz m1 H1 v1 p1 k1 bC r1 q1=>?_;unfold a1i at q1;split at q1
 · split at q1
   · rename_i l e;obtain⟨ad,vs,rfl,hm,h1,_⟩:=bC.sim.lst e r1;exact⟨ad,vs,rfl,.inl (.inl h1),q1.ok bC.sim bC.sim _ (a7S C.K (.inl rfl) hm)⟩
   · rename_i l e;obtain⟨ad,vs,rfl,hm,h1,_⟩:=bC.sim.rdL (l:=l) (by unfold rdL;rw[e]) r1;exact⟨ad,vs,rfl,by rw[C.K];exact h1,q1.ok bC.sim bC.sim _ (a7S C.K (.inr rfl) hm)⟩
   · exact q1.elim
 · exact q1.elim
theorem a9O{k:Key}(h:D9 d=some k):Rp m H d (kV k):=by
 cases d with
 |int i=>cases h;rfl
 |str x=>cases h;rfl
 |_=>cases h
theorem a5I{m:List Addr}{H:Hp}:∀{l:List D} {ks:List Key},v7 l=some ks->Rps m H l (ks.map kV)
 |[],ks,h=>by cases h;rfl
 |d::r,ks,h=>by
  unfold v7 at h;split at h
  · rename_i h1 h2;cases h;exact⟨_,_,rfl,a9O h1,a5I h2⟩
  · cases h
abbrev PrR(m:List Addr)(H:Hp):List (D×D)->List (V×V)->Prop:=Paired λp q=>Rp m H p.1 q.1/\Rp m H p.2 q.2
theorem prk{m:List Addr}{H H2:Hp}(sm:∀b o,H b=some o->H2 b=some o):∀{bq:List (D×D)} {l:List (Key×V)},DK m H bq l->PrR m H2 bq (l.map λp=>(kV p.1,p.2))
 |_,_,.nil=>.nil
 |_,_,.cons ⟨h1,h2⟩ t=>.cons ⟨a9O h1,h2.mono' (Pre.refl m) λb o _ e=>sm b o e⟩ (prk sm t)
theorem prt{m:List Addr}{H H2:Hp}(sm:∀b o,H b=some o->H2 b=some o):∀{bq:List (D×D)} {l:List (List Key×V)} {kv:List (V×V)},DT m H bq l->Paired (fun(p:List Key×V) (q:V×V)=>(∃b,q.1=V.ref b/\H b=some (.tup (p.1.map kV)))/\p.2=q.2) l kv->PrR m H2 bq kv
 |_,_,_,.nil,.nil=>.nil
 |(k,v)::_,_,(x,y)::_,.cons ⟨⟨lk,e1,h1⟩,h2⟩ t,.cons ⟨⟨b,e2,h3⟩,e3⟩ u=>by cases (show k=.tup lk from e1);cases (show x=.ref b from e2);cases (show _=y from e3);exact .cons ⟨⟨b,_,rfl,sm _ _ h3,a5I h1⟩,h2.mono' (Pre.refl m) λb o _ e=>sm b o e⟩ (prt sm t u)
theorem b0i{m:List Addr}{H:Hp}:∀{bq:List (D×D)} {kv:List (V×V)} {as:List Addr},PrR m H bq kv->TPs H as kv->Rps m H (bq.map λp=>.tup [p.1,p.2]) (as.map V.ref)
 |_,_,[],.nil,_=>rfl
 |_,_,a::as,.cons ⟨h1,h2⟩ t,⟨h3,h4⟩=>⟨_,_,rfl,⟨a,_,rfl,h3,_,_,rfl,h1,_,_,rfl,h2,rfl⟩,b0i t h4⟩
 |_,_,[],.cons _ _,h=>h.elim
 |_,_,_::_,.nil,h=>h.elim
theorem c0u (C:Cxt X Γ G ct c Ex N sc bJ) (hg:K1 sc "list"=true) (hm:X.mg "list"=none) (hb:J7 a=true) (hl:(bH.endLine==bF.line)=true) (ha:PE X a (TEv Γ Ex (ev ct c x))):
 PE X (.Call (.Name "list" p) [.Call (.Attribute a "items" bH) [] [] bF] [] pos) (TEv Γ Ex (ev ct c (.lsi x))):=by
 refine PE.imp (b5S (C.gl hg) hm C.calm ha (L1 hb) hl) ?_;rintro σ H Q ⟨env,ah,m,rl,q⟩;refine⟨env,ah,m,rl,d0.first rl q λd1 bz m1 H1 v p1 k1 bC r1 q1=>?_⟩;unfold b3x at q1;split at q1
 · rename_i n bq e;obtain⟨rfl,e1⟩:=a6u e;obtain⟨ad,rfl,hm1⟩:=r1;have ck:C8 Γ m1 H1 ad (.dict bq):=bC.sim.at hm1 e1;refine⟨ad,rfl,ck.imp (λ⟨l,h,_⟩=>⟨l,h⟩) (λ⟨l,h,_⟩=>⟨l,h⟩),λkv p as H2 di sm np tp=>?_⟩;have kp:Keep m1 m1 H1 H2:=⟨λb o _ h=>sm b o h,λb o _ h=>sm b o h,λ_ h=>.inl h⟩;have pr:PrR m1 H2 bq kv:=by
    rcases ck with⟨l,h1,h2⟩|⟨l,h1,h2⟩
    · rcases di with⟨l',h3,rfl⟩|⟨l',h3,h4⟩
      · rw[h1] at h3;cases h3;exact prk sm h2
      · rw[h1] at h3;cases h3
    · rcases di with⟨l',h3,rfl⟩|⟨l',h3,h4⟩
      · rw[h1] at h3;cases h3
      · rw[h1] at h3;cases h3;exact prt sm h2 h4
   exact(q1.later (Pre.refl m1) kp).newc (bC.sim.same sm) np ⟨_,b8,(b0i pr tp).mono (Pre.snoc m1 p) (Keep.newc np)⟩
 · exact q1.elim
end
variable{env:l0}{σ:St}{own:List Str}{js:List Nat}{p:Pat}{α:Type}{Q:VK}{e:E}{bz:AH}{m1:List Addr}{H1:Hp}{it:I}{l:List (D×D)}{u:HO}{m':List Addr}{H':Hp}{od:Obj}{ca:Expr}{iter:Expr}{tg:Expr}{scope:Scope}{pos:Pos}{frees:List Str}{op:CmpOp}{β:Type}
section
variable{X:Cx}{Γ:Gm}{G:GT}{ct:CT}{c:CF}{Ex:XK}{N:List Str}{sc:Scope}{bJ:Bool}
theorem a6q(h:EnvRel m H env σ)(own:List Str)(js:List Nat):EnvRel m H (t8 own.length js env) (A8 own js σ):=by
 refine⟨by simp[t8,A8],λi d e=>?_⟩;unfold t8 at e;unfold A8
 by_cases hi:i<own.length
 · rw[av (by simpa using hi),bo,ay hi] at e;cases e
 · have hi':own.length<=i:=aQ hi;rw[au (by simpa using hi'),aZ,ak] at e;rw[au (by simpa using hi'),aa,ak];cases hj:js[i-own.length]? with
   |none=>rw[hj] at e;cases e
   | some j=>
    rw[hj] at e;have e':(env[j]?).join=some d:=ax e;have e2:env[j]? =some (some d):=by
     cases q:env[j]? with
     |none=>rw[q] at e';cases e'
     |some z=>rw[q] at e';exact fh some e'
    obtain⟨v,h1,h2⟩:=h.val j d e2;exact⟨v,by rw[Option.map_some,h1];rfl,h2⟩
theorem b2j{dZ:St}(hp:(E6 p).all (λi=>decide (i<own.length))=true)(hl:dZ.length=(A8 own js σ).length)(hs:∀(j:Nat),j∉E6 p->dZ[j]? =(A8 own js σ)[j]?):Wk (A8 own js σ) dZ:=by
 refine⟨hl.symm,λi v h=>?_⟩;rw[hs i]
 · exact h
 · intro hm;have:=aw (ba.mp hp i hm);unfold A8 at h;rw[av (by simpa using this),ak] at h;cases q:own[i]? with
   |none=>rw[q] at h;cases h
   |some z=>rw[q] at h;cases h
theorem a7K{r:R α}{f:α->AH->R D}(h:d0 Γ Ex m H (r.bind f) Q):∃a ah,r=.ok a ah/\d0 Γ Ex m H (f a ah) Q:=by
 cases r with
 |ok a ah=>exact⟨a,ah,rfl,h⟩
 |no=>exact h.elim
def CW(own:List Str)(js:List Nat)(g:TG)(tc:TT)(te:TE)(σ:St)(J:It)(H1:Hp)(Q:VK):Prop:=∀D,H1 D=none→
 ∃ W:Nat->Nat->List V->Hp->Prop,(∃m,W 0 m [] (upd H1 D (.lst [])))/\∀i m ys H2,W i m ys H2→
  (J.stop i H2/\Q (.ref D) H2)∨(J.go i H2/\∀x H3,J.yld i H2 x H3->g x (A8 own js σ) H3 λdZ H4=>Wk (A8 own js σ) dZ/\tc dZ H4 λb H5=>
   if b=true then te dZ H5 λy H6=>H6 D=some (.lst ys)/\ys.length<sizeLine/\∃m',m'<m/\W (i+1) m' (ys++[y]) (upd H6 D (.lst (ys++[y])))
   else∃m',m'<m/\W (i+1) m' ys H5)
theorem a4i {t:T} {x:Its} {J:It} (hp:(E6 p).all (λi=>decide (i<own.length))=true)
 (er1:EnvRel m1 H1 env σ) (s1:Sim Γ bz m1 H1) (hJ:a3H Γ J x.1 x.2 m1 H1) (q1:d0 Γ Ex m1 H1 ((B0 x.2 p (tst ct c t) (ev ct c e) (t8 own.length js env) x.1 [] bz).bind λds h2=>u9 (.lst ds) h2) Q):
 CW own js (TGv Γ p) (TTv Γ E0 (tst ct c t)) (TEv Γ E0 (ev ct c e)) σ J H1 Q:=by
 intro D hD;refine⟨λi mm ys H2=>mm=x.1.length-i/\i<=x.1.length/\∃bw bW m2,Sim Γ bW m2 H2/\Pre m1 m2/\Keep m1 m2 H1 H2/\D∉m2/\H2 D=some (.lst ys)/\Rps m2 H2 bw ys∧
  d0 Γ Ex m1 H1 ((B0 x.2 p (tst ct c t) (ev ct c e) (t8 own.length js env) (x.1.drop i) bw bW).bind λds h2=>u9 (.lst ds) h2) Q,?_,?_⟩
 · exact⟨_,rfl,fq _,[],bz,m1,s1.new hD,Pre.refl _,Keep.new hD,s1.fresh hD,b8,rfl,q1⟩
 · rintro i mm ys H2 ⟨hmm,hil,bw,bW,m2,s2,p2,k2,nD,hD2,rs2,q2⟩
   by_cases hend:i=x.1.length
   · refine .inl ?_;rw[hend,drop_length] at q2;obtain⟨ds,eF,e3,q3⟩:=a7K q2;unfold B0 at e3;split at e3
     · rename_i hgk;cases e3;refine⟨(hJ i bW m2 H2 p2 k2 s2 hgk).1 hend,?_⟩;have sm:Sim Γ (bW++[.lst bw]) (m2++[D]) H2:=by
        refine⟨by simp[s2.len],a0B s2.nd nD,λn a cc hn dG=>?_⟩;have kk:Keep m2 m2 H2 H2:=Keep.refl _ _
        by_cases hl:n<m2.length
        · rw[av hl] at hn;rw[av (by rw[←s2.len];exact hl)] at dG;exact(s2.at hn dG).mono' (Pre.snoc m2 D) (λ_ _ _ z=>z) rfl
        · have hn':n=m2.length:=by have:=(ae.mp hn).1;simp at this;omega
          subst hn';rw[au (aj _)] at hn;rw[s2.len,au (aj _)] at dG;simp at hn dG;subst hn;subst dG;exact⟨ys,hD2,rs2.mono' (Pre.snoc m2 D) λ_ _ _ z=>z⟩
       refine q3 (m2++[D]) H2 (.ref D) (p2.trans (Pre.snoc m2 D)) ⟨k2.imm,k2.out,λa ha=>?_⟩ sm ⟨D,rfl,?_⟩
       · rcases aI.mp ha with z|z
         · exact k2.fr a z
         · simp at z;subst z;exact .inr hD
       · rw[←s2.len,au (aj _)];simp
     · cases e3
   · refine .inr ?_;have hlt:i<x.1.length:=Nat.lt_of_le_of_ne hil hend;have hdi:x.1[i]? =some x.1[i]:=ai hlt;rw[fU hlt] at q2;generalize hdd:x.1[i]=dd at q2 hdi;obtain⟨ds,eF,e3,q3⟩:=a7K q2;unfold B0 at e3;split at e3
     · rename_i hgk;obtain⟨go,yl⟩:=(hJ i bW m2 H2 p2 k2 s2 hgk).2 dd hdi;refine⟨go,λv H3 hy=>?_⟩;obtain⟨k3,s3,r3⟩:=yl v H3 hy;split at e3
       · cases e3
       · rename_i envb hb;have er3:EnvRel m2 H3 (t8 own.length js env) (A8 own js σ):=a6q ((er1.mono p2 k2).mono (Pre.refl m2) k3) own js;refine⟨_,dd,m2,envb,er3,r3,hb,λdZ er4 l4 s4=>⟨b2j hp l4 s4,envb,bW,m2,⟨s3,er4⟩,?_⟩⟩;have hD3:H3 D=some (.lst ys):=k3.out D _ nD hD2;have ab:∀{m9:List Addr} {H9:Hp},Pre m2 m9->Keep m2 m9 H3 H9->D∉m9/\H9 D=some (.lst ys):=fun{m9 H9} p9 k9=>
          ⟨λz=>(k9.fr D z).elim nD λy=>(by rw[hD3] at y;cases y),k9.out D _ nD hD3⟩
         cases ht:tst ct c t envb bW with
         |no=>rw[ht] at e3;cases e3
         | ok bb ah4=>
          rw[ht,g9] at e3;intro m5 H5 p5 k5 s5;obtain⟨nD5,hD5⟩:=ab p5 k5;have k25:=k3.trans k5;cases bb with
          |false=>
           rw[az (by decide)] at e3;refine b6C ⟨x.1.length-(i+1),by omega,rfl,hlt,bw,ah4,m5,s5,p2.trans p5,k2.trans k25,nD5,hD5,rs2.mono p5 k25,?_⟩;rw[e3];exact q3
          | true=>
           rw[ay rfl] at e3;refine b6B ⟨envb,ah4,m5,⟨s5,er4.mono p5 k5⟩,?_⟩;cases hv:ev ct c e envb ah4 with
           |no=>rw[hv] at e3;cases e3
           | ok d6 ah6=>
            rw[hv,g9] at e3;split at e3
            · rename_i hz;intro m6 H6 v6 p6 k6 s6 r6;have k36:=k5.trans k6;obtain⟨nD6,hD6⟩:=ab (p5.trans p6) k36;have rs6:=rs2.mono (p5.trans p6) (k25.trans k6);have im6:∀b o,Im o->H6 b=some o->upd H6 D (.lst (ys++[v6])) b=some o:=λb o io hbo=>by
               have:b≠D:=λz=>by rw[z,hD6] at hbo;cases hbo;exact io
               rw[c9 this];exact hbo
              refine⟨hD6,by rw[rs6.len,←Q1];exact hz,x.1.length-(i+1),by omega,rfl,hlt,bw++[d6],ah6,m6,?_,p2.trans (p5.trans p6),?_,nD6,b8,(rs6.snoc r6).mono' (Pre.refl m6) (λb o i h=>im6 b o (imt i) h),?_⟩
              · refine⟨s6.len,s6.nd,λn a cc hn dG=>(s6.at hn dG).mono' (Pre.refl m6) (λb o i h=>im6 b o (imt i) h) ?_⟩;exact c9 λz=>nD6 (by rw[←z];exact aF hn)
              · have kall:=k2.trans (k25.trans k6);refine⟨λb o io hb=>im6 b o io (kall.imm b o io hb),λb o nb hb=>?_,kall.fr⟩;rw[c9 (r8 hb hD)];exact kall.out b o nb hb
              · rw[e3];exact q3
            · cases e3
     · cases e3
theorem a6x{t:T}(hp:(E6 p).all (λi=>decide (i<own.length))=true):∀σ H Q,TEv Γ Ex (ev ct c (.comp p it own.length js t e)) σ H Q->a5B own js (TIv Γ Ex (evi ct c it)) (TGv Γ p) (TTv Γ E0 (tst ct c t)) (TEv Γ E0 (ev ct c e)) σ H Q:=by rintro σ H Q ⟨env,ah,m,rl,q⟩;exact⟨env,ah,m,rl,q.bind.mp λx bz m1 H1 p1 k1 s1 q1=>λ_ J hJ=>a4i hp (rl.env.mono p1 k1) s1 hJ q1⟩
theorem a7c{i:Nat}(h:(J9 l)[i]? =some d):∃p,l[i]? =some p/\d=.tup [p.1,p.2]:=by unfold J9 at h;rw[ak] at h;obtain⟨p,h1,h2⟩:=Option.map_eq_some_iff.mp h;exact⟨p,h1,h2.symm⟩
theorem DK.get{bq:List (Key×V)}(r:DK m H l bq):∀{i:Nat} {p:D×D},l[i]? =some p->∃q,bq[i]? =some q/\D9 p.1=some q.1/\Rp m H p.2 q.2:=by
 induction r with
 |nil=>intro i p h;cases i<;>cases h
 | @cons a b as bs h t ih=>
  intro i p e;cases i with
  |zero=>cases ax e;exact⟨b,rfl,h.1,h.2⟩
  |succ i=>exact ih e
theorem DK.len{bq:List (Key×V)}(r:DK m H l bq):l.length=bq.length:=Paired.length r
theorem a7N{k:Key}(h:D9 d=some k):Rp m H d (kV k):=by cases d<;>first|(cases h;rfl)|cases h
theorem a6b{m:List Addr}{H:Hp}:∀{l:List D} {ks:List Key},v7 l=some ks->Rps m H l (ks.map kV)
 |[],ks,h=>by cases h;rfl
 |d::r,ks,h=>by
  unfold v7 at h;split at h
  · rename_i k ks' h1 h2;cases h;exact⟨kV k,ks'.map kV,rfl,a7N h1,a6b h2⟩
  · cases h
theorem b7j {a:Addr} {bq:List (V×V)} (r:DU m H l u) (hu:H1 a=some u) (di:DIt H1 a bq) (kt:∀b xs,H1 b=some (.tup xs)->H b=some (.tup xs)):
 bq.length=l.length/\∀{i:Nat} {p:D×D},l[i]? =some p->∃q,bq[i]? =some q/\Rp m H p.1 q.1/\Rp m H p.2 q.2:=by
 rcases r with⟨gs,rfl,r⟩|⟨gs,rfl,r⟩
 · rcases di with⟨l',e1,rfl⟩|⟨l',e1,_⟩
   · rw[hu] at e1;cases e1;refine⟨by rw[aa];exact r.len.symm,fun{i p} hp=>?_⟩;obtain⟨q,h1,h2,h3⟩:=r.get hp;exact⟨(kV q.1,q.2),by rw[ak,h1];rfl,a7N h2,h3⟩
   · rw[hu] at e1;cases e1
 · rcases di with⟨l',e1,_⟩|⟨l',e1,pr⟩
   · rw[hu] at e1;cases e1
   · rw [hu] at e1;cases e1;refine⟨(Paired.length pr).symm.trans (Paired.length r).symm,fun{i p} hp=>?_⟩;have go:∀{l:List (D×D)} {gs:List (List Key×V)} {bq:List (V×V)},DT m H l gs->Paired (λp q=>(∃b,q.1=V.ref b/\H1 b=some (.tup (p.1.map kV)))/\p.2=q.2) gs bq->∀{i:Nat} {p:D×D},l[i]? =some p->∃q,bq[i]? =some q/\Rp m H p.1 q.1/\Rp m H p.2 q.2:=by
      intro l gs bq r
      induction r generalizing bq with
      |nil=>intro _ i p h;cases i<;>cases h
      | @cons x y xs ys h t ih=>
       intro pr i p e;cases pr with
       | @cons _ z _ zs h' t'=>
        cases i with
        |zero=>
         cases ax e;obtain⟨⟨ld,e1,e2⟩,e3⟩:=h;obtain⟨⟨b,e4,e5⟩,e6⟩:=h';refine⟨z,rfl,?_,by rw[←e6];exact e3⟩;rw[e1,e4];exact⟨b,_,rfl,kt _ _ e5,a6b e2⟩
        |succ i=>exact ih t' e
     exact go r pr hp
theorem DU.mono(r:DU m H l u)(p:Pre m m')(k:KIm H H'):DU m' H' l u:=by
 rcases r with⟨bq,z,r⟩|⟨bq,z,r⟩
 · exact .inl ⟨bq,z,r.mono p k⟩
 · exact .inr ⟨bq,z,r.mono p k⟩
theorem b0V{a:Addr}{bq:List (V×V)}(r0:DU m0 H0 l u)(h0:H0 a=some (.frz od u))(hu:H1 a=some u)(di:DIt H1 a bq)(kt:∀b xs,H1 b=some (.tup xs)->H0 b=some (.tup xs)):a3H Γ (Itd a od u bq) (J9 l) [(n,.rod l)] m0 H0:=by
 intro i ah m H p k0 S g;have hd:=k0.imm a (.frz od u) trivial h0;obtain⟨hl,get⟩:=b7j (r0.mono p k0.im) hu di λb xs e=>k0.imm b _ trivial (kt b xs e);refine⟨λhi=>⟨hd,?_⟩,λd h=>?_⟩
 · rw[hi,J9,aa,hl];exact aj _
 · obtain⟨x,hx,rfl⟩:=a7c h;obtain⟨q,hq,hk,rq⟩:=get hx;refine⟨⟨hd,q,hq⟩,?_⟩;rintro w H' ⟨T,q',hT,rfl,hq',rfl⟩;rw[hq] at hq';cases hq';exact⟨Keep.new hT,S.new hT,T,[q.1,q.2],rfl,b8,q.1,[q.2],rfl,hk.mono (Pre.refl m) (Keep.new hT),q.2,[],rfl,rq.mono (Pre.refl m) (Keep.new hT),rfl⟩
theorem a1N{g:List (Nat×Cell)}{p:Pat}{tt:l0->AH->R Bool}{el:l0->AH->R D}{env0:l0}:∀{l bw ds:List D} {h h':AH},B0 g p tt el env0 l bw h=.ok ds h'->gOk g h'=true
 |[],bw,ds,h,h',q=>by
  unfold B0 at q;split at q
  · rename_i hg;cases q;exact hg
  · cases q
 |x::r,bw,ds,h,h',q=>by
  unfold B0 at q;split at q
  · split at q
    · cases q
    · rename_i env _;cases e1:tt env h with
      |no=>rw[e1] at q;cases q
      |ok b h1=>
       rw[e1,g9] at q;split at q
       · cases e2:el env h1 with
         |no=>rw[e2] at q;cases q
         |ok d h2=>
          rw[e2,g9] at q;split at q
          · exact a1N q
          · cases q
       · exact a1N q
  · cases q
theorem a8w{r:R (List D)}{k:Nat}{a:Addr}{H₀:Hp}(hm:m1[k]? =some a)(hd:H1 a=some u)(r1:DU m1 H1 l u)(h0:∀o u,H₀ a≠some (.frz o u))
 (he:∀ds h2,r=.ok ds h2->h2[k]? =some (.rod l)) (q:d0 Γ Ex m1 H1 (r.bind λds h2=>u9 (.lst ds) (h2.set k (.dict l))) Q):
 d0 Γ Ex m1 (upd H1 a (.frz od u)) (r.bind λds h2=>u9 (.lst ds) h2) (λv=>a7w H₀ (Q v)):=by
 cases r with
 |no=>exact q.elim
 | ok ds h2=>
  rw[g9] at q⊢;have e2:=he ds h2 rfl;have kl:k<h2.length:=(ae.mp e2).1;intro m' H' v p' k' s' rv;have hf:H' a=some (.frz od u):=k'.imm a (.frz od u) trivial b8;refine⟨a,od,u,hf,h0,?_⟩;have nim:¬Im u:=λz=>by have:=r1.is;cases u<;>first|exact this|exact z
  have ne:∀{b o},H1 b=some o->Im o->b≠a:=λhb io z=>by rw[z,hd] at hb;cases hb;exact nim io
  have thT:KIm H' (upd H' a u):=λb o io hb=>by rw[c9 (λz=>by rw[z,hf] at hb;cases hb;exact io)];exact hb
  have kp:Keep m1 m' H1 (upd H' a u):=by
   refine⟨λb o io hb=>?_,λb o n hb=>?_,λb hb=>?_⟩
   · have nb:=ne hb io;rw[c9 nb];exact k'.imm b o io (by rw[c9 nb];exact hb)
   · have nb:b≠a:=λz=>n (by rw[z];exact aF hm);rw[c9 nb];exact k'.out b o n (by rw[c9 nb];exact hb)
   · rcases k'.fr b hb with z|z
     · exact .inl z
     · refine .inr ?_;rw[←z,c9];rintro rfl;rw[b8] at z;cases z
  have rr:DU m' (upd H' a u) l u:=by refine r1.mono p' λb o io hb=>?_;have nb:=ne hb (imt io);rw[c9 nb];exact k'.imm b o (imt io) (by rw[c9 nb];exact hb)
  have hm':=p'.get hm;have len:(h2.set k (.dict l)).length=h2.length:=aK ..;refine q m' _ v p' kp ?_ ?_
  · refine⟨by rw[s'.len,aq,aq,len],s'.nd,λn b cc hn hc=>?_⟩
    by_cases e:n=k
    · subst e;rw[hm'] at hn;cases hn;rw[av (by rw[len];exact kl),fb kl] at hc;cases hc;rcases rr with⟨bq,z,rr⟩|⟨bq,z,rr⟩
      · exact .inl ⟨bq,by rw[b8,z],rr⟩
      · exact .inr ⟨bq,by rw[b8,z],rr⟩
    · have em:(h2++[Cell.lst ds])[n]? =some cc:=by
       by_cases hn2:n<h2.length
       · rw[av (by rw[len];exact hn2),eW (ff e)] at hc;rw[av hn2];exact hc
       · rw[au (by rw[len];omega),len] at hc;rw[au (by omega)];exact hc
      have nb:b≠a:=λz=>by subst z;obtain⟨g1,e1⟩:=ae.mp hn;obtain⟨g2,e2⟩:=ae.mp hm';exact e ((getElem_inj s'.nd).mp (e1.trans e2.symm))
      exact(s'.at hn em).mono' (Pre.refl m') thT (c9 nb)
  · rw[show(h2.set k (.dict l)).length=h2.length from len];exact rv.mono' (Pre.refl m') thT
theorem a4j{x:E}{t:T}(hp:(E6 p).all (λi=>decide (i<own.length))=true):
 ∀σ H Q,TEv Γ Ex (ev ct c (.compI p x own.length js t e)) σ H Q->a5B own js (a7g X.H₀ (TEv Γ Ex (ev ct c x))) (TGv Γ p) (TTv Γ E0 (tst ct c t)) (TEv Γ E0 (ev ct c e)) σ H (λv=>a7w X.H₀ (Q v)):=by
 rintro σ H Q ⟨env,ah,m,rl,q⟩;refine⟨env,ah,m,rl,d0.first rl q λd1 bz m1 H1 v1 p1 k1 bC r1 q1=>?_⟩;cases hd:a0v bz d1 with
 |none=>rw[hd] at q1;exact q1.elim
 |some kl=>
  obtain⟨k,l⟩:=kl;rw[hd] at q1;unfold a0v at hd;split at hd
  · rename_i n;split at hd
    · rename_i l' e1;cases hd;obtain⟨a,rfl,hm⟩:=r1;obtain⟨u,hH,du⟩:∃u,H1 a=some u/\DU m1 H1 l u:=by
       rcases bC.sim.at hm e1 with⟨bq,hH,dk⟩|⟨bq,hH,dt⟩
       · exact⟨_,hH,.inl ⟨bq,rfl,dk⟩⟩
       · exact⟨_,hH,.inr ⟨bq,rfl,dt⟩⟩
      refine⟨a,u,rfl,hH,du.is,λod bq di h0=>?_⟩;have nim:¬Im u:=λz=>by have:=du.is;cases u<;>first|exact this|exact z
      have kp:Keep m1 m1 H1 (upd H1 a (.frz od u)):=Keep.put hm hH nim;have du':=du.mono (Pre.refl m1) kp.im;exact a4i (x:=(J9 l,[(k,.rod l)])) hp (bC.env.mono (Pre.refl m1) kp) (bC.sim.write (c:=.rod l) hm hH nim ⟨u,od,b8,du'⟩) (b0V du' b8 hH di λb xs e=>kp.imm b _ trivial e)
       (a8w hm hH du h0 (λds h2 z=>b3U (a1N z)) q1)
    · cases hd
  · cases hd
theorem b7J{ifs:List Expr}{t:T}(C:Cxt X Γ G ct c Ex N sc bJ)(hi:PI X tg iter (TIv Γ Ex (evi ct c it)))(S:CompScope X.env.scope scope own frees)(hj:frees.map some=js.map (X.N[·]?))
 (hg:∀C s₀ H₀ ex,PG (o9 X own frees scope C s₀ H₀ ex) tg (TGv Γ p)) (hc:∀C s₀ H₀ ex,a6F (o9 X own frees scope C s₀ H₀ ex) ifs (TTv Γ E0 (tst ct c t))) (he:∀C s₀ H₀ ex,PE (o9 X own frees scope C s₀ H₀ ex) ca (TEv Γ E0 (ev ct c e)))
 (hs:∀x,foldedSetIterable iter X.env x=pure x) (hp:(E6 p).all (λi=>decide (i<own.length))=true):PE X (.ListComp ca [⟨tg,iter,ifs,0⟩] scope pos) (TEv Γ Ex (ev ct c (.comp p it own.length js t e))):=by
 exact PE.imp (a2U C.calm hi S hj hg hc he hs) (a6x hp)
theorem Cxt.comp(C:Cxt X Γ G ct c Ex N sc bJ)(S:CompScope sc scope own frees)(D:Addr)(s₀:Shared)(H₀:Hp)(ex:List Addr):Cxt (o9 X own frees scope D s₀ H₀ ex) Γ G ct c E0 (own++frees) (a7G sc scope) false where
 hN:=rfl
 nd:=S.nd
 sc:=by rw[←C.sc];rfl
 calm:=C.calm
 hu:=C.hu
 K:=C.K
 fnb:=λh=>by cases h
 scal:=C.scal
 tups:=C.tups
 dicts:=C.dicts
 blt:=C.blt
 fn:=C.fn
 obj:=C.obj
 att:=C.att
 tyc:=C.tyc
theorem a7X:∀{l:List Str} {js:List Nat},b3I N l=some js->l.map some=js.map (N[·]?)
 |[],js,h=>by cases h;rfl
 |x::r,js,h=>by
  unfold b3I at h;split at h
  · rename_i i is h1 h2;cases h;rw[map_cons,map_cons,a5d h1,a7X h2]
  · cases h
theorem a0k{o:B}(h:a7m op=some o):o.cmp=some op:=by cases op<;>cases h<;>rfl
theorem b4x{op:Operator}{o:B}(h:b9Z op=some o):o.bin=some op:=by cases op<;>cases h<;>rfl
theorem Q6{b:Expr}(h:a1a b=true):behindInMarks op b=false:=by cases b<;>first|rfl|cases h
theorem a0C{e:Expr}{env:Env}(h:a1a e=true):∀x,foldedSetIterable e env x=pure x:=by intro x;cases e<;>first|rfl|cases h
theorem a3b{b:Expr}(h:a2x b=true):a2B b:=by intro o i;cases b<;>first|rfl|cases h
def a0y(Γ:Gm)(G:GT)(ct:CT)(c:CF)(n:Nat):Prop:=∀(X:Cx) (Ex:XK) (N:List Str) (sc:Scope) (bJ:Bool),Cxt X Γ G ct c Ex N sc bJ→
 (∀e x,cE G N sc n e=some x->PE X e (TEv Γ Ex (ev ct c x)))/\(∀es xs,cEs G N sc n es=some xs->PA X es (TAv Γ Ex (evs ct c xs))/\es.all t9=true)∧
 (∀e t,cT G N sc n e=some t->PT X e (TTv Γ Ex (tst ct c t))/\∀op l p,e=.BoolOp op l p->PW X e (TTv Γ Ex (tst ct c t)))/\(∀o x,cO G N sc n o=some x->PO X o (TOv Γ Ex (evo ct c x)))∧
 ∀tg e it,cI G N sc n tg e=some it->PI X tg e (TIv Γ Ex (evi ct c it))
theorem b1Y:a0y Γ G ct c 0:=λX Ex N sc bJ C=>
 ⟨λe x h=>absurd (show none=some x from h) ⋯,λe x h=>absurd (show none=some x from h) ⋯,λe x h=>absurd (show none=some x from h) ⋯,λe x h=>absurd (show none=some x from h) ⋯,λtg e x h=>absurd (show none=some x from h) ⋯⟩
theorem b1V(ih:a0y Γ G ct c n)(C:Cxt X Γ G ct c Ex N sc bJ):∀es xs,cEs G N sc (n+1) es=some xs->PA X es (TAv Γ Ex (evs ct c xs))/\es.all t9=true:=by
 intro es xs h;obtain⟨i1,i2,_⟩:=ih X Ex N sc bJ C;replace h:sEs G (cR G n) N sc es=some xs:=h;unfold sEs at h;split at h
 · cases h;exact⟨c0r,rfl⟩
 · obtain⟨hp,h⟩:=ifs h;split at h
   · rename_i x xs' h1 h2;cases h;obtain⟨g1,g2⟩:=i2 _ xs' h2;exact⟨b7I (i1 _ x h1) g1 (k7 hp),by rw[all_cons,hp,g2];rfl⟩
   · cases h
theorem map_some{o:Option α}{f:α->β}{b:β}(h:o.map f=some b):∃a,o=some a/\f a=b:=Option.map_eq_some_iff.mp h
theorem b4t(ih:a0y Γ G ct c n)(C:Cxt X Γ G ct c Ex N sc bJ):∀o x,cO G N sc (n+1) o=some x->PO X o (TOv Γ Ex (evo ct c x)):=by
 intro o x h;obtain⟨i1,i2,_⟩:=ih X Ex N sc bJ C;replace h:sO G (cR G n) N sc o=some x:=h;unfold sO at h;split at h
 · cases h;exact c1B
 · obtain⟨y,h1,rfl⟩:=map_some h;exact c1A (i1 _ y h1)
theorem b4u(ih:a0y Γ G ct c n)(C:Cxt X Γ G ct c Ex N sc bJ):∀tg e it,cI G N sc (n+1) tg e=some it->PI X tg e (TIv Γ Ex (evi ct c it)):=by
 intro tg e it h;obtain⟨i1,i2,_⟩:=ih X Ex N sc bJ C;have seq:∀{e:Expr} {it:I},(cE G N sc n e).map I.seq=some it->PI X tg e (TIv Γ Ex (evi ct c it)):=by intro e it h;obtain⟨x,h1,rfl⟩:=map_some h;exact c0n C (i1 _ _ h1)
 replace h:sI G (cR G n) N sc tg e=some it:=h;unfold sI at h;split at h
 · split at h
   · rename_i hc;rw[af,af] at hc;obtain⟨⟨hg,hb⟩,hx⟩:=hc;have hx:=aw hx;subst hx;have hm:=C.blt _ hb;split at h
     · obtain⟨hp,h⟩:=ifs h;obtain⟨x,h1,rfl⟩:=map_some h;exact b7A C hg hm hp (i1 _ _ h1)
     · cases h
   · split at h
     · rename_i hc;rw[af,af] at hc;obtain⟨⟨hg,hb⟩,hx⟩:=hc;have hx:=aw hx;subst hx;have hm:=C.blt _ hb;split at h
       · obtain⟨hp,h⟩:=ifs h;obtain⟨x,h1,rfl⟩:=map_some h;exact b7E C hg hm hp (i1 _ _ h1)
       · cases h
     · split at h
       · rename_i hc;rw[af,af] at hc;obtain⟨⟨hg,hb⟩,hx⟩:=hc;have hx:=aw hx;subst hx;have hm:=C.blt _ hb;split at h
         · obtain⟨hp,h⟩:=ifs h;rw[af] at hp;split at h
           · rename_i h1 h2;cases h;exact c0k C hg hm hp.1 hp.2 (i1 _ _ h1) (i1 _ _ h2)
           · cases h
         · cases h
       · exact seq h
 · exact seq h
theorem b9p{a b:Expr}{x:E}(ih:a0y Γ G ct c n)(C:Cxt X Γ G ct c Ex N sc bJ)(h1:cE G N sc n a=some x){k:E->α}{y:α}(h:(match b with
       | .Name y _=>if K1 sc y then(match op,G.tups.lookup y with
         |.In,some ds=>some (k (.gin false x ds))
         |.NotIn,some ds=>some (k (.gin true x ds))
         |.In,none=>(G.dicts.lookup y).map λbq=>k (.gdin false x bq)
         |.NotIn,none=>(G.dicts.lookup y).map λbq=>k (.gdin true x bq)
         |_,_=>none) else none
       |_=>none)=some y):∃g,y=k g/\PE X (.Compare a [op] [b] pos) (TEv Γ Ex (ev ct c g))/\PT X (.Compare a [op] [b] pos) (TTv Γ Ex (tst ct c (.val g))):=by
 obtain⟨i1,i2,_⟩:=ih X Ex N sc bJ C;split at h
 · split at h
   · rename_i hg;split at h
     · rename_i ds hd;cases h;exact⟨_,rfl,b4V C (.inl ⟨rfl,rfl⟩) hg hd (i1 _ _ h1)⟩
     · rename_i ds hd;cases h;exact⟨_,rfl,b4V C (.inr ⟨rfl,rfl⟩) hg hd (i1 _ _ h1)⟩
     · obtain⟨bq,hd,rfl⟩:=map_some h;exact⟨_,rfl,b2e C (.inl ⟨rfl,rfl⟩) hg hd (i1 _ _ h1)⟩
     · obtain⟨bq,hd,rfl⟩:=map_some h;exact⟨_,rfl,b2e C (.inr ⟨rfl,rfl⟩) hg hd (i1 _ _ h1)⟩
     · cases h
   · cases h
 · cases h
theorem a7T{b:Expr}(h:b6I b=true):∃p q,b=.Constant .none p q:=by
 cases b<;>first|(cases h;done)|skip
 rename_i k p q;cases k<;>first|(cases h;done)|exact⟨_,_,rfl⟩
theorem b0z(h:a6T op=some true):op=.Is:=by cases op<;>first|rfl|(cases h;done)
theorem b0A(h:(a6T op).isSome=true)(h':a6T op=some true->False):op=.IsNot:=by cases op<;>first|rfl|(cases h;done)|exact(h' rfl).elim
theorem b2F{b:Expr}{lo hi:Option Expr}(h:b8m b=some (lo,hi)):∃p,b=.Slice lo hi none p:=by
 cases b<;>first|(cases h;done)|skip
 rename_i a c st p;cases st<;>first|(cases h;done)|(cases h;exact⟨_,rfl⟩)
theorem b4s (ih:a0y Γ G ct c n) (C:Cxt X Γ G ct c Ex N sc bJ):∀e t,cT G N sc (n+1) e=some t->PT X e (TTv Γ Ex (tst ct c t))/\∀op l p,e=.BoolOp op l p->PW X e (TTv Γ Ex (tst ct c t)):=by
 intro e t h;obtain⟨i1,i2,i3,_⟩:=ih X Ex N sc bJ C;replace h:sT G (cR G n) N sc e=some t:=h;have dflt:∀{e:Expr},sTd G (cR G n) N sc e=some t->PT X e (TTv Γ Ex (tst ct c t))/\∀op l p,e=.BoolOp op l p->PW X e (TTv Γ Ex (tst ct c t)):=by
  intro e h;unfold sTd at h;obtain⟨hp,h⟩:=ifs h;obtain⟨y,h1,rfl⟩:=map_some h;refine⟨c0l ?_ (i1 _ y h1),λ_ _ _ z=>?_⟩
  · intro cK;cases e<;>first|rfl|(cases hp;done)
  · subst z;cases hp
 unfold sT at h;split at h
 · split at h
   · obtain⟨y,h1,rfl⟩:=map_some h;exact⟨c0q (i3 _ y h1).1,λ_ _ _ z=>nomatch z⟩
   · exact dflt h
 · rename_i op l p;split at h
   · exact dflt h
   · split at h
     · rename_i a _;have g:PW X (.BoolOp op [a] p) (TTv Γ Ex (tst ct c t)):=by
        cases op
        · exact b2O (i3 _ t h).1
        · exact b5w (i3 _ t h).1
       exact⟨g.pt,λ_ _ _ _=>g⟩
     · split at h
       · split at h
         · rename_i h1 h2;cases h;have g:=c0F (i3 _ _ h1).1 ((i3 _ _ h2).2 _ _ _ rfl);exact⟨g.pt,λ_ _ _ _=>g⟩
         · cases h
       · split at h
         · rename_i h1 h2;cases h;have g:=c0p (i3 _ _ h1).1 ((i3 _ _ h2).2 _ _ _ rfl);exact⟨g.pt,λ_ _ _ _=>g⟩
         · cases h
 · split at h
   · cases h
   · split at h
     · cases h
     · split at h
       · split at h
         · unfold b8p at h;split at h
           · rename_i hc;rw[af] at hc;obtain⟨p,q,rfl⟩:=a7T hc.1;split at h
             · rename_i ho;cases b0z ho;obtain⟨y,h1,rfl⟩:=map_some h;exact⟨b7C (i1 _ y h1),λ_ _ _ z=>nomatch z⟩
             · rename_i ho;cases b0A hc.2 ho;obtain⟨y,h1,rfl⟩:=map_some h;exact⟨b4C (i1 _ y h1),λ_ _ _ z=>nomatch z⟩
           · obtain⟨hs,h⟩:=ifs h;split at h
             · rename_i h0 h1 h2;cases h;exact⟨b7K C.hu C.K (a0k h0) (i1 _ _ h1) (i1 _ _ h2) (Q6 hs),λ_ _ _ z=>nomatch z⟩
             · rename_i h0 h1 h2;obtain⟨gg,rfl,_,g⟩:=b9p (k:=T.val) ih C h1 h;exact⟨g,λ_ _ _ z=>nomatch z⟩
             · cases h
         · cases h
       · split at h
         · cases h
         · split at h
           · rename_i ht;rw[af] at ht;obtain⟨t1,t2⟩:=ht;cases isEmpty_iff.mp t1;cases isEmpty_iff.mp t2;unfold b8o at h;obtain⟨hs,h⟩:=ifs h;split at h
             · rename_i h0 h0' h1 h2 h3;cases h;exact⟨b7L C.hu C.K (a0k h0) (a0k h0') (i1 _ _ h1) (i1 _ _ h2) (i1 _ _ h3) (Q6 hs),λ_ _ _ z=>nomatch z⟩
             · cases h
           · cases h
 · exact dflt h
end
variable{x:Str}
section
variable{X:Cx}{Γ:Gm}{G:GT}{ct:CT}{c:CF}{Ex:XK}{N:List Str}{sc:Scope}{bJ:Bool}
theorem a7v{l:List Expr}{a b:Expr}(h:b2m l=some (a,b)):l=[a,b]:=by
 unfold b2m at h;split at h
 · cases h
 · split at h
   · cases h
   · obtain⟨e,h⟩:=ifs h;cases isEmpty_iff.mp e;cases h;rfl
theorem b3p{l:List Expr}{a:Expr}(h:b6f l=some a):l=[a]:=by
 unfold b6f at h;split at h
 · cases h
 · obtain⟨e,h⟩:=ifs h;cases isEmpty_iff.mp e;cases h;rfl
theorem b3t{e:Expr}(h:b6g e=some x):∃p,e=.Name x p:=by
 unfold b6g at h;split at h
 · cases h;exact⟨_,rfl⟩
 · cases h
theorem b3C{as:List Expr}{o:Expr}{ap cp:Pos}(h:b6H as=some (o,ap,cp)):as=[.Call (.Attribute o "items" ap) [] [] cp]/\J7 o=true/\(ap.endLine==cp.line)=true:=by
 unfold b6H at h;split at h
 · rename_i h1;obtain⟨hc,h2⟩:=ifs h;rw[af,af] at hc;cases h2;have:=aw hc.1.1;subst this;exact⟨b3p h1,hc.1.2,hc.2⟩
 · cases h
structure CB(X:Cx)(Γ:Gm)(ct:CT)(c:CF)(ca tg iter:Expr)(ifs:List Expr)(scope:Scope)(js:List Nat)(p:Pat)(t:T)(y:E):Prop where
 j2:CompScope X.env.scope scope (o4 8 tg) (C1 scope)
 j3:(C1 scope).map some=js.map (X.N[·]?)
 j4:∀D s₀ H₀ ex,PG (o9 X (o4 8 tg) (C1 scope) scope D s₀ H₀ ex) tg (TGv Γ p)
 j5:∀D s₀ H₀ ex,a6F (o9 X (o4 8 tg) (C1 scope) scope D s₀ H₀ ex) ifs (TTv Γ E0 (tst ct c t))
 j6:∀D s₀ H₀ ex,PE (o9 X (o4 8 tg) (C1 scope) scope D s₀ H₀ ex) ca (TEv Γ E0 (ev ct c y))
 j7:∀v,foldedSetIterable iter X.env v=pure v
 j8:(E6 p).all (λi=>decide (i<(o4 8 tg).length))=true
theorem a9h{ifs:List Expr}{q:List Nat×Pat×T×E}(ih:a0y Γ G ct c n)(C:Cxt X Γ G ct c Ex N sc bJ)(h:b5q (cR G n) N sc ca tg iter ifs scope=some q):CB X Γ ct c ca tg iter ifs scope q.1 q.2.1 q.2.2.1 q.2.2.2:=by
 unfold b5q at h;split at h
 · rename_i js hjs;split at h
   · rename_i hc;rw[af] at hc;have S0:CompScope sc scope (o4 8 tg) (C1 scope):=b9R hc.1;have S:CompScope X.env.scope scope (o4 8 tg) (C1 scope):=by rw[C.sc];exact S0
     have hj:(C1 scope).map some=js.map (X.N[·]?):=by rw[C.hN];exact a7X hjs
     split at h
     · rename_i p y hp hy;split at h
       · rename_i hall;have pg:∀D s₀ H₀ ex,PG (o9 X (o4 8 tg) (C1 scope) scope D s₀ H₀ ex) tg (TGv Γ p):=λD s₀ H₀ ex=>((b2d (C.comp S0 D s₀ H₀ ex) 8).1 tg p hp).1;have pe:∀D s₀ H₀ ex,PE (o9 X (o4 8 tg) (C1 scope) scope D s₀ H₀ ex) ca (TEv Γ E0 (ev ct c y)):=λD s₀ H₀ ex=>(ih _ _ _ _ _ (C.comp S0 D s₀ H₀ ex)).1 ca y hy;split at h
         · cases h;refine⟨S,hj,pg,λD s₀ H₀ ex=>?_,pe,a0C hc.2,hall⟩;intro bp s σ H Q I q;refine b5H bp s σ H Q I ?_;obtain⟨env,ah,m,rl,q⟩:=q;exact q.ok rl.sim
         · obtain⟨z,h1,rfl⟩:=map_some h;exact⟨S,hj,pg,λD s₀ H₀ ex=>b2W ((ih _ _ _ _ _ (C.comp S0 D s₀ H₀ ex)).2.2.1 _ z h1).1,pe,a0C hc.2,hall⟩
         · cases h
       · cases h
     · cases h
   · cases h
 · cases h
theorem b0T{o:Expr}(h:a5a tg iter=some o):∃es k tp ap cp,tg=.Tuple es k tp/\iter=.Call (.Attribute o "items" ap) [] [] cp/\J7 o=true/\(ap.endLine==cp.line)=true:=by
 unfold a5a at h;split at h
 · split at h
   · rename_i hc;rw[af,af] at hc;split at h
     · cases h;have:=aw hc.1.1;subst this;exact⟨_,_,_,_,_,rfl,rfl,hc.1.2,hc.2⟩
     · cases h
   · cases h
 · cases h
theorem a2f{ifs:List Expr}{x:E}(ih:a0y Γ G ct c n)(C:Cxt X Γ G ct c Ex N sc bJ)(h:sLc G (cR G n) N sc ca tg iter ifs scope=some x):
 ∃js p t y,CB X Γ ct c ca tg iter ifs scope js p t y/\((∃it,x=.comp p it (o4 8 tg).length js t y/\PI X tg iter (TIv Γ Ex (evi ct c it)))∨∃z,x=.compI p z (o4 8 tg).length js t y/\PI X tg iter (a7g X.H₀ (TEv Γ Ex (ev ct c z)))):=by
 obtain⟨i1,i2,i3,i4,i5⟩:=ih X Ex N sc bJ C;unfold sLc at h;split at h
 · rename_i q hq;refine⟨_,_,_,_,a9h ih C hq,?_⟩;split at h
   · rename_i o ho;obtain⟨z,h1,rfl⟩:=map_some h;obtain⟨es,k,tp,ap,cp,rfl,rfl,hb,hl⟩:=b0T ho;exact .inr ⟨z,rfl,b0l (i1 _ z h1) (L1 hb) hl⟩
   · obtain⟨it,h1,rfl⟩:=map_some h;exact .inl ⟨it,rfl,i5 _ _ _ h1⟩
 · cases h
theorem b4v (ih:a0y Γ G ct c n) (C:Cxt X Γ G ct c Ex N sc bJ):∀e x,cE G N sc (n+1) e=some x->PE X e (TEv Γ Ex (ev ct c x)):=by
 intro e x h;obtain⟨i1,i2,i3,i4,i5⟩:=ih X Ex N sc bJ C;replace h:sE G (cR G n) N sc e=some x:=h;unfold sE at h;split at h
 · unfold b8s at h;split at h
   · cases h;exact a_k (dd:=.int _) b0q (λ_ _=>rfl) c ct
   · cases h;exact a_k (dd:=.str _) b0n (λ_ _=>rfl) c ct
   · cases h;exact a_k (dd:=.bl _) b8J (λ_ _=>rfl) c ct
   · cases h;exact a_k (dd:=.non) b5Q (λ_ _=>rfl) c ct
   · cases h
 · -- Name
   split at h
   · rename_i i hs;cases h;unfold slot at hs;obtain⟨hv,hs⟩:=ifs hs;rw[af,af] at hv;exact a_v (by rw[C.hN];exact a5d hs) (C.vis hv.1.1) (beq_eq_false_iff_ne.mpr (aw hv.1.2)) (beq_eq_false_iff_ne.mpr (aw hv.2)) c ct
   · obtain⟨hg,h⟩:=ifs h;obtain⟨d,h1,rfl⟩:=map_some h;obtain⟨u,v,s1,s2,s3⟩:=C.scal _ d h1;exact a_k (a0Z (C.gl hg) s1 s2 (U9 hg).2.1) s3 c ct
 · split at h
   · rename_i h0 h1 h2;cases h;exact c0D (b4x h0) (i1 _ _ h1) (i1 _ _ h2)
   · cases h
 · unfold sUn at h;split at h
   · obtain⟨y,h1,rfl⟩:=map_some h;exact c0s (i1 _ y h1)
   · obtain⟨y,h1,rfl⟩:=map_some h;exact c1C (i1 _ y h1)
   · cases h
 · unfold sBo at h;split at h
   · cases h
   · split at h
     · exact b5O (i1 _ x h)
     · split at h
       · split at h
         · rename_i h1 h2;cases h;exact c1H (i1 _ _ h1) (i1 _ _ h2)
         · cases h
       · split at h
         · rename_i h1 h2;cases h;exact c0o (i1 _ _ h1) (i1 _ _ h2)
         · cases h
 · split at h
   · cases h
   · split at h
     · cases h
     · split at h
       · split at h
         · unfold b8u at h;split at h
           · rename_i hc;rw[af] at hc;obtain⟨p,q,rfl⟩:=a7T hc.1;split at h
             · rename_i ho;cases b0z ho;obtain⟨y,h1,rfl⟩:=map_some h;exact c0v (i1 _ y h1)
             · rename_i ho;cases b0A hc.2 ho;obtain⟨y,h1,rfl⟩:=map_some h;exact b7B (i1 _ y h1)
           · obtain⟨hs,h⟩:=ifs h;split at h
             · rename_i h0 h1 h2;cases h;exact c0A C.hu C.K (a0k h0) (i1 _ _ h1) (i1 _ _ h2) (Q6 hs)
             · rename_i h0 h1 h2;obtain⟨gg,rfl,g,_⟩:=b9p (k:=λg=>g) ih C h1 h;exact g
             · cases h
         · cases h
       · split at h
         · cases h
         · split at h
           · rename_i ht;rw[af] at ht;obtain⟨t1,t2⟩:=ht;cases isEmpty_iff.mp t1;cases isEmpty_iff.mp t2;unfold b8t at h;obtain⟨hs,h⟩:=ifs h;split at h
             · rename_i h0 h0' h1 h2 h3;cases h;exact c0C C.hu C.K (a0k h0) (a0k h0') (i1 _ _ h1) (i1 _ _ h2) (i1 _ _ h3) (Q6 hs)
             · cases h
           · cases h
 · rename_i z1 z2 z3 z4 z5 z6;clear z1 z2 z3 z4 z5 z6;unfold sE2 at h;split at h
   · unfold sSl at h;split at h
     · rename_i hs0;obtain⟨q,rfl⟩:=b2F hs0;split at h
       · rename_i h1 h2 h3;cases h;exact c1z C.K (i1 _ _ h1) (i4 _ _ h2) (i4 _ _ h3)
       · cases h
     · obtain⟨hs,h⟩:=ifs h;split at h
       · rename_i h1 h2;cases h;exact c1F C.hu C.K (i1 _ _ h1) (i1 _ _ h2) (a3b hs)
       · rename_i h1 h2;split at h
         · obtain⟨hg,h⟩:=ifs h;obtain⟨bq,hd,rfl⟩:=map_some h;exact b7D C hg hd (i1 _ _ h2) (a3b hs)
         · cases h
       · cases h
   · split at h
     · rename_i h1 h2 h3;cases h;exact c0y (i3 _ _ h1).1 (i1 _ _ h2) (i1 _ _ h3)
     · cases h
   · obtain⟨hb,h⟩:=ifs h;rw[af] at hb;obtain⟨y,h1,rfl⟩:=map_some h;exact c0z C hb.1 hb.2 (i1 _ y h1)
   · obtain⟨y,h1,rfl⟩:=map_some h;exact c0t (i2 _ y h1).1
   · obtain⟨y,h1,rfl⟩:=map_some h;exact c0m (i2 _ y h1).1
   · split at h
     · split at h
       · cases h;exact b7F
       · cases h
     · obtain⟨bq,h1,h⟩:=Option.bind_eq_some_iff.mp h;obtain⟨hk,h⟩:=ifs h;cases h;exact b7G (cons_ne_nil _ _) h1 hk
   · rename_i f as ks bF;split at h
     · rename_i hk0;cases isEmpty_iff.mp hk0;split at h
       · rename_i nm np0;unfold sCn at h;split at h
         · rename_i hg;split at h
           · rename_i f np hf;obtain⟨hl,h⟩:=ifs h;obtain⟨y,h1,rfl⟩:=map_some h;obtain⟨g1,g2⟩:=i2 _ y h1;rw[af] at hl;have ej:=aw hl.2;cases as with
             |nil=>exact absurd rfl ej
             |cons a r=>exact b7M C hf hg g2 g1
           · split at h
             · rename_i k hk;obtain⟨he,h⟩:=ifs h;cases h;subst he;exact c1E C hk hg
             · split at h
               · rename_i hb;have hm:=C.blt _ hb;split at h
                 · rename_i hx;subst hx;unfold sIs at h;split at h
                   · rename_i h2;cases a7v h2;split at h
                     · rename_i hy;obtain⟨pp,rfl⟩:=b3t hy;obtain⟨hq,h⟩:=ifs h;rw[af] at hq;obtain⟨hp,q3⟩:=hq;split at h
                       · rename_i q4;split at h
                         · rename_i hk;obtain⟨y,h1,rfl⟩:=map_some h;exact c0w hk C hg hm q3 (C.blt _ q4) hp (i1 _ y h1)
                         · cases h
                       · split at h
                         · rename_i hk;obtain⟨y,h1,rfl⟩:=map_some h;exact c0x hk C hg hm q3 hp (i1 _ y h1)
                         · cases h
                     · cases h
                   · cases h
                 · split at h
                   · rename_i hi;obtain⟨y,h1,rfl⟩:=map_some h;obtain⟨hx,hi⟩:=ifs hi;subst hx;obtain⟨rfl,hb1,hl1⟩:=b3C hi;exact c0u C hg hm hb1 hl1 (i1 _ y h1)
                   · split at h
                     · rename_i b hbi;obtain⟨ej,h⟩:=ifs h;obtain⟨y,h1,rfl⟩:=map_some h;obtain⟨g1,g2⟩:=i2 _ y h1;cases as with
                       |nil=>exact absurd rfl ej
                       |cons a r=>exact c1G C hbi hg hm g2 g1
                     · cases h
               · cases h
         · cases h
       · rename_i o mm bH;unfold sCa at h;split at h
         · rename_i hc;rw[af,af] at hc;obtain⟨⟨c1,c2⟩,c3⟩:=hc;cases aw c3;unfold b8r at h;split at h
           · rename_i h2;cases a7v h2;obtain⟨hp,h⟩:=ifs h;rw[af] at hp;split at h
             · rename_i h3 h4 h5;cases h;exact b7H C c1 c2 hp.1 hp.2 (i1 _ _ h3) (i1 _ _ h4) (i1 _ _ h5)
             · cases h
           · cases h
         split at h
         · rename_i hc;rw[af,af,af] at hc;obtain⟨⟨⟨c1,c2⟩,c3⟩,c4⟩:=hc;cases aw c3;cases isEmpty_iff.mp c4;obtain⟨y,h1,rfl⟩:=map_some h;exact c0B C c1 c2 (i1 _ y h1)
         obtain⟨hc,h⟩:=ifs h;rw[af,af,af] at hc;obtain⟨⟨⟨c1,c2⟩,c3⟩,c4⟩:=hc;have c3:=aw c3;have c4:=aw c4;split at h
         · rename_i h0 h1 h2;cases h;obtain⟨g1,g2⟩:=i2 _ _ h2;cases as with
           |nil=>exact absurd rfl c4
           |cons a r=>exact c1D C h0 c1 c2 c3 g2 (i1 _ _ h1) g1
         · cases h
       · cases h
     · cases h
   · split at h
     · cases h
     · rename_i g t;obtain⟨hg0,h⟩:=ifs h;rw[af] at hg0;obtain⟨tg,iter,ifs,a⟩:=g;cases isEmpty_iff.mp hg0.1;have ha:a=0:=aw hg0.2;subst ha;obtain⟨js,p,t,y,B,⟨it,rfl,j1⟩|⟨z,rfl,j1⟩⟩:=a2f ih C h
       · exact b7J C j1 B.j2 B.j3 B.j4 B.j5 B.j6 B.j7 B.j8
       · exact PE.imp (b3d (a2U C.calm j1 B.j2 B.j3 B.j4 B.j5 B.j6 B.j7)) (a4j B.j8)
   · cases h
theorem a0P:∀n,a0y Γ G ct c n
 |0=>b1Y
 |n+1=>λX Ex N sc bJ C=>⟨b4v (a0P n) C,b1V (a0P n) C,b4s (a0P n) C,b4t (a0P n) C,b4u (a0P n) C⟩
end
def SQ(D:Ends):Out->AH->List Addr->Hp->Prop:=λo _ m1 H1=>match o with
 |.nx bv=>∀bE,EnvRel m1 H1 bv bE->D.nx bE H1
 |.rt d=>∀v,Rp m1 H1 d v->D.rt v H1
noncomputable def TSv(Γ:Gm)(E:XK)(f:l0->AH->R Out):TS:=λD σ H=>∃env ah m,Rel Γ env ah σ H m/\j0 Γ E m H (f env ah) (SQ D)
variable{st:Stmt}{tt:Expr}
section
variable{X:Cx}{Γ:Gm}{G:GT}{ct:CT}{c:CF}{Ex:XK}{N:List Str}{sc:Scope}{e a b:Expr}{p':Pos}{x y z:E}{i:Nat}
theorem a0S{e:Expr}{t:Option Expr}{l:Nat}{env:Env}(h:R8 e=true):swapsWith e t l env=pure false:=by cases e<;>first|rfl|cases h
theorem c0d{n:Str}(C:Cxt X Γ G ct c Ex N sc true)(hs:a2N true N sc n=some i)(hw:R8 e=true)(he:PE X e (TEv Γ Ex (ev ct c x))):PS X (.Assign [.Name n p'] e pos) (TSv Γ Ex (ex ct c (.set i x))):=by obtain⟨h1,h2,h3⟩:=a2M C hs;refine PS.imp (b0f (by rw[C.hN];exact C.nd) h1 h2 he (a0S hw) h3) ?_;rintro D σ H ⟨env,ah,m,rl,q⟩;refine⟨env,ah,m,rl,j0.first rl q λd1 bz m1 H1 v1 p1 k1 bC r1 q1=>?_⟩;exact q1.ok bC.sim _ (bC.env.set r1)
theorem b7w{n:Str}{k:Nat}{ifs:List Expr}(C:Cxt X Γ G ct c Ex N sc true)(hs:a2N true N sc n=some i)(h:cE G N sc (k+1) (.ListComp ca [⟨tg,iter,ifs,0⟩] scope bF)=some x):PS X (.Assign [.Name n p'] (.ListComp ca [⟨tg,iter,ifs,0⟩] scope bF) pos) (TSv Γ Ex (ex ct c (.set i x))):=by
 obtain⟨h1,h2,h3⟩:=a2M C hs;obtain⟨js,p,t,y,B,⟨it,rfl,j1⟩|⟨z,rfl,j1⟩⟩:=a2f (a0P k) C (show sLc G (cR G k) N sc ca tg iter ifs scope=some x from h)
 · refine PS.imp (a7H C.calm j1 B.j2 B.j3 B.j4 B.j5 B.j6 B.j7 (by rw[C.hN];exact C.nd) h1 h2 h3) ?_;rintro D σ H ⟨env,ah,m,rl,q⟩;refine a6x B.j8 σ H _ ⟨env,ah,m,rl,j0.first rl q λd1 bz m1 H1 v1 p1 k1 bC r1 q1=>?_⟩;exact q1.ok bC.sim _ (bC.env.set r1)
 · refine PS.imp (b2Q (a7H C.calm j1 B.j2 B.j3 B.j4 B.j5 B.j6 B.j7 (by rw[C.hN];exact C.nd) h1 h2 h3)) ?_;rintro D σ H ⟨env,ah,m,rl,q⟩;refine a4j B.j8 σ H (λv H'=>D.nx (σ.set i (some v)) H') ⟨env,ah,m,rl,j0.first rl q λd1 bz m1 H1 v1 p1 k1 bC r1 q1=>?_⟩;exact q1.ok bC.sim _ (bC.env.set r1)
theorem c1x(hw:R8 e=true)(he:PE X e (TEv Γ Ex (ev ct c x))):PS X (.Expr e pos) (TSv Γ Ex (ex ct c (.ex x))):=by refine PS.imp (b2R he (a0S hw)) ?_;rintro D σ H ⟨env,ah,m,rl,q⟩;refine⟨env,ah,m,rl,j0.first rl q λd1 bz m1 H1 v1 p1 k1 bC r1 q1=>?_⟩;exact q1.ok bC.sim _ bC.env
theorem c0e(he:PE X e (TEv Γ Ex (ev ct c x))):PS X (.Return (some e) pos) (TSv Γ Ex (ex ct c (.ret x))):=by refine PS.imp (b5B he) ?_;rintro D σ H ⟨env,ah,m,rl,q⟩;refine⟨env,ah,m,rl,j0.first rl q λd1 bz m1 H1 v1 p1 k1 bC r1 q1=>?_⟩;exact q1.ok bC.sim _ r1
theorem c0i:PS X st (TSv Γ Ex (ex ct c .bad)):=by rintro bp s σ H D I ⟨env,ah,m,rl,q⟩;exact q.elim
variable{t:T}{as bs:List Stmt}{sa sb:Ss}
theorem c0g:PSs X [] (TSv Γ Ex (exs ct c .nil)):=by refine PSs.imp b2P ?_;rintro D σ H ⟨env,ah,m,rl,q⟩;exact q.ok rl.sim σ rl.env
theorem b7y{s:S}(h1:PS X st (TSv Γ Ex (ex ct c s)))(h2:PSs X as (TSv Γ Ex (exs ct c sa))):PSs X (st::as) (TSv Γ Ex (exs ct c (.cons s sa))):=by
 refine PSs.imp (b0d h1 h2) ?_;rintro D σ H ⟨env,ah,m,rl,q⟩;refine⟨env,ah,m,rl,q.bind.mp λo bz m1 H1 p1 k1 s1 q1=>?_⟩;cases o with
 |nx bv=>exact λbE er=>⟨bv,bz,m1,⟨s1,er⟩,q1⟩
 |rt d=>exact q1.ok s1
theorem c1w(hc:PT X tt (TTv Γ Ex (tst ct c t)))(ha:PSs X as (TSv Γ Ex (exs ct c sa)))(hb:PSs X bs (TSv Γ Ex (exs ct c sb))):PS X (.If tt as bs pos) (TSv Γ Ex (ex ct c (.iff t sa sb))):=by
 refine PS.imp (b8F hc ha hb) ?_;rintro D σ H ⟨env,ah,m,rl,q⟩;refine⟨env,ah,m,rl,q.bind.mp λk bz m1 H1 p1 k1 s1 q1=>?_⟩;cases k with
 |true=>exact b6B ⟨env,bz,m1,rl.on p1 k1 s1,q1⟩
 |false=>exact b6C ⟨env,bz,m1,rl.on p1 k1 s1,q1⟩
theorem c0h{it:Expr}{ii:I}(C:Cxt X Γ G ct c Ex N sc true)(own:PassesOwn (model X.prog X.w) X.A X.env X.xe)(hi:PI X tg it (TIv Γ Ex (evi ct c ii)))(hg:PG X tg (TGv Γ p))(hb:PSs X bs (TSv Γ Ex (exs ct c sb)))(hs:a1a it=true):
 PS X (.For tg it bs [] pos) (TSv Γ Ex (ex ct c (.for p ii sb))):=by
 refine PS.imp (b5C own C.calm hi hg hb (a0C hs)) ?_;rintro D σ H ⟨env,ah,m,rl,q⟩;refine⟨env,ah,m,rl,q.bind.mp λx bz m1 H1 p1 k1 s1 q1=>λ_ J hJ=>?_⟩;refine⟨λi mm σ H2=>mm=x.1.length-i/\i<=x.1.length/\∃env bW m2,Rel Γ env bW σ H2 m2/\Pre m1 m2/\Keep m1 m2 H1 H2/\j0 Γ Ex m2 H2 (G9 x.2 p (exs ct c sb) (x.1.drop i) env bW) (SQ D),?_,?_⟩
 · exact⟨_,rfl,fq _,env,bz,m1,rl.on p1 k1 s1,Pre.refl _,Keep.refl _ _,q1⟩
 · rintro i mm σ H2 ⟨hmm,hil,env,bW,m2,cy,p2,k2,q2⟩
   by_cases hend:i=x.1.length
   · refine .inl ?_;rw[hend,drop_length] at q2;unfold G9 at q2;split at q2
     · rename_i hgk;exact⟨(hJ i bW m2 H2 p2 k2 cy.sim hgk).1 hend,q2.ok cy.sim σ cy.env⟩
     · exact q2.elim
   · refine .inr ?_;have hlt:i<x.1.length:=Nat.lt_of_le_of_ne hil hend;have hdi:x.1[i]? =some x.1[i]:=ai hlt;rw[fU hlt] at q2;generalize x.1[i]=dd at q2 hdi;unfold G9 at q2;split at q2
     · rename_i hgk;obtain⟨go,yl⟩:=(hJ i bW m2 H2 p2 k2 cy.sim hgk).2 dd hdi;refine⟨go,λbE H'=>∃m',m'<mm/\(m'=x.1.length-(i+1)/\i+1<=x.1.length/\∃env bW m2,Rel Γ env bW bE H' m2/\Pre m1 m2/\Keep m1 m2 H1 H'/\j0 Γ Ex m2 H' (G9 x.2 p (exs ct c sb) (x.1.drop (i+1)) env bW) (SQ D)),λbE H' h=>h,λv H3 hy=>?_⟩;obtain⟨k3,s3,r3⟩:=yl v H3 hy;split at q2
       · exact q2.elim
       · rename_i envb hb;refine⟨env,dd,m2,envb,cy.env.mono (Pre.refl m2) k3,r3,hb,λdZ er4 l4 s4=>⟨envb,bW,m2,⟨s3,er4⟩,?_⟩⟩;refine(q2.later (Pre.refl m2) k3).bind.mp λo ah5 m5 H5 p5 k5 s5 q5=>?_;cases o with
         |nx bv=>exact λbE er'=>⟨_,by omega,rfl,hlt,bv,ah5,m5,⟨s5,er'⟩,p2.trans p5,k2.trans (k3.trans k5),q5⟩
         |rt d=>exact q5.ok s5
     · exact q2.elim
theorem c0a(own:PassesOwn (model X.prog X.w) X.A X.env X.xe)(hc:PT X tt (TTv Γ Ex (tst ct c t)))(hb:PSs X bs (TSv Γ Ex (exs ct c sb))):PS X (.While tt bs [] pos) (TSv Γ Ex (ex ct c (.whl t sb))):=by
 refine PS.imp (b0e own hc hb) ?_;rintro D σ H ⟨env,ah,m,rl,q⟩;refine⟨λn σ H2=>∃env bW m2,Rel Γ env bW σ H2 m2/\j0 Γ Ex m2 H2 (a9o (tst ct c t) (exs ct c sb) n env bW) (SQ D),⟨_,env,ah,m,rl,q⟩,?_⟩;rintro n σ H2 ⟨env,bW,m2,cy,q2⟩;cases n with
 |zero=>exact q2.elim
 | succ n=>
  unfold a9o at q2;refine⟨env,bW,m2,cy,q2.bind.mp λk eF m3 H3 p3 k3 s3 q3=>?_⟩;have dX:=cy.on p3 k3 s3;cases k with
  |false=>exact b6C (j0.ok q3 s3 σ dX.env)
  |true=>
   refine b6B ⟨λbE H'=>∃m',m'<n+1/\∃env bW m2,Rel Γ env bW bE H' m2/\j0 Γ Ex m2 H' (a9o (tst ct c t) (exs ct c sb) m' env bW) (SQ D),λbE H' h=>h,env,eF,m3,dX,?_⟩;refine j0.mp (j0.bind q3) λo ah5 m5 H5 p5 k5 s5 q5=>?_;cases o with
   |nx bv=>exact λbE er'=>⟨n,aP n,bv,ah5,m5,⟨s5,er'⟩,q5⟩
   |rt d=>exact q5.ok s5
theorem c0f{pt:Pat}(hg:PG X tg (TGv Γ pt))(hv:PE X e (TEv Γ Ex (ev ct c z)))(hs:b4J e=true)(ht:(assignEach [tg] X.env).map (·.2)=[assign tg X.env])(hw:swappedStores [tg] e X.env=pure none):PS X (.Assign [tg] e pos) (TSv Γ Ex (ex ct c (.pat pt z))):=by
 refine PS.imp (b0g hv hg (show swapsWith e (some tg) pos.line X.env=pure false from a0S (by cases e<;>first|rfl|cases hs)) hw ht) ?_;rintro D σ H ⟨env,ah,m,rl,q⟩;refine⟨env,ah,m,rl,j0.first rl q λd1 bz m1 H1 v1 p1 k1 bC r1 q1=>?_⟩;split at q1
 · rename_i bv hb;exact⟨env,d1,m1,bv,bC.env,r1,hb,λbE er _ _=>q1.ok bC.sim bE er⟩
 · exact q1.elim
theorem c0b{o k:Expr}(C:Cxt X Γ G ct c Ex N sc true)(ho:PE X o (TEv Γ Ex (ev ct c x)))(hk:PE X k (TEv Γ Ex (ev ct c y)))(hv:PE X e (TEv Γ Ex (ev ct c z)))(hw:R8 e=true)(hns:a2x k=true):PS X (.Assign [.Subscript o k p'] e pos) (TSv Γ Ex (ex ct c (.six x y z))):=by have hg:PG X (.Subscript o k p') (b9r (TEv Γ Ex (ev ct c x)) (TEv Γ Ex (ev ct c y)) _):=b5L ho hk (c0U (Γ:=Γ) (E:=Ex) C.hu) (by intro v;cases k<;>first|rfl|cases hns);refine PS.imp (b0g hv hg (show swapsWith e (some (.Subscript o k p')) pos.line X.env=pure false from a0S hw) (by cases e<;>rfl) rfl) ?_;rintro D σ H ⟨env,ah,m,rl,q⟩;refine⟨env,ah,m,rl,j0.first rl q λd1 bz m1 H1 v1 p1 k1 bC r1 q1=>?_⟩;refine⟨env,bz,m1,bC,j0.first bC q1 λd2 bW m2 H2 v2 p2 k2 cy r2 q2=>?_⟩;refine⟨env,bW,m2,cy,j0.first cy q2 λd3 eF m3 H3 v3 p3 k3 dX r3 q3=>?_⟩;refine⟨d2,d3,d1,eF,m3,dX.sim,r2.mono p3 k3,r3,r1.mono (p2.trans p3) (k2.trans k3),q3.bind.mp λ_ ah4 m4 H4 p4 k4 s4 q4=>?_⟩;exact q4.ok s4 σ (dX.env.mono p4 k4)
theorem c0c{o:Expr}{f:Str}(C:Cxt X Γ G ct c Ex N sc true)(ho:PE X o (TEv Γ Ex (ev ct c x)))(hv:PE X e (TEv Γ Ex (ev ct c z)))(hw:R8 e=true)(hf:G.atts.contains f=true):PS X (.Assign [.Attribute o f p'] e pos) (TSv Γ Ex (ex ct c (.sfl x f z))):=by
 refine PS.imp (b5D ho hv (a0S hw)) ?_;rintro D σ H ⟨env,ah,m,rl,q⟩;refine⟨env,ah,m,rl,j0.first rl q λd1 bz m1 H1 v1 p1 k1 bC r1 q1=>?_⟩;refine⟨env,bz,m1,bC,j0.first bC q1 λd2 bW m2 H2 v2 p2 k2 cy r2 q2=>?_⟩;unfold a4B at q2;split at q2
 · split at q2
   · rename_i k fs e2;split at q2
     · rename_i hl;obtain⟨ad,rfl,hm⟩:=r2;obtain⟨dx,gs,g1,g2,g3⟩:=cy.sim.at hm e2;obtain⟨a1,a2⟩:=C.att k g3;have kp:Keep m2 m2 H2 (upd H2 ad (.ins (Γ.cA k) dx (U4 f v1 gs))):=Keep.put hm g1 λz=>z;refine⟨ad,Γ.cA k,dx,gs,rfl,g1,a1,a2 f hf,by rw[←Paired.length g2];exact hl,?_⟩;have s3:=cy.sim.write (c:=.obj k (a3T f d1 fs)) hm g1 (λz=>z) ⟨dx,_,b8,(Fl.put (r1.mono p2 k2) g2).mono (Pre.refl m2) kp.im,g3⟩;exact j0.ok (j0.later q2 (Pre.refl m2) kp) s3 σ (cy.env.mono (Pre.refl m2) kp)
     · exact q2.elim
   · exact q2.elim
 · exact q2.elim
end
structure Cxs(X:Cx)(Γ:Gm)(G:GT)(ct:CT)(c:CF)(Ex:XK)(N:List Str)(sc1:Scope):Prop extends Cxt X Γ G ct c Ex N sc1 true where
 own:PassesOwn (model X.prog X.w) X.A X.env X.xe
section
variable{X:Cx}{Γ:Gm}{G:GT}{ct:CT}{c:CF}{Ex:XK}{N:List Str}{sc:Scope}
theorem b3z{k:Nat}{gens:List Comprehension}{y:E}(h:cE G N sc (k+1) (.ListComp ca gens scope pos)=some y):∃tg iter ifs,gens=[⟨tg,iter,ifs,0⟩]:=by
 cases gens with
 |nil=>exact absurd (show none=some y from h) ⋯
 |cons g t=>
  replace h:(if t.isEmpty&&decide (g.is_async=0) then sLc G (cR G k) N sc ca g.target g.iter g.ifs scope else none)=some y:=h;obtain⟨hg,h⟩:=ifs h;rw[af] at hg;obtain⟨tg,iter,ifs,a⟩:=g;cases isEmpty_iff.mp hg.1;have ha:a=0:=aw hg.2;subst ha;exact⟨_,_,_,rfl⟩
theorem b8q(C:Cxs X Γ G ct c Ex N sc){r:List Stmt->Option Ss}(hr:∀l ss,r l=some ss->PSs X l (TSv Γ Ex (exs ct c ss))):∀st s,sS G N sc r st=some s->PS X st (TSv Γ Ex (ex ct c s)):=by
 intro st s h;obtain⟨i1,i2,i3,i4,i5⟩:=a0P 40 X Ex N sc true C.toCxt;unfold sS at h;split at h
 · rename_i tgs e pe;split at h
   · cases h
   · split at h
     · rename_i hu;cases isEmpty_iff.mp hu;unfold sAs at h;split at h
       · rename_i x px;split at h
         · rename_i i y h1 h2;obtain⟨hw,h⟩:=ifs h;cases h
           by_cases hn:R8 e=true
           · exact c0d C.toCxt h1 hn (i1 _ _ h2)
           · rw[bf] at hw;have hl:b8W e=true:=hw.resolve_left hn;cases e<;>first|(cases hl;done)|skip
             obtain⟨tg,iter,ifs,rfl⟩:=b3z h2;exact b7w C.toCxt h1 h2
         · cases h
       · split at h
         · rename_i h1 h2 h3;obtain⟨hw,h⟩:=ifs h;cases h;rw[af] at hw;exact c0b C.toCxt (i1 _ _ h1) (i1 _ _ h2) (i1 _ _ h3) hw.1 hw.2
         · cases h
       · split at h
         · rename_i h1 h2;obtain⟨hw,h⟩:=ifs h;cases h;rw[af] at hw;exact c0c C.toCxt (i1 _ _ h1) (i1 _ _ h2) hw.1 hw.2
         · cases h
       · split at h
         · rename_i h1 h2;obtain⟨hw,h⟩:=ifs h;cases h;exact c0f ((b2d C.toCxt 8).1 _ _ h1).1 (i1 _ _ h2) hw rfl (by cases e<;>first|rfl|cases hw)
         · cases h
       · cases h
     · cases h
 · obtain⟨hw,h⟩:=ifs h;obtain⟨y,h1,rfl⟩:=map_some h;exact c1x hw (i1 _ _ h1)
 · split at h
   · obtain⟨y,h1,rfl⟩:=map_some h;exact c0e (i1 _ _ h1)
   · cases h
 · split at h
   · rename_i h1 h2 h3;cases h;exact c1w (i3 _ _ h1).1 (hr _ _ h2) (hr _ _ h3)
   · cases h
 · split at h
   · rename_i hel;cases isEmpty_iff.mp hel;split at h
     · rename_i h1 h2 h3;obtain⟨hs,h⟩:=ifs h;cases h;exact c0h C.toCxt C.own (i5 _ _ _ h2) ((b2d C.toCxt 8).1 _ _ h1).1 (hr _ _ h3) hs
     · cases h
   · cases h
 · split at h
   · rename_i hel;cases isEmpty_iff.mp hel;split at h
     · rename_i h1 h2;cases h;exact c0a C.own (i3 _ _ h1).1 (hr _ _ h2)
     · cases h
   · cases h
 · cases h;exact c0i
 · cases h
theorem a9K(C:Cxs X Γ G ct c Ex N sc){r:List Stmt->Option Ss}(hr:∀l ss,r l=some ss->PSs X l (TSv Γ Ex (exs ct c ss))):∀l ss,sSs G N sc r l=some ss->PSs X l (TSv Γ Ex (exs ct c ss))
 |[],ss,h=>by unfold sSs at h;cases h;exact c0g
 |st::l,ss,h=>by
  unfold sSs at h;split at h
  · rename_i h1 h2;cases h;exact b7y (b8q C hr _ _ h1) (a9K C hr l _ h2)
  · cases h
theorem b1U(C:Cxs X Γ G ct c Ex N sc):∀n l ss,cSs G N sc n l=some ss->PSs X l (TSv Γ Ex (exs ct c ss))
 |0,l,ss,h=>absurd (show none=some ss from h) ⋯
 |n+1,l,ss,h=>a9K C (b1U C n) l ss h
end
structure RowOk(K:Frag)(G:GT)(F:Nat->Option Fn)(x qual:Str)(id np0:Nat)(f:Addr)(fd:FuncData)(st:Stmt)(N ps:List Str):Prop where
 fn:Fun K x qual st f fd
 sc:FnScope N ps (p7 st)
 bd:R6 K fd ps []
 np:ps.length=np0
 F:∃fn,F id=some fn/\fn.np=np0/\fn.ns=N.length/\cSs G N (p7 st) 20 (L8 st)=some fn.body
structure Stat(P:Program)(w:World)(Γ:Gm)(G:GT)(ct:CT)(F:Nat->Option Fn)(mg:Str->Option Value):Prop where
 scal:∀x d,G.scal.lookup x=some d->∃u v,mg x=some u/\i8 v u/\∀m H,Rp m H d v
 tups:∀x ds,G.tups.lookup x=some ds->∃a vs,mg x=some (.ref a)/\(∀H,SqT Γ.K H a vs)/\∀m H,Rps m H ds vs
 dicts:∀x bq,G.dicts.lookup x=some bq->∃a gs,mg x=some (.ref a)/\a9l P w Γ.K a gs/\∀m H,DK m H bq gs
 blt:∀x,G.blt.contains x=true->mg x=none
 fn:∀x id np,G.fn.lookup x=some (id,np)->∃f fd st N ps,mg x=some (.ref f)/\RowOk Γ.K G F x x id np f fd st N ps
 obj:∀x k,G.obj.lookup x=some k->k∈Γ.ob/\mg x=some (.ref (Γ.cA k))/\∃f fd st N ps qual,Mk Γ.K (Γ.cA k) f/\RowOk Γ.K G F "__init__" qual (ct.init k) 1 f fd st N ps
 att:∀k,k∈Γ.ob->Cls Γ.K (Γ.cA k)/\∀f,G.atts.contains f=true->a0a Γ.K (Γ.cA k) f
 tyc:∀k,k∈Γ.ob->TyC Γ.K (Γ.cA k)
variable{ds:List D}{np:Nat}{id:Nat}
section
variable{P:Program}{w:World}{Γ:Gm}{G:GT}{ct:CT}{F:Nat->Option Fn}{mg:Str->Option Value}
theorem a9e{N:List Str}{ns:Nat}(rs:Rps m H ds vs)(hn:ns=N.length)(hd:ds.length=np):EnvRel m H (ds.map some++List.replicate (ns-np) none) (L2.a0T N vs):=by
 unfold L2.a0T;refine⟨by simp[rs.len,hn,hd],λi d e=>?_⟩
 by_cases hi:i<ds.length
 · rw[av (by simpa using hi),ak] at e;rw[av (by simpa [rs.len] using hi),ak];cases hd':ds[i]? with
   |none=>rw[hd'] at e;cases e
   |some d'=>
    rw[hd'] at e;cases e;obtain⟨v,h1,h2⟩:=rs.get hd';exact⟨v,by rw[h1];rfl,h2⟩
 · rw[au (by simpa using hi),bo] at e;split at e<;>cases e
def b8K:R Out->R D
 |.ok (.nx _) h=>.ok .non h
 |.ok (.rt d) h=>.ok d h
 |.no=>.no
theorem a3r(n:Nat)(f:Nat)(ds:List D)(h:AH):b4 ct F (n+1) f ds h=match F f with
 |none=>.no
 |some fd=>if ds.length=fd.np then gcR fd.gc h (b8K (exs ct (b4 ct F n) fd.body (ds.map some++List.replicate (fd.ns-fd.np) none) h)) else .no:=by
 show(match F f with
  |none=>R.no
  |some fd=>if ds.length=fd.np then gcR fd.gc h (match exs ct (b4 ct F n) fd.body (ds.map some++List.replicate (fd.ns-fd.np) none) h with
   |.ok (.nx _) h'=>.ok .non h'
   |.ok (.rt d) h'=>.ok d h'
   |.no=>.no) else .no)=_
 cases F f with
 |none=>rfl
 |some fd=>
  simp only;generalize exs ct (b4 ct F n) fd.body (ds.map some++List.replicate (fd.ns-fd.np) none) h=r;cases r with
  |ok o h=>cases o<;>rfl
  |no=>rfl
theorem a7B:(∀d v v' m0 H0,m0.length=n->Rp m0 H0 d v'->Rp m' H d v->Rp (m'.take n) H d v)/\∀l vs eA m0 H0,m0.length=n->Rps m0 H0 l eA->Rps m' H l vs->Rps (m'.take n) H l vs:=by
 refine D.ind (P:=λd=>∀v v' m0 H0,m0.length=n->Rp m0 H0 d v'->Rp m' H d v->Rp (m'.take n) H d v) (Q:=λl=>∀vs eA m0 H0,m0.length=n->Rps m0 H0 l eA->Rps m' H l vs->Rps (m'.take n) H l vs) ?_ ?_ ?_ ?_ ?_ ?_ ?_ ?_
 · intro v v' m0 H0 _ _ h;exact h
 · intro b v v' m0 H0 _ _ h;exact h
 · intro b v v' m0 H0 _ _ h;exact h
 · intro b v v' m0 H0 _ _ h;exact h
 · rintro l ih v v' m0 H0 hn ⟨a',eA,_,_,q'⟩ ⟨a,vs,rfl,e,q⟩;exact⟨a,vs,rfl,e,ih vs eA m0 H0 hn q' q⟩
 · rintro k v v' m0 H0 hn ⟨a',_,e'⟩ ⟨a,rfl,e⟩;refine⟨a,rfl,?_⟩;have:=(ae.mp e').1;rw[bn (by omega)];exact e
 · intro vs eA m0 H0 _ _ h;exact h
 · rintro d r ih ihs vs eA m0 H0 hn ⟨v',t',_,q1',q2'⟩ ⟨v,t,rfl,q1,q2⟩;exact⟨v,t,rfl,ih v v' m0 H0 hn q1' q1,ihs t t' m0 H0 hn q2' q2⟩
theorem a5R{β':Type}{R R':α->β->Prop}{R0:α->β'->Prop}(f:∀a b b',R0 a b'->R a b->R' a b){l:List α}{l':List β'}(h:Paired R0 l l'):∀{l2:List β},Paired R l l2->Paired R' l l2:=by
 induction h with
 |nil=>
  intro l2 h;cases h;exact .nil
 |cons h t ih=>
  intro l2 q;obtain- |⟨a,b⟩:=q;exact .cons (f _ _ _ h a) (ih b)
theorem a9j{a a0:Addr}{c:Cell}(hn:m.length=n)(h0:C8 Γ m H0 a0 c)(h:C8 Γ m' H a c):C8 Γ (m'.take n) H a c:=by
 have rp:=λd v v' (h1:Rp m H0 d v') (h2:Rp m' H d v)=>(a7B (m':=m') (n:=n) (H:=H)).1 d v v' m H0 hn h1 h2;have rps:=λd v v' (h1:Rps m H0 d v') (h2:Rps m' H d v)=>(a7B (m':=m') (n:=n) (H:=H)).2 d v v' m H0 hn h1 h2;have pr:∀{κ κ' κ'':Type} {l:List (κ×D)} {l':List (κ'×V)} {l2:List (κ''×V)} {A:κ->κ'->Prop} {B:κ->κ''->Prop},Paired (λp q=>A p.1 q.1/\Rp m H0 p.2 q.2) l l'->Paired (λp q=>B p.1 q.1/\Rp m' H p.2 q.2) l l2->Paired (λp q=>B p.1 q.1/\Rp (m'.take n) H p.2 q.2) l l2:=
  λh0 h=>a5R (λa b b' x y=>⟨y.1,rp _ _ _ x.2 y.2⟩) h0 h
 cases c with
 |lst l=>obtain⟨eA,_,r'⟩:=h0;obtain⟨vs,e,r⟩:=h;exact⟨vs,e,rps _ _ _ r' r⟩
 |rol l=>obtain⟨eA,_,r',_⟩:=h0;obtain⟨vs,e,r,z⟩:=h;exact⟨vs,e,rps _ _ _ r' r,z⟩
 |rod l=>
  obtain⟨u',_,_,r'⟩:=h0;obtain⟨u,o,e,r⟩:=h;refine⟨u,o,e,?_⟩;rcases r with⟨bq,z,r⟩|⟨bq,z,r⟩
  · rcases r' with⟨kvs',_,r'⟩|⟨kvs',_,r'⟩
    · exact .inl ⟨bq,z,pr (A:=λp q=>D9 p=some q) (B:=λp q=>D9 p=some q) r' r⟩
    · exact .inl ⟨bq,z,pr (A:=fun(p:D) q=>∃l,p=D.tup l/\v7 l=some q) (B:=λp q=>D9 p=some q) r' r⟩
  · rcases r' with⟨kvs',_,r'⟩|⟨kvs',_,r'⟩
    · exact .inr ⟨bq,z,pr (A:=λp q=>D9 p=some q) (B:=fun(p:D) q=>∃l,p=D.tup l/\v7 l=some q) r' r⟩
    · exact .inr ⟨bq,z,pr (A:=fun(p:D) q=>∃l,p=D.tup l/\v7 l=some q) (B:=fun(p:D) q=>∃l,p=D.tup l/\v7 l=some q) r' r⟩
 |dict l=>
  rcases h with⟨bq,e,r⟩|⟨bq,e,r⟩
  · rcases h0 with⟨kvs',_,r'⟩|⟨kvs',_,r'⟩
    · exact .inl ⟨bq,e,pr (A:=λp q=>D9 p=some q) (B:=λp q=>D9 p=some q) r' r⟩
    · exact .inl ⟨bq,e,pr (A:=fun(p:D) q=>∃l,p=D.tup l/\v7 l=some q) (B:=λp q=>D9 p=some q) r' r⟩
  · rcases h0 with⟨kvs',_,r'⟩|⟨kvs',_,r'⟩
    · exact .inr ⟨bq,e,pr (A:=λp q=>D9 p=some q) (B:=fun(p:D) q=>∃l,p=D.tup l/\v7 l=some q) r' r⟩
    · exact .inr ⟨bq,e,pr (A:=fun(p:D) q=>∃l,p=D.tup l/\v7 l=some q) (B:=fun(p:D) q=>∃l,p=D.tup l/\v7 l=some q) r' r⟩
 |obj k fs=>obtain⟨dx',gs',_,r',_⟩:=h0;obtain⟨dx,gs,e,r,z⟩:=h;exact⟨dx,gs,e,pr (A:=λp q=>p=q) (B:=λp q=>p=q) r' r,z⟩
theorem Sim.drop{eu:AH}(s:Sim Γ ah m H)(s':Sim Γ eu m' H')(p:Pre m m')(k:Keep m m' H H')(h:eu.take ah.length=ah):Sim Γ ah m H':=by
 have hm:m'.take ah.length=m:=by obtain⟨t,rfl⟩:=p;rw[←s.len,List.take_left]
 refine⟨s.len,s.nd,λn a c hn hc=>?_⟩;have hl:=(ae.mp hc).1;have em:eu[n]? =some c:=by rw[←h,bn hl] at hc;exact hc
 have:=a9j (n:=ah.length) s.len (s.at hn hc) (s'.at (p.get hn) em)
 rwa [hm] at this
theorem a9d{a:Addr}{c:Cell}(f:c.flat=true)(h:C8 Γ m H a c):C8 Γ m' H a c:=by
 cases c with
 |lst l=>obtain⟨vs,e,r⟩:=h;exact⟨vs,e,(a4F (m':=m')).2 _ _ f r⟩
 | dict l=>
  have go:∀{κ:Type} {A:D->κ->Prop} {l:List (D×D)} {l2:List (κ×V)},(l.all λp=>p.1.flat&&p.2.flat)=true->Paired (λp q=>A p.1 q.1/\Rp m H p.2 q.2) l l2->Paired (λp q=>A p.1 q.1/\Rp m' H p.2 q.2) l l2:=by
   intro κ A l l2 hf hp
   induction hp with
   |nil=>exact .nil
   |cons h t ih=>
    rw[all_cons,af,af] at hf;exact .cons ⟨h.1,(a4F (m':=m')).1 _ _ hf.1.2 h.2⟩ (ih hf.2)
  rcases h with⟨bq,e,r⟩|⟨bq,e,r⟩
  · exact .inl ⟨bq,e,go (A:=λp q=>D9 p=some q) f r⟩
  · exact .inr ⟨bq,e,go (A:=fun(p:D) q=>∃l,p=D.tup l/\v7 l=some q) f r⟩
 |_=>cases f
theorem b9q {E:XK} {g:Nat} {r:R Out} (s:Sim Γ ah m H) (h:d0 Γ E m H (gcR g ah (b8K r)) Q):j0 Γ E m H r (SQ {nx:=λ_ H'=>Q .non H',rt:=Q}):=by
 have main : ∀ {d:D} {eu:AH},d0 Γ E m H (gcR g ah (.ok d eu)) Q->∀m' H' v,Pre m m'->Keep m m' H H'->Sim Γ eu m' H'->Rp m' H' d v->Q v H':=by
  intro d eu h m' H' v p k s' rv;unfold gcR at h;simp only at h;split at h
  · exact h m' H' v p k s' rv
  · split at h
    · obtain⟨hh,h⟩:=ifq h;exact h m H' v (Pre.refl m) ⟨k.imm,k.out,λ_ z=>.inl z⟩ (s.drop s' p k hh.1) ((a4F (m':=m)).1 d v hh.2 rv)
    · split at h
      · rename_i kk;split at h
        · rename_i c hc;obtain⟨hh,h⟩:=ifq h;obtain⟨a,rfl,ha⟩:=rv;have s0:=s.drop s' p k hh.1;have hna:a∉m:=λz=>by obtain⟨i,hi⟩:=List.getElem?_of_mem z;have e1:=p.get hi;have hlt:=(ae.mp hi).1;obtain⟨h1,e1⟩:=ae.mp e1;obtain⟨h2,e2⟩:=ae.mp ha;have:=(getElem_inj s'.nd).mp (e1.trans e2.symm);have hl:=s.len;omega
          have Hn:H a=none:=by
           rcases k.fr a (aF ha) with z|z
           · exact absurd z hna
           · exact z
          refine h (m++[a]) H' (.ref a) (Pre.snoc m a) ⟨k.imm,k.out,λb hb=>?_⟩ ?_ ⟨a,rfl,?_⟩
          · rcases aI.mp hb with z|z
            · exact .inl z
            · simp at z;subst z;exact .inr Hn
          · refine⟨by simp[s.len],a0B s.nd hna,λn b cc hn dG=>?_⟩
            by_cases hl:n<m.length
            · rw[av hl] at hn;rw[av (by rw[←s.len];exact hl)] at dG;exact(s0.at hn dG).mono' (Pre.snoc m a) (λ_ _ _ z=>z) rfl
            · have hn':n=m.length:=by have:=(ae.mp hn).1;simp at this;omega
              subst hn';rw[au (aj _)] at hn;rw[s.len,au (aj _)] at dG;simp at hn dG;subst hn;subst dG;exact a9d hh.2.2 (s'.at ha hc)
          · rw[←s.len,au (aj _)];simp
        · exact h.elim
      · exact h.elim
 cases r with
 |ok o eu=>
  cases o with
  |nx env=>exact λm' H' p k s' bE _=>main h m' H' .non p k s' rfl
  |rt d=>exact λm' H' p k s' v rv=>main h m' H' v p k s' rv
 |no=>exact h.elim
theorem a5h(S:Stat P w Γ G ct F mg)(ih1:∀x id np,G.fn.lookup x=some (id,np)->∃f fd ps,ps.length=np/\mg x=some (.ref f)/\PySem.W.keepIn Γ.K (.ref f)=true/\R6 Γ.K fd ps []/\∀base,FnOk P w Γ.K mg base CX0 (2*n+6) f fd ps (a4y Γ (b4 ct F n) id np))
 (ih2:∀x k,G.obj.lookup x=some k->k∈Γ.ob/\mg x=some (.ref (Γ.cA k))/\∃f fd ps,ps.length=1/\Mk Γ.K (Γ.cA k) f/\R6 Γ.K fd ps []/\∀base,FnOk P w Γ.K mg base CX0 (2*n+6) f fd ps (a4y Γ (b4 ct F n) (ct.init k) 1))
 (ar:∀x id np,G.fn.lookup x=some (id,np)->∀ds h,ds.length≠np->b4 ct F n id ds h=.no)
 {qual:Str} {f:Addr} {fd:FuncData} {N ps:List Str} (R:RowOk Γ.K G F x qual id np f fd st N ps) (base:Heap):FnOk P w Γ.K mg base CX0 (2*(n+1)+6) f fd ps (a4y Γ (b4 ct F (n+1)) id np):=by
 obtain⟨fn,F1,F2,F3,F4⟩:=R.F;obtain⟨oc,od,kV,cM,pm,an,cu,ct',ei,rfl,lk,eE⟩:=R.fn.ex;refine b9t (k:=2*n+7) lk eE R.sc (λvs H Q E h=>?_) λA outer s H vs Q E hr eB=>?_
 · obtain⟨ds,ah,m,h1,h2,_⟩:=h;rw[h2.len,h1,R.np]
 · obtain⟨ds,ah,m,h1,h2,h3,h4⟩:=eB;have C:Cxt (a7l CX0 P w Γ.K mg base N qual (p7 st) f cu A outer s H E) Γ G ct (b4 ct F n) E N (p7 st) true:=by
    refine⟨rfl,R.sc.nd,rfl,rfl,?_,rfl,λ_ _=>rfl,S.scal,S.tups,S.dicts,S.blt,λy i j hy=>?_,λy k hy=>?_,S.att,S.tyc⟩
    · exact Nat.lt_of_le_of_lt (Nat.add_le_add_left (by decide:8<=64) _) hr.units
    · obtain⟨f',fd',ps',a1,a2,a3,a4,a5⟩:=ih1 y i j hy;exact⟨2*n+6,f',fd',ps',a1,hr.mono (by omega),a2,a3,a4,a5 base,ar y i j hy⟩
    · obtain⟨b1,b2,f',fd',ps',a1,a2,a3,a4⟩:=ih2 y k hy;exact⟨b1,2*n+6,f',fd',ps',a1,hr.mono (by omega),a2,b2,a3,a4 base⟩
   have Cs:Cxs (a7l CX0 P w Γ.K mg base N qual (p7 st) f cu A outer s H E) Γ G ct (b4 ct F n) E N (p7 st):=by exact⟨C,PassesOwn.leaving⟩
   refine⟨_,b1U Cs 20 _ _ F4,ds.map some++List.replicate (fn.ns-fn.np) none,ah,m,⟨h3,a9e h2 F3 (by rw[h1,F2])⟩,?_⟩;rw[a3r,F1] at h4;simp only at h4;rw[ay (by rw[h1,F2])] at h4;exact b9q h3 h4
theorem b1X(S:Stat P w Γ G ct F mg):∀n x id np,G.fn.lookup x=some (id,np)->∀ds h,ds.length≠np->b4 ct F n id ds h=.no
 |0,_,_,_,_,_,_,_=>rfl
 |n+1,x,id,np,hx,ds,h,hl=>by obtain⟨_,_,_,_,_,_,R⟩:=S.fn x id np hx;obtain⟨fn,F1,F2,_⟩:=R.F;rw[a3r,F1];simp only;rw[az (by rw[F2];exact hl)]
theorem b6Q(S:Stat P w Γ G ct F mg):∀n,(∀x id np,G.fn.lookup x=some (id,np)->∃f fd ps,ps.length=np/\mg x=some (.ref f)/\PySem.W.keepIn Γ.K (.ref f)=true/\R6 Γ.K fd ps []/\∀base,FnOk P w Γ.K mg base CX0 (2*n+6) f fd ps (a4y Γ (b4 ct F n) id np))∧
 (∀x k,G.obj.lookup x=some k->k∈Γ.ob/\mg x=some (.ref (Γ.cA k))/\∃f fd ps,ps.length=1/\Mk Γ.K (Γ.cA k) f/\R6 Γ.K fd ps []/\∀base,FnOk P w Γ.K mg base CX0 (2*n+6) f fd ps (a4y Γ (b4 ct F n) (ct.init k) 1)):=by
 have zero:∀{k:Nat} {f:Addr} {fd:FuncData} {ps:List Str} {id np:Nat} {base:Heap},FnOk P w Γ.K mg base CX0 k f fd ps (a4y Γ (b4 ct F 0) id np):=fun{k f fd ps id np base}=>
  ⟨λvs H Q E h=>by obtain⟨_,_,_,_,_,_,z⟩:=h;exact z.elim,λA outer s H args us vs Q E _ _ _ _ h=>by obtain⟨_,_,_,_,_,_,z⟩:=h;exact z.elim⟩
 intro n
 induction n with
 |zero=>
  refine⟨λx id np hx=>?_,λx k hk=>?_⟩
  · obtain⟨f,fd,st,N,ps,g,R⟩:=S.fn x id np hx;exact⟨f,fd,ps,R.np,g,R.fn.kp,R.bd,λbase=>zero⟩
  · obtain⟨o1,o2,f,fd,st,N,ps,qual,M,R⟩:=S.obj x k hk;exact⟨o1,o2,f,fd,ps,R.np,M,R.bd,λbase=>zero⟩
 |succ n ih=>
  refine⟨λx id np hx=>?_,λx k hk=>?_⟩
  · obtain⟨f,fd,st,N,ps,g,R⟩:=S.fn x id np hx;exact⟨f,fd,ps,R.np,g,R.fn.kp,R.bd,λbase=>a5h S ih.1 ih.2 (b1X S n) R base⟩
  · obtain⟨o1,o2,f,fd,st,N,ps,qual,M,R⟩:=S.obj x k hk;exact⟨o1,o2,f,fd,ps,R.np,M,R.bd,λbase=>a5h S ih.1 ih.2 (b1X S n) R base⟩
end
end EV
namespace L2T
open PySem
abbrev cd(z:Str):List Nat:=z.cps.toList
variable{x:Str}
theorem Z7{y:Str}(h:cd x=cd y):x=y:=by cases x;cases y;exact fh Str.mk (Array.toList_inj.mp h)
theorem G3(x y:Str):cd (x++y)=cd x++cd y:=by show(x.cps++y.cps).toList=_;simp
theorem n9(x:Str):(cd x).length=x.length:=by simp[cd,Str.length]
def jn(c:Nat):List (List Nat)->List Nat
 |[]=>[]
 |[x]=>x
 |x::y::r=>x++c::jn c (y::r)
theorem a2A(c:Nat):∀ps:List Str,cd (Str.join ⟨#[c]⟩ ps)=jn c (ps.map cd)
 |[]=>rfl
 |[x]=>rfl
 |x::y::r=>by show cd (x++⟨#[c]⟩++Str.join ⟨#[c]⟩ (y::r))=cd x++c::jn c ((y::r).map cd);rw[G3,G3,a2A c (y::r)];simp[cd]
theorem a4h{c:Nat}:∀{p q a b:List Nat},c∉p->c∉q->p++c::a=q++c::b->p=q/\a=b
 |[],[],a,b,_,_,h=>⟨rfl,by simpa using h⟩
 |[],y::q,a,b,_,hq,h=>by have e:c=y:=(List.cons.inj h).1;exact absurd (by rw[e];exact aU) hq
 |x::p,[],a,b,hp,_,h=>by have e:x=c:=(List.cons.inj h).1;exact absurd (by rw[←e];exact aU) hp
 |x::p,y::q,a,b,hp,hq,h=>by obtain⟨e1,e2⟩:=List.cons.inj h;obtain⟨e3,e4⟩:=a4h (λz=>hp (aD _ z)) (λz=>hq (aD _ z)) e2;exact⟨by rw[e1,e3],e4⟩
theorem b0R{c:Nat}:∀{ps qs:List (List Nat)},ps≠[]->qs≠[]->(∀p∈ps,c∉p)->(∀q∈qs,c∉q)->jn c ps=jn c qs->ps=qs
 |[],_,h,_,_,_,_=>absurd rfl h
 |_::_,[],_,h,_,_,_=>absurd rfl h
 |[x],[y],_,_,_,_,h=>by rw[show x=y from h]
 |[x],y::z::r,_,_,hp,_,h=>by have h':x=y++c::jn c (z::r):=h;exact absurd (by rw[h'];simp) (hp x aU)
 |x::y::r,[z],_,_,_,hq,h=>by have h':x++c::jn c (y::r)=z:=h;exact absurd (by rw[←h'];simp) (hq z aU)
 |x::y::r,z::u::t,_,_,hp,hq,h=>by obtain⟨e1,e2⟩:=a4h (hp x aU) (hq z aU) h;have e3:=b0R (cons_ne_nil _ _) (cons_ne_nil _ _) (λp hp'=>hp p (aD _ hp')) (λq hq'=>hq q (aD _ hq')) e2;rw[e1,e3]
theorem a7L:∀{ps qs:List Str},ps.map cd=qs.map cd->ps=qs
 |[],[],_=>rfl
 |[],_::_,h=>by cases h
 |_::_,[],h=>by cases h
 |x::r,y::t,h=>by obtain⟨e1,e2⟩:=List.cons.inj h;rw[Z7 e1,a7L e2]
variable{c:Nat}
theorem a2J{ps:List Str}(hn:ps≠[])(hf:∀p∈ps,c∉cd p)(h:cd x=jn c (ps.map cd)):Txt.split x ⟨#[c]⟩=ps:=by
 have h1:=StrLaws.join_split x ⟨#[c]⟩;have h2:jn c ((Txt.split x ⟨#[c]⟩).map cd)=jn c (ps.map cd):=by rw[←a2A,h1,h]
 have h3:Txt.split x ⟨#[c]⟩≠[]:=λe=>by have:=split_pos x ⟨#[c]⟩;rw[e] at this;exact absurd this (by decide)
 refine a7L (b0R (λe=>h3 (List.map_eq_nil_iff.mp e)) (λe=>hn (List.map_eq_nil_iff.mp e)) (λp hp=>?_) (λp hp=>?_) h2)
 · obtain⟨q,hq,rfl⟩:=am.mp hp;exact StrLaws.split_free x c q hq
 · obtain⟨q,hq,rfl⟩:=am.mp hp;exact hf q hq
def b9v:Str:="0123456789"
def a0U:Str:="abcdefghijklmnopqrstuvwxyz0123456789"
def N3(c:Nat):Bool:=decide (c∈cd a0U)
def Q8(c:Nat):Bool:=decide (c∈cd b9v)
theorem a5j(c:Nat):Q8 c=true↔48<=c/\c<=57:=by unfold Q8;rw[fP,show cd b9v=List.range' 48 10 from by decide+kernel,List.mem_range'_1];exact and_congr_right λ_=>Nat.lt_succ_iff
def b9(z:Str):Bool:=decide (1<=z.length)&&decide (z.length<=12)&&(cd z).all N3
noncomputable def a1S(z:Str):Bool:=decide (1<=z.length)&&decide (z.length<=5)&&(cd z).all Q8&&(decide (z="0")||!decide ((cd z).head? =some 48))
noncomputable def T9(z:Str):Option Int:=if(cd z).all Q8=true then(if z=""∨5<z.length∨((cd z).head? =some 48/\1<z.length) then none else some ((NumText.digitsVal (cd z):Nat):Int)) else none
def tl(z:Str):Str:=⟨((cd z).drop 1).toArray⟩
theorem a4l(z:Str):cd (tl z)=(cd z).drop 1:=by simp[tl,cd]
def a3Q(z:Str):Bool:=if(cd z).head? =some 45 then(!decide (z="-0")&&a1S (tl z)) else a1S z
def a0q(z:Str):Option Int:=if(cd z).head? =some 45 then(match T9 (tl z) with|none=>none|some n=>if n=0 then none else some (-n)) else T9 z
theorem a8R(z:Str):z=""↔z.length=0:=by
 constructor
 · rintro rfl;rfl
 · intro h;refine Z7 ?_;have:(cd z).length=0:=by rw[n9];exact h
   rw[length_eq_zero_iff.mp this];rfl
variable{z:Str}
theorem a3x(h:(cd z).all Q8=true):NumText.AllDigits (cd z):=λc hc=>(a5j c).mp (ba.mp h c hc)
theorem a4f:∀(cs:List Nat) (a:Nat),a<=cs.foldl (λbw c=>bw*10+(c-48)) a
 |[],a=>aj _
 |c::r,a=>aO (by omega) (a4f r (a*10+(c-48)))
theorem a7k{r:List Nat}(h:48<c):0<NumText.digitsVal (c::r):=by unfold NumText.digitsVal;rw[foldl_cons];exact aC (by omega) (a4f r (0*10+(c-48)))
theorem a2Z:a1S z=(T9 z).isSome:=by
 unfold a1S T9
 by_cases h:(cd z).all Q8=true
 · rw [ay h,h]
   by_cases q:z=""∨5<z.length∨((cd z).head? =some 48/\1<z.length)
   · rw[ay q];show _=false;rcases q with q|q|⟨q1,q2⟩
     · rw[a8R] at q;simp[q]
     · simp[show¬z.length<=5 by omega]
     · have ne:¬z="0":=by rintro rfl;exact absurd q2 (by decide)
       simp[q1,ne]
   · rw [az q];show _=true;have q1:¬z.length=0:=λe=>q (.inl ((a8R z).mpr e));have q2:z.length<=5:=aQ λe=>q (.inr (.inl e));have q3:z="0"∨¬(cd z).head? =some 48:=by
      by_cases e:(cd z).head? =some 48
      · left
        have l:z.length=1:=by have k:¬1<z.length:=λe'=>q (.inr (.inr ⟨e,e'⟩));omega
        refine Z7 ?_;have l':(cd z).length=1:=by rw[n9];exact l
        obtain⟨x,hx⟩:=List.length_eq_one_iff.mp l';rw[hx] at e⊢;have e':x=48:=by simpa using e
        rw[e'];decide+kernel
      · exact .inr e
     have a1:1<=z.length:=by omega
     rcases q3 with q3|q3
     · rw[q3];decide+kernel
     · simp[a1,q2,q3]
 · rw[az h];show _=false;simp[show(cd z).all Q8=false from by simpa using h]
variable{n:Int}
theorem a2w (h:T9 z=some n):intText? z=some n/\z.length<=640/\0<=n/\(n=0↔z="0"):=by
 unfold T9 at h
 by_cases q:(cd z).all Q8=true
 · rw[ay q] at h
   by_cases p:z=""∨5<z.length∨((cd z).head? =some 48/\1<z.length)
   · rw[ay p] at h;cases h
   · rw [az p] at h;cases h;have p1:¬z.length=0:=λe=>p (.inl ((a8R z).mpr e));have p2:z.length<=5:=aQ λe=>p (.inr (.inl e));have ne:cd z≠[]:=λe=>p1 (by rw[←n9,e];rfl);refine⟨PySem.intText_digits (a3x q) ne (by omega),by omega,Int.natCast_nonneg _,?_,?_⟩
     · intro e;have e0:NumText.digitsVal (cd z)=0:=by omega
       cases hz:cd z with
       |nil=>exact absurd hz ne
       | cons c r=>
        have hc:c=48:=by
         have:=(a3x q) c (by rw[hz];exact aU);rw[hz] at e0
         by_cases k:48<c
         · exact absurd (a7k (r:=r) k) (by omega)
         · omega
        have hl:¬1<z.length:=λe'=>p (.inr (.inr ⟨by rw[hz,hc];rfl,e'⟩));have hr:r=[]:=by
         have:(cd z).length=r.length+1:=by rw[hz];rfl
         rw[n9] at this;exact length_eq_zero_iff.mp (by omega)
        refine Z7 ?_;rw[hz,hc,hr];decide+kernel
     · rintro rfl;decide+kernel
 · rw[az q] at h;cases h
theorem a5G:a3Q z=(a0q z).isSome:=by
 unfold a3Q a0q
 by_cases h:(cd z).head? =some 45
 · rw [ay h,ay h,a2Z];have hz:(z="-0")↔tl z="0":=by
    constructor
    · rintro rfl;decide+kernel
    · intro e;refine Z7 ?_;have e1:(cd z).drop 1=cd "0":=by rw[←a4l,e]
      cases hc:cd z with
      |nil=>rw[hc] at h;cases h
      |cons c r=>
       rw[hc] at h e1;have em:c=45:=by simpa using h
       have hr:r=cd "0":=e1;rw[em,hr];decide+kernel
   cases q:T9 (tl z) with
   |none=>simp
   |some n=>
    obtain⟨_,_,_,k⟩:=a2w q
    by_cases e:n=0
    · simp[e,hz,k.mp e]
    · have k':¬tl z="0":=λz'=>e (k.mpr z');simp[e,hz,k']
 · rw[az h,az h];exact a2Z
theorem a2s(h:a0q z=some n):intText? z=some n/\z.length<=640:=by
 unfold a0q at h
 by_cases q:(cd z).head? =some 45
 · rw [ay q] at h;cases e:T9 (tl z) with
   |none=>rw[e] at h;cases h
   |some m=>
    rw[e] at h
    dsimp only at h
    by_cases m0:m=0
    · rw[ay m0] at h;cases h
    · rw [az m0] at h;cases h;cases hc:cd z with
      |nil=>rw[hc] at q;cases q
      |cons c r=>
       have em:c=45:=by rw[hc] at q;simpa using q
       have ht:cd (tl z)=r:=by rw[a4l,hc];rfl
       unfold T9 at e
       by_cases f:(cd (tl z)).all Q8=true
       · rw[ay f] at e
         by_cases p:tl z=""∨5<(tl z).length∨((cd (tl z)).head? =some 48/\1<(tl z).length)
         · rw[ay p] at e;cases e
         · rw[az p] at e;cases e;have l2:(tl z).length<=5:=aQ λk=>p (.inr (.inl k));have l3:z.length=(tl z).length+1:=by rw[←n9 z,←n9 (tl z),ht,hc];rfl
           have ne:r≠[]:=λk=>p (.inl ((a8R _).mpr (by rw[←n9,ht,k];rfl)));refine⟨?_,by omega⟩;rw[ht];exact PySem.intText_neg (by rw[←em];exact hc) (ht▸a3x f) ne (by omega)
       · rw[az f] at e;cases e
 · rw[az q] at h;exact⟨(a2w h).1,(a2w h).2.1⟩
end L2T
namespace EV
open PySem L2
def rpB:Ss:=(.o (.iff (.cmp .isin (.v 3) (.tup (.cons (.s "/") (.o (.s ">"))))) (.cons (.ex (.mt .append (.v 2) (.o (.v 3)))) (.o (.ex (.mt .append (.v 1) (.o (.lst .nil)))))) (.o (.ex (.mt .append (.ix (.v 1) (.neg (.i 1))) (.o (.v 3)))))))
def rhB:Ss:=(.cons (.set 4 (.call 1 (.o (.v 3)))) (.o (.iff (.cmp .gt (.bi .len (.o (.v 4))) (.i 0)) (.cons (.set 5 (.call 13 (.cons (.v 1) (.o (.v 4))))) (.o (.iff (.notN (.v 5)) (.o .bad) .nil))) .nil)))
def abc:Str:="abcdefghijklmnopqrstuvwxyz"
def cA:E:=(.comp (.nm 0) (.rng1 (.v 1)) 1 [3,2,1] .yes (.bin .mul (.ix (.v 2) (.v 1)) (.bin .sub (.v 3) (.v 0))))
def cS:E:=(.comp (.nm 0) (.rng1 (.v 4)) 1 [0,2] .yes (.ix (.bin .add (.v 2) (.s "0123456789")) (.bin .mod (.bin .add (.bin .div (.v 1) (.i 16224)) (.bin .mul (.i 7) (.v 0))) (.i 36))))
def cB:E:=(.comp (.nm 0) (.rng1 (.v 1)) 1 [3,2,5,6] .yes (.bin .add (.bin .add (.sl (.v 4) .no (.at (.v 3))) (.ix (.v 2) (.bin .mod (.bin .add (.v 1) (.bin .mul (.i 5) (.v 0))) (.i 26)))) (.sl (.v 4) (.at (.v 3)) .no)))
def wE:E:=(.ix (.lst (.cons (.i 0) (.cons (.bin .mod (.bin .div (.v 5) (.i 4)) (.i 20)) (.cons (.bin .mod (.bin .div (.v 5) (.i 4)) (.i 1000)) (.o (.bin .mod (.bin .div (.v 5) (.i 4)) (.i 99999))))))) (.bin .mod (.v 5) (.i 4)))
def wB:Ss:=(.cons (.set 5 (.call 202 (.cons (.v 0) (.o (.bin .add (.v 4) (.i 10)))))) (.o (.ex (.mt .append (.v 3) (.cons wE .nil)))))
def a9H:E:=(.ix (.lst (.cons (.s "above") (.o (.s "below")))) (.bin .mod (.bin .div (.v 4) (.i 4)) (.i 2)))
def b8T:Ss:=(.o (.ex (.mt .append (.v 2) (.o (.tup (.cons (.ix (.ix (.v 1) (.v 3)) (.i 0)) (.cons (.v 5) (.cons (.call 205 (.o (.bin .div (.v 4) (.i 8)))) (.o (.call 205 (.o (.bin .div (.v 4) (.i 8000)))))))))))))
def mkB:Ss:=(.cons (.set 4 (.call 202 (.cons (.v 0) (.o (.bin .add (.v 3) (.i 40)))))) (.o (.iff (.cmp .eq (.bin .mod (.v 4) (.i 4)) (.i 1)) (.cons (.set 5 a9H) b8T) .nil)))
def b0c:Ss:=(.o (.iff (.cmp .gt (.bin .mod (.bin .div (.v 4) (.i 2)) (.i 3)) (.i 0)) (.o (.ex (.mt .append (.v 2) (.o (.tup (.cons (.ix (.ix (.v 1) (.v 3)) (.i 0)) (.cons (.v 5) (.o (.call 205 (.o (.bin .div (.v 4) (.i 6)))))))))))) .nil))
def ptB:Ss:=(.cons (.set 4 (.call 202 (.cons (.v 0) (.o (.bin .add (.v 3) (.i 70)))))) (.o (.for (.nm 5) (.seq (.sl (.lst (.cons (.s "above") (.o (.s "below")))) (.at (.bin .mod (.v 4) (.i 2))) .no)) b0c)))
noncomputable def jnD:List (D×D):=[((.str "both"),(.int (4))),((.str "back"),(.int (2))),((.str "none"),(.int (1))),((.str "clear"),(.int (1)))]
noncomputable def jnE:E:=(.lst (.cons (.s "both") (.cons (.s "back") (.cons (.s "none") (.cons (.s "both") (.cons (.s "clear") (.o (.s "both"))))))))
def wyE:E:=(.lst (.cons (.s "left") (.cons (.s "right") (.o (.s "either")))))
def fcE:E:=(.comp (.nm 0) (.rng1 (.v 8)) 1 [6,1] .yes (.ix (.ix (.v 2) (.bin .mod (.bin .div (.v 1) (.bin .add (.bin .mul (.bin .mul (.v 0) (.v 0)) (.i 31)) (.i 7))) (.bi .len (.o (.v 2))))) (.i 0)))
def lB5:Ss:=(.o (.ex (.mt .append (.v 4) (.o (.tup (.cons (.ix (.v 3) (.v 5)) (.cons (.v 7) (.cons (.ix wyE (.bin .mod (.bin .div (.v 6) (.i 6)) (.i 3))) (.o (.v 9))))))))))
def lB4:Ss:=(.cons (.set 9 (.bi .tuple (.cons fcE .nil))) lB5)
def lB3:Ss:=(.cons (.set 8 (.ix (.dlit jnD) (.v 7))) lB4)
def lB:Ss:=(.cons (.set 6 (.call 202 (.cons (.v 0) (.o (.bin .add (.v 5) (.i 100)))))) (.cons (.set 7 (.ix jnE (.bin .mod (.v 6) (.i 6)))) lB3))
def smE:E:=(.comp (.nm 0) (.rng1 (.bin .add (.i 1) (.bin .mod (.v 6) (.i 5)))) 1 [6,1] .yes (.ix (.ix (.v 2) (.bin .mod (.bin .div (.v 1) (.bin .add (.bin .mul (.v 0) (.i 13)) (.i 5))) (.bi .len (.o (.v 2))))) (.i 0)))
def kB:Ss:=(.cons (.set 6 (.call 202 (.cons (.v 0) (.o (.bin .add (.v 4) (.i 130)))))) (.cons (.set 7 smE) (.o (.ex (.mt .append (.v 3) (.o (.tup (.cons (.v 5) (.o (.bi .tuple (.o (.v 7))))))))))))
def iA:Ss:=(.o (.ex (.mt .append (.v 5) (.o (.bin .add (.s "@") (.ix (.ix (.v 4) (.bin .mod (.bin .div (.v 7) (.i 3)) (.bi .len (.o (.v 4))))) (.i 0)))))))
def iC:Ss:=(.cons (.set 8 (.ix (.ix (.v 3) (.bin .mod (.bin .div (.v 7) (.i 3)) (.bi .len (.o (.v 3))))) (.i 3))) (.o (.ex (.mt .append (.v 5) (.o (.ix (.v 8) (.bin .mod (.bin .div (.v 7) (.i 50)) (.bi .len (.o (.v 8))))))))))
def iD:Ss:=(.o (.ex (.mt .append (.v 5) (.o (.ix (.ix (.v 2) (.bin .mod (.bin .div (.v 7) (.i 3)) (.bi .len (.o (.v 2))))) (.i 0))))))
def iB:Ss:=(.cons (.set 7 (.bin .div (.v 0) (.bin .add (.bin .mul (.bin .mul (.v 6) (.v 6)) (.i 17)) (.i 3)))) (.o (.iff (.cmp .eq (.bin .mod (.v 7) (.i 3)) (.i 0)) iA (.o (.iff (.cmp .eq (.bin .mod (.v 7) (.i 3)) (.i 1)) iC iD)))))
noncomputable def e6L:E:=(.lst (.cons (.i 0) (.cons (.i 0) (.cons (.i 0) (.cons (.i 1) (.cons (.i 2) (.o (.i 3))))))))
noncomputable def e7L:E:=(.lst (.cons (.i 1) (.cons (.i 2) (.cons (.i 1) (.cons (.i 2) (.cons (.i 3) (.cons (.i 4) (.o (.i 1)))))))))
def e5L:E:=(.lst (.cons (.i 1) (.cons (.i 1) (.cons (.i 1) (.cons (.i 2) (.o (.bin .add (.i 2) (.bi .int (.o (.bin .eq (.v 7) (.i 0)))))))))))
def tdE:E:=(.comp (.nm 0) (.rng1 (.v 15)) 1 [9,2] .yes (.ix (.ix (.v 2) (.bin .mod (.bin .div (.v 1) (.bin .add (.bin .mul (.v 0) (.i 7)) (.i 3))) (.bi .len (.o (.v 2))))) (.i 0)))
def rB7:Ss:=(.o (.ex (.mt .append (.v 6) (.o (.tup (.cons (.v 8) (.cons (.ix (.ix (.v 5) (.bin .mod (.bin .div (.v 9) (.i 1260)) (.bi .len (.o (.v 5))))) (.i 0)) (.cons (.v 12) (.cons (.v 13) (.cons (.v 14) (.o (.v 16))))))))))))
def rB6:Ss:=(.cons (.set 15 (.ix e5L (.bin .mod (.bin .div (.v 9) (.i 252)) (.i 5)))) (.cons (.set 16 (.bi .tuple (.cons tdE .nil))) rB7))
def rB5:Ss:=(.cons (.set 14 (.call 210 (.cons (.bin .add (.bin .div (.v 10) (.i 101)) (.i 3)) (.cons (.ix (.v 11) (.i 2)) (.cons (.v 2) (.cons (.v 3) (.o (.v 4)))))))) rB6)
def rB4:Ss:=(.cons (.set 13 (.call 210 (.cons (.bin .add (.bin .div (.v 10) (.i 11)) (.bin .mul (.i 5) (.v 7))) (.cons (.ix (.v 11) (.i 1)) (.cons (.v 2) (.cons (.v 3) (.o (.v 4)))))))) rB5)
def rB3:Ss:=(.cons (.set 12 (.call 210 (.cons (.v 10) (.cons (.ix (.v 11) (.i 0)) (.cons (.v 2) (.cons (.v 3) (.o (.v 4)))))))) rB4)
def szE:E:=(.lst (.cons (.ix e6L (.bin .mod (.v 9) (.i 6))) (.cons (.ix e7L (.bin .mod (.bin .div (.v 9) (.i 6)) (.i 7))) (.o (.ix e6L (.bin .mod (.bin .div (.v 9) (.i 42)) (.i 6)))))))
def rB:Ss:=(.cons (.set 9 (.call 202 (.cons (.v 0) (.o (.bin .add (.v 7) (.i 160)))))) (.cons (.set 10 (.call 202 (.cons (.v 0) (.o (.bin .add (.v 7) (.i 190)))))) (.cons (.set 11 szE) rB3)))
def feE:E:=(.comp (.tp (.cons (.nm 0) (.cons (.nm 1) .nil))) (.enum (.call 203 (.cons (.bin .div (.v 6) (.i 3)) (.o (.bin .add (.i 1) (.bin .mod (.v 6) (.i 3))))))) 2 [6] .yes (.tup (.cons (.v 1) (.o (.bin .gt (.bin .mod (.bin .div (.v 2) (.bin .add (.v 0) (.i 5))) (.i 4)) (.i 0))))))
def gpE:E:=(.comp (.tp (.cons (.nm 0) (.cons (.nm 1) .nil))) (.enum (.v 4)) 2 [6] (.cmp .eq (.bin .mod (.bin .div (.v 2) (.bin .add (.bin .mul (.i 7) (.v 0)) (.i 9))) (.i 4)) (.i 0)) (.ix (.v 1) (.i 0)))
def hB4:Ss:=(.cons (.set 9 gpE) (.cons (.set 10 (.call 206 (.cons (.v 2) (.o (.v 3))))) (.cons (.set 11 (.call 207 (.cons (.v 2) (.o (.v 3))))) (.o (.ret (.tup (.cons (.v 3) (.cons (.v 10) (.cons (.v 11) (.cons (.v 4) (.cons (.v 9) (.cons (.v 5) (.cons (.v 7) (.o (.v 8)))))))))))))))
def hB3:Ss:=(.cons (.set 7 feE) (.cons (.set 8 (.call 211 (.cons (.call 201 (.cons (.v 0) (.o (.i 3)))) (.cons (.v 1) (.cons (.v 3) (.cons (.v 4) (.cons (.v 5) (.o (.v 7))))))))) hB4))
def hB2:Ss:=(.cons (.set 4 (.call 208 (.cons (.call 201 (.cons (.v 0) (.o (.i 1)))) (.o (.v 3))))) (.cons (.set 5 (.call 209 (.cons (.call 201 (.cons (.v 0) (.o (.i 2)))) (.o (.v 3))))) (.cons (.set 6 (.call 202 (.cons (.call 201 (.cons (.v 0) (.o (.i 2)))) (.o (.i 5))))) hB3)))
def b3J:E:=(.bin .add (.bin .add (.bin .add (.s "shape ") (.v 0)) (.s " ")) (.bi .str (.o (.v 1))))
def b9j:E:=(.comp (.tp (.cons (.nm 0) (.cons (.nm 1) .nil))) (.seq (.ix (.v 0) (.i 0))) 2 [] .yes b3J)
def b3L:Ss:=(.cons (.set 6 (.bin .add (.bin .add (.call 213 (.o (.v 4))) (.s " ")) (.call 213 (.o (.v 5))))) (.o (.ex (.mt .append (.v 2) (.o (.bin .add (.bin .add (.bin .add (.bin .add (.bin .add (.s "mark ") (.v 1)) (.s " ")) (.v 3)) (.s " ")) (.v 6)))))))
def b6O:E:=(.bin .add (.bin .add (.bin .add (.bin .add (.bin .add (.s "point ") (.v 0)) (.s " ")) (.v 1)) (.s " ")) (.call 213 (.o (.v 2))))
def b9i:E:=(.comp (.tp (.cons (.nm 0) (.cons (.nm 1) (.cons (.nm 2) .nil)))) (.seq (.ix (.v 0) (.i 2))) 3 [] .yes b6O)
def b9d:E:=(.bin .add (.lst (.cons (.s "letter") (.cons (.v 1) (.cons (.v 7) (.o (.v 8)))))) (.bi .list (.o (.v 9))))
def b3K:Ss:=(.o (.ex (.mt .append (.v 2) (.o (.mt .join (.s " ") (.cons b9d .nil))))))
def b9h:E:=(.comp (.nm 0) (.seq (.ix (.v 0) (.i 4))) 1 [] .yes (.bin .add (.s "gap ") (.v 0)))
def b6M:E:=(.bin .add (.lst (.cons (.s "class") (.o (.v 0)))) (.bi .list (.o (.v 1))))
def b9g:E:=(.comp (.tp (.cons (.nm 0) (.cons (.nm 1) .nil))) (.seq (.ix (.v 0) (.i 5))) 2 [] .yes (.mt .join (.s " ") (.cons b6M .nil)))
def b6N:E:=(.bin .add (.bin .add (.bin .add (.s "feature ") (.v 0)) (.s " ")) (.ix (.lst (.cons (.s "off") (.o (.s "on")))) (.bi .int (.o (.v 1)))))
def b9f:E:=(.comp (.tp (.cons (.nm 0) (.cons (.nm 1) .nil))) (.seq (.ix (.v 0) (.i 6))) 2 [] .yes b6N)
def b9e:E:=(.comp (.nm 0) (.seq (.ix (.v 0) (.i 7))) 1 [] .yes (.call 214 (.o (.v 0))))
def htP(a b c d:Nat):Pat:=.tp (.cons (.nm a) (.cons (.nm b) (.cons (.nm c) (.cons (.nm d) .nil))))
def a0G:Fn:=⟨1,1,2,(.o (.ret (.comp (.nm 0) (.seq (.mt .split (.v 0) (.o (.s " ")))) 1 [] (.cmp .ne (.v 0) (.s "")) (.v 0))))⟩
def a1G:Fn:=⟨2,2,1,(.o (.ret (.bi .all (.o (.comp (.nm 0) (.seq (.v 0)) 1 [1] .yes (.bin .isin (.v 0) (.v 1)))))))⟩
noncomputable def a1H:Fn:=⟨1,1,1,(.o (.ret (.an (.chn .le .le (.i 1) (.bi .len (.o (.v 0))) (.i 12)) (.call 2 (.cons (.v 0) (.o (.s "abcdefghijklmnopqrstuvwxyz0123456789")))))))⟩
def Y8:Fn:=⟨1,1,1,(.cons (.iff (.orr (.nt (.chn .le .le (.i 1) (.bi .len (.o (.v 0))) (.i 5))) (.nt (.val (.call 2 (.cons (.v 0) (.o (.s "0123456789"))))))) (.o (.ret (.k (.bl false)))) .nil) (.o (.ret (.orr (.bin .eq (.v 0) (.s "0")) (.bin .ne (.ix (.v 0) (.i 0)) (.s "0"))))))⟩
def I0:Fn:=⟨1,1,1,(.cons (.iff (.val (.mt .starts (.v 0) (.o (.s "-")))) (.o (.ret (.an (.bin .ne (.v 0) (.s "-0")) (.call 4 (.o (.sl (.v 0) (.at (.i 1)) .no)))))) .nil) (.o (.ret (.call 4 (.o (.v 0))))))⟩
def N7:Fn:=⟨1,1,1,(.o (.ret (.sl (.v 0) (.at (.bi .len (.o (.s "@")))) .no)))⟩
noncomputable def N4:Fn:=⟨1,1,1,(.o (.ret (.an (.mt .starts (.v 0) (.o (.s "@"))) (.call 3 (.o (.call 6 (.o (.v 0))))))))⟩
def a1I:Fn:=⟨1,1,1,(.o (.ret (.orr (.call 3 (.o (.v 0))) (.call 7 (.o (.v 0))))))⟩
noncomputable def a1Z:Fn:=⟨1,1,1,(.o (.ret (.bi .all (.o (.comp (.nm 0) (.seq (.v 0)) 1 [] .yes (.call 3 (.o (.v 0))))))))⟩
noncomputable def M5:Fn:=⟨1,1,1,(.o (.ret (.bi .all (.o (.comp (.nm 0) (.seq (.v 0)) 1 [] .yes (.call 5 (.o (.v 0))))))))⟩
noncomputable def a2a:Fn:=⟨1,1,1,(.o (.ret (.bi .all (.o (.comp (.nm 0) (.seq (.v 0)) 1 [] .yes (.call 8 (.o (.v 0))))))))⟩
noncomputable def M6:Fn:=⟨1,1,0,(.cons (.sfl (.v 0) "shapes" .dnew) (.cons (.sfl (.v 0) "marks" .dnew) (.cons (.sfl (.v 0) "points" .dnew) (.cons (.sfl (.v 0) "letters" .dnew) (.cons (.sfl (.v 0) "gaps" (.lst .nil)) (.cons (.sfl (.v 0) "classes" .dnew) (.cons (.sfl (.v 0) "features" .dnew) (.o (.sfl (.v 0) "rules" (.lst .nil))))))))))⟩
def Y7:Fn:=⟨1,6,0,(.cons (.set 1 (.mk 6 .nil)) (.cons (.for (.tp (.cons (.nm 2) (.cons (.nm 3) .nil))) (.enum (.mt .split (.v 0) (.o (.s "\n")))) (.cons (.set 4 (.call 1 (.o (.v 3)))) (.o (.iff (.cmp .gt (.bi .len (.o (.v 4))) (.i 0)) (.cons (.set 5 (.call 13 (.cons (.v 1) (.o (.v 4))))) (.o (.iff (.notN (.v 5)) (.o .bad) .nil))) .nil)))) (.o (.ret (.v 1)))))⟩
def C2:Fn:=⟨2,3,0,(.cons (.set 2 (.ix (.v 1) (.i 0))) (.cons (.iff (.cmp .eq (.v 2) (.s "shape")) (.o (.ret (.call 17 (.cons (.v 0) (.o (.v 1)))))) .nil) (.cons (.iff (.cmp .eq (.v 2) (.s "mark")) (.o (.ret (.call 19 (.cons (.v 0) (.o (.v 1)))))) .nil) (.cons (.iff (.cmp .eq (.v 2) (.s "point")) (.o (.ret (.call 20 (.cons (.v 0) (.o (.v 1)))))) .nil) (.cons (.iff (.cmp .eq (.v 2) (.s "letter")) (.o (.ret (.call 22 (.cons (.v 0) (.o (.v 1)))))) .nil) (.cons (.iff (.cmp .eq (.v 2) (.s "gap")) (.o (.ret (.call 23 (.cons (.v 0) (.o (.v 1)))))) .nil) (.cons (.iff (.cmp .eq (.v 2) (.s "class")) (.o (.ret (.call 24 (.cons (.v 0) (.o (.v 1)))))) .nil) (.cons (.iff (.cmp .eq (.v 2) (.s "feature")) (.o (.ret (.call 25 (.cons (.v 0) (.o (.v 1)))))) .nil) (.cons (.iff (.cmp .eq (.v 2) (.s "rule")) (.o (.ret (.call 26 (.cons (.v 0) (.o (.v 1)))))) .nil) (.o (.ret (.s "row"))))))))))))⟩
noncomputable def Z0:Fn:=⟨3,3,1,(.cons (.iff (.val (.v 0)) (.o (.ret (.s "twice"))) .nil) (.cons (.iff (.nt (.val (.v 1))) (.o (.ret (.s "name"))) .nil) (.cons (.iff (.val (.v 2)) (.o (.ret (.s "many"))) .nil) (.o (.ret (.k .non))))))⟩
def V5:Fn:=⟨2,2,1,(.o (.ret (.bi .all (.o (.comp (.nm 0) (.seq (.v 1)) 1 [0] .yes (.bin .isin (.v 0) (.fld (.v 1) "shapes")))))))⟩
noncomputable def a1F:Fn:=⟨1,1,1,(.o (.ret (.tup (.cons (.bi .int (.o (.ix (.v 0) (.i 0)))) (.o (.bi .int (.o (.ix (.v 0) (.i 1)))))))))⟩
def V1:Fn:=⟨2,4,0,(.cons (.iff (.orr (.cmp .ne (.bi .len (.o (.v 1))) (.i 3)) (.orr (.nt (.val (.call 3 (.o (.ix (.v 1) (.i 1)))))) (.nt (.val (.call 4 (.o (.ix (.v 1) (.i 2)))))))) (.o (.ret (.s "row"))) .nil) (.cons (.set 2 (.ix (.v 1) (.i 1))) (.cons (.set 3 (.call 14 (.cons (.bin .isin (.v 2) (.fld (.v 0) "shapes")) (.cons (.k (.bl true)) (.o (.bin .ge (.bi .len (.o (.fld (.v 0) "shapes"))) (.i 60))))))) (.cons (.iff (.isN (.v 3)) (.o (.six (.fld (.v 0) "shapes") (.v 2) (.bi .int (.o (.ix (.v 1) (.i 2)))))) .nil) (.o (.ret (.v 3)))))))⟩
def N5:Fn:=⟨2,2,1,(.cons (.iff (.orr (.cmp .ne (.bi .len (.o (.v 0))) (.bin .add (.i 3) (.v 1))) (.nt (.val (.call 3 (.o (.ix (.v 0) (.i 1))))))) (.o (.ret (.k (.bl false)))) .nil) (.o (.ret (.an (.gin false (.ix (.v 0) (.i 2)) [(.str "above"),(.str "below")]) (.call 10 (.o (.sl (.v 0) (.at (.i 3)) .no)))))))⟩
def Y6:Fn:=⟨2,4,0,(.cons (.iff (.nt (.val (.call 18 (.cons (.v 1) (.o (.i 4)))))) (.o (.ret (.s "row"))) .nil) (.cons (.set 2 (.ix (.v 1) (.i 1))) (.cons (.set 3 (.call 14 (.cons (.bin .isin (.v 2) (.fld (.v 0) "marks")) (.cons (.bin .isin (.v 2) (.fld (.v 0) "shapes")) (.o (.k (.bl false))))))) (.cons (.iff (.isN (.v 3)) (.o (.six (.fld (.v 0) "marks") (.v 2) (.tup (.cons (.ix (.v 1) (.i 2)) (.cons (.call 16 (.o (.sl (.v 1) (.at (.i 3)) (.at (.i 5))))) (.o (.call 16 (.o (.sl (.v 1) (.at (.i 5)) (.at (.i 7))))))))))) .nil) (.o (.ret (.v 3)))))))⟩
def V2:Fn:=⟨2,5,0,(.cons (.iff (.nt (.val (.call 18 (.cons (.v 1) (.o (.i 2)))))) (.o (.ret (.s "row"))) .nil) (.cons (.set 2 (.ix (.v 1) (.i 1))) (.cons (.set 3 (.tup (.cons (.v 2) (.o (.ix (.v 1) (.i 2)))))) (.cons (.set 4 (.call 14 (.cons (.bin .isin (.v 3) (.fld (.v 0) "points")) (.cons (.bin .isin (.v 2) (.fld (.v 0) "shapes")) (.o (.k (.bl false))))))) (.cons (.iff (.isN (.v 4)) (.o (.six (.fld (.v 0) "points") (.v 3) (.call 16 (.o (.sl (.v 1) (.at (.i 3)) (.at (.i 5))))))) .nil) (.o (.ret (.v 4))))))))⟩
def K2:Fn:=⟨1,2,1,(.cons (.iff (.orr (.cmp .lt (.bi .len (.o (.v 0))) (.i 4)) (.nt (.val (.call 3 (.o (.ix (.v 0) (.i 1))))))) (.o (.ret (.k (.bl false)))) .nil) (.cons (.iff (.orr (.val (.gdin true (.ix (.v 0) (.i 2)) [((.str "none"),(.int (1))),((.str "clear"),(.int (1))),((.str "back"),(.int (2))),((.str "both"),(.int (4)))])) (.val (.gin true (.ix (.v 0) (.i 3)) [(.str "left"),(.str "right"),(.str "either")]))) (.o (.ret (.k (.bl false)))) .nil) (.cons (.set 1 (.sl (.v 0) (.at (.i 4)) .no)) (.o (.ret (.an (.bin .eq (.bi .len (.o (.v 1))) (.gdix (.ix (.v 0) (.i 2)) [((.str "none"),(.int (1))),((.str "clear"),(.int (1))),((.str "back"),(.int (2))),((.str "both"),(.int (4)))])) (.call 9 (.o (.v 1)))))))))⟩
def T0:Fn:=⟨2,5,0,(.cons (.iff (.nt (.val (.call 21 (.o (.v 1))))) (.o (.ret (.s "row"))) .nil) (.cons (.set 2 (.ix (.v 1) (.i 1))) (.cons (.set 3 (.sl (.v 1) (.at (.i 4)) .no)) (.cons (.set 4 (.call 14 (.cons (.bin .isin (.v 2) (.fld (.v 0) "letters")) (.cons (.call 15 (.cons (.v 0) (.o (.v 3)))) (.o (.bin .ge (.bi .len (.o (.fld (.v 0) "letters"))) (.i 24))))))) (.cons (.iff (.isN (.v 4)) (.o (.six (.fld (.v 0) "letters") (.v 2) (.tup (.cons (.ix (.v 1) (.i 2)) (.cons (.ix (.v 1) (.i 3)) (.o (.bi .tuple (.o (.v 3))))))))) .nil) (.o (.ret (.v 4))))))))⟩
def a0H:Fn:=⟨2,4,0,(.cons (.iff (.orr (.cmp .ne (.bi .len (.o (.v 1))) (.i 2)) (.nt (.val (.call 3 (.o (.ix (.v 1) (.i 1))))))) (.o (.ret (.s "row"))) .nil) (.cons (.set 2 (.ix (.v 1) (.i 1))) (.cons (.set 3 (.call 14 (.cons (.bin .isin (.v 2) (.fld (.v 0) "gaps")) (.cons (.bin .isin (.v 2) (.fld (.v 0) "letters")) (.o (.k (.bl false))))))) (.cons (.iff (.isN (.v 3)) (.o (.ex (.mt .append (.fld (.v 0) "gaps") (.o (.v 2))))) .nil) (.o (.ret (.v 3)))))))⟩
def V3:Fn:=⟨2,5,0,(.cons (.set 2 (.sl (.v 1) (.at (.i 2)) .no)) (.cons (.iff (.orr (.nt (.chn .le .le (.i 1) (.bi .len (.o (.v 2))) (.i 20))) (.nt (.val (.call 9 (.o (.sl (.v 1) (.at (.i 1)) .no)))))) (.o (.ret (.s "row"))) .nil) (.cons (.set 3 (.ix (.v 1) (.i 1))) (.cons (.set 4 (.call 14 (.cons (.bin .isin (.v 3) (.fld (.v 0) "classes")) (.cons (.call 15 (.cons (.v 0) (.o (.v 2)))) (.o (.bin .ge (.bi .len (.o (.fld (.v 0) "classes"))) (.i 20))))))) (.cons (.iff (.isN (.v 4)) (.o (.six (.fld (.v 0) "classes") (.v 3) (.bi .tuple (.o (.v 2))))) .nil) (.o (.ret (.v 4))))))))⟩
def Q4:Fn:=⟨2,4,0,(.cons (.iff (.orr (.cmp .ne (.bi .len (.o (.v 1))) (.i 3)) (.orr (.nt (.val (.call 3 (.o (.ix (.v 1) (.i 1)))))) (.val (.gin true (.ix (.v 1) (.i 2)) [(.str "on"),(.str "off")])))) (.o (.ret (.s "row"))) .nil) (.cons (.set 2 (.ix (.v 1) (.i 1))) (.cons (.set 3 (.call 14 (.cons (.bin .isin (.v 2) (.fld (.v 0) "features")) (.cons (.k (.bl true)) (.o (.bin .ge (.bi .len (.o (.fld (.v 0) "features"))) (.i 10))))))) (.cons (.iff (.isN (.v 3)) (.o (.six (.fld (.v 0) "features") (.v 2) (.bin .eq (.ix (.v 1) (.i 2)) (.s "on")))) .nil) (.o (.ret (.v 3)))))))⟩
def Y5:Fn:=⟨2,8,0,(.cons (.iff (.nt (.val (.call 27 (.o (.v 1))))) (.o (.ret (.s "row"))) .nil) (.cons (.set 2 (.ix (.v 1) (.i 1))) (.cons (.set 3 (.ix (.v 1) (.i 2))) (.cons (.set 4 (.call 28 (.o (.v 1)))) (.cons (.set 5 (.bin .add (.bin .add (.ix (.v 4) (.i 0)) (.ix (.v 4) (.i 1))) (.ix (.v 4) (.i 2)))) (.cons (.set 6 (.an (.bin .isin (.v 3) (.fld (.v 0) "features")) (.an (.call 29 (.cons (.v 0) (.o (.v 5)))) (.call 15 (.cons (.v 0) (.o (.ix (.v 4) (.i 3)))))))) (.cons (.set 7 (.call 14 (.cons (.call 31 (.cons (.v 0) (.o (.v 2)))) (.cons (.v 6) (.o (.bin .ge (.bi .len (.o (.fld (.v 0) "rules"))) (.i 30))))))) (.cons (.iff (.isN (.v 7)) (.o (.ex (.mt .append (.fld (.v 0) "rules") (.o (.tup (.cons (.v 2) (.cons (.v 3) (.cons (.bi .tuple (.o (.ix (.v 4) (.i 0)))) (.cons (.bi .tuple (.o (.ix (.v 4) (.i 1)))) (.cons (.bi .tuple (.o (.ix (.v 4) (.i 2)))) (.o (.bi .tuple (.o (.ix (.v 4) (.i 3))))))))))))))) .nil) (.o (.ret (.v 7)))))))))))⟩
def N6:Fn:=⟨1,2,1,(.cons (.iff (.nt (.val (.call 9 (.o (.sl (.v 0) (.at (.i 1)) (.at (.i 3))))))) (.o (.ret (.k (.bl false)))) .nil) (.cons (.set 1 (.call 28 (.o (.v 0)))) (.cons (.iff (.orr (.isN (.v 1)) (.orr (.cmp .gt (.bi .len (.o (.ix (.v 1) (.i 0)))) (.i 3)) (.cmp .gt (.bi .len (.o (.ix (.v 1) (.i 2)))) (.i 3)))) (.o (.ret (.k (.bl false)))) .nil) (.cons (.iff (.orr (.nt (.chn .le .le (.i 1) (.bi .len (.o (.ix (.v 1) (.i 1)))) (.i 4))) (.nt (.chn .le .le (.i 1) (.bi .len (.o (.ix (.v 1) (.i 3)))) (.i 3)))) (.o (.ret (.k (.bl false)))) .nil) (.o (.ret (.an (.call 11 (.o (.bin .add (.bin .add (.ix (.v 1) (.i 0)) (.ix (.v 1) (.i 1))) (.ix (.v 1) (.i 2))))) (.call 9 (.o (.ix (.v 1) (.i 3)))))))))))⟩
def V4:Fn:=⟨1,4,0,(.cons (.set 1 (.lst (.o (.lst .nil)))) (.cons (.set 2 (.lst .nil)) (.cons (.for (.nm 3) (.seq (.sl (.v 0) (.at (.i 3)) .no)) (.o (.iff (.cmp .isin (.v 3) (.tup (.cons (.s "/") (.o (.s ">"))))) (.cons (.ex (.mt .append (.v 2) (.o (.v 3)))) (.o (.ex (.mt .append (.v 1) (.o (.lst .nil)))))) (.o (.ex (.mt .append (.ix (.v 1) (.neg (.i 1))) (.o (.v 3)))))))) (.cons (.iff (.cmp .ne (.v 2) (.lst (.cons (.s "/") (.cons (.s "/") (.o (.s ">")))))) (.o (.ret (.k .non))) .nil) (.o (.ret (.v 1)))))))⟩
noncomputable def Y9:Fn:=⟨2,2,1,(.o (.ret (.bi .all (.o (.comp (.nm 0) (.seq (.v 1)) 1 [0] .yes (.call 30 (.cons (.v 1) (.o (.v 0)))))))))⟩
def a0J:Fn:=⟨2,2,1,(.cons (.iff (.val (.call 7 (.o (.v 1)))) (.o (.ret (.bin .isin (.call 6 (.o (.v 1))) (.fld (.v 0) "classes")))) .nil) (.o (.ret (.bin .isin (.v 1) (.fld (.v 0) "shapes")))))⟩
def a0I:Fn:=⟨2,2,1,(.o (.ret (.bi .any (.o (.comp (.nm 0) (.seq (.fld (.v 0) "rules")) 1 [1] .yes (.bin .eq (.ix (.v 0) (.i 0)) (.v 1)))))))⟩
def E9:Fn:=⟨2,2,1,(.cons (.iff (.cmp .lt (.v 1) (.bi .len (.o (.v 0)))) (.o (.ret (.ix (.v 0) (.v 1)))) .nil) (.o (.ret (.i 0))))⟩
def o8:Fn:=⟨2,2,1,(.o (.ret (.bin .mod (.bin .mul (.bin .mul (.bin .add (.bin .mod (.v 0) (.i 2305843009213693951)) (.i 1)) (.bin .add (.bin .mul (.v 1) (.v 1)) (.i 48271))) (.i 40692)) (.i 2147483399))))⟩
def m8:Fn:=⟨2,7,2,(.cons (.set 2 (.k (.str abc))) (.cons (.set 3 (.bin .mod (.bin .div (.v 0) (.i 4)) (.i 26))) (.cons (.iff (.an (.cmp .eq (.bin .mod (.v 0) (.i 4)) (.i 0)) (.cmp .lt (.v 1) (.i 13))) (.o (.ret cA)) .nil) (.cons (.set 4 (.bin .mod (.bin .div (.v 0) (.i 104)) (.i 12))) (.cons (.set 5 (.bin .mod (.bin .div (.v 0) (.i 1248)) (.bin .add (.v 4) (.i 1)))) (.cons (.set 6 (.mt .join (.s "") (.cons cS .nil))) (.o (.ret cB))))))))⟩
def B7:Fn:=⟨1,6,2,(.cons (.set 1 (.call 202 (.cons (.v 0) (.o (.i 1))))) (.cons (.set 2 (.call 203 (.cons (.bin .div (.v 1) (.i 13)) (.o (.bin .add (.i 4) (.bin .mod (.v 1) (.i 13))))))) (.cons (.set 3 (.lst .nil)) (.cons (.for (.nm 4) (.rng1 (.bi .len (.o (.v 2)))) wB) (.o (.ret (.comp (.tp (.cons (.nm 0) (.cons (.nm 1) .nil))) (.zip (.v 2) (.v 3)) 2 [] .yes (.tup (.cons (.v 0) (.o (.v 1)))))))))))⟩
def w5:Fn:=⟨1,1,1,(.o (.ret (.tup (.cons (.bin .sub (.bin .mod (.v 0) (.i 41)) (.i 20)) (.o (.ix (.lst (.cons (.i 0) (.cons (.bin .mod (.bin .div (.v 0) (.i 41)) (.i 99999)) (.o (.neg (.bin .mod (.bin .div (.v 0) (.i 41)) (.i 99999))))))) (.bin .mod (.bin .div (.v 0) (.i 7)) (.i 3))))))))⟩
def D2:Fn:=⟨2,6,2,(.cons (.set 2 (.lst .nil)) (.cons (.for (.nm 3) (.rng1 (.bi .len (.o (.v 1)))) mkB) (.o (.ret (.v 2)))))⟩
def B9:Fn:=⟨2,6,2,(.cons (.set 2 (.lst .nil)) (.cons (.for (.nm 3) (.rng1 (.bi .len (.o (.v 1)))) ptB) (.o (.ret (.v 2)))))⟩
def y7:Fn:=⟨2,10,2,(.cons (.set 2 (.call 202 (.cons (.v 0) (.o (.i 2))))) (.cons (.set 3 (.call 203 (.cons (.bin .div (.v 2) (.i 6)) (.o (.bin .add (.i 1) (.bin .mod (.v 2) (.i 6))))))) (.cons (.set 4 (.lst .nil)) (.cons (.for (.nm 5) (.rng1 (.bi .len (.o (.v 3)))) lB) (.o (.ret (.v 4)))))))⟩
def y8:Fn:=⟨2,8,2,(.cons (.set 2 (.call 202 (.cons (.v 0) (.o (.i 3))))) (.cons (.set 3 (.lst .nil)) (.cons (.for (.tp (.cons (.nm 4) (.cons (.nm 5) .nil))) (.enum (.call 203 (.cons (.bin .div (.v 2) (.i 4)) (.o (.bin .add (.i 1) (.bin .mod (.v 2) (.i 3))))))) kB) (.o (.ret (.v 3))))))⟩
def w8:Fn:=⟨5,9,1,(.cons (.set 5 (.lst .nil)) (.cons (.for (.nm 6) (.rng1 (.v 1)) iB) (.o (.ret (.bi .tuple (.o (.v 5)))))))⟩
def u7:Fn:=⟨6,17,2,(.cons (.set 6 (.lst .nil)) (.cons (.for (.tp (.cons (.nm 7) (.cons (.nm 8) .nil))) (.enum (.call 203 (.cons (.call 202 (.cons (.v 0) (.o (.i 4)))) (.o (.v 1))))) rB) (.o (.ret (.v 6)))))⟩
def K5:Fn:=⟨2,12,0,(.cons (.set 2 (.call 201 (.cons (.v 0) (.o (.i 0))))) (.cons (.set 3 (.call 204 (.o (.v 2)))) hB2))⟩
def C0:Fn:=⟨1,1,1,(.o (.ret (.bin .add (.bin .add (.bi .str (.o (.ix (.v 0) (.i 0)))) (.s " ")) (.bi .str (.o (.ix (.v 0) (.i 1)))))))⟩
def B8:Fn:=⟨1,2,1,(.cons (.set 1 (.bin .add (.bin .add (.bin .add (.lst (.cons (.s "rule") (.cons (.ix (.v 0) (.i 0)) (.o (.ix (.v 0) (.i 1)))))) (.bi .list (.o (.ix (.v 0) (.i 2))))) (.lst (.o (.s "/")))) (.bi .list (.o (.ix (.v 0) (.i 3)))))) (.o (.ret (.mt .join (.s " ") (.o (.bin .add (.bin .add (.bin .add (.bin .add (.v 1) (.lst (.o (.s "/")))) (.bi .list (.o (.ix (.v 0) (.i 4))))) (.lst (.o (.s ">")))) (.bi .list (.o (.ix (.v 0) (.i 5))))))))))⟩
def F9:Fn:=⟨1,10,1,(.cons (.set 2 b9j) (.cons (.for (htP 1 3 4 5) (.seq (.ix (.v 0) (.i 1))) b3L) (.cons (.set 2 (.bin .add (.v 2) b9i)) (.cons (.for (htP 1 7 8 9) (.seq (.ix (.v 0) (.i 3))) b3K) (.cons (.set 2 (.bin .add (.v 2) b9h)) (.cons (.set 2 (.bin .add (.v 2) b9g)) (.cons (.set 2 (.bin .add (.v 2) b9f)) (.o (.ret (.mt .join (.s "\n") (.o (.bin .add (.v 2) b9e))))))))))))⟩
def M4:Fn:=⟨1,2,1,(.cons (.set 1 (.bin .add (.bin .add (.bin .add (.call 35 (.o (.v 0))) (.call 36 (.o (.v 0)))) (.call 37 (.o (.v 0)))) (.call 38 (.o (.v 0))))) (.cons (.set 1 (.bin .add (.bin .add (.bin .add (.bin .add (.v 1) (.call 39 (.o (.v 0)))) (.call 40 (.o (.v 0)))) (.call 41 (.o (.v 0)))) (.call 42 (.o (.v 0))))) (.o (.ret (.mt .join (.s "\n") (.o (.comp (.nm 0) (.seq (.v 1)) 1 [] .yes (.mt .join (.s " ") (.o (.v 0))))))))))⟩
noncomputable def C6:Fn:=⟨1,1,2,(.o (.ret (.lst (.cons (.bi .str (.o (.ix (.v 0) (.i 0)))) (.o (.bi .str (.o (.ix (.v 0) (.i 1)))))))))⟩
noncomputable def O4:Fn:=⟨1,1,0,(.o (.ret (.compI (.tp (.cons (.nm 0) (.cons (.nm 1) .nil))) (.fld (.v 0) "shapes") 2 [] .yes (.lst (.cons (.s "shape") (.cons (.v 0) (.o (.bi .str (.o (.v 1))))))))))⟩
def R3:Fn:=⟨1,1,0,(.o (.ret (.compI (.tp (.cons (.nm 0) (.cons (.nm 1) .nil))) (.fld (.v 0) "marks") 2 [] .yes (.bin .add (.bin .add (.lst (.cons (.s "mark") (.cons (.v 0) (.o (.ix (.v 1) (.i 0)))))) (.call 34 (.o (.ix (.v 1) (.i 1))))) (.call 34 (.o (.ix (.v 1) (.i 2))))))))⟩
def O5:Fn:=⟨1,1,0,(.o (.ret (.compI (.tp (.cons (.nm 0) (.cons (.nm 1) .nil))) (.fld (.v 0) "points") 2 [] .yes (.bin .add (.lst (.cons (.s "point") (.cons (.ix (.v 0) (.i 0)) (.o (.ix (.v 0) (.i 1)))))) (.call 34 (.o (.v 1)))))))⟩
def L7:Fn:=⟨1,1,0,(.o (.ret (.compI (.tp (.cons (.nm 0) (.cons (.nm 1) .nil))) (.fld (.v 0) "letters") 2 [] .yes (.bin .add (.lst (.cons (.s "letter") (.cons (.v 0) (.cons (.ix (.v 1) (.i 0)) (.o (.ix (.v 1) (.i 1))))))) (.bi .list (.o (.ix (.v 1) (.i 2))))))))⟩
noncomputable def V6:Fn:=⟨1,1,0,(.o (.ret (.comp (.nm 0) (.seq (.fld (.v 0) "gaps")) 1 [] .yes (.lst (.cons (.s "gap") (.o (.v 0)))))))⟩
def O6:Fn:=⟨1,1,0,(.o (.ret (.compI (.tp (.cons (.nm 0) (.cons (.nm 1) .nil))) (.fld (.v 0) "classes") 2 [] .yes (.bin .add (.lst (.cons (.s "class") (.o (.v 0)))) (.bi .list (.o (.v 1)))))))⟩
noncomputable def K3:Fn:=⟨1,1,0,(.o (.ret (.compI (.tp (.cons (.nm 0) (.cons (.nm 1) .nil))) (.fld (.v 0) "features") 2 [] .yes (.lst (.cons (.s "feature") (.cons (.v 0) (.o (.ife (.val (.v 1)) (.s "on") (.s "off")))))))))⟩
noncomputable def Q9:Fn:=⟨1,1,0,(.o (.ret (.comp (.nm 0) (.seq (.fld (.v 0) "rules")) 1 [] .yes (.call 43 (.o (.v 0))))))⟩
def F8:Fn:=⟨1,2,0,(.cons (.set 1 (.bin .add (.bin .add (.bin .add (.bin .add (.bi .list (.o (.ix (.v 0) (.i 2)))) (.lst (.o (.s "/")))) (.bi .list (.o (.ix (.v 0) (.i 3))))) (.lst (.o (.s "/")))) (.bi .list (.o (.ix (.v 0) (.i 4)))))) (.o (.ret (.bin .add (.bin .add (.bin .add (.lst (.cons (.s "rule") (.cons (.ix (.v 0) (.i 0)) (.o (.ix (.v 0) (.i 1)))))) (.v 1)) (.lst (.o (.s ">")))) (.bi .list (.o (.ix (.v 0) (.i 5))))))))⟩
def C7:Fn:=⟨2,2,1,(.cons (.iff (.orr (.val (.ins 0 (.v 1))) (.val (.ins 0 (.v 0)))) (.o (.ret (.an (.ins 0 (.v 1)) (.an (.ins 0 (.v 0)) (.bin .eq (.v 0) (.v 1)))))) .nil) (.cons (.iff (.val (.ins 1 (.v 1))) (.o (.ret (.an (.ins 1 (.v 0)) (.bin .eq (.v 0) (.v 1))))) .nil) (.cons (.iff (.val (.ins 4 (.v 1))) (.o (.ret (.an (.ins 4 (.v 0)) (.bin .eq (.v 0) (.v 1))))) .nil) (.cons (.iff (.orr (.cmp .ne (.ins 3 (.v 1)) (.ins 3 (.v 0))) (.cmp .ne (.ins 2 (.v 1)) (.ins 2 (.v 0)))) (.o (.ret (.k (.bl false)))) .nil) (.o (.ret (.an (.bin .eq (.bi .len (.o (.v 0))) (.bi .len (.o (.v 1)))) (.bi .all (.o (.comp (.tp (.cons (.nm 0) (.cons (.nm 1) .nil))) (.zip (.v 0) (.v 1)) 2 [] .yes (.call 222 (.cons (.v 0) (.o (.v 1))))))))))))))⟩
def E8:Fn:=⟨2,2,1,(.o (.ret (.an (.ins 5 (.v 0)) (.call 222 (.cons (.lsi (.v 0)) (.o (.v 1)))))))⟩
def R4:Fn:=⟨1,3,1,(.cons (.set 1 (.i 7)) (.cons (.for (.nm 2) (.seq (.v 0)) (.o (.set 1 (.bin .mod (.bin .add (.bin .mul (.v 1) (.i 69621)) (.bin .mod (.v 2) (.i 2147483647))) (.i 2147483629))))) (.o (.ret (.v 1)))))⟩
noncomputable def b9o:S:=(.iff (.orr (.nt (.val (.inc 6 (.v 0)))) (.orr (.nt (.val (.call 223 (.cons (.fld (.v 0) "shapes") (.o (.ix (.v 1) (.i 0))))))) (.nt (.val (.call 223 (.cons (.fld (.v 0) "classes") (.o (.ix (.v 1) (.i 5))))))))) (.o (.ret (.k (.bl false)))) .nil)
noncomputable def b9n:S:=(.iff (.nt (.val (.call 223 (.cons (.fld (.v 0) "marks") (.o (.comp (.tp (.cons (.nm 0) (.cons (.nm 1) (.cons (.nm 2) (.cons (.nm 3) .nil))))) (.seq (.ix (.v 1) (.i 1))) 4 [] .yes (.tup (.cons (.v 0) (.o (.tup (.cons (.v 1) (.cons (.v 2) (.o (.v 3)))))))))))))) (.o (.ret (.k (.bl false)))) .nil)
noncomputable def b9m:S:=(.iff (.nt (.val (.call 223 (.cons (.fld (.v 0) "points") (.o (.comp (.tp (.cons (.nm 0) (.cons (.nm 1) (.cons (.nm 2) .nil)))) (.seq (.ix (.v 1) (.i 2))) 3 [] .yes (.tup (.cons (.tup (.cons (.v 0) (.o (.v 1)))) (.o (.v 2)))))))))) (.o (.ret (.k (.bl false)))) .nil)
noncomputable def b9l:S:=(.iff (.nt (.val (.call 223 (.cons (.fld (.v 0) "letters") (.o (.comp (.tp (.cons (.nm 0) (.cons (.nm 1) (.cons (.nm 2) (.cons (.nm 3) .nil))))) (.seq (.ix (.v 1) (.i 3))) 4 [] .yes (.tup (.cons (.v 0) (.o (.tup (.cons (.v 1) (.cons (.v 2) (.o (.v 3)))))))))))))) (.o (.ret (.k (.bl false)))) .nil)
noncomputable def b9k:S:=(.ret (.an (.call 223 (.cons (.fld (.v 0) "features") (.o (.ix (.v 1) (.i 6))))) (.an (.call 222 (.cons (.fld (.v 0) "gaps") (.o (.ix (.v 1) (.i 4))))) (.call 222 (.cons (.fld (.v 0) "rules") (.o (.ix (.v 1) (.i 7))))))))
def K4:Fn:=⟨2,2,1,(.cons b9o (.cons b9n (.cons b9m (.cons b9l (.o b9k)))))⟩
def lw0:S:=(.set 1 (.call 225 (.o (.v 0))))
def lw1:S:=(.set 2 (.call 212 (.cons (.v 0) (.o (.bin .mod (.v 1) (.i 7))))))
def lw2:S:=(.set 3 (.call 215 (.o (.v 2))))
def lw3:S:=(.set 4 (.call 12 (.o (.v 3))))
def lw4:S:=(.set 5 (.call 12 (.o (.v 3))))
noncomputable def lw5:S:=(.iff (.orr (.nt (.val (.call 224 (.cons (.v 4) (.o (.v 2)))))) (.nt (.val (.call 224 (.cons (.v 5) (.o (.v 2))))))) (.o (.ret (.k (.bl false)))) .nil)
def lw6:S:=(.six (.fld (.v 4) "shapes") (.s "new") (.i 3))
def lw7:S:=(.ex (.clr (.fld (.v 4) "marks")))
noncomputable def lw8:S:=(.six (.fld (.v 4) "points") (.tup (.cons (.s "new") (.o (.s "above")))) (.tup (.cons (.i 1) (.o (.i 2)))))
def lw9:S:=(.ex (.clr (.fld (.v 4) "letters")))
def b6t:S:=(.ex (.mt .append (.fld (.v 4) "gaps") (.o (.s "new"))))
def b6s:S:=(.six (.fld (.v 4) "classes") (.s "new") (.tup (.o (.s "new"))))
noncomputable def b6r:S:=(.for (.nm 6) (.seq (.bi .list (.o (.fld (.v 4) "features")))) (.o (.six (.fld (.v 4) "features") (.v 6) (.nt (.ix (.fld (.v 4) "features") (.v 6))))))
noncomputable def b6q:S:=(.ex (.mt .append (.fld (.v 4) "rules") (.o (.tup (.cons (.s "new") (.cons (.s "new") (.cons (.tup .nil) (.cons (.tup (.o (.s "new"))) (.cons (.tup .nil) (.o (.tup (.o (.s "new")))))))))))))
def b6p:S:=(.iff (.orr (.nt (.val (.call 224 (.cons (.v 5) (.o (.v 2)))))) (.cmp .ne (.call 33 (.o (.v 5))) (.v 3))) (.o (.ret (.k (.bl false)))) .nil)
def b6o:S:=(.set 7 (.call 12 (.o (.s ""))))
noncomputable def lwT:E:=(.tup (.cons (.lst .nil) (.cons (.lst .nil) (.cons (.lst .nil) (.cons (.lst .nil) (.cons (.lst .nil) (.cons (.lst .nil) (.cons (.lst .nil) (.o (.lst .nil))))))))))
def b6n:S:=(.ret (.an (.call 224 (.cons (.v 7) (.o lwT))) (.bin .eq (.call 33 (.o (.v 7))) (.s ""))))
def a8b:Fn:=⟨1,8,0,(.cons lw0 (.cons lw1 (.cons lw2 (.cons lw3 (.cons lw4 (.cons lw5 (.cons lw6 (.cons lw7 (.cons lw8 (.cons lw9 (.cons b6t (.cons b6s (.cons b6r (.cons b6q (.cons b6p (.cons b6o (.o b6n)))))))))))))))))⟩
end EV
namespace K07
open PySem L2 EV
def top(i:Nat):Stmt:=PySem.Challenge.pw_glyphhall_k07_halls_apart.main.body.getD i (.Pass ⟨0,0,0,0⟩)
def se(x:Str)(d:D):Str×D:=(x,d)
structure Rc where
 x:Str
 t:Nat
 i:Nat
 n:Nat
 f:Fn
def T:List Rc:=[⟨"law",87,221,1,a8b⟩,⟨"words_of",21,1,1,a0G⟩,⟨"made_of",22,2,2,a1G⟩,⟨"is_name",23,3,1,a1H⟩,⟨"is_number",24,4,1,Y8⟩,⟨"is_signed_number",25,5,1,I0⟩,⟨"class_of_item",26,6,1,N7⟩,⟨"is_class_item",27,7,1,N4⟩,⟨"is_item",28,8,1,a1I⟩,⟨"all_names",29,9,1,a1Z⟩,⟨"all_signed_numbers",30,10,1,M5⟩,⟨"all_items",31,11,1,a2a⟩,⟨"read_hall",47,12,1,Y7⟩,⟨"take_row",48,13,2,C2⟩,⟨"first_due",49,14,3,Z0⟩,⟨"has_shapes",50,15,2,V5⟩,⟨"pair_of",51,16,1,a1F⟩,⟨"take_shape",52,17,2,V1⟩,⟨"has_side_form",53,18,2,N5⟩,⟨"take_mark",54,19,2,Y6⟩,⟨"take_point",55,20,2,V2⟩,⟨"has_letter_form",56,21,1,K2⟩,⟨"take_letter",57,22,2,T0⟩,⟨"take_gap",58,23,2,a0H⟩,⟨"take_class",59,24,2,V3⟩,⟨"take_feature",60,25,2,Q4⟩,⟨"take_rule",61,26,2,Y5⟩,⟨"has_rule_form",62,27,1,N6⟩,⟨"rule_parts",63,28,1,V4⟩,⟨"has_items",64,29,2,Y9⟩,⟨"has_item",65,30,2,a0J⟩,⟨"has_rule",66,31,2,a0I⟩,⟨"hall_text",1,33,1,M4⟩,⟨"pair_words",2,34,1,C6⟩,⟨"shape_rows",3,35,1,O4⟩,⟨"mark_rows",4,36,1,R3⟩,⟨"point_rows",5,37,1,O5⟩,⟨"letter_rows",6,38,1,L7⟩,⟨"gap_rows",7,39,1,V6⟩,⟨"class_rows",8,40,1,O6⟩,⟨"feature_rows",9,41,1,K3⟩,⟨"rule_rows",10,42,1,Q9⟩,⟨"rule_words",11,43,1,F8⟩,⟨"_law_cell_at",68,201,2,E9⟩,⟨"_law_mixed",69,202,2,o8⟩,⟨"_law_names_by",70,203,2,m8⟩,⟨"_law_shapes_by",71,204,1,B7⟩,⟨"_law_spot_by",72,205,1,w5⟩,⟨"_law_marks_by",73,206,2,D2⟩,⟨"_law_points_by",74,207,2,B9⟩,⟨"_law_letters_by",75,208,2,y7⟩,⟨"_law_classes_by",76,209,2,y8⟩,⟨"_law_items_by",77,210,5,w8⟩,⟨"_law_rules_by",78,211,6,u7⟩,⟨"_law_hall_by",79,212,2,K5⟩,⟨"_law_pair_text",80,213,1,C0⟩,⟨"_law_rule_text",81,214,1,B8⟩,⟨"_law_hall_text",82,215,1,F9⟩,⟨"_law_alike",83,222,2,C7⟩,⟨"_law_dict_is",84,223,2,E8⟩,⟨"_law_hall_is",85,224,2,K4⟩,⟨"_law_fold",86,225,1,R4⟩]
def fns:List (Str×Nat×Nat):=T.map λr=>(r.x,r.i,r.n)
def G:GT:={
 fn:=fns
 scal:=[se "FIGURES" (.str "0123456789"),se "NAME_SIGNS" (.str "abcdefghijklmnopqrstuvwxyz0123456789"),se "CLASS_SIGN" (.str "@"),se "LONGEST_NAME" (.int 12),se "LONGEST_NUMBER" (.int 5),se "MOST_SHAPES" (.int 60),se "MOST_LETTERS" (.int 24),se "MOST_CLASSES" (.int 20),se "MOST_FEATURES" (.int 10),se "MOST_RULES" (.int 30),se "MOST_IN_CLASS" (.int 20),se "MOST_AROUND" (.int 3),se "MOST_IN_CORE" (.int 4),se "MOST_TOLD" (.int 3)]
 tups:=[("SIDES",[.str "above",.str "below"]),("WAYS",[.str "left",.str "right",.str "either"]),("SWITCHES",[.str "on",.str "off"])]
 dicts:=[("SHAPES_OF_JOIN",[(.str "none",.int 1),(.str "clear",.int 1),(.str "back",.int 2),(.str "both",.int 4)])]
 obj:=[("Hall",6)]
 atts:=["shapes","marks","points","letters","gaps","classes","features","rules"]
 blt:=["len","str","int","list","tuple","all","any","isinstance","bool","range","enumerate","zip","dict"]}
def F(i:Nat):Option Fn:=if i=32 then some M6 else(T.find? λr=>Nat.beq r.i i).map (·.f)
def ct:CT:=⟨λ_=>32⟩
abbrev SH:Stmt:=b3G (top 46) 0
theorem bd0{P:List Value->Prop}(h:P []):∀us,us.length=0->P us:=λus e=>List.eq_nil_of_length_eq_zero e▸h
theorem bdS{P:List Value->Prop}{n:Nat}(h:∀a us,us.length=n->P (a::us)):∀us,us.length=n+1->P us:=λus e=>by
 cases us with
 |nil=>cases e
 |cons a r=>exact h a r (Nat.succ.inj e)
theorem bd1{P:List Value->Prop}(h:∀a,P [a]):∀us,us.length=1->P us:=bdS λa=>bd0 (P:=λl=>P (a::l)) (h a)
theorem bd2{P:List Value->Prop}(h:∀a b,P [a,b]):∀us,us.length=2->P us:=bdS λa=>bd1 (P:=λl=>P (a::l)) (h a)
theorem bd3{P:List Value->Prop}(h:∀a b c,P [a,b,c]):∀us,us.length=3->P us:=bdS λa=>bd2 (P:=λl=>P (a::l)) (h a)
theorem bd4{P:List Value->Prop}(h:∀a b c d,P [a,b,c,d]):∀us,us.length=4->P us:=bdS λa=>bd3 (P:=λl=>P (a::l)) (h a)
theorem bd5{P:List Value->Prop}(h:∀a b c d e,P [a,b,c,d,e]):∀us,us.length=5->P us:=bdS λa=>bd4 (P:=λl=>P (a::l)) (h a)
theorem bd6{P:List Value->Prop}(h:∀a b c d e f,P [a,b,c,d,e,f]):∀us,us.length=6->P us:=bdS λa=>bd5 (P:=λl=>P (a::l)) (h a)
abbrev Bd(x q:Str)(st:Stmt)(ps:List Str):Prop:=∀(kV cM pm:Value) (an:Option Addr) (cu ct:Value) (us:List Value),us.length=ps.length->bindArgs (fnOf x q (R5 st) (L8 st) (p7 st) .none kV cM pm an cu ct) ⟨us,[]⟩=pure (ps.zip us)
def pO(st:Stmt):List Str:=(R5 st).args.map (·.arg)
def nO(st:Stmt):List Str:=pO st++((p7 st).names.filter λy=>(y.2==.local||y.2==.cell)&&!(pO st).contains y.1).map (·.1)
structure Rw(x:Str)(st:Stmt)(id np:Nat)(f:Fn):Prop where
 a:FnScope (nO st) (pO st) (p7 st)
 b:Bd x x st (pO st)
 p:(pO st).length=np
 i:F id=some f
 q:f.np=np
 s:f.ns=(nO st).length
 c:cSs G (nO st) (p7 st) 20 (L8 st)=some f.body
local macro_rules | `(tactic| ac_rfl) => `(tactic| exact ⟨⟨rfl, rfl, rfl, by decide +kernel, by kernel_rfl, by decide +kernel, by decide +kernel⟩, λ_ _ _ _ _ _ => by first | exact bd1 λ_ => rfl | exact bd2 λ_ _ => rfl | exact bd3 λ_ _ _ => rfl | exact bd4 λ_ _ _ _ => rfl | exact bd5 λ_ _ _ _ _ => rfl | exact bd6 λ_ _ _ _ _ _ => rfl, by kernel_rfl, rfl, rfl, by kernel_rfl, by kernel_rfl⟩)
def b2f:List Rc->Prop
 |[]=>True
 |r::l=>Rw r.x (top r.t) r.i r.n r.f/\b2f l
theorem rs1{x:Str}{t i n:Nat}{f:Fn}{l:List Rc}(a:Rw x (top t) i n f)(b:b2f l):b2f (⟨x,t,i,n,f⟩::l):=⟨a,b⟩
theorem Rs:b2f T:=by
 repeat (refine rs1 (by ac_rfl) ?_)
 exact True.intro
theorem AH:FnScope ["self"] ["self"] (p7 SH):=⟨rfl,rfl,rfl,by decide+kernel,rfl,by decide+kernel,by decide+kernel⟩
theorem BH:Bd "__init__" "Hall.__init__" SH ["self"]:=λ_ _ _ _ _ _=>bd1 λ_=>rfl
theorem CH:cSs G ["self"] (p7 SH) 20 (L8 SH)=some M6.body:=by kernel_rfl
open PySem.W (nsIn codeIn keepIn findIn)
section
variable{K:Frag}{x:Str}
structure DfE(K:Frag)(x:Str)(st:Stmt):Prop where
 ex:∃f fd,nsIn K mainGlobals x=some (some (.ref f))/\Fun K x x st f fd
theorem b9u{st:Stmt}{f:Addr}{oc:Value}{od an:Option Addr}{ei:Array (Option Value)}{kV cM pm cu ct:Value}(e1:nsIn K mainGlobals x=some (some (.ref f)))(e2:K.lookup f=some ⟨oc,od,.func (fnOf x x (R5 st) (L8 st) (p7 st) .none kV cM pm an cu ct),ei⟩)(e3:codeIn K cu x=true)(e4:keepIn K (.ref f)=true):DfE K x st:=⟨f,_,e1,b1q e2 e3 e4⟩
structure StrE(K:Frag)(x y:Str):Prop where
 ex:∃t,nsIn K mainGlobals x=some (some (.str y t))
theorem b5m{y:Str}{t:Tok}(e1:nsIn K mainGlobals x=some (some (.str y t))):StrE K x y:=⟨t,e1⟩
structure IntE(K:Frag)(x:Str)(i:Int):Prop where
 ex:∃t,nsIn K mainGlobals x=some (some (.int i t))
theorem b6K{i:Int}{t:Tok}(e1:nsIn K mainGlobals x=some (some (.int i t))):IntE K x i:=⟨t,e1⟩
structure TupE(K:Frag)(x:Str)(vs:List V):Prop where
 ex:∃a,nsIn K mainGlobals x=some (some (.ref a))/\∀H,SqT K H a vs
theorem b2o{a:Addr}{d:Option Addr}{n:Nat}{sl:Array (Option Value)}{y z:Str}{t u:Tok}(e1:nsIn K mainGlobals x=some (some (.ref a)))(e2:K.lookup a=some ⟨.type "tuple",d,.seq #[.str y t,.str z u] n,sl⟩):TupE K x [.str y,.str z]:=
 ⟨a,e1,λH=>.inr ⟨_,_,_,e2,rfl,rfl,by show 2<=sizeLine;decide,.cons ⟨_,rfl⟩ (.cons ⟨_,rfl⟩ .nil)⟩⟩
theorem b2n{a:Addr}{d:Option Addr}{n:Nat}{sl:Array (Option Value)}{y z v:Str}{t u r:Tok}(e1:nsIn K mainGlobals x=some (some (.ref a)))(e2:K.lookup a=some ⟨.type "tuple",d,.seq #[.str y t,.str z u,.str v r] n,sl⟩):TupE K x [.str y,.str z,.str v]:=
 ⟨a,e1,λH=>.inr ⟨_,_,_,e2,rfl,rfl,by show 3<=sizeLine;decide,.cons ⟨_,rfl⟩ (.cons ⟨_,rfl⟩ (.cons ⟨_,rfl⟩ .nil))⟩⟩
structure DicE(K:Frag)(P:Program)(w:World)(x:Str)(gs:List (Key×V)):Prop where
 ex:∃a,nsIn K mainGlobals x=some (some (.ref a))/\a9l P w K a gs
theorem b4k{P:Program}{w:World}{a:Addr}{ep:Nat}{h1 h2 h3 h4:Int}{y1 y2 y3 y4:Str}{i1 i2 i3 i4:Int}{t1 t2 t3 t4 u1 u2 u3 u4:Tok}(e1:nsIn K mainGlobals x=some (some (.ref a)))
 (e2:K.lookup a=some ⟨.type "dict",none,.dict #[⟨h1,.str y1 t1,.int i1 u1⟩,⟨h2,.str y2 t2,.int i2 u2⟩,⟨h3,.str y3 t3,.int i3 u3⟩,⟨h4,.str y4 t4,.int i4 u4⟩] ep,#[]⟩) (ha:(a==sysModules)=false)
 (q1:h1=hashStr w y1) (q2:h2=hashStr w y2) (q3:h3=hashStr w y3) (q4:h4=hashStr w y4) (nd:([.inr y1,.inr y2,.inr y3,.inr y4]:List Key).Nodup):DicE K P w x [(.inr y1,.int i1),(.inr y2,.int i2),(.inr y3,.int i3),(.inr y4,.int i4)]:=by
 refine⟨a,e1,ha,[(.inr y1,.int i1 u1),(.inr y2,.int i2 u2),(.inr y3,.int i3 u3),(.inr y4,.int i4 u4)],?_,λh kin=>⟨_,_,_,kin a _ e2,⟨rfl,rfl,rfl⟩,rfl,?_,?_,nd⟩⟩
 · exact .cons ⟨rfl,_,rfl⟩ (.cons ⟨rfl,_,rfl⟩ (.cons ⟨rfl,_,rfl⟩ (.cons ⟨rfl,_,rfl⟩ .nil)))
 · intro e he;simp only[List.mem_toArray,aE,not_mem_nil,fW] at he;rcases he with rfl|rfl|rfl|rfl
   · exact⟨.inr y1,gh P w y1 t1,q1⟩
   · exact⟨.inr y2,gh P w y2 t2,q2⟩
   · exact⟨.inr y3,gh P w y3 t3,q3⟩
   · exact⟨.inr y4,gh P w y4 t4,q4⟩
 · exact .cons (gh P w y1 t1) rfl (.cons (gh P w y2 t2) rfl (.cons (gh P w y3 t3) rfl (.cons (gh P w y4 t4) rfl .nil)))
structure HallE(K:Frag)(C:Addr):Prop where
 ex:∃f fd,Mk K C f/\Fun K "__init__" "Hall.__init__" SH f fd
theorem b3N{C f:Addr}{oc:Value}{od an:Option Addr}{ei:Array (Option Value)}{kV cM pm cu ct:Value}(m1:makesIn K C=true)(m2:findIn K (.ref C) "__init__"=some (some (.ref f)))(m3:isFn K (.ref f)=true)(m4:keepIn K (.ref C)=true)
 (e2:K.lookup f=some ⟨oc,od,.func (fnOf "__init__" "Hall.__init__" (R5 SH) (L8 SH) (p7 SH) .none kV cM pm an cu ct),ei⟩) (e3:codeIn K cu "Hall.__init__"=true) (e4:keepIn K (.ref f)=true):HallE K C:=⟨f,_,⟨m1,m2,m3,m4⟩,b1q e2 e3 e4⟩
end
theorem J1{α:Type}{x y:Str}{a b:α}{l:List (Str×α)}(h:((y,a)::l).lookup x=some b):(x=y/\a=b)∨l.lookup x=some b:=by
 rw[lookup_cons] at h;split at h
 · rename_i e;exact .inl ⟨eq_of_beq e,ax h⟩
 · exact .inr h
theorem a5Y{α:Type}{x:Str}{b:α}(h:([]:List (Str×α)).lookup x=some b):False:=by simp at h
section
variable{K:Frag}{P:Program}{w:World}{h:Heap}{mg:Str->Option Value}
theorem row{x:Str}{st:Stmt}{id np:Nat}{fn:Fn}(X:K.In h)(Gg:h.Ns mainGlobals mg)(d:DfE K x st)(R:Rw x st id np fn):∃f fd st N ps,mg x=some (.ref f)/\RowOk K G F x x id np f fd st N ps:=by obtain⟨f,fd,e,F⟩:=d.ex;exact⟨f,fd,st,_,_,mg_of X Gg e,F,R.a,F.binds R.b,R.p,fn,R.i,R.q,R.s,R.c⟩
def a7t(K:Frag)(mg:Str->Option Value):List (Str×Nat×Nat)->Prop
 |[]=>True
 |p::l=>(∃f fd st N ps,mg p.1=some (.ref f)/\RowOk K G F p.1 p.1 p.2.1 p.2.2 f fd st N ps)/\a7t K mg l
theorem a7D:∀{l:List (Str×Nat×Nat)},a7t K mg l->∀x id np,l.lookup x=some (id,np)->∃f fd st N ps,mg x=some (.ref f)/\RowOk K G F x x id np f fd st N ps
 |[],_,x,id,np,h=>(a5Y h).elim
 |(y,a,b)::l,r,x,id,np,h=>by
  rcases J1 h with⟨rfl,e⟩|h
  · cases e;exact r.1
  · exact a7D r.2 x id np h
def b2h(K:Frag):List Rc->Prop
 |[]=>True
 |r::l=>DfE K r.x (top r.t)/\b2h K l
theorem ds1{x:Str}{t i n:Nat}{f:Fn}{l:List Rc}(a:DfE K x (top t))(b:b2h K l):b2h K (⟨x,t,i,n,f⟩::l):=⟨a,b⟩
theorem a7C(X:K.In h)(Gg:h.Ns mainGlobals mg):∀{l:List Rc},b2h K l->b2f l->a7t K mg (l.map λr=>(r.x,r.i,r.n))
 |[],_,_=>True.intro
 |_::_,d,q=>⟨row X Gg d.1 q.1,a7C X Gg d.2 q.2⟩
variable{c6:Addr}(k6:nsIn K mainGlobals "Hall"=some (some (.ref c6)))(fs:b2h K T)(cJ:StrE K "FIGURES" "0123456789")(ce:StrE K "NAME_SIGNS" "abcdefghijklmnopqrstuvwxyz0123456789")(ci:StrE K "CLASS_SIGN" "@")(bT:IntE K "LONGEST_NAME" 12)(bM:IntE K "LONGEST_NUMBER" 5)(bX:IntE K "MOST_SHAPES" 60)(bQ:IntE K "MOST_LETTERS" 24)(bS:IntE K "MOST_CLASSES" 20)(bP:IntE K "MOST_FEATURES" 10)(cg:IntE K "MOST_RULES" 30)(bO:IntE K "MOST_IN_CLASS" 20)(bY:IntE K "MOST_AROUND" 3)(bR:IntE K "MOST_IN_CORE" 4)(cq:IntE K "MOST_TOLD" 3)(dm:TupE K "SIDES" [.str "above",.str "below"])(cv:TupE K "SWITCHES" [.str "on",.str "off"])(dI:TupE K "WAYS" [.str "left",.str "right",.str "either"])(dJ:DicE K P w "SHAPES_OF_JOIN" [(.inr "none",.int 1),(.inr "clear",.int 1),(.inr "back",.int 2),(.inr "both",.int 4)])(hall:HallE K c6)(cl:Cls K c6/\TyC K c6)(cY:findIn K (.ref c6) "shapes"=some none)(dq:findIn K (.ref c6) "marks"=some none)(cZ:findIn K (.ref c6) "points"=some none)(cD:findIn K (.ref c6) "letters"=some none)(dM:findIn K (.ref c6) "gaps"=some none)(cF:findIn K (.ref c6) "classes"=some none)(cx:findIn K (.ref c6) "features"=some none)(dn:findIn K (.ref c6) "rules"=some none)(eK:nsIn K mainGlobals "len"=some none)(eJ:nsIn K mainGlobals "str"=some none)(eL:nsIn K mainGlobals "int"=some none)(dR:nsIn K mainGlobals "list"=some none)(dy:nsIn K mainGlobals "tuple"=some none)(eN:nsIn K mainGlobals "all"=some none)(eM:nsIn K mainGlobals "any"=some none)(cj:nsIn K mainGlobals "isinstance"=some none)(dU:nsIn K mainGlobals "bool"=some none)(dz:nsIn K mainGlobals "range"=some none)(cr:nsIn K mainGlobals "enumerate"=some none)(eI:nsIn K mainGlobals "zip"=some none)(dS:nsIn K mainGlobals "dict"=some none)
include k6 fs cJ ce ci bT bM bX bQ bS bP cg bO bY bR cq dm cv dI dJ hall cl cY dq cZ cD dM cF cx dn eK eJ eL dR dy eN eM cj dU dz cr eI dS
theorem b2A(X:K.In h)(Gg:h.Ns mainGlobals mg):Stat P w ⟨K,λ_=>c6,[6],[]⟩ G ct F mg where
 scal:=λx d hx=>by
  have S:∀{x y:Str},StrE K x y->∃u v,mg x=some u/\i8 v u/\∀m H,Rp m H (.str y) v:=λe=>by obtain⟨t,e⟩:=e.ex;exact⟨_,.str _,mg_of X Gg e,⟨t,rfl⟩,λ_ _=>rfl⟩
  have I:∀{x:Str} {i:Int},IntE K x i->∃u v,mg x=some u/\i8 v u/\∀m H,Rp m H (.int i) v:=λe=>by obtain⟨t,e⟩:=e.ex;exact⟨_,.int _,mg_of X Gg e,⟨t,rfl⟩,λ_ _=>rfl⟩
  unfold G se at hx;simp only at hx;rcases J1 hx with⟨rfl,rfl⟩|hx
  · exact S cJ
  rcases J1 hx with⟨rfl,rfl⟩|hx
  · exact S ce
  rcases J1 hx with⟨rfl,rfl⟩|hx
  · exact S ci
  rcases J1 hx with⟨rfl,rfl⟩|hx
  · exact I bT
  rcases J1 hx with⟨rfl,rfl⟩|hx
  · exact I bM
  rcases J1 hx with⟨rfl,rfl⟩|hx
  · exact I bX
  rcases J1 hx with⟨rfl,rfl⟩|hx
  · exact I bQ
  rcases J1 hx with⟨rfl,rfl⟩|hx
  · exact I bS
  rcases J1 hx with⟨rfl,rfl⟩|hx
  · exact I bP
  rcases J1 hx with⟨rfl,rfl⟩|hx
  · exact I cg
  rcases J1 hx with⟨rfl,rfl⟩|hx
  · exact I bO
  rcases J1 hx with⟨rfl,rfl⟩|hx
  · exact I bY
  rcases J1 hx with⟨rfl,rfl⟩|hx
  · exact I bR
  rcases J1 hx with⟨rfl,rfl⟩|hx
  · exact I cq
  exact(a5Y hx).elim
 tups:=λx ds hx=>by
  unfold G at hx;simp only at hx;rcases J1 hx with⟨rfl,rfl⟩|hx
  · obtain⟨a,e,s⟩:=dm.ex;exact⟨a,_,mg_of X Gg e,s,λ_ _=>⟨.str "above",_,rfl,rfl,⟨.str "below",_,rfl,rfl,rfl⟩⟩⟩
  rcases J1 hx with⟨rfl,rfl⟩|hx
  · obtain⟨a,e,s⟩:=dI.ex;exact⟨a,_,mg_of X Gg e,s,λ_ _=>⟨.str "left",_,rfl,rfl,⟨.str "right",_,rfl,rfl,⟨.str "either",_,rfl,rfl,rfl⟩⟩⟩⟩
  rcases J1 hx with⟨rfl,rfl⟩|hx
  · obtain⟨a,e,s⟩:=cv.ex;exact⟨a,_,mg_of X Gg e,s,λ_ _=>⟨.str "on",_,rfl,rfl,⟨.str "off",_,rfl,rfl,rfl⟩⟩⟩
  exact(a5Y hx).elim
 dicts:=λx bq hx=>by
  unfold G at hx;simp only at hx;rcases J1 hx with⟨rfl,rfl⟩|hx
  · obtain⟨a,e,d⟩:=dJ.ex;exact⟨a,_,mg_of X Gg e,d,λ_ _=>.cons ⟨rfl,rfl⟩ (.cons ⟨rfl,rfl⟩ (.cons ⟨rfl,rfl⟩ (.cons ⟨rfl,rfl⟩ .nil)))⟩
  exact(a5Y hx).elim
 blt:=λx hx=>by
  rw[List.contains_iff_mem] at hx;unfold G at hx;simp only[aE,not_mem_nil,fW] at hx;rcases hx with rfl|rfl|rfl|rfl|rfl|rfl|rfl|rfl|rfl|rfl|rfl|rfl|rfl
  · exact ns_none_of X Gg eK
  · exact ns_none_of X Gg eJ
  · exact ns_none_of X Gg eL
  · exact ns_none_of X Gg dR
  · exact ns_none_of X Gg dy
  · exact ns_none_of X Gg eN
  · exact ns_none_of X Gg eM
  · exact ns_none_of X Gg cj
  · exact ns_none_of X Gg dU
  · exact ns_none_of X Gg dz
  · exact ns_none_of X Gg cr
  · exact ns_none_of X Gg eI
  · exact ns_none_of X Gg dS
 fn:=λx id np hx=>a7D (l:=fns) (a7C X Gg fs Rs) x id np hx
 obj:=λx k hx=>by
  unfold G at hx;simp only at hx;rcases J1 hx with⟨rfl,rfl⟩|hx
  · obtain⟨f,fd,M,F⟩:=hall.ex;exact⟨by simp,mg_of X Gg k6,f,fd,SH,["self"],["self"],"Hall.__init__",M,F,AH,F.binds BH,rfl,M6,rfl,rfl,rfl,CH⟩
  exact(a5Y hx).elim
 att:=λk hk=>by
  refine⟨cl.1,λf hf=>?_⟩;rw[List.contains_iff_mem] at hf;unfold G at hf;simp only[aE,not_mem_nil,fW] at hf;rcases hf with rfl|rfl|rfl|rfl|rfl|rfl|rfl|rfl
  · exact cY
  · exact dq
  · exact cZ
  · exact cD
  · exact dM
  · exact cF
  · exact cx
  · exact dn
 tyc:=λ_ _=>cl.2
theorem b2B:∃cA,DfE K "law" (top 87)/\∀{h:Heap} {mg:Str->Option Value},K.In h->h.Ns mainGlobals mg->Stat P w ⟨K,cA,[6],[]⟩ G ct F mg:=⟨_,fs.1,λX Gg=>b2A k6 fs cJ ce ci bT bM bX bQ bS bP cg bO bY bR cq dm cv dI dJ hall cl cY dq cZ cD dM cF cx dn eK eJ eL dR dy eN eM cj dU dz cr eI dS X Gg⟩
end
open PyProof.Rows hiding St
theorem b7V{l:PySem.W.OpenLaw}{n k:Nat}{q:Program}{dj:List Str}{XP:(Str->Option Value)->Heap->Prop}{YP:World->Heap->Prop}{d:DefRec}{K:Params->Frag}{CX:World->CXT}{sp:Frag->Sp}{x:Str}
 (hn:l.most=some n) (hn2:n<=sizeLine) (hdf:d.params.defaults=[]) (hr:Room k callerA)
 (hY:∀(w:World) (h:Heap),YP w h->(K w.params).In h)
 (F:∀(w:World) (mg:Str->Option Value) (fa:Addr) (h:Heap),(K w.params).In h->h.Ns mainGlobals mg->mg d.name=some (.ref fa)→
  ∃fd:FuncData,(∀(s:Shared) (u:Value),BindsTo s fd ⟨[u],[]⟩ [(x,u)])∧
   ∀base:Heap,(K w.params).In base->base.Ns mainGlobals mg->FnOk l.prog w (K w.params) mg base (CX w) k fa fd [x] (sp (K w.params)))
 (eB:∀(w:World) (H:Hp) (a:Addr) (ns:List Int),ns.length<=n->b2g H->SqL (K w.params) H a (ns.map V.int)->sp (K w.params) [.ref a] H (λv _=>v=.bl true) λ_ _ _=>False)
 (hCX:∀(w:World) (H:Hp) (s:Shared) (e:Value) (s':Shared),CX w [] H s (λ_ _ _=>False) e s'->False):
 PySem.W.WalkO q dj XP YP l.row.toRowW d [] (λf vs=>PySem.call f vs):=
 b2k (K:=K) (CX:=CX) (sp:=λw=>sp (K w.params)) hn hn2 hdf hr hY F eB hCX
def spK(K:Frag):Sp:=λvs H Q E=>∀cA,a4y ⟨K,cA,[6],[]⟩ (b4 ct F 20) 221 1 vs H Q E
theorem b6R{K:Frag}{P:Program}{w:World}{cA:Nat->Addr}{h:Heap}{mg:Str->Option Value}{fa:Addr}(D:DfE K "law" (top 87))(S:Stat P w ⟨K,cA,[6],[]⟩ G ct F mg)(X:K.In h)(Gg:h.Ns mainGlobals mg)(hmg:mg "law"=some (.ref fa)):
 ∃fd,(∀(s:Shared) (u:Value),BindsTo s fd ⟨[u],[]⟩ [("_law_script",u)])/\∀base:Heap,FnOk P w K mg base CX0 46 fa fd ["_law_script"] (spK K):=by
 obtain⟨f,fd,e,Fn⟩:=D.ex;have e0:=hmg.symm.trans (mg_of X Gg e);cases e0;have R:RowOk K G F "law" "law" 221 1 fa fd (top 87) (nO (top 87)) (pO (top 87)):=⟨Fn,Rs.1.a,Fn.binds Rs.1.b,Rs.1.p,a8b,Rs.1.i,Rs.1.q,Rs.1.s,Rs.1.c⟩;refine⟨fd,λs u=>?_,λbase=>?_⟩
 · obtain⟨oc,od,kV,cM,pm,an,cu,ct,ei,rfl,lk,eE⟩:=Fn.ex;exact .of_eq (Rs.1.b kV cM pm an cu ct [u] rfl)
 · have ih:=b6Q S 19;have g:=a5h S ih.1 ih.2 (b1X S 19) R base;exact⟨λvs H Q E hh=>g.len vs H Q E (hh cA),λA outer s H args us vs Q E a1 a2 a3 a4 hh=>g.run A outer s H args us vs Q E a1 a2 a3 a4 (hh cA)⟩
def isL(o:Obj):Bool:=match o.cls with
 |.type n=>n=="list"
 |_=>false
def b0C(K:Frag):Bool:=K.all λp=>!isL p.2
theorem b3s{K:Frag}(h:b0C K=true){a:Addr}{o:Obj}(e:K.lookup a=some o):o.cls≠.type "list":=by
 intro z;have hm:∃b,(b,o)∈K:=by
  clear h
  induction K with
  |nil=>cases e
  |cons p r ih=>
   rw[lookup_cons] at e;split at e
   · cases e;exact⟨p.1,aU⟩
   · obtain⟨b,hb⟩:=ih e;exact⟨b,aD _ hb⟩
 obtain⟨b,hb⟩:=hm;have:=ba.mp h (b,o) hb;unfold isL at this;simp only at this;rw[z] at this;simp at this
theorem a5J(m:List Addr)(H:Hp):∀ns:List Int,Rps m H (ns.map D.int) (ns.map V.int)
 |[]=>rfl
 |n::r=>⟨_,_,rfl,rfl,a5J m H r⟩
theorem b6v{K:Frag}{H:Hp}{a:Addr}{ns:List Int}(LT:∀ns:List Int,ns.length<=63->∃h',b4 ct F 20 221 [.ref 0] [.rol (ns.map .int)]=.ok (.bl true) h')(nl:b0C K=true)(hl:ns.length<=63)(hO:b2g H)(hS:SqL K H a (ns.map V.int)):
 spK K [.ref a] H (λv _=>v=.bl true) λ_ _ _=>False:=by
 intro cA;obtain⟨h',e⟩:=LT ns hl;have hf:∃o,H a=some (.frz o (.lst (ns.map V.int))):=by
  rcases hS with hS|⟨o,bt,n,hk,hc,_⟩
  · rcases hS with hS|hS
    · rcases hO a with z|⟨o,xs,z⟩
      · rw[hS] at z;cases z
      · rw[hS] at z;cases z
    · exact hS
  · exact absurd hc (b3s nl hk)
 refine⟨[.ref 0],[.rol (ns.map .int)],[a],rfl,⟨_,_,rfl,⟨a,rfl,rfl⟩,rfl⟩,⟨rfl,by simp,λn b c hn hc=>?_⟩,?_⟩
 · cases n with
   |zero=>
    cases hn;cases hc;obtain⟨o,hf⟩:=hf;exact⟨_,hS,a5J _ _ _,o,hf⟩
   |succ n=>simp at hn
 · rw[e];exact λm' H' v _ _ _ rv=>rv
end K07
namespace EV
open PySem L2 L2T
def a1z:R Out->R D
 |.ok (.nx _) h=>.ok .non h
 |.ok (.rt d) h=>.ok d h
 |.no=>.no
theorem a0t:∀{a b:List Char},a.map Char.toNat=b.map Char.toNat->a=b
 |[],[],_=>rfl
 |[],_::_,h=>by simp at h
 |_::_,[],h=>by simp at h
 |x::xs,y::ys,h=>by rw[map_cons,map_cons] at h;injection h with h1 h2;rw[a0t h2,Char.ext (UInt32.toNat_inj.mp h1)]
theorem a4N{a b:String}:(Str.ofString a=Str.ofString b)=(a=b):=propext ⟨λh=>by rw[Str.ofString_eq_toList,Str.ofString_eq_toList] at h;injection h with h;have:=fh Array.toList h;exact String.toList_inj.mp (a0t (by simpa using this)),λh=>by rw[h]⟩
theorem sl1:(1<=SL)=True:=eq_true (by decide)
theorem sl2:(2<=SL)=True:=eq_true (by decide)
theorem sl3:(3<=SL)=True:=eq_true (by decide)
theorem sl4:(4<=SL)=True:=eq_true (by decide)
theorem sl5:(5<=SL)=True:=eq_true (by decide)
theorem sl6:(6<=SL)=True:=eq_true (by decide)
variable{env:l0}{h:AH}
theorem b3j:a1z (.ok (.nx env) h)=.ok .non h:=rfl
variable{d:D}
theorem b3i:a1z (.ok (.rt d) h)=.ok d h:=rfl
theorem b3k:a1z .no=.no:=rfl
structure PF(F:Nat->Option Fn):Prop where
 f1:F 1=some a0G
 f2:F 2=some a1G
 f3:F 3=some a1H
 f4:F 4=some Y8
 f5:F 5=some I0
 f6:F 6=some N7
 f7:F 7=some N4
 f8:F 8=some a1I
 f9:F 9=some a1Z
 f10:F 10=some M5
 f11:F 11=some a2a
 f12:F 12=some Y7
 f13:F 13=some C2
 f14:F 14=some Z0
 f15:F 15=some V5
 f16:F 16=some a1F
 f17:F 17=some V1
 f18:F 18=some N5
 f19:F 19=some Y6
 f20:F 20=some V2
 f21:F 21=some K2
 f22:F 22=some T0
 f23:F 23=some a0H
 f24:F 24=some V3
 f25:F 25=some Q4
 f26:F 26=some Y5
 f27:F 27=some N6
 f28:F 28=some V4
 f29:F 29=some Y9
 f30:F 30=some a0J
 f31:F 31=some a0I
 f32:F 32=some M6
variable{n:Nat}{f:Nat}{ds:List D}{fd:Fn}{p:Pat}{c:CF}{α:Type}{g:AH}{r:R D}{it:I}{h1:AH}
section
variable{ct:CT}{F:Nat->Option Fn}
theorem i9(hF:F f=some fd)(hl:ds.length=fd.np):b4 ct F (n+1) f ds h=gcR fd.gc h (a1z (exs ct (b4 ct F n) fd.body (ds.map some++List.replicate (fd.ns-fd.np) none) h)):=by
 show(match F f with
  |none=>R.no
  |some fd=>if ds.length=fd.np then gcR fd.gc h (match exs ct (b4 ct F n) fd.body (ds.map some++List.replicate (fd.ns-fd.np) none) h with
   |.ok (.nx _) h'=>.ok .non h'
   |.ok (.rt d) h'=>.ok d h'
   |.no=>.no) else .no)=_
 rw[hF];simp only;rw[ay hl];generalize exs ct (b4 ct F n) fd.body (ds.map some++List.replicate (fd.ns-fd.np) none) h=r;cases r with
 |ok o h=>cases o<;>rfl
 |no=>rfl
theorem a0K{g:List (Nat×Cell)}{p:Pat}{t:l0->AH->R Bool}{e:l0->AH->R D}{env0:l0}{h:AH}(hg:gOk g h=true)(B:D->Bool)(f:D->D)(env:D->l0):
 ∀(l bw:List D),(∀x∈l,w6 p x env0=some (env x)/\t (env x) h=.ok (B x) h/\(B x=true->e (env x) h=.ok (f x) h))->bw.length+l.length<=SL->B0 g p t e env0 l bw h=.ok (bw++(l.filter B).map f) h
 |[],bw,_,_=>by rw[B0,ay hg];simp
 | x::r,bw,hx,hl=>by
  obtain⟨h1,h2,h3⟩:=hx x aU;have ih:=λacc' hl'=>a0K hg B f env r acc' (λy hy=>hx y (aD _ hy)) hl';rw[B0,ay hg,h1];simp only;rw[h2,g9];rw[length_cons] at hl;cases hb:B x with
  |true=>
   rw[ay rfl,h3 hb,g9,ay (by omega),ih _ (by simp;omega),List.filter_cons_of_pos hb];simp
  |false=>
   rw[az ⋯,ih _ (by omega),List.filter_cons_of_neg (by simp[hb])]
theorem a9i{g:List (Nat×Cell)}{e:l0->AH->R D}{env0:l0}(hg:gOk g h=true)(f:D->D)(env:D->l0)(l:List D)(hx:∀x∈l,w6 p x env0=some (env x)/\e (env x) h=.ok (f x) h)(hl:l.length<=SL):
 B0 g p (tst ct c .yes) e env0 l [] h=.ok (l.map f) h:=by
 have:=a0K (t:=tst ct c .yes) hg (λ_=>true) f env l [] (λx dE=>⟨(hx x dE).1,rfl,λ_=>(hx x dE).2⟩) (by simpa using hl);rw[this,List.filter_eq_self.mpr (λ_ _=>rfl),nil_append]
theorem a3v{α:Type}(P:α->Bool):∀l:List α,a6D (l.map λx=>D.bl (P x))=some (l.map P)
 |[]=>rfl
 |x::r=>by rw[map_cons,a6D,a3v P r];rfl
theorem a1t:∀l:List Str,a2G (l.map D.str)=some l
 |[]=>rfl
 |x::r=>by rw[map_cons,a2G,a1t r];rfl
theorem a4H{l:List D}:rdL (h++[.lst l]) h.length=some l:=by unfold rdL;simp
theorem b6{c:Cell}:(h++[c])[h.length]? =some c:=by simp
theorem a1q{P:α->Bool}{l:List α}:biD .all (h++[.lst (l.map λx=>D.bl (P x))]) [.ref h.length]=.ok (.bl (l.all P)) (h++[.lst (l.map λx=>D.bl (P x))]):=by simp only[biD,bi1,biL,b6,a4H,a3v];congr 2;simp[all_map]
theorem b4A{P:α->Bool}{l:List α}:biD .any (h++[.lst (l.map λx=>D.bl (P x))]) [.ref h.length]=.ok (.bl (l.any P)) (h++[.lst (l.map λx=>D.bl (P x))]):=by simp only[biD,bi1,biL,b6,a4H,a3v];congr 2;simp[List.any_map]
theorem gc1(hd:d.flat=true):gcR 1 h (.ok d (h++g))=.ok d h:=by unfold gcR;simp only;rw[az (by decide)];simp[hd]
theorem A9(hd:d.flat=true):gcR 1 h (.ok d h)=.ok d h:=by
 have:=gc1 (h:=h) (g:=[]) hd
 simpa using this
theorem gc0:gcR 0 h r=r:=by cases r<;>rfl
def E2(row:Str):List Str:=(Txt.split row " ").filter λw=>decide (w≠"")
theorem a1R(c:Nat):∀cs:List Nat,∃ps:List (List Nat),ps≠[]/\(∀p∈ps,c∉p)/\jn c ps=cs
 |[]=>⟨[[]],by simp,by simp,rfl⟩
 | x ::cs=>by
  obtain⟨ps,h1,h2,h3⟩:=a1R c cs
  by_cases hx:x=c
  · subst hx;refine⟨[]::ps,by simp,λp hp=>?_,?_⟩
    · rcases aE.mp hp with rfl|hp
      · simp
      · exact h2 p hp
    · cases ps with
      |nil=>exact absurd rfl h1
      |cons p r=>rw[←h3];rfl
  · cases ps with
    |nil=>exact absurd rfl h1
    |cons p r=>
     refine⟨(x::p)::r,by simp,λq hq=>?_,?_⟩
     · rcases aE.mp hq with rfl|hq
       · intro hc;rcases aE.mp hc with e|e
         · exact hx e.symm
         · exact h2 p aU e
       · exact h2 q (aD _ hq)
     · rw[←h3];cases r<;>rfl
theorem b0Q(c:Nat):∀ps:List (List Nat),ps.length<=(jn c ps).length+1
 |[]=>by simp
 |[x]=>by simp
 |x::y::r=>by have:=b0Q c (y::r);show(y::r).length+1<=(x++c::jn c (y::r)).length+1;simp only[aq,length_cons] at this⊢;omega
theorem a8x(x:Str)(c:Nat):(Txt.split x ⟨#[c]⟩).length<=x.length+1:=by
 obtain⟨ps,h1,h2,h3⟩:=a1R c (cd x);have e:(ps.map λp=>(⟨p.toArray⟩:Str)).map cd=ps:=by rw[aG];refine List.map_id'' (λp=>?_) ps;simp[cd]
 rw[a2J (ps:=ps.map λp=>(⟨p.toArray⟩:Str)) (by simpa using h1) (λp hp=>by
  obtain⟨q,hq,rfl⟩:=am.mp hp
  simpa [cd] using h2 q hq) (by rw[e,h3]),aa,←n9,←h3]
 exact b0Q c ps
theorem J3:∀l:List Str,D.flats (l.map D.str)=true
 |[]=>rfl
 |x::r=>by rw[map_cons,D.flats,J3 r];rfl
section
variable{a b e:E}{t:T}
theorem b3D{i:Int}:a7U (.ok (.int i) h)=.ok (some i) h:=rfl
theorem Z9{b:Bool}:asB (.ok (.bl b) h)=.ok b h:=rfl
theorem a0i{fr:List Nat}{x:Its}{h2:AH}(hi:evi ct c it env h=.ok x h1)(hc:B0 x.2 p (tst ct c t) (ev ct c e) (t8 n fr env) x.1 [] h1=.ok ds h2):ev ct c (.comp p it n fr t e) env h=.ok (.ref h2.length) (h2++[.lst ds]):=by show(evi ct c it env h).bind _=_;rw[hi,g9,hc];rfl
end
section
variable{e:E}{t:T}
theorem Z2{fr:List Nat}{l:List D}{g:List (Nat×Cell)}(hi:evi ct c it env h=.ok (l,g) h1)(hg:gOk g h1=true)(B:D->Bool)(f:D->D)(bK:D->l0)
 (hx:∀x∈l,w6 p x (t8 n fr env)=some (bK x)/\tst ct c t (bK x) h1=.ok (B x) h1/\(B x=true->ev ct c e (bK x) h1=.ok (f x) h1)) (hl:l.length<=SL):ev ct c (.comp p it n fr t e) env h=.ok (.ref h1.length) (h1++[.lst ((l.filter B).map f)]):=
 a0i (x:=(l,g)) hi (a0K hg B f bK l [] hx (by simpa using hl))
theorem y9{fr:List Nat}{l:List D}{g:List (Nat×Cell)}(hi:evi ct c it env h=.ok (l,g) h1)(hg:gOk g h1=true)(f:D->D)(bK:D->l0)
 (hx:∀x∈l,w6 p x (t8 n fr env)=some (bK x)/\ev ct c e (bK x) h1=.ok (f x) h1) (hl:l.length<=SL):ev ct c (.comp p it n fr .yes e) env h=.ok (.ref h1.length) (h1++[.lst (l.map f)]):=
 a0i (x:=(l,g)) hi (a9i hg f bK l hx hl)
end
theorem gc2{k:Nat}{c:Cell}(hk:(h++g)[k]? =some c)(hl:h.length<=k)(hc:c.flat=true):gcR 2 h (.ok (.ref k) (h++g))=.ok (.ref h.length) (h++[c]):=by unfold gcR;simp only[hk];simp[hl,hc]
end
end EV
local macro_rules
  | `(tactic| simp_arith [$ls,*]) => `(tactic| simp only [EV.b9x, EV.c1p, EV.b1F, EV.b7a, EV.b4a, EV.b9z, EV.b9D, EV.b6X, EV.b7h, EV.b9B, EV.b9y, EV.b7f, EV.b1E, EV.b6W, EV.b4d, EV.b6Y, EV.b4f, EV.b4M, EV.b9C, EV.b9A, EV.b7e, EV.b4c, EV.b4b, EV.b7d, EV.b7g, EV.b6Z, EV.b7c, EV.b7b, EV.a8c, EV.a6n, EV.a0R, EV.b2p, EV.b2s, EV.b2r, EV.a9s, EV.b2t, EV.b5b, EV.b2q, EV.b5a, EV.b6V, EV.b1B, EV.b3D, EV.Z9, EV.a2z, EV.b1D, EV.a6p, EV.b3Z, EV.a1J, EV.b9w, EV.a1K, EV.b6U, EV.b1A, EV.b6S, EV.b6T, EV.a5k, EV.K6, EV.g9, EV.b4w,
      map_cons, map_nil, cons_append, nil_append, List.getElem?_cons_zero, List.getElem?_cons_succ, set_cons_zero, List.set_cons_succ, List.replicate, length_cons, length_nil, fk, fB, fj, Bool.true_eq_false, EV.b3i, EV.b3j, EV.b3k, Nat.reduceSub, Nat.reduceAdd, Nat.reduceLT, aB, fq, EV.a4N, String.reduceEq, EV.sl1, EV.sl2, EV.sl3, EV.sl4, EV.sl5, EV.sl6, $ls,*])
namespace EV
open PySem L2 L2T
variable{z:Str}{h:AH}{xs:List D}{w:Nat}{d:D}{n:Nat}{row:Str}{id:Nat}{ws:List Str}{fd:Fn}
section
variable{ct:CT}{F:Nat->Option Fn}
noncomputable def due(a b c:Bool):Option Str:=if a then some "twice" else if !b then some "name" else if c then some "many" else none
def T3:Option Str->D
 |some x=>.str x
 |none=>.non
theorem U1(o:Option Str):decide (T3 o=.non)=o.isNone:=by cases o<;>simp[T3]
theorem Z6{a b c:Bool}(h:due a b c=none):a=false/\b=true/\c=false:=by cases a<;>cases b<;>cases c<;>simp[due] at h⊢
theorem a2I{c:Nat}:Txt.startswith z ⟨#[c]⟩=decide ((cd z).head? =some c):=by have:=StrLaws.subAt_one z c 0;unfold Txt.startswith;rw[fR,af,fP,this,fP];show(cd z)[0]? =some c↔_;rw[List.head?_eq_getElem?]
theorem a5F(z:Str)(h:1<=z.length):Txt.slice z (some 1) none=tl z:=by
 rw[slice_from_eq (b:=z.length) (by decide) (by omega) rfl];unfold tl;congr 2;have:(z.cps.toList.drop 1).length=z.length-1:=by rw[bm,show z.cps.toList.length=z.length from n9 z]
 show List.take ((z.length:Int)-1).toNat (List.drop 1 z.cps.toList)=_;exact aY (by omega)
theorem ix_str{i c:Nat}(hl:z.length<=SL)(hc:(cd z)[i]? =some c):ixD h (.str z) (.int (i:Nat))=.ok (.str ⟨#[c]⟩) h:=by
 have hi:=(ae.mp hc).1;have:atI z.cps.toList (i:Int)=some c:=by
  show(ixN (cd z).length (i:Int)).bind (λj=>(cd z)[j]?)=some c;have e:ixN (cd z).length (i:Int)=some i:=by unfold ixN;rw[ay (by omega),ay (by omega)];simp
  rw[e];exact hc
 simp only[ixD,ay hl,this]
theorem E1{i:Nat}(hw:h[w]? =some (.lst xs))(hd:xs[i]? =some d):ixD h (.ref w) (.int (i:Nat))=.ok d h:=by
 have hi:=(ae.mp hd).1;have:atI xs (i:Int)=some d:=by
  show(ixN xs.length (i:Int)).bind (λj=>xs[j]?)=some d;have e:ixN xs.length (i:Int)=some i:=by unfold ixN;rw[ay (by omega),ay (by omega)];simp
  rw[e];exact hd
 simp only[ixD,hw,this]
variable(W:PF F)
include W
theorem a1P(hr:row.length<=100000):b4 ct F (n+1) 1 [.str row] h=.ok (.ref h.length) (h++[.lst ((E2 row).map .str)]):=by
 rw[i9 W.f1 rfl];have hs:(Txt.split row " ").length<=SL:=aO (a8x row 32) (by show _<=16777216;omega);simp only[a0G];simp_arith[];rw[Z2 (l:=(Txt.split row " ").map D.str) (g:=[(h.length,.lst ((Txt.split row " ").map D.str))]) (h1:=h++[.lst ((Txt.split row " ").map D.str)]) ?_ (by simp[gOk]) (λd=>match d with|.str w=>decide (w≠"")|_=>false) id (λd=>[some d]) ?_ (by simpa using hs)]
 · simp_arith[]
   have e:List.map id (List.filter (λd=>match d with|D.str w=>decide (w≠"")|_=>false) ((Txt.split row " ").map D.str))=(E2 row).map D.str:=by rw[map_id,List.filter_map];rfl
   rw[e,aA];exact gc2 ⋯ ⋯ (J3 _)
 · simp_arith[mtT,mtD,u9];rw[ay ⟨by decide,by show _<=16777216;omega⟩]
   simp only[g9,W5,b6]
 · intro x hx;obtain⟨w,_,rfl⟩:=am.mp hx;refine⟨rfl,?_,λ_=>?_⟩
   · simp_arith[op2,a1A,eqS];simp
   · simp_arith[id]
theorem a3h{g:Str}(hz:z.length<=100000):b4 ct F (n+1) 2 [.str z,.str g] h=.ok (.bl ((cd z).all λc=>decide (c∈cd g))) h:=by
 rw[i9 W.f2 rfl];simp only[a1G];simp_arith[];rw[y9 (l:=V8 z) (g:=[]) (h1:=h) ?_ (by simp[gOk]) (λd=>match d with|.str w=>.bl (a4O w g)|_=>.non) (λd=>[some d,some (.str g)]) ?_ (by unfold V8;rw[aa,show z.cps.toList.length=z.length from n9 z];show _<=16777216;omega)]
 · have e:(V8 z).map (λd=>match d with|D.str w=>D.bl (a4O w g)|_=>D.non)=(cd z).map λc=>D.bl (decide (c∈cd g)):=by unfold V8;rw[aG];refine aT λc _=>?_;simp only[Function.comp,a4O];rw[StrLaws.found_one]
   rw[e];simp_arith[a1q];exact gc1 rfl
 · simp_arith[W5]
 · intro x hx;unfold V8 at hx;obtain⟨w,_,rfl⟩:=am.mp hx;refine⟨rfl,?_⟩
   simp_arith[op2,a0A];simp
theorem E7(hz:z.length<=100000):b4 ct F (n+2) 3 [.str z] h=.ok (.bl (b9 z)) h:=by
 rw[i9 W.f3 rfl];simp only[a1H];have hl:z.length<=SL:=by show _<=16777216;omega
 simp_arith[biD,bi1,biL,ay hl,op2,E3,a3h W hz]
 have e:b9 z=(decide ((1:Int)<=(z.length:Int))&&(decide ((z.length:Int)<=12)&&(cd z).all N3)):=by
  unfold b9;rw[Bool.and_assoc];congr 1
  · exact decide_eq_decide.mpr (by omega)
  · congr 1;exact decide_eq_decide.mpr (by omega)
 rw[e]
 by_cases h1:(1:Int)<=(z.length:Int)
 · by_cases h2:(z.length:Int)<=12
   · simp only[h1,h2,eX,fk,fM,g9,Z9];exact A9 rfl
   · simp only[h1,h2,eX,eZ,fk,fM,fN,g9,Z9,fj,fB];exact A9 rfl
 · simp only[h1,eZ,fN,g9,Z9,fj,fB];exact A9 rfl
theorem K0(hz:z.length<=100000):b4 ct F (n+2) 4 [.str z] h=.ok (.bl (a1S z)) h:=by
 rw[i9 W.f4 rfl];simp only[Y8];have hl:z.length<=SL:=by show _<=16777216;omega
 have hm:∀h,b4 ct F (n+1) 2 [.str z,.str "0123456789"] h=.ok (.bl ((cd z).all Q8)) h:=λh=>a3h W hz
 simp_arith[biD,bi1,biL,ay hl,op2,E3,hm]
 have e:a1S z=(decide ((1:Int)<=(z.length:Int))&&(decide ((z.length:Int)<=5)&&((cd z).all Q8&&(decide (z="0")||!decide ((cd z).head? =some 48))))):=by
  unfold a1S;rw[Bool.and_assoc,Bool.and_assoc];congr 1
  · exact decide_eq_decide.mpr (by omega)
  · congr 1;exact decide_eq_decide.mpr (by omega)
 rw[e]
 by_cases h1:(1:Int)<=(z.length:Int)
 · by_cases h2:(z.length:Int)<=5
   · simp_arith[hm,h1,h2,eX,fk,fM,g9,Z9,fc,fj,fB,op2]
     cases hf:(cd z).all Q8 with
     |false=>
      simp_arith[hm,Bool.not_false,fk,fN,g9,op2];exact A9 rfl
     | true=>
      obtain⟨c,r,hc⟩:∃c r,cd z=c::r:=by
       cases hq:cd z with
       |nil=>have:=n9 z;rw[hq] at this;simp at this;omega
       |cons c r=>exact⟨c,r,rfl⟩
      have hix:ixD h (.str z) (.int 0)=.ok (.str ⟨#[c]⟩) h:=ix_str (i:=0) hl (by rw[hc];rfl);have h0:decide ((⟨#[c]⟩:Str)="0")=decide ((cd z).head? =some 48):=by rw[hc];refine decide_eq_decide.mpr ?_;rw[show(Str.ofString "0")=⟨#[48]⟩ from rfl];simp
      simp_arith[hm,fc,fj,fB,fM,g9,D8,a1A,eqS,Z9,hix,h0,op2]
      cases hz0:decide (z="0") with
      |true=>
       simp_arith[hm,fk,Bool.true_or,op2];exact A9 rfl
      |false=>
       simp_arith[hm,fj,fB,Bool.false_or,op2];exact A9 rfl
   · simp_arith[hm,h1,h2,eX,eZ,fk,fM,fN,g9,Z9,fj,fB,Bool.not_false,op2];exact A9 rfl
 · simp_arith[hm,h1,eZ,fN,g9,Z9,fj,fB,Bool.not_false,fk,op2];exact A9 rfl
theorem a5b(hz:z.length<=100000):b4 ct F (n+3) 5 [.str z] h=.ok (.bl (a3Q z)) h:=by
 rw[i9 W.f5 rfl];simp only[I0];have hl:z.length<=SL:=by show _<=16777216;omega
 have dN:Txt.startswith z "-"=decide ((cd z).head? =some 45):=a2I
 simp_arith[mtT,mtD,op2,a1A,eqS,slD,ay hl,dN,K0 W hz];unfold a3Q
 by_cases h1:(cd z).head? =some 45
 · have hl1:1<=z.length:=by
    rw[←n9];cases hq:cd z with
    |nil=>rw[hq] at h1;cases h1
    |cons c r=>simp
   have ht:(tl z).length<=100000:=by rw[←n9,a4l,bm,n9];omega
   simp_arith[h1,eX,fk,a5F z hl1,K0 W ht,g9,K0 W hz]
   cases hz0:decide (z="-0") with
   |true=>
    simp_arith[fc,fj,fB,fN];exact A9 rfl
   |false=>
    simp_arith[Bool.not_false,fk,fM];exact A9 rfl
 · simp_arith[h1,eZ,fj,fB,K0 W hz];exact A9 rfl
theorem y0{a b c:Bool}:b4 ct F (n+1) 14 [.bl a,.bl b,.bl c] h=.ok (T3 (due a b c)) h:=by rw[i9 W.f14 rfl];simp only[Z0];simp_arith[];cases a<;>cases b<;>cases c<;>exact A9 rfl
theorem a1O{k:Nat}{P:Str->Bool}(hF:F id=some fd)(hb:fd=⟨1,1,1,(.o (.ret (.bi .all (.o (.comp (.nm 0) (.seq (.v 0)) 1 [] .yes (.call k (.o (.v 0))))))))⟩)
 (hw:h[w]? =some (.lst (ws.map D.str))) (hl:ws.length<=SL) (hP:∀x∈ws,b4 ct F n k [.str x] h=.ok (.bl (P x)) h):b4 ct F (n+1) id [.ref w] h=.ok (.bl (ws.all P)) h:=by
  subst hb;rw[i9 hF rfl];simp_arith[];rw[y9 (l:=ws.map D.str) (g:=[(w,.lst (ws.map D.str))]) (h1:=h) ?_ (by simp[gOk,hw]) (λd=>match d with|.str x=>.bl (P x)|_=>.non) (λd=>[some d]) ?_ (by simpa using hl)]
  · have e:(ws.map D.str).map (λd=>match d with|D.str x=>D.bl (P x)|_=>D.non)=ws.map λx=>D.bl (P x):=by rw[aG];rfl
    rw[e];simp_arith[a1q];exact gc1 rfl
  · simp_arith[W5,hw]
  · intro x hx;obtain⟨y,hy,rfl⟩:=am.mp hx;refine⟨rfl,?_⟩
    simp_arith[hP y hy]
theorem O8(hw:h[w]? =some (.lst (ws.map D.str)))(hl:ws.length<=SL)(hs:∀x∈ws,x.length<=100000):b4 ct F (n+3) 9 [.ref w] h=.ok (.bl (ws.all b9)) h:=
 a1O (n:=n+2) W W.f9 rfl hw hl λx hx=>E7 W (hs x hx)
theorem a3G(hw:h[w]? =some (.lst (ws.map D.str)))(hl:ws.length<=SL)(hs:∀x∈ws,x.length<=100000):b4 ct F (n+4) 10 [.ref w] h=.ok (.bl (ws.all a3Q)) h:=
 a1O (n:=n+3) W W.f10 rfl hw hl λx hx=>a5b W (hs x hx)
end
structure HD where
 shapes:List (Str×D):=[]
 marks:List (Str×D):=[]
 points:List ((Str×Str)×D):=[]
 letters:List (Str×D):=[]
 gaps:List Str:=[]
 classes:List (Str×D):=[]
 features:List (Str×D):=[]
 rules:List (Str×List D):=[]
def kd(l:List (Str×D)):List (D×D):=l.map λp=>(.str p.1,p.2)
def pd(l:List ((Str×Str)×D)):List (D×D):=l.map λp=>(.tup [.str p.1.1,.str p.1.2],p.2)
def rd(l:List (Str×List D)):List D:=l.map λr=>.tup (.str r.1::r.2)
noncomputable def V0(n:Nat):List (Str×D):=[("shapes",.ref (n+1)),("marks",.ref (n+2)),("points",.ref (n+3)),("letters",.ref (n+4)),("gaps",.ref (n+5)),("classes",.ref (n+6)),("features",.ref (n+7)),("rules",.ref (n+8))]
structure HallAt(h:AH)(n:Nat)(H:HD):Prop where
 o:h[n]? =some (.obj 6 (V0 n))
 c1:h[n+1]? =some (.dict (kd H.shapes))
 c2:h[n+2]? =some (.dict (kd H.marks))
 c3:h[n+3]? =some (.dict (pd H.points))
 c4:h[n+4]? =some (.dict (kd H.letters))
 c5:h[n+5]? =some (.lst (H.gaps.map .str))
 c6:h[n+6]? =some (.dict (kd H.classes))
 c7:h[n+7]? =some (.dict (kd H.features))
 c8:h[n+8]? =some (.lst (rd H.rules))
structure Fr(n:Nat)(h h':AH):Prop where
 len:h.length<=h'.length
 get:∀i,i<h.length->(i<n∨n+8<i)->h'[i]? =h[i]?
theorem Fr.refl(n:Nat)(h:AH):Fr n h h:=⟨aj _,λ_ _ _=>rfl⟩
variable{h':AH}
theorem Fr.trans{h'':AH}(a:Fr n h h')(b:Fr n h' h''):Fr n h h'':=
 ⟨aO a.len b.len,λi hi hn=>(b.get i (aC hi a.len) hn).trans (a.get i hi hn)⟩
theorem Fr.app(n:Nat)(h g:AH):Fr n h (h++g):=⟨by simp,λi hi _=>av hi⟩
theorem Fr.set{k:Nat}{c:Cell}(h1:n<=k)(h2:k<=n+8):Fr n h (h.set k c):=⟨by simp,λi hi hn=>eW (by omega)⟩
variable{g:AH}
theorem b5{i:Nat}{c:Cell}(e:h[i]? =some c):(h++g)[i]? =some c:=by rw[av (ae.mp e).1];exact e
theorem HallAt.app{H:HD}(A:HallAt h n H)(g:AH):HallAt (h++g) n H:=
 ⟨b5 A.o,b5 A.c1,b5 A.c2,b5 A.c3,b5 A.c4,b5 A.c5,b5 A.c6,b5 A.c7,b5 A.c8⟩
variable{c':Cell}
theorem b7{i k:Nat}{c:Cell}(ej:k≠i)(e:h[i]? =some c):(h.set k c')[i]? =some c:=by rw[eW ej];exact e
theorem x4{i:Nat}{c:Cell}(e:h[i]? =some c):(h.set i c')[i]? =some c':=fb (ae.mp e).1
theorem HallAt.s1{H:HD}(A:HallAt h n H)(l:List (Str×D)):HallAt (h.set (n+1) (.dict (kd l))) n {H with shapes:=l}:=
 ⟨b7 (by omega) A.o,x4 A.c1,b7 (by omega) A.c2,b7 (by omega) A.c3,b7 (by omega) A.c4,b7 (by omega) A.c5,b7 (by omega) A.c6,b7 (by omega) A.c7,b7 (by omega) A.c8⟩
theorem HallAt.s2{H:HD}(A:HallAt h n H)(l:List (Str×D)):HallAt (h.set (n+2) (.dict (kd l))) n {H with marks:=l}:=
 ⟨b7 (by omega) A.o,b7 (by omega) A.c1,x4 A.c2,b7 (by omega) A.c3,b7 (by omega) A.c4,b7 (by omega) A.c5,b7 (by omega) A.c6,b7 (by omega) A.c7,b7 (by omega) A.c8⟩
theorem HallAt.s3{H:HD}(A:HallAt h n H)(l:List ((Str×Str)×D)):HallAt (h.set (n+3) (.dict (pd l))) n {H with points:=l}:=
 ⟨b7 (by omega) A.o,b7 (by omega) A.c1,b7 (by omega) A.c2,x4 A.c3,b7 (by omega) A.c4,b7 (by omega) A.c5,b7 (by omega) A.c6,b7 (by omega) A.c7,b7 (by omega) A.c8⟩
theorem HallAt.s4{H:HD}(A:HallAt h n H)(l:List (Str×D)):HallAt (h.set (n+4) (.dict (kd l))) n {H with letters:=l}:=
 ⟨b7 (by omega) A.o,b7 (by omega) A.c1,b7 (by omega) A.c2,b7 (by omega) A.c3,x4 A.c4,b7 (by omega) A.c5,b7 (by omega) A.c6,b7 (by omega) A.c7,b7 (by omega) A.c8⟩
theorem HallAt.s6{H:HD}(A:HallAt h n H)(l:List (Str×D)):HallAt (h.set (n+6) (.dict (kd l))) n {H with classes:=l}:=
 ⟨b7 (by omega) A.o,b7 (by omega) A.c1,b7 (by omega) A.c2,b7 (by omega) A.c3,b7 (by omega) A.c4,b7 (by omega) A.c5,x4 A.c6,b7 (by omega) A.c7,b7 (by omega) A.c8⟩
theorem HallAt.s7{H:HD}(A:HallAt h n H)(l:List (Str×D)):HallAt (h.set (n+7) (.dict (kd l))) n {H with features:=l}:=
 ⟨b7 (by omega) A.o,b7 (by omega) A.c1,b7 (by omega) A.c2,b7 (by omega) A.c3,b7 (by omega) A.c4,b7 (by omega) A.c5,b7 (by omega) A.c6,x4 A.c7,b7 (by omega) A.c8⟩
theorem HallAt.s8{H:HD}(A:HallAt h n H)(l:List (Str×List D)):HallAt (h.set (n+8) (.lst (rd l))) n {H with rules:=l}:=
 ⟨b7 (by omega) A.o,b7 (by omega) A.c1,b7 (by omega) A.c2,b7 (by omega) A.c3,b7 (by omega) A.c4,b7 (by omega) A.c5,b7 (by omega) A.c6,b7 (by omega) A.c7,x4 A.c8⟩
theorem HallAt.fld1{H:HD}(A:HallAt h n H):S9 h "shapes" (.ref n)=.ok (.ref (n+1)) h:=by simp only[S9,A.o];rfl
theorem HallAt.fld2{H:HD}(A:HallAt h n H):S9 h "marks" (.ref n)=.ok (.ref (n+2)) h:=by simp only[S9,A.o];rfl
theorem HallAt.fld3{H:HD}(A:HallAt h n H):S9 h "points" (.ref n)=.ok (.ref (n+3)) h:=by simp only[S9,A.o];rfl
theorem HallAt.fld4{H:HD}(A:HallAt h n H):S9 h "letters" (.ref n)=.ok (.ref (n+4)) h:=by simp only[S9,A.o];rfl
theorem HallAt.fld5{H:HD}(A:HallAt h n H):S9 h "gaps" (.ref n)=.ok (.ref (n+5)) h:=by simp only[S9,A.o];rfl
theorem HallAt.fld6{H:HD}(A:HallAt h n H):S9 h "classes" (.ref n)=.ok (.ref (n+6)) h:=by simp only[S9,A.o];rfl
theorem HallAt.fld7{H:HD}(A:HallAt h n H):S9 h "features" (.ref n)=.ok (.ref (n+7)) h:=by simp only[S9,A.o];rfl
theorem HallAt.fld8{H:HD}(A:HallAt h n H):S9 h "rules" (.ref n)=.ok (.ref (n+8)) h:=by simp only[S9,A.o];rfl
theorem a2y(k:Str)(l:List (Str×D)):z9 (.str k) (kd l)=true:=by simp[z9,kd,F6]
theorem a4V(a b:Str)(l:List ((Str×Str)×D)):z9 (.tup [.str a,.str b]) (pd l)=true:=by simp[z9,pd,F6,v7,D9]
theorem b1o(k:Str):∀l:List (Str×D),(o7 (kd l) (.str k)).isSome=decide (k∈l.map (·.1))
 |[]=>rfl
 | p ::r=>by
  have ih:=b1o k r;unfold o7 kd at ih⊢;rw[map_cons,List.find?_cons]
  by_cases e:p.1=k
  · simp[e]
  · have e':¬(D.str p.1=D.str k):=λz=>e (by injection z);simp only[e',eZ];rw[ih];exact decide_eq_decide.mpr ⟨λz=>by simp[z],λz=>by
     rw[map_cons] at z;rcases aE.mp z with z|z
     · exact absurd z.symm e
     · exact z⟩
theorem b1m(a b:Str):∀l:List ((Str×Str)×D),(o7 (pd l) (.tup [.str a,.str b])).isSome=decide ((a,b)∈l.map (·.1))
 |[]=>rfl
 | p ::r=>by
  have ih:=b1m a b r;unfold o7 pd at ih⊢;rw[map_cons,List.find?_cons]
  by_cases e:p.1=(a,b)
  · simp[e]
  · have e':¬(D.tup [.str p.1.1,.str p.1.2]=D.tup [.str a,.str b]):=λz=>e (by injection z with z;injection z with z1 z2;injection z1 with z1;injection z2 with z2;injection z2 with z2;exact Prod.ext z1 z2)
    simp only[e',eZ];rw[ih];exact decide_eq_decide.mpr ⟨λz=>by simp[z],λz=>by
     rw[map_cons] at z;rcases aE.mp z with z|z
     · exact absurd z.symm e
     · exact z⟩
theorem b5z{k:Str}{l:List (Str×D)}(h:k∉l.map (·.1)):W6 (kd l) (.str k) d=kd (l++[(k,d)]):=by
 unfold W6;rw[az]
 · simp[kd]
 · intro z;rw[bc] at z;obtain⟨p,hp,e⟩:=z;unfold kd at hp;obtain⟨q,hq,rfl⟩:=am.mp hp;have e:=aw e;injection e with e;exact h (am.mpr ⟨q,hq,e⟩)
theorem b5y{a b:Str}{l:List ((Str×Str)×D)}(h:(a,b)∉l.map (·.1)):W6 (pd l) (.tup [.str a,.str b]) d=pd (l++[((a,b),d)]):=by
 unfold W6;rw[az]
 · simp[pd]
 · intro z;rw[bc] at z;obtain⟨p,hp,e⟩:=z;unfold pd at hp;obtain⟨q,hq,rfl⟩:=am.mp hp;have e:=aw e;injection e with e;injection e with e1 e2;injection e1 with e1;injection e2 with e2;injection e2 with e2;exact h (am.mpr ⟨q,hq,Prod.ext e1 e2⟩)
theorem W3{l:List (Str×D)}{k:Str}(e:h[n]? =some (.dict (kd l))):a0A false h (.str k) (.ref n)=.ok (.bl (decide (k∈l.map (·.1)))) h:=by simp only[a0A,e,a2y,fk,b1o];simp
theorem b8Y{l:List ((Str×Str)×D)}{a b:Str}(e:h[n]? =some (.dict (pd l))):a0A false h (.tup [.str a,.str b]) (.ref n)=.ok (.bl (decide ((a,b)∈l.map (·.1)))) h:=by simp only[a0A,e,a4V,fk,b1m];simp
theorem a4T{l:List (Str×D)}(e:h[n]? =some (.dict (kd l))):biD .len h [.ref n]=.ok (.int l.length) h:=by
 have:z9 (.int 0) (kd l)=true:=by simp[z9,kd,F6]
 simp only[biD,bi1,biL,e,this,fk];simp[kd]
theorem o0{l:List D}(e:h[n]? =some (.lst l)):biD .len h [.ref n]=.ok (.int l.length) h:=by
 have:rdL h n=some l:=by unfold rdL;rw[e]
 simp only[biD,bi1,biL,e,this]
section
variable{ct:CT}{F:Nat->Option Fn}(W:PF F)
include W
theorem b1g:b4 ct F (n+1) 32 [.ref h.length] (h++[.obj 6 []])=.ok .non (h++[.obj 6 (V0 h.length),.dict [],.dict [],.dict [],.dict [],.lst [],.dict [],.dict [],.lst []]):=by
 rw[i9 W.f32 rfl];simp only[M6];rw[gc0];have hs:∀(x z:Cell) (t:AH),(h++x::t).set h.length z=h++z::t:=λx z t=>by rw[List.set_append_right _ _ (aj _)];simp
 have hg:∀(x:Cell) (t:AH),(h++x::t)[h.length]? =some x:=λx t=>by simp
 simp_arith[u9,a4B,hs,hg,aA,a3T];simp only[aq,length_cons,length_nil,V0]
end
theorem o5(i:Int)(k:Nat)(hi:i=(k:Nat))(hw:h[w]? =some (.lst xs))(hd:xs[k]? =some d):ixD h (.ref w) (.int i)=.ok d h:=by subst hi;exact E1 hw hd
theorem W9{l:List (Str×D)}{k:Str}(e:h[n]? =some (.dict (kd l)))(hk:k∉l.map (·.1))(hl:l.length<SL):W1 h (.ref n) (.str k) d=.ok () (h.set n (.dict (kd (l++[(k,d)])))):=by simp only[W1,e];rw[ay ⟨a2y _ _,by simpa [kd] using hl⟩,b5z hk]
theorem a8A{l:List ((Str×Str)×D)}{a b:Str}(e:h[n]? =some (.dict (pd l)))(hk:(a,b)∉l.map (·.1))(hl:l.length<SL):W1 h (.ref n) (.tup [.str a,.str b]) d=.ok () (h.set n (.dict (pd (l++[((a,b),d)])))):=by simp only[W1,e];rw[ay ⟨a4V _ _ _,by simpa [pd] using hl⟩,b5y hk]
theorem a7f{b:Str}{v:Int}(hl:b.length<=640)(hv:intText? b=some v):biD .int h [.str b]=.ok (.int v) h:=by simp only[biD,bi1,biL,ay hl,hv]
theorem Q5(k:Nat)(xs:List D):U2 xs (some (k:Int)) none=xs.drop k:=by
 unfold U2 HT.sIx;simp only;rw[az (by omega)];show(xs.drop (min k xs.length)).take (xs.length-min k xs.length)=xs.drop k
 by_cases h:k<=xs.length
 · rw[Nat.min_eq_left h];exact aY ⋯
 · rw[Nat.min_eq_right (by omega),drop_length,List.drop_of_length_le (by omega)];simp
theorem a0j(k l:Nat)(xs:List D)(hk:k<=l)(hl:l<=xs.length):U2 xs (some (k:Int)) (some (l:Int))=(xs.drop k).take (l-k):=by unfold U2 HT.sIx;simp only;rw[az (by omega),az (by omega)];show(xs.drop (min k xs.length)).take (min l xs.length-min k xs.length)=_;rw[Nat.min_eq_left (show k<=xs.length by omega),Nat.min_eq_left hl]
theorem Q0{lo hi:Option Int}(hw:h[w]? =some (.lst xs)):slD h lo hi (.ref w)=.ok (.ref h.length) (h++[.lst (U2 xs lo hi)]):=by
 have:rdL h w=some xs:=by unfold rdL;rw[hw]
 simp only[slD,this,u9]
theorem L4(hw:h[w]? =some (.lst xs)):biD .tuple h [.ref w]=.ok (.tup xs) h:=by
 have:rdL h w=some xs:=by unfold rdL;rw[hw]
 simp only[biD,bi1,biL,hw,this]
variable{x:Str}{wy:Str}
section
variable{ct:CT}{F:Nat->Option Fn}(W:PF F)
include W
theorem a3z{k:Nat}{H:HD}{a b:Str}{v:Int}(A:HallAt h n H)(hw:h[w]? =some (.lst [.str x,.str a,.str b]))(ha:b9 a=true)(en:a.length<=100000)(hb:T9 b=some v):
 b4 ct F (k+3) 17 [.ref n,.ref w] h=match due (decide (a∈H.shapes.map (·.1))) true (decide ((60:Int)<=(H.shapes.length:Int))) with
  |some f=>.ok (.str f) h
  |none=>.ok .non (h.set (n+1) (.dict (kd (H.shapes++[(a,.int v)])))):=by
 obtain⟨hv,hbl,_,_⟩:=a2w hb;have hbn:a1S b=true:=by rw[a2Z,hb];rfl
 rw[i9 W.f17 rfl];simp only[V1];rw[gc0];simp_arith[o0 hw,op2,a1A,eqS,o5 1 1 rfl hw rfl,o5 2 2 rfl hw rfl,E7 W en,K0 W (show b.length<=100000 by omega),ha,hbn,A.fld1,W3 A.c1,a4T A.c1,E3,y0 W,U1,a7f hbl hv,Int.cast_ofNat_Int,eX,fc];cases hd:due (decide (a∈H.shapes.map (·.1))) true (decide ((60:Int)<=(H.shapes.length:Int))) with
 |some f=>simp_arith[Option.isNone_some,T3]
 |none=>
  obtain⟨d1,_,d2⟩:=Z6 hd;have d2:=fw d2;simp_arith[Option.isNone_none,W9 A.c1 (fw d1) (show _<16777216 by omega),T3]
theorem a2k{k:Nat}{H:HD}{a b:Str}(A:HallAt h n H)(hw:h[w]? =some (.lst [.str x,.str a,.str b]))(ha:b9 a=true)(en:a.length<=100000)(hb:b="on"∨b="off"):
 b4 ct F (k+3) 25 [.ref n,.ref w] h=match due (decide (a∈H.features.map (·.1))) true (decide ((10:Int)<=(H.features.length:Int))) with
  |some f=>.ok (.str f) h
  |none=>.ok .non (h.set (n+7) (.dict (kd (H.features++[(a,.bl (decide (b="on")))])))):=by
 have hin:inD (.str b) [.str "on",.str "off"]=true:=by rcases hb with rfl|rfl<;>decide
 rw[i9 W.f25 rfl];simp only[Q4];rw[gc0];simp_arith[o0 hw,op2,a1A,D8,eqS,o5 1 1 rfl hw rfl,o5 2 2 rfl hw rfl,E7 W en,ha,A.fld7,W3 A.c7,a4T A.c7,E3,y0 W,U1,hin,u8,all_cons,all_nil,fY,and_self,bne_self_eq_false,Int.cast_ofNat_Int,eX,fc];cases hd:due (decide (a∈H.features.map (·.1))) true (decide ((10:Int)<=(H.features.length:Int))) with
 |some f=>simp_arith[Option.isNone_some,T3]
 |none=>
  obtain⟨d1,_,d2⟩:=Z6 hd;have d2:=fw d2;simp_arith[Option.isNone_none,op2,D8,eqS,o5 2 2 rfl hw rfl,A.fld7,W9 A.c7 (fw d1) (show _<16777216 by omega),T3]
theorem S8{k:Nat}{H:HD}(A:HallAt h n H)(hw:h[w]? =some (.lst (ws.map .str)))(hl:ws.length<=SL):b4 ct F (k+1) 15 [.ref n,.ref w] h=.ok (.bl (ws.all λx=>decide (x∈H.shapes.map (·.1)))) h:=by
 rw[i9 W.f15 rfl];simp only[V5];simp_arith[];rw[y9 (l:=ws.map D.str) (g:=[(w,.lst (ws.map D.str))]) (h1:=h) ?_ (by simp[gOk,hw]) (λd=>match d with|.str x=>.bl (decide (x∈H.shapes.map (·.1)))|_=>.non) (λd=>[some d,some (.ref n)]) ?_ (by simpa using hl)]
 · have e:(ws.map D.str).map (λd=>match d with|D.str x=>D.bl (decide (x∈H.shapes.map (·.1)))|_=>D.non)=ws.map λx=>D.bl (decide (x∈H.shapes.map (·.1))):=by rw[aG];rfl
   rw[e];simp_arith[a1q];exact gc1 rfl
 · simp_arith[W5,hw]
 · intro x hx;obtain⟨y,hy,rfl⟩:=am.mp hx;refine⟨rfl,?_⟩
   simp_arith[op2,A.fld1,W3 A.c1]
noncomputable def a6c:List (D×D):=[(.str "none",.int 1),(.str "clear",.int 1),(.str "back",.int 2),(.str "both",.int 4)]
theorem a3F{k:Nat}{a j:Str}{d9:List Str}(hw:h[w]? =some (.lst (.str x::.str a::.str j::.str wy::d9.map .str)))(ha:b9 a=true)(en:a.length<=100000)(hj:o7 a6c (.str j)=some (.int d9.length))(hy:inD (.str wy) [.str "left",.str "right",.str "either"]=true)
 (hr:d9.all b9=true) (hrl:∀y∈d9,y.length<=100000) (hrs:d9.length<=100000):b4 ct F (k+4) 21 [.ref w] h=.ok (.bl true) h:=by
 rw[i9 W.f21 rfl];simp only[K2];have e4:∀xs,U2 xs (some 4) none=xs.drop 4:=Q5 4;have hn:b4 ct F (k+3) 9 [.ref h.length] (h++[.lst (d9.map .str)])=.ok (.bl (d9.all b9)) (h++[.lst (d9.map .str)]):=O8 W b6 (by show _<=16777216;omega) hrl;have bL:decide (((d9.length+1+1+1+1:Nat):Int)<4)=false:=bj (by omega);unfold a6c at hj;simp_arith[o0 hw,op2,E3,bL,aa,o5 1 1 rfl hw rfl,o5 2 2 rfl hw rfl,o5 3 3 rfl hw rfl,E7 W en,ha,D9,Option.isSome_some,hj,hy,u8,all_cons,all_nil,fY,and_self,bne_self_eq_false,fc,Q0 hw,e4,drop_succ_cons,drop_zero,o0 b6,o5 2 2 rfl (b5 (g:=[.lst (d9.map .str)]) hw) rfl,D8,eqS,eX,hn,hr];exact gc1 rfl
theorem a2F{k:Nat}{H:HD}{a j:Str}{d9:List Str}(A:HallAt h n H)(hw:h[w]? =some (.lst (.str x::.str a::.str j::.str wy::d9.map .str)))(ha:b9 a=true)(en:a.length<=100000)(hj:o7 a6c (.str j)=some (.int d9.length))(hy:inD (.str wy) [.str "left",.str "right",.str "either"]=true)
 (hr:d9.all b9=true) (hrl:∀y∈d9,y.length<=100000) (hrs:d9.length<=100000):
 b4 ct F (k+5) 22 [.ref n,.ref w] h=match due (decide (a∈H.letters.map (·.1))) (d9.all λx=>decide (x∈H.shapes.map (·.1))) (decide ((24:Int)<=(H.letters.length:Int))) with
  |some f=>.ok (.str f) (h++[.lst (d9.map .str)])
  |none=>.ok .non ((h++[Cell.lst (d9.map .str)]).set (n+4) (.dict (kd (H.letters++[(a,D.tup [.str j,.str wy,.tup (d9.map .str)])])))):=by
 rw[i9 W.f22 rfl];simp only[T0];rw[gc0];have e4:∀xs,U2 xs (some 4) none=xs.drop 4:=Q5 4;have A1:=A.app [.lst (d9.map .str)];have hw1:=b5 (g:=[.lst (d9.map .str)]) hw;have hs:=S8 (ct:=ct) (k:=k+3) W A1 (b6 (h:=h)) (by show _<=16777216;omega)
 simp_arith[a3F W hw ha en hj hy hr hrl hrs,fc,o5 1 1 rfl hw rfl,Q0 hw,e4,drop_succ_cons,drop_zero,op2,A1.fld4,W3 A1.c4,a4T A1.c4,E3,hs,y0 W,U1]
 cases hd:due (decide (a∈H.letters.map (·.1))) (d9.all λx=>decide (x∈H.shapes.map (·.1))) (decide ((24:Int)<=(H.letters.length:Int))) with
 |some f=>simp_arith[Option.isNone_some,T3]
 |none=>
  obtain⟨d1,_,d2⟩:=Z6 hd;have d2:=fw d2;simp_arith[Option.isNone_none,o5 2 2 rfl hw1 rfl,o5 3 3 rfl hw1 rfl,L4 b6,A1.fld4,W9 A1.c4 (fw d1) (show _<16777216 by omega),T3]
theorem a3B{k:Nat}{H:HD}{a:Str}{d9:List Str}(A:HallAt h n H)(hw:h[w]? =some (.lst (.str x::.str a::d9.map .str)))(ha:b9 a=true)(en:a.length<=100000)
 (hr:d9.all b9=true) (hrl:∀y∈d9,y.length<=100000) (hr1:1<=d9.length) (hr2:d9.length<=20):
 b4 ct F (k+5) 24 [.ref n,.ref w] h=match due (decide (a∈H.classes.map (·.1))) (d9.all λx=>decide (x∈H.shapes.map (·.1))) (decide ((20:Int)<=(H.classes.length:Int))) with
  |some f=>.ok (.str f) (h++[.lst (d9.map .str),.lst (.str a::d9.map .str)])
  |none=>.ok .non ((h++[Cell.lst (d9.map .str),Cell.lst (.str a::d9.map .str)]).set (n+6) (.dict (kd (H.classes++[(a,D.tup (d9.map .str))])))):=by
 rw[i9 W.f24 rfl];simp only[V3];rw[gc0];have e1:∀xs,U2 xs (some 1) none=xs.drop 1:=Q5 1;have e2:∀xs,U2 xs (some 2) none=xs.drop 2:=Q5 2;have hw1:=b5 (g:=[.lst (d9.map .str)]) hw;have hw2:=b5 (g:=[.lst (.str a::d9.map .str)]) hw1;have A2:=(A.app [.lst (d9.map .str)]).app [.lst (.str a::d9.map .str)];have hq:(h++[Cell.lst (d9.map .str)]++[.lst (.str a::d9.map .str)])[h.length]? =some (.lst (d9.map .str)):=b5 b6;have hs:=S8 (ct:=ct) (k:=k+3) W A2 hq (by show _<=16777216;omega);have hn:b4 ct F (k+4) 9 [.ref (h++[Cell.lst (d9.map .str)]).length] (h++[Cell.lst (d9.map .str)]++[.lst (.str a::d9.map .str)])=.ok (.bl true) (h++[Cell.lst (d9.map .str)]++[.lst (.str a::d9.map .str)]):=by
  have:=O8 (ct:=ct) (n:=k+1) (ws:=a::d9) W (b6 (h:=h++[Cell.lst (d9.map .str)]) (c:=.lst (.str a::d9.map .str))) (by show _<=16777216;simp;omega) (λy hy=>by
   rcases aE.mp hy with rfl|hy
   · exact en
   · exact hrl y hy)
  rw[all_cons,ha,hr] at this;exact this
 have l1:decide ((1:Int)<=(d9.length:Int))=true:=aW (by omega);have l2:decide ((d9.length:Int)<=20)=true:=aW (by omega)
 simp_arith[Q0 hw,e2,drop_succ_cons,drop_zero,o0 b6,aa,op2,E3,l1,l2,fc,Q0 hw1,e1,hn,o5 1 1 rfl hw2 rfl,A2.fld6,W3 A2.c6,a4T A2.c6,hs,y0 W,U1];rw[show h++[Cell.lst (d9.map D.str),.lst (.str a::d9.map .str)]=h++[Cell.lst (d9.map .str)]++[.lst (.str a::d9.map .str)] by simp]
 cases hd:due (decide (a∈H.classes.map (·.1))) (d9.all λx=>decide (x∈H.shapes.map (·.1))) (decide ((20:Int)<=(H.classes.length:Int))) with
 |some f=>simp_arith[Option.isNone_some,T3]
 |none=>
  obtain⟨d1,_,d2⟩:=Z6 hd;have d2:=fw d2;simp_arith[Option.isNone_none,L4 hq,A2.fld6,W9 A2.c6 (fw d1) (show _<16777216 by omega),T3]
end
theorem u5{l:AH}{i:Nat}:(h++l)[h.length+i]? =l[i]? :=by rw[au (by omega)];congr 1;omega
theorem b2I{l:AH}{i:Nat}{c:Cell}:(h++l).set (h.length+i) c=h++l.set i c:=by rw[List.set_append_right _ _ (by omega)];congr 2;omega
theorem b5p{i:Nat}{c:Cell}(e:h[i]? =some c):h.set i c=h:=by
 refine ext_getElem? λj=>?_
 by_cases hj:i=j
 · subst hj;rw[fb (ae.mp e).1,e]
 · rw[eW hj]
theorem b4z:atI (xs++[d]) (-1)=some d:=by unfold atI ixN;rw[az (by omega),ay (by simp;omega)];simp only[Option.bind_some];rw[show((-1:Int)+((xs++[d]).length:Int)).toNat=xs.length by simp;omega];simp
def G2(x:Str):Bool:=decide (x="/")||decide (x=">")
theorem a6e:a0A false h (.str x) (.tup [.str "/",.str ">"])=.ok (.bl (G2 x)) h:=by
 have e:inD (.str x) [.str "/",.str ">"]=G2 x:=by show((Str.ofString "/"==x)||((Str.ofString ">"==x)||false))=(decide (x="/")||decide (x=">"));rw[Bool.or_false,fR,bf,bf,beq_iff_eq,beq_iff_eq,fP,fP];exact⟨λz=>z.imp Eq.symm Eq.symm,λz=>z.imp Eq.symm Eq.symm⟩
 simp only[a0A,u8,all_cons,all_nil,fY,fk,e];cases G2 x<;>rfl
theorem a2S{l:AH}{i:Nat}(e:l[i]? =some (.lst xs)):rdL (h++l) (h.length+i)=some xs:=by unfold rdL;rw[u5,e]
theorem a0O{l:AH}{i:Nat}(e:l[i]? =some (.lst xs))(hl:xs.length<SL):mtD .append (h++l) (.ref (h.length+i)) [d]=.ok .non (h++l.set i (.lst (xs++[d]))):=by simp only[mtD,u5,e,ay hl,b2I]
theorem a5x{α:Type}(f:α×α->Bool):∀l:List α,(∀x∈l,f (x,x)=true)->(l.zip l).all f=true
 |[],_=>rfl
 |x::r,h=>by rw[List.zip_cons_cons,all_cons,h x (.head _),a5x f r λy hy=>h y (.tail _ hy)];rfl
theorem b2K{x:D}(hf:u8 x=true):∀n,same h n x x=true
 |0=>by rw[same,hf,aW rfl];rfl
 |n+1=>by cases x<;>first|(cases hf;done)|(simp[same,u8])
variable{j:Nat}
theorem a9J{i:Nat}{l:List D}(hi:rdL h i=some l)(hj:rdL h j=some l)(hs:∀x∈l,same h n x x=true):same h (n+1) (.ref i) (.ref j)=true:=by simp only[same,hi,hj];rw[eX,a5x _ l hs];rfl
theorem b6i{l:AH}{i:Nat}(e1:l[i]? =some (.lst xs))(e2:l[j]? =some (.lst xs))(hf:∀x∈xs,u8 x=true):op2 .ne (h++l) (.ref (h.length+i)) (.ref (h.length+j))=.ok (.bl false) (h++l):=by have:b4S (h++l) (.ref (h.length+i)) (.ref (h.length+j))=true:=a9J (a2S e1) (a2S e2) λx hx=>b2K (hf x hx) _;simp only[op2,a1A,eqS,this,fk]
section
variable{ct:CT}{c:CF}{q:Nat}{S:List D}
theorem a2Q:∀(L:List Str) (l:AH) (R P:List D) (e:Option D) (d9:List D),l[1]? =some (.lst (R++[.ref (h.length+q)]))->l[q]? =some (.lst P)->l[3]? =some (.lst S)->q≠1->q≠3->(∀x∈L,G2 x=false)->P.length+L.length<=100000→
 ∃e',G9 [(h.length+3,.lst S)] (.nm 3) (exs ct c rpB) (L.map D.str++d9) [some (.ref w),some (.ref (h.length+1)),some (.ref (h.length+2)),e] (h++l)=
  G9 [(h.length+3,.lst S)] (.nm 3) (exs ct c rpB) d9 [some (.ref w),some (.ref (h.length+1)),some (.ref (h.length+2)),e'] (h++l.set q (.lst (P++L.map D.str)))
 |[],l,R,P,e,d9,h1,h2,h3,q1,q3,_,_=>⟨e,by rw[map_nil,aV,b5p h2,nil_append]⟩
 | x::L,l,R,P,e,d9,h1,h2,h3,q1,q3,hL,hs=>by
  rw[length_cons] at hs;have hx:=hL x aU;obtain⟨e',ih⟩:=a2Q L (l.set q (.lst (P++[.str x]))) R (P++[.str x]) (some (.str x)) d9 (by rw[eW q1];exact h1) (fb (ae.mp h2).1) (by rw[eW q3];exact h3) q1 q3 (λy hy=>hL y (aD _ hy)) (by simp;omega);refine⟨e',?_⟩;have hg:gOk [(h.length+3,Cell.lst S)] (h++l)=true:=by simp[gOk,u5,h3]
  rw[map_cons,cons_append,G9,ay hg];simp only[w6];have hix:ixD (h++l) (.ref (h.length+1)) (.int (-1))=.ok (.ref (h.length+q)) (h++l):=by simp only[ixD,u5,h1,b4z]
  have hmt:mtT .append (h++l) (.ref (h.length+q))=true:=by simp only[mtT,a2S h2,Option.isSome_some]
  have hap:=a0O (h:=h) (d:=D.str x) h2 (show P.length<16777216 by omega);simp only[rpB];simp_arith[op2,a6e,hx,hix,hmt,hap];rw[List.set_set] at ih;rw[aA] at ih;exact ih
theorem a4D(x:Str)(l:AH)(R B:List D)(e:Option D)(d9:List D)(h1:l[1]? =some (.lst R))(h2:l[2]? =some (.lst B))(h3:l[3]? =some (.lst S))(hx:G2 x=true)(hR:R.length<=1000)(hB:B.length<=1000):
 ∃e',G9 [(h.length+3,.lst S)] (.nm 3) (exs ct c rpB) (D.str x::d9) [some (.ref w),some (.ref (h.length+1)),some (.ref (h.length+2)),e] (h++l)=
  G9 [(h.length+3,.lst S)] (.nm 3) (exs ct c rpB) d9 [some (.ref w),some (.ref (h.length+1)),some (.ref (h.length+2)),e'] (h++((l.set 2 (.lst (B++[.str x]))).set 1 (.lst (R++[.ref (h.length+l.length)]))++[.lst []])):=by
 refine⟨some (.str x),?_⟩;have hg:gOk [(h.length+3,Cell.lst S)] (h++l)=true:=by simp[gOk,u5,h3]
 rw[G9,ay hg];simp only[w6];have dY:mtT .append (h++l) (.ref (h.length+2))=true:=by simp only[mtT,a2S h2,Option.isSome_some]
 have ha2:=a0O (h:=h) (d:=D.str x) h2 (show B.length<16777216 by omega);have h1':(l.set 2 (Cell.lst (B++[.str x])))[1]? =some (.lst R):=by rw[eW (by decide)];exact h1
 have hm1:mtT .append (h++l.set 2 (.lst (B++[.str x]))) (.ref (h.length+1))=true:=by simp only[mtT,a2S h1',Option.isSome_some]
 have h1'':(l.set 2 (Cell.lst (B++[.str x]))++[.lst []])[1]? =some (.lst R):=b5 h1';have ha1:mtD .append (h++l.set 2 (.lst (B++[.str x]))++[.lst []]) (.ref (h.length+1)) [.ref (h++l.set 2 (.lst (B++[.str x]))).length]=.ok .non (h++((l.set 2 (.lst (B++[.str x]))).set 1 (.lst (R++[.ref (h.length+l.length)]))++[.lst []])):=by rw[aA,a0O h1'' (show R.length<16777216 by omega)];have hl:1<(l.set 2 (Cell.lst (B++[.str x]))).length:=(ae.mp h1').1;rw[List.set_append_left _ _ hl];simp
 simp only[rpB];simp_arith[op2,a6e,hx,dY,ha2,hm1,u9,ha1]
end
def i6(bA br bD bu:List Str):List Str:=bA++("/":Str)::(br++("/":Str)::(bD++(">":Str)::bu))
noncomputable def a0d(n:Nat)(bA br bD bu:List Str):AH:=[.lst (bA.map .str),.lst [.ref n,.ref (n+4),.ref (n+5),.ref (n+6)],.lst [.str "/",.str "/",.str ">"],.lst ((i6 bA br bD bu).map .str),.lst (br.map .str),.lst (bD.map .str),.lst (bu.map .str),.lst [.str "/",.str "/",.str ">"]]
variable{bA:List Str}{br:List Str}{bD:List Str}{bu:List Str}
section
variable{ct:CT}{F:Nat->Option Fn}(W:PF F)
include W
theorem a0r{k:Nat}{t f:Str}(hw:h[w]? =some (.lst (.str x::.str t::.str f::(i6 bA br bD bu).map .str)))
 (pl:∀y∈bA++br++bD++bu,G2 y=false) (hl:(bA++br++bD++bu).length<=1000):b4 ct F (k+1) 28 [.ref w] h=.ok (.ref (h.length+1)) (h++a0d h.length bA br bD bu):=by
 rw[i9 W.f28 rfl];have hf:V4=⟨1,4,0,(.cons (.set 1 (.lst (.o (.lst .nil)))) (.cons (.set 2 (.lst .nil)) (.cons (.for (.nm 3) (.seq (.sl (.v 0) (.at (.i 3)) .no)) rpB) (.cons (.iff (.cmp .ne (.v 2) (.lst (.cons (.s "/") (.cons (.s "/") (.o (.s ">")))))) (.o (.ret (.k .non))) .nil) (.o (.ret (.v 1)))))))⟩:=rfl;simp only[hf];rw[gc0];have e3:∀xs,U2 xs (some 3) none=xs.drop 3:=Q5 3;have hw':=b5 (g:=[Cell.lst [],.lst [.ref h.length],.lst []]) hw;simp only[aq] at hl;have m1:∀y∈bA,G2 y=false:=λy hy=>pl y (by simp[hy]);have m2:∀y∈br,G2 y=false:=λy hy=>pl y (by simp[hy]);have m3:∀y∈bD,G2 y=false:=λy hy=>pl y (by simp[hy]);have m4:∀y∈bu,G2 y=false:=λy hy=>pl y (by simp[hy]);have ps:G2 "/"=true:=by decide
 have pg:G2 ">"=true:=by decide
 obtain⟨e1,s1⟩:=a2Q (c:=b4 ct F k) (h:=h) (w:=w) (q:=0) (S:=(i6 bA br bD bu).map D.str) bA [.lst [],.lst [.ref h.length],.lst [],.lst ((i6 bA br bD bu).map D.str)] [] [] none ((("/":Str)::(br++("/":Str)::(bD++(">":Str)::bu))).map D.str) rfl rfl rfl (by decide) (by decide) m1 (by simp;omega);obtain⟨e2,s2⟩:=a4D (c:=b4 ct F k) (h:=h) (w:=w) (S:=(i6 bA br bD bu).map D.str) "/" [.lst (bA.map .str),.lst [.ref h.length],.lst [],.lst ((i6 bA br bD bu).map D.str)] [.ref h.length] [] e1 ((br++("/":Str)::(bD++(">":Str)::bu)).map D.str) rfl rfl rfl ps ⋯ ⋯;obtain⟨e3',s3⟩:=a2Q (c:=b4 ct F k) (h:=h) (w:=w) (q:=4) (S:=(i6 bA br bD bu).map D.str) br [.lst (bA.map .str),.lst [.ref h.length,.ref (h.length+4)],.lst [.str "/"],.lst ((i6 bA br bD bu).map D.str),.lst []] [.ref h.length] [] e2 ((("/":Str)::(bD++(">":Str)::bu)).map D.str) rfl rfl rfl (by decide) (by decide) m2 (by simp;omega);obtain⟨e4,s4⟩:=a4D (c:=b4 ct F k) (h:=h) (w:=w) (S:=(i6 bA br bD bu).map D.str) "/" [.lst (bA.map .str),.lst [.ref h.length,.ref (h.length+4)],.lst [.str "/"],.lst ((i6 bA br bD bu).map D.str),.lst (br.map .str)] [.ref h.length,.ref (h.length+4)] [.str "/"] e3' ((bD++(">":Str)::bu).map D.str) rfl rfl rfl ps ⋯ ⋯;obtain⟨e5,s5⟩:=a2Q (c:=b4 ct F k) (h:=h) (w:=w) (q:=5) (S:=(i6 bA br bD bu).map D.str) bD [.lst (bA.map .str),.lst [.ref h.length,.ref (h.length+4),.ref (h.length+5)],.lst [.str "/",.str "/"],.lst ((i6 bA br bD bu).map D.str),.lst (br.map .str),.lst []] [.ref h.length,.ref (h.length+4)] [] e4 (((">":Str)::bu).map D.str) rfl rfl rfl (by decide) (by decide) m3 (by simp;omega);obtain⟨e6,s6⟩:=a4D (c:=b4 ct F k) (h:=h) (w:=w) (S:=(i6 bA br bD bu).map D.str) ">" [.lst (bA.map .str),.lst [.ref h.length,.ref (h.length+4),.ref (h.length+5)],.lst [.str "/",.str "/"],.lst ((i6 bA br bD bu).map D.str),.lst (br.map .str),.lst (bD.map .str)] [.ref h.length,.ref (h.length+4),.ref (h.length+5)] [.str "/",.str "/"] e5 (bu.map D.str) rfl rfl rfl pg ⋯ ⋯;obtain⟨e7,s7⟩:=a2Q (c:=b4 ct F k) (h:=h) (w:=w) (q:=6) (S:=(i6 bA br bD bu).map D.str) bu [.lst (bA.map .str),.lst [.ref h.length,.ref (h.length+4),.ref (h.length+5),.ref (h.length+6)],.lst [.str "/",.str "/",.str ">"],.lst ((i6 bA br bD bu).map D.str),.lst (br.map .str),.lst (bD.map .str),.lst []] [.ref h.length,.ref (h.length+4),.ref (h.length+5)] [] e6 [] rfl rfl rfl (by decide) (by decide) m4 (by simp;omega);have sx:(i6 bA br bD bu).map D.str=bA.map D.str++(("/":Str)::(br++("/":Str)::(bD++(">":Str)::bu))).map D.str:=by unfold i6;rw[ao]
 have all:G9 [(h.length+3,.lst ((i6 bA br bD bu).map D.str))] (.nm 3) (exs ct (b4 ct F k) rpB) ((i6 bA br bD bu).map D.str) [some (.ref w),some (.ref (h.length+1)),some (.ref (h.length+2)),none] (h++[.lst [],.lst [.ref h.length],.lst [],.lst ((i6 bA br bD bu).map D.str)])=
  .ok (.nx [some (.ref w),some (.ref (h.length+1)),some (.ref (h.length+2)),e7]) (h++[.lst (bA.map .str),.lst [.ref h.length,.ref (h.length+4),.ref (h.length+5),.ref (h.length+6)],.lst [.str "/",.str "/",.str ">"],.lst ((i6 bA br bD bu).map D.str),.lst (br.map .str),.lst (bD.map .str),.lst (bu.map .str)]):=by
  rw[←sx] at s1;refine s1.trans ?_;refine s2.trans ?_;rw[ao];refine s3.trans ?_;refine s4.trans ?_;rw[ao];refine s5.trans ?_;refine s6.trans ?_;rw[aV] at s7;refine s7.trans ?_;rw[G9,ay (by simp[gOk,u5])];rfl
 simp_arith[u9,aA,Q0 hw',e3,drop_succ_cons,drop_zero,W5,aq,u5,all]
 have ej:op2 .ne (h++[Cell.lst (bA.map D.str),.lst [.ref h.length,.ref (h.length+4),.ref (h.length+5),.ref (h.length+6)],.lst [.str "/",.str "/",.str ">"],.lst ((i6 bA br bD bu).map D.str),.lst (br.map .str),.lst (bD.map .str),.lst (bu.map .str),.lst [.str "/",.str "/",.str ">"]]) (.ref (h.length+2)) (.ref (h.length+7))=
  .ok (.bl false) (h++[Cell.lst (bA.map D.str),.lst [.ref h.length,.ref (h.length+4),.ref (h.length+5),.ref (h.length+6)],.lst [.str "/",.str "/",.str ">"],.lst ((i6 bA br bD bu).map D.str),.lst (br.map .str),.lst (bD.map .str),.lst (bu.map .str),.lst [.str "/",.str "/",.str ">"]]):=by
  exact b6i rfl rfl (by decide)
 simp_arith[ej];rfl
end
def L9(z:Str):Bool:=decide ((cd z).head? =some 64)&&b9 (tl z)
def S7(z:Str):Bool:=b9 z||L9 z
noncomputable def K8(H:HD)(z:Str):Bool:=if L9 z then decide (tl z∈H.classes.map (·.1)) else decide (z∈H.shapes.map (·.1))
theorem a6h{c:Nat}(h:(cd z).head? =some c):1<=z.length:=by
 rw[←n9];cases hq:cd z with
 |nil=>rw[hq] at h;cases h
 |cons c r=>simp
theorem b7X(z:Str):(tl z).length<=z.length:=by rw[←n9,←n9,a4l,bm];omega
section
variable{ct:CT}{F:Nat->Option Fn}(W:PF F)
include W
theorem a2g(h1:1<=z.length)(hz:z.length<=100000):b4 ct F (n+1) 6 [.str z] h=.ok (.str (tl z)) h:=by
 rw[i9 W.f6 rfl];simp only[N7];have hl:z.length<=SL:=by show _<=16777216;omega
 have ha:(Str.ofString "@").length=1:=by decide
 simp_arith[biD,bi1,biL,ha,slD,ay hl,Int.cast_ofNat_Int];rw[a5F z h1];exact A9 rfl
theorem a1W(hz:z.length<=100000):b4 ct F (n+3) 7 [.str z] h=.ok (.bl (L9 z)) h:=by
 rw[i9 W.f7 rfl];simp only[N4];have dN:Txt.startswith z "@"=decide ((cd z).head? =some 64):=a2I;unfold L9
 by_cases h1:(cd z).head? =some 64
 · have hl1:=a6h h1;have ht:(tl z).length<=100000:=aO (b7X z) hz
   simp_arith[mtT,mtD,dN,h1,eX,a2g W hl1 hz,E7 W ht,fM];exact A9 rfl
 · simp_arith[mtT,mtD,dN,h1,eZ,fN];exact A9 rfl
theorem a7d(hz:z.length<=100000):b4 ct F (n+4) 8 [.str z] h=.ok (.bl (S7 z)) h:=by
 rw[i9 W.f8 rfl];simp only[a1I];unfold S7;simp_arith[E7 W hz,a1W W hz];cases b9 z with
 |true=>simp_arith[Bool.true_or];exact A9 rfl
 |false=>simp_arith[Bool.false_or];exact A9 rfl
theorem a5v(hw:h[w]? =some (.lst (ws.map D.str)))(hl:ws.length<=SL)(hs:∀x∈ws,x.length<=100000):b4 ct F (n+5) 11 [.ref w] h=.ok (.bl (ws.all S7)) h:=
 a1O (n:=n+4) W W.f11 rfl hw hl λx hx=>a7d W (hs x hx)
theorem a6j{k:Nat}{H:HD}(A:HallAt h n H)(hz:z.length<=100000):b4 ct F (k+4) 30 [.ref n,.str z] h=.ok (.bl (K8 H z)) h:=by
 rw[i9 W.f30 rfl];simp only[a0J];unfold K8;simp_arith[a1W W hz];cases hc:L9 z with
 | true=>
  have hl1:1<=z.length:=by unfold L9 at hc;rw[af] at hc;exact a6h (aw hc.1)
  simp_arith[a2g W hl1 hz,A.fld6,op2,W3 A.c6];exact A9 rfl
 |false=>
  simp_arith[A.fld1,op2,W3 A.c1];exact A9 rfl
theorem a5f{k:Nat}{H:HD}(A:HallAt h n H)(hw:h[w]? =some (.lst (ws.map .str)))(hl:ws.length<=SL)(hs:∀x∈ws,x.length<=100000):b4 ct F (k+5) 29 [.ref n,.ref w] h=.ok (.bl (ws.all (K8 H))) h:=by
 rw[i9 W.f29 rfl];simp only[Y9];simp_arith[];rw[y9 (l:=ws.map D.str) (g:=[(w,.lst (ws.map D.str))]) (h1:=h) ?_ (by simp[gOk,hw]) (λd=>match d with|.str x=>.bl (K8 H x)|_=>.non) (λd=>[some d,some (.ref n)]) ?_ (by simpa using hl)]
 · have e:(ws.map D.str).map (λd=>match d with|D.str x=>D.bl (K8 H x)|_=>D.non)=ws.map λx=>D.bl (K8 H x):=by rw[aG];rfl
   rw[e];simp_arith[a1q];exact gc1 rfl
 · simp_arith[W5,hw]
 · intro x hx;obtain⟨y,hy,rfl⟩:=am.mp hx;refine⟨rfl,?_⟩
   simp_arith[a6j W A (hs y hy)]
theorem a6i{k:Nat}{H:HD}{t:Str}(A:HallAt h n H)(hl:H.rules.length<=100000):b4 ct F (k+1) 31 [.ref n,.str t] h=.ok (.bl (decide (t∈H.rules.map (·.1)))) h:=by
 rw[i9 W.f31 rfl];simp only[a0I];simp_arith[];rw[y9 (l:=rd H.rules) (g:=[(n+8,.lst (rd H.rules))]) (h1:=h) ?_ (by simp[gOk,A.c8]) (λd=>match d with|.tup (.str x::_)=>.bl (decide (x=t))|_=>.non) (λd=>[some d,some (.str t)]) ?_ (by simp[rd];show _<=16777216;omega)]
 · have e:(rd H.rules).map (λd=>match d with|D.tup (D.str x::_)=>D.bl (decide (x=t))|_=>D.non)=H.rules.map λr=>D.bl (decide (r.1=t)):=by unfold rd;rw[aG];rfl
   rw[e];simp_arith[b4A];have e2:(H.rules.any λr=>decide (r.1=t))=decide (t∈H.rules.map (·.1)):=by rw[fR,bc,fP,am];exact⟨λ⟨r,h1,h2⟩=>⟨r,h1,aw h2⟩,λ⟨r,h1,h2⟩=>⟨r,h1,aW h2⟩⟩
   rw[e2];exact gc1 rfl
 · simp_arith[A.fld8,W5,A.c8]
 · intro x hx;unfold rd at hx;obtain⟨y,hy,rfl⟩:=am.mp hx;refine⟨rfl,?_⟩;have:atI (D.str y.1::y.2) 0=some (D.str y.1):=by simp[atI,ixN]
   simp_arith[ixD,this,op2,D8,eqS]
end
theorem a6l{l:AH}:(h++l)[h.length]? =l[0]? :=u5 (i:=0)
structure RP(g:AH)(n:Nat)(bA br bD bu:List Str):Prop where
 l:g[n+1]? =some (.lst [.ref n,.ref (n+4),.ref (n+5),.ref (n+6)])
 p0:g[n]? =some (.lst (bA.map .str))
 p1:g[n+4]? =some (.lst (br.map .str))
 p2:g[n+5]? =some (.lst (bD.map .str))
 p3:g[n+6]? =some (.lst (bu.map .str))
theorem RP.mk':RP (h++a0d h.length bA br bD bu) h.length bA br bD bu:=
 ⟨u5,a6l,u5,u5,u5⟩
theorem RP.app(r:RP g n bA br bD bu)(t:AH):RP (g++t) n bA br bD bu:=⟨b5 r.l,b5 r.p0,b5 r.p1,b5 r.p2,b5 r.p3⟩
theorem RP.i0(r:RP g n bA br bD bu):ixD g (.ref (n+1)) (.int 0)=.ok (.ref n) g:=o5 0 0 rfl r.l rfl
theorem RP.i1(r:RP g n bA br bD bu):ixD g (.ref (n+1)) (.int 1)=.ok (.ref (n+4)) g:=o5 1 1 rfl r.l rfl
theorem RP.i2(r:RP g n bA br bD bu):ixD g (.ref (n+1)) (.int 2)=.ok (.ref (n+5)) g:=o5 2 2 rfl r.l rfl
theorem RP.i3(r:RP g n bA br bD bu):ixD g (.ref (n+1)) (.int 3)=.ok (.ref (n+6)) g:=o5 3 3 rfl r.l rfl
variable{b:Nat}
theorem a1r{a:Nat}{ys:List D}(h1:g[a]? =some (.lst xs))(h2:g[b]? =some (.lst ys))(hl:xs.length+ys.length<=100000):W2 g (.ref a) (.ref b)=.ok (.ref g.length) (g++[.lst (xs++ys)]):=by simp only[W2,h1,h2];rw[ay (by show _<=16777216;omega)];rfl
theorem c1j{b x:Bool}:(if b=true then R.ok (D.bl x) h else R.ok (D.bl false) h)=.ok (.bl (b&&x)) h:=by cases b<;>rfl
theorem b7t:(true !=false)=true:=rfl
structure RuleForm(t f:Str)(bA br bD bu:List Str):Prop where
 ht:b9 t=true
 hf:b9 f=true
 b:bA.length<=3
 c1:1<=br.length
 c2:br.length<=4
 a:bD.length<=3
 o1:1<=bu.length
 o2:bu.length<=3
 it:(bA++br++bD).all S7=true
 to:bu.all b9=true
 len:∀y∈t::f::(bA++br++bD++bu),y.length<=100000
theorem a7J{y:Str}(h:S7 y=true):G2 y=false:=by
 cases hp:G2 y with
 |false=>rfl
 |true=>
  unfold G2 at hp;rw[bf] at hp;rcases hp with e|e
  · have e:=aw e;subst e;revert h;decide
  · have e:=aw e;subst e;revert h;decide
theorem RuleForm.pl{t f:Str}(r:RuleForm t f bA br bD bu):∀y∈bA++br++bD++bu,G2 y=false:=λy hy=>by
 rcases aI.mp hy with hy|hy
 · exact a7J (ba.mp r.it y hy)
 · exact a7J (by unfold S7;rw[ba.mp r.to y hy];rfl)
theorem RuleForm.sz{t f:Str}(r:RuleForm t f bA br bD bu):(bA++br++bD++bu).length<=1000:=by have:=r.b;have:=r.c2;have:=r.a;have:=r.o2;simp only[aq];omega
variable{sd:Str}
section
variable{ct:CT}{F:Nat->Option Fn}(W:PF F)
include W
theorem a1E{k:Nat}{t f:Str}(hw:h[w]? =some (.lst (.str x::.str t::.str f::(i6 bA br bD bu).map .str)))(r:RuleForm t f bA br bD bu):b4 ct F (k+6) 27 [.ref w] h=.ok (.bl true) h:=by
 rw[i9 W.f27 rfl];simp only[N6];have e13:U2 (.str x::.str t::.str f::(i6 bA br bD bu).map .str) (some 1) (some 3)=[.str t,.str f]:=by have:=a0j 1 3 (.str x::.str t::.str f::(i6 bA br bD bu).map .str) (by decide) ⋯;exact this
 have hw1:=b5 (g:=[Cell.lst [.str t,.str f]]) hw;have hn:b4 ct F (k+5) 9 [.ref h.length] (h++[.lst [.str t,.str f]])=.ok (.bl true) (h++[.lst [.str t,.str f]]):=by
  have:=O8 (ct:=ct) (n:=k+2) (ws:=[t,f]) W (b6 (h:=h) (c:=.lst [.str t,.str f])) (by show 2<=16777216;decide) (λy hy=>r.len y (by
   rcases aE.mp hy with rfl|hy
   · simp
   · rw[aM] at hy;subst hy;simp))
  simpa [r.ht,r.hf] using this
 have hp:=a0r (ct:=ct) (k:=k+4) W hw1 r.pl r.sz;have R:=RP.mk' (h:=h++[Cell.lst [.str t,.str f]]) (bA:=bA) (br:=br) (bD:=bD) (bu:=bu);generalize hn1:(h++[Cell.lst [.str t,.str f]]).length=n at hp R;generalize hg:h++[Cell.lst [.str t,.str f]]++a0d n bA br bD bu=g at hp R;have R1:=R.app [.lst (bA.map D.str++br.map D.str)];have R2:=R1.app [.lst (bA.map D.str++br.map D.str++bD.map D.str)];have lb:=r.b;have lc1:=r.c1;have lc2:=r.c2;have la:=r.a;have lo1:=r.o1;have lo2:=r.o2;have a1:=a1r R.p0 R.p1 (by simp;omega);have a2:=a1r (b6 (h:=g) (c:=.lst (bA.map D.str++br.map D.str))) R1.p2 (by simp;omega);have hi:b4 ct F (k+5) 11 [.ref (g++[Cell.lst (bA.map D.str++br.map D.str)]).length] (g++[.lst (bA.map D.str++br.map D.str)]++[.lst (bA.map D.str++br.map D.str++bD.map D.str)])=.ok (.bl true) (g++[.lst (bA.map D.str++br.map D.str)]++[.lst (bA.map D.str++br.map D.str++bD.map D.str)]):=by have:=a5v (ct:=ct) (n:=k) (ws:=bA++br++bD) W (h:=g++[.lst (bA.map D.str++br.map D.str)]++[.lst (bA.map D.str++br.map D.str++bD.map D.str)]) (w:=(g++[Cell.lst (bA.map D.str++br.map D.str)]).length) (by rw[b6];simp) (by show _<=16777216;simp;omega) (λy hy=>r.len y (aD _ (aD _ (mem_append_left _ hy))));rw[r.it] at this;exact this
 have ht:b4 ct F (k+5) 9 [.ref (n+6)] (g++[.lst (bA.map D.str++br.map D.str)]++[.lst (bA.map D.str++br.map D.str++bD.map D.str)])=.ok (.bl true) (g++[.lst (bA.map D.str++br.map D.str)]++[.lst (bA.map D.str++br.map D.str++bD.map D.str)]):=by have:=O8 (ct:=ct) (n:=k+2) (ws:=bu) W R2.p3 (by show _<=16777216;omega) (λy hy=>r.len y (by simp[hy]));rw[r.to] at this;exact this
 have d1:decide ((3:Int)<(bA.length:Int))=false:=bj (by omega);have d2:decide ((3:Int)<(bD.length:Int))=false:=bj (by omega);have d3:decide ((1:Int)<=(br.length:Int))=true:=aW (by omega);have d4:decide ((br.length:Int)<=4)=true:=aW (by omega);have d5:decide ((1:Int)<=(bu.length:Int))=true:=aW (by omega);have d6:decide ((bu.length:Int)<=3)=true:=aW (by omega);have nn:∀m:Nat,decide (D.ref m=D.non)=false:=λm=>bj (λz=>nomatch z)
 simp_arith[Q0 hw,e13,hn,fc,hp,nn,R.i0,R.i1,R.i2,R.i3,o0 R.p0,o0 R.p1,o0 R.p2,o0 R.p3,aa,op2,E3,d1,d2,d3,d4,d5,d6,a1,a2,R1.i2,R2.i3,hi,ht];rw[←hg];simp only[aA];exact gc1 rfl
theorem a4u{k:Nat}{H:HD}{t f:Str}(A:HallAt h n H)(hr:H.rules.length<=100000)(hw:h[w]? =some (.lst (.str x::.str t::.str f::(i6 bA br bD bu).map .str)))(r:RuleForm t f bA br bD bu):
 ∃h',b4 ct F (k+7) 26 [.ref n,.ref w] h=.ok (T3 (due (decide (t∈H.rules.map (·.1))) (decide (f∈H.features.map (·.1))&&((bA++br++bD).all (K8 H)&&bu.all λx=>decide (x∈H.shapes.map (·.1)))) (decide ((30:Int)<=(H.rules.length:Int))))) h'/\Fr n h h'∧
  HallAt h' n (if(due (decide (t∈H.rules.map (·.1))) (decide (f∈H.features.map (·.1))&&((bA++br++bD).all (K8 H)&&bu.all λx=>decide (x∈H.shapes.map (·.1)))) (decide ((30:Int)<=(H.rules.length:Int)))).isNone then{H with rules:=H.rules++[(t,[.str f,.tup (bA.map .str),.tup (br.map .str),.tup (bD.map .str),.tup (bu.map .str)])]} else H):=by
 rw[i9 W.f26 rfl];simp only[Y5];rw[gc0];have hp:=a0r (ct:=ct) (k:=k+5) W hw r.pl r.sz;have R:=RP.mk' (h:=h) (bA:=bA) (br:=br) (bD:=bD) (bu:=bu);have A0:=A.app (a0d h.length bA br bD bu);have fr0:=Fr.app n h (a0d h.length bA br bD bu);generalize h.length=m at hp R A0 fr0;generalize h++a0d m bA br bD bu=g at hp R A0 fr0;have R1:=R.app [.lst (bA.map D.str++br.map D.str)];have R2:=R1.app [.lst (bA.map D.str++br.map D.str++bD.map D.str)];have A2:=(A0.app [.lst (bA.map D.str++br.map D.str)]).app [.lst (bA.map D.str++br.map D.str++bD.map D.str)];have lb:=r.b;have lc2:=r.c2;have la:=r.a;have lo2:=r.o2;have a1:=a1r R.p0 R.p1 (by simp;omega);have a2:=a1r (b6 (h:=g) (c:=.lst (bA.map D.str++br.map D.str))) R1.p2 (by simp;omega);have hi:=a5f (ct:=ct) (k:=k+1) (ws:=bA++br++bD) W A2 (w:=(g++[Cell.lst (bA.map D.str++br.map D.str)]).length) (by rw[b6];simp) (by show _<=16777216;simp;omega) (λy hy=>r.len y (aD _ (aD _ (mem_append_left _ hy))));have hs:=S8 (ct:=ct) (k:=k+5) W A2 R2.p3 (by show _<=16777216;omega);have hq:=a6i (ct:=ct) (k:=k+5) (t:=t) W A2 hr;have fr2:Fr n h (g++[.lst (bA.map D.str++br.map D.str)]++[.lst (bA.map D.str++br.map D.str++bD.map D.str)]):=fr0.trans ((Fr.app n g _).trans (Fr.app n _ _));have lr:biD .len (g++[.lst (bA.map D.str++br.map D.str)]++[.lst (bA.map D.str++br.map D.str++bD.map D.str)]) [.ref (n+8)]=.ok (.int H.rules.length) (g++[.lst (bA.map D.str++br.map D.str)]++[.lst (bA.map D.str++br.map D.str++bD.map D.str)]):=by rw[o0 A2.c8];simp[rd]
 generalize hG:g++[Cell.lst (bA.map D.str++br.map D.str)]++[.lst (bA.map D.str++br.map D.str++bD.map D.str)]=G at a2 hi hs hq lr A2 R2 fr2;have hmt:mtT .append G (.ref (n+8))=true:=by
  have:rdL G (n+8)=some (rd H.rules):=by unfold rdL;rw[A2.c8]
  simp only[mtT,this,Option.isSome_some]
 have hap:∀d,mtD .append G (.ref (n+8)) [d]=.ok .non (G.set (n+8) (.lst (rd H.rules++[d]))):=λd=>by simp only[mtD,A2.c8];rw[ay (by show(rd H.rules).length<16777216;simp[rd];omega)]
 simp_arith[a1E W hw r,fc,o5 1 1 rfl hw rfl,o5 2 2 rfl hw rfl,hp,R.i0,R.i1,op2,a1,R1.i2,a2,A2.fld7,W3 A2.c7,hi,R2.i3,hs,c1j,hq,A2.fld8,lr,E3,y0 W,U1];generalize hd:due (decide (t∈H.rules.map (·.1))) (decide (f∈H.features.map (·.1))&&((bA++br++bD).all (K8 H)&&bu.all λx=>decide (x∈H.shapes.map (·.1)))) (decide ((30:Int)<=(H.rules.length:Int)))=du
 cases du with
 |some f=>
  simp_arith[Option.isNone_some,T3];exact⟨G,rfl,fr2,A2⟩
 |none=>
  simp_arith[Option.isNone_none,A2.fld8,hmt,R2.i0,R2.i1,R2.i2,R2.i3,L4 R2.p0,L4 R2.p1,L4 R2.p2,L4 R2.p3,hap,T3];refine⟨_,rfl,fr2.trans (Fr.set (by omega) (by omega)),?_⟩
  have:=A2.s8 (H.rules++[(t,[.str f,.tup (bA.map .str),.tup (br.map .str),.tup (bD.map .str),.tup (bu.map .str)])]);rw[show rd (H.rules++[(t,[.str f,.tup (bA.map .str),.tup (br.map .str),.tup (bD.map .str),.tup (bu.map .str)])])=rd H.rules++[.tup (.str t::[.str f,.tup (bA.map .str),.tup (br.map .str),.tup (bD.map .str),.tup (bu.map .str)])] by simp[rd]] at this;exact this
theorem a4K{k:Nat}{a b:Str}{i j:Int}(hw:h[w]? =some (.lst [.str a,.str b]))(ha:a0q a=some i)(hb:a0q b=some j):b4 ct F (k+1) 16 [.ref w] h=.ok (.tup [.int i,.int j]) h:=by obtain⟨a1,a2⟩:=a2s ha;obtain⟨b1,b2⟩:=a2s hb;rw[i9 W.f16 rfl];simp only[a1F];simp_arith[o5 0 0 rfl hw rfl,o5 1 1 rfl hw rfl,a7f a2 a1,a7f b2 b1];exact A9 rfl
theorem a0V{k:Nat}{a:Str}{c:Int}(hw:h[w]? =some (.lst (.str x::.str a::.str sd::ws.map .str)))(ha:b9 a=true)(en:a.length<=100000)(hs:inD (.str sd) [.str "above",.str "below"]=true)(hc:c=ws.length)(hn:ws.all a3Q=true)(hwl:∀y∈ws,y.length<=100000)(hl:ws.length<=100000):b4 ct F (k+5) 18 [.ref w,.int c] h=.ok (.bl true) h:=by
 subst hc;rw[i9 W.f18 rfl];simp only[N5];have e3:∀xs,U2 xs (some 3) none=xs.drop 3:=Q5 3;have hg:=a3G (ct:=ct) (n:=k) (ws:=ws) W (b6 (h:=h) (c:=.lst (ws.map .str))) (by show _<=16777216;omega) hwl;rw[hn] at hg;have hd:decide (((ws.length+1+1+1:Nat):Int)=3+(ws.length:Int))=true:=aW (by omega)
 simp_arith[o0 hw,aa,op2,W2,a1A,eqS,hd,fc,o5 1 1 rfl hw rfl,o5 2 2 rfl hw rfl,E7 W en,ha,hs,u8,all_cons,all_nil,fY,and_self,b7t,Q0 hw,e3,drop_succ_cons,drop_zero,hg];exact gc1 rfl
theorem a3A{k:Nat}{H:HD}{a b c:Str}{i j:Int}(A:HallAt h n H)(hw:h[w]? =some (.lst [.str x,.str a,.str sd,.str b,.str c]))(ha:b9 a=true)(en:a.length<=100000)(hs:inD (.str sd) [.str "above",.str "below"]=true)(hb:a0q b=some i)(hc:a0q c=some j)(hl:H.points.length<=100000):
 ∃h',b4 ct F (k+6) 20 [.ref n,.ref w] h=.ok (T3 (due (decide ((a,sd)∈H.points.map (·.1))) (decide (a∈H.shapes.map (·.1))) false)) h'/\Fr n h h'∧
  HallAt h' n (if(due (decide ((a,sd)∈H.points.map (·.1))) (decide (a∈H.shapes.map (·.1))) false).isNone then{H with points:=H.points++[((a,sd),.tup [.int i,.int j])]} else H):=by
 obtain⟨_,b2⟩:=a2s hb;obtain⟨_,c2⟩:=a2s hc;have hf:b4 ct F (k+5) 18 [.ref w,.int 2] h=.ok (.bl true) h:=a0V (ws:=[b,c]) W hw ha en hs rfl (by simp[a5G,hb,hc]) (λy hy=>by
  rcases aE.mp hy with rfl|hy
  · omega
  · rw[aM] at hy;subst hy;omega) ⋯
 rw[i9 W.f20 rfl];simp only[V2];rw[gc0];simp_arith[hf,fc,o5 1 1 rfl hw rfl,o5 2 2 rfl hw rfl,op2,A.fld3,b8Y A.c3,A.fld1,W3 A.c1,y0 W,U1];generalize hd:due (decide ((a,sd)∈H.points.map (·.1))) (decide (a∈H.shapes.map (·.1))) false=du;cases du with
 |some f=>
  simp_arith[Option.isNone_some,T3];exact⟨h,rfl,Fr.refl n h,A⟩
 |none=>
  obtain⟨d1,_,_⟩:=Z6 hd;have e35:U2 [.str x,.str a,.str sd,.str b,.str c] (some 3) (some 5)=[.str b,.str c]:=a0j 3 5 _ (by decide) ⋯;have A1:=A.app [.lst [.str b,.str c]];simp_arith[Option.isNone_none,Q0 hw,e35,a4K W (b6 (h:=h)) hb hc,A1.fld3,a8A A1.c3 (fw d1) (show _<16777216 by omega),T3];exact⟨_,rfl,(Fr.app n h _).trans (Fr.set (by omega) (by omega)),A1.s3 _⟩
end
variable{text:Str}
section
variable{ct:CT}{F:Nat->Option Fn}
def W4(ct:CT)(F:Nat->Option Fn)(d:Nat)(H:HD)(ws:List Str)(du:Option Str)(H':HD):Prop:=∀(h:AH) (n w:Nat),HallAt h n H->h[w]? =some (.lst (ws.map .str))->∃h',b4 ct F d 13 [.ref n,.ref w] h=.ok (T3 du) h'/\Fr n h h'/\HallAt h' n H'
inductive Reads(ct:CT)(F:Nat->Option Fn)(d:Nat):HD->List Str->HD->Prop
 |nil (H:HD):Reads ct F d H [] H
 |take {H H1 H':HD} {row:Str} {d9:List Str} (hl:row.length<=100000) (hw:E2 row≠[]) (k:W4 ct F d H (E2 row) none H1) (t:Reads ct F d H1 d9 H'):Reads ct F d H (row::d9) H'
 |skip {H H':HD} {row:Str} {d9:List Str} (hl:row.length<=100000) (hw:E2 row=[]) (t:Reads ct F d H d9 H'):Reads ct F d H (row::d9) H'
variable(W:PF F)
include W
theorem b3y{d:Nat}{R:List Str}{H H':HD}{rows:List Str}(q:Reads ct F (d+1) H rows H'):∀(p:Nat) (h:AH) (e2 e3 e4 e5:Option D),HallAt h n H->h[n+9]? =some (.lst (R.map .str))→
 ∃h',Fr n h h'/\HallAt h' n H'/\∃a2 a3 a4 a5,G9 [(n+9,.lst (R.map .str))] (.tp (.cons (.nm 2) (.cons (.nm 3) .nil))) (exs ct (b4 ct F (d+1)) rhB) (z8 p (rows.map D.str)) [some (.str text),some (.ref n),e2,e3,e4,e5] h=.ok (.nx [some (.str text),some (.ref n),a2,a3,a4,a5]) h':=by
 have step:∀{h:AH} {e2 e3 e4 e5:Option D} {row:Str} {d9:List D} {p:Nat},h[n+9]? =some (.lst (R.map .str))→
  G9 [(n+9,.lst (R.map .str))] (.tp (.cons (.nm 2) (.cons (.nm 3) .nil))) (exs ct (b4 ct F (d+1)) rhB) (.tup [.int p,.str row]::d9) [some (.str text),some (.ref n),e2,e3,e4,e5] h=
  (exs ct (b4 ct F (d+1)) rhB [some (.str text),some (.ref n),some (.int p),some (.str row),e4,e5] h).bind λo h'=>match o with
   |.nx env''=>G9 [(n+9,.lst (R.map .str))] (.tp (.cons (.nm 2) (.cons (.nm 3) .nil))) (exs ct (b4 ct F (d+1)) rhB) d9 env'' h'
   |.rt d=>.ok (.rt d) h':=fun{h e2 e3 e4 e5 row d9 p} hs=>by
  rw[G9,ay (by simp[gOk,hs])];rfl
 induction q with
 |nil H=>
  intro p h e2 e3 e4 e5 A hs;refine⟨h,Fr.refl n h,A,e2,e3,e4,e5,?_⟩;rw[map_nil,z8,G9,ay (by simp[gOk,hs])]
 | @take H H1 H' row d9 hl hw k t ih=>
  intro p h e2 e3 e4 e5 A hs;obtain⟨h1,k1,k2,k3⟩:=k (h++[.lst ((E2 row).map .str)]) n h.length (A.app _) b6;have hs1:h1[n+9]? =some (.lst (R.map .str)):=by have hs0:=b5 (g:=[Cell.lst ((E2 row).map .str)]) hs;rw[k2.get (n+9) (ae.mp hs0).1 (by omega)];exact hs0
  obtain⟨h',f1,A',e2',e3',e4',e5',m⟩:=ih (p+1) h1 (some (.int p)) (some (.str row)) (some (.ref h.length)) (some .non) k3 hs1;have hp:decide ((0:Int)<(((E2 row).map D.str).length:Int))=true:=aW (by
   cases hq:E2 row with
   |nil=>exact absurd hq hw
   |cons a b=>simp)
  have e:exs ct (b4 ct F (d+1)) rhB [some (.str text),some (.ref n),some (.int p),some (.str row),e4,e5] h=.ok (.nx [some (.str text),some (.ref n),some (.int p),some (.str row),some (.ref h.length),some .non]) h1:=by simp only[rhB];simp_arith[a1P W hl,o0 b6,op2,E3,hp,k1,T3,eX,fc]
  refine⟨h',((Fr.app n h _).trans k2).trans f1,A',e2',e3',e4',e5',?_⟩;rw[map_cons,z8,step hs,e,g9];exact m
 | @skip H H' row d9 hl hw t ih=>
  intro p h e2 e3 e4 e5 A hs;obtain⟨h',f1,A',e2',e3',e4',e5',m⟩:=ih (p+1) (h++[.lst ((E2 row).map .str)]) (some (.int p)) (some (.str row)) (some (.ref h.length)) e5 (A.app _) (b5 hs);have hp:decide ((0:Int)<(((E2 row).map D.str).length:Int))=false:=by rw[hw];rfl
  have e:exs ct (b4 ct F (d+1)) rhB [some (.str text),some (.ref n),some (.int p),some (.str row),e4,e5] h=.ok (.nx [some (.str text),some (.ref n),some (.int p),some (.str row),some (.ref h.length),e5]) (h++[.lst ((E2 row).map .str)]):=by simp only[rhB];simp_arith[a1P W hl,o0 b6,op2,E3,hp]
  refine⟨h',(Fr.app n h _).trans f1,A',e2',e3',e4',e5',?_⟩;rw[map_cons,z8,step hs,e,g9];exact m
theorem b3V(f:Fr h.length h h'):h'.take h.length=h:=by
 refine ext_getElem? λi=>?_
 by_cases hi:i<h.length
 · rw[bn hi,f.get i hi (.inl hi)]
 · rw[aS (by simp;omega),aS (by omega)]
theorem a0Y{d:Nat}{H':HD}(hin:ct.init 6=32)(ht:text.length<=10000000)(q:Reads ct F (d+1) {} (Txt.split text "\n") H'):
 ∃h',h'.take h.length=h/\HallAt h' h.length H'/\b4 ct F (d+2) 12 [.str text] h=.ok (.ref h.length) h':=by
 rw[i9 W.f12 rfl];have hf:Y7=⟨1,6,0,(.cons (.set 1 (.mk 6 .nil)) (.cons (.for (.tp (.cons (.nm 2) (.cons (.nm 3) .nil))) (.enum (.mt .split (.v 0) (.o (.s "\n")))) rhB) (.o (.ret (.v 1)))))⟩:=rfl;simp only[hf];rw[gc0];have A0:HallAt (h++[.obj 6 (V0 h.length),.dict [],.dict [],.dict [],.dict [],.lst [],.dict [],.dict [],.lst []]) h.length {}:=⟨a6l,u5,u5,u5,u5,u5,u5,u5,u5⟩;have bL:(h++[Cell.obj 6 (V0 h.length),.dict [],.dict [],.dict [],.dict [],.lst [],.dict [],.dict [],.lst []]).length=h.length+9:=by simp
 have hnew:=b1g (ct:=ct) (n:=d) (h:=h) W;generalize hg:h++[Cell.obj 6 (V0 h.length),.dict [],.dict [],.dict [],.dict [],.lst [],.dict [],.dict [],.lst []]=g at*
 have A1:=A0.app [.lst ((Txt.split text "\n").map .str)];have hs:(g++[Cell.lst ((Txt.split text "\n").map .str)])[h.length+9]? =some (.lst ((Txt.split text "\n").map .str)):=by rw[←bL];exact b6
 obtain⟨h',f1,A',e2,e3,e4,e5,m⟩:=b3y (d:=d) (R:=Txt.split text "\n") (text:=text) W q 0 (g++[.lst ((Txt.split text "\n").map .str)]) none none none none A1 hs;have fr:Fr h.length h h':=by refine Fr.trans ?_ f1;rw[←hg];exact(Fr.app _ h _).trans (Fr.app _ _ _)
 refine⟨h',b3V W fr,A',?_⟩;have eB:mtD .split g (.str text) [.str "\n"]=.ok (.ref g.length) (g++[.lst ((Txt.split text "\n").map .str)]):=by simp only[mtD];rw[ay ⟨by decide,by show _<=16777216;omega⟩];rfl
 have hen:a1i (g++[.lst ((Txt.split text "\n").map .str)]) (.ref g.length)=.ok (z8 0 ((Txt.split text "\n").map .str),[(h.length+9,.lst ((Txt.split text "\n").map .str))]) (g++[.lst ((Txt.split text "\n").map .str)]):=by simp only[a1i,bL,hs]
 simp_arith[hin,hnew,mtT,eB,hen,m]
end
def dg(n:Nat):Str:=Str.ofString (toString (n:Int))
def lt(i:Nat):Nat:=97+i
theorem b2c:∀i:Fin 26,(cd abc)[i.val]? =some (lt i.val)/\N3 (lt i.val)=true:=by decide+kernel
def nm(stem:Str)(k:Nat):Str:=(⟨#[lt (7*k%26)]⟩++stem)++dg (k*13%61)
variable{stem:Str}
theorem a3d(h:b9 z=true):1<=z.length/\z.length<=12:=by unfold b9 at h;rw[af,af] at h;exact⟨aw h.1.1,aw h.1.2⟩
theorem a8M(h:b9 z=true){c:Nat}(hc:N3 c=false):c∉cd z:=by unfold b9 at h;rw[af] at h;intro hm;have:=ba.mp h.2 c hm;rw[hc] at this;cases this
section
variable{ct:CT}{F:Nat->Option Fn}(W:PF F)
include W
section
variable{k:Nat}{d9:List D}
theorem a9v(hw:h[w]? =some (.lst (.str "shape"::d9))):b4 ct F (k+1) 13 [.ref n,.ref w] h=b4 ct F k 17 [.ref n,.ref w] h:=by rw[i9 W.f13 rfl];simp only[C2];rw[gc0];simp_arith[o5 0 0 rfl hw rfl,op2,D8,eqS,eX,eZ];generalize b4 ct F k 17 [.ref n,.ref w] h=r;cases r<;>simp_arith[]
theorem a9w(hw:h[w]? =some (.lst (.str "point"::d9))):b4 ct F (k+1) 13 [.ref n,.ref w] h=b4 ct F k 20 [.ref n,.ref w] h:=by rw[i9 W.f13 rfl];simp only[C2];rw[gc0];simp_arith[o5 0 0 rfl hw rfl,op2,D8,eqS,eX,eZ];generalize b4 ct F k 20 [.ref n,.ref w] h=r;cases r<;>simp_arith[]
theorem a8v(hw:h[w]? =some (.lst (.str "letter"::d9))):b4 ct F (k+1) 13 [.ref n,.ref w] h=b4 ct F k 22 [.ref n,.ref w] h:=by rw[i9 W.f13 rfl];simp only[C2];rw[gc0];simp_arith[o5 0 0 rfl hw rfl,op2,D8,eqS,eX,eZ];generalize b4 ct F k 22 [.ref n,.ref w] h=r;cases r<;>simp_arith[]
theorem a9x(hw:h[w]? =some (.lst (.str "class"::d9))):b4 ct F (k+1) 13 [.ref n,.ref w] h=b4 ct F k 24 [.ref n,.ref w] h:=by rw[i9 W.f13 rfl];simp only[C2];rw[gc0];simp_arith[o5 0 0 rfl hw rfl,op2,D8,eqS,eX,eZ];generalize b4 ct F k 24 [.ref n,.ref w] h=r;cases r<;>simp_arith[]
theorem a6J(hw:h[w]? =some (.lst (.str "feature"::d9))):b4 ct F (k+1) 13 [.ref n,.ref w] h=b4 ct F k 25 [.ref n,.ref w] h:=by rw[i9 W.f13 rfl];simp only[C2];rw[gc0];simp_arith[o5 0 0 rfl hw rfl,op2,D8,eqS,eX,eZ];generalize b4 ct F k 25 [.ref n,.ref w] h=r;cases r<;>simp_arith[]
theorem b2u(hw:h[w]? =some (.lst (.str "rule"::d9))):b4 ct F (k+1) 13 [.ref n,.ref w] h=b4 ct F k 26 [.ref n,.ref w] h:=by rw[i9 W.f13 rfl];simp only[C2];rw[gc0];simp_arith[o5 0 0 rfl hw rfl,op2,D8,eqS,eX,eZ];generalize b4 ct F k 26 [.ref n,.ref w] h=r;cases r<;>simp_arith[]
end
def b9S{α:Type}(o:Option Str)(a b:α):α:=match o with
 |none=>a
 |some _=>b
variable{d:Nat}{H:HD}
theorem a9y{a b:Str}{v:Int}(ha:b9 a=true)(hb:T9 b=some v):W4 ct F (d+9) H [("shape":Str),a,b] (due (decide (a∈H.shapes.map (·.1))) true (decide ((60:Int)<=(H.shapes.length:Int))))
 (b9S (due (decide (a∈H.shapes.map (·.1))) true (decide ((60:Int)<=(H.shapes.length:Int)))) {H with shapes:=H.shapes++[(a,.int v)]} H):=by
 intro h n w A hw;have:=a3z (ct:=ct) (k:=d+5) W A hw ha (by have:=a3d ha;omega) hb;rw[a9v W hw,this];generalize due (decide (a∈H.shapes.map (·.1))) true (decide ((60:Int)<=(H.shapes.length:Int)))=du;cases du with
 |none=>exact⟨_,rfl,Fr.set (by omega) (by omega),A.s1 _⟩
 |some f=>exact⟨_,rfl,Fr.refl n h,A⟩
theorem a6K{a b:Str}(ha:b9 a=true)(hb:b="on"∨b="off"):W4 ct F (d+9) H [("feature":Str),a,b] (due (decide (a∈H.features.map (·.1))) true (decide ((10:Int)<=(H.features.length:Int))))
 (b9S (due (decide (a∈H.features.map (·.1))) true (decide ((10:Int)<=(H.features.length:Int)))) {H with features:=H.features++[(a,.bl (decide (b="on")))]} H):=by
 intro h n w A hw;have:=a2k (ct:=ct) (k:=d+5) W A hw ha (by have:=a3d ha;omega) hb;rw[a6J W hw,this];generalize due (decide (a∈H.features.map (·.1))) true (decide ((10:Int)<=(H.features.length:Int)))=du;cases du with
 |none=>exact⟨_,rfl,Fr.set (by omega) (by omega),A.s7 _⟩
 |some f=>exact⟨_,rfl,Fr.refl n h,A⟩
theorem b3r{s:Str}(hs:b9 s=true):L9 s=false:=by
 unfold L9;have:(cd s).head?≠some 64:=λe=>by
  refine a8M hs (c:=64) (by decide) ?_;cases hq:cd s with
  |nil=>rw[hq] at e;cases e
  |cons c r=>rw[hq] at e;injection e with e;subst e;exact aU
 rw[bj this];rfl
end
theorem j9(x y:Str):(x++y).length=x.length+y.length:=by rw[←n9,G3,aq,n9,n9]
theorem a9E{i:Int}(h: -1000000000000<=i/\i<=1000000000000):a2r i=true:=by
 cases i with
 |ofNat n=>
  refine Nat.ble_eq_true_of_le ?_;have:(n:Int)<=1000000000000:=h.2;omega
 |negSucc n=>
  refine Nat.ble_eq_true_of_le ?_;have:=h.1;rw[Int.negSucc_eq] at this;omega
theorem a3P(h:n<=1000000):a2K (n:Int)=true:=Nat.ble_eq_true_of_le (by omega)
theorem J8{i j:Int}(hj: -1000000000000<=j/\j<=1000000000000):M0 h (.int i) (.int j)=.ok (.int (i*j)) h:=by simp only[M0];rw[ay (by rw[a9E hj,Bool.or_true])]
theorem a3f{i j:Int}(hj:0<j):u0 h (.int i) (.int j)=.ok (.int (i%j)) h:=by simp only[u0];rw[ay hj]
theorem b7l{i j:Int}(hj:0<j)(h2:j<1073741824):v5 h (.int i) (.int j)=.ok (.int (i/j)) h:=by simp only[v5];rw[ay ⟨hj,h2⟩]
theorem l8{i j:Int}:W2 h (.int i) (.int j)=.ok (.int (i+j)) h:=rfl
theorem n5{y:Str}(hl:x.length+y.length<=100000):W2 h (.str x) (.str y)=.ok (.str (x++y)) h:=by simp only[W2];rw[ay (by show _<=16777216;omega)]
theorem D0(b:Nat)(hb:0<b){a:Nat}:u0 h (.int (a:Int)) (.int (b:Int))=.ok (.int ((a%b:Nat):Int)) h:=by rw[a3f (by omega)];congr 2
theorem J0(b:Nat)(hb:0<b)(h2:b<1073741824){a:Nat}:v5 h (.int (a:Int)) (.int (b:Int))=.ok (.int ((a/b:Nat):Int)) h:=by rw[b7l (by omega) (by omega)];congr 2
def mx(c j:Int):Int:=(c%2305843009213693951+1)*(j*j+48271)*40692%2147483399
theorem b6j(c j:Int):0<=mx c j:=Int.emod_nonneg _ (by decide)
variable{sep:Str}{ts:List Str}
theorem a4Y(h:(ts.map (·.length)).sum+ts.length*sep.length<=1000000):JoinOk sep ts=true:=by
 unfold JoinOk;rw[StrLaws.joinTotal];simp only[tooLong,Bool.not_eq_true',decide_eq_false_iff_not];have:sizeLine=16777216:=by decide
 omega
theorem a6B:∀ps:List Str,cd (Str.join "" ps)=(ps.map cd).flatten
 |[]=>rfl
 |[x]=>by show cd x=_;simp
 |x::y::r=>by show cd (x++Str.ofString ""++Str.join "" (y::r))=_;rw[G3,G3,a6B (y::r),show cd (Str.ofString "")=[] from rfl,aV];rfl
theorem b7q(n:Nat)(x:Str):cd (D6 n x)=(List.replicate n (cd x)).flatten:=by show(D6 n x).cps.toList=_;unfold D6;rw[foldl_app'];simp[cd]
where
  foldl_app' {x:Array Nat}:∀{n:Nat} {a:Array Nat},((List.replicate n x).foldl (· ++ ·) a).toList=a.toList++(List.replicate n x.toList).flatten
    |0,a=>by simp
    |n+1,a=>by rw[replicate_succ,foldl_cons,foldl_app',replicate_succ,List.flatten_cons];simp
theorem a8l(ts:List Str):cd (Txt.join "" ts)=(ts.map cd).flatten:=by show cd (glued "" _)=_;rw[fS];exact a6B ts
theorem b8l{p:Nat}(h:p<=z.length):cd (Txt.slice z none (some (p:Int)))=(cd z).take p:=by have e:Txt.slice z none (some (p:Int))=⟨((z.cps.toList.drop (0:Int).toNat).take ((p:Int)-0).toNat).toArray⟩:=beq_iff_eq.mp (PyProof.Rows.slice_closes_to ⟨by omega,by have:=n9 z;show(p:Int)<=((cd z).length:Int);omega⟩);rw[e];simp[cd]
theorem b2E{p:Nat}(h:p<=z.length):cd (Txt.slice z (some (p:Int)) none)=(cd z).drop p:=by rw[slice_from_eq (b:=z.length) (by omega) (by omega) rfl];show((cd z).drop ((p:Int).toNat)).take (((z.length:Int)-p).toNat)=_;rw[Int.toNat_natCast];exact aY (by rw[bm,n9];omega)
variable{c:CF}{env:l0}{f:Nat}{ns:List Int}
section
variable{ct:CT}{F:Nat->Option Fn}
theorem seq{s:S}{T:Ss}{bv:l0}(e:ex ct c s env h=.ok (.nx bv) h'):exs ct c (.cons s T) env h=exs ct c T bv h':=by rw[K6,e,g9]
theorem a1m{k:Nat}(hF:F f=some E9)(hr:h[n]? =some (.rol (ns.map .int))):∃a,b4 ct F (k+1) f [.ref n,.int (j:Int)] h=.ok (.int a) h:=by
 rw[i9 hF rfl];simp only[E9];have rl:rdL h n=some (ns.map .int):=by unfold rdL;rw[hr]
 have le:biD .len h [.ref n]=.ok (.int (ns.length:Int)) h:=by simp only[biD,bi1,biL,hr,rl,aa]
 by_cases lt:(j:Int)<(ns.length:Int)
 · have lt':j<ns.length:=by omega
   have ix:ixD h (.ref n) (.int (j:Int))=.ok (.int ns[j]) h:=by
    have:atI (ns.map D.int) (j:Int)=some (.int ns[j]):=by
     show(ixN (ns.map D.int).length (j:Int)).bind (λj=>(ns.map D.int)[j]?)=_;have e:ixN (ns.map D.int).length (j:Int)=some j:=by unfold ixN;rw[aa,ay (by omega),ay (by omega)];simp
     rw[e];show(ns.map D.int)[j]? =_;rw[ak,ai lt'];rfl
    simp only[ixD,hr,this]
   refine⟨ns[j],?_⟩
   simp_arith[le,op2,E3,lt,eX,ix];exact A9 rfl
 · refine⟨0,?_⟩
   simp_arith[le,op2,E3,lt,eZ];exact A9 rfl
theorem D1{k:Nat}{c j:Int}(hF:F f=some o8)(hj:0<=j/\j<=1000):∃M:Nat,b4 ct F (k+1) f [.int c,.int j] h=.ok (.int (M:Int)) h:=by
 obtain⟨M,hM⟩:=Int.eq_ofNat_of_zero_le (b6j c j);refine⟨M,?_⟩;rw[←hM,i9 hF rfl];simp only[o8];have hjj:0<=j*j/\j*j<=1000000:=⟨Int.mul_nonneg hj.1 hj.1,by have:=Int.mul_le_mul hj.2 hj.2 hj.1 (by decide);omega⟩
 simp_arith[op2,a3f (h:=h) (i:=c) (j:=2305843009213693951) (by decide),W2,J8 (h:=h) (i:=j) (j:=j) (by omega),J8 (h:=h) (i:=c%2305843009213693951+1) (j:=j*j+48271) (by omega),J8 (h:=h) (i:=(c%2305843009213693951+1)*(j*j+48271)) (j:=40692) (by decide),a3f (h:=h) (i:=(c%2305843009213693951+1)*(j*j+48271)*40692) (j:=2147483399) (by decide)]
 exact A9 rfl
end
variable{α:Type}
theorem Q7{a:Option α}:(some a).join=a:=rfl
theorem a8m:abc.length=26:=by decide+kernel
theorem b7z:abc.length<=SL:=by rw[a8m];show 26<=16777216;omega
theorem b6u{a:Nat}(h:lt a=lt b):a=b:=by unfold lt at h;omega
theorem a7M{i:Nat}(h:i<26):N3 (lt i)=true:=(b2c ⟨i,h⟩).2
def nmA(f m i:Nat):Str:=D6 (m-i) ⟨#[lt f]⟩
theorem a7o(f m i:Nat):cd (nmA f m i)=List.replicate (m-i) (lt f):=by unfold nmA;rw[b7q];show(List.replicate _ [lt f]).flatten=_;simp
noncomputable def nmB(stem:Str)(p f i:Nat):Str:=(Txt.slice stem none (some (p:Int))++⟨#[lt ((f+5*i)%26)]⟩)++Txt.slice stem (some (p:Int)) none
theorem a5n{p i:Nat}(h:p<=stem.length):cd (nmB stem p f i)=(cd stem).take p++lt ((f+5*i)%26)::(cd stem).drop p:=by unfold nmB;rw[G3,G3,b8l h,b2E h];show(cd stem).take p++[lt ((f+5*i)%26)]++(cd stem).drop p=_;simp
theorem a0h{α β:Type}(f:α->β):∀{l:List α},l.Nodup->(∀a∈l,∀b∈l,f a=f b->a=b)->(l.map f).Nodup
 |[],_,_=>nodup_nil
 |x::r,h,hi=>by have h:=aR.mp h;rw[map_cons];refine aR.mpr ⟨λm=>?_,a0h f h.2 λa ha b hb=>hi a (.tail _ ha) b (.tail _ hb)⟩;obtain⟨y,hy,e⟩:=am.mp m;rw[hi y (.tail _ hy) x (.head _) e] at hy;exact h.1 hy
structure Nms(ns:List Str)(m:Nat):Prop where
 len:ns.length=m
 nd:ns.Nodup
 ok:∀n∈ns,b9 n=true
theorem c1f{m:Nat}(hf:f<26)(hm:m<13):Nms ((List.range m).map (nmA f m)) m:=by
 refine⟨by simp,a0h _ List.nodup_range λa ha b hb e=>?_,λn hn=>?_⟩
 · have ha:=aL.mp ha;have hb:=aL.mp hb;have e:=fh (λz=>(cd z).length) e;simp only[a7o,aZ] at e;omega
 · obtain⟨i,hi,rfl⟩:=am.mp hn;have hi:=aL.mp hi;have l:(nmA f m i).length=m-i:=by rw[←n9,a7o,aZ]
   unfold b9;rw[l,a7o];rw[aW (show 1<=m-i by omega),aW (show m-i<=12 by omega)];simp only[fM];refine ba.mpr λc hc=>?_;rw[(List.mem_replicate.mp hc).2];exact a7M hf
theorem c1e{p m:Nat}(hs:stem.length<=11)(dN:(cd stem).all N3=true)(hp:p<=stem.length)(hm:m<=26):Nms ((List.range m).map (nmB stem p f)) m:=by
 refine⟨by simp,a0h _ List.nodup_range λa ha b hb e=>?_,λn hn=>?_⟩
 · have ha:=aL.mp ha;have hb:=aL.mp hb;have e:=fh cd e;rw[a5n hp,a5n hp] at e;have e:=List.append_cancel_left e;injection e with e _;have e:=b6u e;omega
 · obtain⟨i,hi,rfl⟩:=am.mp hn;have lt':((cd stem).take p++lt ((f+5*i)%26)::(cd stem).drop p).length=stem.length+1:=by rw[aq,length_cons,aJ,bm,n9];omega
   have l:(nmB stem p f i).length=stem.length+1:=by rw[←n9,a5n hp,lt']
   unfold b9;rw[l,a5n hp,aW (show 1<=stem.length+1 by omega),aW (show stem.length+1<=12 by omega)];simp only[fM];refine ba.mpr λc hc=>?_;rcases aI.mp hc with q|q
   · exact ba.mp dN c (List.mem_of_mem_take q)
   · rcases aE.mp q with q|q
     · rw[q];exact a7M (eY _ (by decide))
     · exact ba.mp dN c (List.mem_of_mem_drop q)
variable{e:E}{a:E}
section
variable{ct:CT}{F:Nat->Option Fn}
theorem a1x{m:Nat}(hm:m<=1000000):a9R h (.int 0) (.int (m:Int))=.ok ((List.range m).map λi=>.int ((0:Int)+(i:Nat)),[]) h:=by simp only[a9R];rw[ay ⟨by decide,a3P hm⟩];show R.ok (a9S 0 (((m:Int)-0).toNat),[]) h=_;rw[Int.sub_zero,Int.toNat_natCast];rfl
theorem U3{fr:List Nat}{m:Nat}(f:Nat->D)(ha:ev ct c a env h=.ok (.int (m:Int)) h)(hm:m<=1000000)
 (hx:∀i,i<m->ev ct c e (some (.int (i:Int))::fr.map λj=>(env[j]?).join) h=.ok (f i) h):ev ct c (.comp (.nm 0) (.rng1 a) 1 fr .yes e) env h=.ok (.ref h.length) (h++[.lst ((List.range m).map f)]):=by
 rw[y9 (l:=(List.range m).map λi=>.int ((0:Int)+(i:Nat))) (g:=[]) (h1:=h) ?_ rfl (λd=>match d with|.int i=>f i.toNat|_=>.non) (λd=>some d::fr.map λj=>(env[j]?).join) ?_ ?_]
 · congr 3;rw[aG];refine fh (λg=>Cell.lst (List.map g (List.range m))) (funext λi=>?_);simp
 · rw[a6p,ha,g9,a1x hm]
 · intro x dE;obtain⟨i,hi,rfl⟩:=am.mp dE;refine⟨rfl,?_⟩;have z:(0:Int)+(i:Nat)=((i:Nat):Int):=by omega
   rw[z,hx i (aL.mp hi)];simp
 · rw[aa,aH];show _<=16777216;omega
theorem b0S{i:Nat}(hi:i<26):ixD h (.str abc) (.int (i:Int))=.ok (.str ⟨#[lt i]⟩) h:=ix_str b7z (b2c ⟨i,hi⟩).1
theorem a9G:a0U.length<=SL:=by rw[show a0U.length=36 by decide+kernel];show 36<=16777216;omega
def a1l(c i:Nat):Nat:=(cd a0U).getD ((c/16224+7*i)%36) 0
theorem a6y(c i:Nat):(cd a0U)[(c/16224+7*i)%36]? =some (a1l c i)/\N3 (a1l c i)=true:=by
 have lt:(c/16224+7*i)%36<(cd a0U).length:=by rw[n9,show a0U.length=36 by decide+kernel];exact eY _ (by decide)
 unfold a1l;rw[List.getD_eq_getElem?_getD,ai lt];exact⟨rfl,aW (bh lt)⟩
theorem X4{k c m:Nat}(hF:F f=some m8)(hm:m<=26):∃ns,Nms ns m/\b4 ct F (k+1) f [.int (c:Int),.int (m:Int)] h=.ok (.ref h.length) (h++[.lst (ns.map .str)]):=by
 have d4:v5 h (.int (c:Int)) (.int 4)=.ok (.int ((c/4:Nat):Int)) h:=J0 4 (by decide) (by decide);have m26:∀(a:Nat) (h:AH),u0 h (.int (a:Int)) (.int 26)=.ok (.int ((a%26:Nat):Int)) h:=λa h=>D0 26 (by decide);have m4:u0 h (.int (c:Int)) (.int 4)=.ok (.int ((c%4:Nat):Int)) h:=D0 4 (by decide);have d104:v5 h (.int (c:Int)) (.int 104)=.ok (.int ((c/104:Nat):Int)) h:=J0 104 (by decide) (by decide);have m12:u0 h (.int ((c/104:Nat):Int)) (.int 12)=.ok (.int ((c/104%12:Nat):Int)) h:=D0 12 (by decide);have d1248:v5 h (.int (c:Int)) (.int 1248)=.ok (.int ((c/1248:Nat):Int)) h:=J0 1248 (by decide) (by decide);have f26:c/4%26<26:=eY _ (by decide);have s12:c/104%12<12:=eY _ (by decide);rw[i9 hF rfl];simp only[m8];rw[seq (by simp_arith[];rfl),seq (by simp_arith[op2,d4,m26];rfl)];generalize hf:c/4%26=f1 at f26
 by_cases hc:((c%4:Nat):Int)=0/\(m:Int)<13
 · obtain⟨h1,h2⟩:=hc;have q0:D8 h (.int ((c%4:Nat):Int)) (.int 0)=.ok (.bl true) h:=by rw[h1];rfl
   refine⟨_,c1f (m:=m) f26 (by omega),?_⟩;have cm:ev ct (b4 ct F k) cA [some (.int (c:Int)),some (.int (m:Int)),some (.str abc),some (.int (f1:Int)),none,none,none] h=.ok (.ref h.length) (h++[.lst ((List.range m).map λi=>.str (nmA f1 m i))]):=by
    unfold cA;refine U3 (λi=>.str (nmA f1 m i)) (by simp_arith[]) (by omega) λi hi=>?_;have sb:a5S h (.int (m:Int)) (.int (i:Int))=.ok (.int ((m-i:Nat):Int)) h:=by show R.ok (D.int ((m:Int)-(i:Int))) h=_;congr 2;omega
    have ml:M0 h (.str ⟨#[lt f1]⟩) (.int ((m-i:Nat):Int))=.ok (.str (nmA f1 m i)) h:=by
     simp only[M0];have l1:(⟨#[lt f1]⟩:Str).length*(((m-i:Nat):Int)).toNat<=SL:=by rw[Int.toNat_natCast];show 1*(m-i)<=16777216;omega
     rw[ay ⟨a3P (by omega),l1⟩];exact fh (λz=>R.ok (D.str (D6 z ⟨#[lt f1]⟩)) h) (Int.toNat_natCast _)
    simp_arith[op2,b0S f26,sb,ml,Q7]
   simp_arith[op2,m4,q0,E3,h2,eX,cm]
   have e:((List.range m).map (nmA f1 m)).map D.str=(List.range m).map λi=>D.str (nmA f1 m i):=by rw[aG];rfl
   rw[e];exact gc2 ⋯ (aj _) (by rw[←e];exact J3 _)
 · have tt:∀T,exs ct (b4 ct F k) (.cons (.iff (.an (.cmp .eq (.bin .mod (.v 0) (.i 4)) (.i 0)) (.cmp .lt (.v 1) (.i 13))) (.o (.ret cA)) .nil) T) [some (.int (c:Int)),some (.int (m:Int)),some (.str abc),some (.int (f1:Int)),none,none,none] h=exs ct (b4 ct F k) T [some (.int (c:Int)),some (.int (m:Int)),some (.str abc),some (.int (f1:Int)),none,none,none] h:=λT=>by
    refine seq ?_
    by_cases h1:((c%4:Nat):Int)=0
    · have h2:¬(m:Int)<13:=λz=>hc ⟨h1,z⟩;have q0:D8 h (.int ((c%4:Nat):Int)) (.int 0)=.ok (.bl true) h:=by rw[h1];rfl
      simp_arith[op2,m4,q0,E3,h2,eZ]
    · have q0:D8 h (.int ((c%4:Nat):Int)) (.int 0)=.ok (.bl false) h:=by simp only[D8,eqS,h1,eZ]
      simp_arith[op2,m4,q0]
   rw[tt,seq (by simp_arith[op2,d104,m12];rfl)];generalize c/104%12=sz at s12;have a1:((sz:Nat):Int)+1=((sz+1:Nat):Int):=by omega
   rw[seq (by simp_arith[op2,d1248,l8,a1,D0 (sz+1) (by omega)];rfl)];have pl:c/1248%(sz+1)<=sz:=Nat.le_of_lt_succ (eY _ (by omega));generalize c/1248%(sz+1)=p at pl;have cs:ev ct (b4 ct F k) cS [some (.int (c:Int)),some (.int (m:Int)),some (.str abc),some (.int (f1:Int)),some (.int (sz:Int)),some (.int (p:Int)),none] h=.ok (.ref h.length) (h++[.lst ((List.range sz).map λi=>.str ⟨#[a1l c i]⟩)]):=by
    unfold cS;refine U3 (λi=>.str ⟨#[a1l c i]⟩) (by simp_arith[]) (by omega) λi hi=>?_;have ad:W2 h (.str abc) (.str "0123456789")=.ok (.str a0U) h:=by rw[n5 (by rw[a8m,show(Str.ofString "0123456789").length=10 by decide+kernel];decide)];rfl
    have d16:v5 h (.int (c:Int)) (.int 16224)=.ok (.int ((c/16224:Nat):Int)) h:=J0 16224 (by decide) (by decide);have m7:M0 h (.int 7) (.int (i:Int))=.ok (.int ((7*i:Nat):Int)) h:=by rw[J8 (by omega)];congr 2
    have a2:((c/16224:Nat):Int)+((7*i:Nat):Int)=((c/16224+7*i:Nat):Int):=by omega
    have m36:u0 h (.int ((c/16224+7*i:Nat):Int)) (.int 36)=.ok (.int (((c/16224+7*i)%36:Nat):Int)) h:=D0 36 (by decide)
    simp_arith[op2,ad,d16,m7,l8,a2,m36,ix_str a9G (a6y c i).1,Q7]
   have es:((List.range sz).map λi=>D.str ⟨#[a1l c i]⟩)=((List.range sz).map λi=>(⟨#[a1l c i]⟩:Str)).map D.str:=by rw[aG];rfl
   rw[es] at cs;generalize hts:(List.range sz).map (λi=>(⟨#[a1l c i]⟩:Str))=ts at cs;have tl:ts.length=sz:=by rw[←hts];simp
   have t1:∀t∈ts,t.length=1/\(cd t).all N3=true:=λt ht=>by rw[←hts] at ht;obtain⟨i,_,rfl⟩:=am.mp ht;exact⟨rfl,by show([a1l c i]:List Nat).all N3=true;rw[all_cons,(a6y c i).2];rfl⟩
   have sm:∀l:List Str,(∀t∈l,t.length=1)->(l.map (·.length)).sum=l.length:=λl=>by
    induction l with
    |nil=>intro _;rfl
    |cons x r ih=>intro hh;rw[map_cons,List.sum_cons,ih (λt ht=>hh t (.tail _ ht)),hh x (.head _),length_cons];exact Nat.add_comm 1 _
   have jo:JoinOk "" ts=true:=a4Y (by rw[sm ts λt ht=>(t1 t ht).1,show(Str.ofString "").length=0 from rfl];omega);have jn:mtD .join (h++[.lst (ts.map .str)]) (.str "") [.ref h.length]=.ok (.str (Txt.join "" ts)) (h++[.lst (ts.map .str)]):=by simp only[mtD,a4H,a1t];rw[ay jo]
   have sl:(Txt.join "" ts).length=sz:=by rw[←n9,a8l,List.length_flatten,aG,←tl];exact(fh List.sum (aT λt _=>n9 t)).trans (sm ts λt ht=>(t1 t ht).1)
   have ss:(cd (Txt.join "" ts)).all N3=true:=by rw[a8l];refine ba.mpr λx hx=>?_;obtain⟨q,hq,hm⟩:=List.mem_flatten.mp hx;obtain⟨t,ht,rfl⟩:=am.mp hq;exact ba.mp (t1 t ht).2 x hm
   generalize Txt.join "" ts=stem at jn sl ss;rw[seq (by simp_arith[mtT,cs,jn];rfl)];refine⟨_,c1e (stem:=stem) (p:=p) (f:=f1) (m:=m) (by omega) ss (by omega) hm,?_⟩;have hg:∃t,h++[Cell.lst (ts.map .str)]=h++t:=⟨_,rfl⟩;have tk:(h++[Cell.lst (ts.map D.str)]).length=h.length+1:=by simp
   have wS:stem.length<=SL:=by show _<=16777216;omega
   have cm:∀g,ev ct (b4 ct F k) cB [some (.int (c:Int)),some (.int (m:Int)),some (.str abc),some (.int (f1:Int)),some (.int (sz:Int)),some (.int (p:Int)),some (.str stem)] g=.ok (.ref g.length) (g++[.lst ((List.range m).map λi=>.str (nmB stem p f1 i))]):=λg=>by
    unfold cB;refine U3 (λi=>.str (nmB stem p f1 i)) (by simp_arith[]) (by omega) λi hi=>?_;have m5:M0 g (.int 5) (.int (i:Int))=.ok (.int ((5*i:Nat):Int)) g:=by rw[J8 (by omega)];congr 2
    have a2:((f1:Nat):Int)+((5*i:Nat):Int)=((f1+5*i:Nat):Int):=by omega
    have l1:=gm stem none (some (p:Int));have l2:=gm stem (some (p:Int)) none;have x1:(⟨#[lt ((f1+5*i)%26)]⟩:Str).length=1:=rfl
    simp_arith[Q7,slD,ay wS,op2,m5,l8,a2,m26,b0S (h:=g) (i:=(f1+5*i)%26) (eY _ (by decide)),n5 (h:=g) (x:=Txt.slice stem none (some (p:Int))) (y:=⟨#[lt ((f1+5*i)%26)]⟩) (by omega),n5 (h:=g) (x:=Txt.slice stem none (some (p:Int))++⟨#[lt ((f1+5*i)%26)]⟩) (y:=Txt.slice stem (some (p:Int)) none) (by rw[j9];omega)]
    rfl
   simp_arith[cm]
   have e:((List.range m).map (nmB stem p f1)).map D.str=(List.range m).map λi=>D.str (nmB stem p f1 i):=by rw[aG];rfl
   rw[e,aA];exact gc2 ⋯ ⋯ (by rw[←e];exact J3 _)
end
structure Pf(h0 h:AH):Prop where
 len:h0.length<=h.length
 get:∀i,i<h0.length->h[i]? =h0[i]?
theorem Pf.refl(h:AH):Pf h h:=⟨aj _,λ_ _=>rfl⟩
variable{h0:AH}
theorem Pf.app(p:Pf h0 h)(t:AH):Pf h0 (h++t):=⟨by rw[aq];have:=p.len;omega,λi hi=>by rw[av (aC hi p.len)];exact p.get i hi⟩
theorem Pf.set(p:Pf h0 h){c:Cell}(hn:h0.length<=n):Pf h0 (h.set n c):=⟨by rw[aK];exact p.len,λi hi=>by rw[eW (by omega)];exact p.get i hi⟩
theorem Pf.trans{a b c:AH}(p:Pf a b)(q:Pf b c):Pf a c:=⟨aO p.len q.len,λi hi=>(q.get i (aC hi p.len)).trans (p.get i hi)⟩
theorem Pf.take{h0 h:AH}(p:Pf h0 h):h.take h0.length=h0:=by
 refine ext_getElem? λi=>?_
 by_cases hi:i<h0.length
 · rw[bn hi,p.get i hi]
 · rw[aS (by simp;omega),aS (by omega)]
theorem Pf.at(p:Pf h0 h){i:Nat}{c:Cell}(e:h0[i]? =some c):h[i]? =some c:=by rw[p.get i (ae.mp e).1];exact e
theorem a9b{k:Nat}{c:Cell}(p:Pf h0 h)(hk:h[k]? =some c)(hl:h0.length<=k)(hc:c.flat=true):gcR 2 h0 (.ok (.ref k) h)=.ok (.ref h0.length) (h0++[c]):=by unfold gcR;simp only[hk];simp[hl,hc,p.take]
theorem b3S(p:Pf h0 h)(hd:d.flat=true):gcR 1 h0 (.ok d h)=.ok d h0:=by unfold gcR;simp only;rw[az (by decide)];simp[hd,p.take]
variable{M:Nat}
section
variable{ct:CT}{F:Nat->Option Fn}
theorem L5{g:List (Nat×Cell)}{p:Pat}{body:l0->AH->R Out}(P:Nat->l0->AH->Prop)(gk:∀j env h,P j env h->gOk g h=true):∀(l:List D) (i:Nat) (env:l0) (h:AH),
 (∀j x env h,l[j]? =some x->P (i+j) env h->∃bV bv h',w6 p x env=some bV/\body bV h=.ok (.nx bv) h'/\P (i+j+1) bv h')->P i env h->∃bv h',G9 g p body l env h=.ok (.nx bv) h'/\P (i+l.length) bv h'
 |[],i,env,h,_,q=>⟨env,h,by rw[G9,ay (gk _ _ _ q)],q⟩
 | x::r,i,env,h,st,q=>by
  obtain⟨bV,bv,h',b1,b2,q'⟩:=st 0 x env h rfl q;obtain⟨env2,h2,e2,q2⟩:=L5 P gk r (i+1) bv h' (λj y env h hj hq=>by have:=st (j+1) y env h (by simpa using hj) (by rw[show i+(j+1)=i+1+j by omega];exact hq);rw[show i+(j+1)+1=i+1+j+1 by omega] at this;exact this) q'
  refine⟨env2,h2,?_,by rw[length_cons,show i+(r.length+1)=i+1+r.length by omega];exact q2⟩;rw[G9,ay (gk _ _ _ q),b1];simp only;rw[b2];exact e2
theorem L3(e:h[n]? =some (.lst xs))(hl:xs.length<1000000):mtD .append h (.ref n) [d]=.ok .non (h.set n (.lst (xs++[d]))):=by simp only[mtD,e];rw[ay (show xs.length<16777216 by omega)]
theorem F5(e:h[n]? =some (.lst xs)):mtT .append h (.ref n)=true:=by simp only[mtT,rdL,e,Option.isSome_some]
theorem a2R{m:Nat}{x:D}(h:((List.range m).map λi=>D.int ((0:Int)+(i:Nat)))[j]? =some x):j<m/\x=.int (j:Int):=by
 have hj:j<m:=by
  have:=(ae.mp h).1
  simpa using this
 refine⟨hj,?_⟩;rw[ak,List.getElem?_range hj] at h;have h:=ax h;rw[←h];show D.int (0+(j:Int))=_;rw[Int.zero_add]
def shD(sh:List (Str×Nat)):List D:=sh.map λp=>.tup [.str p.1,.int (p.2:Int)]
structure Shs(sh:List (Str×Nat)):Prop where
 lo:4<=sh.length
 hi:sh.length<=16
 nd:(sh.map (·.1)).Nodup
 ok:∀p∈sh,b9 p.1=true/\p.2<99999
theorem K9:∀{l:List D},(∀d∈l,d.flat=true)->D.flats l=true
 |[],_=>rfl
 |d::r,h=>by rw[D.flats,h d (.head _),K9 λx hx=>h x (.tail _ hx)];rfl
theorem b1r(sh:List (Str×Nat)):D.flats (shD sh)=true:=K9 λd hd=>by obtain⟨p,_,rfl⟩:=am.mp hd;rfl
theorem a2p:∀(ns:List Str) (ws:List Nat),O1 (ns.map .str) (ws.map λw=>.int ((w:Nat):Int))=shD (ns.zip ws)
 |[],_=>rfl
 |_::_,[]=>rfl
 |n::ns,w::ws=>by show D.tup [.str n,.int ((w:Nat):Int)]::O1 _ _=_;rw[a2p ns ws];rfl
theorem b3W{l:List Nat}{i:Nat}(hl:l.length=4):∃w,(l.map λw=>D.int ((w:Nat):Int))[i%4]? =some (.int ((w:Nat):Int))/\w∈l:=by
 have lt:i%4<l.length:=by rw[hl];exact eY _ (by decide)
 exact⟨l[i%4],by rw[ak,ai lt];rfl,bh lt⟩
theorem a9n(he:env[5]? =some (some (.int (M:Int)))):∃w t,w<99999/\ev ct c wE env h=.ok (.int ((w:Nat):Int)) (h++[t]):=by
 have d4:∀h,v5 h (.int (M:Int)) (.int 4)=.ok (.int ((M/4:Nat):Int)) h:=λh=>J0 4 (by decide) (by decide);have m4:∀h,u0 h (.int (M:Int)) (.int 4)=.ok (.int ((M%4:Nat):Int)) h:=λh=>D0 4 (by decide);have m20:∀(a:Nat) h,u0 h (.int (a:Int)) (.int 20)=.ok (.int ((a%20:Nat):Int)) h:=λa h=>D0 20 (by decide);have m1000:∀(a:Nat) h,u0 h (.int (a:Int)) (.int 1000)=.ok (.int ((a%1000:Nat):Int)) h:=λa h=>D0 1000 (by decide);have m9:∀(a:Nat) h,u0 h (.int (a:Int)) (.int 99999)=.ok (.int ((a%99999:Nat):Int)) h:=λa h=>D0 99999 (by decide);obtain⟨w,h1,h2⟩:=b3W (l:=[0,M/4%20,M/4%1000,M/4%99999]) (i:=M) rfl;refine⟨w,.lst [.int ((0:Nat):Int),.int ((M/4%20:Nat):Int),.int ((M/4%1000:Nat):Int),.int ((M/4%99999:Nat):Int)],?_,?_⟩
 · simp only[aE,not_mem_nil,fW] at h2;rcases h2 with rfl|rfl|rfl|rfl
   · decide
   · exact ga (eY _ (show 0<20 by decide)) (by decide)
   · exact ga (eY _ (show 0<1000 by decide)) (by decide)
   · exact eY _ (by decide)
 · unfold wE;have hx:ixD (h++[.lst [.int 0,.int ((M/4%20:Nat):Int),.int ((M/4%1000:Nat):Int),.int ((M/4%99999:Nat):Int)]]) (.ref h.length) (.int ((M%4:Nat):Int))=.ok (.int ((w:Nat):Int)) (h++[.lst [.int 0,.int ((M/4%20:Nat):Int),.int ((M/4%1000:Nat):Int),.int ((M/4%99999:Nat):Int)]]):=E1 b6 h1
   simp_arith[he,op2,d4,m4,m20,m1000,m9,u9,hx];rfl
variable(bG:F 202=some o8)(bU:F 203=some m8)
include bG bU
theorem a8z{k:Nat}{c:Int}(hF:F 204=some B7):∃sh,Shs sh/\b4 ct F (k+2) 204 [.int c] h=.ok (.ref h.length) (h++[.lst (shD sh)]):=by
 obtain⟨M,hM⟩:=D1 (ct:=ct) (k:=k) (c:=c) (j:=1) (h:=h) bG (by decide);have d13:v5 h (.int (M:Int)) (.int 13)=.ok (.int ((M/13:Nat):Int)) h:=J0 13 (by decide) (by decide);have m13:u0 h (.int (M:Int)) (.int 13)=.ok (.int ((M%13:Nat):Int)) h:=D0 13 (by decide);have a4:(4:Int)+((M%13:Nat):Int)=((4+M%13:Nat):Int):=by omega
 have m16:M%13<13:=eY _ (by decide);obtain⟨ns,nk,hN⟩:=X4 (ct:=ct) (k:=k) (c:=M/13) (m:=4+M%13) (h:=h) bU (by omega);generalize hm:4+M%13=m at nk hN a4;rw[i9 hF rfl];simp only[B7];rw[seq (by simp_arith[hM];rfl),seq (by simp_arith[op2,d13,m13,l8,a4,hN];rfl)];have l1:(h++[Cell.lst (ns.map D.str)]).length=h.length+1:=by simp
 rw[seq (by simp_arith[u9,l1];rfl)];have gN:(h++[Cell.lst (ns.map D.str)]++[Cell.lst []])[h.length]? =some (.lst (ns.map .str)):=b5 b6;have gW:(h++[Cell.lst (ns.map D.str)]++[Cell.lst []])[h.length+1]? =some (.lst []):=by rw[←l1];exact b6
 have pf:Pf h (h++[Cell.lst (ns.map D.str)]++[Cell.lst []]):=((Pf.refl h).app _).app _;generalize h++[Cell.lst (ns.map D.str)]++[Cell.lst []]=g at gN gW pf;have len:biD .len g [.ref h.length]=.ok (.int (m:Int)) g:=by rw[o0 gN,aa,nk.len]
 obtain⟨bv,g',e1,ws,e4,e5,rfl,q2,q3,q4,q5,q6⟩:=L5 (g:=[]) (p:=.nm 4) (body:=exs ct (b4 ct F (k+1)) wB) (λj env hh=>∃ws:List Nat,∃e4 e5,env=[some (.int c),some (.int (M:Int)),some (.ref h.length),some (.ref (h.length+1)),e4,e5]/\Pf h hh/\hh[h.length]? =some (.lst (ns.map .str))/\hh[h.length+1]? =some (.lst (ws.map λw=>.int ((w:Nat):Int)))/\ws.length=j/\∀w∈ws,w<99999) (λ_ _ _ _=>rfl) ((List.range m).map λi=>.int ((0:Int)+(i:Nat))) 0 [some (.int c),some (.int (M:Int)),some (.ref h.length),some (.ref (h.length+1)),none,none] g (λj x env hh hx hP=>by
  obtain⟨ws,e4,e5,rfl,p1,p2,p3,p4,p5⟩:=hP;obtain⟨hj,rfl⟩:=a2R hx;rw[aB] at p4⊢;have a10:((j:Nat):Int)+10=((j+10:Nat):Int):=by omega
  obtain⟨N,hN⟩:=D1 (ct:=ct) (k:=k) (c:=c) (j:=((j+10:Nat):Int)) (h:=hh) bG (by omega);obtain⟨w,t,w1,w2⟩:=a9n (ct:=ct) (c:=b4 ct F (k+1)) (M:=N) (env:=[some (.int c),some (.int (M:Int)),some (.ref h.length),some (.ref (h.length+1)),some (.int (j:Int)),some (.int (N:Int))]) (h:=hh) rfl;refine⟨_,[some (.int c),some (.int (M:Int)),some (.ref h.length),some (.ref (h.length+1)),some (.int (j:Int)),some (.int (N:Int))],(hh++[t]).set (h.length+1) (.lst ((ws.map λw=>D.int ((w:Nat):Int))++[.int ((w:Nat):Int)])),rfl,?_,ws++[w],_,_,rfl,(p1.app _).set (gq _),b7 (by omega) (b5 p2),?_,by rw[aq,p4];rfl,λx hx=>?_⟩
  · show exs ct (b4 ct F (k+1)) wB [some (.int c),some (.int (M:Int)),some (.ref h.length),some (.ref (h.length+1)),some (.int (j:Int)),e5] hh=_;unfold wB;rw[seq (by simp_arith[op2,l8,a10,hN];rfl)]
    simp_arith[F5 p3,w2,L3 (b5 (g:=[t]) p3) (by rw[aa,p4];omega)]
  · rw[x4 (b5 p3)];simp
  · rcases aI.mp hx with hx|hx
    · exact p5 x hx
    · rw[aM.mp hx];exact w1) ⟨[],none,none,rfl,pf,gN,gW,rfl,λ_ h=>nomatch h⟩
 rw[aa,aH,aB] at q5;rw[seq (by simp_arith[len,a1x (h:=g) (m:=m) (by omega),e1];rfl)];have cz:=y9 (ct:=ct) (c:=b4 ct F (k+1)) (p:=.tp (.cons (.nm 0) (.cons (.nm 1) .nil))) (it:=.zip (.v 2) (.v 3)) (n:=2) (fr:=[]) (e:=.tup (.cons (.v 0) (.o (.v 1)))) (env:=[some (.int c),some (.int (M:Int)),some (.ref h.length),some (.ref (h.length+1)),e4,e5]) (h:=g') (l:=O1 (ns.map .str) (ws.map λw=>.int ((w:Nat):Int))) (g:=[(h.length,.lst (ns.map .str)),(h.length+1,.lst (ws.map λw=>.int ((w:Nat):Int)))]) (h1:=g') (by simp_arith[a8o,b2i,a3Y,q3,q4]) (by simp[gOk,q3,q4]) id (λd=>match d with|.tup [a,b]=>[some a,some b]|_=>[]) (λx hx=>by
  rw[a2p] at hx;obtain⟨p,_,rfl⟩:=am.mp hx;refine⟨rfl,?_⟩
  simp_arith[id]) (by
  rw[a2p];unfold shD;rw[aa,List.length_zip];show _<=16777216;have:=nk.len;omega)
 rw[map_id,a2p] at cz;have zl:(ns.zip ws).length=m:=by rw[List.length_zip,nk.len,q5];omega
 have zf:(ns.zip ws).map (·.1)=ns:=by rw[List.map_fst_zip];rw[nk.len,q5];exact aj _
 refine⟨ns.zip ws,⟨by omega,by omega,by rw[zf];exact nk.nd,λp hp=>⟨nk.ok _ (of_mem_zip hp).1,q6 _ (of_mem_zip hp).2⟩⟩,?_⟩
 simp_arith[cz];exact a9b (q2.app _) b6 q2.len (b1r _)
end
def spD(p:Int×Int):D:=.tup [.int p.1,.int p.2]
def V9(p:Int×Int):Prop:=(-99999<=p.1/\p.1<=99999)/\ -99999<=p.2/\p.2<=99999
structure Mk where
 n:Str
 s:Str
 a:Int×Int
 b:Int×Int
def mkD(m:Mk):D:=.tup [.str m.n,.str m.s,spD m.a,spD m.b]
def a0o(s:Str):Prop:=s="above"∨s="below"
variable{sh:List (Str×Nat)}
theorem a6O(hj:j<sh.length):(shD sh)[j]? =some (.tup [.str (sh[j]).1,.int ((sh[j]).2:Int)]):=by unfold shD;rw[ak,ai hj];rfl
theorem ix_tup{i:Nat}(hd:xs[i]? =some d):ixD h (.tup xs) (.int (i:Nat))=.ok d h:=by
 have hi:=(ae.mp hd).1;have:atI xs (i:Int)=some d:=by
  show(ixN xs.length (i:Int)).bind (λj=>xs[j]?)=some d;have e:ixN xs.length (i:Int)=some i:=by unfold ixN;rw[ay (by omega),ay (by omega)];simp
  rw[e];exact hd
 simp only[ixD,this]
theorem a1s{a:D}{r:List D}:ixD h (.tup (a::r)) (.int 0)=.ok a h:=ix_tup (i:=0) rfl
variable{β:Type}
section
variable{ct:CT}{F:Nat->Option Fn}
theorem a4x{k m:Nat}(hF:F 205=some w5):∃p,V9 p/\b4 ct F (k+1) 205 [.int (m:Int)] h=.ok (spD p) h:=by
 have m41:∀h,u0 h (.int (m:Int)) (.int 41)=.ok (.int ((m%41:Nat):Int)) h:=λh=>D0 41 (by decide);have d41:∀h,v5 h (.int (m:Int)) (.int 41)=.ok (.int ((m/41:Nat):Int)) h:=λh=>J0 41 (by decide) (by decide);have d7:∀h,v5 h (.int (m:Int)) (.int 7)=.ok (.int ((m/7:Nat):Int)) h:=λh=>J0 7 (by decide) (by decide);have m9:∀(a:Nat) h,u0 h (.int (a:Int)) (.int 99999)=.ok (.int ((a%99999:Nat):Int)) h:=λa h=>D0 99999 (by decide);have m3:∀(a:Nat) h,u0 h (.int (a:Int)) (.int 3)=.ok (.int ((a%3:Nat):Int)) h:=λa h=>D0 3 (by decide);have sb:∀h,a5S h (.int ((m%41:Nat):Int)) (.int 20)=.ok (.int (((m%41:Nat):Int)-20)) h:=λh=>rfl;have l9:m/41%99999<99999:=eY _ (by decide);have l41:m%41<41:=eY _ (by decide);have ix:∃y:Int,(-99999<=y/\y<=99999)/\([.int 0,.int ((m/41%99999:Nat):Int),.int (-((m/41%99999:Nat):Int))]:List D)[m/7%3]? =some (.int y):=by
  have:m/7%3=0∨m/7%3=1∨m/7%3=2:=(by decide:∀r:Nat,r<3->r=0∨r=1∨r=2) (m/7%3) (eY _ (by decide));rcases this with e|e|e<;>rw[e]
  · exact⟨0,by decide,rfl⟩
  · exact⟨_,by omega,rfl⟩
  · exact⟨_,by omega,rfl⟩
 obtain⟨y,y1,y2⟩:=ix;refine⟨(((m%41:Nat):Int)-20,y),⟨by simp only;omega,y1⟩,?_⟩;have hx:ixD (h++[.lst [.int 0,.int ((m/41%99999:Nat):Int),.int (-((m/41%99999:Nat):Int))]]) (.ref h.length) (.int ((m/7%3:Nat):Int))=.ok (.int y) (h++[.lst [.int 0,.int ((m/41%99999:Nat):Int),.int (-((m/41%99999:Nat):Int))]]):=E1 b6 y2;rw[i9 hF rfl];simp only[w5];simp_arith[op2,m41,sb,d41,m9,d7,m3,u9,hx];exact gc1 rfl
theorem b2H(he:env[4]? =some (some (.int (M:Int)))):∃s t,a0o s/\ev ct c a9H env h=.ok (.str s) (h++[t]):=by
 have d4:∀h,v5 h (.int (M:Int)) (.int 4)=.ok (.int ((M/4:Nat):Int)) h:=λh=>J0 4 (by decide) (by decide);have m2:∀(a:Nat) h,u0 h (.int (a:Int)) (.int 2)=.ok (.int ((a%2:Nat):Int)) h:=λa h=>D0 2 (by decide);have ix:∃s:Str,a0o s/\([.str "above",.str "below"]:List D)[M/4%2]? =some (.str s):=by
  have:M/4%2=0∨M/4%2=1:=(by decide:∀r:Nat,r<2->r=0∨r=1) (M/4%2) (eY _ (by decide));rcases this with e|e<;>rw[e]
  · exact⟨"above",.inl rfl,rfl⟩
  · exact⟨"below",.inr rfl,rfl⟩
 obtain⟨s,s1,s2⟩:=ix;refine⟨s,.lst [.str "above",.str "below"],s1,?_⟩;have hx:ixD (h++[.lst [.str "above",.str "below"]]) (.ref h.length) (.int ((M/4%2:Nat):Int))=.ok (.str s) (h++[.lst [.str "above",.str "below"]]):=E1 b6 s2;unfold a9H;simp_arith[he,op2,d4,m2,u9,hx]
theorem b1u(ms:List Mk):D.flats (ms.map mkD)=true:=K9 λd hd=>by obtain⟨p,_,rfl⟩:=am.mp hd;rfl
theorem a5C{f:α->β}{l:List α}(hj:j<l.length){r:List β}(h:r.Sublist ((l.take j).map f)):r.Sublist ((l.take (j+1)).map f)/\(r++[f l[j]]).Sublist ((l.take (j+1)).map f):=by rw[fA hj,ao];exact⟨h.trans (List.sublist_append_left _ _),h.append (List.Sublist.refl _)⟩
variable(bG:F 202=some o8)(cH:F 205=some w5)
include bG cH
theorem b0E{k s:Nat}{c:Int}(hF:F 206=some D2)(hs:Shs sh)(hh:h[s]? =some (.lst (shD sh))):∃ms:List Mk,(ms.map (·.n)).Sublist (sh.map (·.1))/\(∀m∈ms,a0o m.s/\V9 m.a/\V9 m.b)/\b4 ct F (k+2) 206 [.int c,.ref s] h=.ok (.ref h.length) (h++[.lst (ms.map mkD)]):=by
 have sl:s<h.length:=(ae.mp hh).1;have hi:=hs.hi;rw[i9 hF rfl];simp only[D2];rw[seq (by simp_arith[u9];rfl)];have len:biD .len (h++[.lst []]) [.ref s]=.ok (.int (sh.length:Int)) (h++[.lst []]):=by rw[o0 (b5 hh)];unfold shD;rw[aa]
 obtain⟨bv,g',e1,ms,e3,e4,e5,rfl,q2,q3,q4,q5⟩:=L5 (g:=[]) (p:=.nm 3) (body:=exs ct (b4 ct F (k+1)) mkB) (λj env g=>∃ms:List Mk,∃e3 e4 e5,env=[some (.int c),some (.ref s),some (.ref h.length),e3,e4,e5]/\Pf h g/\g[h.length]? =some (.lst (ms.map mkD))/\(ms.map (·.n)).Sublist ((sh.take j).map (·.1))/\∀m∈ms,a0o m.s/\V9 m.a/\V9 m.b) (λ_ _ _ _=>rfl) ((List.range sh.length).map λi=>.int ((0:Int)+(i:Nat))) 0 [some (.int c),some (.ref s),some (.ref h.length),none,none,none] (h++[.lst []]) (λj x env g hx hP=>by
  obtain⟨ms,e3,e4,e5,rfl,p1,p2,p3,p4⟩:=hP;obtain⟨hj,rfl⟩:=a2R hx;rw[aB] at p3⊢;obtain⟨t1,t2⟩:=a5C hj p3;have a40:((j:Nat):Int)+40=((j+40:Nat):Int):=by omega
  obtain⟨N,hN⟩:=D1 (ct:=ct) (k:=k) (c:=c) (j:=((j+40:Nat):Int)) (h:=g) bG (by omega);have m4:u0 g (.int (N:Int)) (.int 4)=.ok (.int ((N%4:Nat):Int)) g:=D0 4 (by decide);show∃bV bv h',_/\exs ct (b4 ct F (k+1)) mkB bV g=_/\_;unfold mkB
  by_cases hb:((N%4:Nat):Int)=1
  · have q1:D8 g (.int ((N%4:Nat):Int)) (.int 1)=.ok (.bl true) g:=by rw[hb];rfl
    obtain⟨sd,t,s1,s2⟩:=b2H (ct:=ct) (c:=b4 ct F (k+1)) (M:=N) (env:=[some (.int c),some (.ref s),some (.ref h.length),some (.int (j:Int)),some (.int (N:Int)),e5]) (h:=g) rfl;obtain⟨pa,a1,a2⟩:=a4x (ct:=ct) (k:=k) (m:=N/8) (h:=g++[t]) cH;obtain⟨pb,b1,b2⟩:=a4x (ct:=ct) (k:=k) (m:=N/8000) (h:=g++[t]) cH;have d8:v5 (g++[t]) (.int (N:Int)) (.int 8)=.ok (.int ((N/8:Nat):Int)) (g++[t]):=J0 8 (by decide) (by decide);have d8k:v5 (g++[t]) (.int (N:Int)) (.int 8000)=.ok (.int ((N/8000:Nat):Int)) (g++[t]):=J0 8000 (by decide) (by decide);have sx:ixD (g++[t]) (.ref s) (.int (j:Int))=.ok (.tup [.str (sh[j]).1,.int ((sh[j]).2:Int)]) (g++[t]):=E1 (b5 (p1.at hh)) (a6O hj);have ml:(ms.map mkD).length<1000000:=by have:=t1.length_le;rw[aa] at this⊢;rw[aa,aJ] at this;omega
    refine⟨_,[some (.int c),some (.ref s),some (.ref h.length),some (.int (j:Int)),some (.int (N:Int)),some (.str sd)],(g++[t]).set h.length (.lst (ms.map mkD++[mkD ⟨(sh[j]).1,sd,pa,pb⟩])),rfl,?_,ms++[⟨(sh[j]).1,sd,pa,pb⟩],_,_,_,rfl,(p1.app _).set (aj _),?_,?_,λm hm=>?_⟩
    · show exs ct (b4 ct F (k+1)) _ [some (.int c),some (.ref s),some (.ref h.length),some (.int (j:Int)),e4,e5] g=_;rw[seq (by simp_arith[op2,l8,a40,hN];rfl)];unfold b8T;simp_arith[op2,m4,q1,s2,F5 (b5 (g:=[t]) p2),sx,a1s,d8,a2,d8k,b2,L3 (b5 (g:=[t]) p2) ml,mkD]
    · rw[x4 (b5 p2),ao];rfl
    · rw[ao];exact t2
    · rcases aI.mp hm with hm|hm
      · exact p4 m hm
      · rw[aM.mp hm];exact⟨s1,a1,b1⟩
  · have q1:D8 g (.int ((N%4:Nat):Int)) (.int 1)=.ok (.bl false) g:=by simp only[D8,eqS,hb,eZ]
    refine⟨_,[some (.int c),some (.ref s),some (.ref h.length),some (.int (j:Int)),some (.int (N:Int)),e5],g,rfl,?_,ms,_,_,_,rfl,p1,p2,t1,p4⟩;rw[seq (by simp_arith[op2,l8,a40,hN];rfl)]
    simp_arith[op2,m4,q1]) ⟨[],none,none,none,rfl,(Pf.refl h).app _,b6,List.nil_sublist _,λ_ h=>nomatch h⟩
 rw[aa,aH,aB,aX] at q4;refine⟨ms,q4,q5,?_⟩;rw[seq (by simp_arith[len,a1x (h:=h++[.lst []]) (m:=sh.length) (by omega),e1];rfl)]
 simp_arith[];exact a9b q2 q3 (aj _) (b1u _)
end
structure Pt where
 n:Str
 s:Str
 a:Int×Int
def ptD(p:Pt):D:=.tup [.str p.n,.str p.s,spD p.a]
def ptK(p:Pt):Str×Str:=(p.n,p.s)
theorem b1t(ms:List Pt):D.flats (ms.map ptD)=true:=K9 λd hd=>by obtain⟨p,_,rfl⟩:=am.mp hd;rfl
variable{N:Nat}
section
variable{ct:CT}{F:Nat->Option Fn}
theorem a8y(N:Nat):∃l:List Str,U2 [.str "above",.str "below"] (some ((N%2:Nat):Int)) none=l.map .str/\l.Nodup/\(∀s∈l,a0o s)/\l.length<=2:=by
 have:N%2=0∨N%2=1:=(by decide:∀r:Nat,r<2->r=0∨r=1) (N%2) (eY _ (by decide));rw[Q5];rcases this with e|e<;>rw[e]
 · exact⟨["above","below"],rfl,by decide,λs hs=>by simp only[aE,not_mem_nil,fW] at hs;exact hs,by decide⟩
 · exact⟨["below"],rfl,by decide,λs hs=>.inr (aM.mp hs),by decide⟩
variable(bG:F 202=some o8)(cH:F 205=some w5)
include cH
theorem a9Z{k s a:Nat}{c:Int}{ps:List Pt}{l:List Str}(hh:h[s]? =some (.lst (shD sh)))(hj:j<sh.length)(ha:a=h.length)(hn:a<n)(p1:Pf h g)(p2:g[a]? =some (.lst (ps.map ptD)))(p3:g[n]? =some (.lst (l.map .str)))(hl:ps.length<=1000)(l2:l.length<=2)(e5:Option D)(sd:∀s∈l,a0o s):
 ∃qs e5' g',G9 [(n,.lst (l.map .str))] (.nm 5) (exs ct (b4 ct F (k+1)) b0c) (l.map .str) [some (.int c),some (.ref s),some (.ref a),some (.int (j:Int)),some (.int (N:Int)),e5] g=.ok (.nx [some (.int c),some (.ref s),some (.ref a),some (.int (j:Int)),some (.int (N:Int)),e5']) g'/\Pf h g'/\g'[a]? =some (.lst ((ps++qs).map ptD))/\(qs.map ptK).Sublist (l.map λs=>((sh[j]).1,s))/\∀q∈qs,a0o q.s/\V9 q.a:=by
 obtain⟨bv,g',e1,qs,e5',rfl,q1,q2,q3,q4,q5⟩:=L5 (g:=[(n,.lst (l.map .str))]) (p:=.nm 5) (body:=exs ct (b4 ct F (k+1)) b0c) (λi env gg=>∃qs:List Pt,∃e5,env=[some (.int c),some (.ref s),some (.ref a),some (.int (j:Int)),some (.int (N:Int)),e5]/\Pf h gg/\gg[a]? =some (.lst ((ps++qs).map ptD))/\gg[n]? =some (.lst (l.map .str))/\(qs.map ptK).Sublist ((l.take i).map λs=>((sh[j]).1,s))/\∀q∈qs,a0o q.s/\V9 q.a) (λi env gg hP=>by
  obtain⟨_,_,_,_,_,h3,_⟩:=hP;simp[gOk,h3]) (l.map .str) 0 [some (.int c),some (.ref s),some (.ref a),some (.int (j:Int)),some (.int (N:Int)),e5] g (λi x env gg hx hP=>by
  obtain⟨qs,e5,rfl,r1,r2,r3,r4,r5⟩:=hP;have hi:i<l.length:=by simpa using(ae.mp hx).1
  rw[ak,ai hi] at hx;obtain rfl:D.str l[i]=x:=ax hx;rw[aB] at r4⊢;obtain⟨t1,t2⟩:=a5C (f:=λs=>((sh[j]).1,s)) hi r4;have d2:∀h,v5 h (.int (N:Int)) (.int 2)=.ok (.int ((N/2:Nat):Int)) h:=λh=>J0 2 (by decide) (by decide);have m3:∀(a:Nat) h,u0 h (.int (a:Int)) (.int 3)=.ok (.int ((a%3:Nat):Int)) h:=λa h=>D0 3 (by decide);have d6:v5 gg (.int (N:Int)) (.int 6)=.ok (.int ((N/6:Nat):Int)) gg:=J0 6 (by decide) (by decide);show∃bV bv h',_/\exs ct (b4 ct F (k+1)) b0c bV gg=_/\_;unfold b0c
  by_cases hb:(0:Int)<((N/2%3:Nat):Int)
  · obtain⟨p,a1,a2⟩:=a4x (ct:=ct) (k:=k) (m:=N/6) (h:=gg) cH;have sx:ixD gg (.ref s) (.int (j:Int))=.ok (.tup [.str (sh[j]).1,.int ((sh[j]).2:Int)]) gg:=E1 (r1.at hh) (a6O hj);have ml:((ps++qs).map ptD).length<1000000:=by have:=t1.length_le;rw[aa,aq];rw[aa,aa,aJ] at this;omega
    refine⟨_,[some (.int c),some (.ref s),some (.ref a),some (.int (j:Int)),some (.int (N:Int)),some (.str l[i])],gg.set a (.lst ((ps++qs).map ptD++[ptD ⟨(sh[j]).1,l[i],p⟩])),rfl,?_,qs++[⟨(sh[j]).1,l[i],p⟩],_,rfl,r1.set (by omega),?_,b7 (by omega) r3,?_,λq hq=>?_⟩
    · show exs ct (b4 ct F (k+1)) _ [some (.int c),some (.ref s),some (.ref a),some (.int (j:Int)),some (.int (N:Int)),some (.str l[i])] gg=_
      simp_arith[op2,d2,m3,E3,hb,eX,F5 r2,sx,a1s,d6,a2,L3 r2 ml,ptD]
    · rw[x4 r2,←aA,ao (l₁:=ps++qs)];rfl
    · rw[ao];exact t2
    · rcases aI.mp hq with hq|hq
      · exact r5 q hq
      · rw[aM.mp hq];exact⟨sd _ (bh hi),a1⟩
  · refine⟨_,[some (.int c),some (.ref s),some (.ref a),some (.int (j:Int)),some (.int (N:Int)),some (.str l[i])],gg,rfl,?_,qs,_,rfl,r1,r2,r3,t1,r5⟩
    simp_arith[op2,d2,m3,E3,hb,eZ]) ⟨[],e5,rfl,p1,by rw[aV];exact p2,p3,List.nil_sublist _,λ_ h=>nomatch h⟩
 rw[aa,aB,aX] at q4;exact⟨qs,e5',g',e1,q1,q2,q4,q5⟩
include bG
theorem a8H{k s:Nat}{c:Int}(hF:F 207=some B9)(hs:Shs sh)(hh:h[s]? =some (.lst (shD sh))):∃ps:List Pt,(ps.map ptK).Nodup/\ps.length<=100/\(∀p∈ps,p.n∈sh.map (·.1)/\a0o p.s/\V9 p.a)/\b4 ct F (k+2) 207 [.int c,.ref s] h=.ok (.ref h.length) (h++[.lst (ps.map ptD)]):=by
 have hi:=hs.hi;rw[i9 hF rfl];simp only[B9];rw[seq (by simp_arith[u9];rfl)];have len:biD .len (h++[.lst []]) [.ref s]=.ok (.int (sh.length:Int)) (h++[.lst []]):=by rw[o0 (b5 hh)];unfold shD;rw[aa]
 obtain⟨bv,g',e1,ps,e3,e4,e5,rfl,q2,q3,q4,q5,q6,q7⟩:=L5 (g:=[]) (p:=.nm 3) (body:=exs ct (b4 ct F (k+1)) ptB) (λj env g=>∃ps:List Pt,∃e3 e4 e5,env=[some (.int c),some (.ref s),some (.ref h.length),e3,e4,e5]/\Pf h g/\g[h.length]? =some (.lst (ps.map ptD))/\(ps.map ptK).Nodup/\ps.length<=2*j/\(∀p∈ps,p.n∈(sh.take j).map (·.1))/\∀p∈ps,a0o p.s/\V9 p.a) (λ_ _ _ _=>rfl) ((List.range sh.length).map λi=>.int ((0:Int)+(i:Nat))) 0 [some (.int c),some (.ref s),some (.ref h.length),none,none,none] (h++[.lst []]) (λj x env g hx hP=>by
  obtain⟨ps,e3,e4,e5,rfl,p1,p2,p3,p4,p5,p6⟩:=hP;obtain⟨hj,rfl⟩:=a2R hx;rw[aB] at p4 p5⊢;have a70:((j:Nat):Int)+70=((j+70:Nat):Int):=by omega
  obtain⟨N,hN⟩:=D1 (ct:=ct) (k:=k) (c:=c) (j:=((j+70:Nat):Int)) (h:=g) bG (by omega);have m2:∀h,u0 h (.int (N:Int)) (.int 2)=.ok (.int ((N%2:Nat):Int)) h:=λh=>D0 2 (by decide);obtain⟨l,l1,l2,l3,l4⟩:=a8y N;have sl:slD (g++[.lst [.str "above",.str "below"]]) (some ((N%2:Nat):Int)) none (.ref g.length)=.ok (.ref (g.length+1)) (g++[.lst [.str "above",.str "below"]]++[.lst (l.map .str)]):=by rw[Q0 b6,l1];simp
  have gl:h.length<g.length:=(ae.mp p2).1;have gn:(g++[Cell.lst [.str "above",.str "below"]]++[.lst (l.map .str)])[g.length+1]? =some (.lst (l.map .str)):=by have:=b6 (h:=g++[Cell.lst [.str "above",.str "below"]]) (c:=.lst (l.map .str));rw[aq] at this;exact this
  obtain⟨qs,e5',g2,f1,f2,f3,f4,f5⟩:=a9Z (ct:=ct) (k:=k) (c:=c) (N:=N) cH hh hj rfl (ga gl (aP _)) ((p1.app _).app _) (b5 (b5 p2)) gn (by omega) l4 e5 l3;have nw:(sh[j]).1∉(sh.take j).map (·.1):=λhm=>by have nd:=hs.nd;rw[←List.take_append_drop j sh,fU hj,ao,map_cons] at nd;have:=nodup_append.mp nd;exact this.2.2 _ hm _ (.head _) rfl
  refine⟨_,[some (.int c),some (.ref s),some (.ref h.length),some (.int (j:Int)),some (.int (N:Int)),e5'],g2,rfl,?_,ps++qs,_,_,_,rfl,f2,f3,?_,?_,λp hp=>?_,λp hp=>?_⟩
  · show exs ct (b4 ct F (k+1)) ptB [some (.int c),some (.ref s),some (.ref h.length),some (.int (j:Int)),e4,e5] g=_;unfold ptB;rw[seq (by simp_arith[op2,l8,a70,hN];rfl)]
    simp_arith[u9,op2,m2,sl,W5,gn,f1]
  · rw[ao];refine nodup_append.mpr ⟨p3,f4.nodup (a0h _ l2 λa _ b _ e=>(Prod.mk.inj e).2),λa ha b hb e=>?_⟩;obtain⟨p,hp,rfl⟩:=am.mp ha;have hb:=f4.subset hb;obtain⟨y,_,rfl⟩:=am.mp hb;refine nw ?_;have e1:p.n=(sh[j]).1:=(Prod.mk.inj e).1;rw[←e1];exact p5 p hp
  · have:=f4.length_le;rw[aa,aa] at this;rw[aq];omega
  · rw[fA hj,ao];rcases aI.mp hp with hp|hp
    · exact mem_append_left _ (p5 p hp)
    · have:=f4.subset (List.mem_map_of_mem hp);obtain⟨y,_,e⟩:=am.mp this;refine mem_append_right _ ?_;have e1:(sh[j]).1=p.n:=(Prod.mk.inj e).1;rw[←e1];exact .head _
  · rcases aI.mp hp with hp|hp
    · exact p6 p hp
    · exact f5 p hp) ⟨[],none,none,none,rfl,(Pf.refl h).app _,b6,nodup_nil,fq _,(λ_ h=>nomatch h),λ_ h=>nomatch h⟩
 rw[aa,aH,aB] at q5 q6;rw[aX] at q6;refine⟨ps,q4,by omega,λp hp=>⟨q6 p hp,q7 p hp⟩,?_⟩;rw[seq (by simp_arith[len,a1x (h:=h++[.lst []]) (m:=sh.length) (by omega),e1];rfl)]
 simp_arith[];exact a9b q2 q3 (aj _) (b1t _)
end
def pk(sh:List (Str×Nat))(x:Nat):Str:=match sh[x%sh.length]? with
 |some p=>p.1
 |none=>""
theorem a5P(hs:4<=sh.length)(x:Nat):pk sh x∈sh.map (·.1)/\∃w,(shD sh)[x%sh.length]? =some (.tup [.str (pk sh x),w]):=by have lt:x%sh.length<sh.length:=eY _ (by omega);unfold pk;rw[ai lt];exact⟨List.mem_map_of_mem (bh lt),_,a6O lt⟩
structure Lt where
 n:Str
 j:Str
 w:Str
 fs:List Str
def ltD(l:Lt):D:=.tup [.str l.n,.str l.j,.str l.w,.tup (l.fs.map .str)]
structure LtOk(sh:List (Str×Nat))(l:Lt):Prop where
 nm:b9 l.n=true
 jn:o7 a6c (.str l.j)=some (.int l.fs.length)
 few:1<=l.fs.length/\l.fs.length<=4
 wy:inD (.str l.w) [.str "left",.str "right",.str "either"]=true
 js:l.j="both"∨l.j="back"∨l.j="none"∨l.j="clear"
 ws:l.w="left"∨l.w="right"∨l.w="either"
 fs:∀f∈l.fs,f∈sh.map (·.1)
theorem b1v(ms:List Lt):D.flats (ms.map ltD)=true:=K9 λd hd=>by obtain⟨p,_,rfl⟩:=am.mp hd;show D.flats [.str p.n,.str p.j,.str p.w,.tup (p.fs.map .str)]=true;simp only[D.flats,D.flat,J3,fY]
def jnL:List Str:=["both","back","none","both","clear","both"]
theorem b8V(i:Nat):∃j n,jnL[i%6]? =some j/\o7 jnD (.str j)=some (.int ((n:Nat):Int))/\z9 (.str j) jnD=true/\o7 a6c (.str j)=some (.int ((n:Nat):Int))/\(1<=n/\n<=4)/\(j="both"∨j="back"∨j="none"∨j="clear"):=by
 have:i%6=0∨i%6=1∨i%6=2∨i%6=3∨i%6=4∨i%6=5:=(by decide:∀r:Nat,r<6->r=0∨r=1∨r=2∨r=3∨r=4∨r=5) (i%6) (eY _ (by decide));rcases this with e|e|e|e|e|e<;>rw[e]
 · exact⟨"both",4,rfl,by decide,by decide,by decide,by decide,.inl rfl⟩
 · exact⟨"back",2,rfl,by decide,by decide,by decide,by decide,.inr (.inl rfl)⟩
 · exact⟨"none",1,rfl,by decide,by decide,by decide,by decide,.inr (.inr (.inl rfl))⟩
 · exact⟨"both",4,rfl,by decide,by decide,by decide,by decide,.inl rfl⟩
 · exact⟨"clear",1,rfl,by decide,by decide,by decide,by decide,.inr (.inr (.inr rfl))⟩
 · exact⟨"both",4,rfl,by decide,by decide,by decide,by decide,.inl rfl⟩
def wyL:List Str:=["left","right","either"]
theorem b7U(i:Nat):∃w,wyL[i%3]? =some w/\inD (.str w) [.str "left",.str "right",.str "either"]=true/\(w="left"∨w="right"∨w="either"):=by
 have:i%3=0∨i%3=1∨i%3=2:=(by decide:∀r:Nat,r<3->r=0∨r=1∨r=2) (i%3) (eY _ (by decide));rcases this with e|e|e<;>rw[e]
 · exact⟨"left",rfl,by decide,.inl rfl⟩
 · exact⟨"right",rfl,by decide,.inr (.inl rfl)⟩
 · exact⟨"either",rfl,by decide,.inr (.inr rfl)⟩
variable{ls:List Lt}
section
variable{ct:CT}{F:Nat->Option Fn}
theorem a4S{s:Nat}(hh:g[s]? =some (.lst (shD sh))):biD .len g [.ref s]=.ok (.int (sh.length:Int)) g:=by rw[o0 hh];unfold shD;rw[aa]
theorem a7O{s x:Nat}(hs:4<=sh.length)(hh:g[s]? =some (.lst (shD sh))):∃w,ixD g (.ref s) (.int ((x%sh.length:Nat):Int))=.ok (.tup [.str (pk sh x),w]) g:=by obtain⟨_,w,e⟩:=a5P hs x;exact⟨w,E1 hh e⟩
theorem b1z{s m:Nat}(hs:4<=sh.length)(hh:g[s]? =some (.lst (shD sh)))(e1:env[1]? =some (some (.ref s)))(e6:env[6]? =some (some (.int (N:Int))))(e8:env[8]? =some (some (.int (m:Int))))(hm:m<=1000):
 ev ct c fcE env g=.ok (.ref g.length) (g++[.lst ((List.range m).map λi=>.str (pk sh (N/(i*i*31+7))))]):=by
 unfold fcE;refine U3 (λi=>.str (pk sh (N/(i*i*31+7)))) (by simp_arith[e8]) (by omega) λi hi=>?_;have ii:i*i<=1000000:=Nat.mul_le_mul (show i<=1000 by omega) (show i<=1000 by omega);have m1:M0 g (.int (i:Int)) (.int (i:Int))=.ok (.int ((i*i:Nat):Int)) g:=by rw[J8 (by omega)];congr 2
 have m2:M0 g (.int ((i*i:Nat):Int)) (.int 31)=.ok (.int ((i*i*31:Nat):Int)) g:=by rw[J8 (by decide)];congr 2
 have a7:((i*i*31:Nat):Int)+7=((i*i*31+7:Nat):Int):=by omega
 obtain⟨w,ix⟩:=a7O (x:=N/(i*i*31+7)) hs hh;simp_arith[e1,e6,Q7,op2,m1,m2,l8,a7,J0 (i*i*31+7) (by omega) (by omega),a4S hh,D0 sh.length (by omega),ix,a1s]
variable(bG:F 202=some o8)(bU:F 203=some m8)
include bG
theorem a5Z{k s a N0:Nat}{c:Int}{ns:List Str}(hs:4<=sh.length)(hh:h[s]? =some (.lst (shD sh)))(hj:j<ns.length)(n6:ns.length<=100)(ll:ls.length<=1000)(hn:b9 ns[j]=true)(ha:a=h.length)(p1:Pf h g)(p2:g[a]? =some (.lst (ns.map .str)))(p3:g[a+1]? =some (.lst (ls.map ltD)))(e6 e7 e8 e9:Option D):
 ∃l x6 x7 x8 x9 g',LtOk sh l/\l.n=ns[j]/\exs ct (b4 ct F (k+1)) lB [some (.int c),some (.ref s),some (.int (N0:Int)),some (.ref a),some (.ref (a+1)),some (.int (j:Int)),e6,e7,e8,e9] g=.ok (.nx [some (.int c),some (.ref s),some (.int (N0:Int)),some (.ref a),some (.ref (a+1)),some (.int (j:Int)),x6,x7,x8,x9]) g'/\Pf h g'/\g'[a]? =some (.lst (ns.map .str))/\g'[a+1]? =some (.lst ((ls++[l]).map ltD)):=by
 have a100:((j:Nat):Int)+100=((j+100:Nat):Int):=by omega
 obtain⟨N,hN⟩:=D1 (ct:=ct) (k:=k) (c:=c) (j:=((j+100:Nat):Int)) (h:=g) bG (by omega);obtain⟨jn,m,j1,j2,j3,j4,j5,j6⟩:=b8V N;obtain⟨wy,w1,w2,w3⟩:=b7U (N/6);have m6:∀h,u0 h (.int (N:Int)) (.int 6)=.ok (.int ((N%6:Nat):Int)) h:=λh=>D0 6 (by decide);have d6:∀h,v5 h (.int (N:Int)) (.int 6)=.ok (.int ((N/6:Nat):Int)) h:=λh=>J0 6 (by decide) (by decide);have m3:∀(a:Nat) h,u0 h (.int (a:Int)) (.int 3)=.ok (.int ((a%3:Nat):Int)) h:=λa h=>D0 3 (by decide);have je:∀(env:l0) (h:AH),ev ct (b4 ct F (k+1)) jnE env h=.ok (.ref h.length) (h++[.lst (jnL.map .str)]):=λenv h=>by unfold jnE jnL;simp_arith[u9]
 have we:∀(env:l0) (h:AH),ev ct (b4 ct F (k+1)) wyE env h=.ok (.ref h.length) (h++[.lst (wyL.map .str)]):=λenv h=>by unfold wyE wyL;simp_arith[u9]
 have jx:∀h:AH,ixD (h++[.lst (jnL.map .str)]) (.ref h.length) (.int ((N%6:Nat):Int))=.ok (.str jn) (h++[.lst (jnL.map .str)]):=λh=>E1 b6 (by rw[ak,j1];rfl);have wx:∀h:AH,ixD (h++[.lst (wyL.map .str)]) (.ref h.length) (.int ((N/6%3:Nat):Int))=.ok (.str wy) (h++[.lst (wyL.map .str)]):=λh=>E1 b6 (by rw[ak,w1];rfl);have dx:∀h:AH,ixD (h++[.dict jnD]) (.ref h.length) (.str jn)=.ok (.int ((m:Nat):Int)) (h++[.dict jnD]):=λh=>by simp only[ixD,b6,j3,fk,j2]
 have fl:((List.range m).map λi=>D.str (pk sh (N/(i*i*31+7))))=((List.range m).map λi=>pk sh (N/(i*i*31+7))).map .str:=by rw[aG];rfl
 refine⟨⟨ns[j],jn,wy,(List.range m).map λi=>pk sh (N/(i*i*31+7))⟩,some (.int (N:Int)),some (.str jn),some (.int (m:Int)),some (.tup (((List.range m).map λi=>pk sh (N/(i*i*31+7))).map .str)),(g++[Cell.lst (jnL.map .str)]++[Cell.dict jnD]++[Cell.lst (((List.range m).map λi=>pk sh (N/(i*i*31+7))).map .str)]++[Cell.lst (wyL.map .str)]).set (a+1) (.lst (ls.map ltD++[ltD ⟨ns[j],jn,wy,(List.range m).map λi=>pk sh (N/(i*i*31+7))⟩])),⟨hn,by simpa using j4,by simpa using j5,w2,j6,w3,λf hf=>?_⟩,rfl,?_,?_,?_,?_⟩
 · obtain⟨i,_,rfl⟩:=am.mp hf;exact(a5P hs _).1
 · unfold lB;rw[seq (by simp_arith[op2,l8,a100,hN];rfl),seq (by simp_arith[je,op2,m6,jx];rfl)];have P1:Pf h (g++[.lst (jnL.map .str)]):=p1.app _;have A1:=b5 (g:=[.lst (jnL.map .str)]) p2;have B1:=b5 (g:=[.lst (jnL.map .str)]) p3;generalize g++[Cell.lst (jnL.map .str)]=g1 at*
   unfold lB3;rw[seq (by simp_arith[b4e,u9,dx];rfl)];have P2:Pf h (g1++[.dict jnD]):=P1.app _;have A2:=b5 (g:=[.dict jnD]) A1;have B2:=b5 (g:=[.dict jnD]) B1;generalize g1++[Cell.dict jnD]=g2 at*
   unfold lB4;have fo:=b1z (ct:=ct) (c:=b4 ct F (k+1)) (s:=s) (N:=N) (m:=m) (env:=[some (.int c),some (.ref s),some (.int (N0:Int)),some (.ref a),some (.ref (a+1)),some (.int (j:Int)),some (.int (N:Int)),some (.str jn),some (.int (m:Int)),e9]) (g:=g2) hs (P2.at hh) rfl rfl rfl (by omega);rw[fl] at fo;generalize ((List.range m).map λi=>pk sh (N/(i*i*31+7)))=fs at*
   rw[seq (by simp_arith[fo,L4 b6];rfl)];have A3:=b5 (g:=[.lst (fs.map .str)]) A2;have B3:=b5 (g:=[.lst (fs.map .str)]) B2;generalize g2++[Cell.lst (fs.map .str)]=g3 at*
   unfold lB5;have nx:ixD g3 (.ref a) (.int (j:Int))=.ok (.str ns[j]) g3:=E1 A3 (by rw[ak,ai hj];rfl)
   simp_arith[F5 B3,nx,we,op2,d6,m3,wx,L3 (b5 (g:=[.lst (wyL.map .str)]) B3) (by rw[aa];omega),ltD]
 · exact((((p1.app _).app _).app _).app _).set (by omega)
 · exact b7 (by omega) (b5 (b5 (b5 (b5 p2))))
 · rw[x4 (b5 (b5 (b5 (b5 p3)))),ao];rfl
include bU
theorem a7a{k s:Nat}{c:Int}(hF:F 208=some y7)(hs:Shs sh)(hh:h[s]? =some (.lst (shD sh))):∃ls:List Lt,(1<=ls.length/\ls.length<=6)/\(ls.map (·.n)).Nodup/\(∀l∈ls,LtOk sh l)/\b4 ct F (k+2) 208 [.int c,.ref s] h=.ok (.ref h.length) (h++[.lst (ls.map ltD)]):=by
 obtain⟨M,hM⟩:=D1 (ct:=ct) (k:=k) (c:=c) (j:=2) (h:=h) bG (by decide);have d6:v5 h (.int (M:Int)) (.int 6)=.ok (.int ((M/6:Nat):Int)) h:=J0 6 (by decide) (by decide);have m6:u0 h (.int (M:Int)) (.int 6)=.ok (.int ((M%6:Nat):Int)) h:=D0 6 (by decide);have a1:(1:Int)+((M%6:Nat):Int)=((1+M%6:Nat):Int):=by omega
 have l6:M%6<6:=eY _ (by decide);obtain⟨ns,nk,hN⟩:=X4 (ct:=ct) (k:=k) (c:=M/6) (m:=1+M%6) (h:=h) bU (by omega);generalize hm:1+M%6=m at nk hN a1;rw[i9 hF rfl];simp only[y7];rw[seq (by simp_arith[hM];rfl),seq (by simp_arith[op2,d6,m6,l8,a1,hN];rfl)];have l1:(h++[Cell.lst (ns.map D.str)]).length=h.length+1:=by simp
 rw[seq (by simp_arith[u9,l1];rfl)];have gN:(h++[Cell.lst (ns.map D.str)]++[Cell.lst []])[h.length]? =some (.lst (ns.map .str)):=b5 b6;have gW:(h++[Cell.lst (ns.map D.str)]++[Cell.lst []])[h.length+1]? =some (.lst []):=by rw[←l1];exact b6
 have pf:Pf h (h++[Cell.lst (ns.map D.str)]++[Cell.lst []]):=((Pf.refl h).app _).app _;generalize h++[Cell.lst (ns.map D.str)]++[Cell.lst []]=g at gN gW pf;have len:biD .len g [.ref h.length]=.ok (.int (m:Int)) g:=by rw[o0 gN,aa,nk.len]
 obtain⟨bv,g',e1,ls,e5,e6,e7,e8,e9,rfl,q2,q3,q4,q5,q6⟩:=L5 (g:=[]) (p:=.nm 5) (body:=exs ct (b4 ct F (k+1)) lB) (λj env hh=>∃ls:List Lt,∃e5 e6 e7 e8 e9,env=[some (.int c),some (.ref s),some (.int (M:Int)),some (.ref h.length),some (.ref (h.length+1)),e5,e6,e7,e8,e9]/\Pf h hh/\hh[h.length]? =some (.lst (ns.map .str))/\hh[h.length+1]? =some (.lst (ls.map ltD))/\ls.map (·.n)=ns.take j/\∀l∈ls,LtOk sh l) (λ_ _ _ _=>rfl) ((List.range m).map λi=>.int ((0:Int)+(i:Nat))) 0 [some (.int c),some (.ref s),some (.int (M:Int)),some (.ref h.length),some (.ref (h.length+1)),none,none,none,none,none] g (λj x env hg hx hP=>by
  obtain⟨ls,e5,e6,e7,e8,e9,rfl,p1,p2,p3,p4,p5⟩:=hP;obtain⟨hj,rfl⟩:=a2R hx;rw[aB] at p4⊢;have hj':j<ns.length:=by rw[nk.len];exact hj
  have ll:ls.length<=1000:=by have:=fh List.length p4;rw[aa,aJ] at this;omega
  obtain⟨l,x6,x7,x8,x9,g',t1,t2,t3,t4,t5,t6⟩:=a5Z (k:=k) (c:=c) (N0:=M) bG hs.lo hh hj' (by rw[nk.len];omega) ll (nk.ok _ (bh hj')) rfl p1 p2 p3 e6 e7 e8 e9;refine⟨_,_,g',rfl,t3,ls++[l],_,_,_,_,_,rfl,t4,t5,t6,?_,λy hy=>?_⟩
  · rw[ao,p4,fA hj',←t2];rfl
  · rcases aI.mp hy with hy|hy
    · exact p5 y hy
    · rw[aM.mp hy];exact t1) ⟨[],none,none,none,none,none,rfl,pf,gN,gW,rfl,λ_ h=>nomatch h⟩
 rw[aa,aH,aB,←nk.len,aX] at q5;have ln:ls.length=m:=by rw[←nk.len,←q5,aa]
 refine⟨ls,by omega,by rw[q5];exact nk.nd,q6,?_⟩;rw[seq (by simp_arith[len,a1x (h:=g) (m:=m) (by omega),e1];rfl)]
 simp_arith[];exact a9b q2 q4 (gq _) (b1v _)
end
structure Cs where
 n:Str
 fs:List Str
def csD(c:Cs):D:=.tup [.str c.n,.tup (c.fs.map .str)]
structure CsOk(sh:List (Str×Nat))(c:Cs):Prop where
 nm:b9 c.n=true
 few:1<=c.fs.length/\c.fs.length<=20
 fs:∀f∈c.fs,f∈sh.map (·.1)
theorem b1w(ms:List Cs):D.flats (ms.map csD)=true:=K9 λd hd=>by obtain⟨p,_,rfl⟩:=am.mp hd;show D.flats [.str p.n,.tup (p.fs.map .str)]=true;simp only[D.flats,D.flat,J3,fY]
theorem a1h:∀{l:List D} {i j:Nat} {x:D},(z8 i l)[j]? =some x->∃d,l[j]? =some d/\x=.tup [.int ((i+j:Nat):Int),d]
 |[],i,j,x,h=>by simp[z8] at h
 |d::r,i,0,x,h=>by rw[z8] at h;simp at h;exact⟨d,rfl,h.symm⟩
 |d::r,i,j+1,x,h=>by rw[z8] at h;obtain⟨d',h1,h2⟩:=a1h (l:=r) (i:=i+1) (j:=j) (by simpa using h);refine⟨d',by simpa using h1,?_⟩;rw[h2,show i+1+j=i+(j+1) by omega]
theorem Z3:∀(l:List D) (i:Nat),(z8 i l).length=l.length
 |[],_=>rfl
 |d::r,i=>by rw[z8,length_cons,Z3 r,length_cons]
section
variable{ct:CT}{F:Nat->Option Fn}
theorem b2C{s:Nat}(hs:4<=sh.length)(hh:g[s]? =some (.lst (shD sh)))(e1:env[1]? =some (some (.ref s)))(e6:env[6]? =some (some (.int (N:Int)))):
 ev ct c smE env g=.ok (.ref g.length) (g++[.lst (((List.range (1+N%5)).map λi=>pk sh (N/(i*13+5))).map .str)]):=by
 unfold smE;have m20:u0 g (.int (N:Int)) (.int 5)=.ok (.int ((N%5:Nat):Int)) g:=D0 5 (by decide);have a1:(1:Int)+((N%5:Nat):Int)=((1+N%5:Nat):Int):=by omega
 have l20:N%5<5:=eY _ (by decide);have r:=U3 (ct:=ct) (c:=c) (fr:=[6,1]) (a:=.bin .add (.i 1) (.bin .mod (.v 6) (.i 5))) (e:=(.ix (.ix (.v 2) (.bin .mod (.bin .div (.v 1) (.bin .add (.bin .mul (.v 0) (.i 13)) (.i 5))) (.bi .len (.o (.v 2))))) (.i 0))) (env:=env) (m:=1+N%5) (h:=g) (λi=>.str (pk sh (N/(i*13+5)))) (by simp_arith[e6,op2,m20,l8,a1]) (by omega) (λi hi=>by
  have m1:M0 g (.int (i:Int)) (.int 13)=.ok (.int ((i*13:Nat):Int)) g:=by rw[J8 (by decide)];congr 2
  have a5:((i*13:Nat):Int)+5=((i*13+5:Nat):Int):=by omega
  obtain⟨w,ix⟩:=a7O (x:=N/(i*13+5)) hs hh;simp_arith[e1,e6,Q7,op2,m1,l8,a5,J0 (i*13+5) (by omega) (by omega),a4S hh,D0 sh.length (by omega),ix,a1s])
 rw[r,aG];rfl
variable(bG:F 202=some o8)(bU:F 203=some m8)
include bG bU
theorem a7n{k s:Nat}{c:Int}(hF:F 209=some y8)(hs:Shs sh)(hh:h[s]? =some (.lst (shD sh))):∃ls:List Cs,(1<=ls.length/\ls.length<=9)/\(ls.map (·.n)).Nodup/\(∀l∈ls,CsOk sh l)/\b4 ct F (k+2) 209 [.int c,.ref s] h=.ok (.ref h.length) (h++[.lst (ls.map csD)]):=by
 obtain⟨M,hM⟩:=D1 (ct:=ct) (k:=k) (c:=c) (j:=3) (h:=h) bG (by decide);have l1:(h++[Cell.lst []]).length=h.length+1:=by simp
 generalize hg:h++[Cell.lst []]=g0 at l1;have d4:v5 g0 (.int (M:Int)) (.int 4)=.ok (.int ((M/4:Nat):Int)) g0:=J0 4 (by decide) (by decide);have m3:u0 g0 (.int (M:Int)) (.int 3)=.ok (.int ((M%3:Nat):Int)) g0:=D0 3 (by decide);have l3:M%3<3:=eY _ (by decide);obtain⟨m,mb,me⟩:∃m:Nat,(1<=m/\m<=9)/\(1:Int)+((M%3:Nat):Int)=(m:Int):=⟨1+M%3,by omega,by omega⟩;obtain⟨ns,nk,hN⟩:=X4 (ct:=ct) (k:=k) (c:=M/4) (m:=m) (h:=g0) bU (by omega);rw[i9 hF rfl];simp only[y8];rw[seq (by simp_arith[hM];rfl),seq (by simp_arith[u9,hg];rfl)];have gW:(g0++[Cell.lst (ns.map D.str)])[h.length]? =some (.lst []):=b5 (by rw[←hg];exact b6);have gN:(g0++[Cell.lst (ns.map D.str)])[h.length+1]? =some (.lst (ns.map .str)):=by rw[←l1];exact b6
 have pf:Pf h (g0++[Cell.lst (ns.map D.str)]):=by rw[←hg];exact((Pf.refl h).app _).app _
 rw[l1] at hN;generalize g0++[Cell.lst (ns.map D.str)]=g at gN gW pf hN;obtain⟨bv,g',e1,ls,e4,e5,e6,e7,rfl,q2,q3,q4,q5,q6⟩:=L5 (g:=[(h.length+1,.lst (ns.map .str))]) (p:=.tp (.cons (.nm 4) (.cons (.nm 5) .nil))) (body:=exs ct (b4 ct F (k+1)) kB) (λj env hh=>∃ls:List Cs,∃e4 e5 e6 e7,env=[some (.int c),some (.ref s),some (.int (M:Int)),some (.ref h.length),e4,e5,e6,e7]/\Pf h hh/\hh[h.length+1]? =some (.lst (ns.map .str))/\hh[h.length]? =some (.lst (ls.map csD))/\ls.map (·.n)=ns.take j/\∀l∈ls,CsOk sh l) (λj env gg hP=>by
  obtain⟨_,_,_,_,_,_,_,h3,_⟩:=hP;simp[gOk,h3]) (z8 0 (ns.map .str)) 0 [some (.int c),some (.ref s),some (.int (M:Int)),some (.ref h.length),none,none,none,none] g (λj x env hg hx hP=>by
  obtain⟨ls,e4,e5,e6,e7,rfl,p1,p2,p3,p4,p5⟩:=hP;obtain⟨d,hd,rfl⟩:=a1h hx;have hj:j<ns.length:=by simpa using(ae.mp hd).1
  rw[ak,ai hj] at hd;obtain rfl:D.str ns[j]=d:=ax hd;rw[aB] at p4⊢;have a130:((j:Nat):Int)+130=((j+130:Nat):Int):=by omega
  have jl:=nk.len;obtain⟨N,hN⟩:=D1 (ct:=ct) (k:=k) (c:=c) (j:=((j+130:Nat):Int)) (h:=hg) bG (by omega);have so:=b2C (ct:=ct) (c:=b4 ct F (k+1)) (s:=s) (N:=N) (env:=[some (.int c),some (.ref s),some (.int (M:Int)),some (.ref h.length),some (.int (j:Int)),some (.str ns[j]),some (.int (N:Int)),e7]) (g:=hg) hs.lo (p1.at hh) rfl rfl;have l20:N%5<5:=eY _ (by decide);have fo:∀f∈(List.range (1+N%5)).map λi=>pk sh (N/(i*13+5)),f∈sh.map (·.1):=λf hf=>by obtain⟨i,_,rfl⟩:=am.mp hf;exact(a5P hs.lo _).1
  have fl:((List.range (1+N%5)).map λi=>pk sh (N/(i*13+5))).length=1+N%5:=by simp
  generalize ((List.range (1+N%5)).map λi=>pk sh (N/(i*13+5)))=fs at so fo fl;have ll:(ls.map csD).length<1000000:=by have:=fh List.length p4;rw[aa,aJ] at this;rw[aa];omega
  refine⟨_,[some (.int c),some (.ref s),some (.int (M:Int)),some (.ref h.length),some (.int (j:Int)),some (.str ns[j]),some (.int (N:Int)),some (.ref hg.length)],(hg++[Cell.lst (fs.map .str)]).set h.length (.lst (ls.map csD++[csD ⟨ns[j],fs⟩])),rfl,?_,ls++[⟨ns[j],fs⟩],_,_,_,_,rfl,(p1.app _).set (aj _),b7 (by omega) (b5 p2),?_,?_,λy hy=>?_⟩
  · show exs ct (b4 ct F (k+1)) kB [some (.int c),some (.ref s),some (.int (M:Int)),some (.ref h.length),some (.int (j:Int)),some (.str ns[j]),e6,e7] hg=_;unfold kB;rw[seq (by simp_arith[op2,l8,a130,hN];rfl),seq (by simp_arith[so];rfl)]
    simp_arith[F5 (b5 (g:=[.lst (fs.map .str)]) p3),L4 b6,L3 (b5 (g:=[.lst (fs.map .str)]) p3) ll,csD]
  · rw[x4 (b5 p3),ao];rfl
  · rw[ao,p4,fA hj];rfl
  · rcases aI.mp hy with hy|hy
    · exact p5 y hy
    · rw[aM.mp hy];exact⟨nk.ok _ (bh hj),by simp only;omega,fo⟩) ⟨[],none,none,none,none,rfl,pf,gN,gW,rfl,λ_ h=>nomatch h⟩
 rw[Z3,aa,aB,aX] at q5;have ln:ls.length=m:=by rw[←nk.len,←q5,aa]
 refine⟨ls,by omega,by rw[q5];exact nk.nd,q6,?_⟩;rw[seq (by simp_arith[op2,d4,m3,l8,D8,eqS,me,hN,a1i,gN,e1];rfl)]
 simp_arith[];exact a9b q2 q4 (aj _) (b1w _)
end
def a2i(sh:List (Str×Nat))(cs:List Cs)(it:Str):Prop:=it∈sh.map (·.1)∨∃c∈cs,it=("@":Str)++c.n
theorem a5t{l:List α}(f:α->D)(hl:1<=l.length)(x:Nat):∃y∈l,(l.map f)[x%l.length]? =some (f y):=by have lt:x%l.length<l.length:=eY _ (by omega);exact⟨l[x%l.length],bh lt,by rw[ak,ai lt];rfl⟩
theorem X5(h:b9 z=true):z.length<=12:=(a3d h).2
variable{cs:List Cs}
section
variable{ct:CT}{F:Nat->Option Fn}
structure Trio(sh:List (Str×Nat))(ls:List Lt)(cs:List Cs)(h:AH)(s l c:Nat):Prop where
 s:h[s]? =some (.lst (shD sh))
 l:h[l]? =some (.lst (ls.map ltD))
 c:h[c]? =some (.lst (cs.map csD))
 s4:4<=sh.length
 l1:1<=ls.length
 c1:1<=cs.length
 lo:∀x∈ls,LtOk sh x
 co:∀x∈cs,CsOk sh x
theorem Trio.pf{s l c:Nat}(t:Trio sh ls cs h s l c)(p:Pf h g):Trio sh ls cs g s l c:=⟨p.at t.s,p.at t.l,p.at t.c,t.s4,t.l1,t.c1,t.lo,t.co⟩
theorem a8U{cf:CF}{s l c m a:Nat}{many:D}{bt:List Str}(T:Trio sh ls cs g s l c)(hj:j<=100)(hN:N=m/(j*j*17+3))(p:g[a]? =some (.lst (bt.map .str)))(il:bt.length<=1000)(e7 e8:Option D):
 ∃it x8,a2i sh cs it/\exs ct cf iB [some (.int (m:Int)),some many,some (.ref s),some (.ref l),some (.ref c),some (.ref a),some (.int (j:Int)),e7,e8] g=.ok (.nx [some (.int (m:Int)),some many,some (.ref s),some (.ref l),some (.ref c),some (.ref a),some (.int (j:Int)),some (.int (N:Int)),x8]) (g.set a (.lst (bt.map .str++[.str it]))):=by
 have jj:j*j<=10000:=Nat.mul_le_mul hj hj;have m1:M0 g (.int (j:Int)) (.int (j:Int))=.ok (.int ((j*j:Nat):Int)) g:=by rw[J8 (by omega)];congr 2
 have m2:M0 g (.int ((j*j:Nat):Int)) (.int 17)=.ok (.int ((j*j*17:Nat):Int)) g:=by rw[J8 (by decide)];congr 2
 have a3:((j*j*17:Nat):Int)+3=((j*j*17+3:Nat):Int):=by omega
 have dv:v5 g (.int (m:Int)) (.int ((j*j*17+3:Nat):Int))=.ok (.int (N:Int)) g:=by rw[hN];exact J0 _ (by omega) (by omega)
 have m3:u0 g (.int (N:Int)) (.int 3)=.ok (.int ((N%3:Nat):Int)) g:=D0 3 (by decide);have d3:v5 g (.int (N:Int)) (.int 3)=.ok (.int ((N/3:Nat):Int)) g:=J0 3 (by decide) (by decide);have d50:v5 g (.int (N:Int)) (.int 50)=.ok (.int ((N/50:Nat):Int)) g:=J0 50 (by decide) (by decide);have il':(bt.map D.str).length<1000000:=by rw[aa];omega
 unfold iB
 by_cases h0:((N%3:Nat):Int)=0
 · have q0:D8 g (.int ((N%3:Nat):Int)) (.int 0)=.ok (.bl true) g:=by rw[h0];rfl
   obtain⟨y,hy,ey⟩:=a5t csD T.c1 (N/3);have lc:biD .len g [.ref c]=.ok (.int (cs.length:Int)) g:=by rw[o0 T.c,aa]
   have ix:ixD g (.ref c) (.int ((N/3%cs.length:Nat):Int))=.ok (csD y) g:=E1 T.c ey;have yl:=X5 (T.co y hy).nm;refine⟨("@":Str)++y.n,e8,.inr ⟨y,hy,rfl⟩,?_⟩;rw[seq (by simp_arith[op2,m1,m2,l8,a3,dv];rfl)];unfold iA;unfold csD at ix;simp_arith[op2,m3,q0,F5 p,d3,lc,D0 cs.length T.c1,ix,a1s,n5 (h:=g) (x:="@") (y:=y.n) (by show 1+_<=_;omega),L3 p il']
 · have q0:D8 g (.int ((N%3:Nat):Int)) (.int 0)=.ok (.bl false) g:=by simp only[D8,eqS,h0,eZ]
   by_cases h1:((N%3:Nat):Int)=1
   · have q1:D8 g (.int ((N%3:Nat):Int)) (.int 1)=.ok (.bl true) g:=by rw[h1];rfl
     obtain⟨y,hy,ey⟩:=a5t ltD T.l1 (N/3);have lc:biD .len g [.ref l]=.ok (.int (ls.length:Int)) g:=by rw[o0 T.l,aa]
     have ix:ixD g (.ref l) (.int ((N/3%ls.length:Nat):Int))=.ok (ltD y) g:=E1 T.l ey;have yo:=T.lo y hy;obtain⟨z,hz,ez⟩:=a5t D.str yo.few.1 (N/50);have i3:ixD g (ltD y) (.int 3)=.ok (.tup (y.fs.map .str)) g:=ix_tup (i:=3) rfl;have lt:biD .len g [.tup (y.fs.map .str)]=.ok (.int (y.fs.length:Int)) g:=by show R.ok (D.int ((y.fs.map D.str).length:Nat)) g=_;rw[aa]
     have iz:ixD g (.tup (y.fs.map .str)) (.int ((N/50%y.fs.length:Nat):Int))=.ok (.str z) g:=ix_tup ez;refine⟨z,some (.tup (y.fs.map .str)),.inl (yo.fs z hz),?_⟩;rw[seq (by simp_arith[op2,m1,m2,l8,a3,dv];rfl)];unfold iC;simp_arith[op2,m3,q0,q1,d3,lc,D0 ls.length T.l1,ix,i3,F5 p,d50,lt,D0 y.fs.length yo.few.1,iz,L3 p il']
   · have q1:D8 g (.int ((N%3:Nat):Int)) (.int 1)=.ok (.bl false) g:=by simp only[D8,eqS,h1,eZ]
     obtain⟨w,ix⟩:=a7O (x:=N/3) T.s4 T.s;refine⟨pk sh (N/3),e8,.inl (a5P T.s4 _).1,?_⟩;rw[seq (by simp_arith[op2,m1,m2,l8,a3,dv];rfl)];unfold iD;simp_arith[op2,m3,q0,q1,F5 p,d3,a4S T.s,D0 sh.length (show 0<sh.length by have:=T.s4;omega),ix,a1s,L3 p il']
theorem a3k{k s l c m many:Nat}(hF:F 210=some w8)(T:Trio sh ls cs h s l c)(hm:many<=4):∃bt:List Str,bt.length=many/\(∀i∈bt,a2i sh cs i)/\b4 ct F (k+1) 210 [.int (m:Int),.int (many:Int),.ref s,.ref l,.ref c] h=.ok (.tup (bt.map .str)) h:=by
 rw[i9 hF rfl];simp only[w8];rw[seq (by simp_arith[u9];rfl)];obtain⟨bv,g',e1,bt,e6,e7,e8,rfl,q2,q3,q4,q5⟩:=L5 (g:=[]) (p:=.nm 6) (body:=exs ct (b4 ct F k) iB) (λj env g=>∃bt:List Str,∃e6 e7 e8,env=[some (.int (m:Int)),some (.int (many:Int)),some (.ref s),some (.ref l),some (.ref c),some (.ref h.length),e6,e7,e8]/\Pf h g/\g[h.length]? =some (.lst (bt.map .str))/\bt.length=j/\∀i∈bt,a2i sh cs i) (λ_ _ _ _=>rfl) ((List.range many).map λi=>.int ((0:Int)+(i:Nat))) 0 [some (.int (m:Int)),some (.int (many:Int)),some (.ref s),some (.ref l),some (.ref c),some (.ref h.length),none,none,none] (h++[.lst []]) (λj x env g hx hP=>by
  obtain⟨bt,e6,e7,e8,rfl,p1,p2,p3,p4⟩:=hP;obtain⟨hj,rfl⟩:=a2R hx;rw[aB] at p3⊢;obtain⟨it,x8,t1,t2⟩:=a8U (cf:=b4 ct F k) (m:=m) (many:=.int (many:Int)) (T.pf p1) (show j<=100 by omega) rfl p2 (by omega) e7 e8;refine⟨_,_,_,rfl,t2,bt++[it],_,_,_,rfl,p1.set (aj _),?_,by rw[aq,p3];rfl,λi hi=>?_⟩
  · rw[x4 p2,ao];rfl
  · rcases aI.mp hi with hi|hi
    · exact p4 i hi
    · rw[aM.mp hi];exact t1) ⟨[],none,none,none,rfl,(Pf.refl h).app _,b6,rfl,λ_ h=>nomatch h⟩
 rw[aa,aH,aB] at q4;refine⟨bt,q4,q5,?_⟩;rw[seq (by simp_arith[a1x (h:=h++[.lst []]) (m:=many) (by omega),e1];rfl)]
 simp_arith[L4 q3];exact b3S q2 (J3 _)
end
structure Ru where
 t:Str
 f:Str
 b:List Str
 c:List Str
 a:List Str
 o:List Str
noncomputable def ruD(r:Ru):D:=.tup [.str r.t,.str r.f,.tup (r.b.map .str),.tup (r.c.map .str),.tup (r.a.map .str),.tup (r.o.map .str)]
def feD(p:Str×Bool):D:=.tup [.str p.1,.bl p.2]
structure RuOk(sh:List (Str×Nat))(cs:List Cs)(fe:List (Str×Bool))(r:Ru):Prop where
 nm:b9 r.t=true
 fe:r.f∈fe.map (·.1)
 b3:r.b.length<=3
 c4:1<=r.c.length/\r.c.length<=4
 a3:r.a.length<=3
 o3:1<=r.o.length/\r.o.length<=3
 b:∀i∈r.b,a2i sh cs i
 c:∀i∈r.c,a2i sh cs i
 a:∀i∈r.a,a2i sh cs i
 o:∀i∈r.o,i∈sh.map (·.1)
theorem b1s(ms:List Ru):D.flats (ms.map ruD)=true:=K9 λd hd=>by obtain⟨p,_,rfl⟩:=am.mp hd;show D.flats [.str p.t,.str p.f,.tup (p.b.map .str),.tup (p.c.map .str),.tup (p.a.map .str),.tup (p.o.map .str)]=true;simp only[D.flats,D.flat,J3,fY]
def z6:List D:=[.int 0,.int 0,.int 0,.int 1,.int 2,.int 3]
def z7:List D:=[.int 1,.int 2,.int 1,.int 2,.int 3,.int 4,.int 1]
theorem b4D(x:Nat):∃z:Nat,z<=3/\z6[x%6]? =some (.int (z:Int)):=by
 have:x%6=0∨x%6=1∨x%6=2∨x%6=3∨x%6=4∨x%6=5:=(by decide:∀r:Nat,r<6->r=0∨r=1∨r=2∨r=3∨r=4∨r=5) (x%6) (eY _ (by decide));rcases this with e|e|e|e|e|e<;>rw[e]
 · exact⟨0,by decide,rfl⟩
 · exact⟨0,by decide,rfl⟩
 · exact⟨0,by decide,rfl⟩
 · exact⟨1,by decide,rfl⟩
 · exact⟨2,by decide,rfl⟩
 · exact⟨3,by decide,rfl⟩
theorem b7S(x:Nat):∃z:Nat,(1<=z/\z<=4)/\z7[x%7]? =some (.int (z:Int)):=by
 have:x%7=0∨x%7=1∨x%7=2∨x%7=3∨x%7=4∨x%7=5∨x%7=6:=(by decide:∀r:Nat,r<7->r=0∨r=1∨r=2∨r=3∨r=4∨r=5∨r=6) (x%7) (eY _ (by decide));rcases this with e|e|e|e|e|e|e<;>rw[e]
 · exact⟨1,by decide,rfl⟩
 · exact⟨2,by decide,rfl⟩
 · exact⟨1,by decide,rfl⟩
 · exact⟨2,by decide,rfl⟩
 · exact⟨3,by decide,rfl⟩
 · exact⟨4,by decide,rfl⟩
 · exact⟨1,by decide,rfl⟩
def z5(b:Bool):List D:=[.int 1,.int 1,.int 1,.int 2,.int (2+(if b then 1 else 0))]
theorem b7T(b:Bool)(x:Nat):∃z:Nat,(1<=z/\z<=3)/\(z5 b)[x%5]? =some (.int (z:Int)):=by
 have:x%5=0∨x%5=1∨x%5=2∨x%5=3∨x%5=4:=(by decide:∀r:Nat,r<5->r=0∨r=1∨r=2∨r=3∨r=4) (x%5) (eY _ (by decide));rcases this with e|e|e|e|e<;>rw[e]
 · exact⟨1,by decide,rfl⟩
 · exact⟨1,by decide,rfl⟩
 · exact⟨1,by decide,rfl⟩
 · exact⟨2,by decide,rfl⟩
 · cases b
   · exact⟨2,by decide,rfl⟩
   · exact⟨3,by decide,rfl⟩
section
variable{ct:CT}{F:Nat->Option Fn}
theorem b2v{s m:Nat}(hs:4<=sh.length)(hh:g[s]? =some (.lst (shD sh)))(e2:env[2]? =some (some (.ref s)))(e9:env[9]? =some (some (.int (N:Int))))(e15:env[15]? =some (some (.int (m:Int))))(hm:m<=1000):
 ev ct c tdE env g=.ok (.ref g.length) (g++[.lst (((List.range m).map λi=>pk sh (N/(i*7+3))).map .str)]):=by
 unfold tdE;have r:=U3 (ct:=ct) (c:=c) (fr:=[9,2]) (a:=.v 15) (e:=(.ix (.ix (.v 2) (.bin .mod (.bin .div (.v 1) (.bin .add (.bin .mul (.v 0) (.i 7)) (.i 3))) (.bi .len (.o (.v 2))))) (.i 0))) (env:=env) (m:=m) (h:=g) (λi=>.str (pk sh (N/(i*7+3)))) (by simp_arith[e15]) (by omega) (λi hi=>by
  have m1:M0 g (.int (i:Int)) (.int 7)=.ok (.int ((i*7:Nat):Int)) g:=by rw[J8 (by decide)];congr 2
  have a5:((i*7:Nat):Int)+3=((i*7+3:Nat):Int):=by omega
  obtain⟨w,ix⟩:=a7O (x:=N/(i*7+3)) hs hh;simp_arith[e2,e9,Q7,op2,m1,l8,a5,J0 (i*7+3) (by omega) (by omega),a4S hh,D0 sh.length (by omega),ix,a1s])
 rw[r,aG];rfl
theorem a9F(e9:env[9]? =some (some (.int (N:Int)))):∃z0 z1 z2 n t,z0<=3/\(1<=z1/\z1<=4)/\z2<=3/\ev ct c szE env g=.ok (.ref n) (g++t)/\(g++t)[n]? =some (.lst [.int ((z0:Nat):Int),.int ((z1:Nat):Int),.int ((z2:Nat):Int)]):=by
 obtain⟨z0,a0,b0⟩:=b4D N;obtain⟨z1,a1,b1⟩:=b7S (N/6);obtain⟨z2,a2,b2⟩:=b4D (N/42);have m6:∀(a:Nat) h,u0 h (.int (a:Int)) (.int 6)=.ok (.int ((a%6:Nat):Int)) h:=λa h=>D0 6 (by decide);have m7:∀(a:Nat) h,u0 h (.int (a:Int)) (.int 7)=.ok (.int ((a%7:Nat):Int)) h:=λa h=>D0 7 (by decide);have d6:∀h,v5 h (.int (N:Int)) (.int 6)=.ok (.int ((N/6:Nat):Int)) h:=λh=>J0 6 (by decide) (by decide);have d42:∀h,v5 h (.int (N:Int)) (.int 42)=.ok (.int ((N/42:Nat):Int)) h:=λh=>J0 42 (by decide) (by decide);have l6:∀(env:l0) (h:AH),ev ct c e6L env h=.ok (.ref h.length) (h++[.lst z6]):=λenv h=>by unfold e6L z6;simp_arith[u9]
 have l7:∀(env:l0) (h:AH),ev ct c e7L env h=.ok (.ref h.length) (h++[.lst z7]):=λenv h=>by unfold e7L z7;simp_arith[u9];rfl
 have x0:∀h:AH,ixD (h++[.lst z6]) (.ref h.length) (.int ((N%6:Nat):Int))=.ok (.int (z0:Int)) (h++[.lst z6]):=λh=>E1 b6 b0;have x1:∀h:AH,ixD (h++[.lst z7]) (.ref h.length) (.int ((N/6%7:Nat):Int))=.ok (.int (z1:Int)) (h++[.lst z7]):=λh=>E1 b6 b1;have x2:∀h:AH,ixD (h++[.lst z6]) (.ref h.length) (.int ((N/42%6:Nat):Int))=.ok (.int (z2:Int)) (h++[.lst z6]):=λh=>E1 b6 b2;refine⟨z0,z1,z2,(g++[Cell.lst z6]++[Cell.lst z7]++[Cell.lst z6]).length,[.lst z6,.lst z7,.lst z6,.lst [.int ((z0:Nat):Int),.int ((z1:Nat):Int),.int ((z2:Nat):Int)]],a0,a1,a2,?_,?_⟩
 · unfold szE;simp_arith[l6,l7,e9,op2,m6,m7,d6,d42,x0,x1,x2,u9];simp
 · rw[show g++[Cell.lst z6,.lst z7,.lst z6,.lst [.int ((z0:Nat):Int),.int ((z1:Nat):Int),.int ((z2:Nat):Int)]]=(g++[Cell.lst z6]++[Cell.lst z7]++[Cell.lst z6])++[.lst [.int ((z0:Nat):Int),.int ((z1:Nat):Int),.int ((z2:Nat):Int)]] by simp];exact b6
end
variable{cl:Nat}{fe:List (Str×Bool)}
section
variable{ct:CT}{F:Nat->Option Fn}
theorem b9N(e7:env[7]? =some (some (.int (j:Int)))):ev ct c e5L env g=.ok (.ref g.length) (g++[.lst (z5 (decide ((j:Int)=0)))]):=by
 unfold e5L z5;have ib:∀b:Bool,biD .int g [.bl b]=.ok (.int (if b=true then 1 else 0)) g:=λb=>rfl
 simp_arith[e7,op2,D8,eqS,ib,l8,u9]
variable(bG:F 202=some o8)(df:F 210=some w8)
include bG df
theorem a8C{k s l a:Nat}{c:Int}{many:D}{cL:Str}{rs:List Ru}(T:Trio sh ls cs g s l cl)(hf:g[f]? =some (.lst (fe.map feD)))(f1:1<=fe.length)(ht:b9 cL=true)(hj:j<=100)(p:g[a]? =some (.lst (rs.map ruD)))(rl:rs.length<=1000)(e9 e10 e11 e12 e13 e14 e15 e16:Option D):
 ∃r x9 x10 x11 x12 x13 x14 x15 x16 t,RuOk sh cs fe r/\r.t=cL/\exs ct (b4 ct F (k+1)) rB [some (.int c),some many,some (.ref s),some (.ref l),some (.ref cl),some (.ref f),some (.ref a),some (.int (j:Int)),some (.str cL),e9,e10,e11,e12,e13,e14,e15,e16] g
  =.ok (.nx [some (.int c),some many,some (.ref s),some (.ref l),some (.ref cl),some (.ref f),some (.ref a),some (.int (j:Int)),some (.str cL),x9,x10,x11,x12,x13,x14,x15,x16]) ((g++t).set a (.lst ((rs++[r]).map ruD))):=by
 have a160:((j:Nat):Int)+160=((j+160:Nat):Int):=by omega
 have a190:((j:Nat):Int)+190=((j+190:Nat):Int):=by omega
 obtain⟨N,hN⟩:=D1 (ct:=ct) (k:=k) (c:=c) (j:=((j+160:Nat):Int)) (h:=g) bG (by omega);obtain⟨M,hM⟩:=D1 (ct:=ct) (k:=k) (c:=c) (j:=((j+190:Nat):Int)) (h:=g) bG (by omega);obtain⟨z0,z1,z2,n,t1,b0,b1,b2,sz,sx⟩:=a9F (ct:=ct) (c:=b4 ct F (k+1)) (N:=N) (env:=[some (.int c),some many,some (.ref s),some (.ref l),some (.ref cl),some (.ref f),some (.ref a),some (.int (j:Int)),some (.str cL),some (.int (N:Int)),some (.int (M:Int)),e11,e12,e13,e14,e15,e16]) (g:=g) rfl;have T1:Trio sh ls cs (g++t1) s l cl:=T.pf ((Pf.refl g).app _);have d11:v5 (g++t1) (.int (M:Int)) (.int 11)=.ok (.int ((M/11:Nat):Int)) (g++t1):=J0 11 (by decide) (by decide);have d101:v5 (g++t1) (.int (M:Int)) (.int 101)=.ok (.int ((M/101:Nat):Int)) (g++t1):=J0 101 (by decide) (by decide);have m5:M0 (g++t1) (.int 5) (.int (j:Int))=.ok (.int ((5*j:Nat):Int)) (g++t1):=by rw[J8 (by omega)];congr 2
 have ad1:((M/11:Nat):Int)+((5*j:Nat):Int)=((M/11+5*j:Nat):Int):=by omega
 have ad2:((M/101:Nat):Int)+3=((M/101+3:Nat):Int):=by omega
 have i0:ixD (g++t1) (.ref n) (.int 0)=.ok (.int (z0:Int)) (g++t1):=o5 0 0 rfl sx rfl;have i1:ixD (g++t1) (.ref n) (.int 1)=.ok (.int (z1:Int)) (g++t1):=o5 1 1 rfl sx rfl;have i2:ixD (g++t1) (.ref n) (.int 2)=.ok (.int (z2:Int)) (g++t1):=o5 2 2 rfl sx rfl;obtain⟨ib,q1,q2,q3⟩:=a3k (ct:=ct) (k:=k) (m:=M) (many:=z0) df T1 (by omega);obtain⟨ic,u1,u2,u3⟩:=a3k (ct:=ct) (k:=k) (m:=M/11+5*j) (many:=z1) df T1 (by omega);obtain⟨ia,v1,v2,v3⟩:=a3k (ct:=ct) (k:=k) (m:=M/101+3) (many:=z2) df T1 (by omega);obtain⟨z,zb,zx⟩:=b7T (decide ((j:Int)=0)) (N/252);have G1:Pf g (g++t1):=(Pf.refl g).app _;have p1:=b5 (g:=t1) p;have hf1:=b5 (g:=t1) hf;have e5:=b9N (ct:=ct) (c:=b4 ct F (k+1)) (j:=j) (env:=[some (.int c),some many,some (.ref s),some (.ref l),some (.ref cl),some (.ref f),some (.ref a),some (.int (j:Int)),some (.str cL),some (.int (N:Int)),some (.int (M:Int)),some (.ref n),some (.tup (ib.map .str)),some (.tup (ic.map .str)),some (.tup (ia.map .str)),e15,e16]) (g:=g++t1) rfl;have d252:∀h,v5 h (.int (N:Int)) (.int 252)=.ok (.int ((N/252:Nat):Int)) h:=λh=>J0 252 (by decide) (by decide);have m5':∀(a:Nat) h,u0 h (.int (a:Int)) (.int 5)=.ok (.int ((a%5:Nat):Int)) h:=λa h=>D0 5 (by decide);have ez:ixD (g++t1++[.lst (z5 (decide ((j:Int)=0)))]) (.ref (g++t1).length) (.int ((N/252%5:Nat):Int))=.ok (.int (z:Int)) (g++t1++[.lst (z5 (decide ((j:Int)=0)))]):=E1 b6 zx;have td:=b2v (ct:=ct) (c:=b4 ct F (k+1)) (s:=s) (N:=N) (m:=z) (env:=[some (.int c),some many,some (.ref s),some (.ref l),some (.ref cl),some (.ref f),some (.ref a),some (.int (j:Int)),some (.str cL),some (.int (N:Int)),some (.int (M:Int)),some (.ref n),some (.tup (ib.map .str)),some (.tup (ic.map .str)),some (.tup (ia.map .str)),some (.int (z:Int)),e16]) (g:=g++t1++[.lst (z5 (decide ((j:Int)=0)))]) T.s4 (b5 T1.s) rfl rfl rfl (by omega);have fo:∀x∈(List.range z).map λi=>pk sh (N/(i*7+3)),x∈sh.map (·.1):=λx hx=>by obtain⟨i,_,rfl⟩:=am.mp hx;exact(a5P T.s4 _).1
 have fl:((List.range z).map λi=>pk sh (N/(i*7+3))).length=z:=by simp
 generalize ((List.range z).map λi=>pk sh (N/(i*7+3)))=fs at td fo fl;obtain⟨y,hy,ey⟩:=a5t feD f1 (N/1260);have d1260:∀h,v5 h (.int (N:Int)) (.int 1260)=.ok (.int ((N/1260:Nat):Int)) h:=λh=>J0 1260 (by decide) (by decide);have hf2:=b5 (g:=[.lst (fs.map .str)]) (b5 (g:=[.lst (z5 (decide ((j:Int)=0)))]) hf1);have p2:=b5 (g:=[.lst (fs.map .str)]) (b5 (g:=[.lst (z5 (decide ((j:Int)=0)))]) p1);have lf:biD .len (g++t1++[.lst (z5 (decide ((j:Int)=0)))]++[.lst (fs.map .str)]) [.ref f]=.ok (.int (fe.length:Int)) (g++t1++[.lst (z5 (decide ((j:Int)=0)))]++[.lst (fs.map .str)]):=by rw[o0 hf2,aa]
 have ix:ixD (g++t1++[.lst (z5 (decide ((j:Int)=0)))]++[.lst (fs.map .str)]) (.ref f) (.int ((N/1260%fe.length:Nat):Int))=.ok (.tup [.str y.1,.bl y.2]) (g++t1++[.lst (z5 (decide ((j:Int)=0)))]++[.lst (fs.map .str)]):=E1 hf2 ey;have rl':(rs.map ruD).length<1000000:=by rw[aa];omega
 refine⟨⟨cL,y.1,ib,ic,ia,fs⟩,some (.int (N:Int)),some (.int (M:Int)),some (.ref n),some (.tup (ib.map .str)),some (.tup (ic.map .str)),some (.tup (ia.map .str)),some (.int (z:Int)),some (.tup (fs.map .str)),t1++[.lst (z5 (decide ((j:Int)=0)))]++[.lst (fs.map .str)],⟨ht,List.mem_map_of_mem hy,by simp only;omega,by simp only;omega,by simp only;omega,by simp only;omega,q2,u2,v2,fo⟩,rfl,?_⟩;unfold rB;rw[seq (by simp_arith[op2,l8,a160,hN];rfl),seq (by simp_arith[op2,l8,a190,hM];rfl),seq (by simp_arith[sz];rfl)];unfold rB3;rw[seq (by simp_arith[i0,q3];rfl)];unfold rB4;rw[seq (by simp_arith[op2,d11,m5,l8,ad1,i1,u3];rfl)];unfold rB5;rw[seq (by simp_arith[op2,d101,l8,ad2,i2,v3];rfl)];unfold rB6;rw[seq (by simp_arith[e5,op2,d252,m5',ez];rfl),seq (by simp_arith[td,L4 b6];rfl)];unfold rB7;simp_arith[F5 p2,op2,d1260,lf,D0 fe.length f1,ix,a1s,L3 p2 rl',ao];rw[show g++(t1++[Cell.lst (z5 (decide ((j:Int)=0)))]++[Cell.lst (fs.map .str)])=g++t1++[.lst (z5 (decide ((j:Int)=0)))]++[.lst (fs.map .str)] by simp];rfl
variable(bU:F 203=some m8)
include bU
theorem a9M{k s l m:Nat}{c:Int}(hF:F 211=some u7)(T:Trio sh ls cs h s l cl)(hf:h[f]? =some (.lst (fe.map feD)))(f1:1<=fe.length)(hm:m<=26):
 ∃rs:List Ru,rs.length=m/\(rs.map (·.t)).Nodup/\(∀r∈rs,RuOk sh cs fe r)/\b4 ct F (k+2) 211 [.int c,.int (m:Int),.ref s,.ref l,.ref cl,.ref f] h=.ok (.ref h.length) (h++[.lst (rs.map ruD)]):=by
 have l1:(h++[Cell.lst []]).length=h.length+1:=by simp
 have gW0:(h++[Cell.lst []])[h.length]? =some (.lst []):=b6;have pf0:Pf h (h++[Cell.lst []]):=(Pf.refl h).app _;have st:exs ct (b4 ct F (k+1)) u7.body [some (.int c),some (.int (m:Int)),some (.ref s),some (.ref l),some (.ref cl),some (.ref f),none,none,none,none,none,none,none,none,none,none,none] h=exs ct (b4 ct F (k+1)) (.cons (.for (.tp (.cons (.nm 7) (.cons (.nm 8) .nil))) (.enum (.call 203 (.cons (.call 202 (.cons (.v 0) (.o (.i 4)))) (.o (.v 1))))) rB) (.o (.ret (.v 6)))) [some (.int c),some (.int (m:Int)),some (.ref s),some (.ref l),some (.ref cl),some (.ref f),some (.ref h.length),none,none,none,none,none,none,none,none,none,none] (h++[.lst []]):=by simp only[u7];exact seq (by simp_arith[u9])
 rw[i9 hF rfl];show∃rs:List Ru,_/\_/\_/\gcR 2 h (a1z (exs ct (b4 ct F (k+1)) u7.body [some (.int c),some (.int (m:Int)),some (.ref s),some (.ref l),some (.ref cl),some (.ref f),none,none,none,none,none,none,none,none,none,none,none] h))=_;rw[st];clear st;generalize h++[Cell.lst []]=g0 at l1 gW0 pf0;obtain⟨M,hM⟩:=D1 (ct:=ct) (k:=k) (c:=c) (j:=4) (h:=g0) bG (by decide);obtain⟨ns,nk,hN⟩:=X4 (ct:=ct) (k:=k) (c:=M) (m:=m) (h:=g0) bU hm;have gW:(g0++[Cell.lst (ns.map D.str)])[h.length]? =some (.lst []):=b5 gW0;have gN:(g0++[Cell.lst (ns.map D.str)])[h.length+1]? =some (.lst (ns.map .str)):=by rw[←l1];exact b6
 have pf:Pf h (g0++[Cell.lst (ns.map D.str)]):=pf0.app _;rw[l1] at hN;generalize g0++[Cell.lst (ns.map D.str)]=g at gN gW pf hN;have nl:=nk.len;obtain⟨bv,g',e1,rs,e7,e8,e9,e10,e11,e12,e13,e14,e15,e16,rfl,q2,q3,q4,q5,q6⟩:=L5 (g:=[(h.length+1,.lst (ns.map .str))]) (p:=.tp (.cons (.nm 7) (.cons (.nm 8) .nil))) (body:=exs ct (b4 ct F (k+1)) rB) (λj env hh=>∃rs:List Ru,∃e7 e8 e9 e10 e11 e12 e13 e14 e15 e16,env=[some (.int c),some (.int (m:Int)),some (.ref s),some (.ref l),some (.ref cl),some (.ref f),some (.ref h.length),e7,e8,e9,e10,e11,e12,e13,e14,e15,e16]/\Pf h hh/\hh[h.length+1]? =some (.lst (ns.map .str))/\hh[h.length]? =some (.lst (rs.map ruD))/\rs.map (·.t)=ns.take j/\∀r∈rs,RuOk sh cs fe r) (λj env gg hP=>by
  obtain⟨_,_,_,_,_,_,_,_,_,_,_,_,_,h3,_⟩:=hP;simp[gOk,h3]) (z8 0 (ns.map .str)) 0 [some (.int c),some (.int (m:Int)),some (.ref s),some (.ref l),some (.ref cl),some (.ref f),some (.ref h.length),none,none,none,none,none,none,none,none,none,none] g (λj x env hg hx hP=>by
  obtain⟨rs,e7,e8,e9,e10,e11,e12,e13,e14,e15,e16,rfl,p1,p2,p3,p4,p5⟩:=hP;obtain⟨d,hd,rfl⟩:=a1h hx;have hj:j<ns.length:=by simpa using(ae.mp hd).1
  rw[ak,ai hj] at hd;obtain rfl:D.str ns[j]=d:=ax hd;rw[aB] at p4⊢;have ll:rs.length<=1000:=by have:=fh List.length p4;rw[aa,aJ] at this;omega
  obtain⟨r,x9,x10,x11,x12,x13,x14,x15,x16,t,t1,t2,t3⟩:=a8C (ct:=ct) (k:=k) (c:=c) (many:=.int (m:Int)) bG df (T.pf p1) (p1.at hf) f1 (nk.ok _ (bh hj)) (show j<=100 by omega) p3 ll e9 e10 e11 e12 e13 e14 e15 e16;refine⟨_,_,_,rfl,t3,rs++[r],_,_,_,_,_,_,_,_,_,_,rfl,(p1.app _).set (aj _),b7 (by omega) (b5 p2),x4 (b5 p3),?_,λy hy=>?_⟩
  · rw[ao,p4,fA hj,←t2];rfl
  · rcases aI.mp hy with hy|hy
    · exact p5 y hy
    · rw[aM.mp hy];exact t1) ⟨[],none,none,none,none,none,none,none,none,none,none,rfl,pf,gN,gW,rfl,λ_ h=>nomatch h⟩
 rw[Z3,aa,aB,aX] at q5;have ln:rs.length=m:=by rw[←nk.len,←q5,aa]
 refine⟨rs,ln,by rw[q5];exact nk.nd,q6,?_⟩;rw[seq (by simp_arith[hM,hN,a1i,gN,e1];rfl)]
 simp_arith[];exact a9b q2 q4 (aj _) (b1s _)
end
structure HL where
 sh:List (Str×Nat)
 mr:List Mk
 pt:List Pt
 ls:List Lt
 gp:List Str
 cs:List Cs
 fe:List (Str×Bool)
 ru:List Ru
structure Shw(sh:List (Str×Nat)):Prop where
 hi:sh.length<=16
 nd:(sh.map (·.1)).Nodup
 ok:∀p∈sh,b9 p.1=true/\p.2<99999
structure HLok(H:HL):Prop where
 sh:Shw H.sh
 mr:(H.mr.map (·.n)).Sublist (H.sh.map (·.1))
 mko:∀m∈H.mr,a0o m.s/\V9 m.a/\V9 m.b
 pt:(H.pt.map ptK).Nodup
 ptl:H.pt.length<=100
 pto:∀p∈H.pt,p.n∈H.sh.map (·.1)/\a0o p.s/\V9 p.a
 ls:H.ls.length<=6
 lsn:(H.ls.map (·.n)).Nodup
 lso:∀l∈H.ls,LtOk H.sh l
 gp:H.gp.Sublist (H.ls.map (·.n))
 cs:H.cs.length<=9
 csn:(H.cs.map (·.n)).Nodup
 cso:∀c∈H.cs,CsOk H.sh c
 fe:H.fe.length<=3
 fen:Nms (H.fe.map (·.1)) H.fe.length
 rul:H.ru.length<=26
 run:(H.ru.map (·.t)).Nodup
 ruo:∀r∈H.ru,RuOk H.sh H.cs H.fe r
structure HAt(H:HL)(g:AH)(a b c d e f i j:Nat):Prop where
 sh:g[a]? =some (.lst (shD H.sh))
 mr:g[b]? =some (.lst (H.mr.map mkD))
 pt:g[c]? =some (.lst (H.pt.map ptD))
 ls:g[d]? =some (.lst (H.ls.map ltD))
 gp:g[e]? =some (.lst (H.gp.map .str))
 cs:g[f]? =some (.lst (H.cs.map csD))
 fe:g[i]? =some (.lst (H.fe.map feD))
 ru:g[j]? =some (.lst (H.ru.map ruD))
noncomputable def feF(M:Nat)(x:D):D:=match x with
 |.tup [.int j,n]=>(match n with
  |.str n=>feD (n,decide ((0:Int)<((M/(j.toNat+5)%4:Nat):Int)))
  |_=>.non)
 |_=>.non
theorem b1y(M:Nat):∀(ns:List Str) (i:Nat),∃fe:List (Str×Bool),(z8 i (ns.map .str)).map (feF M)=fe.map feD/\fe.map (·.1)=ns
 |[],_=>⟨[],rfl,rfl⟩
 |n::ns,i=>by obtain⟨fe,h1,h2⟩:=b1y M ns (i+1);refine⟨(n,decide ((0:Int)<((M/(((i:Nat):Int).toNat+5)%4:Nat):Int)))::fe,?_,by rw[map_cons,h2]⟩;rw[map_cons,z8,map_cons,h1];rfl
noncomputable def gpB(M:Nat)(x:D):Bool:=match x with
 |.tup [.int j,_]=>decide (((M/(7*j.toNat+9)%4:Nat):Int)=0)
 |_=>false
def gpF(x:D):D:=match x with
 |.tup [_,.tup (n::_)]=>n
 |_=>.non
theorem b1h(M:Nat):∀(ls:List Lt) (i:Nat),∃gp:List Str,((z8 i (ls.map ltD)).filter (gpB M)).map gpF=gp.map .str/\gp.Sublist (ls.map (·.n))
 |[],_=>⟨[],rfl,.slnil⟩
 | l::ls,i=>by
  obtain⟨gp,h1,h2⟩:=b1h M ls (i+1);rw[map_cons,z8];cases hb:gpB M (.tup [.int (i:Nat),ltD l]) with
  |true=>
   refine⟨l.n::gp,?_,by rw[map_cons];exact h2.cons_cons _⟩;rw[List.filter_cons_of_pos hb,map_cons,h1];rfl
  |false=>
   refine⟨gp,?_,by rw[map_cons];exact h2.cons _⟩;rw[List.filter_cons_of_neg (by rw[hb];exact bg),h1]
section
variable{ct:CT}{F:Nat->Option Fn}
theorem b3T{d:Nat}(h4:env[4]? =some (some (.ref d)))(h6:env[6]? =some (some (.int (M:Int))))(hd:g[d]? =some (.lst (ls.map ltD)))(hl:ls.length<=1000):∃gp:List Str,gp.Sublist (ls.map (·.n))/\ev ct c gpE env g=.ok (.ref g.length) (g++[.lst (gp.map .str)]):=by
 obtain⟨gp,g1,g2⟩:=b1h M ls 0;refine⟨gp,g2,?_⟩;unfold gpE;rw[Z2 (l:=z8 0 (ls.map ltD)) (g:=[(d,.lst (ls.map ltD))]) (h1:=g) (by simp_arith[h4,a1i,hd]) (by simp[gOk,hd]) (gpB M) gpF (λx=>match x with|.tup [a,b]=>[some a,some b,some (.int (M:Int))]|_=>[]) (λx hx=>by
  obtain⟨j,hj⟩:=mem_iff_getElem?.mp hx;obtain⟨y,hy,rfl⟩:=a1h hj;have hj':j<ls.length:=by simpa using(ae.mp hy).1
  rw[ak,ai hj'] at hy;obtain rfl:ltD ls[j]=y:=ax hy;rw[aB];have m7:M0 g (.int 7) (.int (j:Int))=.ok (.int ((7*j:Nat):Int)) g:=by rw[J8 (by omega)];congr 2
  have a9:((7*j:Nat):Int)+9=((7*j+9:Nat):Int):=by omega
  have m4:∀a:Nat,u0 g (.int (a:Int)) (.int 4)=.ok (.int ((a%4:Nat):Int)) g:=λa=>D0 4 (by decide);refine⟨by simp only[w6,N9,t8,map_cons,map_nil,h6,Q7];rfl,?_,λ_=>?_⟩
  · simp_arith[op2,m7,l8,a9,J0 (7*j+9) (by omega) (by omega),m4,D8,eqS,gpB,Int.toNat_natCast]
  · unfold ltD;simp_arith[a1s,gpF]) (by rw[Z3,aa];show _<=16777216;omega),g1]
theorem b1x{k:Nat}(bU:F 203=some m8)(h6:env[6]? =some (some (.int (M:Int)))):∃(fe:List (Str×Bool)) (t:Cell),(1<=fe.length/\fe.length<=3)/\Nms (fe.map (·.1)) fe.length/\ev ct (b4 ct F (k+1)) feE env g=.ok (.ref (g.length+1)) (g++[t]++[.lst (fe.map feD)]):=by
 have d3:v5 g (.int (M:Int)) (.int 3)=.ok (.int ((M/3:Nat):Int)) g:=J0 3 (by decide) (by decide);have m3:u0 g (.int (M:Int)) (.int 3)=.ok (.int ((M%3:Nat):Int)) g:=D0 3 (by decide);have a1:(1:Int)+((M%3:Nat):Int)=((1+M%3:Nat):Int):=by omega
 have l3:M%3<3:=eY _ (by decide);obtain⟨ns,nk,hN⟩:=X4 (ct:=ct) (k:=k) (c:=M/3) (m:=1+M%3) (h:=g) bU (by omega);obtain⟨fe,h1,h2⟩:=b1y M ns 0;have fl:fe.length=1+M%3:=by rw[←nk.len,←h2,aa]
 refine⟨fe,.lst (ns.map .str),by omega,by rw[h2,fl];exact nk,?_⟩;have lg:(g++[Cell.lst (ns.map D.str)]).length=g.length+1:=by simp
 unfold feE;rw[y9 (l:=z8 0 (ns.map .str)) (g:=[(g.length,.lst (ns.map .str))]) (h1:=g++[.lst (ns.map .str)]) (by simp_arith[h6,op2,d3,m3,l8,a1,hN,a1i,b6]) (by simp[gOk]) (feF M) (λx=>match x with|.tup [a,b]=>[some a,some b,some (.int (M:Int))]|_=>[]) (λx hx=>by
  obtain⟨j,hj⟩:=mem_iff_getElem?.mp hx;obtain⟨y,hy,rfl⟩:=a1h hj;have hj':j<ns.length:=by simpa using(ae.mp hy).1
  rw[ak,ai hj'] at hy;obtain rfl:D.str ns[j]=y:=ax hy;rw[aB];have jl:=nk.len;have a5:((j:Nat):Int)+5=((j+5:Nat):Int):=by omega
  have m4:∀(a:Nat) h,u0 h (.int (a:Int)) (.int 4)=.ok (.int ((a%4:Nat):Int)) h:=λa h=>D0 4 (by decide);refine⟨by simp only[w6,N9,t8,map_cons,map_nil,h6,Q7];rfl,?_⟩
  simp_arith[op2,l8,a5,J0 (j+5) (by omega) (by omega),m4,E3,feF,feD,Int.toNat_natCast]) (by rw[Z3,aa,nk.len];show _<=16777216;omega),h1,lg]
variable(dC:F 201=some E9)(bG:F 202=some o8)(bU:F 203=some m8)(f204:F 204=some B7)(cH:F 205=some w5)(f206:F 206=some D2)(f207:F 207=some B9)(f208:F 208=some y7)(f209:F 209=some y8)(df:F 210=some w8)(f211:F 211=some u7)
include dC bG bU f204 cH f206 f207 f208 f209 df f211
theorem b3M{k m:Nat}(hF:F 212=some K5)(hr:h[n]? =some (.rol (ns.map .int)))(hm:m<=26):
 ∃H g a b c d e f i j,HLok H/\H.sh≠[]/\Pf h g/\HAt H g a b c d e f i j/\b4 ct F (k+3) 212 [.ref n,.int (m:Int)] h=.ok (.tup [.ref a,.ref b,.ref c,.ref d,.ref e,.ref f,.ref i,.ref j]) g:=by
 obtain⟨c0,hc0⟩:=a1m (ct:=ct) (k:=k+1) (j:=0) dC hr;obtain⟨sh,s1,s2⟩:=a8z (ct:=ct) (k:=k) (c:=c0) (h:=h) bG bU f204;have P1:Pf h (h++[.lst (shD sh)]):=(Pf.refl h).app _;have A1:(h++[Cell.lst (shD sh)])[h.length]? =some (.lst (shD sh)):=b6;have st1:exs ct (b4 ct F (k+2)) (.cons (.set 2 (.call 201 (.cons (.v 0) (.o (.i 0))))) (.cons (.set 3 (.call 204 (.o (.v 2)))) hB2)) [some (.ref n),some (.int (m:Int)),none,none,none,none,none,none,none,none,none,none] h=exs ct (b4 ct F (k+2)) hB2 [some (.ref n),some (.int (m:Int)),some (.int c0),some (.ref h.length),none,none,none,none,none,none,none,none] (h++[.lst (shD sh)]):=by rw[seq (by simp_arith[show b4 ct F (k+2) 201 [.ref n,.int 0] h=.ok (.int c0) h from hc0];rfl)];exact seq (by simp_arith[s2])
 generalize h++[Cell.lst (shD sh)]=g1 at P1 A1 st1;obtain⟨c1,hc1⟩:=a1m (ct:=ct) (k:=k+1) (j:=1) dC (P1.at hr);obtain⟨ls,l1,l2,l3,l4⟩:=a7a (ct:=ct) (k:=k) (c:=c1) (h:=g1) bG bU f208 s1 A1;have P2:Pf h (g1++[.lst (ls.map ltD)]):=P1.app _;have A2:=b5 (g:=[.lst (ls.map ltD)]) A1;have B2:(g1++[Cell.lst (ls.map ltD)])[g1.length]? =some (.lst (ls.map ltD)):=b6;generalize hd:g1.length=d at l4 B2;generalize eD:g1++[Cell.lst (ls.map ltD)]=g2 at P2 A2 B2 l4;obtain⟨c2,hc2⟩:=a1m (ct:=ct) (k:=k+1) (j:=2) dC (P2.at hr);obtain⟨cs,k1,k2,k3,k4⟩:=a7n (ct:=ct) (k:=k) (c:=c2) (h:=g2) bG bU f209 s1 A2;have P3:Pf h (g2++[.lst (cs.map csD)]):=P2.app _;have A3:=b5 (g:=[.lst (cs.map csD)]) A2;have B3:=b5 (g:=[.lst (cs.map csD)]) B2;have C3:(g2++[Cell.lst (cs.map csD)])[g2.length]? =some (.lst (cs.map csD)):=b6;generalize hf:g2.length=f at k4 C3;generalize hg3:g2++[Cell.lst (cs.map csD)]=g3 at P3 A3 B3 C3 k4;obtain⟨c2',hc2'⟩:=a1m (ct:=ct) (k:=k+1) (j:=2) dC (P3.at hr);obtain⟨M,hM⟩:=D1 (ct:=ct) (k:=k+1) (c:=c2') (j:=5) (h:=g3) bG (by decide);obtain⟨fe,t,f1,f2,f3⟩:=b1x (ct:=ct) (k:=k+1) (M:=M) (env:=[some (.ref n),some (.int (m:Int)),some (.int c0),some (.ref h.length),some (.ref d),some (.ref f),some (.int (M:Int)),none,none,none,none,none]) (g:=g3) bU rfl;have lg:(g3++[t]).length=g3.length+1:=by simp
 have P4:Pf h (g3++[t]++[.lst (fe.map feD)]):=(P3.app _).app _;have A4:=b5 (g:=[.lst (fe.map feD)]) (b5 (g:=[t]) A3);have B4:=b5 (g:=[.lst (fe.map feD)]) (b5 (g:=[t]) B3);have C4:=b5 (g:=[.lst (fe.map feD)]) (b5 (g:=[t]) C3);have D4:(g3++[t]++[Cell.lst (fe.map feD)])[g3.length+1]? =some (.lst (fe.map feD)):=by rw[←lg];exact b6
 generalize hi:g3.length+1=i at f3 D4;generalize hg4:g3++[t]++[Cell.lst (fe.map feD)]=g4 at P4 A4 B4 C4 D4 f3;obtain⟨c3,hc3⟩:=a1m (ct:=ct) (k:=k+1) (j:=3) dC (P4.at hr);obtain⟨rs,r1,r2,r3,r4⟩:=a9M (ct:=ct) (k:=k) (c:=c3) (m:=m) (h:=g4) bG df bU f211 (T:=⟨A4,B4,C4,s1.lo,l1.1,k1.1,l3,k3⟩) D4 f1.1 hm;have P5:Pf h (g4++[.lst (rs.map ruD)]):=P4.app _;have A5:=b5 (g:=[.lst (rs.map ruD)]) A4;have B5:=b5 (g:=[.lst (rs.map ruD)]) B4;have C5:=b5 (g:=[.lst (rs.map ruD)]) C4;have D5:=b5 (g:=[.lst (rs.map ruD)]) D4;have E5:(g4++[Cell.lst (rs.map ruD)])[g4.length]? =some (.lst (rs.map ruD)):=b6;generalize hj:g4.length=j at r4 E5;generalize hg5:g4++[Cell.lst (rs.map ruD)]=g5 at P5 A5 B5 C5 D5 E5 r4;obtain⟨gp,y1,y2⟩:=b3T (ct:=ct) (c:=b4 ct F (k+2)) (M:=M) (env:=[some (.ref n),some (.int (m:Int)),some (.int c0),some (.ref h.length),some (.ref d),some (.ref f),some (.int (M:Int)),some (.ref i),some (.ref j),none,none,none]) (g:=g5) rfl rfl B5 (by omega);have P6:Pf h (g5++[.lst (gp.map .str)]):=P5.app _;have A6:=b5 (g:=[.lst (gp.map .str)]) A5;have X6:Pf g5 (g5++[.lst (gp.map .str)]):=(Pf.refl _).app _;have G6:(g5++[Cell.lst (gp.map .str)])[g5.length]? =some (.lst (gp.map .str)):=b6;generalize he:g5.length=e at y2 G6;generalize hg6:g5++[Cell.lst (gp.map .str)]=g6 at P6 A6 X6 G6 y2;obtain⟨ms,m1,m2,m3⟩:=b0E (ct:=ct) (k:=k) (c:=c0) (h:=g6) bG cH f206 s1 A6;have P7:Pf h (g6++[.lst (ms.map mkD)]):=P6.app _;have A7:=b5 (g:=[.lst (ms.map mkD)]) A6;have X7:Pf g6 (g6++[.lst (ms.map mkD)]):=(Pf.refl _).app _;have M7:(g6++[Cell.lst (ms.map mkD)])[g6.length]? =some (.lst (ms.map mkD)):=b6;generalize hb:g6.length=b at m3 M7;generalize hg7:g6++[Cell.lst (ms.map mkD)]=g7 at P7 A7 X7 M7 m3;obtain⟨ps,p1,p2,p3,p4⟩:=a8H (ct:=ct) (k:=k) (c:=c0) (h:=g7) bG cH f207 s1 A7;have P8:Pf h (g7++[.lst (ps.map ptD)]):=P7.app _;have X8:Pf g7 (g7++[.lst (ps.map ptD)]):=(Pf.refl _).app _;have N8:(g7++[Cell.lst (ps.map ptD)])[g7.length]? =some (.lst (ps.map ptD)):=b6;generalize hc:g7.length=c at p4 N8;generalize hg8:g7++[Cell.lst (ps.map ptD)]=g8 at P8 X8 N8 p4;have X58:=(X6.trans X7).trans X8;refine⟨⟨sh,ms,ps,ls,gp,cs,fe,rs⟩,g8,h.length,b,c,d,e,f,i,j,⟨⟨s1.hi,s1.nd,s1.ok⟩,m1,m2,p1,p2,p3,l1.2,l2,l3,y1,k1.2,k2,k3,f1.2,f2,by show rs.length<=26;omega,r2,r3⟩,(λz=>by have:=s1.lo;rw[show sh=[] from z] at this;cases this),P8,⟨X58.at A5,X8.at M7,N8,X58.at B5,(X7.trans X8).at G6,X58.at C5,X58.at D5,X58.at E5⟩,?_⟩;rw[i9 hF rfl];simp only[K5];rw[gc0];show a1z (exs ct (b4 ct F (k+2)) (.cons (.set 2 (.call 201 (.cons (.v 0) (.o (.i 0))))) (.cons (.set 3 (.call 204 (.o (.v 2)))) hB2)) [some (.ref n),some (.int (m:Int)),none,none,none,none,none,none,none,none,none,none] h)=_;rw[st1];unfold hB2;rw[seq (by simp_arith[show b4 ct F (k+2) 201 [.ref n,.int 1] g1=.ok (.int c1) g1 from hc1,l4];rfl),seq (by simp_arith[show b4 ct F (k+2) 201 [.ref n,.int 2] g2=.ok (.int c2) g2 from hc2,k4];rfl),seq (by simp_arith[show b4 ct F (k+2) 201 [.ref n,.int 2] g3=.ok (.int c2') g3 from hc2',hM];rfl)];unfold hB3;rw[seq (by simp_arith[f3];rfl),seq (by simp_arith[show b4 ct F (k+2) 201 [.ref n,.int 3] g4=.ok (.int c3) g4 from hc3,r4];rfl)];unfold hB4;rw[seq (by simp_arith[y2];rfl),seq (by simp_arith[m3];rfl),seq (by simp_arith[p4];rfl)];have s8:(8<=SL)=True:=eq_true (by decide)
 simp_arith[s8]
end
def num(i:Int):Str:=Str.ofString (toString i)
def ln(ws:List Str):Str:=Txt.join " " ws
theorem a6A(ws:List Str):cd (ln ws)=jn 32 (ws.map cd):=by show cd (glued " " _)=_;rw[fS];exact a2A 32 ws
theorem a3X(h:cd x=jn 32 (ws.map cd)):x=ln ws:=Z7 (h.trans (a6A ws).symm)
def J5(p:Str×Nat):List Str:=["shape",p.1,num p.2]
def C9(p:Int×Int):List Str:=[num p.1,num p.2]
def P9(m:Mk):List Str:=["mark",m.n,m.s,num m.a.1,num m.a.2,num m.b.1,num m.b.2]
def R7(p:Pt):List Str:=["point",p.n,p.s,num p.a.1,num p.a.2]
def G8(l:Lt):List Str:="letter"::l.n::l.j::l.w::l.fs
def a2j(n:Str):List Str:=["gap",n]
def M9(c:Cs):List Str:="class"::c.n::c.fs
def a6U(b:Bool):Str:=if b then "on" else "off"
def W0(p:Str×Bool):List Str:=["feature",p.1,a6U p.2]
def G4(r:Ru):List Str:="rule"::r.t::r.f::(r.b++("/":Str)::(r.c++("/":Str)::(r.a++(">":Str)::r.o)))
noncomputable def G0(H:HL):List (List Str):=H.sh.map J5++H.mr.map P9++H.pt.map R7++H.ls.map G8++H.gp.map a2j++H.cs.map M9++H.fe.map W0++H.ru.map G4
theorem a2v{i:Int}(h: -99999<=i/\i<=99999):(num i).length<=7:=by unfold num;rw[ofString_length];exact int_text_length_le10 (a:=i) (k:=6) (by decide) (by omega)
theorem a1u{i:Int}(hi: -99999<=i/\i<=99999):biD .str h [.int i]=.ok (.str (num i)) h:=by
 simp only[biD,bi1,biL];rw[ay]
 · rfl
 · by_cases h0:i.natAbs=0
   · rw[h0];decide
   · exact(Nat.log2_lt h0).mpr (aC (show i.natAbs<2^17 by omega) (Nat.pow_le_pow_right (by decide) (by decide)))
theorem D7:(Str.ofString " ").length=1:=rfl
theorem a4w(h:∀w∈ws,w.length<=b):(ws.map (·.length)).sum<=ws.length*b:=by
 induction ws with
 |nil=>simp
 |cons x r ih=>
  rw[map_cons,List.sum_cons,length_cons];have:=ih λw hw=>h w (.tail _ hw);have:=h x (.head _);rw[Nat.add_mul];omega
theorem b0J(h:∀w∈ws,w.length<=b):(ln ws).length<=ws.length*(b+1):=by show(glued " " ws).length<=_;rw[fS];refine aO (StrLaws.join_length_le _ _) ?_;have:=a4w h;rw[D7,Nat.mul_add];omega
theorem b0O(h:∀w∈ws,w.length<=20)(hl:ws.length<=100):JoinOk " " ws=true:=by have:=a4w h;exact a4Y (by rw[D7];omega)
variable{ys:List Str}{p:Pat}{nb:Nat}
section
variable{ct:CT}{F:Nat->Option Fn}
theorem a2V{k:Nat}{p:Int×Int}(hF:F 213=some C0)(hp:V9 p):b4 ct F (k+1) 213 [spD p] h=.ok (.str (ln (C9 p))) h:=by rw[i9 hF rfl];simp only[C0];have i0:ixD h (spD p) (.int 0)=.ok (.int p.1) h:=ix_tup (i:=0) rfl;have i1:ixD h (spD p) (.int 1)=.ok (.int p.2) h:=ix_tup (i:=1) rfl;have l1:=a2v hp.1;have l2:=a2v hp.2;simp_arith[i0,i1,a1u hp.1,a1u hp.2,op2,n5 (h:=h) (x:=num p.1) (y:=" ") (by rw[D7];omega),n5 (h:=h) (x:=num p.1++(" ":Str)) (y:=num p.2) (by rw[j9,D7];omega)];rw[show(num p.1++(" ":Str))++num p.2=ln (C9 p) from a3X (by rw[G3,G3,show cd (Str.ofString " ")=[32] from rfl];show cd (num p.1)++[32]++cd (num p.2)=cd (num p.1)++32::cd (num p.2);simp)];exact A9 rfl
theorem a5w{a:Nat}{ys:List D}(h1:g[a]? =some (.lst xs))(h2:g[b]? =some (.lst ys))(hl:xs.length+ys.length<=100000):W2 g (.ref a) (.ref b)=.ok (.ref g.length) (g++[.lst (xs++ys)]):=a1r h1 h2 hl
theorem b0K:biD .list h [.tup xs]=.ok (.ref h.length) (h++[.lst xs]):=rfl
theorem a4Z(h1:g[n]? =some (.lst (ts.map .str)))(jo:JoinOk sep ts=true):mtD .join g (.str sep) [.ref n]=.ok (.str (Txt.join sep ts)) g:=by
 have:rdL g n=some (ts.map .str):=by unfold rdL;rw[h1]
 simp only[mtD,this,a1t];rw[ay jo]
theorem a6w{s:Nat}{fr:List Nat}{l:List α}(rp:α->D)(f:α->Str)(bK:α->l0)(ha:ev ct c a env h=.ok (.ref s) h)(hs:h[s]? =some (.lst (l.map rp)))(hl:l.length<=1000)
 (hx:∀x∈l,w6 p (rp x) (t8 nb fr env)=some (bK x)/\∀h,∃t,ev ct c e (bK x) h=.ok (.str (f x)) (h++t)):∃t,ev ct c (.comp p (.seq a) nb fr .yes e) env h=.ok (.ref (h++t).length) (h++t++[.lst ((l.map f).map .str)]):=by
 have key:∀(l':List α) (bw:List D) (h':AH),(∀t,gOk [(s,.lst (l.map rp))] (h'++t)=true)->(∀x∈l',w6 p (rp x) (t8 nb fr env)=some (bK x)/\∀h,∃t,ev ct c e (bK x) h=.ok (.str (f x)) (h++t))->bw.length+l'.length<=SL->∃t,B0 [(s,.lst (l.map rp))] p (tst ct c .yes) (ev ct c e) (t8 nb fr env) (l'.map rp) bw h'=.ok (bw++(l'.map f).map .str) (h'++t):=by
  intro l'
  induction l' with
  |nil=>
   intro bw h' g1 _ _;have g0:=g1 [];rw[aV] at g0;exact⟨[],by rw[map_nil,B0,ay g0];simp⟩
  |cons x r ih=>
   intro bw h' g1 dE hl';have g0:=g1 [];rw[aV] at g0;obtain⟨b1,b2⟩:=dE x (.head _);obtain⟨t,b2⟩:=b2 h';rw[length_cons] at hl';obtain⟨u,ih⟩:=ih (bw++[.str (f x)]) (h'++t) (λu=>by rw[aA];exact g1 _) (λy hy=>dE y (.tail _ hy)) (by rw[aq];simp;omega);refine⟨t++u,?_⟩;rw[map_cons,B0,ay g0,b1];simp only;rw[a0R,g9,ay rfl,b2,g9,ay (by omega),ih];simp
 obtain⟨t,kt⟩:=key l [] h (λt=>by simp[gOk,b5 (g:=t) hs]) hx (by show 0+_<=16777216;omega);refine⟨t,?_⟩;rw[a0i (x:=(l.map rp,[(s,.lst (l.map rp))])) (h1:=h) (h2:=h++t) (ds:=(l.map f).map .str) (by rw[a2z,ha,g9];simp only[W5,hs]) (by rw[kt,nil_append])]
end
section
variable{ct:CT}{F:Nat->Option Fn}
def EvL(ct:CT)(c:CF)(e:E)(env:l0)(h:AH)(xs:List Str):Prop:=∃n t,ev ct c e env h=.ok (.ref n) (h++t)/\(h++t)[n]? =some (.lst (xs.map .str))/\(h.length<=n∨t=[])
theorem a6o{b:E}{xs:List Str}(A:EvL ct c a env h xs)(B:∀t,EvL ct c b env (h++t) ys)(hl:xs.length+ys.length<=100000):∃n t,ev ct c (.bin .add a b) env h=.ok (.ref n) (h++t)/\(h++t)[n]? =some (.lst ((xs++ys).map .str))/\h.length<=n:=by
 obtain⟨n,t,a1,a2,_⟩:=A;obtain⟨m,u,b1,b2,_⟩:=B t;refine⟨(h++t++u).length,t++u++[.lst ((xs++ys).map .str)],?_,?_,by simp[aq,Nat.add_assoc]⟩
 · simp_arith[a1,b1,op2,a5w (b5 (g:=u) a2) b2 (by rw[aa,aa];exact hl)]
   simp
 · rw[show h++(t++u++[Cell.lst ((xs++ys).map .str)])=h++t++u++[.lst ((xs++ys).map .str)] by simp];exact b6
theorem u6{b:E}{xs:List Str}(A:EvL ct c a env h xs)(B:∀t,EvL ct c b env (h++t) ys)(hl:xs.length+ys.length<=100000):EvL ct c (.bin .add a b) env h (xs++ys):=
 let⟨n,t,a1,a2,a3⟩:=a6o A B hl
 ⟨n,t,a1,a2,.inl a3⟩
theorem B6{es:Es}{xs:List Str}(e:evs ct c es env h=.ok (xs.map .str) h)(hl:xs.length<=1000):EvL ct c (.lst es) env h xs:=by refine⟨h.length,[.lst (xs.map .str)],?_,b6,.inl (aj _)⟩;rw[b1E,e,g9,ay (by rw[aa];show _<=16777216;omega)];rfl
theorem D3{xs:List Str}(e:ev ct c a env h=.ok (.tup (xs.map .str)) h):EvL ct c (.bi .list (.cons a .nil)) env h xs:=by
 refine⟨h.length,[.lst (xs.map .str)],?_,b6,.inl (aj _)⟩
 simp_arith[e,b0K]
theorem b4L{i:Nat}{xs:List Str}(e:env[i]? =some (some (.ref n)))(hn:h[n]? =some (.lst (xs.map .str))):EvL ct c (.v i) env h xs:=by refine⟨n,[],?_,by rw[aV];exact hn,.inr rfl⟩;rw[aV];simp_arith[e]
theorem a3m{xs:List Str}(A:EvL ct c e env h xs)(jo:JoinOk sep xs=true):∃t,ev ct c (.mt .join (.k (.str sep)) (.cons e .nil)) env h=.ok (.str (Txt.join sep xs)) (h++t):=by
 obtain⟨n,t,a1,a2,_⟩:=A;refine⟨t,?_⟩
 simp_arith[mtT,a1,a4Z a2 jo]
theorem a9N{k:Nat}{r:Ru}(hF:F 214=some B8)(hl:(G4 r).length<=100)(hw:∀w∈G4 r,w.length<=20):b4 ct F (k+1) 214 [ruD r] h=.ok (.str (ln (G4 r))) h:=by
 have i0:∀h,ixD h (ruD r) (.int 0)=.ok (.str r.t) h:=λh=>ix_tup (i:=0) rfl;have i1:∀h,ixD h (ruD r) (.int 1)=.ok (.str r.f) h:=λh=>ix_tup (i:=1) rfl;have i2:∀h,ixD h (ruD r) (.int 2)=.ok (.tup (r.b.map .str)) h:=λh=>ix_tup (i:=2) rfl;have i3:∀h,ixD h (ruD r) (.int 3)=.ok (.tup (r.c.map .str)) h:=λh=>ix_tup (i:=3) rfl;have i4:∀h,ixD h (ruD r) (.int 4)=.ok (.tup (r.a.map .str)) h:=λh=>ix_tup (i:=4) rfl;have i5:∀h,ixD h (ruD r) (.int 5)=.ok (.tup (r.o.map .str)) h:=λh=>ix_tup (i:=5) rfl;have ll:r.b.length+r.c.length+r.a.length+r.o.length<=100:=by unfold G4 at hl;simp only[length_cons,aq] at hl;omega
 rw[i9 hF rfl];simp only[B8];show gcR 1 h (a1z (exs ct (b4 ct F k) _ [some (ruD r),none] h))=_;have A:=u6 (u6 (u6 (B6 (ct:=ct) (c:=b4 ct F k) (es:=(.cons (.s "rule") (.cons (.ix (.v 0) (.i 0)) (.o (.ix (.v 0) (.i 1)))))) (env:=[some (ruD r),none]) (h:=h) (xs:=["rule",r.t,r.f]) (by simp_arith[i0,i1]) (by show 3<=1000;decide)) (λt=>D3 (a:=(.ix (.v 0) (.i 2))) (xs:=r.b) (by simp_arith[i2])) (by simp only[length_cons,length_nil];omega)) (λt=>B6 (es:=(.o (.s "/"))) (xs:=["/"]) (by simp_arith[]) (by decide)) (by simp only[aq,length_cons,length_nil];omega)) (λt=>D3 (a:=(.ix (.v 0) (.i 3))) (xs:=r.c) (by simp_arith[i3])) (by simp only[aq,length_cons,length_nil];omega);obtain⟨n,t,a1,a2,_⟩:=A;rw[seq (bv:=[some (ruD r),some (.ref n)]) (h':=h++t) (by rw[a1J,a1,g9];rfl)];have B:=u6 (u6 (u6 (u6 (b4L (ct:=ct) (c:=b4 ct F k) (i:=1) (env:=[some (ruD r),some (.ref n)]) rfl a2) (λt=>B6 (es:=(.o (.s "/"))) (xs:=["/"]) (by simp_arith[]) (by decide)) (by simp only[aq,length_cons,length_nil];omega)) (λt=>D3 (a:=(.ix (.v 0) (.i 4))) (xs:=r.a) (by simp_arith[i4])) (by simp only[aq,length_cons,length_nil];omega)) (λt=>B6 (es:=(.o (.s ">"))) (xs:=[">"]) (by simp_arith[]) (by decide)) (by simp only[aq,length_cons,length_nil];omega)) (λt=>D3 (a:=(.ix (.v 0) (.i 5))) (xs:=r.o) (by simp_arith[i5])) (by simp only[aq,length_cons,length_nil];omega);have e:[("rule":Str),r.t,r.f]++r.b++[("/":Str)]++r.c++[("/":Str)]++r.a++[(">":Str)]++r.o=G4 r:=by unfold G4;simp
 rw[e] at B;obtain⟨u,b1⟩:=a3m B (b0O hw hl);rw[K6,a1K,b1,g9,g9];rw[aA];exact gc1 rfl
end
theorem a0L(n:Nat):cd (num (n:Int))=(Nat.toDigits 10 n).map Char.toNat:=W.KIN.signs_num n
theorem b1e(n:Nat):n≠0->((Nat.toDigits 10 n).map Char.toNat).head?≠some 48:=by
 induction n using Nat.strongRecOn with
 |_ n ih=>
  intro h0
  by_cases h:n<10
  · rw[Nat.toDigits_of_lt_base h,map_cons,List.head?_cons,Nat.toNat_digitChar_of_lt_ten h];intro e;have:=ax e;omega
  · rw[Nat.toDigits_of_base_le (by decide) (by omega),ao];have hn:=ih (n/10) (by omega) (by omega);cases hd:Nat.toDigits 10 (n/10) with
    |nil=>exact absurd hd Nat.toDigits_ne_nil
    |cons a r=>rw[hd] at hn;exact hn
theorem a5i(n:Nat):(cd (num (n:Int))).all Q8=true:=by rw[a0L];refine ba.mpr λc hc=>?_;obtain⟨d,hd,rfl⟩:=am.mp hc;have:=Nat.isDigit_of_mem_toDigits (by decide) (by decide) hd;rw[a5j];unfold Char.isDigit at this;simp only[af,decide_eq_true_eq] at this;exact⟨this.1,this.2⟩
theorem a3a(h:n<=99999):T9 (num (n:Int))=some (n:Int):=by
 have l5:(num (n:Int)).length<=5:=by rw[←n9,a0L,aa];exact(Nat.length_toDigits_le_iff (by decide) (by decide)).mpr (by omega)
 have l1:(num (n:Int)).length≠0:=by rw[←n9,a0L,aa];exact λe=>Nat.toDigits_ne_nil (length_eq_zero_iff.mp e)
 unfold T9;rw[ay (a5i n),az,a0L,W.KIN.val_back];rintro(e|e|⟨e1,e2⟩)
 · exact l1 ((a8R _).mp e)
 · omega
 · rw[a0L] at e1
   by_cases h0:n=0
   · rw[h0] at e2;exact absurd e2 (by decide)
   · exact b1e n h0 e1
theorem a5o(m:Nat):cd (num (Int.negSucc m))=45::cd (num ((m+1:Nat):Int)):=by rw[a0L];show(Str.ofString ("-"++Nat.repr (m+1))).cps.toList=_;rw[Str.ofString_eq_toList];simp[Nat.toList_repr]
theorem G5{i:Int}(h: -99999<=i/\i<=99999):a0q (num i)=some i:=by
 unfold a0q;cases i with
 |ofNat n=>
  have h2:(n:Int)<=99999:=h.2;rw[az]
  · exact a3a (by omega)
  · intro e;cases hc:cd (num (Int.ofNat n)) with
    |nil=>rw[hc] at e;cases e
    |cons c r=>
     rw[hc] at e;have e:=ax e;have:=a5i n;rw[show cd (num (n:Int))=c::r from hc,all_cons,e] at this;rw[show Q8 45=false from by decide+kernel] at this;exact Bool.noConfusion this
 |negSucc m=>
  have h1:=h.1;rw[Int.negSucc_eq] at h1;have t:tl (num (Int.negSucc m))=num ((m+1:Nat):Int):=Z7 (by rw[a4l,a5o];rfl);rw[ay (by rw[a5o];rfl),t,a3a (by omega)];simp only;rw[az (by omega)];congr 1
structure WOk(w:Str):Prop where
 l:w.length<=20
 p:w.length≠0
 c:∀c∈cd w,c≠32/\c≠10
theorem WOk.num{i:Int}(h: -99999<=i/\i<=99999):WOk (num i):=by
 have fg:∀n:Nat,∀c∈cd (EV.num (n:Int)),c≠32/\c≠10:=λn c hc=>by have:=(a5j c).mp (ba.mp (a5i n) c hc);omega
 refine⟨by have:=a2v h;omega,?_,?_⟩
 · rw[←n9];cases i with
   |ofNat n=>
    show(cd (EV.num (n:Int))).length≠0;rw[a0L,aa];exact λe=>Nat.toDigits_ne_nil (length_eq_zero_iff.mp e)
   |negSucc m=>rw[a5o];exact Nat.succ_ne_zero _
 · cases i with
   |ofNat n=>exact fg n
   |negSucc m=>
    rw[a5o];intro c hc;rcases aE.mp hc with rfl|hc
    · decide
    · exact fg _ c hc
theorem b2G{c:Nat}(h:N3 c=true):c≠32/\c≠10:=by
 unfold N3 at h;have h:=aw h;have:∀c∈cd a0U,c≠32/\c≠10:=by decide+kernel
 exact this c h
theorem WOk.name{w:Str}(h:b9 w=true):WOk w:=by unfold b9 at h;simp only[af,decide_eq_true_eq] at h;exact⟨by omega,by omega,λc hc=>b2G (ba.mp h.2 c hc)⟩
theorem WOk.at{w:Str}(h:b9 w=true):WOk (("@":Str)++w):=by
 have n:=X5 h;have k:=WOk.name h;refine⟨by rw[j9,show(Str.ofString "@").length=1 from rfl];omega,by rw[j9,show(Str.ofString "@").length=1 from rfl];omega,λc hc=>?_⟩;rw[G3] at hc;rcases aI.mp hc with hc|hc
 · have:c=64:=by simpa [show cd (Str.ofString "@")=[64] from by decide+kernel] using hc
   omega
 · exact k.c c hc
structure Row(ws:List Str):Prop where
 n:ws≠[]
 l:ws.length<=40
 w:∀w∈ws,WOk w
instance (w:Str):Decidable (w.length<=20/\w.length≠0/\∀c∈cd w,c≠32/\c≠10):=inferInstance
theorem WOk.k{w:Str}(h:w.length<=20/\w.length≠0/\∀c∈cd w,c≠32/\c≠10):WOk w:=⟨h.1,h.2.1,h.2.2⟩
theorem Row.nil:∀w∈([]:List Str),WOk w:=λ_ h=>nomatch h
theorem i7{a:Str}{r:List Str}(h:WOk a)(hr:∀w∈r,WOk w):∀w∈a::r,WOk w:=λw hw=>by
 rcases aE.mp hw with rfl|hw
 · exact h
 · exact hr w hw
theorem a6V{a r:List Str}(h:∀w∈a,WOk w)(hr:∀w∈r,WOk w):∀w∈a++r,WOk w:=λw hw=>by
 rcases aI.mp hw with hw|hw
 · exact h w hw
 · exact hr w hw
section
variable{H:HL}(K:HLok H)
include K
theorem O2{n:Str}(h:n∈H.sh.map (·.1)):b9 n=true:=by obtain⟨p,hp,rfl⟩:=am.mp h;exact(K.sh.ok p hp).1
theorem a7A{s:Str}(h:a0o s):WOk s:=by rcases h with rfl|rfl<;>exact WOk.k (by decide+kernel)
theorem a4R{m:Mk}(h:m∈H.mr):m.n∈H.sh.map (·.1):=K.mr.subset (am.mpr ⟨m,h,rfl⟩)
theorem a1g{f:Str}(h:f∈H.fe.map (·.1)):b9 f=true:=K.fen.ok f h
theorem b0U{i:Str}(h:a2i H.sh H.cs i):WOk i:=by
 rcases h with h|⟨c,hc,rfl⟩
 · exact WOk.name (O2 K h)
 · exact WOk.at (K.cso c hc).nm
theorem a3R{p:Str×Nat}(h:p∈H.sh):Row (J5 p):=by have k:=K.sh.ok p h;exact⟨cons_ne_nil _ _,eT rfl,i7 (WOk.k (by decide+kernel)) (i7 (WOk.name k.1) (i7 (WOk.num (by have:=k.2;omega)) Row.nil))⟩
theorem a5N{m:Mk}(h:m∈H.mr):Row (P9 m):=by obtain⟨k1,k2,k3⟩:=K.mko m h;exact⟨cons_ne_nil _ _,eT rfl,i7 (WOk.k (by decide+kernel)) (i7 (WOk.name (O2 K (a4R K h))) (i7 (a7A K k1) (i7 (WOk.num k2.1) (i7 (WOk.num k2.2) (i7 (WOk.num k3.1) (i7 (WOk.num k3.2) Row.nil))))))⟩
theorem a3S{p:Pt}(h:p∈H.pt):Row (R7 p):=by obtain⟨k1,k2,k3⟩:=K.pto p h;exact⟨cons_ne_nil _ _,eT rfl,i7 (WOk.k (by decide+kernel)) (i7 (WOk.name (O2 K k1)) (i7 (a7A K k2) (i7 (WOk.num k3.1) (i7 (WOk.num k3.2) Row.nil))))⟩
theorem a0z{l:Lt}(h:l∈H.ls):Row (G8 l):=by
 have k:=K.lso l h;have kl:=k.few;refine⟨cons_ne_nil _ _,by unfold G8;simp only[length_cons];omega,i7 (WOk.k (by decide+kernel)) (i7 (WOk.name k.nm) (i7 ?_ (i7 ?_ λw hw=>WOk.name (O2 K (k.fs w hw)))))⟩
 · rcases k.js with e|e|e|e<;>rw[e]<;>exact WOk.k (by decide+kernel)
 · rcases k.ws with e|e|e<;>rw[e]<;>exact WOk.k (by decide+kernel)
theorem a5g{n:Str}(h:n∈H.gp):b9 n=true:=by obtain⟨l,hl,rfl⟩:=am.mp (K.gp.subset h);exact(K.lso l hl).nm
theorem a7F{n:Str}(h:n∈H.gp):Row (a2j n):=⟨cons_ne_nil _ _,eT rfl,i7 (WOk.k (by decide+kernel)) (i7 (WOk.name (a5g K h)) Row.nil)⟩
theorem a1w{c:Cs}(h:c∈H.cs):Row (M9 c):=by have k:=K.cso c h;have kl:=k.few;exact⟨cons_ne_nil _ _,by unfold M9;simp only[length_cons];omega,i7 (WOk.k (by decide+kernel)) (i7 (WOk.name k.nm) λw hw=>WOk.name (O2 K (k.fs w hw)))⟩
theorem a5O{p:Str×Bool}(h:p∈H.fe):Row (W0 p):=by refine⟨cons_ne_nil _ _,eT rfl,i7 (WOk.k (by decide+kernel)) (i7 (WOk.name (a1g K (am.mpr ⟨p,h,rfl⟩))) (i7 ?_ Row.nil))⟩;cases p.2<;>exact WOk.k (by decide+kernel)
theorem a0W{r:Ru}(h:r∈H.ru):Row (G4 r):=by have k:=K.ruo r h;have l1:=k.b3;have l2:=k.c4;have l3:=k.a3;have l4:=k.o3;refine⟨cons_ne_nil _ _,by unfold G4;simp only[length_cons,aq];omega,i7 (WOk.k (by decide+kernel)) (i7 (WOk.name k.nm) (i7 (WOk.name (a1g K k.fe)) (a6V (λw hw=>b0U K (k.b w hw)) (i7 (WOk.k (by decide+kernel)) (a6V (λw hw=>b0U K (k.c w hw)) (i7 (WOk.k (by decide+kernel)) (a6V (λw hw=>b0U K (k.a w hw)) (i7 (WOk.k (by decide+kernel)) λw hw=>WOk.name (O2 K (k.o w hw))))))))))⟩
theorem a4G:∀ws∈G0 H,Row ws:=λws h=>by
 unfold G0 at h;simp only[aI,am] at h;rcases h with((((((⟨x,h,rfl⟩|⟨x,h,rfl⟩)|⟨x,h,rfl⟩)|⟨x,h,rfl⟩)|⟨x,h,rfl⟩)|⟨x,h,rfl⟩)|⟨x,h,rfl⟩)|⟨x,h,rfl⟩
 · exact a3R K h
 · exact a5N K h
 · exact a3S K h
 · exact a0z K h
 · exact a7F K h
 · exact a1w K h
 · exact a5O K h
 · exact a0W K h
theorem a7y{f:α->β}{l:List α}{s:List β}(h:(l.map f).Sublist s):l.length<=s.length:=by have:=h.length_le;rw[aa] at this;exact this
theorem Q2:(G0 H).length<=300/\(H.sh≠[]->G0 H≠[]):=by
 have a:=K.sh.hi;have b:=a7y K K.mr;rw[aa] at b;have c:=K.ptl;have d:=K.ls;have e:=K.gp.length_le;rw[aa] at e;have f:=K.cs;have g:=K.fe;have i:=K.rul;have l:(G0 H).length=H.sh.length+H.mr.length+H.pt.length+H.ls.length+H.gp.length+H.cs.length+H.fe.length+H.ru.length:=by unfold G0;simp only[aq,aa]
 exact⟨by omega,λy z=>by rw[z] at l;simp only[length_nil] at l;exact y (length_eq_zero_iff.mp (by omega))⟩
end
theorem a9Q(r:Row ws):E2 (ln ws)=ws:=by unfold E2;rw[show Txt.split (ln ws) " "=ws from a2J (c:=32) r.n (λp hp hc=>((r.w p hp).c 32 hc).1 rfl) (a6A ws)];exact List.filter_eq_self.mpr λw hw=>aW λe=>(r.w w hw).p ((a8R w).mp e)
theorem b0P{c x:Nat}:∀{ps:List (List Nat)},x∈jn c ps->x=c∨∃p∈ps,x∈p
 |[],h=>nomatch h
 |[p],h=>.inr ⟨p,.head _,h⟩
 |p::q::r,h=>by
  rcases aI.mp (show x∈p++c::jn c (q::r) from h) with h|h
  · exact .inr ⟨p,.head _,h⟩
  · rcases aE.mp h with h|h
    · exact .inl h
    · rcases b0P h with h|⟨y,hy,h⟩
      · exact .inl h
      · exact .inr ⟨y,.tail _ hy,h⟩
theorem a9P(r:Row ws):10∉cd (ln ws):=λh=>by
 rw[a6A] at h;rcases b0P h with h|⟨p,hp,h⟩
 · exact absurd h (by decide)
 · obtain⟨w,hw,rfl⟩:=am.mp hp;exact((r.w w hw).c 10 h).2 rfl
theorem a7E(r:Row ws):(ln ws).length<=840:=by have:=b0J (ws:=ws) (b:=20) λw hw=>(r.w w hw).l;have l:=r.l;have:ws.length*21<=40*21:=Nat.mul_le_mul_right 21 l;omega
def a1X(H:HL):Str:=Txt.join "\n" ((G0 H).map ln)
theorem a8r{H:HL}(K:HLok H)(hn:H.sh≠[]):Txt.split (a1X H) "\n"=(G0 H).map ln:=by
 refine a2J (c:=10) (λe=>(Q2 K).2 hn (List.map_eq_nil_iff.mp e)) (λp hp=>?_) ?_
 · obtain⟨ws,hw,rfl⟩:=am.mp hp;exact a9P (a4G K ws hw)
 · show cd (glued "\n" _)=_;rw[fS];exact a2A 10 _
theorem a5L{H:HL}(K:HLok H):(((G0 H).map ln).map (·.length)).sum<=300*840:=by
 have:=a4w (ws:=(G0 H).map ln) (b:=840) λw hw=>by obtain⟨ws,hq,rfl⟩:=am.mp hw;exact a7E (a4G K ws hq)
 rw[aa] at this;have l:=(Q2 K).1;exact aO this (Nat.mul_le_mul_right _ l)
theorem b2l{H:HL}(K:HLok H):(a1X H).length<=1000000:=by have:=a5L K;have l:=(Q2 K).1;show(glued "\n" _).length<=_;rw[fS];refine aO (StrLaws.join_length_le _ _) ?_;rw[aa,show(Str.ofString "\n").length=1 from rfl];omega
theorem a9q{H:HL}(K:HLok H):JoinOk "\n" ((G0 H).map ln)=true:=by have:=a5L K;have l:=(Q2 K).1;exact a4Y (by rw[aa,show(Str.ofString "\n").length=1 from rfl];omega)
theorem k32:cd (Str.ofString " ")=[32]:=rfl
theorem b2w(n w:Str):(("shape ":Str)++n++(" ":Str))++w=ln ["shape",n,w]:=a3X (by simp only[G3,k32,show cd (Str.ofString "shape ")=cd (Str.ofString "shape")++[32] from by decide+kernel,map_cons,map_nil,jn,aA,cons_append,nil_append])
theorem b7Z(n:Str):("gap ":Str)++n=ln ["gap",n]:=a3X (by simp only[G3,show cd (Str.ofString "gap ")=cd (Str.ofString "gap")++[32] from by decide+kernel,map_cons,map_nil,jn,aA,cons_append,nil_append])
theorem b5f(n w:Str):(("feature ":Str)++n++(" ":Str))++w=ln ["feature",n,w]:=a3X (by simp only[G3,k32,show cd (Str.ofString "feature ")=cd (Str.ofString "feature")++[32] from by decide+kernel,map_cons,map_nil,jn,aA,cons_append,nil_append])
theorem b2x(n s a b:Str):((((("point ":Str)++n)++(" ":Str))++s)++(" ":Str))++ln [a,b]=ln ["point",n,s,a,b]:=a3X (by simp only[G3,k32,a6A,show cd (Str.ofString "point ")=cd (Str.ofString "point")++[32] from by decide+kernel,map_cons,map_nil,jn,aA,cons_append,nil_append])
theorem b5e(n s a b c d:Str):((((("mark ":Str)++n)++(" ":Str))++s)++(" ":Str))++((ln [a,b]++(" ":Str))++ln [c,d])=ln ["mark",n,s,a,b,c,d]:=a3X (by simp only[G3,k32,a6A,show cd (Str.ofString "mark ")=cd (Str.ofString "mark")++[32] from by decide+kernel,map_cons,map_nil,jn,aA,cons_append,nil_append])
def TS(T:D)(h0:AH)(env:l0)(h:AH)(xs:List Str):Prop:=∃n e1 e3 e4 e5 e6 e7 e8 e9,env=[some T,e1,some (.ref n),e3,e4,e5,e6,e7,e8,e9]/\Pf h0 h/\h0.length<=n/\h[n]? =some (.lst (xs.map .str))
section
variable{ct:CT}{F:Nat->Option Fn}
theorem Z1{s:Nat}{fr:List Nat}{l:List α}(rp:α->D)(f:α->Str)(bK:α->l0)(ha:ev ct c a env h=.ok (.ref s) h)(hs:h[s]? =some (.lst (l.map rp)))(hl:l.length<=1000)
 (hx:∀x∈l,w6 p (rp x) (t8 nb fr env)=some (bK x)/\∀h,∃t,ev ct c e (bK x) h=.ok (.str (f x)) (h++t)):EvL ct c (.comp p (.seq a) nb fr .yes e) env h (l.map f):=by
 obtain⟨t,e⟩:=a6w rp f bK ha hs hl hx;exact⟨(h++t).length,t++[.lst ((l.map f).map .str)],by rw[e,aA],by rw[←aA];exact b6,.inl ⋯⟩
theorem b1C{b:E}{xs:List Str}{i:Nat}(e:env[i]? =some (some (.ref n)))(hn:h[n]? =some (.lst (xs.map .str)))(B:EvL ct c b env h ys)(hl:xs.length+ys.length<=1000):EvL ct c (.bin .add (.v i) b) env h (xs++ys):=by
 obtain⟨m,u,b1,b2,_⟩:=B;refine⟨(h++u).length,u++[.lst (xs.map .str++ys.map .str)],?_,by rw[←aA,b6,ao],.inl ⋯⟩
 simp_arith[e,b1,op2,a5w (b5 (g:=u) hn) b2 (by rw[aa,aa];omega)]
 simp
theorem TS.pf{T:D}{xs:List Str}(S:TS T h0 env h xs):Pf h0 h:=by obtain⟨n,e1,e3,e4,e5,e6,e7,e8,e9,rfl,p,_⟩:=S;exact p
theorem a2E{T:D}{Tl:List D}{xs:List Str}{i s:Nat}(S:TS T h0 env h xs)(hT:T=.tup Tl)(hi:Tl[i]? =some (.ref s)):ev ct c (.ix (.v 0) (.k (.int (i:Int)))) env h=.ok (.ref s) h:=by obtain⟨n,e1,e3,e4,e5,e6,e7,e8,e9,rfl,_⟩:=S;subst hT;simp_arith[ix_tup (h:=h) hi]
theorem a4t{T:D}{xs:List Str}{C:E}(S:TS T h0 env h xs)(hC:EvL ct c C env h ys)(hl:xs.length+ys.length<=1000):∃bv h',ex ct c (.set 2 (.bin .add (.v 2) C)) env h=.ok (.nx bv) h'/\TS T h0 bv h' (xs++ys):=by
 obtain⟨n,e1,e3,e4,e5,e6,e7,e8,e9,rfl,p,l,g⟩:=S;obtain⟨m,u,c1,c2,_⟩:=hC;refine⟨[some T,e1,some (.ref (h++u).length),e3,e4,e5,e6,e7,e8,e9],h++u++[.lst (xs.map .str++ys.map .str)],?_,_,e1,e3,e4,e5,e6,e7,e8,e9,rfl,(p.app _).app _,by have:=p.len;rw[aq];omega,by rw[ao];exact b6⟩
 simp_arith[c1,op2,a5w (b5 (g:=u) g) c2 (by rw[aa,aa];omega)]
theorem a9t{T:D}{xs:List Str}{s:Nat}{body:Ss}{l:List α}(rp:α->D)(f:α->Str)(S:TS T h0 env h xs)(ha:ev ct c a env h=.ok (.ref s) h)(hs:h0[s]? =some (.lst (l.map rp)))
 (hb:∀x∈l,∀env h xs,TS T h0 env h xs->xs.length<=1000->∃bV bv h',w6 p (rp x) env=some bV/\exs ct c body bV h=.ok (.nx bv) h'/\TS T h0 bv h' (xs++[f x])) (hl:xs.length+l.length<=1000):∃bv h',ex ct c (.for p (.seq a) body) env h=.ok (.nx bv) h'/\TS T h0 bv h' (xs++l.map f):=by
 have S0:=S;obtain⟨n,e1,e3,e4,e5,e6,e7,e8,e9,rfl,pf,_⟩:=S;obtain⟨bv,h',q1,q2⟩:=L5 (g:=[(s,.lst (l.map rp))]) (p:=p) (body:=exs ct c body) (λj env h=>TS T h0 env h (xs++(l.take j).map f)) (λj env h S=>by
  obtain⟨n,e1,e3,e4,e5,e6,e7,e8,e9,rfl,pf,_⟩:=S;simp[gOk,pf.at hs]) (l.map rp) 0 _ h (λj x env h hx hP=>by
  have hj:j<l.length:=by simpa using(ae.mp hx).1
  rw[ak,ai hj] at hx;obtain rfl:rp l[j]=x:=ax hx;rw[aB] at hP⊢;obtain⟨bV,bv,h',b1,b2,b3⟩:=hb l[j] (bh hj) env h _ hP (by rw[aq,aa,aJ];omega);refine⟨bV,bv,h',b1,b2,?_⟩;rw[List.take_add_one,ai hj,ao,←aA];exact b3) (by rw[List.take_zero,map_nil,aV];exact S0)
 refine⟨bv,h',?_,?_⟩
 · rw[b1A,a2z,ha,g9];simp only[W5,pf.at hs];rw[g9];exact q1
 · rw[aa,aB,aX] at q2;exact q2
theorem a9u{T:D}{xs:List Str}{t:AH}(S:TS T h0 env h xs)(he:ev ct c e env h=.ok (.str z) (h++t))(hl:xs.length<=1000):∃h',ex ct c (.ex (.mt .append (.v 2) (.cons e .nil))) env h=.ok (.nx env) h'/\TS T h0 env h' (xs++[z]):=by
 obtain⟨n,e1,e3,e4,e5,e6,e7,e8,e9,rfl,p,l,g⟩:=S;refine⟨(h++t).set n (.lst (xs.map .str++[.str z])),?_,n,e1,e3,e4,e5,e6,e7,e8,e9,rfl,(p.app _).set l,l,by rw[x4 (b5 g),ao];rfl⟩
 simp_arith[F5 g,he,L3 (b5 (g:=t) g) (by rw[aa];omega)]
theorem a8e(A:EvL ct c e env h ws)(r:Row ws):∃t,ev ct c (.mt .join (.s " ") (.cons e .nil)) env h=.ok (.str (ln ws)) (h++t):=a3m A (b0O (λw hw=>(r.w w hw).l) (by have:=r.l;omega))
theorem a3c:(Str.ofString "shape ").length=6:=rfl
theorem a1b:(Str.ofString "mark ").length=5:=rfl
theorem X2:(Str.ofString "point ").length=6:=rfl
theorem b6h:(Str.ofString "gap ").length=4:=rfl
theorem a4Q:(Str.ofString "feature ").length=8:=rfl
theorem a2W{p:Int×Int}(hp:V9 p):(ln (C9 p)).length<=42:=b0J (ws:=C9 p) (b:=20) (i7 (WOk.num hp.1) (i7 (WOk.num hp.2) Row.nil) · · |>.l)
variable{H:HL}(K:HLok H)
include K
theorem b4g{p:Str×Nat}(hp:p∈H.sh):ev ct c b3J [some (.str p.1),some (.int (p.2:Int))] h=.ok (.str (ln (J5 p))) h:=by have k:=K.sh.ok p hp;have l1:=X5 k.1;have l2:=a2v (i:=(p.2:Int)) (by have:=k.2;omega);unfold b3J;simp_arith[op2,n5 (h:=h) (x:="shape ") (y:=p.1) (by rw[a3c];omega),n5 (h:=h) (x:=("shape ":Str)++p.1) (y:=" ") (by rw[j9,a3c,D7];omega),a1u (i:=(p.2:Int)) (h:=h) (by have:=k.2;omega),n5 (h:=h) (x:=("shape ":Str)++p.1++(" ":Str)) (y:=num p.2) (by rw[j9,j9,a3c,D7];omega),b2w];rfl
theorem b9J{n:Str}(hn:n∈H.gp):ev ct c (.bin .add (.s "gap ") (.v 0)) [some (.str n)] h=.ok (.str (ln (a2j n))) h:=by have l1:=X5 (a5g K hn);simp_arith[op2,n5 (h:=h) (x:="gap ") (y:=n) (by rw[b6h];omega),b7Z];rfl
theorem b7i{p:Str×Bool}(hp:p∈H.fe):∃t,ev ct c b6N [some (.str p.1),some (.bl p.2)] h=.ok (.str (ln (W0 p))) (h++t):=by
 have l1:=X5 (a1g K (am.mpr ⟨p,hp,rfl⟩));have lo:(a6U p.2).length<=20:=by cases p.2<;>decide
 have ib:biD .int (h++[.lst [.str "off",.str "on"]]) [.bl p.2]=.ok (.int ((if p.2 then 1 else 0:Nat):Int)) (h++[.lst [.str "off",.str "on"]]):=by cases p.2<;>rfl
 have ix:ixD (h++[.lst [.str "off",.str "on"]]) (.ref h.length) (.int ((if p.2 then 1 else 0:Nat):Int))=.ok (.str (a6U p.2)) (h++[.lst [.str "off",.str "on"]]):=E1 b6 (by cases p.2<;>rfl);refine⟨[.lst [.str "off",.str "on"]],?_⟩;unfold b6N;simp_arith[op2,n5 (h:=h) (x:="feature ") (y:=p.1) (by rw[a4Q];omega),n5 (h:=h) (x:=("feature ":Str)++p.1) (y:=" ") (by rw[j9,a4Q,D7];omega),u9,ib,ix,n5 (h:=h++[.lst [.str "off",.str "on"]]) (x:=("feature ":Str)++p.1++(" ":Str)) (y:=a6U p.2) (by rw[j9,j9,a4Q,D7];omega),b5f];rfl
theorem b4j{x:Cs}(hx:x∈H.cs):∃t,ev ct c (.mt .join (.s " ") (.cons b6M .nil)) [some (.str x.n),some (.tup (x.fs.map .str))] h=.ok (.str (ln (M9 x))) (h++t):=by have r:=a1w K hx;have l:=r.l;have A:=u6 (B6 (ct:=ct) (c:=c) (es:=(.cons (.s "class") (.o (.v 0)))) (env:=[some (.str x.n),some (.tup (x.fs.map .str))]) (h:=h) (xs:=["class",x.n]) (by simp_arith[]) (by show 2<=1000;decide)) (λt=>D3 (a:=.v 1) (xs:=x.fs) (by simp_arith[])) (by unfold M9 at l;simp only[length_cons,length_nil] at l⊢;omega);exact a8e (e:=b6M) A r
theorem b1W{T:D}{xs:List Str}{x:Lt}(hx:x∈H.ls)(S:TS T h0 env h xs)(hl:xs.length<=1000):∃bV bv h',w6 (htP 1 7 8 9) (ltD x) env=some bV/\exs ct c b3K bV h=.ok (.nx bv) h'/\TS T h0 bv h' (xs++[ln (G8 x)]):=by have r:=a0z K hx;have l:=r.l;obtain⟨n,e1,e3,e4,e5,e6,e7,e8,e9,rfl,p,ln',g⟩:=S;have S1:TS T h0 [some T,some (.str x.n),some (.ref n),e3,e4,e5,e6,some (.str x.j),some (.str x.w),some (.tup (x.fs.map .str))] h xs:=⟨n,_,_,_,_,_,_,_,_,rfl,p,ln',g⟩;have A:=u6 (B6 (ct:=ct) (c:=c) (es:=(.cons (.s "letter") (.cons (.v 1) (.cons (.v 7) (.o (.v 8)))))) (env:=[some T,some (.str x.n),some (.ref n),e3,e4,e5,e6,some (.str x.j),some (.str x.w),some (.tup (x.fs.map .str))]) (h:=h) (xs:=["letter",x.n,x.j,x.w]) (by simp_arith[]) (by show 4<=1000;decide)) (λt=>D3 (a:=.v 9) (xs:=x.fs) (by simp_arith[])) (by unfold G8 at l;simp only[length_cons,length_nil] at l⊢;omega);obtain⟨t,q⟩:=a8e (e:=b9d) A r;obtain⟨h',q1,q2⟩:=a9u S1 q hl;refine⟨_,_,h',rfl,?_,q2⟩;unfold b3K;show exs ct c _ [some T,some (.str x.n),some (.ref n),e3,e4,e5,e6,some (.str x.j),some (.str x.w),some (.tup (x.fs.map .str))] h=_;rw[seq q1,a5k]
variable(dB:F 213=some C0)
include dB
theorem b4h{k:Nat}{p:Pt}(hp:p∈H.pt):ev ct (b4 ct F (k+1)) b6O [some (.str p.n),some (.str p.s),some (spD p.a)] h=.ok (.str (ln (R7 p))) h:=by obtain⟨k1,k2,k3⟩:=K.pto p hp;have l1:=X5 (O2 K k1);have l2:=(a7A K k2).l;have l3:=a2W k3;unfold b6O;simp_arith[op2,a2V (k:=k) (h:=h) dB k3,n5 (h:=h) (x:="point ") (y:=p.n) (by rw[X2];omega),n5 (h:=h) (x:=("point ":Str)++p.n) (y:=" ") (by rw[j9,X2,D7];omega),n5 (h:=h) (x:=("point ":Str)++p.n++(" ":Str)) (y:=p.s) (by rw[j9,j9,X2,D7];omega),n5 (h:=h) (x:=("point ":Str)++p.n++(" ":Str)++p.s) (y:=" ") (by rw[j9,j9,j9,X2,D7];omega),n5 (h:=h) (x:=("point ":Str)++p.n++(" ":Str)++p.s++(" ":Str)) (y:=ln (C9 p.a)) (by rw[j9,j9,j9,j9,X2,D7];omega)];unfold C9;rw[b2x];rfl
theorem b7x{k:Nat}{T:D}{xs:List Str}{x:Mk}(hx:x∈H.mr)(S:TS T h0 env h xs)(hl:xs.length<=1000):∃bV bv h',w6 (htP 1 3 4 5) (mkD x) env=some bV/\exs ct (b4 ct F (k+1)) b3L bV h=.ok (.nx bv) h'/\TS T h0 bv h' (xs++[ln (P9 x)]):=by
 obtain⟨k1,k2,k3⟩:=K.mko x hx;have l1:=X5 (O2 K (a4R K hx));have l2:=(a7A K k1).l;have l3:=a2W k2;have l4:=a2W k3;obtain⟨n,e1,e3,e4,e5,e6,e7,e8,e9,rfl,p,ln',g⟩:=S;have S1:TS T h0 [some T,some (.str x.n),some (.ref n),some (.str x.s),some (spD x.a),some (spD x.b),some (.str ((ln (C9 x.a)++(" ":Str))++ln (C9 x.b))),e7,e8,e9] h xs:=⟨n,_,_,_,_,_,_,_,_,rfl,p,ln',g⟩;have q:ev ct (b4 ct F (k+1)) (.bin .add (.bin .add (.bin .add (.bin .add (.bin .add (.s "mark ") (.v 1)) (.s " ")) (.v 3)) (.s " ")) (.v 6)) [some T,some (.str x.n),some (.ref n),some (.str x.s),some (spD x.a),some (spD x.b),some (.str ((ln (C9 x.a)++(" ":Str))++ln (C9 x.b))),e7,e8,e9] h=.ok (.str (ln (P9 x))) (h++[]):=by rw[aV];simp_arith[op2,n5 (h:=h) (x:="mark ") (y:=x.n) (by rw[a1b];omega),n5 (h:=h) (x:=("mark ":Str)++x.n) (y:=" ") (by rw[j9,a1b,D7];omega),n5 (h:=h) (x:=("mark ":Str)++x.n++(" ":Str)) (y:=x.s) (by rw[j9,j9,a1b,D7];omega),n5 (h:=h) (x:=("mark ":Str)++x.n++(" ":Str)++x.s) (y:=" ") (by rw[j9,j9,j9,a1b,D7];omega),n5 (h:=h) (x:=("mark ":Str)++x.n++(" ":Str)++x.s++(" ":Str)) (y:=ln (C9 x.a)++(" ":Str)++ln (C9 x.b)) (by rw[j9,j9,j9,j9,j9,j9,a1b,D7];omega)];unfold C9;rw[b5e];rfl
 obtain⟨h',q1,q2⟩:=a9u S1 q hl;refine⟨_,_,h',rfl,?_,q2⟩;unfold b3L;rw[seq (bv:=[some T,some (.str x.n),some (.ref n),some (.str x.s),some (spD x.a),some (spD x.b),some (.str ((ln (C9 x.a)++(" ":Str))++ln (C9 x.b))),e7,e8,e9]) (h':=h) (by simp_arith[op2,a2V (ct:=ct) (k:=k) (h:=h) dB k2,a2V (ct:=ct) (k:=k) (h:=h) dB k3,n5 (h:=h) (x:=ln (C9 x.a)) (y:=" ") (by rw[D7];omega),n5 (h:=h) (x:=ln (C9 x.a)++(" ":Str)) (y:=ln (C9 x.b)) (by rw[j9,D7];omega)]),seq q1,a5k]
theorem b1f{k:Nat}{a c d e i:Nat}(f214:F 214=some B8)(f215:F 215=some F9)(A:HAt H h a b c d e f i j):b4 ct F (k+2) 215 [.tup [.ref a,.ref b,.ref c,.ref d,.ref e,.ref f,.ref i,.ref j]] h=.ok (.str (a1X H)) h:=by
 rw[i9 f215 rfl];simp only[F9];generalize hT:D.tup [.ref a,.ref b,.ref c,.ref d,.ref e,.ref f,.ref i,.ref j]=T;show gcR 1 h (a1z (exs ct (b4 ct F (k+1)) _ [some T,none,none,none,none,none,none,none,none,none] h))=_;have rl:=(Q2 K).1;have ll:H.sh.length+H.mr.length+H.pt.length+H.ls.length+H.gp.length+H.cs.length+H.fe.length+H.ru.length<=300:=by unfold G0 at rl;simp only[aq,aa] at rl;exact rl
 obtain⟨t0,c0⟩:=a6w (ct:=ct) (c:=b4 ct F (k+1)) (p:=(.tp (.cons (.nm 0) (.cons (.nm 1) .nil)))) (a:=(.ix (.v 0) (.i 0))) (e:=b3J) (nb:=2) (fr:=[]) (env:=[some T,none,none,none,none,none,none,none,none,none]) (h:=h) (l:=H.sh) (s:=a) (λp=>.tup [.str p.1,.int (p.2:Int)]) (λp=>ln (J5 p)) (λp=>[some (.str p.1),some (.int (p.2:Int))]) (by rw[←hT];simp_arith[a1s]) A.sh (by omega) (λx hx=>⟨rfl,λh=>⟨[],by rw[aV];exact b4g K hx⟩⟩);have S0:TS T h [some T,none,some (.ref (h++t0).length),none,none,none,none,none,none,none] (h++t0++[.lst ((H.sh.map λp=>ln (J5 p)).map .str)]) (H.sh.map λp=>ln (J5 p)):=⟨_,_,_,_,_,_,_,_,_,rfl,((Pf.refl h).app _).app _,by simp,b6⟩;rw[seq (bv:=[some T,none,some (.ref (h++t0).length),none,none,none,none,none,none,none]) (by unfold b9j;rw[a1J,c0,g9];rfl)];obtain⟨bV,h1,q1,S1⟩:=a9t (l:=H.mr) (a:=(.ix (.v 0) (.i 1))) (p:=htP 1 3 4 5) (body:=b3L) (c:=b4 ct F (k+1)) mkD (λm=>ln (P9 m)) S0 (a2E (i:=1) S0 hT.symm rfl) A.mr (λx hx env h xs S hl=>b7x K dB hx S hl) (by rw[aa];omega);rw[seq q1];obtain⟨env2,h2,q2,S2⟩:=a4t (c:=b4 ct F (k+1)) (C:=b9i) S1 (Z1 (a:=(.ix (.v 0) (.i 2))) (l:=H.pt) ptD (λp=>ln (R7 p)) (λp=>[some (.str p.n),some (.str p.s),some (spD p.a)]) (a2E (i:=2) S1 hT.symm rfl) (S1.pf.at A.pt) (by omega) (λx hx=>⟨rfl,λh=>⟨[],by rw[aV];exact b4h K dB hx⟩⟩)) (by simp only[aq,aa];omega);rw[seq q2];obtain⟨env3,h3,q3,S3⟩:=a9t (l:=H.ls) (a:=(.ix (.v 0) (.i 3))) (p:=htP 1 7 8 9) (body:=b3K) (c:=b4 ct F (k+1)) ltD (λm=>ln (G8 m)) S2 (a2E (i:=3) S2 hT.symm rfl) A.ls (λx hx env h xs S hl=>b1W K hx S hl) (by simp only[aq,aa];omega);rw[seq q3];obtain⟨env4,h4,q4,S4⟩:=a4t (ct:=ct) (c:=b4 ct F (k+1)) (C:=b9h) S3 (Z1 (a:=(.ix (.v 0) (.i 4))) (l:=H.gp) .str (λp=>ln (a2j p)) (λp=>[some (.str p)]) (a2E (i:=4) S3 hT.symm rfl) (S3.pf.at A.gp) (by omega) (λx hx=>⟨rfl,λh=>⟨[],by rw[aV];exact b9J K hx⟩⟩)) (by simp only[aq,aa];omega);rw[seq q4];obtain⟨env5,h5,q5,S5⟩:=a4t (c:=b4 ct F (k+1)) (C:=b9g) S4 (Z1 (a:=(.ix (.v 0) (.i 5))) (l:=H.cs) csD (λp=>ln (M9 p)) (λp=>[some (.str p.n),some (.tup (p.fs.map .str))]) (a2E (i:=5) S4 hT.symm rfl) (S4.pf.at A.cs) (by omega) (λx hx=>⟨rfl,λh=>b4j K hx⟩)) (by simp only[aq,aa];omega);rw[seq q5];obtain⟨env6,h6,q6,S6⟩:=a4t (c:=b4 ct F (k+1)) (C:=b9f) S5 (Z1 (a:=(.ix (.v 0) (.i 6))) (l:=H.fe) feD (λp=>ln (W0 p)) (λp=>[some (.str p.1),some (.bl p.2)]) (a2E (i:=6) S5 hT.symm rfl) (S5.pf.at A.fe) (by omega) (λx hx=>⟨rfl,λh=>b7i K hx⟩)) (by simp only[aq,aa];omega);rw[seq q6];have B:=Z1 (ct:=ct) (c:=b4 ct F (k+1)) (p:=.nm 0) (nb:=1) (fr:=[]) (e:=(.call 214 (.o (.v 0)))) (a:=(.ix (.v 0) (.i 7))) (l:=H.ru) ruD (λp=>ln (G4 p)) (λp=>[some (ruD p)]) (a2E (i:=7) S6 hT.symm rfl) (S6.pf.at A.ru) (by omega) (λx hx=>⟨rfl,λh=>⟨[],by have r:=a0W K hx;rw[aV];simp_arith[a9N (k:=k) (h:=h) (r:=x) f214 (by have:=r.l;omega) λw hw=>(r.w w hw).l]⟩⟩)
 obtain⟨n,e1,e3,e4,e5,e6,e7,e8,e9,rfl,p,l,g⟩:=S6;have C:EvL ct (b4 ct F (k+1)) (.bin .add (.v 2) b9e) [some T,e1,some (.ref n),e3,e4,e5,e6,e7,e8,e9] h6 ((G0 H).map ln):=by
  have e:(G0 H).map ln=((((((((H.sh.map λp=>ln (J5 p))++H.mr.map λp=>ln (P9 p))++H.pt.map λp=>ln (R7 p))++H.ls.map λp=>ln (G8 p))++H.gp.map λp=>ln (a2j p))++H.cs.map λp=>ln (M9 p))++H.fe.map λp=>ln (W0 p))++H.ru.map λp=>ln (G4 p)):=by unfold G0;simp only[ao,aG];rfl
  rw[e];exact b1C rfl g B (by simp only[aq,aa];omega)
 obtain⟨t,z⟩:=a3m C (a9q K);rw[K6,a1K,z,g9,g9];exact b3S (p.app t) rfl
end
theorem b4F{s:Str}(h:a0o s):inD (.str s) [.str "above",.str "below"]=true:=by rcases h with rfl|rfl<;>decide
theorem Z5{a b c:Bool}(ha:a=false)(hb:b=true)(hc:c=false):due a b c=none:=by subst ha hb hc;rfl
theorem nin[DecidableEq α]{a:α}{l:List α}(h:a∉l):decide (a∈l)=false:=bj h
theorem Q3(h:b9 z=true):z.length<=100000:=by have:=X5 h;omega
theorem a9c(xs:List Str):(xs.map D.str).all u8=true:=by rw[all_map];exact ba.mpr λ_ _=>rfl
theorem a7V(x:Str):∀xs:List Str,inD (.str x) (xs.map .str)=decide (x∈xs)
 |[]=>rfl
 |y::r=>by
  have ih:=a7V x r;unfold inD at ih⊢;rw[map_cons,any_cons,ih];show(decide (y=x)||decide (x∈r))=_
  by_cases e:y=x
  · subst e;simp
  · rw[bj e,Bool.false_or];exact decide_eq_decide.mpr ⟨λz=>.tail _ z,λz=>(aE.mp z).resolve_left λq=>e q.symm⟩
variable{r:R D}
section
variable{ct:CT}{F:Nat->Option Fn}(W:PF F)
include W
theorem b1Z{k:Nat}{d9:List D}(hw:h[w]? =some (.lst (.str x::d9)))(hr:b4 ct F k f [.ref n,.ref w] h=r)(hx:(x,f)∈[(("mark":Str),19),("gap",23)]):b4 ct F (k+1) 13 [.ref n,.ref w] h=r:=by
 rw[←hr,i9 W.f13 rfl];simp only[C2];rw[gc0];simp only[aE,not_mem_nil,fW,Prod.mk.injEq] at hx;rcases hx with⟨rfl,rfl⟩|⟨rfl,rfl⟩
 · simp_arith[o5 0 0 rfl hw rfl,op2,D8,eqS,eX,eZ];generalize b4 ct F k 19 [.ref n,.ref w] h=r
   cases r<;>simp_arith[]
 · simp_arith[o5 0 0 rfl hw rfl,op2,D8,eqS,eX,eZ];generalize b4 ct F k 23 [.ref n,.ref w] h=r
   cases r<;>simp_arith[]
theorem HallAt.s5{H:HD}(A:HallAt h n H)(l:List Str):HallAt (h.set (n+5) (.lst (l.map .str))) n {H with gaps:=l}:=
 ⟨b7 (by omega) A.o,b7 (by omega) A.c1,b7 (by omega) A.c2,b7 (by omega) A.c3,b7 (by omega) A.c4,x4 A.c5,b7 (by omega) A.c6,b7 (by omega) A.c7,b7 (by omega) A.c8⟩
variable{d:Nat}{H:HD}
theorem b1i{p:Str×Nat}(hn:b9 p.1=true)(hw:p.2<99999)(h1:p.1∉H.shapes.map (·.1))(hl:H.shapes.length<60):W4 ct F (d+9) H (J5 p) none {H with shapes:=H.shapes++[(p.1,.int (p.2:Int))]}:=by have:=a9y (ct:=ct) (d:=d) (H:=H) W hn (a3a (n:=p.2) (by omega));rw[Z5 (nin h1) rfl (bj (by omega))] at this;exact this
theorem b3Q{p:Str×Bool}(hn:b9 p.1=true)(h1:p.1∉H.features.map (·.1))(hl:H.features.length<10):W4 ct F (d+9) H (W0 p) none {H with features:=H.features++[(p.1,.bl p.2)]}:=by have:=a6K (ct:=ct) (d:=d) (H:=H) (b:=a6U p.2) W hn (by cases p.2;exact .inr rfl;exact .inl rfl);rw[Z5 (nin h1) rfl (bj (by omega)),show decide (a6U p.2="on")=p.2 by cases p.2<;>decide+kernel] at this;exact this
theorem a9a{l:Lt}(o:LtOk sh l)(hs:∀f∈l.fs,b9 f=true/\f∈H.shapes.map (·.1))(h1:l.n∉H.letters.map (·.1))(hl:H.letters.length<24):W4 ct F (d+9) H (G8 l) none {H with letters:=H.letters++[(l.n,.tup [.str l.j,.str l.w,.tup (l.fs.map .str)])]}:=by intro h n w A hw;have:=a2F (ct:=ct) (k:=d+3) (d9:=l.fs) W A hw o.nm (Q3 o.nm) o.jn o.wy (ba.mpr λf hf=>(hs f hf).1) (λy hy=>Q3 (hs y hy).1) (by have:=o.few;omega);rw[Z5 (nin h1) (ba.mpr λf hf=>aW (hs f hf).2) (bj (by omega))] at this;rw[a8v W hw,this];exact⟨_,rfl,(Fr.app n h _).trans (Fr.set (by omega) (by omega)),(A.app _).s4 _⟩
theorem b1k{c:Cs}(o:CsOk sh c)(hs:∀f∈c.fs,b9 f=true/\f∈H.shapes.map (·.1))(h1:c.n∉H.classes.map (·.1))(hl:H.classes.length<20):W4 ct F (d+9) H (M9 c) none {H with classes:=H.classes++[(c.n,.tup (c.fs.map .str))]}:=by intro h n w A hw;have:=a3B (ct:=ct) (k:=d+3) (d9:=c.fs) W A hw o.nm (Q3 o.nm) (ba.mpr λf hf=>(hs f hf).1) (λy hy=>Q3 (hs y hy).1) o.few.1 o.few.2;rw[Z5 (nin h1) (ba.mpr λf hf=>aW (hs f hf).2) (bj (by omega))] at this;rw[a9x W hw,this];exact⟨_,rfl,(Fr.app n h _).trans (Fr.set (by omega) (by omega)),(A.app _).s6 _⟩
theorem b1j{p:Pt}(hn:b9 p.n=true)(hs:a0o p.s)(ha:V9 p.a)(h1:ptK p∉H.points.map (·.1))(h2:p.n∈H.shapes.map (·.1))(hl:H.points.length<=1000):W4 ct F (d+9) H (R7 p) none {H with points:=H.points++[(ptK p,spD p.a)]}:=by intro h n w A hw;have:=a3A (ct:=ct) (k:=d+2) W A hw hn (Q3 hn) (b4F hs) (G5 ha.1) (G5 ha.2) (by omega);have h1:(p.n,p.s)∉H.points.map (·.1):=h1;rw[Z5 (bj h1) (aW h2) rfl] at this;rw[a9w W hw];exact this
theorem b6P{g:Str}(hn:b9 g=true)(h1:g∉H.gaps)(h2:g∈H.letters.map (·.1))(hl:H.gaps.length<=1000):W4 ct F (d+9) H (a2j g) none {H with gaps:=H.gaps++[g]}:=by
 intro h n w A hw;have hw:h[w]? =some (.lst [.str "gap",.str g]):=hw;have hg:a0A false h (.str g) (.ref (n+5))=.ok (.bl false) h:=by simp only[a0A,A.c5];rw[ay (by rw[a9c];rfl),a7V,nin h1];rfl
 have e:b4 ct F (d+8) 23 [.ref n,.ref w] h=.ok .non (h.set (n+5) (.lst ((H.gaps++[g]).map .str))):=by rw[i9 W.f23 rfl];simp only[a0H];rw[gc0];simp_arith[o0 hw,op2,a1A,eqS,o5 1 1 rfl hw rfl,E7 W (Q3 hn),hn,A.fld5,A.fld4,hg,W3 A.c4,aW h2,y0 W,Z5 rfl rfl rfl,T3,Int.cast_ofNat_Int,eX,fc,F5 A.c5,L3 (d:=.str g) A.c5 (by rw[aa];omega)];rw[ao];rfl
 rw[b1Z W hw e (.tail _ (.head _))];exact⟨_,rfl,Fr.set (by omega) (by omega),HallAt.s5 W A _⟩
theorem b3P{m:Mk}(hn:b9 m.n=true)(hs:a0o m.s)(ha:V9 m.a)(hb:V9 m.b)(h1:m.n∉H.marks.map (·.1))(h2:m.n∈H.shapes.map (·.1))(hl:H.marks.length<=1000):W4 ct F (d+9) H (P9 m) none {H with marks:=H.marks++[(m.n,.tup [.str m.s,spD m.a,spD m.b])]}:=by
 intro h n w A hw;have hf:b4 ct F (d+7) 18 [.ref w,.int 4] h=.ok (.bl true) h:=a0V (k:=d+2) (ws:=[num m.a.1,num m.a.2,num m.b.1,num m.b.2]) W hw hn (Q3 hn) (b4F hs) rfl (by simp[a5G,G5 ha.1,G5 ha.2,G5 hb.1,G5 hb.2]) (λy hy=>by have:=(i7 (WOk.num ha.1) (i7 (WOk.num ha.2) (i7 (WOk.num hb.1) (i7 (WOk.num hb.2) Row.nil))) y hy).l;omega) ⋯
 have e35:U2 ((P9 m).map .str) (some 3) (some 5)=[.str (num m.a.1),.str (num m.a.2)]:=a0j 3 5 ((P9 m).map .str) (by decide) (eT rfl);have e57:U2 ((P9 m).map .str) (some 5) (some 7)=[.str (num m.b.1),.str (num m.b.2)]:=a0j 5 7 ((P9 m).map .str) (by decide) (eT rfl);have A2:=(A.app [.lst [.str (num m.a.1),.str (num m.a.2)]]).app [.lst [.str (num m.b.1),.str (num m.b.2)]];have hw1:=b5 (g:=[.lst [.str (num m.a.1),.str (num m.a.2)]]) hw;have e:b4 ct F (d+8) 19 [.ref n,.ref w] h=.ok .non ((h++[Cell.lst [D.str (num m.a.1),D.str (num m.a.2)]]++[Cell.lst [D.str (num m.b.1),D.str (num m.b.2)]]).set (n+2) (Cell.dict (kd (H.marks++[(m.n,D.tup [.str m.s,spD m.a,spD m.b])])))):=by rw[i9 W.f19 rfl];simp only[Y6];rw[gc0];simp_arith[hf,fc,o5 1 1 rfl hw rfl,o5 2 2 rfl hw rfl,op2,A.fld2,W3 A.c2,A.fld1,W3 A.c1,y0 W,Z5 (nin h1) (aW h2) rfl,T3,eX,Q0 hw,e35,a4K W (b6 (h:=h)) (G5 ha.1) (G5 ha.2),Q0 hw1,e57,a4K W (b6 (h:=h++[Cell.lst [.str (num m.a.1),.str (num m.a.2)]])) (G5 hb.1) (G5 hb.2),A2.fld2,W9 A2.c2 h1 (show _<16777216 by omega)];rfl
 rw[b1Z W hw e (.head _)];exact⟨_,rfl,((Fr.app n h _).trans (Fr.app n _ _)).trans (Fr.set (by omega) (by omega)),A2.s2 _⟩
theorem b0W{i:Str}(ho:a2i sh cs i)(hs:∀f∈sh.map (·.1),b9 f=true/\f∈H.shapes.map (·.1))(hc:∀c∈cs,b9 c.n=true/\c.n∈H.classes.map (·.1)):S7 i=true/\K8 H i=true/\i.length<=100000:=by
 rcases ho with ho|⟨c,hm,rfl⟩
 · have k:=hs i ho;unfold S7 K8;rw[b3r W k.1,k.1,az bg];exact⟨rfl,aW k.2,Q3 k.1⟩
 · have k:=hc c hm;have hd:cd (("@":Str)++c.n)=64::cd c.n:=by rw[G3];rfl
   have ht:tl (("@":Str)++c.n)=c.n:=Z7 (by rw[a4l,hd];rfl);have hk:L9 (("@":Str)++c.n)=true:=by unfold L9;rw[ht,k.1,hd];rfl
   have:=(WOk.at k.1).l;unfold S7 K8;rw[hk,Bool.or_true,ay rfl,ht];exact⟨rfl,aW k.2,by omega⟩
theorem b3O{r:Ru}(o:RuOk sh cs fe r)(hs:∀f∈sh.map (·.1),b9 f=true/\f∈H.shapes.map (·.1))(hc:∀c∈cs,b9 c.n=true/\c.n∈H.classes.map (·.1))(hf:b9 r.f=true/\r.f∈H.features.map (·.1))(h1:r.t∉H.rules.map (·.1))(hl:H.rules.length<30):W4 ct F (d+9) H (G4 r) none {H with rules:=H.rules++[(r.t,[.str r.f,.tup (r.b.map .str),.tup (r.c.map .str),.tup (r.a.map .str),.tup (r.o.map .str)])]}:=by
 intro h n w A hw;have hi:∀i∈r.b++r.c++r.a,S7 i=true/\K8 H i=true/\i.length<=100000:=λi hi=>by
  rcases aI.mp hi with hi|hi
  · rcases aI.mp hi with hi|hi
    · exact b0W W (o.b i hi) hs hc
    · exact b0W W (o.c i hi) hs hc
  · exact b0W W (o.a i hi) hs hc
 have ho:∀i∈r.o,b9 i=true/\i∈H.shapes.map (·.1):=λi hi=>hs i (o.o i hi);have rf:RuleForm r.t r.f r.b r.c r.a r.o:=⟨o.nm,hf.1,o.b3,o.c4.1,o.c4.2,o.a3,o.o3.1,o.o3.2,ba.mpr λi h=>(hi i h).1,ba.mpr λi h=>(ho i h).1,λy hy=>by
  rcases aE.mp hy with rfl|hy
  · exact Q3 o.nm
  · rcases aE.mp hy with rfl|hy
    · exact Q3 hf.1
    · rcases aI.mp hy with hy|hy
      · exact(hi y hy).2.2
      · exact Q3 (ho y hy).1⟩
 have:=a4u (ct:=ct) (k:=d+1) W A (by omega) (x:="rule") (t:=r.t) (f:=r.f) (bA:=r.b) (br:=r.c) (bD:=r.a) (bu:=r.o) hw rf;rw[Z5 (nin h1) (by rw[aW hf.2,ba.mpr λi h=>(hi i h).2.1,ba.mpr λi h=>aW (ho i h).2];rfl) (bj (by omega))] at this
 rw[b2u W hw];exact this
end
theorem F0{ct:CT}{F:Nat->Option Fn}{d:Nat}{α:Type}{db:List α}{d9:List Str}{H':HD}(wf:α->List Str)(U:List α->HD)(hR:∀x∈db,Row (wf x))(dN:∀pre x post,db=pre++x::post->W4 ct F d (U pre) (wf x) none (U (pre++[x])))(hT:Reads ct F d (U db) d9 H'):∀(l pre:List α),db=pre++l->Reads ct F d (U pre) (l.map (λx=>ln (wf x))++d9) H'
 |[],pre,e=>by rw[aV] at e;subst e;exact hT
 |x::l,pre,e=>by have r:=hR x (by rw[e];exact mem_append_right _ (.head _));have b:=a9Q r;have:=a7E r;refine .take (H1:=U (pre++[x])) (show(ln (wf x)).length<=100000 by omega) (by rw[b];exact r.n) (by rw[b];exact dN pre x l e) (F0 wf U hR dN hT l (pre++[x]) (by rw[e];simp))
theorem M1{f:α->β}{db pre post:List α}{x:α}(h:(db.map f).Nodup)(e:db=pre++x::post):f x∉pre.map f:=λm=>by rw[e,ao,map_cons] at h;exact(nodup_append.mp h).2.2 _ m _ (.head _) rfl
theorem J2{db pre post:List α}{x:α}(e:db=pre++x::post):pre.length<db.length/\x∈db:=by rw[e];exact⟨by simp only[aq,length_cons];omega,mem_append_right _ (.head _)⟩
def hS(H:HL):List (Str×D):=H.sh.map λp=>(p.1,.int (p.2:Int))
def hM(l:List Mk):List (Str×D):=l.map λm=>(m.n,.tup [.str m.s,spD m.a,spD m.b])
def hP(l:List Pt):List ((Str×Str)×D):=l.map λp=>(ptK p,spD p.a)
def hL(l:List Lt):List (Str×D):=l.map λl=>(l.n,.tup [.str l.j,.str l.w,.tup (l.fs.map .str)])
def hC(l:List Cs):List (Str×D):=l.map λc=>(c.n,.tup (c.fs.map .str))
def hF(l:List (Str×Bool)):List (Str×D):=l.map λp=>(p.1,.bl p.2)
noncomputable def hR(l:List Ru):List (Str×List D):=l.map λr=>(r.t,[.str r.f,.tup (r.b.map .str),.tup (r.c.map .str),.tup (r.a.map .str),.tup (r.o.map .str)])
def F7(H:HL):HD:=⟨hS H,hM H.mr,hP H.pt,hL H.ls,H.gp,hC H.cs,hF H.fe,hR H.ru⟩
theorem a3E(k:α->Str)(v:α->β)(l:List α):(l.map λx=>(k x,v x)).map (·.1)=l.map k:=by rw[aG];rfl
theorem snoc(f:α->β)(l:List α)(x:α):(l++[x]).map f=l.map f++[f x]:=by rw[ao];rfl
theorem a6k{H:HL}(K:HLok H){f:Str}(h:f∈H.sh.map (·.1)):b9 f=true/\f∈(hS H).map (·.1):=⟨O2 K h,by unfold hS;rw[a3E];exact h⟩
theorem a8D{ct:CT}{F:Nat->Option Fn}(W:PF F){d:Nat}{H:HL}(K:HLok H):Reads ct F (d+9) {} ((G0 H).map ln) (F7 H):=by
 have e:(G0 H).map ln=H.sh.map (λp=>ln (J5 p))++(H.mr.map (λp=>ln (P9 p))++(H.pt.map (λp=>ln (R7 p))++(H.ls.map (λp=>ln (G8 p))++(H.gp.map (λp=>ln (a2j p))++(H.cs.map (λp=>ln (M9 p))++(H.fe.map (λp=>ln (W0 p))++(H.ru.map (λp=>ln (G4 p))++[]))))))):=by unfold G0;simp only[ao,aG,aA,aV];rfl
 rw[e];refine F0 J5 (λl=>{shapes:=l.map λp=>(p.1,.int (p.2:Int))}) (λx hx=>a3R K hx) (λpre x post q=>?_) ?_ H.sh [] rfl
 · obtain⟨q1,q2⟩:=J2 q;have k:=K.sh.ok x q2;have:=K.sh.hi;have g:=b1i (ct:=ct) (d:=d) (H:={shapes:=pre.map λp=>(p.1,.int (p.2:Int))}) (p:=x) W k.1 k.2 (by rw[a3E];exact M1 (f:=λp=>p.1) K.sh.nd q) (by rw[aa];omega);simp only[snoc];exact g
 refine F0 P9 (λl=>{shapes:=hS H,marks:=hM l}) (λx hx=>a5N K hx) (λpre x post q=>?_) ?_ H.mr [] rfl
 · obtain⟨q1,q2⟩:=J2 q;obtain⟨k1,k2,k3⟩:=K.mko x q2;have hn:=a6k K (a4R K q2);have b:=a7y K K.mr;rw[aa] at b;have:=K.sh.hi;have g:=b3P (ct:=ct) (d:=d) (H:={shapes:=hS H,marks:=hM pre}) (m:=x) W hn.1 k1 k2 k3 (by unfold hM;rw[a3E];exact M1 (f:=λm:Mk=>m.n) (K.mr.nodup K.sh.nd) q) hn.2 (by unfold hM;rw[aa];omega);unfold hM at g⊢;rw[snoc];exact g
 refine F0 R7 (λl=>{shapes:=hS H,marks:=hM H.mr,points:=hP l}) (λx hx=>a3S K hx) (λpre x post q=>?_) ?_ H.pt [] rfl
 · obtain⟨q1,q2⟩:=J2 q;obtain⟨k1,k2,k3⟩:=K.pto x q2;have hn:=a6k K k1;have:=K.ptl;have g:=b1j (ct:=ct) (d:=d) (H:={shapes:=hS H,marks:=hM H.mr,points:=hP pre}) (p:=x) W hn.1 k2 k3 (by unfold hP;rw[aG];exact M1 (f:=ptK) K.pt q) hn.2 (by unfold hP;rw[aa];omega);unfold hP at g⊢;rw[snoc];exact g
 refine F0 G8 (λl=>{shapes:=hS H,marks:=hM H.mr,points:=hP H.pt,letters:=hL l}) (λx hx=>a0z K hx) (λpre x post q=>?_) ?_ H.ls [] rfl
 · obtain⟨q1,q2⟩:=J2 q;have k:=K.lso x q2;have:=K.ls;have g:=a9a (ct:=ct) (d:=d) (H:={shapes:=hS H,marks:=hM H.mr,points:=hP H.pt,letters:=hL pre}) (l:=x) W k (λf hf=>a6k K (k.fs f hf)) (by unfold hL;rw[a3E];exact M1 (f:=λm:Lt=>m.n) K.lsn q) (by unfold hL;rw[aa];omega);unfold hL at g⊢;rw[snoc];exact g
 refine F0 a2j (λl=>{shapes:=hS H,marks:=hM H.mr,points:=hP H.pt,letters:=hL H.ls,gaps:=l}) (λx hx=>a7F K hx) (λpre x post q=>?_) ?_ H.gp [] rfl
 · obtain⟨q1,q2⟩:=J2 q;have:=K.gp.length_le;rw[aa] at this;have:=K.ls;have nd:=M1 (f:=id) (by rw[map_id];exact K.gp.nodup K.lsn) q;rw[map_id] at nd;exact b6P (d:=d) (H:={shapes:=hS H,marks:=hM H.mr,points:=hP H.pt,letters:=hL H.ls,gaps:=pre}) (g:=x) W (a5g K q2) nd (by unfold hL;rw[a3E];exact K.gp.subset q2) (show pre.length<=1000 by omega)
 refine F0 M9 (λl=>{shapes:=hS H,marks:=hM H.mr,points:=hP H.pt,letters:=hL H.ls,gaps:=H.gp,classes:=hC l}) (λx hx=>a1w K hx) (λpre x post q=>?_) ?_ H.cs [] rfl
 · obtain⟨q1,q2⟩:=J2 q;have k:=K.cso x q2;have:=K.cs;have g:=b1k (ct:=ct) (d:=d) (H:={shapes:=hS H,marks:=hM H.mr,points:=hP H.pt,letters:=hL H.ls,gaps:=H.gp,classes:=hC pre}) (c:=x) W k (λf hf=>a6k K (k.fs f hf)) (by unfold hC;rw[a3E];exact M1 (f:=λm:Cs=>m.n) K.csn q) (by unfold hC;rw[aa];omega);unfold hC at g⊢;rw[snoc];exact g
 refine F0 W0 (λl=>{shapes:=hS H,marks:=hM H.mr,points:=hP H.pt,letters:=hL H.ls,gaps:=H.gp,classes:=hC H.cs,features:=hF l}) (λx hx=>a5O K hx) (λpre x post q=>?_) ?_ H.fe [] rfl
 · obtain⟨q1,q2⟩:=J2 q;have:=K.fe;have g:=b3Q (ct:=ct) (d:=d) (H:={shapes:=hS H,marks:=hM H.mr,points:=hP H.pt,letters:=hL H.ls,gaps:=H.gp,classes:=hC H.cs,features:=hF pre}) (p:=x) W (a1g K (am.mpr ⟨x,q2,rfl⟩)) (by unfold hF;rw[a3E];exact M1 (f:=λp=>p.1) K.fen.nd q) (by unfold hF;rw[aa];omega);unfold hF at g⊢;rw[snoc];exact g
 refine F0 G4 (λl=>{shapes:=hS H,marks:=hM H.mr,points:=hP H.pt,letters:=hL H.ls,gaps:=H.gp,classes:=hC H.cs,features:=hF H.fe,rules:=hR l}) (λx hx=>a0W K hx) (λpre x post q=>?_) (.nil _) H.ru [] rfl;obtain⟨q1,q2⟩:=J2 q;have k:=K.ruo x q2;have:=K.rul;have g:=b3O (ct:=ct) (d:=d) (H:={shapes:=hS H,marks:=hM H.mr,points:=hP H.pt,letters:=hL H.ls,gaps:=H.gp,classes:=hC H.cs,features:=hF H.fe,rules:=hR pre}) (r:=x) W k (λf hf=>a6k K hf) (λc hc=>⟨(K.cso c hc).nm,by unfold hC;rw[a3E];exact am.mpr ⟨c,hc,rfl⟩⟩) ⟨a1g K k.fe,by unfold hF;rw[a3E];exact k.fe⟩ (by unfold hR;rw[a3E];exact M1 (f:=λm:Ru=>m.t) K.run q) (by unfold hR;rw[aa];omega);unfold hR at g⊢;rw[snoc];exact g
abbrev RA(h:AH):List D->List (List Str)->Prop:=Paired λd w=>∃r,d=.ref r/\h[r]? =some (.lst (w.map .str))
variable{ds:List D}
theorem RA.app{ws:List (List Str)}(A:RA h ds ws)(t:AH):RA (h++t) ds ws:=Paired.mapP A λd w ⟨r,e,g⟩=>⟨r,e,b5 g⟩
theorem RA.cat{es:List D}{ws xs:List (List Str)}(A:RA h ds ws)(B:RA h es xs):RA h (ds++es) (ws++xs):=by
 induction A with
 |nil=>exact B
 |cons a t ih=>exact .cons a ih
variable{l:List (D×D)}
section
variable{ct:CT}{F:Nat->Option Fn}
theorem a1M{α:Type}{gk:List (Nat×Cell)}{p:Pat}{c:CF}{e:E}{env0:l0}(h0:AH)(hg:∀t,gOk gk (h0++t)=true)(rp:α->D)(bK:α->l0)(wd:α->List Str):∀(l:List α) (bw:List D) (ed:List (List Str)) (t:AH),(∀x∈l,w6 p (rp x) env0=some (bK x)/\∀t,EvL ct c e (bK x) (h0++t) (wd x))->bw.length+l.length<=1000->RA (h0++t) bw ed→
 ∃ds T,B0 gk p (tst ct c .yes) (ev ct c e) env0 (l.map rp) bw (h0++t)=.ok ds (h0++T)/\RA (h0++T) ds (ed++l.map wd)
 |[],bw,ed,t,_,_,A=>⟨bw,t,by rw[map_nil,B0,ay (hg t)],by rw[map_nil,aV];exact A⟩
 |x::l,bw,ed,t,hx,hl,A=>by
  rw[length_cons] at hl;obtain⟨b1,b2⟩:=hx x aU;obtain⟨r,u,q1,q2,_⟩:=b2 t;rw[aA] at q1 q2;have A2:RA (h0++(t++u)) bw ed:=by rw[←aA];exact A.app u
  obtain⟨ds,T,q3,q4⟩:=a1M h0 hg rp bK wd l (bw++[.ref r]) (ed++[wd x]) (t++u) (λy hy=>hx y (aD _ hy)) (by rw[aq];simp only[length_cons,length_nil];omega) (A2.cat (.cons ⟨r,rfl,q2⟩ .nil));refine⟨ds,T,?_,by rw[map_cons,List.append_cons];exact q4⟩;rw[map_cons,B0,ay (hg t),b1];simp only[a0R,g9,fk,q1];rw[ay (show bw.length<SL by show _<16777216;omega)];exact q3
def EvR(ct:CT)(c:CF)(e:E)(env:l0)(h:AH)(ws:List (List Str)):Prop:=∃q ds T,ev ct c e env h=.ok (.ref q) (h++T)/\(h++T)[q]? =some (.lst ds)/\RA (h++T) ds ws
theorem V7{b:E}{xs ys:List (List Str)}(A:EvR ct c a env h xs)(B:∀t,EvR ct c b env (h++t) ys)(hl:xs.length+ys.length<=1000):EvR ct c (.bin .add a b) env h (xs++ys):=by
 obtain⟨q,ds,T,e1,g1,r1⟩:=A;obtain⟨q',ds',T',e2,g2,r2⟩:=B T;have l1:=Paired.length r1;have l2:=Paired.length r2;have ad:op2 .add (h++T++T') (.ref q) (.ref q')=.ok (.ref (h++T++T').length) (h++T++T'++[.lst (ds++ds')]):=a5w (b5 g1) g2 (by omega);refine⟨(h++T++T').length,ds++ds',T++T'++[.lst (ds++ds')],?_,?_,?_⟩
 · rw[b1F,e1,g9,e2,g9,ad];simp only[aA]
 · rw[←aA,←aA];exact b6
 · rw[←aA,←aA];exact((r1.app T').cat r2).app _
theorem a7z{T:AH}{k:Nat}{c:Cell}(e:h[k]? =some c):((h.set k c')++T).set k c=h++T:=by
 have kl:=(ae.mp e).1;rw[List.set_append_left _ _ (by rw[aK];exact kl),List.set_set];congr 1;apply ext_getElem?;intro i
 by_cases q:i=k
 · subst q;rw[fb kl,e]
 · rw[eW (ff q)]
theorem O9{k:Nat}{fr:List Nat}{L:List α}(rp:α->D)(bK:α->l0)(wd:α->List Str)(ha:ev ct c a env h=.ok (.ref k) h)(hk:h[k]? =some (.dict l))(hw:J9 l=L.map rp)
 (hx:∀x∈L,w6 p (rp x) (t8 n fr env)=some (bK x)/\∀h,EvL ct c e (bK x) h (wd x)) (hl:L.length<=1000):EvR ct c (.compI p a n fr .yes e) env h (L.map wd):=by
 have kl:=(ae.mp hk).1;have hg:∀t,gOk [(k,.rod l)] (h.set k (.rod l)++t)=true:=λt=>by simp only[gOk,all_cons,all_nil,b5 (g:=t) (fb (a:=Cell.rod l) kl)];simp
 obtain⟨ds,T,q1,q2⟩:=a1M (ct:=ct) (c:=c) (h.set k (.rod l)) hg rp bK wd L [] [] [] (λx m=>⟨(hx x m).1,λt=>(hx x m).2 _⟩) (by rw[length_nil];omega) .nil;rw[aV,←hw] at q1;rw[nil_append] at q2;refine⟨(h++T).length,ds,T++[.lst ds],?_,by rw[←aA];exact b6,?_⟩
 · rw[ev,ha,g9];simp only[a0v,hk,q1,g9,a7z hk];rw[←aA];rfl
 · rw[←aA];refine RA.app (Paired.mapP q2 λd w ⟨r,e,g⟩=>⟨r,e,?_⟩) _;rw[←a7z (c':=.rod l) hk];refine b7 (λz=>?_) g;subst z;rw[b5 (g:=T) (fb (a:=Cell.rod l) kl)] at g;cases g
theorem a8d{k:Nat}{fr:List Nat}{L:List α}(rp:α->D)(bK:α->l0)(wd:α->List Str)(ha:ev ct c a env h=.ok (.ref k) h)(hk:h[k]? =some (.lst (L.map rp)))
 (hx:∀x∈L,w6 p (rp x) (t8 n fr env)=some (bK x)/\∀h,EvL ct c e (bK x) h (wd x)) (hl:L.length<=1000):EvR ct c (.comp p (.seq a) n fr .yes e) env h (L.map wd):=by
 have hg:∀t,gOk [(k,.lst (L.map rp))] (h++t)=true:=λt=>by simp only[gOk,all_cons,all_nil,b5 (g:=t) hk];simp
 obtain⟨ds,T,q1,q2⟩:=a1M (ct:=ct) (c:=c) h hg rp bK wd L [] [] [] (λx m=>⟨(hx x m).1,λt=>(hx x m).2 _⟩) (by rw[length_nil];omega) .nil;rw[aV] at q1;rw[nil_append] at q2;refine⟨(h++T).length,ds,T++[.lst ds],?_,by rw[←aA];exact b6,by rw[←aA];exact q2.app _⟩;rw[a0i (x:=(L.map rp,[(k,.lst (L.map rp))])) (h1:=h) (by simp_arith[ha,W5,hk]) q1,←aA]
theorem M8{k:Nat}{ws:List (List Str)}(hF:F f=some fd)(hb:fd=⟨1,1,0,(.o (.ret e))⟩)(A:EvR ct (b4 ct F k) e [some (.ref n)] h ws):∃q ds T,b4 ct F (k+1) f [.ref n] h=.ok (.ref q) (h++T)/\(h++T)[q]? =some (.lst ds)/\RA (h++T) ds ws:=by obtain⟨q,ds,T,e1,g,r⟩:=A;subst hb;refine⟨q,ds,T,?_,g,r⟩;rw[i9 hF rfl,gc0];show a1z (exs ct (b4 ct F k) (.o (.ret e)) [some (.ref n)] h)=_;rw[K6,a1K,e1];rfl
theorem sp0{p:Int×Int}:ixD h (spD p) (.int 0)=.ok (.int p.1) h:=ix_tup (i:=0) rfl
theorem sp1{p:Int×Int}:ixD h (spD p) (.int 1)=.ok (.int p.2) h:=ix_tup (i:=1) rfl
theorem b8E{k:Nat}{p:Int×Int}(hF:F 34=some C6)(hp:V9 p):b4 ct F (k+1) 34 [spD p] h=.ok (.ref h.length) (h++[.lst ((C9 p).map .str)]):=by rw[i9 hF rfl];simp only[C6];simp_arith[sp0,sp1,a1u hp.1,a1u hp.2,u9];exact gc2 (g:=[.lst [.str (num p.1),.str (num p.2)]]) b6 (aj _) rfl
theorem a7i{k:Nat}{p:Int×Int}(hF:F 34=some C6)(hp:V9 p)(ha:ev ct (b4 ct F (k+1)) a env h=.ok (spD p) h):EvL ct (b4 ct F (k+1)) (.call 34 (.cons a .nil)) env h (C9 p):=
 ⟨h.length,[.lst ((C9 p).map .str)],by simp_arith[ha,b8E hF hp],b6,.inl (aj _)⟩
theorem G7(k:α->Str)(f:α->D)(l:List α):J9 (kd (l.map λx=>(k x,f x)))=l.map λx=>D.tup [.str (k x),f x]:=by unfold J9 kd;rw[aG,aG];rfl
theorem a2b{k:Nat}{ws:List (List Str)}(hc:∃q ds T,b4 ct F (k+1) f [.ref n] h=.ok (.ref q) (h++T)/\(h++T)[q]? =some (.lst ds)/\RA (h++T) ds ws)(e0:env[0]? =some (some (.ref n))):EvR ct (b4 ct F (k+1)) (.call f (.o (.v 0))) env h ws:=by obtain⟨q,ds,T,e1,g,r⟩:=hc;exact⟨q,ds,T,by simp_arith[e0,e1],g,r⟩
theorem b4Z{a b:D}{r:List D}:ixD h (.tup (a::b::r)) (.int 1)=.ok b h:=ix_tup (i:=1) rfl
theorem b7W{a b c:D}{r:List D}:ixD h (.tup (a::b::c::r)) (.int 2)=.ok c h:=ix_tup (i:=2) rfl
theorem b0N{g:List (Nat×Cell)}{env0:l0}(he:env0=[none])(hg:gOk g h=true):∀{ds:List D} {ws:List (List Str)} (bw:List D),RA h ds ws->(∀w∈ws,Row w)->bw.length+ds.length<=1000->B0 g (.nm 0) (tst ct c .yes) (ev ct c (.mt .join (.s " ") (.o (.v 0)))) env0 ds bw h=.ok (bw++ws.map λw=>.str (ln w)) h:=by
 intro ds ws bw A
 induction A generalizing bw with
 |nil=>
  intro _ _;rw[B0,ay hg,map_nil,aV]
 | @cons d w ds ws a t ih=>
  intro hr hl;rw[length_cons] at hl;obtain⟨r,rfl,gr⟩:=a;have cw:=hr w aU;have jn:=a4Z gr (b0O (λx hx=>(cw.w x hx).l) (by have:=cw.l;omega));have ev1:ev ct c (.mt .join (.s " ") (.o (.v 0))) [some (.ref r)] h=.ok (.str (ln w)) h:=by simp_arith[mtT,jn];rfl
  rw[B0,ay hg];subst he;simp only[w6,set_cons_zero,a0R,g9,fk,ev1];rw[ay (show bw.length<SL by show _<16777216;omega),ih _ (λx hx=>hr x (aD _ hx)) (by rw[aq];simp only[length_cons,length_nil];omega),aA];rfl
theorem b8v{k:Nat}{r:Ru}(hF:F 43=some F8)(hl:(G4 r).length<=100):EvL ct (b4 ct F (k+1)) (.call 43 (.o (.v 0))) [some (ruD r)] h (G4 r):=by
 have i0:∀h,ixD h (ruD r) (.int 0)=.ok (.str r.t) h:=λh=>ix_tup (i:=0) rfl;have i1:∀h,ixD h (ruD r) (.int 1)=.ok (.str r.f) h:=λh=>ix_tup (i:=1) rfl;have i2:∀h,ixD h (ruD r) (.int 2)=.ok (.tup (r.b.map .str)) h:=λh=>ix_tup (i:=2) rfl;have i3:∀h,ixD h (ruD r) (.int 3)=.ok (.tup (r.c.map .str)) h:=λh=>ix_tup (i:=3) rfl;have i4:∀h,ixD h (ruD r) (.int 4)=.ok (.tup (r.a.map .str)) h:=λh=>ix_tup (i:=4) rfl;have i5:∀h,ixD h (ruD r) (.int 5)=.ok (.tup (r.o.map .str)) h:=λh=>ix_tup (i:=5) rfl;have ll:r.b.length+r.c.length+r.a.length+r.o.length<=100:=by unfold G4 at hl;simp only[length_cons,aq] at hl;omega
 have sl:∀{env:l0} {h:AH},EvL ct (b4 ct F k) (.lst (.o (.s "/"))) env h ["/"]:=B6 (by simp_arith[]) (by decide);obtain⟨n,t,a1,a2,_⟩:=u6 (u6 (u6 (u6 (D3 (ct:=ct) (c:=b4 ct F k) (a:=.ix (.v 0) (.i 2)) (env:=[some (ruD r),none]) (h:=h) (xs:=r.b) (by simp_arith[i2])) (λt=>sl) (by simp only[aq,length_cons,length_nil];omega)) (λt=>D3 (a:=.ix (.v 0) (.i 3)) (xs:=r.c) (by simp_arith[i3])) (by simp only[aq,length_cons,length_nil];omega)) (λt=>sl) (by simp only[aq,length_cons,length_nil];omega)) (λt=>D3 (a:=.ix (.v 0) (.i 4)) (xs:=r.a) (by simp_arith[i4])) (by simp only[aq,length_cons,length_nil];omega);obtain⟨m,u,b1,b2,b3⟩:=a6o (u6 (u6 (B6 (ct:=ct) (c:=b4 ct F k) (es:=(.cons (.s "rule") (.cons (.ix (.v 0) (.i 0)) (.o (.ix (.v 0) (.i 1)))))) (env:=[some (ruD r),some (.ref n)]) (h:=h++t) (xs:=["rule",r.t,r.f]) (by simp_arith[i0,i1]) (eT rfl)) (λt=>b4L (i:=1) rfl (b5 (g:=t) a2)) (by simp only[aq,length_cons,length_nil];omega)) (λt=>B6 (es:=(.o (.s ">"))) (xs:=[">"]) (by simp_arith[]) (by decide)) (by simp only[aq,length_cons,length_nil];omega)) (λt=>D3 (a:=(.ix (.v 0) (.i 5))) (xs:=r.o) (by simp_arith[i5])) (by simp only[aq,length_cons,length_nil];omega);have e:[("rule":Str),r.t,r.f]++(r.b++[("/":Str)]++r.c++[("/":Str)]++r.a)++[(">":Str)]++r.o=G4 r:=by unfold G4;simp
 rw[e,aA] at b2;rw[aA] at b1;have cl:b4 ct F (k+1) 43 [ruD r] h=.ok (.ref m) (h++(t++u)):=by rw[i9 hF rfl];simp only[F8];rw[gc0];show a1z (exs ct (b4 ct F k) _ [some (ruD r),none] h)=_;rw[seq (bv:=[some (ruD r),some (.ref n)]) (h':=h++t) (by rw[a1J,a1,g9];rfl),K6,a1K,b1];rfl
 rw[aq] at b3;exact⟨m,t++u,by simp_arith[cl],b2,.inl (by omega)⟩
variable{H:HL}(K:HLok H)
include K
theorem a5M{k:Nat}(A:HallAt h n (F7 H))(f34:F 34=some C6)(f35:F 35=some O4)(f36:F 36=some R3)(f37:F 37=some O5)(f38:F 38=some L7)(f39:F 39=some V6)(f40:F 40=some O6)(f41:F 41=some K3)(f42:F 42=some Q9)(f43:F 43=some F8)(env:l0)(e0:env[0]? =some (some (.ref n))):
 EvR ct (b4 ct F (k+3)) (.call 35 (.o (.v 0))) env h (H.sh.map J5)/\EvR ct (b4 ct F (k+3)) (.call 36 (.o (.v 0))) env h (H.mr.map P9)/\EvR ct (b4 ct F (k+3)) (.call 37 (.o (.v 0))) env h (H.pt.map R7)/\EvR ct (b4 ct F (k+3)) (.call 38 (.o (.v 0))) env h (H.ls.map G8)∧
 EvR ct (b4 ct F (k+3)) (.call 39 (.o (.v 0))) env h (H.gp.map a2j)/\EvR ct (b4 ct F (k+3)) (.call 40 (.o (.v 0))) env h (H.cs.map M9)/\EvR ct (b4 ct F (k+3)) (.call 41 (.o (.v 0))) env h (H.fe.map W0)/\EvR ct (b4 ct F (k+3)) (.call 42 (.o (.v 0))) env h (H.ru.map G4):=by
 have lsh:=K.sh.hi;have lmr:H.mr.length<=1000:=by have:=K.mr.length_le;rw[aa,aa] at this;omega
 have lpt:=K.ptl;have lls:=K.ls;have lgp:H.gp.length<=1000:=by have:=K.gp.length_le;rw[aa] at this;omega
 have lcs:=K.cs;have lfe:=K.fe;have bd:∀{x y:D},w6 (.tp (.cons (.nm 0) (.cons (.nm 1) .nil))) (.tup [x,y]) [none,none]=some [some x,some y]:=rfl;refine⟨a2b (M8 f35 rfl (O9 (k:=n+1) _ (λp=>[some (.str p.1),some (.int (p.2:Int))]) J5 (by simp_arith[A.fld1]) A.c1 (G7 _ _ _) (λx hx=>⟨bd,λh=>B6 (xs:=J5 x) ?_ (eT rfl)⟩) (by omega))) e0,
  a2b (M8 f36 rfl (O9 (k:=n+2) _ (λm=>[some (.str m.n),some (.tup [.str m.s,spD m.a,spD m.b])]) P9 (by simp_arith[A.fld2]) A.c2 (G7 _ _ _) (λx hx=>⟨bd,λh=>u6 (xs:=("mark":Str)::x.n::x.s::C9 x.a) (ys:=C9 x.b) (u6 (xs:=["mark",x.n,x.s]) (ys:=C9 x.a) (B6 ?_ (eT rfl)) (λt=>a7i f34 (K.mko x hx).2.1 ?_) (eT rfl)) (λt=>a7i f34 (K.mko x hx).2.2 ?_) (eT rfl)⟩) lmr)) e0,
  a2b (M8 f37 rfl (O9 (k:=n+3) (L:=H.pt) (λp=>D.tup [.tup [.str p.n,.str p.s],spD p.a]) (λp=>[some (.tup [.str p.n,.str p.s]),some (spD p.a)]) R7 (by simp_arith[A.fld3]) A.c3 (by unfold J9 F7 hP pd;rw[aG,aG];rfl) (λx hx=>⟨bd,λh=>u6 (xs:=["point",x.n,x.s]) (ys:=C9 x.a) (B6 ?_ (eT rfl)) (λt=>a7i f34 (K.pto x hx).2.2 ?_) (eT rfl)⟩) (by omega))) e0,
  a2b (M8 f38 rfl (O9 (k:=n+4) _ (λl=>[some (.str l.n),some (.tup [.str l.j,.str l.w,.tup (l.fs.map .str)])]) G8 (by simp_arith[A.fld4]) A.c4 (G7 _ _ _) (λx hx=>⟨bd,λh=>u6 (xs:=["letter",x.n,x.j,x.w]) (ys:=x.fs) (B6 ?_ (eT rfl)) (λt=>D3 ?_) ?_⟩) (by omega))) e0,
  a2b (M8 f39 rfl (a8d (k:=n+5) D.str (λp=>[some (.str p)]) a2j (by simp_arith[A.fld5]) A.c5 (λx hx=>⟨rfl,λh=>B6 (xs:=a2j x) ?_ (eT rfl)⟩) lgp)) e0,
  a2b (M8 f40 rfl (O9 (k:=n+6) _ (λl=>[some (.str l.n),some (.tup (l.fs.map .str))]) M9 (by simp_arith[A.fld6]) A.c6 (G7 _ _ _) (λx hx=>⟨bd,λh=>u6 (xs:=["class",x.n]) (ys:=x.fs) (B6 ?_ (eT rfl)) (λt=>D3 ?_) ?_⟩) (by omega))) e0,
  a2b (M8 f41 rfl (O9 (k:=n+7) _ (λp=>[some (.str p.1),some (.bl p.2)]) W0 (by simp_arith[A.fld7]) A.c7 (G7 _ _ _) (λx hx=>⟨bd,λh=>B6 (xs:=W0 x) ?_ (eT rfl)⟩) (by omega))) e0,
  a2b (M8 f42 rfl (a8d (k:=n+8) ruD (λr=>[some (ruD r)]) G4 (by simp_arith[A.fld8]) (by rw[A.c8];unfold F7 hR rd;rw[aG];rfl) (λx hx=>⟨rfl,λh=>b8v f43 (by have:=(a0W K hx).l;omega)⟩) (by have:=K.rul;omega))) e0⟩
 · have b:=K.sh.ok x hx;simp_arith[a1u (show-99999<=(x.2:Int)/\(x.2:Int)<=99999 by omega),J5,map_cons,map_nil]
 · simp_arith[a1s,map_cons,map_nil]
 · simp_arith[b4Z]
 · simp_arith[b7W]
 · simp_arith[a1s,b4Z,map_cons,map_nil]
 · simp_arith[]
 · simp_arith[a1s,b4Z,map_cons,map_nil]
 · simp_arith[b7W]
 · have:=(K.lso x hx).few;simp only[length_cons,length_nil];omega
 · simp_arith[a2j,map_cons,map_nil]
 · simp_arith[map_cons,map_nil]
 · simp_arith[]
 · have:=(K.cso x hx).few;simp only[length_cons,length_nil];omega
 · cases x with|mk y b=>cases b<;>simp_arith[W0,a6U,map_cons,map_nil]
theorem b4E{k:Nat}(A:HallAt h n (F7 H))(f33:F 33=some M4)(f34:F 34=some C6)(f35:F 35=some O4)(f36:F 36=some R3)(f37:F 37=some O5)(f38:F 38=some L7)(f39:F 39=some V6)(f40:F 40=some O6)(f41:F 41=some K3)(f42:F 42=some Q9)(f43:F 43=some F8):b4 ct F (k+4) 33 [.ref n] h=.ok (.str (a1X H)) h:=by
 have ln:=(Q2 K).1;unfold G0 at ln;simp only[aq,aa] at ln;have R:∀t (env:l0) (e0:env[0]? =some (some (.ref n))),_:=λt env e0=>a5M (ct:=ct) (k:=k) K (A.app t) f34 f35 f36 f37 f38 f39 f40 f41 f42 f43 env e0;have R0:∀(env:l0) (e0:env[0]? =some (some (.ref n))),_:=λenv e0=>a5M (ct:=ct) (k:=k) K A f34 f35 f36 f37 f38 f39 f40 f41 f42 f43 env e0;obtain⟨q,ds,T,e1,g1,r1⟩:=V7 (V7 (V7 (R0 [some (.ref n),none] rfl).1 (λt=>(R t _ rfl).2.1) (by simp only[aa];omega)) (λt=>(R t _ rfl).2.2.1) (by simp only[aq,aa];omega)) (λt=>(R t _ rfl).2.2.2.1) (by simp only[aq,aa];omega);have R1:∀t,_:=λt=>R (T++t) [some (.ref n),some (.ref q)] rfl;simp only[←aA] at R1;obtain⟨q2,ds2,T2,e2,g2,r2⟩:=V7 (V7 (V7 (V7 (a:=.v 1) (env:=[some (.ref n),some (.ref q)]) (ct:=ct) (c:=b4 ct F (k+3)) ⟨q,ds,[],by rw[aV];simp_arith[],by rw[aV];exact g1,by rw[aV];exact r1⟩ (λt=>(R1 t).2.2.2.2.1) (by simp only[aq,aa];omega)) (λt=>(R1 t).2.2.2.2.2.1) (by simp only[aq,aa];omega)) (λt=>(R1 t).2.2.2.2.2.2.1) (by simp only[aq,aa];omega)) (λt=>(R1 t).2.2.2.2.2.2.2) (by simp only[aq,aa];omega);have lr:ds2.length<=300:=by rw[Paired.length r2];exact(Q2 K).1
 have jn:=b0N (ct:=ct) (c:=b4 ct F (k+3)) (g:=[(q2,.lst ds2)]) (env0:=[none]) rfl (by simp only[gOk,all_cons,all_nil,g2];simp) [] r2 (a4G K) (by rw[length_nil];omega);rw[i9 f33 rfl];show gcR 1 h (a1z (exs ct (b4 ct F (k+3)) M4.body [some (.ref n),none] h))=_;simp only[M4];rw[seq (bv:=[some (.ref n),some (.ref q)]) (h':=h++T) (by rw[a1J,e1];rfl),seq (bv:=[some (.ref n),some (.ref q2)]) (h':=h++T++T2) (by rw[a1J,e2];rfl),K6,a1K];have jj:=a4Z (sep:="\n") (ts:=(G0 H).map EV.ln) (n:=(h++T++T2).length) (g:=h++T++T2++[.lst (((G0 H).map EV.ln).map .str)]) b6 (a9q K);have cm:ev ct (b4 ct F (k+3)) (.comp (.nm 0) (.seq (.v 1)) 1 [] .yes (.mt .join (.s " ") (.o (.v 0)))) [some (.ref n),some (.ref q2)] (h++T++T2)=.ok (.ref (h++T++T2).length) (h++T++T2++[.lst (((G0 H).map EV.ln).map .str)]):=by rw[a0i (x:=(ds2,[(q2,.lst ds2)])) (h1:=h++T++T2) (by simp_arith[W5,g2]) jn,aG];rfl
 simp_arith[cm,mtT,jj];exact b3S ((((Pf.refl h).app _).app _).app _) rfl
end
theorem a4s:∀xs:List D,O1 xs xs=xs.map λx=>.tup [x,x]
 |[]=>rfl
 |x::r=>by rw[O1,a4s r];rfl
section
variable{ct:CT}{F:Nat->Option Fn}
theorem a3o{s:Nat}{fr:List Nat}{L:List α}(rp g:α->D)(bK:α->l0)(ha:ev ct c a env h=.ok (.ref s) h)(hs:h[s]? =some (.lst (L.map rp)))(hl:L.length<=1000)
 (hx:∀x∈L,w6 p (rp x) (t8 nb fr env)=some (bK x)/\ev ct c e (bK x) h=.ok (g x) h):ev ct c (.comp p (.seq a) nb fr .yes e) env h=.ok (.ref h.length) (h++[.lst (L.map g)]):=by
 have gk:gOk [(s,.lst (L.map rp))] h=true:=by simp[gOk,hs]
 have go:∀(L':List α) (bw:List D),(∀x∈L',x∈L)->bw.length+L'.length<=1000->B0 [(s,.lst (L.map rp))] p (tst ct c .yes) (ev ct c e) (t8 nb fr env) (L'.map rp) bw h=.ok (bw++L'.map g) h:=by
  intro L'
  induction L' with
  |nil=>intro bw _ _;rw[map_nil,B0,ay gk,map_nil,aV]
  |cons x r ih=>
   intro bw hm hl;rw[length_cons] at hl;obtain⟨b1,b2⟩:=hx x (hm x (.head _));rw[map_cons,B0,ay gk,b1];simp only[a0R,g9,fk,b2];rw[ay (show bw.length<SL by show _<16777216;omega),ih _ (λy hy=>hm y (.tail _ hy)) (by rw[aq];simp only[length_cons,length_nil];omega),aA];rfl
 exact a0i (x:=(L.map rp,[(s,.lst (L.map rp))])) (by simp_arith[ha,W5,hs]) (go L [] (λ_ h=>h) (by rw[length_nil];omega))
def Al(ct:CT)(F:Nat->Option Fn)(k:Nat)(x:D):Prop:=∀h,b4 ct F k 222 [x,x] h=.ok (.bl true) h
theorem alC{k:Nat}{a:D}{r:List D}(h:Al ct F k a)(hr:∀x∈r,Al ct F k x):∀x∈a::r,Al ct F k x:=List.forall_mem_cons.mpr ⟨h,hr⟩
theorem alN{k:Nat}:∀x∈([]:List D),Al ct F k x:=λ_ h=>nomatch h
variable(bx:F 222=some C7)
include bx
theorem a7r{k:Nat}{a:Int}:Al ct F (k+1) (.int a):=λh=>by have i0:a0n h 0 (.int a)=some false:=rfl;have i1:a0n h 1 (.int a)=some true:=rfl;rw[i9 bx rfl];simp only[C7];simp_arith[i0,i1,op2,D8,eqS,eX];exact A9 rfl
theorem K7{k:Nat}{a:Str}:Al ct F (k+1) (.str a):=λh=>by have i0:a0n h 0 (.str a)=some false:=rfl;have i1:a0n h 1 (.str a)=some false:=rfl;have i4:a0n h 4 (.str a)=some true:=rfl;rw[i9 bx rfl];simp only[C7];simp_arith[i0,i1,i4,op2,D8,eqS,eX];exact A9 rfl
theorem c0j{k:Nat}{a:Bool}:Al ct F (k+1) (.bl a):=λh=>by have i0:a0n h 0 (.bl a)=some true:=rfl;rw[i9 bx rfl];simp only[C7];simp_arith[i0,op2,D8,eqS,eX];exact A9 rfl
structure Iq(h:AH)(x:D)(b:Bool):Prop where
 i0:a0n h 0 x=some false
 i1:a0n h 1 x=some false
 i4:a0n h 4 x=some false
 i3:a0n h 3 x=some b
 i2:a0n h 2 x=some (!b)
omit bx in
theorem b0Z{x:Nat}(hx:h[x]? =some (.lst xs)):Iq h (.ref x) false:=by constructor<;>(simp only[a0n,a9z,hx];rfl)
theorem b2b{k:Nat}{x y:D}{b:Bool}{n:Int}(qx:Iq h x b)(qy:Iq h y b)(lx:biD .len h [x]=.ok (.int n) h)(ly:biD .len h [y]=.ok (.int n) h)
 (go:ev ct (b4 ct F k) (.comp (.tp (.cons (.nm 0) (.cons (.nm 1) .nil))) (.zip (.v 0) (.v 1)) 2 [] .yes (.call 222 (.cons (.v 0) (.o (.v 1))))) [some x,some y] h=.ok (.ref h.length) (h++[.lst ((O1 xs xs).map λ_=>.bl true)])):b4 ct F (k+1) 222 [x,y] h=.ok (.bl true) h:=by
 have al:=a1q (h:=h) (P:=λ_:D=>true) (l:=O1 xs xs);rw[show((O1 xs xs).all λ_=>true)=true by simp] at al;rw[i9 bx rfl];simp only[C7];show gcR 1 h (a1z (exs ct (b4 ct F k) _ [some x,some y] h))=_
 simp_arith[go,al,qx.i0,qx.i1,qx.i4,qx.i3,qx.i2,qy.i0,qy.i1,qy.i4,qy.i3,qy.i2,op2,a1A,D8,eqS,eX,fc,lx,ly];exact gc1 rfl
theorem b4U{k:Nat}{x y:D}{g:List (Nat×Cell)}(hg:gOk g h=true)(hz:a8o h x y=.ok (O1 xs xs,g) h)(hl:xs.length<=1000)(H:∀x∈xs,Al ct F k x):
 ev ct (b4 ct F k) (.comp (.tp (.cons (.nm 0) (.cons (.nm 1) .nil))) (.zip (.v 0) (.v 1)) 2 [] .yes (.call 222 (.cons (.v 0) (.o (.v 1))))) [some x,some y] h=.ok (.ref h.length) (h++[.lst ((O1 xs xs).map λ_=>.bl true)]):=by
 refine y9 (l:=O1 xs xs) (g:=g) (h1:=h) (by simp_arith[hz]) hg (λ_=>.bl true) (λd=>match d with|.tup [a,b]=>[some a,some b]|_=>[]) ?_ (by rw[a4s,aa];show _<=16777216;omega);intro d hd;rw[a4s] at hd;obtain⟨x,hx,rfl⟩:=am.mp hd;refine⟨rfl,?_⟩
 simp_arith[H x hx h]
theorem O0{k:Nat}(hl:xs.length<=1000)(H:∀x∈xs,Al ct F k x):Al ct F (k+1) (.tup xs):=λh=>
 b2b bx (b:=true) (n:=xs.length) ⟨rfl,rfl,rfl,rfl,rfl⟩ ⟨rfl,rfl,rfl,rfl,rfl⟩ rfl rfl (b4U (ct:=ct) (x:=.tup xs) (y:=.tup xs) (h:=h) (g:=[]) bx rfl rfl hl H)
theorem a7q{k x y:Nat}(hx:h[x]? =some (.lst xs))(hy:h[y]? =some (.lst xs))(hl:xs.length<=1000)(H:∀x∈xs,Al ct F k x):b4 ct F (k+1) 222 [.ref x,.ref y] h=.ok (.bl true) h:=
 b2b bx (b0Z hx) (b0Z hy) (o0 hx) (o0 hy) (b4U (ct:=ct) (x:=.ref x) (y:=.ref y) (h:=h) (g:=[(x,.lst xs),(y,.lst xs)]) bx (by simp[gOk,hx,hy]) (by simp only[a8o,b2i,a3Y,hx,hy]) hl H)
theorem b2a{k:Nat}{p:Int×Int}:Al ct F (k+2) (spD p):=O0 bx (eT rfl) (alC (a7r bx) (alC (a7r bx) alN))
theorem a0l{k:Nat}{ss:List Str}(hl:ss.length<=1000):Al ct F (k+2) (.tup (ss.map .str)):=O0 bx (by rw[aa];exact hl) λx hx=>by obtain⟨s,_,rfl⟩:=am.mp hx;exact K7 bx
theorem a6t{k m:Nat}(cU:F 223=some E8)(hn:h[n]? =some (.dict l))(hm:h[m]? =some (.lst xs))(e:J9 l=xs)(hl:xs.length<=1000)(H:∀x∈xs,Al ct F k x):b4 ct F (k+2) 223 [.ref n,.ref m] h=.ok (.bl true) h:=by
 have c1:=a7q (ct:=ct) (F:=F) (k:=k) (h:=h++[.lst xs]) bx b6 (b5 hm) hl H;rw[i9 cU rfl];simp only[E8];have i5:a0n h 5 (.ref n)=some true:=by simp only[a0n,a9z,hn];rfl
 simp_arith[i5,b3x,a0v,hn,e,u9,c1];exact gc1 rfl
variable{H:HL}(K:HLok H)
include K
theorem a7Y{k a c d e i:Nat}(cU:F 223=some E8)(et:F 224=some K4)(A:HallAt h n (F7 H))(B:HAt H h a b c d e f i j):
 b4 ct F (k+8) 224 [.ref n,.tup [.ref a,.ref b,.ref c,.ref d,.ref e,.ref f,.ref i,.ref j]] h=.ok (.bl true) h:=by
 have lsh:=K.sh.hi;have lmr:H.mr.length<=1000:=by have:=K.mr.length_le;rw[aa,aa] at this;omega
 have lpt:=K.ptl;have lls:=K.ls;have lgp:H.gp.length<=1000:=by have:=K.gp.length_le;rw[aa] at this;omega
 have lcs:=K.cs;have lfe:=K.fe;have lru:=K.rul;generalize hT:D.tup [D.ref a,.ref b,.ref c,.ref d,.ref e,.ref f,.ref i,.ref j]=T;have ix:∀(q:Nat) (x:D),[D.ref a,.ref b,.ref c,.ref d,.ref e,.ref f,.ref i,.ref j][q]? =some x->∀h,ixD h T (.int (q:Int))=.ok x h:=λq x e h=>by rw[←hT];exact ix_tup (i:=q) e
 have t0:∀h,ixD h T (.int 0)=.ok (.ref a) h:=ix 0 _ rfl;have t1:∀h,ixD h T (.int 1)=.ok (.ref b) h:=ix 1 _ rfl;have t2:∀h,ixD h T (.int 2)=.ok (.ref c) h:=ix 2 _ rfl;have t3:∀h,ixD h T (.int 3)=.ok (.ref d) h:=ix 3 _ rfl;have t4:∀h,ixD h T (.int 4)=.ok (.ref e) h:=ix 4 _ rfl;have t5:∀h,ixD h T (.int 5)=.ok (.ref f) h:=ix 5 _ rfl;have t6:∀h,ixD h T (.int 6)=.ok (.ref i) h:=ix 6 _ rfl;have t7:∀h,ixD h T (.int 7)=.ok (.ref j) h:=ix 7 _ rfl;have di0:∀{l:List (D×D)} {xs:List D} {q m:Nat},h[q]? =some (.dict l)->h[m]? =some (.lst xs)->J9 l=xs->xs.length<=1000->(∀x∈xs,Al ct F (k+5) x)->b4 ct F (k+7) 223 [.ref q,.ref m] h=.ok (.bl true) h:=λh1 h2 e l H=>a6t bx cU h1 h2 e l H;have mp:∀{α:Type} {L:List α} {g:α->D},(∀x∈L,Al ct F (k+5) (g x))->∀x∈L.map g,Al ct F (k+5) x:=λH x hx=>by obtain⟨y,hy,rfl⟩:=am.mp hx;exact H y hy
 have ic:b1a h 6 (.ref n)=.ok (.bl true) h:=by simp only[b1a,A.o,fk]
 have q1:=di0 A.c1 B.sh (G7 _ _ _) (by unfold shD;rw[aa];omega) (mp λp _=>O0 bx (eT rfl) (alC (K7 bx) (alC (a7r bx) alN)));have q6:=di0 A.c6 B.cs (G7 _ _ _) (by rw[aa];omega) (mp λp hp=>O0 bx (eT rfl) (alC (K7 bx) (alC (a0l bx (by have:=(K.cso p hp).few;omega)) alN)));rw[i9 et rfl];simp only[K4];show gcR 1 h (a1z (exs ct (b4 ct F (k+7)) _ [some (.ref n),some T] h))=_;rw[seq (by unfold b9o;simp_arith[ic,A.fld1,A.fld6,t0,t5,q1,q6,fc];rfl)];have cm:=a3o (ct:=ct) (c:=b4 ct F (k+7)) (p:=htP 0 1 2 3) (a:=.ix (.v 1) (.i 1)) (e:=.tup (.cons (.v 0) (.o (.tup (.cons (.v 1) (.cons (.v 2) (.o (.v 3)))))))) (nb:=4) (fr:=[]) (env:=[some (.ref n),some T]) (h:=h) (L:=H.mr) mkD (λm=>D.tup [.str m.n,.tup [.str m.s,spD m.a,spD m.b]]) (λm=>[some (.str m.n),some (.str m.s),some (spD m.a),some (spD m.b)]) (by simp_arith[t1]) B.mr lmr (λm _=>⟨rfl,by simp_arith[]⟩);have q2:=a6t (ct:=ct) (F:=F) (k:=k+5) (h:=h++[.lst (H.mr.map λm=>D.tup [.str m.n,.tup [.str m.s,spD m.a,spD m.b]])]) bx cU (b5 A.c2) b6 (G7 _ _ _) (by rw[aa];exact lmr) (mp λm _=>O0 bx (eT rfl) (alC (K7 bx) (alC (O0 bx (eT rfl) (alC (K7 bx) (alC (b2a bx) (alC (b2a bx) alN)))) alN)));rw[seq (by unfold b9n;simp_arith[A.fld2,show ev ct (b4 ct F (k+7)) (.comp (.tp (.cons (.nm 0) (.cons (.nm 1) (.cons (.nm 2) (.cons (.nm 3) .nil))))) (.seq (.ix (.v 1) (.i 1))) 4 [] .yes (.tup (.cons (.v 0) (.o (.tup (.cons (.v 1) (.cons (.v 2) (.o (.v 3))))))))) _ h=_ from cm,q2,fc];rfl)];have P1:=(Pf.refl h).app [.lst (H.mr.map λm=>D.tup [.str m.n,.tup [.str m.s,spD m.a,spD m.b]])];have A1:=A.app [.lst (H.mr.map λm=>D.tup [.str m.n,.tup [.str m.s,spD m.a,spD m.b]])];clear q1 q6 q2 cm di0 ic;generalize h++[Cell.lst (H.mr.map λm=>D.tup [.str m.n,.tup [.str m.s,spD m.a,spD m.b]])]=h1 at P1 A1⊢;have cm:=a3o (ct:=ct) (c:=b4 ct F (k+7)) (p:=.tp (.cons (.nm 0) (.cons (.nm 1) (.cons (.nm 2) .nil)))) (a:=.ix (.v 1) (.i 2)) (e:=.tup (.cons (.tup (.cons (.v 0) (.o (.v 1)))) (.o (.v 2)))) (nb:=3) (fr:=[]) (env:=[some (.ref n),some T]) (h:=h1) (L:=H.pt) ptD (λm=>D.tup [.tup [.str m.n,.str m.s],spD m.a]) (λm=>[some (.str m.n),some (.str m.s),some (spD m.a)]) (by simp_arith[t2]) (P1.at B.pt) (by omega) (λm _=>⟨rfl,by simp_arith[]⟩);have q2:=a6t (ct:=ct) (F:=F) (k:=k+5) (h:=h1++[.lst (H.pt.map λm=>D.tup [.tup [.str m.n,.str m.s],spD m.a])]) bx cU (b5 A1.c3) b6 (by unfold J9 F7 hP pd;rw[aG,aG];rfl) (by rw[aa];omega) (mp λm _=>O0 bx (eT rfl) (alC (O0 bx (eT rfl) (alC (K7 bx) (alC (K7 bx) alN))) (alC (b2a bx) alN)));rw[seq (by unfold b9m;simp_arith[A1.fld3,cm,q2,fc];rfl)];have P2:=P1.app [.lst (H.pt.map λm=>D.tup [.tup [.str m.n,.str m.s],spD m.a])];have A2:=A1.app [.lst (H.pt.map λm=>D.tup [.tup [.str m.n,.str m.s],spD m.a])];clear q2 cm;generalize h1++[Cell.lst (H.pt.map λm=>D.tup [.tup [.str m.n,.str m.s],spD m.a])]=h2 at P2 A2⊢;have cm:=a3o (ct:=ct) (c:=b4 ct F (k+7)) (p:=.tp (.cons (.nm 0) (.cons (.nm 1) (.cons (.nm 2) (.cons (.nm 3) .nil))))) (a:=.ix (.v 1) (.i 3)) (e:=.tup (.cons (.v 0) (.o (.tup (.cons (.v 1) (.cons (.v 2) (.o (.v 3)))))))) (nb:=4) (fr:=[]) (env:=[some (.ref n),some T]) (h:=h2) (L:=H.ls) ltD (λl=>D.tup [.str l.n,.tup [.str l.j,.str l.w,.tup (l.fs.map .str)]]) (λl=>[some (.str l.n),some (.str l.j),some (.str l.w),some (.tup (l.fs.map .str))]) (by simp_arith[t3]) (P2.at B.ls) (by omega) (λm _=>⟨rfl,by simp_arith[]⟩);have q2:=a6t (ct:=ct) (F:=F) (k:=k+5) (h:=h2++[.lst (H.ls.map λl=>D.tup [.str l.n,.tup [.str l.j,.str l.w,.tup (l.fs.map .str)]])]) bx cU (b5 A2.c4) b6 (G7 _ _ _) (by rw[aa];omega) (mp λl hl=>O0 bx (eT rfl) (alC (K7 bx) (alC (O0 bx (eT rfl) (alC (K7 bx) (alC (K7 bx) (alC (a0l bx (by have:=(K.lso l hl).few;omega)) alN)))) alN)));rw[seq (by unfold b9l;simp_arith[A2.fld4,cm,q2,fc];rfl)];have P3:=P2.app [.lst (H.ls.map λl=>D.tup [.str l.n,.tup [.str l.j,.str l.w,.tup (l.fs.map .str)]])];have A3:=A2.app [.lst (H.ls.map λl=>D.tup [.str l.n,.tup [.str l.j,.str l.w,.tup (l.fs.map .str)]])];clear q2 cm;generalize h2++[Cell.lst (H.ls.map λl=>D.tup [.str l.n,.tup [.str l.j,.str l.w,.tup (l.fs.map .str)]])]=h3 at P3 A3⊢;have q7:=a6t (ct:=ct) (F:=F) (k:=k+5) bx cU A3.c7 (P3.at B.fe) (G7 _ _ _) (by rw[aa];omega) (mp λp _=>O0 bx (eT rfl) (alC (K7 bx) (alC (c0j bx) alN)));have q5:=a7q (ct:=ct) (F:=F) (k:=k+6) bx A3.c5 (P3.at B.gp) (by rw[aa];exact lgp) (λx hx=>by obtain⟨s,_,rfl⟩:=am.mp hx;exact K7 bx)
 have q8:=a7q (ct:=ct) (F:=F) (k:=k+6) bx (y:=j) (xs:=H.ru.map ruD) (by rw[A3.c8];unfold F7 hR rd;rw[aG];rfl) (P3.at B.ru) (by rw[aa];omega) (λx hx=>by obtain⟨r,hr,rfl⟩:=am.mp hx;have o:=K.ruo r hr;have:=o.b3;have:=o.c4;have:=o.a3;have:=o.o3;exact O0 bx (eT rfl) (alC (K7 bx) (alC (K7 bx) (alC (a0l bx (by omega)) (alC (a0l bx (by omega)) (alC (a0l bx (by omega)) (alC (a0l bx (by omega)) alN)))))))
 rw[K6];unfold b9k;simp_arith[A3.fld7,A3.fld5,A3.fld8,t6,t4,t7,q7,q5,q8];exact b3S P3 rfl
end
section
variable{ct:CT}{F:Nat->Option Fn}
theorem a4c{c:CF}{n:Nat}{ns:List Int}{h:AH}(hr:h[n]? =some (.rol (ns.map .int))):∀(l:List Int) (m:Nat) (e2:Option D),∃(m':Nat) (e2':Option D),G9 [(n,.rol (ns.map .int))] (.nm 2) (exs ct c (.o (.set 1 (.bin .mod (.bin .add (.bin .mul (.v 1) (.i 69621)) (.bin .mod (.v 2) (.i 2147483647))) (.i 2147483629))))) (l.map .int) [some (.ref n),some (.int (m:Int)),e2] h=.ok (.nx [some (.ref n),some (.int (m':Int)),e2']) h
 |[],m,e2=>⟨m,e2,by rw[map_nil,G9,ay (by simp[gOk,hr])]⟩
 |x::l,m,e2=>by obtain⟨m',e',q⟩:=a4c hr l (((m:Int)*69621+x%2147483647)%2147483629).toNat (some (.int x));refine⟨m',e',?_⟩;rw[Int.toNat_of_nonneg (Int.emod_nonneg _ (by decide))] at q;rw[map_cons,G9,ay (by simp[gOk,hr])];simp only[w6,List.set_cons_succ,set_cons_zero];simp_arith[op2,J8 (h:=h) (i:=(m:Int)) (j:=69621) (by decide),a3f (h:=h) (i:=x) (j:=2147483647) (by decide),l8,a3f (h:=h) (i:=(m:Int)*69621+x%2147483647) (j:=2147483629) (by decide)];exact q
theorem b3X{k:Nat}(f225:F 225=some R4)(hr:h[n]? =some (.rol (ns.map .int))):∃m:Nat,b4 ct F (k+1) 225 [.ref n] h=.ok (.int (m:Int)) h:=by obtain⟨m,e2,q⟩:=a4c (ct:=ct) (c:=b4 ct F k) hr ns 7 none;refine⟨m,?_⟩;rw[i9 f225 rfl];simp only[R4];simp_arith[W5,hr,show G9 _ _ _ _ [some (.ref n),some (.int 7),none] h=_ from q];exact A9 rfl
structure Chg(n q:Nat)(h h':AH):Prop where
 fr:Fr n h h'
 o:h'[n]? =h[n]?
 c:∀i,q<=i->i<=8->h'[n+i]? =h[n+i]?
theorem Chg.set{q:Nat}{c:Cell}(S:Chg n q h h')(h1:1<=q)(h2:q<=8):Chg n (q+1) h (h'.set (n+q) c):=
 ⟨S.fr.trans (Fr.set (by omega) (by omega)),by rw[eW (by omega)];exact S.o,λi a b=>by rw[eW (by omega)];exact S.c i (by omega) b⟩
theorem a1Y{f:Str}(o:h[n]? =some (.obj 6 (V0 n)))(e:(V0 n).lookup f=some d):S9 h f (.ref n)=.ok d h:=by simp only[S9,o,e]
theorem a4A{l:List (Str×D)}{k:Str}(e:h[n]? =some (.dict (kd l)))(hl:l.length<=1000):W1 h (.ref n) (.str k) d=.ok () (h.set n (.dict (W6 (kd l) (.str k) d))):=by simp only[W1,e];rw[ay ⟨a2y _ _,by simp only[kd,aa];show _<16777216;omega⟩]
theorem b0M(l:List (Str×D)):z9 (.int 0) (kd l)=true:=by simp[z9,kd,F6]
theorem a8j{l:List (Str×D)}(e:h[n]? =some (.dict (kd l))):b1O h (.ref n)=.ok .non (h.set n (.dict [])):=by simp only[b1O,a0v,e,b0M,fk]
def Sw(l:List (Str×D)):Prop:=∀p∈l,∃b,p.2=.bl b
theorem a9D{x:Str}:∀{l:List (Str×D)},Sw l->x∈l.map (·.1)->∃b,o7 (kd l) (.str x)=some (.bl b)
 |p::r,S,hx=>by
  unfold o7 kd;rw[map_cons,List.find?_cons]
  by_cases e:p.1=x
  · obtain⟨b,hb⟩:=S p (.head _);exact⟨b,by simp[e,hb]⟩
  · have e':¬(D.str p.1=D.str x):=λz=>e (by injection z);simp only[e',eZ];exact a9D (λq hq=>S q (.tail _ hq)) ((aE.mp hx).resolve_left (ff e))
 |[],_,hx=>nomatch hx
theorem b5l{b:Bool}{l:List (Str×D)}(S:Sw l)(hx:x∈l.map (·.1)):∃l',W6 (kd l) (.str x) (.bl b)=kd l'/\Sw l'/\l'.map (·.1)=l.map (·.1):=by
 refine⟨l.map λp=>if p.1=x then(p.1,.bl b) else p,?_,λp hp=>?_,?_⟩
 · unfold W6;rw[ay (by obtain⟨p,hp,rfl⟩:=am.mp hx;exact bc.mpr ⟨_,am.mpr ⟨p,hp,rfl⟩,aW rfl⟩)]
   unfold kd;rw[aG,aG];refine aT λp _=>?_;show(if D.str p.1=D.str x then(D.str p.1,D.bl b) else(D.str p.1,p.2))=(D.str (if p.1=x then(p.1,D.bl b) else p).1,(if p.1=x then(p.1,D.bl b) else p).2)
   by_cases e:p.1=x
   · rw[ay e,ay (by rw[e])]
   · rw[az e,az λz=>e (by injection z)]
 · obtain⟨q,hq,rfl⟩:=am.mp hp
   by_cases e:q.1=x
   · rw[ay e];exact⟨b,rfl⟩
   · rw[az e];exact S q hq
 · rw[aG];refine aT λp _=>?_;show(if p.1=x then(p.1,D.bl b) else p).1=p.1
   by_cases e:p.1=x
   · rw[ay e]
   · rw[az e]
theorem a7x{c:CF}{n g:Nat}{ks:List D}{x0 x1 x2 x3 x5 x7:Option D}(hg:n+8<g):∀(xs:List Str) (l:List (Str×D)) (h':AH) (e6:Option D),Sw l->l.length<=1000->(∀x∈xs,x∈l.map (·.1))->h'[n]? =some (.obj 6 (V0 n))->h'[n+7]? =some (.dict (kd l))->h'[g]? =some (.lst ks)→
 ∃e6' h'',G9 [(g,.lst ks)] (.nm 6) (exs ct c (.o (.six (.fld (.v 4) "features") (.v 6) (.nt (.ix (.fld (.v 4) "features") (.v 6)))))) (xs.map .str) [x0,x1,x2,x3,some (.ref n),x5,e6,x7] h'=.ok (.nx [x0,x1,x2,x3,some (.ref n),x5,e6',x7]) h''/\Fr n h' h''/\h''[n]? =h'[n]? /\h''[n+8]? =h'[n+8]?
 |[],l,h',e6,_,_,_,_,_,hk=>⟨e6,h',by rw[map_nil,G9,ay (by simp[gOk,hk])],Fr.refl _ _,rfl,rfl⟩
 |x::xs,l,h',e6,S,hl,hx,o,c7,hk=>by
  obtain⟨b,hb⟩:=a9D S (hx x (.head _));obtain⟨l',p1,p2,p3⟩:=b5l (b:=!b) S (hx x (.head _));have ll:l'.length=l.length:=by have:=fh List.length p3;simpa using this
  obtain⟨e',h'',q1,q2,q3,q4⟩:=a7x hg xs l' (h'.set (n+7) (.dict (kd l'))) (some (.str x)) p2 (by omega) (λy hy=>by rw[p3];exact hx y (.tail _ hy)) (b7 (by omega) o) (x4 c7) (b7 (by omega) hk);have ix:ixD h' (.ref (n+7)) (.str x)=.ok (.bl b) h':=by simp only[ixD,c7,a2y,fk,hb]
  have st:=a4A (k:=x) (d:=.bl (!b)) c7 hl;rw[p1] at st;refine⟨e',h'',?_,(Fr.set (by omega) (by omega)).trans q2,by rw[q3,eW (by omega)],by rw[q4,eW (by omega)]⟩;rw[map_cons,G9,ay (by simp[gOk,hk])];simp only[w6,List.set_cons_succ,set_cons_zero];simp_arith[a1Y o (d:=.ref (n+7)) (f:="features") rfl,ix,st];exact q1
theorem b6k{H:HL}(K:HLok H)(A:HallAt h n (F7 H)){x0 x1 x2 x3 x5 x7:Option D}(T:Ss):∃e6 h',Fr n h h'/\exs ct c (.cons lw6 (.cons lw7 (.cons lw8 (.cons lw9 (.cons b6t (.cons b6s (.cons b6r (.cons b6q T)))))))) [x0,x1,x2,x3,some (.ref n),x5,none,x7] h=exs ct c T [x0,x1,x2,x3,some (.ref n),x5,e6,x7] h':=by
 have lsh:(F7 H).shapes.length<=1000:=by unfold F7 hS;rw[aa];have:=K.sh.hi;omega
 have lpt:(F7 H).points.length<=1000:=by unfold F7 hP;rw[aa];have:=K.ptl;omega
 have lcs:(F7 H).classes.length<=1000:=by unfold F7 hC;rw[aa];have:=K.cs;omega
 have lfe:(F7 H).features.length<=1000:=by unfold F7 hF;rw[aa];have:=K.fe;omega
 have lgp:((F7 H).gaps.map D.str).length<1000000:=by have:=K.gp.length_le;rw[aa] at this;have:=K.ls;rw[aa];show H.gp.length<_;omega
 have lru:(rd (F7 H).rules).length<1000000:=by unfold rd F7 hR;rw[aa,aa];have:=K.rul;omega
 have S0:Chg n 1 h h:=⟨Fr.refl _ _,rfl,λ_ _ _=>rfl⟩;rw[seq (by unfold lw6;simp_arith[A.fld1,a4A A.c1 lsh];rfl)];have S:=S0.set (c:=.dict (W6 (kd (F7 H).shapes) (.str "new") (.int 3))) (by omega) (by omega);generalize h.set (n+1) _=g1 at S⊢;rw[seq (by unfold lw7;simp_arith[a1Y (S.o.trans A.o) (d:=.ref (n+2)) (f:="marks") rfl,a8j ((S.c 2 (by omega) (by omega)).trans A.c2)];rfl)];have S:=S.set (c:=.dict []) (by omega) (by omega);generalize g1.set (n+2) _=g2 at S⊢;have st:∀d,W1 g2 (.ref (n+3)) (.tup [.str "new",.str "above"]) d=.ok () (g2.set (n+3) (.dict (W6 (pd (F7 H).points) (.tup [.str "new",.str "above"]) d))):=λd=>by simp only[W1,(S.c 3 (by omega) (by omega)).trans A.c3];rw[ay ⟨a4V _ _ _,by simp only[pd,aa];show _<16777216;omega⟩]
 rw[seq (by unfold lw8;simp_arith[a1Y (S.o.trans A.o) (d:=.ref (n+3)) (f:="points") rfl,st];rfl)];have S:=S.set (c:=.dict (W6 (pd (F7 H).points) (.tup [.str "new",.str "above"]) (.tup [.int 1,.int 2]))) (by omega) (by omega);generalize g2.set (n+3) _=g3 at S⊢;rw[seq (by unfold lw9;simp_arith[a1Y (S.o.trans A.o) (d:=.ref (n+4)) (f:="letters") rfl,a8j ((S.c 4 (by omega) (by omega)).trans A.c4)];rfl)];have S:=S.set (c:=.dict []) (by omega) (by omega);generalize g3.set (n+4) _=g4 at S⊢;have c5:=(S.c 5 (by omega) (by omega)).trans A.c5;rw[seq (by unfold b6t;simp_arith[a1Y (S.o.trans A.o) (d:=.ref (n+5)) (f:="gaps") rfl,F5 c5,L3 (d:=.str "new") c5 lgp];rfl)];have S:=S.set (c:=.lst ((F7 H).gaps.map .str++[.str "new"])) (by omega) (by omega);generalize g4.set (n+5) _=g5 at S⊢;rw[seq (by unfold b6s;simp_arith[a1Y (S.o.trans A.o) (d:=.ref (n+6)) (f:="classes") rfl,a4A ((S.c 6 (by omega) (by omega)).trans A.c6) lcs];rfl)];have S:=S.set (c:=.dict (W6 (kd (F7 H).classes) (.str "new") (.tup [.str "new"]))) (by omega) (by omega);generalize g5.set (n+6) _=g6 at S⊢;have c7:=(S.c 7 (by omega) (by omega)).trans A.c7;have c8:=(S.c 8 (by omega) (by omega)).trans A.c8;have o6:=S.o.trans A.o;have g8:=(ae.mp c8).1;have sw:Sw (F7 H).features:=λp hp=>by obtain⟨q,_,rfl⟩:=am.mp hp;exact⟨q.2,rfl⟩
 have li:biD .list g6 [.ref (n+7)]=.ok (.ref g6.length) (g6++[.lst (((F7 H).features.map (·.1)).map .str)]):=by simp only[biD,bi1,c7,b0M,fk,u9];unfold kd;rw[aG,aG];rfl
 obtain⟨e6,g7,q1,q2,q3,q4⟩:=a7x (ct:=ct) (c:=c) (ks:=((F7 H).features.map (·.1)).map .str) (x0:=x0) (x1:=x1) (x2:=x2) (x3:=x3) (x5:=x5) (x7:=x7) g8 ((F7 H).features.map (·.1)) _ (g6++[.lst (((F7 H).features.map (·.1)).map .str)]) none sw lfe (λ_ h=>h) (b5 o6) (b5 c7) b6;rw[seq (by unfold b6r;simp_arith[a1Y o6 (d:=.ref (n+7)) (f:="features") rfl,li,W5,b6,q1];rfl)];have c8':=q4.trans (b5 c8);rw[seq (by unfold b6q;simp_arith[a1Y (q3.trans (b5 o6)) (d:=.ref (n+8)) (f:="rules") rfl,F5 c8',L3 c8' lru];rfl)];exact⟨e6,_,((S.fr.trans (Fr.app n _ _)).trans q2).trans (Fr.set (k:=n+8) (by omega) (by omega)),rfl⟩
end
theorem Pf.of_take(e:g.take h.length=h):Pf h g:=⟨by rw[←e,aJ];omega,λi hi=>by
 have:(g.take h.length)[i]? =h[i]? :=by rw[e]
 rw[←this,bn hi]⟩
theorem HallAt.pf{H:HD}(A:HallAt h n H)(p:Pf h g):HallAt g n H:=⟨p.at A.o,p.at A.c1,p.at A.c2,p.at A.c3,p.at A.c4,p.at A.c5,p.at A.c6,p.at A.c7,p.at A.c8⟩
theorem HAt.pf{H:HL}{a c d e i:Nat}(A:HAt H h a b c d e f i j)(p:Pf h g):HAt H g a b c d e f i j:=⟨p.at A.sh,p.at A.mr,p.at A.pt,p.at A.ls,p.at A.gp,p.at A.cs,p.at A.fe,p.at A.ru⟩
def noH:HL:=⟨[],[],[],[],[],[],[],[]⟩
theorem noK:HLok noH:=⟨⟨fq _,.nil,nofun⟩,.slnil,nofun,.nil,fq _,nofun,fq _,.nil,nofun,.slnil,fq _,.nil,nofun,fq _,⟨rfl,.nil,nofun⟩,fq _,.nil,nofun⟩
section
variable{ct:CT}{F:Nat->Option Fn}
theorem b8U(c:CF)(env:l0):∀(m:Nat) (h:AH),evs ct c (m.rec .nil λ_ r=>.cons (.lst .nil) r) env h=.ok ((List.range m).map λi=>.ref (h.length+i)) (h++List.replicate m (.lst []))
 |0,h=>by rw[List.replicate_zero,aV];rfl
 |m+1,h=>by have ih:=b8U c env m (h++[.lst []]);show evs ct c (.cons (.lst .nil) (m.rec .nil λ_ r=>.cons (.lst .nil) r)) env h=_;rw[a6n];simp_arith[u9,ih];rw[List.range_succ_eq_map,map_cons,aG,aA];congr 1;congr 1;refine aT λi _=>?_;show D.ref ((h++[Cell.lst []]).length+i)=D.ref (h.length+(i+1));rw[aq];congr 1;show h.length+1+i=_;omega
theorem X0{i:Nat}(hi:i<8):(h++List.replicate 8 (Cell.lst []))[h.length+i]? =some (.lst []):=by rw[au (by omega),bo,ay (by omega)]
theorem b6w{d:Nat}(W:PF F)(hin:ct.init 6=32)(f33:F 33=some M4)(f34:F 34=some C6)(f35:F 35=some O4)(f36:F 36=some R3)(f37:F 37=some O5)(f38:F 38=some L7)(f39:F 39=some V6)(f40:F 40=some O6)(f41:F 41=some K3)(f42:F 42=some Q9)(f43:F 43=some F8)
 (dC:F 201=some E9) (bG:F 202=some o8) (bU:F 203=some m8) (f204:F 204=some B7) (cH:F 205=some w5) (f206:F 206=some D2) (f207:F 207=some B9) (f208:F 208=some y7) (f209:F 209=some y8) (df:F 210=some w8) (f211:F 211=some u7) (f212:F 212=some K5) (dB:F 213=some C0) (f214:F 214=some B8) (f215:F 215=some F9)
 (bx:F 222=some C7) (cU:F 223=some E8) (et:F 224=some K4) (f225:F 225=some R4) (f221:F 221=some a8b):∃h',b4 ct F (d+11) 221 [.ref 0] [.rol (ns.map .int)]=.ok (.bl true) h':=by
 have hr:[Cell.rol (ns.map .int)][0]? =some (.rol (ns.map .int)):=rfl;generalize [Cell.rol (ns.map .int)]=g0 at hr;obtain⟨M,hM⟩:=b3X (ct:=ct) (k:=d+9) f225 hr;have m7:u0 g0 (.int (M:Int)) (.int 7)=.ok (.int ((M%7:Nat):Int)) g0:=D0 7 (by decide);have l7:M%7<7:=eY _ (by decide);obtain⟨H,g1,a,b,c,d',e,f,i,j,K,ne,P1,B,hH⟩:=b3M (ct:=ct) (k:=d+7) (n:=0) (m:=M%7) (ns:=ns) (h:=g0) dC bG bU f204 cH f206 f207 f208 f209 df f211 f212 hr (by omega);have hT:=b1f (ct:=ct) (k:=d+8) K dB f214 f215 B;have rd:∀g,∃g',g'.take g.length=g/\HallAt g' g.length (F7 H)/\b4 ct F (d+10) 12 [.str (a1X H)] g=.ok (.ref g.length) g':=λg=>a0Y (ct:=ct) (d:=d+8) (h:=g) (text:=a1X H) (H':=F7 H) W hin (by have:=b2l K;omega) (by rw[a8r K ne];exact a8D W K);obtain⟨g2,t2,A2,r2⟩:=rd g1;obtain⟨g3,t3,A3,r3⟩:=rd g2;have P2:=Pf.of_take t2;have P3:=Pf.of_take t3;have hi1:=a7Y (ct:=ct) (k:=d+2) bx K cU et (A2.pf P3) (B.pf (P2.trans P3));have hi2:=a7Y (ct:=ct) (k:=d+2) bx K cU et A3 (B.pf (P2.trans P3));have l2:g1.length+8<g2.length:=(ae.mp A2.c8).1;generalize hTt:D.tup [.ref a,.ref b,.ref c,.ref d',.ref e,.ref f,.ref i,.ref j]=T at hH hT hi1 hi2;obtain⟨e6,g4,fr,mu⟩:=b6k (ct:=ct) (c:=b4 ct F (d+10)) K (A2.pf P3) (x0:=some (.ref 0)) (x1:=some (.int (M:Int))) (x2:=some T) (x3:=some (.str (a1X H))) (x5:=some (.ref g2.length)) (x7:=none) (.cons b6p (.cons b6o (.o b6n)));have l3:=(ae.mp A3.c8).1;have A4:HallAt g4 g2.length (F7 H):=by have k:∀q,q<=8->g4[g2.length+q]? =g3[g2.length+q]? :=λq hq=>fr.get _ (by omega) (by omega);exact⟨(k 0 (by omega)).trans A3.o,(k 1 (by omega)).trans A3.c1,(k 2 (by omega)).trans A3.c2,(k 3 (by omega)).trans A3.c3,(k 4 (by omega)).trans A3.c4,(k 5 (by omega)).trans A3.c5,(k 6 (by omega)).trans A3.c6,(k 7 (by omega)).trans A3.c7,(k 8 (by omega)).trans A3.c8⟩
 have P14:Pf g1 g4:=⟨aO (aO P2.len P3.len) fr.len,λq hq=>(fr.get q (aC hq (aO P2.len P3.len)) (.inl hq)).trans ((P2.trans P3).get q hq)⟩;have hi4:=a7Y (ct:=ct) (k:=d+2) bx K cU et A4 (B.pf P14);rw[hTt] at hi4;have tx4:=b4E (ct:=ct) (k:=d+6) K A4 f33 f34 f35 f36 f37 f38 f39 f40 f41 f42 f43;obtain⟨g5,t5,A5,r5⟩:=a0Y (ct:=ct) (d:=d+8) (h:=g4) (text:="") (H':=F7 noH) W hin (by decide) (by rw[show Txt.split "" "\n"=[("":Str)] by decide+kernel];exact .skip (by decide) (by decide+kernel) (.nil _));have B5:HAt noH (g5++List.replicate 8 (.lst [])) (g5.length+0) (g5.length+1) (g5.length+2) (g5.length+3) (g5.length+4) (g5.length+5) (g5.length+6) (g5.length+7):=⟨X0 (by decide),X0 (by decide),X0 (by decide),X0 (by decide),X0 (by decide),X0 (by decide),X0 (by decide),X0 (by decide)⟩;have hi5:=a7Y (ct:=ct) (k:=d+2) bx noK cU et (A5.app (List.replicate 8 (.lst []))) B5;have tx5:=b4E (ct:=ct) (k:=d+6) noK (A5.app (List.replicate 8 (.lst []))) f33 f34 f35 f36 f37 f38 f39 f40 f41 f42 f43;have tp:∀env,ev ct (b4 ct F (d+10)) lwT env g5=.ok (.tup [.ref (g5.length+0),.ref (g5.length+1),.ref (g5.length+2),.ref (g5.length+3),.ref (g5.length+4),.ref (g5.length+5),.ref (g5.length+6),.ref (g5.length+7)]) (g5++List.replicate 8 (.lst [])):=λenv=>by have ls:=b8U (ct:=ct) (b4 ct F (d+10)) env 8 g5;show(evs ct (b4 ct F (d+10)) (Nat.rec .nil (λ_ r=>.cons (.lst .nil) r) 8) env g5).bind _=_;rw[ls,g9,ay (by rw[aa,aH];decide)];rfl
 generalize D.tup [.ref (g5.length+0),.ref (g5.length+1),.ref (g5.length+2),.ref (g5.length+3),.ref (g5.length+4),.ref (g5.length+5),.ref (g5.length+6),.ref (g5.length+7)]=T5 at hi5 tp;generalize g5++List.replicate 8 (Cell.lst [])=g6 at hi5 tx5 tp;refine⟨g6,?_⟩;rw[i9 f221 rfl];simp only[a8b];rw[gc0,seq (by unfold lw0;simp_arith[hM];rfl),seq (by unfold lw1;simp_arith[op2,m7,hH];rfl),seq (by unfold lw2;simp_arith[hT];rfl),seq (by unfold lw3;simp_arith[r2];rfl),seq (by unfold lw4;simp_arith[r3];rfl),seq (by unfold lw5;simp_arith[hi1,hi2,fc];rfl)];rw[mu,seq (by unfold b6p;simp_arith[hi4,tx4,op2,a1A,eqS,eX,fc];rfl),seq (by unfold b6o;simp_arith[r5];rfl)];rw[K6];unfold b6n;simp_arith[tp,hi5,tx5,op2,D8,eqS,show a1X noH=("":Str) by decide+kernel,eX]
end
end EV
namespace K07
open PySem L2 EV
theorem pf:PF F:=⟨rfl,rfl,rfl,rfl,rfl,rfl,rfl,rfl,rfl,rfl,rfl,rfl,rfl,rfl,rfl,rfl,rfl,rfl,rfl,rfl,rfl,rfl,rfl,rfl,rfl,rfl,rfl,rfl,rfl,rfl,rfl,rfl⟩
end K07
theorem a7b:∀ns:List Int,ns.length<=63->∃h',EV.b4 K07.ct K07.F 20 221 [.ref 0] [.rol (ns.map .int)]=.ok (.bl true) h':=λns _=>EV.b6w (d:=9) K07.pf rfl rfl rfl rfl rfl rfl rfl rfl rfl rfl rfl rfl rfl rfl rfl rfl rfl rfl rfl rfl rfl rfl rfl rfl rfl rfl rfl rfl rfl rfl rfl rfl
open PySem PySem.W PyProof.Rows
end
namespace PySem.W.Fast
def tw1608387694160577925:=0
def tw3094701115853657799:=0
def tw6614241166201545441:=0
def tw3253593621992691309:=0
def tw1647960591809683682:=0
def tw14323754321771104433:=0
def tw6728009786461809732:=0
def tw18129752965760186997:=0
def tw10326911199188441974:=0
def tw805765646861919253:=0
def tw5030944203280556702:=0
def tw16495072911740989982:=0
def tw5426448371682200115:=0
def tw11100633469942669851:=0
def tw16550838102048051623:=0
def tw4080389158768413472:=0
def tw16970792351503237766:=0
def tw274189353798237994:=0
def tw9534480194137199313:=0
def tw18329075359065952542:=0
def tw10667965978278278033:=0
def tw11654023200298843171:=0
def tw17619882183920601743:=0
def tw3841089074956331400:=0
def tw11172661200442123605:=0
def tw4842887358765978389:=0
def tw3103751414666246812:=0
def tw4185518321428705831:=0
def tw7910172739516966087:=0
def tw6873971014812347169:=0
def tw6784790241324674965:=0
def tw1354003750591732747:=0
def tw10794963570569440886:=0
def tw517312751163448032:=0
def tw12487779173672901959:=0
def tw11763852733077360975:=0
def tw4509064831359569159:=0
def tw9685044298169568939:=0
def tw6606014719576569030:=0
def tw16317983856663788926:=0
def tw12068798485007620914:=0
def tw4188684199736651882:=0
def tw17849293660312457548:=0
def tw17312996333117680517:=0
def tw1322031339247656150:=0
def tw13436231055378572716:=0
def tw14064692534454641163:=0
def tw729466047920990731:=0
def tw11930311979851757478:=0
def tw4153491320931672185:=0
def tw16607927582987124570:=0
def tw9840342860782594374:=0
def tw8646929664414959583:=0
def tw17093224777342109595:=0
def tw4584130408075211490:=0
def tw11300376045408061371:=0
def tw10209164474934016114:=0
def tw9192171586001469603:=0
def tw12434779806091606683:=0
def tw17108046237660401759:=0
def tw15078095837771203109:=0
def tw17802128708061929859:=0
def tw8426798971799828003:=0
def tw644751248652905101:=0
def tw9497945907656264259:=0
def tw1998032249293215463:=0
def tw316514102143019080:=0
def tw7158441374720773216:=0
def tw4033379813872489195:=0
def tw1147522009701800784:=0
def tw12079628635447562283:=0
def tw15679247252792206210:=0
def tw10426125643436316091:=0
def tw16655083059833703075:=0
def tw8553059368797141306:=0
def tw4211700434839312001:=0
def tw2648174423076098445:=0
def tw6737687440995333003:=0
def tw12941643214049860704:=0
def tw13056512690104125533:=0
def tw11630328935867623959:=0
def tw8605165415444627158:=0
def tw17882641709403210578:=0
def tw15886500619415505586:=0
def tw5613845454599061817:=0
def tw133755455108545178:=0
def tw7805864855692585105:=0
def tw17857563459279650048:=0
def tw15431134087688302020:=0
def tw9774394379856643515:=0
def tw7340446101256811000:=0
def tw16932301668260661676:=0
def tw3822784309164373692:=0
def tw10354477200866600673:=0
def tw4491058772748593153:=0
def tw8160871880118814707:=0
def tw15210816241431372910:=0
def tw15515405784836723652:=0
def tw3764688243253525356:=0
def tw17427895641331663283:=0
def tw16968176118458789586:=0
def tw7945405709010385892:=0
def tw2680141511932349947:=0
def tw4843473975253519250:=0
def tw3664731896753646195:=0
def tw6315216371427503177:=0
def tw5388663596951873645:=0
def tw10700183255674453818:=0
def tw14613296582639449008:=0
def tw16469568281967520401:=0
def tw12067549021546063074:=0
def tw3992908553847606798:=0
def tw4227517698962585424:=0
def tw14279065940840616024:=0
def tw5738919822854818926:=0
def tw13517250619966689955:=0
def tw7717702957765121957:=0
def tw17996964024917085871:=0
def tw11347631108264317165:=0
def tw17601101962401091345:=0
def tw10199354318988768051:=0
def tw18167724695441219349:=0
def tw8697654515486363317:=0
def tw6788773261714906821:=0
def tw5260856337621036202:=0
def tw7618804249908900691:=0
def tw14439765378166140033:=0
def tw13218621648322568166:=0
def tw17084317755948004794:=0
def tw10335527622381539264:=0
def tw4954584648838934644:=0
def tw13887902116395311400:=0
def tw11320351676317602388:=0
def tw11712190458185945011:=0
def tw5609530884314319229:=0
def tw16286715671046524454:=0
def tw10393078302967963895:=0
def tw17878424488110687958:=0
def tw13350131943787299761:=0
def tw17704188385166749297:=0
def tw18182889222666715495:=0
def tw14869557710840242666:=0
def tw13508602156133886167:=0
def tw8839083969933755074:=0
def tw8621301723031713458:=0
def tw2385268686561707046:=0
def tw8174591469460913490:=0
def tw6728313399510405491:=0
def tw6662249597110656733:=0
def tw11970942820725077907:=0
def tw10131873952172028942:=0
def tw16149030986926176842:=0
def tw5835942142707902020:=0
def tw14566440943485919492:=0
def tw7395645310213146516:=0
def tw1267704075650749254:=0
def tw10042499479572932358:=0
def tw9161490523856799436:=0
def tw6252695792229605141:=0
def tw10299302589577801163:=0
def tw15755044616229629136:=0
def tw15508019666092448443:=0
def tw2927799364441409784:=0
def tw1176975735165151067:=0
def tw7343611390307366373:=0
def tw4799189423077775474:=0
def tw8933567498414919238:=0
def tw4968929673044707356:=0
def tw10390157646234782899:=0
def tw7090585071989052306:=0
def tw1948689806639624469:=0
def tw16463793508043411602:=0
def tw13698048360955963301:=0
def tw6585068141940680455:=0
def tw13402640891724300857:=0
def tw10134030333460990790:=0
def tw2257529940240947247:=0
def tw6397798872860733234:=0
def tw14712817762504950641:=0
def tw4419873286371483742:=0
def tw4211952112222678748:=0
def tw11622863634709415212:=0
def tw3092117133297227249:=0
def tw234749781942434899:=0
def tw4475145619620083286:=0
def tw17837415989878807268:=0
def tw17721039672839981703:=0
def tw15137687247720179910:=0
def tw12048056826642495367:=0
def tw9515242367644423802:=0
def tw12300527617525357084:=0
def tw14191745827877185554:=0
def tw11786325122171474085:=0
def tw8789256864460932259:=0
def tw726985913927333873:=0
def tw16002967266952078866:=0
def tw2456577590951144490:=0
def tw16749348522385944071:=0
def tw8903238766108814736:=0
def tw569269584081339442:=0
def tw4026151001005817321:=0
def tw804092199982636349:=0
def tw9715166753854553471:=0
def tw7470021291188754609:=0
def tw5425125011635884837:=0
def tw15854262060937163188:=0
def tw9156678896304099913:=0
def tw7875376050956498882:=0
def tw14501001857826371202:=0
def tw16950569574821323974:=0
def tw15622835117965313283:=0
def tw9897558803702562313:=0
def tw9761588102954696855:=0
def tw9508736203920968164:=0
def tw8667492640987031791:=0
def tw7097827964152542560:=0
def tw7076977106511060911:=0
def tw6771182271545134960:=0
def tw6760056911573607715:=0
def tw6205024481829086969:=0
def tw5713610079918043996:=0
def tw5661640270340304354:=0
def tw539595736760451978:=0
def tw4589182232624314844:=0
def tw4179031660912777645:=0
def tw4038909232737020655:=0
def tw3373145609055282853:=0
def tw3302770140995672700:=0
def tw3083371992184736890:=0
def tw2484844197603217540:=0
def tw1877378965866140348:=0
def tw18431155831084640082:=0
def tw1820406046763328738:=0
def tw17969941481158815411:=0
def tw17456480263006714056:=0
def tw17338234738716814015:=0
def tw17334881123488906936:=0
def tw1611551182742943237:=0
def tw15724745641170818534:=0
def tw15545184769064153574:=0
def tw15261137711255440680:=0
def tw15069716523494295500:=0
def tw14734032772098568817:=0
def tw14323227155912201964:=0
def tw14112606434462084385:=0
def tw13792483299354683862:=0
def tw13323373534744806615:=0
def tw12523711969749109062:=0
def tw11843833423457600547:=0
def tw11586196018267737339:=0
def tw112567504061534027:=0
def tw11118301316682269745:=0
def tw11002848052431835627:=0
def tw10780761586765376359:=0
def tw10746989603658154836:=0
def tw10497823618577955822:=0
def tw10155365746132046468:=0
def tw10069975712529536831:=0
def tw13840814423707232359:=0
def tw7328447075739424539:=0
def tw11849525312028181438:=0
def tw2656649276434265685:=0
def tw16915470645016011554:=0
def tw6623812351622530092:=0
def tw5310652868755799522:=0
def tw4425046354534653865:=0
def tw17506340944394455765:=0
def tw17094580856887593759:=0
def tw14650769484350525481:=0
def tw1391549112126926301:=0
def tw13055661147411815287:=0
def tw12661032092557703082:=0
def tw10752687858943698738:=0
def tw16504757533647375273:=0
def tw8436589768386056944:=0
def tw10097012582147076362:=0
def tw5036445103931068615:=0
def tw8454840944936950519:=0
def tw13478877428745155630:=0
def tw4177351759533223642:=0
def tw9585978970863474492:=0
def tw8078195926588453703:=0
def tw7942853410682446962:=0
def tw6834397320308548248:=0
def tw5674458297940323589:=0
def tw16118103595353321548:=0
def tw15632992782082381434:=0
def tw14722794537435163219:=0
def tw10693841506766600124:=0
def tw10015450608781386451:=0
def tw3942624392001961204:=0
def tw16925118299729312639:=0
def tw14949513074056673275:=0
def tw7524379617451308511:=0
def tw4621932581444047675:=0
def tw16172578528114110199:=0
def tw9455475090630465045:=0
def tw18277388166739348960:=0
def tw14805814515597417852:=0
def tw15221209806709932071:=0
def tw5312734613080425828:=0
def tw3101917741504857134:=0
def tw12533650973541477374:=0
def tw9835382159548102362:=0
def tw9563574807059059695:=0
def tw897888412878121761:=0
def tw8621336744817483243:=0
def tw8526028360262338249:=0
def tw8369868683130302868:=0
def tw8237626310708396552:=0
def tw8164005668110941744:=0
def tw8131721106225051767:=0
def tw802917404587063742:=0
def tw7894344252036594922:=0
def tw7586693836618795562:=0
def tw7523194637212750777:=0
def tw742405457713269000:=0
def tw7388713464098733815:=0
def tw7363425622247834253:=0
def tw7317576523658780031:=0
def tw6951939212644042833:=0
def tw69414778264802052:=0
def tw6905212232875527693:=0
def tw671769174312181376:=0
def tw670427922429333600:=0
def tw6664951462986138201:=0
def tw5916140570258018564:=0
def tw5845538515087863352:=0
def tw5681066748535004433:=0
def tw5623994078177797194:=0
def tw5552461122284547459:=0
def tw5488966160659634681:=0
def tw5485572742587201778:=0
def tw5427499738942290107:=0
def tw5353813085845620550:=0
def tw5266450434754204200:=0
def tw5015507407206683207:=0
def tw5011889884212318148:=0
def tw4636031889025220839:=0
def tw4626940704210403192:=0
def tw4340971767527515617:=0
def tw4157206338815638501:=0
def tw3934833063311361131:=0
def tw3904583755211930517:=0
def tw3857615796733700780:=0
def tw3482820431698744051:=0
def tw3345597093286824917:=0
def tw317932667124481529:=0
def tw3121739546393284973:=0
def tw306725001281121169:=0
def tw305048472116853797:=0
def tw2962324470309885386:=0
def tw2947586027576077979:=0
def tw2852278927748849453:=0
def tw2766794811542550618:=0
def tw2335157872551914648:=0
def tw2202087279664922802:=0
def tw1833547357909804662:=0
def tw18042889414512086050:=0
def tw18012574323051992567:=0
def tw17960848765466677729:=0
def tw17925384258215065573:=0
def tw17698735102306075112:=0
def tw17590088832654516399:=0
def tw17513604867990543079:=0
def tw17004574920194074796:=0
def tw16803143847538834185:=0
def tw16745343075639119971:=0
def tw16396790404030501481:=0
def tw16266442582153907279:=0
def tw1620389302784492585:=0
def tw16131593051203169754:=0
def tw15862806813707239167:=0
def tw1567247161763788871:=0
def tw15536387163757344236:=0
def tw1541540961381408409:=0
def tw15155859288707382567:=0
def tw14864845329073380503:=0
def tw14788362278542820120:=0
def tw14731147920152588799:=0
def tw14398365135244066966:=0
def tw14199714164133228370:=0
def tw13989995598129119793:=0
def tw13952158723898717365:=0
def tw13949155002146243131:=0
def tw1385777081429181588:=0
def tw13829591483307370896:=0
def tw1349388230604553621:=0
def tw13231743877010270464:=0
def tw12694589447371642155:=0
def tw12532165626772418067:=0
def tw12514039047250868702:=0
def tw12319047049370110589:=0
def tw12184380411685104690:=0
def tw12018387782679925087:=0
def tw11990459337992974956:=0
def tw11887224372650548316:=0
def tw11732214188671553305:=0
def tw11519117686961666697:=0
def tw11289143093466461953:=0
end PySem.W.Fast
open_top head for PySem.Challenge.rw_glyphhall_k07_halls_apart
theorem PySem.Challenge.cw_glyphhall_k07_halls_apart_holds : PySem.Challenge.rw_glyphhall_k07_halls_apart.Holds :=
 head (by
 refine K07.b7V (l:=PySem.Challenge.rw_glyphhall_k07_halls_apart) (n:=63) (k:=46) (x:="_law_script") (CX:=fun _=>L2.CX0) (sp:=K07.spK) rfl (by decide) rfl ⟨rfl,by decide,by decide⟩ (fun w h Y=>PySem.W.kIn_of Y) ?F ?S ?C
 case F=>
  intro w mg fa h KX G hmg;have T:∃cA,K07.DfE (L2.KOf KX) "law" (K07.top 87)/\∀{h:Heap} {mg:Str->Option Value},(L2.KOf KX).In h->h.Ns mainGlobals mg->EV.Stat PySem.Challenge.rw_glyphhall_k07_halls_apart.prog w ⟨L2.KOf KX,cA,[6],[]⟩ K07.G K07.ct K07.F mg:=by
   dsimp only[L2.KOf]
   clear hmg;refine' K07.b2B ?a0 ?a1 ?a2 ?a3 ?a4 ?a5 ?a6 ?a7 ?a8 ?a9 ?a10 ?a11 ?a12 ?a13 ?a14 ?a15 ?a16 ?a17 ?a18 ?a19 ?a20 ?a21 ?a22 ?a23 ?a24 ?a25 ?a26 ?a27 ?a28 ?a29 ?a30 ?a31 ?a32 ?a33 ?a34 ?a35 ?a36 ?a37 ?a38 ?a39 ?a40 ?a41 ?a42
   (case a0|a22|a23|a24|a25|a26|a27|a28|a29|a30|a31|a32|a33|a34|a35|a36|a37|a38|a39|a40|a41|a42=>k_is)
   (case a1=>(repeat (refine' K07.ds1 ?f _;(case f=>refine' K07.b9u ?x ?y ?z ?u;(case x=>k_is);(case y=>k_is);(case z=>k_is);(case u=>k_is))));exact True.intro)
   (case a2|a3|a4=>refine' K07.b5m ?e1;(case e1=>k_is))
   (case a5|a6|a7|a8|a9|a10|a11|a12|a13|a14|a15=>refine' K07.b6K ?e1;(case e1=>k_is))
   (case a16|a17=>refine' K07.b2o ?e1 ?e2;(case e1=>k_is);(case e2=>k_is))
   (case a18=>refine' K07.b2n ?e1 ?e2;(case e1=>k_is);(case e2=>k_is))
   (case a19=>refine' K07.b4k ?e1 ?e2 ?e3 ?e4 ?e5 ?e6 ?e7 ?e8;(case e1=>k_is);(case e2=>k_is);(case e3=>decide);(case e4=>rfl);(case e5=>rfl);(case e6=>rfl);(case e7=>rfl);(case e8=>decide))
   (case a20=>refine' K07.b3N ?m1 ?m2 ?m3 ?m4 ?e2 ?e3 ?e4;(case m1=>k_is);(case m2=>k_is);(case m3=>k_is);(case m4=>k_is);(case e2=>k_is);(case e3=>k_is);(case e4=>k_is))
   (case a21=>refine' ⟨⟨?p1,?p2,?p3,?p4⟩,?q1,?q2,?q3,?q4,?q5⟩;(case p1=>k_is);(case p2=>k_is);(case p3=>k_is);(case p4=>k_is);(case q1=>k_is);(case q2=>k_is);(case q3=>k_is);(case q4=>k_is);(case q5=>exact if_pos (beq_self_eq_true _)))
  obtain⟨cA,D,T⟩:=T;obtain⟨fd,h1,h2⟩:=K07.b6R D (T KX G) KX G hmg;exact⟨fd,h1,fun base _ _=>h2 base⟩
 case S=>
  intro w H a ns hl hO hS;refine K07.b6v a7b ?nl hl hO hS
  (case nl=>kernel_rfl)
 case C=>exact fun w H s e s' z=>z)
