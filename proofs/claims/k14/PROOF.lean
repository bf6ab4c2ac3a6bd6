import PyProof.Rows.All
import Wide.All
import OpenK.AllK
import Wide.FinOn
import PyProof.EqAt
import PyProof.EqKinds
import PyProof.TupleCall
import PyProof.ExcInit
import PyProof.ExcClass3
import PyProof.ExcArgsOwn
import PyProof.StationsW
import PyProof.InstStoreFacts
import PyProof.InstLoad
import PyProof.ExcBaseAll.ValueError
import PyProof.RulesAs
import OpenK.KOwn
import PyProof.NsDelKeeps
import PyProof.CompUse
import PyProof.NeKinds
import PyProof.StrOps2
import KE.KDictOf
import PyProof.AttrMissHeap
import PyProof.ListRange
import PyProof.TupleOfGen
import PyProof.CollectStr
import KE.KRevIter
import PyProof.DictItems
import PyProof.AutoListH
import KE.KPairComp
import PyProof.StrLawsTight
import PyProof.StrLawsChain
import PyProof.StrLawsIn
import PyProof.StrLawsIdx
import PyProof.Rows.CatFin
import PyProof.Rows.StrItems
import KE.IntTextLaws
import PyProof.Rows.ReprOcc
import PyProof.FitsInt
import KE.KIntText
import Lean
import PySem.Challenge.RW_glyphhall_k14_rows_that_are_none
set_option Elab.async false
set_option linter.all false
set_option maxRecDepth 100000
set_option maxHeartbeats 0
def aa:=@List.length_map
def ac:=@List.getElem?_eq_some_iff
def ae:=@Bool.and_eq_true
def af:=@List.getElem?_eq_getElem
def ai:=@Nat.le_refl
def aj:=@List.getElem?_map
def ak:=@List.mem_map
def ao:=@List.map_append
def aq:=@List.length_append
def au:=@List.getElem?_append_right
def av:=@List.getElem?_append_left
def aw:=@of_decide_eq_true
def ax:=@Option.some.inj
def ay:=@if_pos
def az:=@if_neg
def aA:=@List.append_assoc
def aB:=@Nat.zero_add
def aC:=@Nat.lt_of_lt_of_le
def aE:=@List.mem_cons_of_mem
def aH:=@List.mem_cons
def aI:=@List.mem_of_getElem?
def aK:=@List.map_map
def aM:=@List.length_range
def aN:=@List.getElem?_range
def aO:=@List.mem_append
def aQ:=@List.length_take
def aU:=@List.length_set
def aV:=@List.mem_range
def aW:=@List.mem_singleton
def aX:=@Nat.lt_irrefl
def aY:=@Nat.le_trans
def aZ:=@Nat.le_of_lt
def ba:=@Nat.lt_succ_self
def bc:=@Nat.le_of_not_lt
def bf:=@List.nodup_cons
def bg:=@List.getElem?_eq_none
def bh:=@List.map_congr_left
def bj:=@List.mem_cons_self
def bn:=@List.append_nil
def bo:=@List.getElem?_of_mem
def bp:=@decide_eq_true
def bq:=@Nat.min_eq_left
def br:=@List.take_of_length_le
def bt:=@List.mem_filter
def bu:=@List.length_replicate
def bv:=@List.all_eq_true
def bw:=@List.any_eq_true
def bx:=@Bool.false_ne_true
def bz:=@List.getElem_mem
def bA:=@List.length_filter_le
def bB:=@List.mem_filterMap
def bC:=@List.getD_eq_getElem?_getD
def bD:=@decide_eq_true_eq
def bE:=@decide_eq_false
def bF:=@List.length_drop
def bG:=@List.getElem?_take_of_lt
def bH:=@List.getElem?_replicate
open List (getElem_inj mem_append_right size_toArray length_cons map_cons of_mem_zip all_cons any_cons replicate_succ flatten_cons foldl_cons nil_append length_nil map_nil lookup_cons forIn_cons all_map contains_cons not_mem_nil drop_zero forIn_nil ext_getElem? nodup_nil isEmpty_iff length_eq_zero_iff drop_length cons_ne_nil map_id filter_map all_nil drop_succ_cons getElem_drop getElem_reverse getElem_take map_drop map_id' take_append_drop take_length map_take)
noncomputable section
set_option compiler.extract_closed false
namespace L2
open PySem PySem.Spec PyProof.Rows
abbrev Key:=Sum Int Str
noncomputable def a2a:Key->Value->Bool
 |.inl k,v=>Value.isInt k v
 |.inr x,v=>Value.isStrOf x v
noncomputable def b8Y(w:World):Key->Int
 |.inl k=>hashInt k
 |.inr x=>hashStr w x
theorem z7:∀{k:Key} {v:Value},a2a k v=true->(∃i t,k=Sum.inl i/\v=Value.int i t)∨(∃x t,k=Sum.inr x/\v=Value.str x t)
 |.inl i,v,h=>by
  obtain⟨t,e⟩:=Value.isInt_shape (k:=i) (v:=v) h;exact .inl ⟨i,t,rfl,e⟩
 |.inr x,v,h=>by
  obtain⟨t,e⟩:=Value.isStrOf_shape (x:=x) (v:=v) h;exact .inr ⟨x,t,rfl,e⟩
theorem a7L(i:Int)(t:Tok):a2a (.inl i) (.int i t)=true:=by simp[a2a,Value.isInt]
theorem a7K(x:Str)(t:Tok):a2a (.inr x) (.str x t)=true:=by simp[a2a,Value.isStrOf]
theorem b4J(a b:Int):decide ((Sum.inl a:Key)=Sum.inl b)=(a==b):=by
 by_cases e:a=b
 · subst e;simp
 · have h:¬(Sum.inl a:Key)=Sum.inl b:=fun q=>e (Sum.inl.inj q)
   rw[bE h];exact(beq_eq_false_iff_ne.mpr e).symm
theorem b4G(a b:Str):decide ((Sum.inr a:Key)=Sum.inr b)=decide (a=b):=by
 by_cases e:a=b
 · subst e;simp
 · have h:¬(Sum.inr a:Key)=Sum.inr b:=fun q=>e (Sum.inr.inj q)
   rw[bE h,bE e]
theorem b4I(a:Int)(b:Str):decide ((Sum.inl a:Key)=Sum.inr b)=false:=bE (fun q=>nomatch q)
theorem b4H(a:Str)(b:Int):decide ((Sum.inr a:Key)=Sum.inl b)=false:=bE (fun q=>nomatch q)
def o9 (prog:Program) (w:World):PySem.KeyKind prog w Key where
 is:=a2a
 hash:=b8Y w
 inj:=fun v a b ha hb=>by
  rcases z7 ha with⟨i,t,rfl,rfl⟩|⟨x,t,rfl,rfl⟩
  · rcases z7 hb with⟨j,u,rfl,e⟩|⟨y,u,rfl,e⟩
    · injection e with e1 _;rw[e1]
    · exact nomatch e
  · rcases z7 hb with⟨j,u,rfl,e⟩|⟨y,u,rfl,e⟩
    · exact nomatch e
    · injection e with e1 _;rw[e1]
 byValue:=fun k v h=>by
  rcases z7 h with⟨i,t,rfl,rfl⟩|⟨x,t,rfl,rfl⟩<;>rfl
 pyHash:=fun hv h=>by
  rcases z7 hv with⟨i,t,rfl,rfl⟩|⟨x,t,rfl,rfl⟩
  · exact wpAny_pyHash_int h
  · exact wpAny_pyHash_str h
 eqBool:=fun hu hv h=>by
  rcases z7 hu with⟨i,t,rfl,rfl⟩|⟨x,t,rfl,rfl⟩
  · rcases z7 hv with⟨j,u,rfl,rfl⟩|⟨y,u,rfl,rfl⟩
    · rw[b4J] at h;exact wpAny_eqBool_int h
    · rw[b4I] at h;exact SeqAt.EqAt.int_str i t y u _ _ _ _ h
  · rcases z7 hv with⟨j,u,rfl,rfl⟩|⟨y,u,rfl,rfl⟩
    · rw[b4H] at h;exact SeqAt.EqAt.str_int x t j u _ _ _ _ h
    · rw[b4G] at h;exact wpAny_eqBool_str h
 «strs»:=fun k x t v h=>by
  rcases z7 h with⟨i,u,rfl,e⟩|⟨y,u,rfl,e⟩
  · exact nomatch e
  · injection e with e1 _
    subst e1
    cases v<;>rfl
theorem a4N(prog:Program)(w:World)(i:Int)(t:Tok):(o9 prog w).is (.inl i) (.int i t)=true:=a7L i t
theorem a4M(prog:Program)(w:World)(x:Str)(t:Tok):(o9 prog w).is (.inr x) (.str x t)=true:=a7K x t
inductive V where
 |non|bl (b:Bool)|int (i:Int)|str (x:Str)|byt (b:Array UInt8)|flt (b:UInt64)|ref (a:Addr)|ty (n:String)
 deriving DecidableEq
def l8:V->Value->Prop
 |.non,u=>u=Value.none
 |.bl b,u=>u=Value.bool b
 |.int i,u=>∃t,u=Value.int i t
 |.str x,u=>∃t,u=Value.str x t
 |.byt b,u=>∃t,u=Value.bytes b t
 |.flt b,u=>∃t,u=Value.float b t
 |.ref a,u=>u=Value.ref a
 |.ty n,u=>u=Value.type n
abbrev l7:List V->List Value->Prop:=Paired l8
variable{us:List Value}
theorem l7.length{xs:List V}(r:l7 xs us):xs.length=us.length:=Paired.length r
theorem l7.get:∀{xs:List V} {us:List Value} {i:Nat} {x:V},l7 xs us->xs[i]? =some x->∃u,us[i]? =some u/\l8 x u
 |_,_,_,_,.nil,e=>by simp at e
 |_,_,0,_,.cons r _,e=>by simp at e;subst e;exact⟨_,rfl,r⟩
 |_,_,i+1,x,.cons _ t,e=>by
  obtain⟨u,h1,h2⟩:=l7.get (i:=i) (x:=x) t (by simpa using e)
  exact⟨u,by simpa using h1,h2⟩
theorem l7.set{x:V}{u:Value}(r:l8 x u):∀{xs:List V} {us:List Value} (i:Nat),l7 xs us->l7 (xs.set i x) (us.set i u)
 |_,_,_,.nil=>.nil
 |_,_,0,.cons _ t=>.cons r t
 |_,_,i+1,.cons q t=>.cons q (l7.set r i t)
theorem l7.append:∀{xs ys:List V} {us ws:List Value},l7 xs us->l7 ys ws->l7 (xs++ys) (us++ws)
 |_,_,_,_,.nil,s=>s
 |_,_,_,_,.cons r t,s=>.cons r (l7.append t s)
theorem l7.take:∀{xs:List V} {us:List Value} (n:Nat),l7 xs us->l7 (xs.take n) (us.take n)
 |_,_,0,_=>.nil
 |_,_,_+1,.nil=>.nil
 |_,_,n+1,.cons r t=>.cons r (l7.take n t)
theorem l7.drop:∀{xs:List V} {us:List Value} (n:Nat),l7 xs us->l7 (xs.drop n) (us.drop n)
 |_,_,0,r=>r
 |_,_,_+1,.nil=>.nil
 |_,_,n+1,.cons _ t=>l7.drop n t
def a0C:Option V->Option Value->Prop
 |some v,some u=>l8 v u
 |none,none=>True
 |_,_=>False
def KV{κ:Type}:List (κ×V)->List (κ×Value)->Prop:=Paired fun(p:κ×V) (q:κ×Value)=>p.1=q.1/\l8 p.2 q.2
noncomputable def kV:Key->V
 |.inl i=>.int i
 |.inr x=>.str x
inductive HO where
 /-- a list -/
 |lst (xs:List V)
 /-- a tuple (never changes) -/
 |tup (xs:List V)
 /-- a dict whose keys are ints and texts; one whose keys are tuples of ints and texts (the empty one is both) -/
 |dK (kvs:List (Key×V))|dT (kvs:List (List Key×V))
 /-- a set of ints: its members, its size -/
 |set (S:Int->Bool) (n:Nat)
 /-- an instance of the class at C, its dict at dx, its attributes -/
 |ins (C dx:Addr) (fs:List (Str×V))
 /-- the dict of the instance at x -/
 |own (x:Addr)
 /-- the dict of an exception -/
 |xd (fs:List (Str×V))
 /-- a bound method, f of x -/
 |met (f x:Addr)
 /-- a range object lo, lo + 1, .. below hi -/
 |rng (lo hi:Int)
 /-- a thing that is known to the object (the script; a dict while a loop walks it): read, never written while it is so -/
 |frz (o:Obj) (u:HO)
 /-- a code object's table -/
 |tbl (ps:Array Value)
 /-- any other thing, by what is true of its one object (a def of one's own: SetO a S n := HO.ext fun h => ..) -/
 |ext (φ:Heap->Prop)
abbrev Hp:=Addr->Option HO
noncomputable def upd(H:Hp)(a:Addr)(o:HO):Hp:=fun b=>if b=a then some o else H b
variable{H:Hp}{a:Addr}{o:HO}
theorem d8:upd H a o a=some o:=by unfold upd;rw[ay rfl]
variable{b:Addr}
theorem d9(h:b≠a):upd H a o b=H b:=by unfold upd;rw[az h]
theorem b7a{u:HO}(h:H a=some o)(h':H b=some u)(d:o≠u):a≠b:=by
 intro e;subst e;rw[h] at h';exact d (ax h')
theorem n5(h:H a=some o)(h':H b=none):a≠b:=by
 intro e;subst e;rw[h] at h';cases h'
def a0V(h:Heap)(a:Addr)(items:Array Value):Prop:=∃o,h.get? a=some o/\o.cls=.type "tuple"/\o.dict=none/\∃n,o.data=.seq items n
theorem a0V.tup{h:Heap}{a:Addr}{items:Array Value}(x:a0V h a items):IsTup h a items:=let⟨o,e,c,_,n⟩:=x;⟨o,e,c,n⟩
theorem a0V.new(h:Heap)(items:Array Value):a0V (h.push {cls:=.type "tuple",data:=.seq items}) h.objs.size items:=⟨_,Heap.get?_push_size _ rfl,rfl,rfl,_,rfl⟩
section
variable(P:Program)(w:World)
def x5(H:Hp)(h:Heap)(a:Addr):HO->Prop
 |.lst xs=>xs.length<=sizeLine/\∃(its:List Value) (n:Nat),l7 xs its/\h.get? a=some {cls:=.type "list",data:=.seq its.toArray n}
 |.tup xs=>xs.length<=sizeLine/\∃its:List Value,l7 xs its/\a0V h a its.toArray
 |.dK kvs=>kvs.length<=sizeLine/\(a==sysModules)=false/\∃vs,KV kvs vs/\h.DictOf (o9 P w) a vs
 |.dT kvs=>kvs.length<=sizeLine/\(a==sysModules)=false/\∃xs:List (List Key×Addr×Value),
  Paired (fun(p:List Key×V) (q:List Key×Addr×Value)=>p.1=q.1/\H q.2.1=some (.tup (p.1.map kV))/\l8 p.2 q.2.2) kvs xs∧
  ∃o es ep,h.get? a=some o/\o.ExactDict/\o.data=.dict es ep/\es.toList=xs.map (entryOfKey (tupleKind (o9 P w)))/\(xs.map (·.1)).Nodup
 |.set S n=>h.SetOf (intKind P w) a S n
 |.ins C dx fs=>H dx=some (.own a)/\fs.length<=1000/\dx≠a/\h.get? a=some (PySem.W.instObj C dx)∧
  ∃mA,h.Ns1 dx mA/\(∀f,a0C (fs.lookup f) (mA f))/\PySem.Within mA (fs.map (·.1))
 |.own _=>∃o,h.get? a=some o
 |.xd fs=>∃mA,h.Ns1 a mA/\∀f,a0C (fs.lookup f) (mA f)
 |.rng lo hi=>∃t u v,h.get? a=some {cls:=.type "range",data:=.fields #[.int lo t,.int hi u,.int 1 v]}
 |.frz o u=>h.get? a=some o/\x5 H h a u
 |.tbl ps=>h.get? a=some {cls:=.none,data:=.fields ps}
 |.met f x=>h.get? a=some (PySem.W.methodObj (.ref f) (.ref x))
 |.ext φ=>φ h/\(∃o,h.get? a=some o)/\∀h1 h2:Heap,φ h1->(∀o,h1.get? a=some o->h2.get? a=some o)->φ h2
def HOk(H:Hp)(h:Heap):Prop:=∀a o,H a=some o->x5 P w H h a o
end
variable{α:Type}
section
variable{P:Program}{w:World}{H':Hp}{h h':Heap}
theorem x5.lt(x:x5 P w H h a o):a<h.objs.size:=by
 cases o with
 |lst xs=>obtain⟨_,_,_,_,e⟩:=x;exact Heap.lt_size e
 |tup xs=>obtain⟨_,_,_,p⟩:=x;exact p.tup.lt
 |dK kvs=>obtain⟨_,_,_,_,o,_,_,e,_⟩:=x;exact Heap.lt_size e
 |dT kvs=>obtain⟨_,_,_,_,o,_,_,e,_⟩:=x;exact Heap.lt_size e
 |set S n=>obtain⟨o,_,_,_,e,_⟩:=x;exact Heap.lt_size e
 |ins C dx fs=>obtain⟨_,_,_,e,_⟩:=x;exact Heap.lt_size e
 |own y=>obtain⟨_,e⟩:=x;exact Heap.lt_size e
 |xd fs=>obtain⟨_,⟨_,_,_,e,_⟩,_⟩:=x;exact Heap.lt_size e
 |rng lo hi=>obtain⟨_,_,_,e⟩:=x;exact Heap.lt_size e
 |frz ob u=>obtain⟨e,_⟩:=x;exact Heap.lt_size e
 |tbl ps=>exact Heap.lt_size (show h.get? a=some _ from x)
 |met f y=>exact Heap.lt_size (show h.get? a=some _ from x)
 |ext φ=>obtain⟨_,⟨_,e⟩,_⟩:=x;exact Heap.lt_size e
theorem Paired.mapP{α β:Type}{F G:α->β->Prop}:∀{l₁:List α} {l₂:List β},Paired F l₁ l₂->(∀a b,F a b->G a b)->Paired G l₁ l₂
 |_,_,.nil,_=>.nil
 |_,_,.cons r t,f=>.cons (f _ _ r) (Paired.mapP t f)
theorem x5.stay(x:x5 P w H h a o)(k:∀b u,(b=a∨H b=some (.own a))->h.get? b=some u->h'.get? b=some u)
 (ho:∀b,H b=some (.own a)->H' b=some (.own a)) (ht:∀b xs,H b=some (.tup xs)->H' b=some (.tup xs)):x5 P w H' h' a o:=by
 induction o with
 |lst xs=>obtain⟨z,its,n,r,e⟩:=x;exact⟨z,its,n,r,k _ _ (.inl rfl) e⟩
 |tup xs=>obtain⟨z,its,r,ob,e,c⟩:=x;exact⟨z,its,r,ob,k _ _ (.inl rfl) e,c⟩
 |dK kvs=>obtain⟨z,y,vs,r,ob,es,ep,e,c⟩:=x;exact⟨z,y,vs,r,ob,es,ep,k _ _ (.inl rfl) e,c⟩
 |dT kvs=>
  obtain⟨z,y,xs,r,ob,es,ep,e,c⟩:=x;exact⟨z,y,xs,Paired.mapP r fun p q z=>⟨z.1,ht _ _ z.2.1,z.2.2⟩,ob,es,ep,k _ _ (.inl rfl) e,c⟩
 |set S n=>obtain⟨ob,es,ep,t,e,c⟩:=x;exact⟨ob,es,ep,t,k _ _ (.inl rfl) e,c⟩
 |ins C dx fs=>
  obtain⟨d,z,ne,e,mA,⟨od,es,ep,e2,c⟩,r⟩:=x;exact⟨ho _ d,z,ne,k _ _ (.inl rfl) e,mA,⟨od,es,ep,k _ _ (.inr d) e2,c⟩,r⟩
 |own y=>obtain⟨ob,e⟩:=x;exact⟨ob,k _ _ (.inl rfl) e⟩
 |xd fs=>obtain⟨mA,⟨od,es,ep,e,c⟩,r⟩:=x;exact⟨mA,⟨od,es,ep,k _ _ (.inl rfl) e,c⟩,r⟩
 |rng lo hi=>obtain⟨t,u,v,e⟩:=x;exact⟨t,u,v,k _ _ (.inl rfl) e⟩
 |frz ob u ih=>obtain⟨e,q⟩:=x;exact⟨k _ _ (.inl rfl) e,ih q⟩
 |tbl ps=>
  have e:h.get? a=some {cls:=.none,data:=.fields ps}:=x
  show h'.get? a=some {cls:=.none,data:=.fields ps}
  exact k a _ (.inl rfl) e
 |met f y=>
  have e:h.get? a=some (PySem.W.methodObj (.ref f) (.ref y)):=x
  show h'.get? a=some (PySem.W.methodObj (.ref f) (.ref y))
  exact k a _ (.inl rfl) e
 |ext φ=>obtain⟨p,⟨o,e⟩,st⟩:=x;exact⟨st _ _ p fun o q=>k _ _ (.inl rfl) q,⟨o,k _ _ (.inl rfl) e⟩,st⟩
theorem HOk.lt(x:HOk P w H h)(e:H a=some o):a<h.objs.size:=(x a o e).lt
theorem HOk.fresh(x:HOk P w H h)(e:h.objs.size<=a):H a=none:=by
 cases q:H a with
 |none=>rfl
 |some u=>exact absurd (aC (x.lt q) e) (aX _)
theorem HOk.kept(x:HOk P w H h)(k:∀b u,h.get? b=some u->h'.get? b=some u):HOk P w H h':=fun a o e=>
 (x a o e).stay (fun b u _ q=>k b u q) (fun _ q=>q) fun _ _ q=>q
theorem HOk.laid(x:HOk P w H h)(k:∀b u,h.get? b=some u->h'.get? b=some u)(hp:h.objs.size<=a)(new:x5 P w (upd H a o) h' a o):HOk P w (upd H a o) h':=fun b u e=>by
 have hn:=x.fresh hp
 by_cases hb:b=a
 · subst hb;rw[d8] at e;cases e;exact new
 · rw[d9 hb] at e;exact(x b u e).stay (fun c v _ q=>k c v q) (fun c q=>by rw[d9 (n5 q hn)];exact q) fun c xs q=>by rw[d9 (n5 q hn)];exact q
end
def Rd(H:Hp)(a:Addr)(u:HO):Prop:=H a=some u∨∃o,H a=some (.frz o u)
variable{P:Program}{w:World}{h:Heap}
theorem Rd.ok{u:HO}(r:Rd H a u)(x:HOk P w H h):x5 P w H h a u:=by
 rcases r with r|⟨o,r⟩
 · exact x a u r
 · obtain⟨_,q⟩:=x a _ r;exact q
def Mut:Option HO->Prop
 |some (.lst _)=>True
 |some (.dK _)=>True
 |some (.dT _)=>True
 |some (.set _ _)=>True
 |some (.ins _ _ _)=>True
 |some (.ext _)=>True
 |_=>False
section
variable{h':Heap}{x e:Addr}{o':HO}
theorem HOk.write(ok:HOk P w H h)(mu:Mut (H x))(he:e=x∨H e=some (.own x))(k:∀b u,b≠e->h.get? b=some u->h'.get? b=some u)(heo:∃u,h'.get? e=some u)
 (new:x5 P w (upd H x o') h' x o'):HOk P w (upd H x o') h':=fun b u q=>by
 have nown:∀c y,H c=some (.own y)->c≠x:=fun c y r z=>by subst z;rw[r] at mu;exact mu
 have ntup:∀c xs,H c=some (.tup xs)->c≠x:=fun c xs r z=>by subst z;rw[r] at mu;exact mu
 by_cases hb:b=x
 · subst hb;rw[d8] at q;cases q;exact new
 · rw [d9 hb] at q
   by_cases hbe:b=e
   · have q':H b=some (.own x):=by
      rcases he with z|z
      · exact absurd (hbe.trans z) hb
      · rw[hbe];exact z
     rw[q] at q';cases q'
     obtain⟨v,hv⟩:=heo;exact⟨v,by rw[hbe];exact hv⟩
   · refine(ok b u q).stay (fun c v hc r=>k c v ?_ r) (fun c r=>by rw[d9 (nown c b r)];exact r) fun c xs r=>by rw[d9 (ntup c xs r)];exact r
     rcases hc with rfl|hc
     · exact hbe
     · rintro rfl
       rcases he with z|z
       · exact nown c b hc z
       · rw[hc] at z;cases z;exact hb rfl
end
structure Un(fs ex:List Addr)(H H':Hp)(h h':Heap):Prop where
 keep:∀b o,h.get? b=some o->H b=none->b∉fs->b∉ex->h'.get? b=some o
 slot:∀b o,h.get? b=some o->H b=none->b∈fs->b∉ex->∃sl,h'.get? b=some {o with slots:=sl}
 free:∀b o,h.get? b=some o->H b=none->b∉ex->H' b=none
 there:∀b o,h.get? b=some o->b∉ex->∃o',h'.get? b=some o'
 tups:∀b xs,H b=some (.tup xs)->H' b=some (.tup xs)
 frzs:∀b o u,H b=some (.frz o u)->H' b=some (.frz o u)
 tbls:∀b ps,H b=some (.tbl ps)->∃more,H' b=some (.tbl (ps++more))
section
variable{fs fs' ex ex':List Addr}{H1 H2:Hp}{h1 h2 h':Heap}{x e:Addr}
theorem Un.any(u:Un fs ex H H1 h h1){ob:Obj}(q:h.get? b=some ob)(n:H b=none)(hx:b∉ex):∃sl,h1.get? b=some {ob with slots:=sl}:=by
 by_cases hb:b∈fs
 · exact u.slot b ob q n hb hx
 · exact⟨ob.slots,u.keep b ob q n hb hx⟩
theorem Un.kept(k:∀b u,h.get? b=some u->h'.get? b=some u):Un fs ex H H h h':=
 ⟨fun b ob q _ _ _=>k b ob q,fun b ob q _ _ _=>⟨ob.slots,k b ob q⟩,fun _ _ _ n _=>n,fun b ob q _=>⟨ob,k b ob q⟩,fun _ _ q=>q,fun _ _ _ q=>q,fun _ ps q=>⟨#[],by rw[q];simp⟩⟩
theorem Un.refl:Un fs ex H H h h:=Un.kept fun _ _ q=>q
theorem Un.laid(k:∀b u,h.get? b=some u->h'.get? b=some u)(hp:h.objs.size<=a)(hn:H a=none):Un fs ex H (upd H a o) h h' where
 keep:=fun b u q _ _ _=>k b u q
 slot:=fun b u q _ _ _=>⟨u.slots,k b u q⟩
 free:=fun b u q n _=>by rw[d9 (Nat.ne_of_lt (aC (Heap.lt_size q) hp))];exact n
 there:=fun b u q _=>⟨u,k b u q⟩
 tups:=fun b xs q=>by rw[d9 (n5 q hn)];exact q
 frzs:=fun b u xs q=>by rw[d9 (n5 q hn)];exact q
 tbls:=fun b ps q=>⟨#[],by rw[d9 (n5 q hn),q];simp⟩
theorem Un.write(mu:Mut (H x))(he:e=x∨H e=some (.own x))(k:∀b u,b≠e->h.get? b=some u->h'.get? b=some u)(heo:∃u,h'.get? e=some u):Un fs ex H (upd H x o) h h':=by
 have hx:∀b,H b=none->b≠x:=fun b n z=>by subst z;rw[n] at mu;exact mu
 have hb:∀b,H b=none->b≠e:=fun b n z=>by
  subst z
  rcases he with r|r
  · exact hx b n r
  · rw[n] at r;cases r
 have hm:∀b u,H b=some u->¬Mut (some u)->b≠x:=fun b u q nm z=>by subst z;rw[q] at mu;exact nm mu
 refine⟨fun b u q n _ _=>k b u (hb b n) q,fun b u q n _ _=>⟨u.slots,k b u (hb b n) q⟩,fun b u q n _=>by rw[d9 (hx b n)];exact n,fun b u q _=>?_,
  fun b xs q=>by rw[d9 (hm b _ q fun z=>z)];exact q,fun b u xs q=>by rw[d9 (hm b _ q fun z=>z)];exact q,fun b ps q=>⟨#[],by rw[d9 (hm b _ q fun z=>z),q];simp⟩⟩
 by_cases hbe:b=e
 · subst hbe;exact heo
 · exact⟨u,k b u hbe q⟩
end
noncomputable def trk(h:Heap)(H:Hp):List Addr:=(List.range h.objs.size).filter fun a=>(H a).isSome
def a3W(h:Heap)(H:Hp):Heap:=PySem.W.hideAll h (trk h H)
theorem a7O(h:Heap)(H:Hp):(a3W h H).objs.size=h.objs.size:=PySem.W.hideAll_size _ _
theorem a9X{o:Obj}(e:h.get? b=some o)(n:H b=none):(a3W h H).get? b=some o:=
 PySem.W.hideAll_get _ e fun hm=>by
  have q:(H b).isSome=true:=(bt.mp hm).2
  rw[n] at q;simp at q
theorem b1S{o:Obj}(e:(a3W h H).get? b=some o):h.get? b=some o/\H b=none:=by
 have e':h.get? b=some o:=PySem.W.of_hideAll (trk h H) e
 refine⟨e',?_⟩
 cases q:H b with
 |none=>rfl
 |some x=>
  have hm:b∈trk h H:=bt.mpr ⟨aV.mpr (Heap.lt_size e'),by simp[q]⟩
  have z:(a3W h H).get? b=none:=PySem.W.hideAll_none (trk h H) hm
  rw[z] at e;cases e
noncomputable def b2W(g h:Heap)(L:Addr):List (Addr×Obj):=(List.range h.objs.size).filterMap fun a=>if a=L∨(g.get? a).isSome=true then none else(h.get? a).map fun o=>(a,o)
variable{g:Heap}{L:Addr}
def i7(g h:Heap)(L d:Addr):List (Addr×Obj):=(b2W g h L).filter fun p=>decide (p.1≠d)
variable{d:Addr}{h':Heap}{m:Str->Option Value}
structure Mod(K:PySem.W.Frag)(mg:Str->Option Value)(base:Heap):Prop where
 kin:K.In base
 glob:base.Ns mainGlobals mg
 blt:∃mb,base.Ns builtinsNs mb/\∀x:Str,x≠"__name__"->mb x=bootBuiltins x
 nolimit:base.NoLimit
structure Cx where
 prog:Program
 w:World
 K:PySem.W.Frag
 mg:Str->Option Value
 base:Heap
 A:Around
 N:List Str
 s₀:Shared
 H₀:Hp
 env:Env
 outer:List Env
 stack:List Env
 ex:List Addr
 fn:Str->Bool
 calm:Bool
 pn:List (Addr×Obj)
 xe:Value->Shared->Prop
noncomputable def frs(l:List Env):List Addr:=l.filterMap (·.frame)
abbrev Cx.fs(X:Cx):List Addr:=frs X.outer
def Vis(sc:Scope)(x:Str):Prop:=sc.names.lookup x=some .local∨sc.names.lookup x=some .cell∨sc.names.lookup x=some .free
def Loc(sc:Scope)(x:Str):Prop:=sc.names.lookup x=some .local∨sc.names.lookup x=some .cell
def b8x(env:Env)(h:Heap)(m:Str->Option Value)(x:Str)(u:Value):Prop:=
 (env.kindOf x=some .local/\m x=some u)∨((env.kindOf x=some .cell∨env.kindOf x=some .free)/\∃c,env.cells.lookup x=some c/\h.IsCell c (some u))
structure Cx.Ok(X:Cx):Prop where
 mod:Mod X.K X.mg X.base
 kind:X.env.scope.kind=.function
 glob:X.env.globals=mainGlobals
 blt:X.env.builtins=builtinsNs
 above:X.s₀.heap.objs.size<=X.env.locals
 inj:∀x y c,X.env.cells.lookup x=some c->X.env.cells.lookup y=some c->x=y
 has:∀x,(X.env.kindOf x=some .cell∨X.env.kindOf x=some .free)->∃c,X.env.cells.lookup x=some c
 cab:∀x c,X.fn x=true->X.env.cells.lookup x=some c->X.s₀.heap.objs.size<=c
 hd:X.calm=true->X.A.handled=none
 frames:X.A.frames=some X.stack
 stk:X.stack=X.outer∨(X.stack=X.env::X.outer/\X.env.frame=some X.env.locals)
 exf:∀b∈X.ex,b≠X.env.locals/\∀x c,X.env.cells.lookup x=some c->c≠b
 bs:∀b o,X.base.get? b=some o->X.s₀.heap.get? b=some o/\X.H₀ b=none
 bsz:X.base.objs.size<=X.s₀.heap.objs.size
 noex:∀b o,X.base.get? b=some o->b∉X.ex
 exfs:∀b∈X.ex,b∉X.fs
 funs:X.s₀.heap.FunFrames X.base X.outer
 frf:∀b∈X.fs,X.H₀ b=none
structure Inv(X:Cx)(pins:List (Addr×Obj))(σ:List (Option V))(H:Hp)(s:Shared):Prop where
 ok:X.Ok
 os:s.os=X.s₀.os
 bare:AllBare s.gens
 base:Un X.fs X.ex X.H₀ H X.s₀.heap s.heap
 loc:∃m,s.heap.Ns X.env.locals m/\∀(i:Nat) (x:Str) (v:V),X.N[i]? =some x->σ[i]? =some (some v)->Vis X.env.scope x->∃u,l8 v u/\b8x X.env s.heap m x u
 cell:∀x c,X.env.cells.lookup x=some c->∃v,s.heap.IsCell c v
 free:H X.env.locals=none
 freeC:∀x c,X.env.cells.lookup x=some c->H c=none
 pin:∀p∈X.pn++pins,s.heap.get? p.1=some p.2/\H p.1=none/\p.1≠X.env.locals/\p.1∉X.fs/\∀v,p.2.data≠.cell v
 hok:HOk X.prog X.w H s.heap
 len:σ.length=X.N.length
variable{g':Array GenState}{ch:List Addr}{it:Addr}{N:List Str}{i:Nat}{j:Nat}{x:Str}{M:Model}{A:Around}{v:V}{u:Value}{s':Shared}
section
variable{X:Cx}{pins:List (Addr×Obj)}{σ:List (Option V)}{H':Hp}{s:Shared}
theorem Cx.Ok.nofr(ok:X.Ok){o:Obj}(e:X.base.get? b=some o):b∉X.fs:=fun hb=>by
 have:=(ok.funs.mem hb).1
 rw[e] at this;cases this
theorem Inv.bs(I:Inv X pins σ H s):∀b o,X.base.get? b=some o->s.heap.get? b=some o/\H b=none:=fun b o e=>
 ⟨I.base.keep b o (I.ok.bs b o e).1 (I.ok.bs b o e).2 (I.ok.nofr e) (I.ok.noex b o e),I.base.free b o (I.ok.bs b o e).1 (I.ok.bs b o e).2 (I.ok.noex b o e)⟩
theorem Inv.bk(I:Inv X pins σ H s):∀b o,X.base.get? b=some o->s.heap.get? b=some o:=fun b o e=>(I.bs b o e).1
theorem Inv.mod(I:Inv X pins σ H s):Mod X.K X.mg X.base:=I.ok.mod
theorem Inv.kIn(I:Inv X pins σ H s):X.K.In s.heap:=I.ok.mod.kin.keeps I.bk
theorem Inv.lt(I:Inv X pins σ H s):X.env.locals<s.heap.objs.size:=let⟨_,hn,_⟩:=I.loc;hn.lt
theorem Inv.sz(I:Inv X pins σ H s):X.s₀.heap.objs.size<=s.heap.objs.size:=aY I.ok.above (aZ I.lt)
theorem Inv.nofs(I:Inv X pins σ H s)(h:s.heap.objs.size<=a):a∉X.fs:=fun hb=>by
 obtain⟨_,o,ho,_⟩:=I.ok.funs.mem hb;exact absurd (aC (Heap.lt_size ho) (aY I.sz h)) (aX _)
theorem Inv.cne(I:Inv X pins σ H s):∀x c,X.env.cells.lookup x=some c->c≠X.env.locals:=fun x c e z=>by
 obtain⟨v,o,ho,hd⟩:=I.cell x c e;obtain⟨m,⟨o',es,ep,ho',hd',_⟩,_⟩:=I.loc;rw[z,ho'] at ho;cases ho;rw[hd'] at hd;cases hd
theorem Inv.funs(I:Inv X pins σ H s):s.heap.FunFrames X.base X.outer:=by
 have all:∀(l:List Env),(∀b∈frs l,b∈X.fs)->X.s₀.heap.FunFrames X.base l->s.heap.FunFrames X.base l:=by
  intro l
  induction l with
  |nil=>intro _ _;trivial
  |cons env r ih=>
   intro hs hl;obtain⟨hk,⟨L,o,hf,hn,ho,hd⟩,hr⟩:=hl
   have hL:L∈X.fs:=hs L (by unfold frs;rw[List.filterMap_cons,hf];exact bj)
   obtain⟨sl,e⟩:=I.base.slot L o ho (I.ok.frf L hL) hL fun z=>I.ok.exfs L z hL
   exact⟨hk,⟨L,_,hf,hn,e,hd⟩,ih (fun b hb=>hs b (by unfold frs;rw[List.filterMap_cons,hf];exact aE _ hb)) hr⟩
 exact all X.outer (fun _ hb=>hb) I.ok.funs
theorem Inv.stack(I:Inv X pins σ H s):s.heap.FunFrames X.base X.stack:=by
 rcases I.ok.stk with e|⟨e,hf⟩
 · rw[e];exact I.funs
 · rw[e];obtain⟨m,hn,_⟩:=I.loc;refine .cons (by rw[I.ok.kind];decide) hf hn ?_ I.funs
   exact Heap.get?_none_of_le (aY I.ok.bsz I.ok.above)
theorem Inv.stkSub(I:Inv X pins σ H s):∀b∈frs X.stack,b∈X.env.locals::X.fs:=fun b hb=>by
 rcases I.ok.stk with e|⟨e,hf⟩
 · rw[e] at hb;exact aE _ hb
 · rw[e] at hb;unfold frs at hb;rw[List.filterMap_cons,hf] at hb;exact hb
theorem Inv.stkFree(I:Inv X pins σ H s):∀b∈frs X.stack,H b=none:=fun b hb=>by
 rcases aH.mp (I.stkSub b hb) with e|hb
 · rw[e];exact I.free
 · obtain⟨_,o,ho,_⟩:=I.ok.funs.mem hb;exact I.base.free b o ho (I.ok.frf b hb) fun z=>I.ok.exfs b z hb
theorem Inv.step{t':Nat}{d':Drawn}(I:Inv X pins σ H s)
 (hch:∀b∈ch,(b∈X.ex∨X.s₀.heap.objs.size<=b)/\b≠X.env.locals/\(∀x c,X.env.cells.lookup x=some c->c≠b)/\∀p∈X.pn++pins,p.1≠b)
 (keep:∀b o,b≠X.env.locals->b∉X.fs->b∉ch->s.heap.get? b=some o->H b=none->h'.get? b=some o)
 (slot:∀b o,b≠X.env.locals->b∈X.fs->b∉ch->s.heap.get? b=some o->H b=none->∃sl,h'.get? b=some {o with slots:=sl}) (free:∀b o,b∉ch->s.heap.get? b=some o->H b=none->H' b=none)
 (there:∀b o,b∉ch->s.heap.get? b=some o->∃o',h'.get? b=some o')
 (tups:∀b xs,H b=some (.tup xs)->H' b=some (.tup xs)) (frzs:∀b o u,H b=some (.frz o u)->H' b=some (.frz o u)) (tbls:∀b ps,H b=some (.tbl ps)->∃more,H' b=some (.tbl (ps++more)))
 (ns:∀m,s.heap.Ns X.env.locals m->h'.Ns X.env.locals m) (hok:HOk X.prog X.w H' h') (hg:AllBare g'):
 Inv X pins σ H' {s with heap:=h',gens:=g',drawn:=d',toks:=t'}:=by
 have neL:∀b o,X.s₀.heap.get? b=some o->b≠X.env.locals:=fun b o e=>Nat.ne_of_lt (aC (Heap.lt_size e) I.ok.above)
 have neC:∀b o,X.s₀.heap.get? b=some o->b∉X.ex->b∉ch:=fun b o e hx hb=>by
  rcases(hch b hb).1 with z|z
  · exact hx z
  · exact absurd (aC (Heap.lt_size e) z) (aX _)
 have cellK:∀x c,X.env.cells.lookup x=some c->∀v,s.heap.IsCell c v->h'.IsCell c v:=fun x c e v ⟨o,ho,hd⟩=>by
  have nch:c∉ch:=fun z=>(hch c z).2.2.1 x c e rfl
  by_cases hc:c∈X.fs
  · obtain⟨sl,q⟩:=slot c o (I.cne x c e) hc nch ho (I.freeC x c e);exact⟨_,q,hd⟩
  · exact⟨o,keep c o (I.cne x c e) hc nch ho (I.freeC x c e),hd⟩
 refine⟨I.ok,I.os,hg,⟨fun b o e n hb hx=>?_,fun b o e n hb hx=>?_,fun b o e n hx=>?_,fun b o e hx=>?_,fun b xs e=>tups b xs (I.base.tups b xs e),fun b o xs e=>frzs b o xs (I.base.frzs b o xs e),fun b ps e=>?_⟩,?_,fun x c e=>?_,?_,fun x c e=>?_,fun p hp=>?_,hok,I.len⟩
 · exact keep b o (neL b o e) hb (neC b o e hx) (I.base.keep b o e n hb hx) (I.base.free b o e n hx)
 · obtain⟨sl,e1⟩:=I.base.slot b o e n hb hx;obtain⟨sl',e2⟩:=slot b _ (neL b o e) hb (neC b o e hx) e1 (I.base.free b o e n hx);exact⟨sl',e2⟩
 · obtain⟨o',e1⟩:=I.base.there b o e hx;exact free b o' (neC b o e hx) e1 (I.base.free b o e n hx)
 · obtain⟨o',e1⟩:=I.base.there b o e hx;exact there b o' (neC b o e hx) e1
 · obtain⟨m1,e1⟩:=I.base.tbls b ps e;obtain⟨m2,e2⟩:=tbls b _ e1;exact⟨m1++m2,by rw[e2,Array.append_assoc]⟩
 · obtain⟨m,hn,hl⟩:=I.loc;refine⟨m,ns m hn,fun i x v e1 e2 e3=>?_⟩
   obtain⟨u,r,l⟩:=hl i x v e1 e2 e3;refine⟨u,r,?_⟩
   rcases l with l|⟨k,c,e,z⟩
   · exact .inl l
   · exact .inr ⟨k,c,e,cellK x c e _ z⟩
 · obtain⟨v,z⟩:=I.cell x c e;exact⟨v,cellK x c e v z⟩
 · obtain⟨m,⟨o,_,_,ho,_⟩,_⟩:=I.loc;exact free _ o (fun z=>(hch _ z).2.1 rfl) ho I.free
 · obtain⟨v,o,ho,hd⟩:=I.cell x c e;exact free c o (fun z=>(hch c z).2.2.1 x c e rfl) ho (I.freeC x c e)
 · obtain⟨e,n,ne,nf,d⟩:=I.pin p hp
   have nch:p.1∉ch:=fun z=>(hch p.1 z).2.2.2 p hp rfl
   exact⟨keep p.1 p.2 ne nf nch e n,free p.1 p.2 nch e n,ne,nf,d⟩
theorem Inv.un{t':Nat}(I:Inv X pins σ H s)(u:Un X.fs [] H H' s.heap h')(hok:HOk X.prog X.w H' h'):Inv X pins σ H' {s with heap:=h',toks:=t'}:=by
 obtain⟨m,⟨o,es,ep,ho,r⟩,_⟩:=id I.loc;obtain⟨sl,hL⟩:=u.any ho I.free (by simp)
 exact I.step (g':=s.gens) (d':=s.drawn) (ch:=[]) (fun _ z=>nomatch z) (fun b o _ hb _ e n=>u.keep b o e n hb (by simp)) (fun b o _ hb _ e n=>u.slot b o e n hb (by simp)) (fun b o _ e n=>u.free b o e n (by simp)) (fun b o _ e=>u.there b o e (by simp)) u.tups u.frzs u.tbls (fun m' hm=>by
  obtain⟨o',es',ep',ho',r'⟩:=hm;rw[ho] at ho';cases ho'
  exact⟨_,es',ep',hL,r'⟩) hok I.bare
theorem Inv.call{t':Nat}{d':Drawn}(I:Inv X pins σ H s)(u:Un (frs X.stack) ch H H' s.heap h')(hok:HOk X.prog X.w H' h')(hg:AllBare g')
 (hch:∀b∈ch,(b∈X.ex∨X.s₀.heap.objs.size<=b)/\b≠X.env.locals/\(∀x c,X.env.cells.lookup x=some c->c≠b)/\∀p∈X.pn++pins,p.1≠b):
 Inv X pins σ H' {s with heap:=h',gens:=g',drawn:=d',toks:=t'}:=by
 obtain⟨m,⟨o,es,ep,ho,r⟩,_⟩:=id I.loc;obtain⟨sl,hL⟩:=u.any ho I.free fun z=>(hch _ z).2.1 rfl
 exact I.step (ch:=ch) hch (fun b o hL hb hc e n=>u.keep b o e n (fun z=>(aH.mp (I.stkSub b z)).elim hL hb) hc) (fun b o _ _ hc e n=>u.any e n hc) (fun b o hc e n=>u.free b o e n hc) (fun b o hc e=>u.there b o e hc) u.tups u.frzs u.tbls (fun m' hm=>by
  obtain⟨o',es',ep',ho',r'⟩:=hm;rw[ho] at ho';cases ho'
  exact⟨_,es',ep',hL,r'⟩) hok hg
theorem Inv.turned{t':Nat}(I:Inv X pins σ H s)(k:∀b o,b≠it->s.heap.get? b=some o->h'.get? b=some o)(hn:H it=none)(hL:it≠X.env.locals)
 (h1:it∈X.ex∨X.s₀.heap.objs.size<=it) (h2:∀x c,X.env.cells.lookup x=some c->c≠it) (h3:∀p∈X.pn++pins,p.1≠it):Inv X pins σ H {s with heap:=h',toks:=t'}:=by
 have nit:∀b u,H b=some u->b≠it:=fun b u e z=>by rw[z,hn] at e;cases e
 refine I.step (g':=s.gens) (d':=s.drawn) (ch:=[it]) (fun b hb=>?_) (fun b o _ _ hc e _=>k b o (fun z=>hc (by simp[z])) e) (fun b o _ _ hc e _=>⟨o.slots,k b o (fun z=>hc (by simp[z])) e⟩) (fun _ _ _ _ n=>n)
  (fun b o hc e=>⟨o,k b o (fun z=>hc (by simp[z])) e⟩) (fun _ _ e=>e) (fun _ _ _ e=>e) (fun b ps e=>⟨#[],by rw[e];simp⟩) (fun m hm=>?_) (fun b u e=>?_) I.bare
 · have e:b=it:=by simpa using hb
   subst e;exact⟨h1,hL,h2,h3⟩
 · obtain⟨o,es,ep,ho,r⟩:=hm;exact⟨o,es,ep,k _ o (Ne.symm hL) ho,r⟩
 · refine(I.hok b u e).stay (fun c v hc q=>k c v ?_ q) (fun _ q=>q) fun _ _ q=>q
   rcases hc with z|z
   · rw[z];exact nit b u e
   · exact nit c _ z
theorem Inv.tok(I:Inv X pins σ H s)(t:Nat):Inv X pins σ H {s with toks:=t}:=I.un (h':=s.heap) (t':=t) Un.refl I.hok
theorem Inv.kept{t':Nat}(I:Inv X pins σ H s)(k:∀b u,s.heap.get? b=some u->h'.get? b=some u):Inv X pins σ H {s with heap:=h',toks:=t'}:=I.un (Un.kept k) (I.hok.kept k)
theorem Inv.laid{t':Nat}(I:Inv X pins σ H s)(k:∀b u,s.heap.get? b=some u->h'.get? b=some u)(hp:s.heap.objs.size<=a)(new:x5 X.prog X.w (upd H a o) h' a o):
 Inv X pins σ (upd H a o) {s with heap:=h',toks:=t'}:=I.un (Un.laid k hp (I.hok.fresh hp)) (I.hok.laid k hp new)
theorem Inv.write{x e:Addr}{t':Nat}(I:Inv X pins σ H s)(mu:Mut (H x))(he:e=x∨H e=some (.own x))(k:∀b u,b≠e->s.heap.get? b=some u->h'.get? b=some u)(heo:∃u,h'.get? e=some u)
 (new:x5 X.prog X.w (upd H x o) h' x o):Inv X pins σ (upd H x o) {s with heap:=h',toks:=t'}:=I.un (Un.write mu he k heo) (I.hok.write mu he k heo new)
theorem Inv.weak{σ':List (Option V)}(I:Inv X pins σ H s)(hl:σ'.length=σ.length)(w:∀(i:Nat) v,σ'[i]? =some (some v)->σ[i]? =some (some v)):Inv X pins σ' H s:=
 ⟨I.ok,I.os,I.bare,I.base,let⟨m,hn,hl'⟩:=I.loc;⟨m,hn,fun i x v e1 e2 e3=>hl' i x v e1 (w i v e2) e3⟩,I.cell,I.free,I.freeC,I.pin,I.hok,hl.trans I.len⟩
theorem Inv.pins_of{pins':List (Addr×Obj)}(I:Inv X pins σ H s)(h:∀p∈pins',s.heap.get? p.1=some p.2/\H p.1=none/\p.1≠X.env.locals/\p.1∉X.fs/\∀v,p.2.data≠.cell v):Inv X pins' σ H s:=
 ⟨I.ok,I.os,I.bare,I.base,I.loc,I.cell,I.free,I.freeC,fun p hp=>(aO.mp hp).elim (fun z=>I.pin p (List.mem_append_left _ z)) (h p),I.hok,I.len⟩
theorem a1M(hN:N.Nodup)(a:N[i]? =some x)(b:N[j]? =some x):i=j:=by
 obtain⟨h1,e1⟩:=ac.mp a
 obtain⟨h2,e2⟩:=ac.mp b
 exact(getElem_inj hN).mp (e1.trans e2.symm)
theorem V2{E:Value->Shared->Prop}{Q:Unit->Shared->Prop}(I:Inv X pins σ H s)(hN:X.N.Nodup)(hi:X.N[i]? =some x)(hx:Loc X.env.scope x)(r:l8 v u)
 (h:∀s',Inv X pins (σ.set i (some v)) H s'->(∃a,Heap.SameBut a s.heap s'.heap/\(a=X.env.locals∨X.env.cells.lookup x=some a))->Q () s') (hf:X.fn x=true∨X.env.scope.names.lookup x=some .local:=by first|exact .inl rfl|exact .inr rfl|assumption):wpAny M A (storeName X.env x u) Q E s:=by
 obtain⟨m,hn,hl⟩:=id I.loc
 have hcls:(X.env.scope.kind==.class||(X.env.scope.kind==.module&&X.env.locals !=X.env.globals))=false:=by rw[I.ok.kind];rfl
 have hiσ:i<σ.length:=by rw[I.len];exact(ac.mp hi).1
 have cne:=I.cne
 have tracked:∀{a:Addr} {h':Heap},(∃o,s.heap.get? a=some o/\H a=none)->Heap.SameBut a s.heap h'->HOk X.prog X.w H h':=fun{a h'} ha hs b ob e=>by
  obtain⟨_,_,hfree⟩:=ha;refine(I.hok b ob e).stay (fun c w' hc q=>(hs.2 c ?_).trans q) (fun _ q=>q) fun _ _ q=>q
  rintro rfl
  rcases hc with rfl|hc
  · rw[hfree] at e;cases e
  · rw[hfree] at hc;cases hc
 rcases hx with hk|hk
 · refine wpAny_storeName_local hk hn (fun h' hn' hs=>?_) hcls
   obtain⟨oL,_,_,hoL,_⟩:=id hn;refine h _ ⟨I.ok,I.os,I.bare,⟨fun b o e n hb hx=>?_,fun b o e n hb hx=>?_,I.base.free,fun b o e hx=>?_,I.base.tups,I.base.frzs,I.base.tbls⟩,⟨_,hn',fun j y v' e1 e2 e3=>?_⟩,fun y c e=>?_,I.free,I.freeC,fun p hp=>?_,tracked ⟨oL,hoL,I.free⟩ hs,by simpa using I.len⟩ ⟨_,hs,.inl rfl⟩
   · exact(hs.2 b (Nat.ne_of_lt (aC (Heap.lt_size e) I.ok.above))).trans (I.base.keep b o e n hb hx)
   · obtain⟨sl,e1⟩:=I.base.slot b o e n hb hx;exact⟨sl,(hs.2 b (Nat.ne_of_lt (aC (Heap.lt_size e) I.ok.above))).trans e1⟩
   · obtain⟨o',e1⟩:=I.base.there b o e hx;exact⟨o',(hs.2 b (Nat.ne_of_lt (aC (Heap.lt_size e) I.ok.above))).trans e1⟩
   · by_cases hj:j=i
     · subst hj;rw[hi] at e1;cases e1
       rw[List.getElem?_set_self hiσ] at e2
       cases e2;exact⟨u,r,.inl ⟨hk,by simp⟩⟩
     · rw[List.getElem?_set_ne (Ne.symm hj)] at e2
       obtain⟨u',r',q⟩:=hl j y v' e1 e2 e3;refine⟨u',r',?_⟩
       rcases q with⟨k,e⟩|⟨k,c,e,z⟩
       · refine .inl ⟨k,?_⟩
         have:y≠x:=fun e=>hj (a1M hN e1 (e▸hi))
         simp[this,e]
       · exact .inr ⟨k,c,e,z.sameBut hs (cne y c e)⟩
   · obtain⟨w',z⟩:=I.cell y c e;exact⟨w',z.sameBut hs (cne y c e)⟩
   · obtain⟨e,n,ne,nf,d⟩:=I.pin p hp;exact⟨(hs.2 p.1 ne).trans e,n,ne,nf,d⟩
 · have hfn:X.fn x=true:=by
    rcases hf with z|z
    · exact z
    · rw[z] at hk;cases hk
   obtain⟨c,hc⟩:=I.ok.has x (.inl hk);obtain⟨w',z⟩:=I.cell x c hc;refine wpAny_storeName_cell I.ok.kind hk hc z (fun h' hc' hs=>?_)
   obtain⟨oc,hoc,hocd⟩:=id z;refine h {s with heap:=h'} ⟨I.ok,I.os,I.bare,⟨fun b o e n hb hx=>?_,fun b o e n hb hx=>?_,I.base.free,fun b o e hx=>?_,I.base.tups,I.base.frzs,I.base.tbls⟩,⟨m,hn.sameBut hs (Ne.symm (cne x c hc)),fun j y v' e1 e2 e3=>?_⟩,fun y c' e=>?_,I.free,I.freeC,fun p hp=>?_,tracked ⟨oc,hoc,I.freeC x c hc⟩ hs,by simpa using I.len⟩ ⟨c,hs,.inr hc⟩
   · exact(hs.2 b (Nat.ne_of_lt (aC (Heap.lt_size e) (I.ok.cab x c hfn hc)))).trans (I.base.keep b o e n hb hx)
   · obtain⟨sl,e1⟩:=I.base.slot b o e n hb hx;exact⟨sl,(hs.2 b (Nat.ne_of_lt (aC (Heap.lt_size e) (I.ok.cab x c hfn hc)))).trans e1⟩
   · obtain⟨o',e1⟩:=I.base.there b o e hx;exact⟨o',(hs.2 b (Nat.ne_of_lt (aC (Heap.lt_size e) (I.ok.cab x c hfn hc)))).trans e1⟩
   · by_cases hj:j=i
     · subst hj;rw[hi] at e1;cases e1
       rw[List.getElem?_set_self hiσ] at e2
       cases e2;exact⟨u,r,.inr ⟨.inl hk,c,hc,hc'⟩⟩
     · rw[List.getElem?_set_ne (Ne.symm hj)] at e2
       obtain⟨u',r',q⟩:=hl j y v' e1 e2 e3;refine⟨u',r',?_⟩
       rcases q with q|⟨k,c',e,z'⟩
       · exact .inl q
       · refine .inr ⟨k,c',e,z'.sameBut hs ?_⟩
         rintro rfl;exact hj (a1M hN e1 (I.ok.inj _ _ _ e hc▸hi))
   · by_cases hcc:c'=c
     · subst hcc;exact⟨_,hc'⟩
     · obtain⟨w2,z2⟩:=I.cell y c' e;exact⟨w2,z2.sameBut hs hcc⟩
   · obtain⟨e,n,ne,nf,d⟩:=I.pin p hp;refine⟨(hs.2 p.1 ?_).trans e,n,ne,nf,d⟩
     intro q;rw[q,hoc] at e
     have q':oc=p.2:=ax e
     exact d w' (by rw[←q'];exact hocd)
theorem a1E{E:Value->Shared->Prop}{Q:Unit->Shared->Prop}(I:Inv X pins σ H s)(hN:X.N.Nodup)(hi:X.N[i]? =some x)(hx:Loc X.env.scope x)(r:l8 v u)
 (h:∀s',Inv X pins (σ.set i (some v)) H s'->Q () s') (hf:X.fn x=true∨X.env.scope.names.lookup x=some .local:=by first|exact .inl rfl|exact .inr rfl|assumption):wpAny M A (storeName X.env x u) Q E s:=
 V2 I hN hi hx r (fun s' I' _=>h s' I') hf
theorem Inv.call'(I:Inv X pins σ H s)(ho:s'.os=s.os)(u:Un (frs X.stack) ch H H' s.heap s'.heap)(hok:HOk X.prog X.w H' s'.heap)(hg:AllBare s'.gens)
 (hch:∀b∈ch,(b∈X.ex∨X.s₀.heap.objs.size<=b)/\b≠X.env.locals/\(∀x c,X.env.cells.lookup x=some c->c≠b)/\∀p∈X.pn++pins,p.1≠b):Inv X pins σ H' s':=by
 obtain⟨h',g',d',t',o'⟩:=s'
 have e:o'=s.os:=ho
 subst e;exact I.call (g':=g') (t':=t') (d':=d') u hok hg hch
end
abbrev XK:=Value->Option Addr->Hp->Prop
abbrev St:=List (Option V)
abbrev VK:=V->Hp->Prop
abbrev TE:=St->Hp->VK->Prop
abbrev TT:=St->Hp->(Bool->Hp->Prop)->Prop
abbrev TA:=St->Hp->(List V->Hp->Prop)->Prop
structure Ends where
 nx:St->Hp->Prop
 rt:VK
 bk:St->Hp->Prop:=fun _ _=>False
 ct:St->Hp->Prop:=fun _ _=>False
abbrev TS:=Ends->St->Hp->Prop
def EP(X:Cx)(pins:List (Addr×Obj))(σ:St)(Q:VK)(u:Value)(s':Shared):Prop:=∃v H',Inv X pins σ H' s'/\l8 v u/\Q v H'
def TP(X:Cx)(pins:List (Addr×Obj))(σ:St)(Q:Bool->Hp->Prop)(b:Bool)(s':Shared):Prop:=∃H',Inv X pins σ H' s'/\Q b H'
def AP(X:Cx)(pins:List (Addr×Obj))(σ:St)(Q:List V->Hp->Prop)(us:List Value)(s':Shared):Prop:=∃vs H',Inv X pins σ H' s'/\l7 vs us/\Q vs H'
def SP(X:Cx)(pins:List (Addr×Obj))(D:Ends)(f:Flow)(s':Shared):Prop:=
 match f with
 |.next=>∃σ' H',Inv X pins σ' H' s'/\D.nx σ' H'
 |.brk=>∃σ' H',Inv X pins σ' H' s'/\D.bk σ' H'
 |.cont=>∃σ' H',Inv X pins σ' H' s'/\D.ct σ' H'
 |.ret u=>∃v σ' H',Inv X pins σ' H' s'/\l8 v u/\D.rt v H'
def PE(X:Cx)(e:Expr)(t:TE):Prop:=
 ∀(pins:List (Addr×Obj)) (s:Shared) (σ:St) (H:Hp) (Q:VK),Inv X pins σ H s->t σ H Q->wpAny (model X.prog X.w) X.A (eval e X.env) (EP X pins σ Q) X.xe s
def PT(X:Cx)(e:Expr)(t:TT):Prop:=
 ∀(pins:List (Addr×Obj)) (s:Shared) (σ:St) (H:Hp) (Q:Bool->Hp->Prop),Inv X pins σ H s->t σ H Q->wpAny (model X.prog X.w) X.A (isTrue e X.env (eval e X.env)) (TP X pins σ Q) X.xe s
def PW(X:Cx)(e:Expr)(t:TT):Prop:=
 ∀(whole:Sem Value) (pins:List (Addr×Obj)) (s:Shared) (σ:St) (H:Hp) (Q:Bool->Hp->Prop),Inv X pins σ H s->t σ H Q->wpAny (model X.prog X.w) X.A (isTrue e X.env whole) (TP X pins σ Q) X.xe s
variable{X:Cx}{e:Expr}
theorem PW.pt{t:TT}(h:PW X e t):PT X e t:=h _
def PA(X:Cx)(es:List Expr)(t:TA):Prop:=
 ∀(pos:Pos) (pins:List (Addr×Obj)) (s:Shared) (σ:St) (H:Hp) (Q:List V->Hp->Prop),Inv X pins σ H s->t σ H Q->wpAny (model X.prog X.w) X.A (spliced (backTo pos (starEach es X.env))) (AP X pins σ Q) X.xe s
def PS(X:Cx)(st:Stmt)(t:TS):Prop:=
 ∀(pins:List (Addr×Obj)) (s:Shared) (σ:St) (H:Hp) (D:Ends),Inv X pins σ H s->t D σ H->wpAny (model X.prog X.w) X.A (exec st X.env) (SP X pins D) X.xe s
def PSs(X:Cx)(st:List Stmt)(t:TS):Prop:=
 ∀(pins:List (Addr×Obj)) (s:Shared) (σ:St) (H:Hp) (D:Ends),Inv X pins σ H s->t D σ H->wpAny (model X.prog X.w) X.A (execs st X.env) (SP X pins D) X.xe s
variable{s:Shared}
theorem thn{t:Sem α}{Q Q':α->Shared->Prop}{E:Value->Shared->Prop}(h:wpAny M A t Q E s)(hQ:∀a s,Q a s->Q' a s):wpAny M A t Q' E s:=wpAny_mono h hQ fun _ _ x=>x
variable{pins:List (Addr×Obj)}{σ:St}{pos:Pos}{Q:Value->Shared->Prop}{op:CmpOp}{c:Expr}
section
theorem bin{a b:Expr}{ta tb:TE}(ha:PE X a ta)(hb:PE X b tb){R:V->V->Hp->Prop}(I:Inv X pins σ H s)(h:ta σ H fun x H1=>tb σ H1 fun y H2=>R x y H2)
 {Q :α->Shared->Prop} {f:Value->Value->Sem α}
    (hf:∀v u s2 x y H2,Inv X pins σ H2 s2->l8 x v->l8 y u->R x y H2->wpAny (model X.prog X.w) X.A (f v u) Q X.xe s2):
    wpAny (model X.prog X.w) X.A (eval a X.env) (fun v s₁=>wpAny (model X.prog X.w) X.A (eval b X.env) (fun u s₂=>wpAny (model X.prog X.w) X.A (f v u) Q X.xe s₂) X.xe s₁) X.xe s:=by
  refine thn (ha pins s σ H _ I h) fun v s1 ⟨x,H1,I1,r1,q1⟩=>?_
  refine thn (hb pins s1 σ H1 _ I1 q1) fun u s2 ⟨y,H2,I2,r2,q2⟩=>?_
  exact hf v u s2 x y H2 I2 r1 r2 q2
noncomputable def b6k(i:Nat):TE:=fun σ H Q=>∃v,σ[i]? =some (some v)/\Q v H
def tC(v:V):TE:=fun _ H Q=>Q v H
theorem a9a(hN:X.N[i]? =some x)(hv:Vis X.env.scope x)(hd:(x==("__debug__":Str))=false:=by decide)(hcd:(x==("__classdict__":Str))=false:=by decide):PE X (.Name x pos) (b6k i):=by
 intro pins s σ H Q I h;obtain⟨v,e,h⟩:=h;obtain⟨m,hn,hl⟩:=I.loc;obtain⟨u,r,l⟩:=hl i x v hN e hv
 have fin:EP X pins σ Q u s:=⟨v,H,I,r,h⟩
 rcases l with⟨hk,hm⟩|⟨hk,c,hc,hcell⟩
 · exact wpAny_Name (wpAny_loadName_local I.ok.kind hk hn hm fin) hd
 · rcases hk with hk|hk
   · exact wpAny_Name (wpAny_loadName_cell I.ok.kind hk hc hcell fin) hd
   · exact wpAny_Name (wpAny_loadName_free I.ok.kind hk hc hcell fin hcd) hd
theorem a9f{i j pos}:PE X (.Constant (.int i) j pos) (tC (.int i)):=fun _ _ _ H _ I h=>wpAny_Constant_int ⟨.int i,H,I.tok _,⟨_,rfl⟩,h⟩
theorem b6O{b j pos}:PE X (.Constant (.bool b) j pos) (tC (.bl b)):=fun _ _ _ H _ I h=>Constant_bool ⟨.bl b,H,I,rfl,h⟩
theorem b4c{j pos}:PE X (.Constant .none j pos) (tC .non):=fun _ _ _ H _ I h=>Constant_none ⟨.non,H,I,rfl,h⟩
theorem a9c{x j pos}:PE X (.Constant (.str x) j pos) (tC (.str x)):=fun _ _ _ H _ I h=>Calls.Constant_str ⟨.str x,H,I.tok _,⟨_,rfl⟩,h⟩
def Gl(X:Cx)(x:Str):Prop:=X.env.kindOf x=some .globalImplicit
theorem V7{E:Value->Shared->Prop}(I:Inv X pins σ H s)(hg:Gl X x)(hm:X.mg x=some u)(h:Q u s)
 (hd:(x==("__debug__":Str))=false:=by decide):wpAny (model X.prog X.w) X.A (eval (.Name x pos) X.env) Q E s:=
 Calls.Name_function_global I.ok.kind hg (Calls.loadGlobal_global (by rw[I.ok.glob];exact I.mod.glob.keeps I.bk) hm h) hd
theorem Y9{E:Value->Shared->Prop}(I:Inv X pins σ H s)(hg:Gl X x)(hm:X.mg x=none)(hv:bootBuiltins x=some u)(h:Q u s)
 (hn:x≠"__name__":=by decide) (hd:(x==("__debug__":Str))=false:=by decide):wpAny (model X.prog X.w) X.A (eval (.Name x pos) X.env) Q E s:=by
 obtain⟨mb,h1,h2⟩:=I.mod.blt;exact Calls.Name_function_global I.ok.kind hg (Calls.loadGlobal_builtin (by rw[I.ok.glob];exact I.mod.glob.keeps I.bk) hm (by rw[I.ok.blt];exact h1.keeps I.bk) ((h2 x hn).trans hv) h) hd
theorem V3(hg:Gl X x)(hm:X.mg x=some u)(r:l8 v u)(hd:(x==("__debug__":Str))=false:=by decide):PE X (.Name x pos) (tC v):=
 fun _ _ _ H _ I h=>V7 I hg hm ⟨v,H,I,r,h⟩ hd
theorem b1G(hg:Gl X x)(hm:X.mg x=none)(hv:bootBuiltins x=some u)(r:l8 v u)(hn:x≠"__name__":=by decide)(hd:(x==("__debug__":Str))=false:=by decide):PE X (.Name x pos) (tC v):=
 fun _ _ _ H _ I h=>Y9 I hg hm hv ⟨v,H,I,r,h⟩ hn hd
variable{a b:Expr}{ta tb:TE}
def PC(X:Cx)(op:CmpOp)(a b:Expr)(t:TE):Prop:=
 ∀(pins:List (Addr×Obj)) (s:Shared) (σ:St) (H:Hp) (Q:VK),Inv X pins σ H s->t σ H Q→
  wpAny (model X.prog X.w) X.A (eval a X.env) (fun v s₁=>wpAny (model X.prog X.w) X.A (eval b X.env) (fun u s₂=>wpAny (model X.prog X.w) X.A (compareOp op v u) (EP X pins σ Q) X.xe s₂) X.xe s₁) X.xe s
theorem a4J(b:Expr)(h:op≠.In)(h2:op≠.NotIn):behindInMarks op b=false:=by
 have e1:(op==CmpOp.In)=false:=by cases op<;>first|rfl|exact absurd rfl h
 have e2:(op==CmpOp.NotIn)=false:=by cases op<;>first|rfl|exact absurd rfl h2
 cases b<;>simp[behindInMarks,e1,e2]
noncomputable def b8E(ta:TE):TE:=fun σ H Q=>ta σ H fun x H1=>Q (.bl (decide (x=.non))) H1
noncomputable def b6p(ta:TE):TE:=fun σ H Q=>ta σ H fun x H1=>Q (.bl (!decide (x=.non))) H1
theorem l8.none_iff{x:V}{v:Value}(r:l8 x v):(v==Value.none)=decide (x=.non):=by
 cases x with
 |non=>cases r;rfl
 |bl _=>cases r;rfl
 |int _=>obtain⟨t,rfl⟩:=r;rfl
 |str _=>obtain⟨t,rfl⟩:=r;rfl
 |byt _=>obtain⟨t,rfl⟩:=r;rfl
 |flt _=>obtain⟨t,rfl⟩:=r;rfl
 |ref _=>cases r;rfl
 |ty _=>cases r;rfl
theorem a9j{j pos'}(ha:PE X a ta):PC X .Is a (.Constant .none j pos') (b8E ta):=by
 intro pins s σ H Q I h;refine thn (ha pins s σ H _ I h) fun v s1 ⟨x,H1,I1,r1,q1⟩=>?_
 exact Constant_none (is_none_gen ⟨.bl _,H1,I1,by rw[r1.none_iff];rfl,q1⟩)
theorem a6t{j pos'}(ha:PE X a ta):PC X .IsNot a (.Constant .none j pos') (b6p ta):=by
 intro pins s σ H Q I h;refine thn (ha pins s σ H _ I h) fun v s1 ⟨x,H1,I1,r1,q1⟩=>?_
 exact Constant_none (isnot_none_gen ⟨.bl _,H1,I1,by rw[r1.none_iff];rfl,q1⟩)
noncomputable def tB(t:TE):TT:=fun σ H Q=>t σ H fun x H1=>∃c,x=.bl c/\Q c H1
theorem a9h{t:TE}(h:PC X op a b t)(h1:behindInMarks op b=false:=by first|exact a4J _ (by decide) (by decide)|rfl):PE X (.Compare a [op] [b] pos) t:=fun pins s σ H Q I hw=>wpAny_Compare1 (h pins s σ H Q I hw) h1
theorem a8N{t:TE}(h:PC X op a b t)(h1:behindInMarks op b=false:=by first|exact a4J _ (by decide) (by decide)|rfl):PT X (.Compare a [op] [b] pos) (tB t):=by
 intro pins s σ H Q I hw;refine wpAny_isTrue_Compare1 (thn (h pins s σ H _ I hw) fun v s1 h1=>thn h1 fun u s2 h2=>thn h2 fun c s3 ⟨x,H1,I1,r1,q1⟩=>?_) h1
 obtain⟨d,rfl,q⟩:=q1;cases r1;exact wpAny_truthy_bool ⟨H1,I1,q⟩
variable{tA tB':TT}{i7:List Expr}
noncomputable def b8J(t u:TT):TT:=fun σ H Q=>t σ H fun c H1=>if c=true then u σ H1 Q else Q false H1
noncomputable def tOr(t u:TT):TT:=fun σ H Q=>t σ H fun c H1=>if c=true then Q true H1 else u σ H1 Q
noncomputable def b8C(t:TT):TT:=fun σ H Q=>t σ H fun c H1=>Q (!c) H1
theorem b1p(ha:PT X a tA):PW X (.BoolOp .And [a] pos) tA:=by
 intro wh pins s σ H Q I h;refine isTrue_and (thn (ha pins s σ H Q I h) fun c s1 e=>?_)
 cases c with
 |true=>exact isTrue_and_nil e
 |false=>exact e
theorem b3L(ha:PT X a tA):PW X (.BoolOp .Or [a] pos) tA:=by
 intro wh pins s σ H Q I h;refine isTrue_or (thn (ha pins s σ H Q I h) fun c s1 e=>?_)
 cases c with
 |false=>exact isTrue_or_nil e
 |true=>exact e
theorem b3M(ha:PT X a tA)(hb:PW X (.BoolOp .And (b::i7) pos) tB'):PW X (.BoolOp .And (a::b::i7) pos) (b8J tA tB'):=by
 intro wh pins s σ H Q I h;refine isTrue_and (thn (ha pins s σ H _ I h) fun c s1 ⟨H1,I1,q1⟩=>?_)
 cases c with
 |true=>exact hb wh pins s1 σ H1 Q I1 q1
 |false=>exact⟨H1,I1,q1⟩
theorem b6J(ha:PT X a tA)(hb:PW X (.BoolOp .Or (b::i7) pos) tB'):PW X (.BoolOp .Or (a::b::i7) pos) (tOr tA tB'):=by
 intro wh pins s σ H Q I h;refine isTrue_or (thn (ha pins s σ H _ I h) fun c s1 ⟨H1,I1,q1⟩=>?_)
 cases c with
 |true=>exact⟨H1,I1,q1⟩
 |false=>exact hb wh pins s1 σ H1 Q I1 q1
theorem b3O(ha:PT X a tA):PT X (.UnaryOp .Not a pos) (b8C tA):=by
 intro pins s σ H Q I h;exact isTrue_not (ha pins s σ H (fun c H1=>Q (!c) H1) I h)
noncomputable def b6v(ta tb:TE):TE:=fun σ H Q=>ta σ H fun x H1=>∃c,x=.bl c/\if c=true then tb σ H1 Q else Q (.bl false) H1
noncomputable def b8B(ta tb:TE):TE:=fun σ H Q=>ta σ H fun x H1=>∃c,x=.bl c/\if c=true then Q (.bl true) H1 else tb σ H1 Q
noncomputable def b6o(ta:TE):TE:=fun σ H Q=>ta σ H fun x H1=>∃c,x=.bl c/\Q (.bl (!c)) H1
theorem b4a{op}{t:TE}(h:PE X a t):PE X (.BoolOp op [a] pos) t:=fun pins s σ H Q I hw=>BoolOp_one (h pins s σ H Q I hw)
theorem b4g(ha:PE X a ta)(hb:PE X (.BoolOp .And (b::i7) pos) tb):PE X (.BoolOp .And (a::b::i7) pos) (b6v ta tb):=by
 intro pins s σ H Q I h;refine BoolOp_and (thn (ha pins s σ H _ I h) fun v s1 ⟨x,H1,I1,r1,q1⟩=>?_)
 obtain⟨c,rfl,q1⟩:=q1;cases r1;refine wpAny_truthy_bool ?_
 cases c with
 |true=>exact hb pins s1 σ H1 Q I1 q1
 |false=>exact⟨.bl false,H1,I1,rfl,q1⟩
theorem b6M(ha:PE X a ta)(hb:PE X (.BoolOp .Or (b::i7) pos) tb):PE X (.BoolOp .Or (a::b::i7) pos) (b8B ta tb):=by
 intro pins s σ H Q I h;refine BoolOp_or (thn (ha pins s σ H _ I h) fun v s1 ⟨x,H1,I1,r1,q1⟩=>?_)
 obtain⟨c,rfl,q1⟩:=q1;cases r1;refine wpAny_truthy_bool ?_
 cases c with
 |false=>exact hb pins s1 σ H1 Q I1 q1
 |true=>exact⟨.bl true,H1,I1,rfl,q1⟩
theorem b4b(ha:PE X a ta):PE X (.UnaryOp .Not a pos) (b6o ta):=by
 intro pins s σ H Q I h;refine UnaryOp_ (thn (ha pins s σ H _ I h) fun v s1 ⟨x,H1,I1,r1,q1⟩=>?_)
 obtain⟨c,rfl,q1⟩:=q1;cases r1;exact not_of (wpAny_truthy_bool ⟨.bl (!c),H1,I1,rfl,q1⟩)
end
def SqL(K:PySem.W.Frag)(H:Hp)(a:Addr)(xs:List V):Prop:=
 Rd H a (.lst xs)∨
  ∃(o:Obj) (its:Array Value) (n:Nat),K.lookup a=some o/\o.cls=.type "list"/\o.dict=none/\o.data=.seq its n/\its.size<=sizeLine/\l7 xs its.toList
def SqT(K:PySem.W.Frag)(H:Hp)(a:Addr)(xs:List V):Prop:=
 Rd H a (.tup xs)∨
  ∃(o:Obj) (its:Array Value) (n:Nat),K.lookup a=some o/\o.cls=.type "tuple"/\o.data=.seq its n/\its.size<=sizeLine/\l7 xs its.toList
noncomputable def b9r:Value->Option V
 |.none=>some .non
 |.bool b=>some (.bl b)
 |.int i _=>some (.int i)
 |.str x _=>some (.str x)
 |.bytes b _=>some (.byt b)
 |.float b _=>some (.flt b)
 |.ref a=>some (.ref a)
 |.type n=>some (.ty n)
 |_=>none
theorem l8.abs{x:V}(r:l8 x u):b9r u=some x:=by
 cases x with
 |non=>cases r;rfl
 |bl _=>cases r;rfl
 |int _=>obtain⟨t,rfl⟩:=r;rfl
 |str _=>obtain⟨t,rfl⟩:=r;rfl
 |byt _=>obtain⟨t,rfl⟩:=r;rfl
 |flt _=>obtain⟨t,rfl⟩:=r;rfl
 |ref _=>cases r;rfl
 |ty _=>cases r;rfl
variable{y:V}
theorem l8.inj{x:V}(r:l8 x u)(q:l8 y u):x=y:=ax (r.abs.symm.trans q.abs)
theorem l7.inj:∀{xs ys:List V} {us:List Value},l7 xs us->l7 ys us->xs=ys
 |_,_,_,.nil,.nil=>rfl
 |_,_,_,.cons r t,.cons r' t'=>by rw[r.inj r',l7.inj t t']
variable{K:PySem.W.Frag}
section
variable{xs ys:List V}
theorem Inv.list(I:Inv X pins σ H s)(h:SqL X.K H a xs):∃its:List Value,l7 xs its/\PlainL s.heap a its.toArray/\xs.length<=sizeLine:=by
 rcases h with h|⟨o,its,n,hk,hc,hd,hs,hz,r⟩
 · obtain⟨z,its,n,r,e⟩:=h.ok I.hok;exact⟨its,r,⟨_,n,e,rfl,rfl,rfl⟩,z⟩
 · refine⟨its.toList,r,⟨o,n,I.kIn a o hk,hc,hd,by simpa using hs⟩,?_⟩
   have e:=r.length;simp only[Array.length_toList] at e;omega
theorem Inv.tuple(I:Inv X pins σ H s)(h:SqT X.K H a xs):∃its:List Value,l7 xs its/\IsTup s.heap a its.toArray/\xs.length<=sizeLine:=by
 rcases h with h|⟨o,its,n,hk,hc,hs,hz,r⟩
 · obtain⟨z,its,r,p⟩:=h.ok I.hok;exact⟨its,r,p.tup,z⟩
 · refine⟨its.toList,r,⟨o,I.kIn a o hk,hc,n,by simpa using hs⟩,?_⟩
   have e:=r.length;simp only[Array.length_toList] at e;omega
theorem Inv.list_inj(I:Inv X pins σ H s)(h:SqL X.K H a xs)(h':SqL X.K H a ys):xs=ys:=by
 obtain⟨its,r,⟨o,n,e,_,_,d⟩,_⟩:=I.list h;obtain⟨its',r',⟨o',n',e',_,_,d'⟩,_⟩:=I.list h';rw[e] at e';cases e'
 rw[d] at d'
 injection d' with d1 _
 have:its=its':=by simpa using congrArg Array.toList d1
 subst this;exact r.inj r'
theorem Inv.tuple_inj(I:Inv X pins σ H s)(h:SqT X.K H a xs)(h':SqT X.K H a ys):xs=ys:=by
 obtain⟨its,r,⟨o,e,_,n,d⟩,_⟩:=I.tuple h;obtain⟨its',r',⟨o',e',_,n',d'⟩,_⟩:=I.tuple h';rw[e] at e';cases e'
 rw[d] at d'
 injection d' with d1 _
 have:its=its':=by simpa using congrArg Array.toList d1
 subst this;exact r.inj r'
end
abbrev Cx.wish(X:Cx)(E:Value->Shared->Prop):Cx:={X with xe:=E}
abbrev Cx.nox(X:Cx):Cx:=X.wish fun _ _=>False
theorem Cx.Ok.wish(ok:X.Ok)(E:Value->Shared->Prop):(X.wish E).Ok:=
 ⟨ok.mod,ok.kind,ok.glob,ok.blt,ok.above,ok.inj,ok.has,ok.cab,ok.hd,ok.frames,ok.stk,ok.exf,ok.bs,ok.bsz,ok.noex,ok.exfs,ok.funs,ok.frf⟩
theorem Cx.Ok.unwish{E:Value->Shared->Prop}(ok:(X.wish E).Ok):X.Ok:=
 ⟨ok.mod,ok.kind,ok.glob,ok.blt,ok.above,ok.inj,ok.has,ok.cab,ok.hd,ok.frames,ok.stk,ok.exf,ok.bs,ok.bsz,ok.noex,ok.exfs,ok.funs,ok.frf⟩
section
variable{E:Value->Shared->Prop}
theorem Inv.wish(I:Inv X pins σ H s)(E:Value->Shared->Prop):Inv (X.wish E) pins σ H s:=⟨I.ok.wish E,I.os,I.bare,I.base,I.loc,I.cell,I.free,I.freeC,I.pin,I.hok,I.len⟩
theorem Inv.unwish(I:Inv (X.wish E) pins σ H s):Inv X pins σ H s:=⟨I.ok.unwish,I.os,I.bare,I.base,I.loc,I.cell,I.free,I.freeC,I.pin,I.hok,I.len⟩
end
variable{tc:TT}
section
variable{st:Stmt}{i7:List Stmt}{t u:TS}{te:TE}
def b6q:TS:=fun D σ H=>D.nx σ H
noncomputable def b8z(t u:TS):TS:=fun D σ H=>t {D with nx:=u D} σ H
theorem b1r:PSs X [] b6q:=fun _ _ σ H _ I h=>wpAny_execs_nil ⟨σ,H,I,h⟩
theorem a8P(h1:PS X st t)(h2:PSs X i7 u):PSs X (st::i7) (b8z t u):=by
 intro pins s σ H D I h;refine wpAny_execs_cons (thn (h1 pins s σ H {D with nx:=u D} I h) fun f s1 q=>?_)
 cases f with
 |next=>
  obtain⟨σ',H',I',q⟩:=q;exact h2 pins s1 σ' H' D I' q
 |ret v=>exact q
 |brk=>exact q
 |cont=>exact q
theorem b1q(h1:PS X st t):PSs X [st] t:=by
 intro pins s σ H D I h;refine wpAny_execs_cons (thn (h1 pins s σ H D I h) fun f s1 q=>?_)
 cases f with
 |next=>exact wpAny_execs_nil q
 |ret v=>exact q
 |brk=>exact q
 |cont=>exact q
theorem Inv.quiet(I:Inv X pins σ H s):interactive X.env=false:=by simp[interactive,I.ok.kind]
noncomputable def b6s(te:TE):TS:=fun D σ H=>te σ H fun _ H1=>D.nx σ H1
theorem b1t(he:PE X e te)(hs:swapsWith e none pos.line X.env=pure false:=by rfl):PS X (.Expr e pos) (b6s te):=by
 intro pins s σ H D I h;exact wpAny_Expr_any (thn (he pins s σ H _ I h) fun v s1 ⟨x,H1,I1,r1,q1⟩=>⟨σ,H1,I1,q1⟩) I.quiet hs
noncomputable def b8A(te:TE):TS:=fun D σ H=>te σ H D.rt
theorem b3Q(he:PE X e te):PS X (.Return (some e) pos) (b8A te):=by
 intro pins s σ H D I h;exact wpAny_Return_some (thn (he pins s σ H _ I h) fun v s1 ⟨x,H1,I1,r1,q1⟩=>⟨x,σ,H1,I1,r1,q1⟩)
noncomputable def b8F(c:TT)(t u:TS):TS:=fun D σ H=>c σ H fun b H1=>if b=true then t D σ H1 else u D σ H1
theorem b6K{a b:List Stmt}(hc:PT X c tc)(ha:PSs X a t)(hb:PSs X b u):PS X (.If c a b pos) (b8F tc t u):=by
 intro pins s σ H D I h;refine wpAny_If (thn (hc pins s σ H _ I h) fun d s1 ⟨H1,I1,q1⟩=>?_)
 cases d with
 |true=>exact ha pins s1 σ H1 D I1 q1
 |false=>exact hb pins s1 σ H1 D I1 q1
end
abbrev TG:=V->St->Hp->(St->Hp->Prop)->Prop
abbrev TGs:=List V->St->Hp->(St->Hp->Prop)->Prop
def PG(X:Cx)(target:Expr)(t:TG):Prop:=
 ∀(pins:List (Addr×Obj)) (s:Shared) (σ:St) (H:Hp) (v:V) (u:Value) (Q:St->Hp->Prop),Inv X pins σ H s->l8 v u->t v σ H Q→
  wpAny (model X.prog X.w) X.A (assign target X.env u) (fun _ s'=>∃σ' H',Inv X pins σ' H' s'/\Q σ' H') X.xe s
def PGs(X:Cx)(ts:List Expr)(t:TGs):Prop:=
 ∀(pins:List (Addr×Obj)) (s:Shared) (σ:St) (H:Hp) (vs:List V) (us:List Value) (Q:St->Hp->Prop),Inv X pins σ H s->l7 vs us->t vs σ H Q→
  wpAny (model X.prog X.w) X.A (assignInOrder ((assignEach ts X.env).map (·.2)) us) (fun _ s'=>∃σ' H',Inv X pins σ' H' s'/\Q σ' H') X.xe s
abbrev b6a:=V->V->V->Hp->(Hp->Prop)->Prop
def b6b(X:Cx)(t:b6a):Prop:=
 ∀(pins:List (Addr×Obj)) (s:Shared) (σ:St) (H:Hp) (o i v:V) (ov iv u:Value) (Q:Hp->Prop),Inv X pins σ H s->l8 o ov->l8 i iv->l8 v u->t o i v H Q→
  wpAny (model X.prog X.w) X.A (setItem ov iv u) (fun _ s'=>∃H',Inv X pins σ H' s'/\Q H') X.xe s
variable{es:List Expr}{n:Nat}{to:TE}{ti:TE}{tg:Expr}{te:TE}{pos':Pos}{ta:TA}
section
noncomputable def a4R(i:Nat):TG:=fun v σ H Q=>Q (σ.set i (some v)) H
theorem b1C(hN:X.N.Nodup)(hi:X.N[i]? =some x)(hx:Loc X.env.scope x)(hf:X.fn x=true∨X.env.scope.names.lookup x=some .local:=by first|exact .inl rfl|exact .inr rfl|assumption):PG X (.Name x pos) (a4R i):=by
 intro pins s σ H v u Q I r h;exact wpAny_assign_Name (a1E I hN hi hx r (fun s' I'=>⟨_,H,I',h⟩) hf)
def b9g:TGs:=fun vs σ H Q=>vs=[]/\Q σ H
noncomputable def b7q(t:TG)(u:TGs):TGs:=fun vs σ H Q=>∃v r,vs=v::r/\t v σ H fun σ' H'=>u r σ' H' Q
theorem b1B:PGs X [] b9g:=by
 intro pins s σ H vs us Q I r h;obtain⟨e,h⟩:=h;subst e;cases r;exact assignInOrder_nil ⟨σ,H,I,h⟩
theorem a8Z{t:TG}{u:TGs}(h1:PG X e t)(h2:PGs X es u)
 (hs:(assignEach (e::es) X.env).map (·.2)=assign e X.env::(assignEach es X.env).map (·.2):=by rfl):PGs X (e::es) (b7q t u):=by
 intro pins s σ H vs us Q I r h;obtain⟨v,vr,e1,h⟩:=h;subst e1
 cases r with
 |cons r rr=>
  rw[hs];refine assignInOrder_cons (thn (h1 pins s σ H _ _ _ I r h) fun _ s1 ⟨σ1,H1,I1,q1⟩=>?_)
  exact h2 pins s1 σ1 H1 _ _ Q I1 rr q1
noncomputable def b9e(K:PySem.W.Frag)(n:Nat)(t:TGs):TG:=fun v σ H Q=>∃a xs,v=.ref a/\SqT K H a xs/\xs.length=n/\t xs σ H Q
theorem b3Y{k:Nat}{t:TGs}(hc:X.calm=true)(h:PGs X es t)
 (hn:(assignEach es X.env).length=n:=by rfl) (hst:(assignEach es X.env).findIdx? (·.1)=none:=by rfl):PG X (.Tuple es k pos) (b9e X.K n t):=by
 intro pins s σ H v u Q I r hw;obtain⟨a,xs,e1,hq,hl,hw⟩:=hw;subst e1;cases r;obtain⟨its,rv,ht,hz⟩:=I.tuple hq;refine assign_Tuple_tuple (I.ok.hd hc) ht (by simp[hn,←hl,rv.length]) hst fun h' hx=>?_
 have I1:Inv X pins σ H {s with heap:=h'}:=I.kept (t':=s.toks) fun b o e=>hx b o (Nat.ne_of_lt (Heap.lt_size e)) e
 exact h pins _ σ H xs _ Q I1 (by simpa using rv) hw
noncomputable def b7p(to ti:TE)(t:b6a):TG:=fun v σ H Q=>to σ H fun o H1=>ti σ H1 fun i H2=>t o i v H2 fun H3=>Q σ H3
theorem b3Z{o i:Expr}{t:b6a}(ho:PE X o to)(hi:PE X i ti)(hs:b6b X t)
 (ha:∀v,assign (.Subscript o i pos) X.env v=(do
  let ov←holding [v] (eval o X.env)
  let iv←holding [v,ov] (eval i X.env)
  standAt pos
  holding [v,ov,iv] (setItem ov iv v)
  release [v,ov,iv] []):=by intro _;rfl):PG X (.Subscript o i pos) (b7p to ti t):=by
 intro pins s σ H v u Q I r h;rw[ha];refine wpAny_bind (wpAny_holding (thn (ho pins s σ H _ I h) fun ov s1 ⟨x,H1,I1,r1,q1⟩=>?_))
 refine wpAny_bind (wpAny_holding (thn (hi pins s1 σ H1 _ I1 q1) fun iv s2 ⟨y,H2,I2,r2,q2⟩=>?_))
 refine wpAny_bind (wpAny_standAt (wpAny_bind (wpAny_holding (thn (hs pins s2 σ H2 x y v ov iv u _ I2 r1 r2 r q2) fun _ s3 ⟨H3,I3,q3⟩=>?_))))
 exact wpAny_release ⟨σ,H3,I3,q3⟩
noncomputable def a8w(te:TE)(g:TG):TS:=fun D σ H=>te σ H fun x H1=>g x σ H1 D.nx
theorem a8T{g:TG}(he:PE X e te)(hg:PG X tg g)(hs:swapsWithSole [tg] e pos.line X.env=pure false:=by rfl)(hw:swappedStores [tg] e X.env=pure none:=by rfl)
 (h1:(assignEach [tg] X.env).map (·.2)=[assign tg X.env]:=by rfl):PS X (.Assign [tg] e pos) (a8w te g):=by
 intro pins s σ H D I h;refine wpAny_Assign_stores (thn (he pins s σ H _ I h) fun v s1 ⟨x,H1,I1,r1,q1⟩=>?_) hs hw
 rw[h1];exact thn (hg pins s1 σ H1 x v _ I1 r1 q1) fun _ s2 q=>q
theorem a3F(hN:X.N.Nodup)(hi:X.N[i]? =some x)(hx:Loc X.env.scope x)(he:PE X e te)(hs:swapsWith e (some (.Name x pos')) pos.line X.env=pure false:=by rfl)(hf:X.fn x=true∨X.env.scope.names.lookup x=some .local:=by first|exact .inl rfl|exact .inr rfl|assumption):
 PS X (.Assign [.Name x pos'] e pos) (a8w te (a4R i)):=by
 intro pins s σ H D I h;refine wpAny_Assign_Name (thn (he pins s σ H _ I h) fun v s1 ⟨y,H1,I1,r1,q1⟩=>?_) hs
 exact a1E I1 hN hi hx r1 (fun s2 I2=>⟨_,H1,I2,q1⟩) hf
end
variable{body:List Stmt}{tb:TS}
section
noncomputable def b3y(c:TT)(tb:TS):TS:=fun D σ H=>∃W:Nat->St->Hp->Prop,(∃m,W m σ H)/\∀m σ H,W m σ H→
 c σ H fun b H1=>if b=true then∃N:St->Hp->Prop,(∀σ' H',N σ' H'->∃m',m'<m/\W m' σ' H')/\tb {D with nx:=N,ct:=N,bk:=D.nx} σ H1 else D.nx σ H1
theorem a8Q(hp:PassesOwn (model X.prog X.w) X.A X.env X.xe)(hc:PT X c tc)(hb:PSs X body tb):PS X (.While c body [] pos) (b3y tc tb):=by
 intro pins s σ H D I h;obtain⟨W,⟨m0,w0⟩,turn⟩:=h;refine wpAny_While (codeAny_whileLoop (fun n s'=>∃σ' H',Inv X pins σ' H' s'/\W n σ' H') ?_ m0 ⟨σ,H,I,w0⟩)
 rintro n s1 ⟨σ1,H1,I1,w1⟩;refine wpAny_passesOwn hp (thn (hc pins s1 σ1 H1 _ I1 (turn n σ1 H1 w1)) fun b s2 ⟨H2,I2,q2⟩=>?_)
 cases b with
 | true=>
  obtain⟨N,hN,q2⟩:=q2;rw[ay rfl];refine wpAny_passesOwn hp (thn (hb pins s2 σ1 H2 _ I2 q2) fun f s3 q3=>?_)
  cases f with
  |next=>
   obtain⟨σ3,H3,I3,n3⟩:=q3;obtain⟨m',hm,w3⟩:=hN σ3 H3 n3;exact⟨m',hm,σ3,H3,I3,w3⟩
  |cont=>
   obtain⟨σ3,H3,I3,n3⟩:=q3;obtain⟨m',hm,w3⟩:=hN σ3 H3 n3;exact⟨m',hm,σ3,H3,I3,w3⟩
  |brk=>exact q3
  |ret v=>exact q3
 |false=>
  rw[az bx];exact wpAny_execs_nil ⟨σ1,H2,I2,q2⟩
end
structure It where
 go:Nat->Hp->Prop
 yld:Nat->Hp->V->Hp->Prop
 stop:Nat->Hp->Prop
def a0c(X:Cx)(pins:List (Addr×Obj))(H:Hp)(b:Addr):Prop:=
 H b=none/\b≠X.env.locals/\b∉X.fs/\(b∈X.ex∨X.s₀.heap.objs.size<=b)/\(∀x c,X.env.cells.lookup x=some c->c≠b)/\∀p∈X.pn++pins,p.1≠b
variable{H':Hp}
theorem Inv.fpOk(I:Inv X pins σ H s)(hb:s.heap.objs.size<=b)(hn:H' b=none):a0c X pins H' b:=by
 refine⟨hn,Nat.ne_of_gt (aC I.lt hb),I.nofs hb,.inr (aY I.sz hb),fun x c e z=>?_,fun p hp z=>?_⟩
 · obtain⟨v,q⟩:=I.cell x c e;exact absurd (aC q.lt (by rw[z];exact hb)) (aX _)
 · exact absurd (aC (Heap.lt_size (I.pin p hp).1) (by rw[z];exact hb)) (aX _)
structure Turn(P:Program)(w:World)(K:PySem.W.Frag)(tg:Expr)(J:It)(fp:List Addr)(it:Addr)(tn:Nat->Heap->Prop):Prop where
 mem:it∈fp
 obj:∀i h,tn i h->∀b∈fp,∃o,h.get? b=some o/\∀v,o.data≠.cell v
 keep:∀i h h',tn i h->(∀b∈fp,∀o,h.get? b=some o->h'.get? b=some o)->tn i h'
 item:∀(X:Cx),X.prog=P->X.w=w->X.K=K->X.calm=true->∀(i:Nat) (pins:List (Addr×Obj)) (s:Shared) (σ:St) (H:Hp) (E:Value->Shared->Prop),Inv X pins σ H s->(∀b∈fp,a0c X pins H b)->tn i s.heap->J.go i H→
  wpAny (model P w) X.A (pyNext (.ref it)) (fun r s1=>∃u,r=some u∧
   wpAny (model P w) X.A (letOwnedTupleGo tg (.ref it) u) (fun _ s2=>∃x H',Inv X pins σ H' s2/\l8 x u/\J.yld i H x H'/\tn (i+1) s2.heap/\∀b∈fp,H' b=none) E s1) E s
 done:∀(X:Cx),X.prog=P->X.w=w->X.K=K->X.calm=true->∀(i:Nat) (pins:List (Addr×Obj)) (s:Shared) (σ:St) (H:Hp) (E:Value->Shared->Prop),Inv X pins σ H s->(∀b∈fp,a0c X pins H b)->tn i s.heap->J.stop i H→
  wpAny (model P w) X.A (pyNext (.ref it)) (fun r s1=>r=none/\Inv X pins σ H s1) E s
 self:∀(A:Around) (i:Nat) (s:Shared) (Q:Value->Shared->Prop) (E:Value->Shared->Prop),tn i s.heap->Q (.ref it) s->wpAny (model P w) A (pyIter (.ref it)) Q E s
abbrev TI:=St->Hp->(It->Hp->Prop)->Prop
def PIE(X:Cx)(pins:List (Addr×Obj))(σ:St)(tg:Expr)(R:It->Hp->Prop)(itv:Value)(s2:Shared):Prop:=
 ∃(it:Addr) (fp:List Addr) (tn:Nat->Heap->Prop) (J:It) (H':Hp),itv=.ref it/\Inv X pins σ H' s2/\Turn X.prog X.w X.K tg J fp it tn/\tn 0 s2.heap/\(∀b∈fp,a0c X pins H' b)/\R J H'
def PI(X:Cx)(tg iter:Expr)(wi:TI):Prop:=
 ∀(pins:List (Addr×Obj)) (s:Shared) (σ:St) (H:Hp) (R:It->Hp->Prop),Inv X pins σ H s->wi σ H R→
  wpAny (model X.prog X.w) X.A (eval iter X.env) (fun v s1=>wpAny (model X.prog X.w) X.A (pyIter v) (PIE X pins σ tg R) X.xe s1) X.xe s
theorem a6O{E:Value->Shared->Prop}{o:Obj}{n:String}{vs:Array Value}{Q:Unit->Shared->Prop}(ho:s.heap.get? it=some o)(hc:o.cls=.type n)(hd:o.data=.fields vs)
   (hn:["enumerate","zip","dict_itemiterator","dict_reverseitemiterator","odict_iterator","itertools.zip_longest","itertools.pairwise"].contains n=false) (hQ:Q () s):wpAny M A (letOwnedTupleGo tg (.ref it) u) Q E s:=by
 unfold letOwnedTupleGo
 cases tg <;>first
   |exact wpAny_pure hQ
   |(cases u<;>first
       |exact wpAny_pure hQ
       | (refine wpAny_bind (wpAny_load ho ?_)
          rw[hc,hd]
          show wpAny M A (if(["enumerate","zip","dict_itemiterator","dict_reverseitemiterator","odict_iterator","itertools.zip_longest","itertools.pairwise"].contains n&&vs[0]? ==some (rawInt _))=true then _ else _) Q E s
          rw[az (by intro h;rw[hn,Bool.false_and] at h;cases h)]
          exact wpAny_pure hQ))
noncomputable def Itl(K:PySem.W.Frag)(a:Addr):It:=
 ⟨fun i H=>∃xs x,SqL K H a xs/\xs[i]? =some x,fun i H x H'=>H'=H/\∀xs,SqL K H a xs->xs[i]? =some x,fun i H=>∃xs,SqL K H a xs/\xs.length<=i⟩
noncomputable def Itt(K:PySem.W.Frag)(a:Addr):It:=
 ⟨fun i H=>∃xs x,SqT K H a xs/\xs[i]? =some x,fun i H x H'=>H'=H/\∀xs,SqT K H a xs->xs[i]? =some x,fun i H=>∃xs,SqT K H a xs/\xs.length<=i⟩
noncomputable def Itr(lo:Int)(n:Nat):It:=⟨fun i _=>i<n,fun i H x H'=>H'=H/\x=.int (lo+i),fun i _=>n<=i⟩
theorem a7j(a it:Addr):Turn P w K tg (Itl K a) [it] it (fun i h=>h.IsListIter it a i) where
 mem:=by simp
 obj:=fun i h st b hb=>by
  have e:b=it:=by simpa using hb
  subst e;obtain⟨o,e,c,d⟩:=st;exact⟨o,e,fun v z=>by rw[d] at z;cases z⟩
 keep:=fun i h h' st k=>st.at fun o e=>k it (by simp) o e
 item:=by
  intro X hP hw hK hc i pins s σ H E I hf st hg;subst hP hw hK;obtain⟨xs,x,hq,hx⟩:=hg;obtain⟨its,rv,p,hz⟩:=I.list hq;obtain⟨u,hu,ru⟩:=rv.get hx;obtain⟨f0,f1,f2,f3,f4,f5⟩:=hf it (by simp)
  refine wpAny_pyNext_list_item st p.isList (x:=u) (by simpa using hu) fun h' st' sb=>?_
  have I1:Inv X pins σ H {s with heap:=h'}:=I.turned (t':=s.toks) (fun b o hb e=>(sb.2 b hb).trans e) f0 f1 f3 f4 f5
  obtain⟨o,e,c,d⟩:=id st';exact⟨u,rfl,a6O (s:={s with heap:=h'}) e c d (by decide) ⟨x,H,I1,ru,⟨rfl,fun ys hy=>by rw[I.list_inj hy hq];exact hx⟩,st',fun b hb=>(hf b hb).1⟩⟩
 done:=by
  intro X hP hw hK hc i pins s σ H E I hf st hg;subst hP hw hK;obtain⟨xs,hq,hx⟩:=hg;obtain⟨its,rv,p,hz⟩:=I.list hq;obtain⟨f0,f1,f2,f3,f4,f5⟩:=hf it (by simp)
  have hl:=rv.length;exact wpAny_pyNext_list_end (I.ok.hd hc) st p.isList (by simp;omega) fun h' eb=>⟨rfl,I.turned (t':=s.toks) (fun b o hb e=>eb b o hb e) f0 f1 f3 f4 f5⟩
 self:=fun _ _ _ _ _ st h=>wpAny_pyIter_listiter st h
theorem a5s(a it:Addr):Turn P w K tg (Itt K a) [it] it (fun i h=>h.IsTupleIter it a i) where
 mem:=by simp
 obj:=fun i h st b hb=>by
  have e:b=it:=by simpa using hb
  subst e;obtain⟨o,e,c,d⟩:=st;exact⟨o,e,fun v z=>by rw[d] at z;cases z⟩
 keep:=fun i h h' st k=>st.at fun o e=>k it (by simp) o e
 item:=by
  intro X hP hw hK hc i pins s σ H E I hf st hg;subst hP hw hK;obtain⟨xs,x,hq,hx⟩:=hg;obtain⟨its,rv,p,hz⟩:=I.tuple hq;obtain⟨u,hu,ru⟩:=rv.get hx;obtain⟨f0,f1,f2,f3,f4,f5⟩:=hf it (by simp)
  refine wpAny_pyNext_tuple_item st (show s.heap.IsTuple a its.toArray from p) (x:=u) (by simpa using hu) fun h' st' sb=>?_
  have I1:Inv X pins σ H {s with heap:=h'}:=I.turned (t':=s.toks) (fun b o hb e=>(sb.2 b hb).trans e) f0 f1 f3 f4 f5
  obtain⟨o,e,c,d⟩:=id st';exact⟨u,rfl,a6O (s:={s with heap:=h'}) e c d (by decide) ⟨x,H,I1,ru,⟨rfl,fun ys hy=>by rw[I.tuple_inj hy hq];exact hx⟩,st',fun b hb=>(hf b hb).1⟩⟩
 done:=by
  intro X hP hw hK hc i pins s σ H E I hf st hg;subst hP hw hK;obtain⟨xs,hq,hx⟩:=hg;obtain⟨its,rv,p,hz⟩:=I.tuple hq;obtain⟨f0,f1,f2,f3,f4,f5⟩:=hf it (by simp)
  have hl:=rv.length;exact wpAny_pyNext_tuple_end (I.ok.hd hc) st (show s.heap.IsTuple a its.toArray from p) (by simp;omega) fun h' eb=>⟨rfl,I.turned (t':=s.toks) (fun b o hb e=>eb b o hb e) f0 f1 f3 f4 f5⟩
 self:=fun _ _ _ _ _ st h=>wpAny_pyIter_tupleiter st h
theorem a5t(it:Addr)(lo:Int)(n:Nat):Turn P w K tg (Itr lo n) [it] it (fun i h=>IsRangeIter h it (lo+(i:Nat)*1) ((n:Int)-(i:Nat)) 1) where
 mem:=by simp
 obj:=fun i h st b hb=>by
  have e:b=it:=by simpa using hb
  subst e
  exact⟨_,st,fun v z=>by
   have z':Data.fields _=Data.cell v:=z
   cases z'⟩
 keep:=fun i h h' st k=>k it (by simp) _ st
 item:=by
  intro X hP hw hK hc i pins s σ H E I hf st hg;subst hP hw hK;obtain⟨f0,f1,f2,f3,f4,f5⟩:=hf it (by simp)
  have W:=Walks.range (prog:=X.prog) (w:=X.w) (I.ok.hd hc) it lo 1 n;refine W.item i s _ _ hg st fun v h' tk hv st' kk=>?_
  obtain⟨t,rfl⟩:=hv
  have I1:Inv X pins σ H {s with heap:=h',toks:=tk}:=I.turned (fun b o hb e=>kk b o (by simpa using hb) e) f0 f1 f3 f4 f5
  refine⟨_,rfl,a6O (s:={s with heap:=h',toks:=tk}) (n:="range_iterator") st' rfl rfl (by decide) ⟨.int (lo+i),H,I1,⟨t,?_⟩,⟨rfl,rfl⟩,st',fun b hb=>(hf b hb).1⟩⟩
  rw[Int.mul_one]
 done:=by
  intro X hP hw hK hc i pins s σ H E I hf st hg;subst hP hw hK;obtain⟨f0,f1,f2,f3,f4,f5⟩:=hf it (by simp)
  exact wpAny_pyNext_range_end (I.ok.hd hc) st (by have:n<=i:=hg;omega) fun h' eb=>⟨rfl,I.turned (t':=s.toks) (fun b o hb e=>eb b o hb e) f0 f1 f3 f4 f5⟩
 self:=fun _ _ _ _ _ st h=>wpAny_pyIter_rangeiter st h
variable{lo:Int}{p:Pos}{fp:List Addr}{iter:Expr}
section
def b7k(K:PySem.W.Frag)(tl:TE):TI:=fun σ H R=>tl σ H fun x H1=>∃a,x=.ref a/\(∃xs,SqL K H1 a xs)/\R (Itl K a) H1
def b9b(K:PySem.W.Frag)(tl:TE):TI:=fun σ H R=>tl σ H fun x H1=>∃a,x=.ref a/\(∃xs,SqT K H1 a xs)/\R (Itt K a) H1
theorem a6s{l:Expr}{tl:TE}(hl:PE X l tl):PI X tg l (b7k X.K tl):=by
 intro pins s σ H R I h;refine thn (hl pins s σ H _ I h) fun v s1 ⟨x,H1,I1,r1,q1⟩=>?_
 obtain⟨a,e,⟨xs,hq⟩,q⟩:=q1;subst e;cases r1;obtain⟨its,rv,p,hz⟩:=I1.list hq;refine wpAny_pyIter_list p.isList ?_
 refine⟨s1.heap.objs.size,[s1.heap.objs.size],_,_,H1,rfl,I1.kept (t':=s1.toks) fun b o e=>Heap.get?_push_of_some _ e,a7j a _,⟨_,Heap.get?_push_size _ rfl,rfl,rfl⟩,fun b hb=>?_,q⟩
 have e:b=s1.heap.objs.size:=by simpa using hb
 subst e;exact I1.fpOk (ai _) (I1.hok.fresh (ai _))
theorem b3W{l:Expr}{tl:TE}(hl:PE X l tl):PI X tg l (b9b X.K tl):=by
 intro pins s σ H R I h;refine thn (hl pins s σ H _ I h) fun v s1 ⟨x,H1,I1,r1,q1⟩=>?_
 obtain⟨a,e,⟨xs,hq⟩,q⟩:=q1;subst e;cases r1;obtain⟨its,rv,p,hz⟩:=I1.tuple hq;refine wpAny_pyIter_tuple (show s1.heap.IsTuple a its.toArray from p) ?_
 refine⟨s1.heap.objs.size,[s1.heap.objs.size],_,_,H1,rfl,I1.kept (t':=s1.toks) fun b o e=>Heap.get?_push_of_some _ e,a5s a _,⟨_,Heap.get?_push_size _ rfl,rfl,rfl⟩,fun b hb=>?_,q⟩
 have e:b=s1.heap.objs.size:=by simpa using hb
 subst e;exact I1.fpOk (ai _) (I1.hok.fresh (ai _))
theorem a8J{R:It->Hp->Prop}{E:Value->Shared->Prop}{hi:Int}{t u v:Tok}{tk:Nat}(I:Inv X pins σ H s)(h1: -(2^62)<=lo)(h2:lo<2^62)(h3: -(2^62)<=hi)(h4:hi<2^62)
 (q:R (Itr lo (hi-lo).toNat) H):wpAny (model X.prog X.w) X.A (pyIter (.ref s.heap.objs.size)) (PIE X pins σ tg R) E {s with heap:=s.heap.push {cls:=.type "range",data:=.fields #[.int lo t,.int hi u,.int 1 v]},toks:=tk}:=by
 refine wpAny_pyIter_range (IsRange.new ..) (small_one h1 h2 h3 h4) ?_
 have I1:Inv X pins σ H {s with heap:=s.heap.push {cls:=.type "range",data:=.fields #[.int lo t,.int hi u,.int 1 v]},toks:=tk}:=I.kept fun b o e=>Heap.get?_push_of_some _ e
 refine⟨(s.heap.push {cls:=.type "range",data:=.fields #[.int lo t,.int hi u,.int 1 v]}).objs.size,[(s.heap.push {cls:=.type "range",data:=.fields #[.int lo t,.int hi u,.int 1 v]}).objs.size],_,_,H,rfl,
  I1.kept (t':=tk) fun b o e=>Heap.get?_push_of_some _ e,a5t _ lo (hi-lo).toNat,?_,fun b hb=>?_,q⟩
 · have e1:lo+((0:Nat):Int)*1=lo:=by simp
   have e2:(((hi-lo).toNat:Nat):Int)-((0:Nat):Int)=Builtin.Range.rangeSize lo hi 1:=by rw[rangeSize_one];split<;>omega
   show IsRangeIter _ _ (lo+((0:Nat):Int)*1) ((((hi-lo).toNat:Nat):Int)-((0:Nat):Int)) 1
   rw[e1,e2];exact Heap.get?_push_size _ rfl
 · have e:b=(s.heap.push {cls:=.type "range",data:=.fields #[.int lo t,.int hi u,.int 1 v]}).objs.size:=by simpa using hb
   subst e;exact I1.fpOk (ai _) (I1.hok.fresh (ai _))
def b7j(ta:TA):TI:=fun σ H R=>ta σ H fun vs H1=>∃j:Int,vs=[.int j]/\ -(2^62)<=j/\j<2^62/\R (Itr 0 j.toNat) H1
theorem a7w{a:Expr}(hg:Gl X "range")(hm:X.mg "range"=none)(ha:PA X [a] ta)(hs:starEach [a] X.env=[(false,eval a X.env)]:=by rfl):PI X tg (.Call (.Name "range" p) [a] [] pos) (b7j ta):=by
 intro pins s σ H R I h;refine Call_ (Y9 I hg hm boot_range (PyProof.Rows.callWith_type1 (thn (ha pos pins s σ H _ I h) fun us s1 ⟨vs,H1,I1,r1,q1⟩=>?_) hs rfl))
 obtain⟨j,e,q1,q2,q⟩:=q1;subst e
 cases r1 with
 |cons r rr=>
  cases rr;obtain⟨t,rfl⟩:=r;exact call_range_1 (a8J I1 (by omega) (by omega) q1 q2 (by simpa using q))
noncomputable def b8G(wi:TI)(g:TG)(tb:TS):TS:=fun D σ H=>wi σ H fun J H1=>∃W:Nat->Nat->St->Hp->Prop,(∃m,W 0 m σ H1)/\∀i m σ H,W i m σ H→
 (J.stop i H/\D.nx σ H)∨(J.go i H/\∃N:St->Hp->Prop,(∀σ' H',N σ' H'->∃m',m'<m/\W (i+1) m' σ' H')/\∀x H',J.yld i H x H'->g x σ H' fun σ2 H2=>tb {D with nx:=N,ct:=N,bk:=D.nx} σ2 H2)
noncomputable def a1I(fp:List Addr)(h:Heap):List (Addr×Obj):=fp.filterMap fun b=>(h.get? b).map fun o=>(b,o)
theorem P8{o:Obj}(hb:b∈fp)(e:h.get? b=some o):(b,o)∈a1I fp h:=bB.mpr ⟨b,hb,by rw[e];rfl⟩
theorem a7z{p:Addr×Obj}(hp:p∈a1I fp h):p.1∈fp/\h.get? p.1=some p.2:=by
 obtain⟨b,hb,e⟩:=bB.mp hp
 cases q:h.get? b with
 |none=>rw[q] at e;cases e
 |some o=>
  rw[q] at e
  have e':(b,o)=p:=ax e
  subst e';exact⟨hb,q⟩
theorem Inv.pinned(I:Inv X pins σ H s)(hf:∀b∈fp,a0c X pins H b)(ho:∀b∈fp,∃o,s.heap.get? b=some o/\∀v,o.data≠.cell v):Inv X (pins++a1I fp s.heap) σ H s:=
 I.pins_of fun p hp=>(aO.mp hp).elim (fun z=>I.pin p (mem_append_right _ z)) fun z=>by
  obtain⟨hb,e⟩:=a7z z;obtain⟨f0,f1,f2,_⟩:=hf p.1 hb;obtain⟨o,e',d⟩:=ho p.1 hb;rw[e] at e';cases e'
  exact⟨e,f0,f1,f2,d⟩
theorem Inv.unpinned{pl:List (Addr×Obj)}(I:Inv X (pins++pl) σ H s):Inv X pins σ H s:=I.pins_of fun p hp=>I.pin p (mem_append_right _ (List.mem_append_left _ hp))
theorem b3R{wi:TI}{g:TG}(hp:PassesOwn (model X.prog X.w) X.A X.env X.xe)(hc:X.calm=true)(hi:PI X tg iter wi)(hg:PG X tg g)(hb:PSs X body tb)
 (hs:∀x,foldedSetIterable iter X.env x=pure x:=by intro _;rfl):PS X (.For tg iter body [] pos) (b8G wi g tb):=by
 intro pins s σ H D I h;refine wpAny_For (thn (hi pins s σ H _ I h) fun v s1 h1=>thn h1 fun itv s2 h2=>?_) hs
 obtain⟨it,fp,tn,J,H2,e,I2,T,st2,f2,W,⟨m0,w0⟩,turn⟩:=h2;subst e
 -- what stays true of the iterator's objects through the loop
 have stat:∀{H':Hp},(∀b∈fp,H' b=none)->∀b∈fp,a0c X pins H' b:=fun hn b hb=>⟨hn b hb,(f2 b hb).2⟩
 refine codeAny_forLoop_any (fun n s'=>∃i σ' H',Inv X pins σ' H' s'/\tn i s'.heap/\(∀b∈fp,H' b=none)/\W i n σ' H') ?_ m0 ⟨0,σ,H2,I2,st2,fun b hb=>(f2 b hb).1,w0⟩
 rintro n s3 ⟨i,σ3,H3,I3,st3,fr3,w3⟩
 rcases turn i n σ3 H3 w3 with⟨stop,qn⟩|⟨go,N,hN,step⟩
 · refine wpAny_passesOwn hp (thn (T.done X rfl rfl rfl hc i pins s3 σ3 H3 X.xe I3 (stat fr3) st3 stop) fun r s4 ⟨hr,I4⟩=>?_)
   subst hr;exact wpAny_execs_nil ⟨σ3,H3,I4,qn⟩
 · refine wpAny_passesOwn hp (thn (T.item X rfl rfl rfl hc i pins s3 σ3 H3 X.xe I3 (stat fr3) st3 go) fun r s4 ⟨u,hr,h4⟩=>?_)
   subst hr;refine wpAny_passesOwn hp (thn h4 fun _ s5 ⟨x,H5,I5,r5,y5,st5,fr5⟩=>?_)
   have I5':=I5.pinned (stat fr5) (T.obj _ _ st5)
   refine wpAny_passesOwn hp (thn (hg _ s5 σ3 H5 x u _ I5' r5 (step x H5 y5)) fun _ s6 ⟨σ6,H6,I6,q6⟩=>?_)
   refine wpAny_passesOwn hp (thn (hb _ s6 σ6 H6 _ I6 q6) fun f s7 q7=>?_)
   have again:∀{σ7:St} {H7:Hp},Inv X (pins++a1I fp s5.heap) σ7 H7 s7->N σ7 H7->∃m,m<n/\∃i σ' H',Inv X pins σ' H' s7/\tn i s7.heap/\(∀b∈fp,H' b=none)/\W i m σ' H':=fun{σ7 H7} I7 n7=>by
    obtain⟨m',hm,w7⟩:=hN σ7 H7 n7;refine⟨m',hm,i+1,σ7,H7,I7.unpinned,T.keep _ _ _ st5 fun b hb o e=>(I7.pin (b,o) (mem_append_right _ (mem_append_right _ (P8 hb e)))).1,fun b hb=>?_,w7⟩
    obtain⟨o,e,d⟩:=T.obj _ _ st5 b hb;exact(I7.pin (b,o) (mem_append_right _ (mem_append_right _ (P8 hb e)))).2.1
   cases f with
   |next=>obtain⟨σ7,H7,I7,n7⟩:=q7;exact again I7 n7
   |cont=>obtain⟨σ7,H7,I7,n7⟩:=q7;exact again I7 n7
   |brk=>obtain⟨σ7,H7,I7,q7⟩:=q7;exact⟨σ7,H7,I7.unpinned,q7⟩
   |ret v=>obtain⟨x7,σ7,H7,I7,r7,q7⟩:=q7;exact⟨x7,σ7,H7,I7.unpinned,r7,q7⟩
end
abbrev R2:=V->V->Hp->VK->Prop
def OpR(X:Cx)(f:Value->Value->Sem Value)(r:R2):Prop:=
 ∀(pins:List (Addr×Obj)) (s:Shared) (σ:St) (H:Hp) (x y:V) (v u:Value) (Q:VK),Inv X pins σ H s->l8 x v->l8 y u->r x y H Q→
  wpAny (model X.prog X.w) X.A (f v u) (EP X pins σ Q) X.xe s
def UnR(X:Cx)(f:Value->Sem Value)(r:V->Hp->VK->Prop):Prop:=
 ∀(pins:List (Addr×Obj)) (s:Shared) (σ:St) (H:Hp) (x:V) (v:Value) (Q:VK),Inv X pins σ H s->l8 x v->r x H Q→
  wpAny (model X.prog X.w) X.A (f v) (EP X pins σ Q) X.xe s
def D5(X:Cx)(f:Value)(r:List V->Hp->VK->Prop):Prop:=
 ∀(pins:List (Addr×Obj)) (s:Shared) (σ:St) (H:Hp) (xs:List V) (us:List Value) (Q:VK),Inv X pins σ H s->l7 xs us->r xs H Q→
  wpAny (model X.prog X.w) X.A (call f us) (EP X pins σ Q) X.xe s
def b9B(X:Cx)(r:V->Hp->(Bool->Hp->Prop)->Prop):Prop:=
 ∀(pins:List (Addr×Obj)) (s:Shared) (σ:St) (H:Hp) (x:V) (v:Value) (Q:Bool->Hp->Prop),Inv X pins σ H s->l8 x v->r x H Q→
  wpAny (model X.prog X.w) X.A (truthy v) (TP X pins σ Q) X.xe s
noncomputable def tOp(r:R2)(ta tb:TE):TE:=fun σ H Q=>ta σ H fun x H1=>tb σ H1 fun y H2=>r x y H2 Q
def tUn(r:V->Hp->VK->Prop)(ta:TE):TE:=fun σ H Q=>ta σ H fun x H1=>r x H1 Q
def rI(C:Int->Int->Prop)(g:Int->Int->V):R2:=fun x y H Q=>∃i j,x=.int i/\y=.int j/\C i j/\Q (g i j) H
noncomputable def rI0(g:Int->Int->V):R2:=fun x y H Q=>∃i j,x=.int i/\y=.int j/\Q (g i j) H
def rU(g:Int->V):V->Hp->VK->Prop:=fun x H Q=>∃i,x=.int i/\Q (g i) H
variable{f:Value->Value->Sem Value}
section
variable{a b:Expr}{ta tb tc:TE}
theorem b5B(ha:PE X a ta)(hb:PE X b tb){R:V->V->Hp->Prop}(I:Inv X pins σ H s)
 (h:ta σ H fun x H1=>tb σ H1 fun y H2=>R x y H2)
 (hf:∀v u s2 x y H2,Inv X pins σ H2 s2->l8 x v->l8 y u->R x y H2->wpAny (model X.prog X.w) X.A (f v u) Q X.xe s2):
 wpAny (model X.prog X.w) X.A (eval a X.env) (fun v s₁=>wpAny (model X.prog X.w) X.A (eval b X.env) (fun u s₂=>wpAny (model X.prog X.w) X.A (f v u) Q X.xe s₂) X.xe s₁) X.xe s:=by
 refine thn (ha pins s σ H _ I h) fun v s1 ⟨x,H1,I1,r1,q1⟩=>?_
 refine thn (hb pins s1 σ H1 _ I1 q1) fun u s2 ⟨y,H2,I2,r2,q2⟩=>?_
 exact hf v u s2 x y H2 I2 r1 r2 q2
theorem b6N{op:Operator}{r:R2}(ho:OpR X (binaryOp op) r)(ha:PE X a ta)(hb:PE X b tb):PE X (.BinOp a op b pos) (tOp r ta tb):=by
 intro pins s σ H Q I h;exact wpAny_BinOp (b5B ha hb I h fun v u s2 x y H2 I2 rx ry q=>ho pins s2 σ H2 x y v u Q I2 rx ry q)
theorem b6L{op:UnaryOp}{r:V->Hp->VK->Prop}(ho:UnR X (unaryOp op) r)(ha:PE X a ta):PE X (.UnaryOp op a pos) (tUn r ta):=by
 intro pins s σ H Q I h;exact UnaryOp_ (thn (ha pins s σ H _ I h) fun v s1 ⟨x,H1,I1,r1,q1⟩=>ho pins s1 σ H1 x v Q I1 r1 q1)
theorem opI{C:Int->Int->Prop}{g:Int->Int->Int}
 (rule:∀(i j:Int) (t u:Tok) (s:Shared) (Q:Value->Shared->Prop) (E:Value->Shared->Prop),C i j->Q (.int (g i j) s.toks) {s with toks:=s.toks+1}->wpAny (model X.prog X.w) X.A (f (.int i t) (.int j u)) Q E s):
 OpR X f (rI C fun i j=>.int (g i j)):=by
 intro pins s σ H x y v u Q I rx ry h;obtain⟨i,j,rfl,rfl,hc,q⟩:=h;obtain⟨t,rfl⟩:=rx;obtain⟨t',rfl⟩:=ry;exact rule i j t t' s _ _ hc ⟨.int (g i j),H,I.tok _,⟨_,rfl⟩,q⟩
theorem b6Y{g:Int->Int->Int}
 (rule:∀(i j:Int) (t u:Tok) (s:Shared) (Q:Value->Shared->Prop) (E:Value->Shared->Prop),Q (.int (g i j) s.toks) {s with toks:=s.toks+1}->wpAny (model X.prog X.w) X.A (f (.int i t) (.int j u)) Q E s):
 OpR X f (rI0 fun i j=>.int (g i j)):=by
 intro pins s σ H x y v u Q I rx ry h;obtain⟨i,j,rfl,rfl,q⟩:=h;obtain⟨t,rfl⟩:=rx;obtain⟨t',rfl⟩:=ry;exact rule i j t t' s _ _ ⟨.int (g i j),H,I.tok _,⟨_,rfl⟩,q⟩
theorem b1Q{g:Int->Int->Bool}
 (rule:∀(i j:Int) (t u:Tok) (s:Shared) (Q:Value->Shared->Prop) (E:Value->Shared->Prop),Q (.bool (g i j)) s->wpAny (model X.prog X.w) X.A (f (.int i t) (.int j u)) Q E s):
 OpR X f (rI0 fun i j=>.bl (g i j)):=by
 intro pins s σ H x y v u Q I rx ry h;obtain⟨i,j,rfl,rfl,q⟩:=h;obtain⟨t,rfl⟩:=rx;obtain⟨t',rfl⟩:=ry;exact rule i j t t' s _ _ ⟨.bl (g i j),H,I,rfl,q⟩
def b9Q(i j:Int):Prop:=0<j/\j<1073741824
def b6c(i j:Int):Prop:=(-(2^64)<i/\i<2^64)∨(-(2^64)<j/\j<2^64)
theorem b6c.ok{i j:Int}(h:b6c i j):IntMulOk i j:=by
 rcases h with⟨h1,h2⟩|⟨h1,h2⟩
 · exact .of_left (intBits_le_64 h1 h2)
 · exact .of_right (intBits_le_64 h1 h2)
theorem b4r:OpR X (binaryOp .Add) (rI0 fun i j=>.int (i+j)):=b6Y fun _ _ _ _ _ _ _ q=>add_int q
theorem b4j:OpR X (binaryOp .Sub) (rI0 fun i j=>.int (i-j)):=b6Y fun _ _ _ _ _ _ _ q=>sub_int q
theorem b4m:OpR X (binaryOp .Mult) (rI b6c fun i j=>.int (i*j)):=opI fun _ _ _ _ _ _ _ hc q=>mul_int q hc.ok
theorem b1P:OpR X (binaryOp .FloorDiv) (rI b9Q fun i j=>.int (i/j)):=opI fun i j _ _ _ _ _ hc q=>by
 have h1:(0:Int)<j:=hc.1
 have h2:j<1073741824:=hc.2
 exact floordiv_int (by omega) (by rw[Int.fdiv_eq_ediv_of_nonneg i (by omega)];exact q) (.inl (PyProof.noPylong_small (by omega)))
theorem b4n:OpR X (binaryOp .Mod) (rI (fun _ j=>0<j) fun i j=>.int (i%j)):=opI fun i j _ _ _ _ _ hc q=>by
 have h1:(0:Int)<j:=hc
 exact mod_int' (by omega) (by rw[Int.fmod_eq_emod_of_nonneg i (by omega)];exact q)
theorem unI{f:Value->Sem Value}{g:Int->Int}
 (rule:∀(i:Int) (t:Tok) (s:Shared) (Q:Value->Shared->Prop) (E:Value->Shared->Prop),Q (.int (g i) s.toks) {s with toks:=s.toks+1}->wpAny (model X.prog X.w) X.A (f (.int i t)) Q E s):
 UnR X f (rU fun i=>.int (g i)):=by
 intro pins s σ H x v Q I rx h;obtain⟨i,rfl,q⟩:=h;obtain⟨t,rfl⟩:=rx;exact rule i t s _ _ ⟨.int (g i),H,I.tok _,⟨_,rfl⟩,q⟩
theorem b3o:UnR X (unaryOp .USub) (rU fun i=>.int (-i)):=unI fun _ _ _ _ _ q=>neg_int q
end
noncomputable def scal:V->V->Bool
 |.non,.non=>true|.non,.int _=>true|.int _,.non=>true|.non,.bl _=>true|.bl _,.non=>true|.non,.str _=>true|.str _,.non=>true
 |.int _,.int _=>true|.bl _,.bl _=>true|.str _,.str _=>true|.byt _,.byt _=>true
 |.int _,.str _=>true|.str _,.int _=>true|.bl _,.str _=>true|.str _,.bl _=>true
 |_,_=>false
def rEq:R2:=fun x y H Q=>scal x y=true/\Q (.bl (decide (x=y))) H
def rNe:R2:=fun x y H Q=>scal x y=true/\Q (.bl (!decide (x=y))) H
theorem a6Z{i j:Int}:decide (V.int i=V.int j)=(i==j):=by
 rw[Bool.eq_iff_iff];simp
theorem b0x{i j:Bool}:decide (V.bl i=V.bl j)=(i==j):=by
 rw[Bool.eq_iff_iff];simp
theorem a6Y{i j:Str}:decide (V.str i=V.str j)=(i==j):=by
 rw[Bool.eq_iff_iff];simp
theorem a7a{i j:Array UInt8}:decide (V.byt i=V.byt j)=(i.toList==j.toList):=by
 rw[Bool.eq_iff_iff];cases i;cases j;simp
variable{op':CmpOp}{its:List Value}
section
variable{a b:Expr}{ta tb tc:TE}
theorem o8{Q:VK}{k k':Bool}(I:Inv X pins σ H s)(q:Q (.bl k) H)(e:k=k'):EP X pins σ Q (.bool k') s:=by
 subst e;exact⟨.bl k,H,I,rfl,q⟩
theorem b6X:OpR X (compareOp .Eq) rEq:=by
 intro pins s σ H x y v u Q I rx ry h;obtain⟨hs,q⟩:=h
 cases x with
 |non=>
  cases rx
  cases y with
  |non=>cases ry;exact PySem.EqNone.eq_none_none (o8 I q (by simp))
  |bl j=>cases ry;exact PySem.EqNone.eq_none_bool (o8 I q (by simp))
  |int j=>obtain⟨t',rfl⟩:=ry;exact PySem.EqNone.eq_none_int (o8 I q (by simp))
  |str j=>obtain⟨t',rfl⟩:=ry;exact PySem.EqNone.eq_none_str (o8 I q (by simp))
  |_=>exact absurd (show false=true from hs) bx
 |bl i=>
  cases rx
  cases y with
  |non=>cases ry;exact PySem.EqNone.eq_bool_none (o8 I q (by simp))
  |bl j=>cases ry;exact eq_bool (o8 I q b0x)
  |str j=>obtain⟨t',rfl⟩:=ry;exact PySem.EqMixed.eq_bool_str (o8 I q (by simp))
  |_=>exact absurd (show false=true from hs) bx
 |int i=>
  obtain⟨t,rfl⟩:=rx
  cases y with
  |non=>cases ry;exact PySem.EqNone.eq_int_none (o8 I q (by simp))
  |int j=>obtain⟨t',rfl⟩:=ry;exact eq_int (o8 I q a6Z)
  |str j=>obtain⟨t',rfl⟩:=ry;exact PySem.EqMixed.eq_int_str (o8 I q (by simp))
  |_=>exact absurd (show false=true from hs) bx
 |str i=>
  obtain⟨t,rfl⟩:=rx
  cases y with
  |non=>cases ry;exact PySem.EqNone.eq_str_none (o8 I q (by simp))
  |bl j=>cases ry;exact PySem.EqMixed.eq_str_bool (o8 I q (by simp))
  |int j=>obtain⟨t',rfl⟩:=ry;exact PySem.EqMixed.eq_str_int (o8 I q (by simp))
  |str j=>obtain⟨t',rfl⟩:=ry;exact eq_str (o8 I q a6Y)
  |_=>exact absurd (show false=true from hs) bx
 |byt i=>
  obtain⟨t,rfl⟩:=rx
  cases y with
  |byt j=>obtain⟨t',rfl⟩:=ry;exact PySem.W.eq_bytes (o8 I q a7a)
  |_=>exact absurd (show false=true from hs) bx
 |_=>cases y<;>exact absurd (show false=true from hs) bx
theorem b6S:OpR X (compareOp .NotEq) rNe:=by
 intro pins s σ H x y v u Q I rx ry h;obtain⟨hs,q⟩:=h
 cases x with
 |non=>
  cases rx
  cases y with
  |non=>cases ry;exact PySem.EqNone.ne_none_none (o8 I q (by simp))
  |bl j=>cases ry;exact PySem.EqNone.ne_none_bool (o8 I q (by simp))
  |int j=>obtain⟨t',rfl⟩:=ry;exact PySem.EqNone.ne_none_int (o8 I q (by simp))
  |str j=>obtain⟨t',rfl⟩:=ry;exact PySem.EqNone.ne_none_str (o8 I q (by simp))
  |_=>exact absurd (show false=true from hs) bx
 |bl i=>
  cases rx
  cases y with
  |non=>cases ry;exact PySem.EqNone.ne_bool_none (o8 I q (by simp))
  |bl j=>cases ry;exact ne_bool (o8 I q (congrArg not b0x))
  |str j=>obtain⟨t',rfl⟩:=ry;exact PySem.EqMixed.ne_bool_str (o8 I q (by simp))
  |_=>exact absurd (show false=true from hs) bx
 |int i=>
  obtain⟨t,rfl⟩:=rx
  cases y with
  |non=>cases ry;exact PySem.EqNone.ne_int_none (o8 I q (by simp))
  |int j=>obtain⟨t',rfl⟩:=ry;exact ne_int (o8 I q (congrArg not a6Z))
  |str j=>obtain⟨t',rfl⟩:=ry;exact PySem.EqMixed.ne_int_str (o8 I q (by simp))
  |_=>exact absurd (show false=true from hs) bx
 |str i=>
  obtain⟨t,rfl⟩:=rx
  cases y with
  |non=>cases ry;exact PySem.EqNone.ne_str_none (o8 I q (by simp))
  |bl j=>cases ry;exact PySem.EqMixed.ne_str_bool (o8 I q (by simp))
  |int j=>obtain⟨t',rfl⟩:=ry;exact PySem.EqMixed.ne_str_int (o8 I q (by simp))
  |str j=>obtain⟨t',rfl⟩:=ry;exact ne_str (o8 I q (congrArg not a6Y))
  |_=>exact absurd (show false=true from hs) bx
 |byt i=>
  obtain⟨t,rfl⟩:=rx
  cases y with
  |byt j=>obtain⟨t',rfl⟩:=ry;exact PySem.W.ne_bytes (o8 I q (congrArg not a7a))
  |_=>exact absurd (show false=true from hs) bx
 |_=>cases y<;>exact absurd (show false=true from hs) bx
theorem b6T:OpR X (compareOp .Lt) (rI0 fun i j=>.bl (decide (i<j))):=b1Q fun _ _ _ _ _ _ _ q=>lt_int q
theorem b6U:OpR X (compareOp .LtE) (rI0 fun i j=>.bl (decide (i<=j))):=b1Q fun _ _ _ _ _ _ _ q=>le_int q
theorem b6V:OpR X (compareOp .Gt) (rI0 fun i j=>.bl (decide (j<i))):=b1Q fun _ _ _ _ _ _ _ q=>gt_int q
theorem b6W:OpR X (compareOp .GtE) (rI0 fun i j=>.bl (decide (j<=i))):=b1Q fun _ _ _ _ _ _ _ q=>ge_int q
theorem a7y:OpR X (compareOp .In) (fun x y H Q=>∃i j,x=.str i/\y=.str j/\Q (.bl (!(Builtin.Str.occurrences j i 0 j.length 1).isEmpty)) H):=by
 intro pins s σ H x y v u Q I rx ry h;obtain⟨i,j,rfl,rfl,q⟩:=h;obtain⟨t,rfl⟩:=rx;obtain⟨t',rfl⟩:=ry;exact in_str (o8 I q rfl)
theorem OpR.or{r r':R2}(h:OpR X f r)(h':OpR X f r'):OpR X f (fun x y H Q=>r x y H Q∨r' x y H Q):=by
 intro pins s σ H x y v u Q I rx ry q
 rcases q with q|q
 · exact h pins s σ H x y v u Q I rx ry q
 · exact h' pins s σ H x y v u Q I rx ry q
theorem a3G{r:R2}(ho:OpR X (compareOp op) r)(ha:PE X a ta)(hb:PE X b tb)(hm:behindInMarks op b=false):PE X (.Compare a [op] [b] pos) (tOp r ta tb):=by
 intro pins s σ H Q I h;exact wpAny_Compare1 (b5B ha hb I h fun v u s2 x y H2 I2 rx ry q=>ho pins s2 σ H2 x y v u Q I2 rx ry q) hm
noncomputable def a8v(t:TE):TT:=fun σ H Q=>t σ H fun x H'=>∃k,x=.bl k/\Q k H'
theorem a3E{r:R2}(ho:OpR X (compareOp op) r)(ha:PE X a ta)(hb:PE X b tb)(hm:behindInMarks op b=false):PT X (.Compare a [op] [b] pos) (a8v (tOp r ta tb)):=by
 intro pins s σ H Q I h
 refine wpAny_isTrue_Compare1 (thn (ha pins s σ H _ I h) fun v s1 ⟨x,H1,I1,r1,q1⟩=>thn (hb pins s1 σ H1 _ I1 q1) fun u s2 ⟨y,H2,I2,r2,q2⟩=>
  thn (ho pins s2 σ H2 x y v u _ I2 r1 r2 q2) fun c s3 ⟨z,H3,I3,r3,k,e,q3⟩=>?_) hm
 subst e;cases r3;exact wpAny_truthy_bool ⟨H3,I3,q3⟩
noncomputable def a5x(r r':R2)(ta tb tc:TE):TE:=fun σ H Q=>ta σ H fun x H1=>tb σ H1 fun y H2=>r x y H2 fun z H3=>∃k,z=.bl k∧
 (if k=true then tc σ H3 fun w' H4=>r' y w' H4 Q else Q (.bl false) H3)
theorem a9i{r r':R2}(ho:OpR X (compareOp op) r)(ho':OpR X (compareOp op') r')(ha:PE X a ta)(hb:PE X b tb)(hc:PE X c tc)
 (hm:lastMarks [op,op'] [b,c]=false:=by with_unfolding_all rfl):PE X (.Compare a [op,op'] [b,c] pos) (a5x r r' ta tb tc):=by
 intro pins s σ H Q I h
 refine Compare_chain (thn (ha pins s σ H _ I h) fun v s1 ⟨x,H1,I1,r1,q1⟩=>chain_link (thn (hb pins s1 σ H1 _ I1 q1) fun u s2 ⟨y,H2,I2,r2,q2⟩=>
  thn (ho pins s2 σ H2 x y v u _ I2 r1 r2 q2) fun d s3 ⟨z,H3,I3,r3,k,e,q3⟩=>?_)) hm
 subst e;cases r3;refine wpAny_truthy_bool ?_
 cases k with
 |false=>exact ite_ff ⟨.bl false,H3,I3,rfl,q3⟩
 |true=>exact ite_tt (chain_last (thn (hc pins s3 σ H3 _ I3 q3) fun w' s4 ⟨z',H4,I4,r4,q4⟩=>ho' pins s4 σ H4 y z' u w' Q I4 r2 r4 q4))
theorem a8O{r r':R2}(ho:OpR X (compareOp op) r)(ho':OpR X (compareOp op') r')(ha:PE X a ta)(hb:PE X b tb)(hc:PE X c tc)
 (hm:lastMarks [op,op'] [b,c]=false:=by with_unfolding_all rfl):PT X (.Compare a [op,op'] [b,c] pos) (a8v (a5x r r' ta tb tc)):=by
 intro pins s σ H Q I h
 refine isTrue_chain (thn (ha pins s σ H _ I h) fun v s1 ⟨x,H1,I1,r1,q1⟩=>test_link (thn (hb pins s1 σ H1 _ I1 q1) fun u s2 ⟨y,H2,I2,r2,q2⟩=>
  thn (ho pins s2 σ H2 x y v u _ I2 r1 r2 q2) fun d s3 ⟨z,H3,I3,r3,k,e,q3⟩=>?_)) hm
 subst e;cases r3;refine wpAny_truthy_bool ?_
 cases k with
 |false=>
  obtain⟨k',e',q'⟩:=q3;cases e';exact ite_ff ⟨H3,I3,q'⟩
 |true=>
  refine ite_tt (test_last (thn (hc pins s3 σ H3 _ I3 q3) fun w' s4 ⟨z',H4,I4,r4,q4⟩=>thn (ho' pins s4 σ H4 y z' u w' _ I4 r2 r4 q4) fun d' s5 ⟨z2,H5,I5,r5,k2,e2,q5⟩=>?_))
  subst e2;cases r5;exact wpAny_truthy_bool ⟨H5,I5,q5⟩
def b8v(K:PySem.W.Frag)(x:V)(H:Hp)(k:Bool):Prop:=
 match x with
 |.non=>k=false
 |.bl b=>k=b
 |.int i=>k=(i !=0)
 |.str y=>y.length<=sizeLine/\k=((y.length:Int) !=0)
 |.byt y=>y.size<=sizeLine/\k=((y.size:Int) !=0)
 |.ref p=>(∃xs,SqL K H p xs/\k=!xs.isEmpty)∨(∃xs,SqT K H p xs/\k=!xs.isEmpty)∨∃kvs,H p=some (.dK kvs)/\k=!kvs.isEmpty
 |_=>False
theorem a5R{κ:Type}{kvs:List (κ×V)}{vs:List (κ×Value)}(r:KV kvs vs):(!vs.isEmpty)=!kvs.isEmpty:=by
 cases r<;>rfl
theorem a2b{xs:List V}(r:l7 xs its):(!its.toArray.isEmpty)=!xs.isEmpty:=by
 cases r<;>simp
theorem Y8:(sizeLine:Nat)<2^63:=by rw[sizeLine_eq];decide
theorem b3x:b9B X (fun x H Q=>∃k,b8v X.K x H k/\Q k H):=by
 intro pins s σ H x v Q I rx h;obtain⟨k,e,q⟩:=h;have hl:=Y8
 have hs:sizeLine=16777216:=sizeLine_eq
 cases x with
 |non=>
  cases rx
  have e':k=false:=e
  subst e';exact truthy_none ⟨H,I,q⟩
 |bl b=>
  cases rx
  have e':k=b:=e
  subst e';exact wpAny_truthy_bool ⟨H,I,q⟩
 |int i=>
  obtain⟨t,rfl⟩:=rx
  have e':k=(i !=0):=e
  subst e';exact PySem.P.truthy_int ⟨H,I,q⟩
 |str y=>
  obtain⟨t,rfl⟩:=rx;obtain⟨hy,e'⟩:y.length<=sizeLine/\k=((y.length:Int) !=0):=e;subst e';exact PySem.P.truthy_str (by omega) ⟨H,I.tok _,q⟩
 |byt y=>
  obtain⟨t,rfl⟩:=rx;obtain⟨hy,e'⟩:y.size<=sizeLine/\k=((y.size:Int) !=0):=e;subst e';exact PySem.W.truthy_bytes (by omega) ⟨H,I.tok _,q⟩
 |ref p=>
  cases rx
  have e':(∃xs,SqL X.K H p xs/\k=!xs.isEmpty)∨(∃xs,SqT X.K H p xs/\k=!xs.isEmpty)∨∃kvs,H p=some (.dK kvs)/\k=!kvs.isEmpty:=e
  rcases e' with⟨xs,hx,e'⟩|⟨xs,hx,e'⟩|⟨kvs,hx,e'⟩
  · subst e';obtain⟨its,r,pl,hz⟩:=I.list hx;have hlen:=r.length;exact wpAny_truthy_list pl.isList (by simp only[size_toArray];omega) ⟨H,I.tok _,by rw[a2b r];exact q⟩
  · subst e';obtain⟨its,r,pl,hz⟩:=I.tuple hx;have hlen:=r.length;exact truthy_tuple pl (by simp only[size_toArray];omega) ⟨H,I.tok _,by rw[a2b r];exact q⟩
  · subst e';obtain⟨hz,hS,vs,r,m⟩:kvs.length<=sizeLine/\(p==sysModules)=false/\∃vs,KV kvs vs/\s.heap.DictOf (o9 X.prog X.w) p vs:=I.hok p _ hx
    have hlen:kvs.length=vs.length:=Paired.length r
    exact wpAny_truthy_dict hS m (by omega) ⟨H,I.tok _,by rw[a5R r];exact q⟩
 |_=>exact(show False from e).elim
theorem a8M(ha:PE X a ta)(he:∀whole,isTrue a X.env whole=(do let v←whole;standAt a.pos;holding [v] (truthy v))):
 PT X a (fun σ H Q=>ta σ H fun x H'=>∃k,b8v X.K x H' k/\Q k H'):=by
 intro pins s σ H Q I h;exact isTrue_plain (thn (ha pins s σ H _ I h) fun v s1 ⟨x,H1,I1,r1,q1⟩=>b3x pins s1 σ H1 x v Q I1 r1 q1) (he _)
theorem a5F:OpR X (binaryOp .Add) (fun x y H Q=>∃i j,x=.str i/\y=.str j/\i.length+j.length<=sizeLine/\Q (.str (i++j)) H):=by
 intro pins s σ H x y v u Q I rx ry h;obtain⟨i,j,rfl,rfl,hz,q⟩:=h;obtain⟨t,rfl⟩:=rx;obtain⟨t',rfl⟩:=ry;exact add_str (fun t' tk=>⟨.str (i++j),H,I.tok _,⟨_,rfl⟩,q⟩) hz
theorem O2{x:V}(r:l7 [x] us):∃u,us=[u]/\l8 x u:=by
 cases r with
 |cons r1 r2=>cases r2;exact⟨_,rfl,r1⟩
theorem a2A{x:V}(r:l7 [x,y] us):∃u w',us=[u,w']/\l8 x u/\l8 y w':=by
 cases r with
 |cons r1 r2=>
  cases r2 with
  |cons r3 r4=>cases r4;exact⟨_,_,rfl,r1,r3⟩
theorem a3d:D5 X (.type "int") (fun xs H Q=>(∃i,xs=[.int i]/\Q (.int i) H)∨∃k,xs=[.bl k]/\Q (.int (if k then 1 else 0)) H):=by
 intro pins s σ H xs us Q I r h
 rcases h with⟨i,rfl,q⟩|⟨k,rfl,q⟩
 · obtain⟨u,rfl,t,rfl⟩:=O2 r;exact call_int_int ⟨.int i,H,I,⟨_,rfl⟩,q⟩
 · obtain⟨u,rfl,r1⟩:=O2 r;cases r1;exact call_int_bool ⟨.int (if k then 1 else 0),H,I.tok _,⟨_,rfl⟩,q⟩
theorem a4h:D5 X (.type "str") (fun xs H Q=>∃i,xs=[.int i]/\i.natAbs.log2<1920/\Q (.str (toString i)) H):=by
 intro pins s σ H xs us Q I r h;obtain⟨i,rfl,hz,q⟩:=h;obtain⟨u,rfl,t,rfl⟩:=O2 r;exact PySem.P.str_of_int hz ⟨.str _,H,I.tok _,⟨_,rfl⟩,q⟩
end
structure ObjM(h:Heap)(x dx C:Addr)(mA:Str->Option Value):Prop where
 obj:h.get? x=some (PySem.W.instObj C dx)
 ns:h.Ns1 dx mA
 ne:dx≠x
variable{dx:Addr}{mA:Str->Option Value}
theorem a7H(n:h.Ns1 dx mA):∃od,h.get? dx=some od/\∀name,PySem.W.lookIn name od=some (mA name):=by
 obtain⟨o,es,ep,ho,hd,hk,_,hm⟩:=n;refine⟨o,ho,fun name=>?_⟩
 have e:=hm name;unfold nsFind findBy at e;rw[←Array.find?_toList] at e
 unfold PySem.W.lookIn;rw[hd]
 dsimp only
 split
 · rename_i y q;rw[q] at e;exact congrArg some e
 · rename_i q;rw[q] at e
   have a:es.toList.any (·.refKey)=false:=by
    rw[List.any_eq_false];intro y hy;obtain⟨z,t,hkey⟩:=hk y (Array.mem_toList_iff.mp hy);simp[DictEntry.refKey,hkey]
   have a':¬es.toList.any (·.refKey)=true:=by rw[a];exact bx
   rw[az a'];exact congrArg some e
variable{C:Addr}
theorem ObjM.look{x:Addr}(I:ObjM h x dx C mA):∃od,PySem.W.InstAt h x (PySem.W.instObj C dx) C (some od)/\∀name,PySem.W.lookIn name od=some (mA name):=
 let⟨od,ho,hl⟩:=a7H I.ns
 ⟨od,⟨I.obj,rfl,rfl,ho⟩,hl⟩
variable{expr:Bool}{kw:List (Str×Value)}
section
variable{prog:Program}{E:Value->Shared->Prop}{x f:Addr}{name:Str}{v:Value}
theorem b2j(X:K.In s.heap)(I:ObjM s.heap x dx C mA)(hg:PySem.W.plainGet K C name=true)(hh:PySem.W.hasDictIn K C=true)
 (ha:PySem.W.findIn K (.ref C) name=some none) (hv:mA name=some v) (hv':PySem.W.handedIn v=true) (h:Q v {s with toks:=s.toks+1}):
 wpAny (model prog w) A (getAttr (.ref x) name expr) Q E s:=by
 obtain⟨od,J,hl⟩:=I.look;exact PySem.W.get_value X J (PySem.W.plainGet_of hg).1 (PySem.W.findObj_own hh ha rfl (by rw[hl,hv])) hv' h
theorem b1k{ns:List Str}{Q:Unit->Shared->Prop}(X:K.In s.heap)(I:ObjM s.heap x dx C mA)
 (hs:PySem.W.findIn K (.ref C) "__setattr__"=some (some (.builtin "object.__setattr__"))) (hp:PySem.W.plainOver K C=true) (ht:PySem.W.takerIn K C name=some none) (hh:PySem.W.hasDictIn K C=true)
 (hw:PySem.Within mA ns) (hsz:ns.length<=sizeLine)
 (h:∀h',ObjM h' x dx C (fun y=>if y=name then some v else mA y)->Heap.SameBut dx s.heap h'->Q () {s with heap:=h',toks:=s.toks+2}):
 wpAny (model prog w) A (setAttr (.ref x) name v) Q E s:=by
 obtain⟨od,J,hl⟩:=I.look;refine PySem.W.set_plain X J hs (PySem.W.osa_open (s:={s with toks:=s.toks+1}) (r:=none) X J hp ht fun b=>?_)
 obtain⟨cd,hc,hd'⟩:=PySem.W.any_some hh
 have hx:s.heap.get? x=some ⟨.ref C,some dx,.plain,#[]⟩:=I.obj
 refine wpAny_bind (wpAny_pure (wpAny_bind (wpAny_bind (wpAny_loadPart hx (wpAny_bind (PySem.W.Looks.here (s:={s with toks:=s.toks+1}) (PySem.W.looks_clsIn X hc) ?_))))))
 rw[hd'];refine wpAny_pure (a:=some dx) (wpAny_bind (wpAny_pure (wpAny_bind ?_)))
 refine wpAny_nsSet1 (s:={s with toks:=s.toks+1}) I.ns fun h' hn2 hs2=>?_
 obtain⟨oD,esD,epD,hoD,hdD,hcD⟩:=hn2.count (PySem.Within.cons name v hw);refine wpAny_bind (wpAny_lookBehind hoD (by rw[hdD];exact pastItsLine_dict (aY hcD (by rw[length_cons];omega))) ?_)
 exact wpAny_pure (h _ ⟨(hs2.2 _ (Ne.symm I.ne)).trans I.obj,hn2,I.ne⟩ hs2)
theorem a9E{R:Result->Shared->Prop}{vs:List Value}(X:K.In s.heap)(hm:PySem.W.makesIn K C=true)
 (hi:PySem.W.findIn K (.ref C) "__init__"=some (some (.ref f))) (hf:PySem.W.typeIn K (.ref f)=some (.type "function"))
 (h:codeAny (model prog w) (A.under (.builtin "type.__call__" ⟨.ref C::vs,kw⟩)) (.call (.ref f) ⟨.ref (s.heap.objs.size+1)::vs,kw⟩) (PySem.W.InitBack (s.heap.objs.size+1) R)
  {s with heap:=(s.heap.push PySem.W.emptyDict).push (PySem.W.instObj C s.heap.objs.size)}):
 codeAny (model prog w) A (.call (.ref C) ⟨vs,kw⟩) R s:=by
 obtain⟨hh,g,d,t,os⟩:=s;exact PySem.W.make_core (PySem.W.makes_of X hm) (PySem.W.looks_findIn X hi) (fun self=>PySem.W.bind_fn X self hf) (.inl rfl) h
end
noncomputable def O9(f:Str)(v:V):List (Str×V)->List (Str×V)
 |[]=>[(f,v)]
 |(g,x)::r=>if g=f then(g,v)::r else(g,x)::O9 f v r
theorem a1b(f g:Str)(v:V):∀fs:List (Str×V),(O9 f v fs).lookup g=if g=f then some v else fs.lookup g
 |[]=>by
  show List.lookup g [(f,v)]=_
  by_cases h:g=f
  · have hb:(g==f)=true:=beq_iff_eq.mpr h
    simp only[List.lookup,hb,ay h]
  · have hb:(g==f)=false:=beq_eq_false_iff_ne.mpr h
    simp only[List.lookup,hb,az h]
 | (k,x)::r=>by
  have ih:=a1b f g v r;rw[show O9 f v ((k,x)::r)=(if k=f then(k,v)::r else(k,x)::O9 f v r) from rfl]
  by_cases hk:k=f
  · rw[ay hk]
    by_cases h:g=k
    · have hb:(g==k)=true:=beq_iff_eq.mpr h
      simp only[List.lookup,hb,ay (h.trans hk)]
    · have hb:(g==k)=false:=beq_eq_false_iff_ne.mpr h
      simp only[List.lookup,hb,az (fun e:g=f=>h (e.trans hk.symm))]
  · rw[az hk]
    by_cases h:g=k
    · have hb:(g==k)=true:=beq_iff_eq.mpr h
      simp only[List.lookup,hb,az (fun e:g=f=>hk (h.symm.trans e))]
    · have hb:(g==k)=false:=beq_eq_false_iff_ne.mpr h
      simp only[List.lookup,hb];exact ih
theorem a0K(f:Str)(v:V):∀fs:List (Str×V),f∈(O9 f v fs).map (·.1)/\∀g,g∈fs.map (·.1)->g∈(O9 f v fs).map (·.1)
 |[]=>⟨by simp[O9],fun g h=>by simp at h⟩
 | (k,x)::r=>by
  obtain⟨i1,i2⟩:=a0K f v r;rw[show O9 f v ((k,x)::r)=(if k=f then(k,v)::r else(k,x)::O9 f v r) from rfl]
  by_cases hk:k=f
  · rw[ay hk];subst hk;exact⟨by simp,fun g h=>by simpa using h⟩
  · rw[az hk];refine⟨?_,fun g h=>?_⟩
    · rw[map_cons];exact aE _ i1
    · rw[map_cons] at h⊢
      rcases aH.mp h with e|e
      · exact aH.mpr (.inl e)
      · exact aE _ (i2 g e)
theorem a1c(f:Str)(v:V):∀fs:List (Str×V),(O9 f v fs).length<=fs.length+1
 |[]=>by simp[O9]
 |(k,x)::r=>by
  have ih:=a1c f v r;rw[show O9 f v ((k,x)::r)=(if k=f then(k,v)::r else(k,x)::O9 f v r) from rfl]
  by_cases hk:k=f
  · rw[ay hk,length_cons,length_cons];omega
  · rw[az hk,length_cons,length_cons];omega
theorem a0C.some_of{o:Option Value}(r:a0C (some v) o):∃u,o=some u/\l8 v u:=by
 cases o with
 |none=>exact(show False from r).elim
 |some u=>exact⟨u,rfl,r⟩
theorem a7P(r:l8 v u):PySem.W.handedIn u=true:=by
 cases v with
 |non=>cases (show u=Value.none from r);rfl
 |bl b=>cases (show u=Value.bool b from r);rfl
 |int i=>obtain⟨t,e⟩:=(show∃t,u=Value.int i t from r);cases e;rfl
 |str x=>obtain⟨t,e⟩:=(show∃t,u=Value.str x t from r);cases e;rfl
 |byt b=>obtain⟨t,e⟩:=(show∃t,u=Value.bytes b t from r);cases e;rfl
 |flt b=>obtain⟨t,e⟩:=(show∃t,u=Value.float b t from r);cases e;rfl
 |ref a=>cases (show u=Value.ref a from r);rfl
 |ty n=>cases (show u=Value.type n from r);rfl
section
variable{fs fs':List (Str×V)}
theorem a3V(hok:HOk P w H h)(e:H a=some (.ins C dx fs)):∃mA,ObjM h a dx C mA/\(∀f,a0C (fs.lookup f) (mA f))/\PySem.Within mA (fs.map (·.1))/\fs.length<=1000/\H dx=some (.own a):=by
 obtain⟨d,z,ne,ob,mA,n,r,q⟩:=(show x5 P w H h a (.ins C dx fs) from hok a _ e);exact⟨mA,⟨ob,n,ne⟩,r,q,z,d⟩
end
structure Cls(K:PySem.W.Frag)(C:Addr):Prop where
 pg:PySem.W.plainGet K C Str.empty=true
 hd:PySem.W.hasDictIn K C=true
 po:PySem.W.plainOver K C=true
 sa:PySem.W.findIn K (.ref C) "__setattr__"=some (some (.builtin "object.__setattr__"))
theorem Cls.get(c:Cls K C)(f:Str):PySem.W.plainGet K C f=true:=c.pg
def V1(K:PySem.W.Frag)(C:Addr)(f:Str):Prop:=PySem.W.findIn K (.ref C) f=some none
theorem V1.taker{f:Str}(n:V1 K C f):PySem.W.takerIn K C f=some none:=by
 unfold PySem.W.takerIn;rw[show PySem.W.findIn K (.ref C) f=some none from n];rfl
variable{prog:Program}{env:Env}
section
variable{fs:List (Str×V)}{f:Str}{E:Value->Shared->Prop}
theorem a5U{b:Bool}(I:Inv X pins σ H s)(e:H a=some (.ins C dx fs))(c:Cls X.K C)(n:V1 X.K C f)(l:fs.lookup f=some v)
 (h:∀u s',Inv X pins σ H s'->l8 v u->Q u s'):wpAny (model X.prog X.w) A (getAttr (.ref a) f b) Q E s:=by
 obtain⟨mA,O,r,_,_,_⟩:=a3V I.hok e;obtain⟨u,hu,ru⟩:=a0C.some_of (v:=v) (o:=mA f) (by rw[←l];exact r f)
 exact b2j I.kIn O (c.get f) c.hd n hu (a7P ru) (h u _ (I.tok _) ru)
theorem a5B{Q:Unit->Shared->Prop}(I:Inv X pins σ H s)(e:H a=some (.ins C dx fs))(c:Cls X.K C)(n:V1 X.K C f)(hl:fs.length<1000)(ry:l8 y u)
 (h:∀s',Inv X pins σ (upd H a (.ins C dx (O9 f y fs))) s'->Q () s'):wpAny (model X.prog X.w) A (setAttr (.ref a) f u) Q E s:=by
 obtain⟨mA,O,r,wi,_,ho⟩:=a3V I.hok e
 have hz:(fs.map (·.1)).length<=sizeLine:=by rw[aa,sizeLine_eq];omega
 refine b1k I.kIn O c.sa c.po n.taker c.hd wi hz fun h' O' sb=>h _ ?_
 have hd:∃o,h'.get? dx=some o:=let⟨o,_,_,e',_⟩:=O'.ns;⟨o,e'⟩
 refine I.write (x:=a) (e:=dx) (by rw[e];exact True.intro) (.inr ho) (fun b q hb z=>(sb.2 b hb).trans z) hd ?_
 refine⟨by rw[d9 O.ne];exact ho,?_,O.ne,O'.obj,_,O'.ns,fun g=>?_,fun g hg=>?_⟩
 · have:=a1c f y fs;omega
 · show a0C ((O9 f y fs).lookup g) (if g=f then some u else mA g)
   rw[a1b]
   by_cases q:g=f
   · rw[ay q,ay q];exact ry
   · rw[az q,az q];exact r g
 · by_cases q:g=f
   · rw[q];exact(a0K f y fs).1
   · refine(a0K f y fs).2 g (wi g fun z=>hg ?_)
     show(if g=f then some u else mA g)=none
     rw[az q];exact z
theorem Inv.made(I:Inv X pins σ H s):Inv X pins σ (upd (upd H s.heap.objs.size (.own (s.heap.objs.size+1))) (s.heap.objs.size+1) (.ins C s.heap.objs.size []))
 {s with heap:=(s.heap.push PySem.W.emptyDict).push (PySem.W.instObj C s.heap.objs.size)}:=by
 have e1:(s.heap.push PySem.W.emptyDict).get? s.heap.objs.size=some PySem.W.emptyDict:=Heap.get?_push_size s.heap rfl
 have e2:((s.heap.push PySem.W.emptyDict).push (PySem.W.instObj C s.heap.objs.size)).get? (s.heap.objs.size+1)=some (PySem.W.instObj C s.heap.objs.size):=by
  have:=Heap.get?_push_size (s.heap.push PySem.W.emptyDict) (o:=PySem.W.instObj C s.heap.objs.size) rfl
  rwa [Heap.size_push] at this
 have e3:(s.heap.push PySem.W.emptyDict).Ns s.heap.objs.size (fun _=>none):=⟨PySem.W.emptyDict,#[],_,e1,rfl,(fun e he=>absurd he (by simp)),fun _=>rfl⟩
 have I1:=I.laid (a:=s.heap.objs.size) (o:=.own (s.heap.objs.size+1)) (h':=s.heap.push PySem.W.emptyDict) (t':=s.toks) (fun b u q=>Heap.get?_push_of_some _ q) (ai _) ⟨_,e1⟩
 refine I1.laid (a:=s.heap.objs.size+1) (o:=.ins C s.heap.objs.size []) (t':=s.toks) (fun b u q=>Heap.get?_push_of_some _ q) (Nat.le_of_eq (Heap.size_push _ _)) ?_
 have ne:s.heap.objs.size≠s.heap.objs.size+1:=Nat.ne_of_lt (ba _)
 refine⟨by rw[d9 ne,d8],Nat.zero_le _,ne,e2,fun _=>none,(Heap.Ns1.of_empty e3).at fun o q=>Heap.get?_push_of_some _ q,fun _=>True.intro,fun y hy=>absurd rfl hy⟩
theorem b2U{f:Str}{s:Shared}(hb:attributeBase e f env (eval e env)=eval e env)
 (h:wpAny (model prog w) A (eval e env) (fun o s₁=>wpAny (model prog w) A (getAttr o f true) Q E s₁) E s):wpAny (model prog w) A (eval (.Attribute e f pos) env) Q E s:=
 Attribute_any_ h (by rw[arm_eval_Attribute,hb])
end
noncomputable def b8H(K:PySem.W.Frag)(ta:TE)(f:Str):TE:=fun σ H Q=>ta σ H fun x H1=>∃a C dx fs v,x=.ref a/\H1 a=some (.ins C dx fs)/\Cls K C/\V1 K C f/\fs.lookup f=some v/\Q v H1
def b8L(K:PySem.W.Frag)(ta tv:TE)(f:Str):TS:=fun D σ H=>tv σ H fun y H1=>ta σ H1 fun x H2=>∃a C dx fs,x=.ref a/\H2 a=some (.ins C dx fs)/\Cls K C/\V1 K C f/\fs.length<1000∧
 D.nx σ (upd H2 a (.ins C dx (O9 f y fs)))
section
variable{o value:Expr}{f:Str}{tpos:Pos}{ta tv:TE}
theorem b4e(he:PE X e ta)(hb:attributeBase e f X.env (eval e X.env)=eval e X.env):PE X (.Attribute e f pos) (b8H X.K ta f):=by
 intro pins s σ H Q I h;refine b2U hb (thn (he pins s σ H _ I h) fun u s1 ⟨x,H1,I1,rx,a,C,dx,fs,v,ex,ea,c,n,l,q⟩=>?_)
 subst ex;obtain rfl:u=Value.ref a:=rx;exact a5U I1 ea c n l fun u' s2 I2 ru=>⟨v,H1,I2,ru,q⟩
theorem b3S(ha:PE X o ta)(hv:PE X value tv)(hs:swapsWith value (some (.Attribute o f pos')) pos.line X.env=pure false):PS X (.Assign [.Attribute o f pos'] value pos) (b8L X.K ta tv f):=by
 intro pins s σ H D I h;refine plainObj_wpAny_Assign_Attribute (thn (hv pins s σ H _ I h) fun u s1 ⟨y,H1,I1,ry,q⟩=>thn (ha pins s1 σ H1 _ I1 q) fun ov s2 ⟨x,H2,I2,rx,a,C,dx,fs,ex,ea,c,n,l,q2⟩=>?_) hs
 subst ex;obtain rfl:ov=Value.ref a:=rx;exact a5B I2 ea c n l ry fun s3 I3=>⟨σ,_,I3,q2⟩
end
section
variable{E:Value->Shared->Prop}{c:Value}{b:Bool}
inductive TyOf(K:PySem.W.Frag)(H:Hp):V->Value->Prop where
 |non:TyOf K H .non (.type "NoneType")
 |bl (x:Bool):TyOf K H (.bl x) (.type "bool")
 |int (i:Int):TyOf K H (.int i) (.type "int")
 |str (x:Str):TyOf K H (.str x) (.type "str")
 |flt (x:UInt64):TyOf K H (.flt x) (.type "float")
 |lst {a:Addr} {xs:List V} (e:H a=some (.lst xs)):TyOf K H (.ref a) (.type "list")
 |frz {a:Addr} {o:Obj} {xs:List V} (e:H a=some (.frz o (.lst xs))):TyOf K H (.ref a) (.type "list")
 |tup {a:Addr} {xs:List V} (e:H a=some (.tup xs)):TyOf K H (.ref a) (.type "tuple")
 |dK {a:Addr} {kvs:List (Key×V)} (e:H a=some (.dK kvs)):TyOf K H (.ref a) (.type "dict")
 |dT {a:Addr} {kvs:List (List Key×V)} (e:H a=some (.dT kvs)):TyOf K H (.ref a) (.type "dict")
 |ins {a C dx:Addr} {fs:List (Str×V)} (e:H a=some (.ins C dx fs)) (cl:Cls K C) (ha:PySem.W.findIn K (.ref C) "__class__"=some (some (.builtin "object.__class__")))
  (hn:PySem.W.specialIn K (.builtin "object.__class__") "__get__"=some (some (.builtin "getset_descriptor.__get__"))) (htk:PySem.W.takesIn K (.builtin "object.__class__")=some true)
  (hm:PySem.W.mroIn K C (.type "object")=some true):TyOf K H (.ref a) (.ref C)
theorem a7M{x:V}{t:Value}(I:Inv X pins σ H s)(rx:l8 x u)(ty:TyOf X.K H x t)(e:PySem.W.kitOne X.K t c=some b)(h:∀tk,Q (.bool b) {s with toks:=tk}):
 wpAny (model X.prog X.w) A (call (.builtin "isinstance") [u,c]) Q E s:=by
 cases ty with
 |non=>cases (show u=Value.none from rx);exact PySem.W.kia_one PySem.W.kitx_none I.kIn True.intro e (fun z=>nomatch z) h
 |bl y=>cases (show u=Value.bool y from rx);exact PySem.W.kia_one PySem.W.kitx_bool I.kIn True.intro e (fun z=>nomatch z) h
 |int i=>obtain⟨t,q⟩:=(show∃t,u=Value.int i t from rx);cases q;exact PySem.W.kia_one PySem.W.kitx_int I.kIn True.intro e (fun z=>nomatch z) h
 |str y=>obtain⟨t,q⟩:=(show∃t,u=Value.str y t from rx);cases q;exact PySem.W.kia_one PySem.W.kitx_str I.kIn True.intro e (fun z=>nomatch z) h
 |flt y=>obtain⟨t,q⟩:=(show∃t,u=Value.float y t from rx);cases q;exact PySem.W.kia_one PySem.W.kitx_float I.kIn True.intro e (fun z=>nomatch z) h
 | @lst a xs ea=>
  cases (show u=Value.ref a from rx)
  obtain⟨_,_,n,_,h1⟩:=(show x5 X.prog X.w H s.heap a (.lst xs) from I.hok a _ ea);exact PySem.W.kia_one PySem.W.kitx_list I.kIn ⟨_,h1,rfl⟩ e (fun z=>nomatch z) h
 | @frz a ob xs ea=>
  cases (show u=Value.ref a from rx)
  obtain⟨_,_,_,n,_,h1⟩:=(show x5 X.prog X.w H s.heap a (.frz ob (.lst xs)) from I.hok a _ ea);exact PySem.W.kia_one PySem.W.kitx_list I.kIn ⟨_,h1,rfl⟩ e (fun z=>nomatch z) h
 | @tup a xs ea=>
  cases (show u=Value.ref a from rx)
  obtain⟨_,_,_,p⟩:=(show x5 X.prog X.w H s.heap a (.tup xs) from I.hok a _ ea);obtain⟨o,h1,h2,_⟩:=p;exact PySem.W.kia_one PySem.W.kitx_tuple I.kIn ⟨o,h1,h2⟩ e (fun z=>nomatch z) h
 | @dK a kvs ea=>
  cases (show u=Value.ref a from rx)
  obtain⟨_,_,vs,_,p⟩:=(show x5 X.prog X.w H s.heap a (.dK kvs) from I.hok a _ ea);obtain⟨o,es,ep,h1,h2,_⟩:=p;exact PySem.W.kia_one PySem.W.kitx_dict I.kIn ⟨o,h1,h2.1⟩ e (fun z=>nomatch z) h
 | @dT a kvs ea=>
  cases (show u=Value.ref a from rx)
  obtain⟨_,_,xs,_,o,es,ep,h1,h2,_⟩:=(show x5 X.prog X.w H s.heap a (.dT kvs) from I.hok a _ ea);exact PySem.W.kia_one PySem.W.kitx_dict I.kIn ⟨o,h1,h2.1⟩ e (fun z=>nomatch z) h
 | @ins a C dx fs ea cl ha hn htk hm=>
  cases (show u=Value.ref a from rx)
  obtain⟨mA,O,_⟩:=a3V I.hok ea;obtain⟨od,J,_⟩:=O.look;exact PySem.W.kia_one (PySem.W.kitx_own (cl.get _) cl.hd ha hn htk hm) I.kIn J e (fun z=>nomatch z) h
end
structure Room(k:Nat)(A:Around):Prop where
 hd:A.handled=none
 dp:A.depth+3*k+5<recursionLimit
 un:A.units+16*k+200<cLine
theorem Room.mono{k:Nat}(r:Room k A)(h:j<=k):Room j A:=⟨r.hd,by have:=r.dp;omega,by have:=r.un;omega⟩
theorem Room.deeper{k:Nat}(r:Room (k+1) A)(env:Env):Room k (A.deeper env):=
 ⟨r.hd,by have:=r.dp;show A.depth+1+3*k+5<_;omega,by have:=r.un;show A.units+3+16*k+200<_;omega⟩
theorem a5M:(A.under (.builtin "type.__call__" ⟨.ref C::us,kw⟩)).depth=A.depth+1:=by
 first|rfl|simp[Around.under,Code.weight,Code.isCreation,Code.isGuard,Code.isCaller,Code.frames,Code.isFrame,guardIds]
theorem a5L:(A.under (.builtin "type.__call__" ⟨.ref C::us,kw⟩)).units=A.units+1:=by
 first|rfl|simp[Around.under,Code.cUnits,Code.frames,Code.isFrame]
theorem Room.make{k:Nat}(r:Room (k+1) A)(C:Addr)(us:List Value)(kw:List (Str×Value)):Room k (A.under (.builtin "type.__call__" ⟨.ref C::us,kw⟩)):=
 ⟨r.hd,by have:=r.dp;rw[a5M];omega,by have:=r.un;rw[a5L];omega⟩
theorem Room.depth{k:Nat}(r:Room k A):A.depth<recursionLimit:=by have:=r.dp;omega
theorem Room.units{k:Nat}(r:Room k A):A.units+64<cLine:=by have:=r.un;omega
def b1d:TA:=fun _ H Q=>Q [] H
noncomputable def a4y(ta:TE)(tr:TA):TA:=fun σ H Q=>ta σ H fun x H1=>tr σ H1 fun xs H2=>Q (x::xs) H2
section
variable{t:TA}
theorem T1:PA X [] b1d:=fun _ _ _ _ H Q I h=>Calls.spliced_nil ⟨[],H,I,.nil,h⟩
theorem E2(ha:PE X e te)(hr:PA X es t)(hs:starEach (e::es) X.env=(false,eval e X.env)::starEach es X.env:=by rfl):PA X (e::es) (a4y te t):=by
 intro pos pins s σ H Q I h;rw[hs]
 show wpAny _ _ (spliced ((false,eval e X.env)::backTo pos (starEach es X.env))) _ _ s
 refine Calls.spliced_cons (thn (ha pins s σ H _ I h) fun u s1 ⟨x,H1,I1,r1,q1⟩=>?_)
 exact thn (hr pos pins s1 σ H1 _ I1 q1) fun us s2 ⟨xs,H2,I2,r2,q2⟩=>⟨x::xs,H2,I2,.cons r1 r2,q2⟩
def b6l(t:TA):TE:=fun σ H Q=>t σ H fun xs H1=>xs.length<=sizeLine/\∀p,H1 p=none->Q (.ref p) (upd H1 p (.tup xs))
def b8D(t:TA):TE:=fun σ H Q=>t σ H fun xs H1=>xs.length<=sizeLine/\∀p,H1 p=none->Q (.ref p) (upd H1 p (.lst xs))
theorem a9b{x1}(h:PA X es t):PE X (.Tuple es x1 pos) (b6l t):=by
 intro pins s σ H Q I hq;refine wpAny_Tuple_spliced (thn (h pos pins s σ H _ I hq) fun us s1 ⟨xs,H1,I1,r,z,q⟩=>⟨by rw[←r.length];exact z,?_⟩)
 have hf:H1 s1.heap.objs.size=none:=I1.hok.fresh (ai _)
 refine⟨.ref s1.heap.objs.size,upd H1 s1.heap.objs.size (.tup xs),I1.laid (t':=s1.toks) (fun b u e=>Heap.get?_push_of_some _ e) (ai _) ?_,rfl,q _ hf⟩
 exact⟨z,us,r,⟨_,Heap.get?_push_size _ rfl,rfl,rfl,_,rfl⟩⟩
theorem b4d(h:PA X es t):PE X (.List es pos) (b8D t):=by
 intro pins s σ H Q I hq;refine wpAny_List_spliced (thn (h pos pins s σ H _ I hq) fun us s1 ⟨xs,H1,I1,r,z,q⟩=>⟨by rw[←r.length];exact z,?_⟩)
 have hf:H1 s1.heap.objs.size=none:=I1.hok.fresh (ai _)
 refine⟨.ref s1.heap.objs.size,upd H1 s1.heap.objs.size (.lst xs),I1.laid (t':=s1.toks) (fun b u e=>Heap.get?_push_of_some _ e) (ai _) ?_,rfl,q _ hf⟩
 exact⟨z,us,0,r,Heap.get?_push_size _ rfl⟩
end
abbrev Sp:=List V->Hp->VK->XK->Prop
abbrev CXT:=List Env->Hp->Shared->XK->Value->Shared->Prop
structure Env0(P:Program)(w:World)(K:PySem.W.Frag)(mg:Str->Option Value)(base:Heap)(A:Around)(outer:List Env)(s:Shared)(H:Hp):Prop where
 frames:A.frames=some outer
 mod:Mod K mg base
 bs:∀b o,base.get? b=some o->s.heap.get? b=some o/\H b=none
 bsz:base.objs.size<=s.heap.objs.size
 funs:s.heap.FunFrames base outer
 frf:∀b∈frs outer,H b=none
 hok:HOk P w H s.heap
 bare:AllBare s.gens
def CE(outer:List Env)(P:Program)(w:World)(H:Hp)(s:Shared)(Q:VK)(u:Value)(s':Shared):Prop:=
 ∃v H',s'.os=s.os/\AllBare s'.gens/\Un (frs outer) [] H H' s.heap s'.heap/\HOk P w H' s'.heap/\l8 v u/\Q v H'
def CR(CX:CXT)(outer:List Env)(P:Program)(w:World)(H:Hp)(s:Shared)(Q:VK)(E:XK)(r:Result)(s':Shared):Prop:=
 match r with
 |.ok (.ret u)=>CE outer P w H s Q u s'
 |.ok _=>False
 |.error e=>CX outer H s E e s'
structure FnOk(P:Program)(w:World)(K:PySem.W.Frag)(mg:Str->Option Value)(base:Heap)(CX:CXT)(k:Nat)(f:Addr)(fd:FuncData)(ps:List Str)(sp:Sp):Prop where
 len:∀vs H Q E,sp vs H Q E->vs.length=ps.length
 run:∀(A:Around) (outer:List Env) (s:Shared) (H:Hp) (args:Args) (us:List Value) (vs:List V) (Q:VK) (E:XK),Room k A->Env0 P w K mg base A outer s H->BindsTo s fd args (ps.zip us)->l7 vs us->sp vs H Q E→
  codeAny (model P w) A (.call (.ref f) args) (CR CX outer P w H s Q E) s
variable{mg:Str->Option Value}{base:Heap}{CX:CXT}{fd:FuncData}{ps:List Str}{sp:Sp}{outer:List Env}
theorem Env0.make(e:Env0 P w K mg base A outer s H)(C:Addr)(us:List Value)(kw:List (Str×Value)):
 Env0 P w K mg base (A.under (.builtin "type.__call__" ⟨.ref C::us,kw⟩)) outer s H:=⟨by first|exact e.frames|(simpa [Around.under,Code.envs,Code.isFrame,pushEnvs] using e.frames),e.mod,e.bs,e.bsz,e.funs,e.frf,e.hok,e.bare⟩
section
theorem Inv.env0(I:Inv X pins σ H s):Env0 X.prog X.w X.K X.mg X.base X.A X.stack s H:=
 ⟨I.ok.frames,I.ok.mod,I.bs,aY I.ok.bsz I.sz,I.stack,I.stkFree,I.hok,I.bare⟩
theorem Inv.after{Q:VK}(I:Inv X pins σ H s)(h:CE X.stack X.prog X.w H s Q u s'):EP X pins σ Q u s':=by
 obtain⟨v,H',os,bare,un,hok,r,q⟩:=h;obtain⟨hh,g,d,t,os'⟩:=s';obtain rfl:os'=s.os:=os;exact⟨v,H',I.call (h':=hh) (g':=g) (d':=d) (t':=t) (ch:=[]) un hok bare (fun b z=>absurd z (by simp)),r,q⟩
end
noncomputable def b6u(sp:Sp)(dvs:List V)(E:XK)(t:TA):TE:=fun σ H Q=>t σ H fun vs H1=>sp (vs++dvs) H1 Q E
def b6r(C:Addr)(sp:Sp)(dvs:List V)(E:XK)(t:TA):TE:=fun σ H Q=>t σ H fun vs H1=>∀x dx,H1 x=none->H1 dx=none->dx≠x→
 sp (.ref x::(vs++dvs)) (upd (upd H1 dx (.own x)) x (.ins C dx [])) (fun v H2=>v=.non/\Q (.ref x) H2) E
def M1(K:PySem.W.Frag)(fd:FuncData)(ps:List Str)(ds:List Value):Prop:=
 ∀(s:Shared) (us:List Value),K.In s.heap->(us++ds).length=ps.length->BindsTo s fd ⟨us,[]⟩ (ps.zip (us++ds))
theorem M1.all(h:∀us:List Value,us.length=ps.length->bindArgs fd ⟨us,[]⟩=pure (ps.zip us)):M1 K fd ps []:=fun s us _ hl=>by
 rw[bn] at hl⊢;exact .of_eq (h us hl)
def a0U(CX:CXT)(X:Cx)(E:XK):Prop:=∀(pins:List (Addr×Obj)) (σ:St) (H:Hp) (s:Shared) (e:Value) (s':Shared),Inv X pins σ H s->CX X.stack H s E e s'->X.xe e s'
section
variable{k:Nat}{f:Addr}{dvs:List V}{ds:List Value}{E:XK}{m:Str}{apos:Pos}{o:Expr}{ta:TE}{t:TA}
theorem b3F{Q:VK}{vs:List V}(F:FnOk X.prog X.w X.K X.mg X.base CX k f fd ps sp)(hr:Room k X.A)(hb:M1 X.K fd ps ds)(hd:l7 dvs ds)(hx:a0U CX X E)
 (I:Inv X pins σ H s) (r:l7 vs us) (h:sp (vs++dvs) H Q E):wpAny (model X.prog X.w) X.A (call (.ref f) us) (EP X pins σ Q) X.xe s:=by
 have r2:l7 (vs++dvs) (us++ds):=r.append hd
 have hl:(us++ds).length=ps.length:=by rw[←r2.length];exact F.len _ _ _ _ h
 refine wpAny_call (codeAny_mono (F.run X.A X.stack s H ⟨us,[]⟩ (us++ds) (vs++dvs) Q E hr I.env0 (hb s us I.kIn hl) r2 h) fun r s' hq=>?_)
 cases r with
 |error e=>exact hx pins σ H s e s' I hq
 |ok fl=>
  cases fl with
  |ret u=>exact I.after hq
  |next=>exact False.elim hq
  |brk=>exact False.elim hq
  |cont=>exact False.elim hq
theorem b1F(F:FnOk X.prog X.w X.K X.mg X.base CX k f fd ps sp)(hr:Room k X.A)(hg:Gl X x)(hm:X.mg x=some (.ref f))(hk:PySem.W.keepIn X.K (.ref f)=true)(hb:M1 X.K fd ps ds)(hd:l7 dvs ds)(hx:a0U CX X E)
 (ha:PA X (e::es) t) (hdb:(x==("__debug__":Str))=false:=by decide) (he:starEach (e::es) X.env=(false,eval e X.env)::starEach es X.env:=by rfl) (hpl:(backTo pos (starEach es X.env)).any (·.1)=false:=by rfl):
 PE X (.Call (.Name x p) (e::es) [] pos) (b6u sp dvs E t):=by
 intro pins s σ H Q I h;refine wpAny_Call_Name_kw (V7 I hg hm ?_ hdb)
 refine PySem.W.callWith_K (h₀:=X.base) I.ok.mod.kin hk (thn (ha pos pins s σ H _ I h) fun us s1 ⟨vs,H1,I1,r,q⟩=>⟨I1.kIn,?_⟩) he hpl
 exact b3F F hr hb hd hx I1 r q
structure Mk(K:PySem.W.Frag)(C f:Addr):Prop where
 makes:PySem.W.makesIn K C=true
 init:PySem.W.findIn K (.ref C) "__init__"=some (some (.ref f))
 fn:PySem.W.isFn K (.ref f)=true
 kp:PySem.W.keepIn K (.ref C)=true
theorem a8F{Q:VK}{vs:List V}(M:Mk X.K C f)(F:FnOk X.prog X.w X.K X.mg X.base CX k f fd ps sp)(hr:Room (k+1) X.A)(hb:M1 X.K fd ps ds)(hd:l7 dvs ds)
 (hx:a0U CX X E) (I:Inv X pins σ H s) (r:l7 vs us)
 (h:∀x dx,H x=none->H dx=none->dx≠x->sp (.ref x::(vs++dvs)) (upd (upd H dx (.own x)) x (.ins C dx [])) (fun v H2=>v=.non/\Q (.ref x) H2) E):
 wpAny (model X.prog X.w) X.A (call (.ref C) us) (EP X pins σ Q) X.xe s:=by
 have hq:=h (s.heap.objs.size+1) s.heap.objs.size (I.hok.fresh (Nat.le_succ _)) (I.hok.fresh (ai _)) (Nat.ne_of_lt (ba _));have I2:=Inv.made (C:=C) I
 have r2:l7 (V.ref (s.heap.objs.size+1)::(vs++dvs)) (Value.ref (s.heap.objs.size+1)::(us++ds)):=.cons rfl (r.append hd)
 have hl:(Value.ref (s.heap.objs.size+1)::us++ds).length=ps.length:=by
  have e:=r2.length;rw[F.len _ _ _ _ hq] at e;exact e.symm
 refine wpAny_call (a9E (f:=f) I.kIn M.makes M.init (beq_iff_eq.mp M.fn) (codeAny_mono (F.run _ X.stack _ _ ⟨Value.ref (s.heap.objs.size+1)::us,[]⟩ (Value.ref (s.heap.objs.size+1)::(us++ds)) _ _ E (hr.make C us [])
  (I2.env0.make C us []) (hb _ (Value.ref (s.heap.objs.size+1)::us) I2.kIn hl) r2 hq) fun r s' hq'=>?_))
 cases r with
 |error e=>exact hx pins σ _ _ e s' I2 hq'
 | ok fl=>
  cases fl with
  |ret u=>
   obtain⟨v,H',I3,rv,ev,q3⟩:=I2.after hq';subst ev;exact⟨rv,⟨V.ref (s.heap.objs.size+1),H',I3,rfl,q3⟩⟩
  |next=>exact False.elim hq'
  |brk=>exact False.elim hq'
  |cont=>exact False.elim hq'
theorem a9e(M:Mk X.K C f)(F:FnOk X.prog X.w X.K X.mg X.base CX k f fd ps sp)(hr:Room (k+1) X.A)(hg:Gl X x)(hm:X.mg x=some (.ref C))(hb:M1 X.K fd ps ds)(hd:l7 dvs ds)(hx:a0U CX X E)
 (hdb:(x==("__debug__":Str))=false:=by decide):PE X (.Call (.Name x p) [] [] pos) (b6r C sp dvs E b1d):=by
 intro pins s σ H Q I h;refine wpAny_Call_Name_kw (V7 I hg hm ?_ hdb)
 exact PySem.W.callWith_K0 I.kIn M.kp (a8F (us:=[]) M F hr hb hd hx I .nil h)
end
structure FnScope(N P:List Str)(sc:Scope):Prop where
 kind:sc.kind=.function
 co:sc.isCoroutine=false
 gen:sc.isGenerator=false
 nd:N.Nodup
 pre:N.take P.length=P
 par:∀x∈P,sc.names.lookup x=some .local∨sc.names.lookup x=some .cell
 nofree:∀y∈sc.names,y.2≠.free
theorem a3f{kindOf:Str->Option NameKind}{x:Str}:∀{binds:List (Str×Value)} {m:Str->Option Value},(∀v,(x,v)∉binds)->bindL kindOf binds m x=m x
 |[],_,_=>rfl
 | (n,v)::r,m,h=>by
  unfold bindL;rw[a3f fun w hw=>h w (aE _ hw)]
  split
  · have:x≠n:=by rintro rfl;exact h v bj
    simp[this]
  · rfl
theorem a3h{kindOf:Str->Option NameKind}{x:Str}:∀{binds:List (Str×Value)} {m:Str->Option Value},(∀v,(x,v)∉binds)->bindC kindOf binds m x=m x
 |[],_,_=>rfl
 | (n,v)::r,m,h=>by
  unfold bindC;rw[a3h fun w hw=>h w (aE _ hw)]
  split
  · rfl
  · have:x≠n:=by rintro rfl;exact h v bj
    simp[this]
theorem a3g{kindOf:Str->Option NameKind}{x:Str}{v:Value}:∀{P:List Str} {vs:List Value} {i:Nat} {m:Str->Option Value},P.Nodup->P[i]? =some x->vs[i]? =some v->kindOf x=some .local→
 bindL kindOf (P.zip vs) m x=some v
 |[],_,_,_,_,h,_,_=>by simp at h
 |_::_,[],_,_,_,_,h,_=>by simp at h
 |p::P,w::vs,0,m,nd,h1,h2,hk=>by
  simp at h1 h2;subst h1;subst h2
  show bindL kindOf ((p,w)::P.zip vs) m p=_
  unfold bindL;rw[a3f fun v hv=>(bf.mp nd).1 (of_mem_zip hv).1,ay hk]
  simp
 |p::P,w::vs,i+1,m,nd,h1,h2,hk=>by
  show bindL kindOf ((p,w)::P.zip vs) m x=_
  unfold bindL;exact a3g (i:=i) (bf.mp nd).2 (by simpa using h1) (by simpa using h2) hk
theorem a3i{kindOf:Str->Option NameKind}{x:Str}{v:Value}:∀{P:List Str} {vs:List Value} {i:Nat} {m:Str->Option Value},P.Nodup->P[i]? =some x->vs[i]? =some v->kindOf x≠some .local→
 bindC kindOf (P.zip vs) m x=some v
 |[],_,_,_,_,h,_,_=>by simp at h
 |_::_,[],_,_,_,_,h,_=>by simp at h
 |p::P,w::vs,0,m,nd,h1,h2,hk=>by
  simp at h1 h2;subst h1;subst h2
  show bindC kindOf ((p,w)::P.zip vs) m p=_
  unfold bindC;rw[a3h fun v hv=>(bf.mp nd).1 (of_mem_zip hv).1,az hk]
  simp
 |p::P,w::vs,i+1,m,nd,h1,h2,hk=>by
  show bindC kindOf ((p,w)::P.zip vs) m x=_
  unfold bindC;exact a3i (i:=i) (bf.mp nd).2 (by simpa using h1) (by simpa using h2) hk
noncomputable def a0f(N:List Str)(vs:List V):St:=vs.map some++List.replicate (N.length-vs.length) none
noncomputable def a0R(CX:CXT)(P:Program)(w:World)(K:PySem.W.Frag)(mg:Str->Option Value)(base:Heap)(N:List Str)(qual:Str)(scope:Scope)(f:Addr)(cd:Value)(A:Around)(outer:List Env)(s:Shared)(H:Hp)(E:XK):Cx where
 prog:=P
 w:=w
 K:=K
 mg:=mg
 base:=base
 A:=A.deeper (envOfC qual scope s.heap.objs.size f cd)
 N:=N
 s₀:=s
 H₀:=H
 env:=envOfC qual scope s.heap.objs.size f cd
 outer:=outer
 stack:=envOfC qual scope s.heap.objs.size f cd::outer
 ex:=[]
 calm:=true
 fn:=fun _=>true
 pn:=[]
 xe:=fun e s'=>wpAny (model P w) (A.deeper (envOfC qual scope s.heap.objs.size f cd)) (leaving (envOfC qual scope s.heap.objs.size f cd) e) (fun _ s''=>CX outer H s E e s'') (fun e' s''=>CX outer H s E e' s'') s'
variable{sc:Scope}
theorem a5i(h:sc.names.lookup x=some .cell):∃c,(cellsFrom n sc.names []).lookup x=some c:=by
 have q:=PySem.W.cellsFrom_some sc.names n [] (.inl h);exact Option.isSome_iff_exists.mp q
variable{qual:Str}{scope:Scope}
theorem a7N{f:Addr}{cd:Value}{s1:Shared}{E:XK}{vs:List V}
 (S:FnScope N ps scope) (hd:A.handled=none) (e0:Env0 P w K mg base A outer s H) (hl:vs.length=ps.length) (r:l7 vs us)
 (x:InCallC s s.heap.objs.size (bindL (envOfC qual scope s.heap.objs.size f cd).kindOf (ps.zip us) fun _=>none) (cellsFrom (s.heap.objs.size+1) scope.names []) (bindC (envOfC qual scope s.heap.objs.size f cd).kindOf (ps.zip us) fun _=>none) s1):
 Inv (a0R CX P w K mg base N qual scope f cd A outer s H E) [] (a0f N vs) H s1:=by
 have hpl:ps.length<=N.length:=by have:=congrArg List.length S.pre;rw[aQ] at this;omega
 obtain⟨h1,tk,rfl,hk⟩:=x.done
 have noA:∀b:Addr,b∉(a0R CX P w K mg base N qual scope f cd A outer s H E).ex:=fun b z=>absurd (show b∈([]:List Addr) from z) (by simp)
 refine⟨⟨e0.mod,S.kind,rfl,rfl,ai _,fun y z c h1 h2=>?_,fun y hy=>?_,fun y c _ h=>?_,fun _=>hd,Around.frames_deeper e0.frames,.inr ⟨rfl,rfl⟩,fun b z=>absurd z (noA b),e0.bs,e0.bsz,fun b _ _=>noA b,fun b z=>absurd z (noA b),e0.funs,e0.frf⟩,
  rfl,e0.bare,Un.kept hk,⟨_,x.toInCall.ns,fun i y v h1 h2 h3=>?_⟩,fun y c h=>⟨_,x.cell y c h⟩,e0.hok.fresh (ai _),fun y c h=>?_,fun p hp=>absurd (show p∈([]:List (Addr×Obj)) from hp) (by simp),e0.hok.kept hk,?_⟩
 · exact name_of_addr x.apart (PySem.mem_of_lookup h1) (PySem.mem_of_lookup h2)
 · have hy:scope.names.lookup y=some .cell∨scope.names.lookup y=some .free:=hy
   rcases hy with hy|hy
   · exact a5i hy
   · exact absurd rfl (S.nofree _ (PySem.mem_of_lookup hy))
 · exact aZ (x.above y c (PySem.mem_of_lookup h))
 · have hi:i<vs.length:=by
    unfold a0f at h2
    by_cases hi:i<vs.length
    · exact hi
    · rw[au (by simpa using hi)] at h2
      rw[bH] at h2
      split at h2<;>cases h2
   have ha:vs[i]? =some v:=by
    unfold a0f at h2;rw[av (by simpa using hi),aj] at h2
    cases e:vs[i]? with
    |none=>rw[e] at h2;cases h2
    |some a=>rw[e] at h2;cases h2;rfl
   obtain⟨u,hu,rv⟩:=r.get ha
   have hp:ps[i]? =some y:=by
    rw[←S.pre,bG (by omega)];exact h1
   have ndP:ps.Nodup:=by rw[←S.pre];exact S.nd.sublist (List.take_sublist _ _)
   refine⟨u,rv,?_⟩
   rcases S.par y (aI hp) with k|k
   · exact .inl ⟨k,a3g ndP hp hu k⟩
   · obtain⟨c,e⟩:=a5i (n:=s.heap.objs.size+1) k;refine .inr ⟨.inl k,c,e,?_⟩
     have q:=x.cell y c e;rw[a3i ndP hp hu (by show scope.names.lookup y≠_;rw[k];decide)] at q
     exact q
 · exact e0.hok.fresh (aZ (x.above y c (PySem.mem_of_lookup h)))
 · unfold a0f
   show _=N.length
   rw[aq,aa,bu];omega
variable{doc:Value}{pm:Value}{cdv:Value}{ct:Value}{oc:Value}{an:Option Addr}{od:Option Addr}{osl:Array (Option Value)}
theorem b7r{k:Nat}{f:Addr}{name:Str}{params:Arguments}{dV kV:Value}
 (lk:K.lookup f=some ⟨oc,od,.func (PySem.W.fnOf name qual params body scope dV kV doc pm an cdv ct),osl⟩) (hcd:PySem.W.codeIn K cdv qual=true) (S:FnScope N ps scope)
    (len:∀vs H Q E,sp vs H Q E->vs.length=ps.length)
    (hbody:∀(A:Around) (outer:List Env) (s:Shared) (H:Hp) (vs:List V) (Q:VK) (E:XK),Room k (A.deeper (envOfC qual scope s.heap.objs.size f cdv))->sp vs H Q E→
      ∃t,PSs (a0R CX P w K mg base N qual scope f cdv A outer s H E) body t/\t {nx:=fun _ H'=>Q .non H',rt:=Q} (a0f N vs) H):
    FnOk P w K mg base CX (k+1) f (PySem.W.fnOf name qual params body scope dV kV doc pm an cdv ct) ps sp:=by
  refine⟨len,fun A outer s H args us vs Q E hr e0 hb r hsp=>?_⟩
  have hl:=len _ _ _ _ hsp
  have KX:K.In s.heap:=e0.mod.kin.keeps fun b o e=>(e0.bs b o e).1
  have lim:s.heap.NoLimit:=e0.mod.nolimit.keeps fun b o e=>(e0.bs b o e).1
  have hkind:∀y∈ps.zip us,scope.names.lookup y.1=some .local∨(scope.names.lookup y.1=some .cell/\((cellsFrom (s.heap.objs.size+1) scope.names []).lookup y.1).isSome=true):=fun⟨n,v⟩ hy=>by
    rcases S.par n (of_mem_zip hy).1 with q|q
    · exact .inl q
    · exact .inr ⟨q,PySem.W.cellsFrom_some _ _ _ (.inl q)⟩
  refine codeAny_call_function hr.depth (KX _ _ lk) rfl S.co S.gen rfl (PySem.W.codeRec_of KX hcd) (hb _ _ _ _ ?_)
  refine wpAny_newFunctionEnv_cells S.kind hkind fun env he s1 x=>?_
  subst he;refine⟨lim.keeps x.toInCall.keep,codeAny_func ?_⟩
  obtain⟨t,ht,hq⟩:=hbody A outer s H vs Q E (hr.deeper _) hsp
  have I:Inv (a0R CX P w K mg base N qual scope f cdv A outer s H E) [] (a0f N vs) H s1:=a7N S hr.hd e0 hl r x
  refine wpAny_mono (ht [] s1 (a0f N vs) H _ I hq) (fun fl s' hs=>?_) fun e s' hs=>hs
  have fin:∀{σ':St} {H':Hp} {v:V} {u:Value},Inv (a0R CX P w K mg base N qual scope f cdv A outer s H E) [] σ' H' s'->l8 v u->Q v H'->CE outer P w H s Q u s':=
    fun{σ' H' v u} J rv q=>⟨v,H',J.os,J.bare,J.base,J.hok,rv,q⟩
  cases fl with
  | ret u=>
    obtain⟨v,σ',H',J,rv,q⟩:=hs;exact fin J rv q
  | next=>
    obtain⟨σ',H',J,q⟩:=hs;exact fin (v:=V.non) (u:=Value.none) J rfl q
  | brk=>
    obtain⟨_,_,_,q⟩:=hs;exact False.elim q
  | cont=>
    obtain⟨_,_,_,q⟩:=hs;exact False.elim q
section
variable{t:TA}{id T:String}{r:List V->Hp->VK->Prop}
def tCB(r:List V->Hp->VK->Prop)(t:TA):TE:=fun σ H Q=>t σ H fun vs H1=>r vs H1 Q
theorem F0(hc:D5 X (.builtin id) r)(hg:Gl X x)(hm:X.mg x=none)(hv:bootBuiltins x=some (.builtin id))(ha:PA X (e::es) t)(hn:x≠"__name__":=by decide)(hdb:(x==("__debug__":Str))=false:=by decide)
 (he:starEach (e::es) X.env=(false,eval e X.env)::starEach es X.env:=by rfl) (hpl:(backTo pos (starEach es X.env)).any (·.1)=false:=by rfl):PE X (.Call (.Name x p) (e::es) [] pos) (tCB r t):=by
 intro pins s σ H Q I h;refine wpAny_Call_Name_kw (Y9 I hg hm hv ?_ hn hdb)
 exact PyProof.Rows.callWith_builtin1 (thn (ha pos pins s σ H _ I h) fun us s1 ⟨vs,H1,I1,r1,q1⟩=>hc pins s1 σ H1 vs us Q I1 r1 q1) he hpl
theorem O4(hc:D5 X (.type T) r)(hg:Gl X x)(hm:X.mg x=none)(hv:bootBuiltins x=some (.type T))(ha:PA X (e::es) t)(hn:x≠"__name__":=by decide)(hdb:(x==("__debug__":Str))=false:=by decide)
 (he:starEach (e::es) X.env=(false,eval e X.env)::starEach es X.env:=by rfl) (hpl:(backTo pos (starEach es X.env)).any (·.1)=false:=by rfl):PE X (.Call (.Name x p) (e::es) [] pos) (tCB r t):=by
 intro pins s σ H Q I h;refine wpAny_Call_Name_kw (Y9 I hg hm hv ?_ hn hdb)
 exact PyProof.Rows.callWith_type1 (thn (ha pos pins s σ H _ I h) fun us s1 ⟨vs,H1,I1,r1,q1⟩=>hc pins s1 σ H1 vs us Q I1 r1 q1) he hpl
end
end L2
namespace HT
open PySem PyProof.Rows
variable{b:Addr}{items:Array Value}{Q:Value->Shared->Prop}{sl:Addr}{vl:Value}{vu:Value}{lo:Option Int}{hi:Option Int}
section
variable{prog:Program}{w:World}{A:Around}{E:Value->Shared->Prop}{s:Shared}
noncomputable def sIx(n d:Nat):Option Int->Nat
 |none=>d
 |some v=>if v<0 then(v+(n:Int)).toNat else min v.toNat n
theorem a8E(n d:Nat):sIx n d none=d:=rfl
theorem a3w(n d k:Nat):sIx n d (some (k:Int))=min k n:=by
 show(if(k:Int)<0 then((k:Int)+(n:Int)).toNat else min (k:Int).toNat n)=min k n
 rw[az (by omega),Int.toNat_natCast]
end
end HT
namespace L2
open PySem PySem.Spec PyProof.Rows
abbrev TO:=St->Hp->(Option Int->Hp->Prop)->Prop
def PO(X:Cx)(e:Option Expr)(t:TO):Prop:=
 ∀(pins:List (Addr×Obj)) (s:Shared) (σ:St) (H:Hp) (Q:Option Int->Hp->Prop),Inv X pins σ H s->t σ H Q→
  wpAny (model X.prog X.w) X.A (evalPart e X.env) (fun u s'=>∃o H',Inv X pins σ H' s'/\IsPart u o/\Q o H') X.xe s
def b1c:TO:=fun _ H Q=>Q none H
noncomputable def b6n(t:TE):TO:=fun σ H Q=>t σ H fun x H1=>∃i,x=.int i/\Q (some i) H1
variable{ns:List Int}{r:V->Option Int->Option Int->Hp->VK->Prop}{us:List Value}
section
variable{X:Cx}{e:Expr}{te:TE}{lo hi:Option Expr}{tl th:TO}{pos p2:Pos}
theorem b1w:PO X none b1c:=by
 intro pins s σ H Q I h;rw[evalPart_none];exact wpAny_pure ⟨none,H,I,.none,h⟩
theorem b1v(h:PE X e te):PO X (some e) (b6n te):=by
 intro pins s σ H Q I hw;rw[evalPart_some];refine thn (h pins s σ H _ I hw) fun u s1 ⟨x,H1,I1,r1,q1⟩=>?_
 obtain⟨i,rfl,q⟩:=q1;obtain⟨t,rfl⟩:=r1;exact⟨some i,H1,I1,.int i t,q⟩
def SlR(X:Cx)(r:V->Option Int->Option Int->Hp->VK->Prop):Prop:=
 ∀(pins:List (Addr×Obj)) (s:Shared) (σ:St) (H:Hp) (x:V) (v vl vu:Value) (lo hi:Option Int) (sl:Addr) (Q:VK),Inv X pins σ H s->l8 x v->s.heap.IsSliceOf sl vl vu .none->IsPart vl lo->IsPart vu hi->r x lo hi H Q→
  ∃T id,typeLookup (.type T) "__getitem__"=pure (some (.builtin id))/\s.TypeIs v T/\wpAny (model X.prog X.w) X.A (getItem v (.ref sl)) (EP X pins σ Q) X.xe s
def tSl(r:V->Option Int->Option Int->Hp->VK->Prop)(te:TE)(tl th:TO):TE:=fun σ H Q=>te σ H fun x H1=>tl σ H1 fun l H2=>th σ H2 fun u H3=>r x l u H3 Q
theorem a9d(hr:SlR X r)(he:PE X e te)(hl:PO X lo tl)(hu:PO X hi th):PE X (.Subscript e (.Slice lo hi none p2) pos) (tSl r te tl th):=by
 intro pins s σ H Q I h;refine Subscript_ (thn (he pins s σ H _ I h) fun v s1 ⟨x,H1,I1,r1,q1⟩=>?_)
 refine wpAny_Slice (thn (hl pins s1 σ H1 _ I1 q1) fun vl s2 ⟨l,H2,I2,pl,q2⟩=>thn (hu pins s2 σ H2 _ I2 q2) fun vu s3 ⟨u,H3,I3,pu,q3⟩=>?_)
 rw[evalPart_none];refine wpAny_pure ?_
 have I4:Inv X pins σ H3 {s3 with heap:=s3.heap.push {cls:=.type "slice",data:=.fields #[vl,vu,.none]}}:=I3.kept (t':=s3.toks) fun b ob q=>Heap.get?_push_of_some _ q
 obtain⟨T,id,hT,ht,hg⟩:=hr pins {s3 with heap:=s3.heap.push {cls:=.type "slice",data:=.fields #[vl,vu,.none]}} σ H3 x v vl vu l u s3.heap.objs.size Q I4 r1 (Heap.IsSliceOf.new ..) pl pu q3
 show wpAny (model X.prog X.w) X.A (subscriptTail e (.Slice lo hi none p2) v (.ref s3.heap.objs.size)) (EP X pins σ Q) X.xe {s3 with heap:=s3.heap.push {cls:=.type "slice",data:=.fields #[vl,vu,.none]}}
 exact tail_any (ops:=[.ref s3.heap.objs.size,v]) ht hT hg (by with_unfolding_all rfl)
def a7X(xs:List V)(lo hi:Option Int):List V:=(xs.drop (HT.sIx xs.length 0 lo)).take (HT.sIx xs.length xs.length hi-HT.sIx xs.length 0 lo)
theorem a5e(xs:List V)(lo hi:Option Int):(a7X xs lo hi).length<=xs.length:=by
 unfold a7X;rw[aQ,bF];omega
end
noncomputable def ixN(n:Nat)(i:Int):Option Nat:=if 0<=i then(if i<n then some i.toNat else none) else if-(n:Int)<=i then some (i+n).toNat else none
def atI{α:Type}(xs:List α)(i:Int):Option α:=(ixN xs.length i).bind fun j=>xs[j]?
variable{n:Nat}{j:Nat}
theorem a6F{i:Int}(h:ixN n i=some j):seqIndex? i n=some j/\j<n/\ -(n:Int)<=i/\i<n:=by
 unfold ixN at h
 by_cases h0:0<=i
 · rw[ay h0] at h
   by_cases h1:i<n
   · rw[ay h1] at h
     have e:i.toNat=j:=ax h
     exact⟨by rw[seqIndex_of h0 h1,e],by omega,by omega,h1⟩
   · rw[az h1] at h;cases h
 · rw[az h0] at h
   by_cases h1: -(n:Int)<=i
   · rw[ay h1] at h
     have e:(i+n).toNat=j:=ax h
     exact⟨by rw[seqIndex_neg (by omega) h1,e],by omega,h1,by omega⟩
   · rw[az h1] at h;cases h
variable{α:Type}
theorem a4l{xs:List α}{i:Int}{v:α}(h:atI xs i=some v):∃j,seqIndex? i xs.length=some j/\xs[j]? =some v/\j<xs.length/\ -(xs.length:Int)<=i/\i<xs.length:=by
 unfold atI at h
 cases e:ixN xs.length i with
 |none=>rw[e] at h;cases h
 |some j=>
  rw[e] at h;obtain⟨h1,h2,h3,h4⟩:=a6F e;exact⟨j,h1,h,h2,h3,h4⟩
def a1y(b:Expr):Prop:=∀o i,subscripted b false o i=operate [o,i] (getItem o i)
def IxR(X:Cx)(r:R2):Prop:=
 ∀(value slice:Expr) (pins:List (Addr×Obj)) (s:Shared) (σ:St) (H:Hp) (x y:V) (v u:Value) (Q:VK),Inv X pins σ H s->l8 x v->l8 y u->r x y H Q→
  subscripted slice false v u=operate [v,u] (getItem v u)->wpAny (model X.prog X.w) X.A (subscriptTail value slice v u) (EP X pins σ Q) X.xe s
def MtR(X:Cx)(id:String)(r:V->List V->Hp->VK->Prop):Prop:=
 ∀(pins:List (Addr×Obj)) (s:Shared) (σ:St) (H:Hp) (x:V) (xs:List V) (v:Value) (us:List Value) (Q:VK),Inv X pins σ H s->l8 x v->l7 xs us->r x xs H Q→
  wpAny (model X.prog X.w) X.A (call (.builtin id) (v::us)) (EP X pins σ Q) X.xe s
variable{id:String}{pins:List (Addr×Obj)}{σ:St}{H:Hp}{s:Shared}{ys:List V}{its:List Value}{its':List Value}{A:Around}{y:V}{u:Value}
section
variable{X:Cx}{a b:Expr}{ta tb:TE}{pos:Pos}
theorem b3b{r:R2}(hr:IxR X r)(ha:PE X a ta)(hb:PE X b tb)(hs:a1y b):PE X (.Subscript a b pos) (tOp r ta tb):=by
 intro pins s σ H Q I h;exact Subscript_ (b5B ha hb I h fun v u s2 x y H2 I2 rx ry q=>hr a b pins s2 σ H2 x y v u Q I2 rx ry q (hs _ _))
noncomputable def b8S(K:PySem.W.Frag):R2:=fun x y H Q=>∃p xs i v,x=.ref p/\y=.int i/\SqL K H p xs/\atI xs i=some v/\Q v H
noncomputable def b8Q(K:PySem.W.Frag):R2:=fun x y H Q=>∃p xs i v,x=.ref p/\y=.int i/\SqT K H p xs/\atI xs i=some v/\Q v H
noncomputable def b8R:R2:=fun x y H Q=>∃z i c,x=.str z/\y=.int i/\z.length<=sizeLine/\atI z.cps.toList i=some c/\Q (.str ⟨#[c]⟩) H
theorem a6E:IxR X (b8S X.K):=by
 intro value slice pins s σ H x y v u Q I rx ry h hs;obtain⟨p,xs,i,z,rfl,rfl,hq,he,q⟩:=h;cases rx;obtain⟨t,rfl⟩:=ry;obtain⟨its,r,pl,hz⟩:=I.list hq;obtain⟨j,h1,h2,h3,h4,h5⟩:=a4l he;obtain⟨w,ew,rw'⟩:=r.get h2;have hl:=r.length;have hn:=Y8
 have fin:EP X pins σ Q w s:=⟨z,H,I,rw',q⟩
 by_cases h0:0<=i
 · have hj:i.toNat=j:=by
    rw[seqIndex_of h0 h5] at h1;exact ax h1
   exact item_listR pl.isList h0 (by omega) (by rw[hj];simpa using ew) fin hs
 · have hj:(i+(its.toArray.size:Int)).toNat=j:=by
    rw[seqIndex_neg (by omega) h4] at h1
    rw[size_toArray,←hl];exact ax h1
   exact subscriptTail_builtinR (x:=w) pl.isList.typeIs slot_list_getitem.lookup
    (wpAny_getItem_list_neg (Q:=fun r s'=>r=w/\EP X pins σ Q r s') pl.isList (by omega) (by rw[size_toArray]<;>omega) (by omega) (by rw[hj];simpa using ew) ⟨rfl,fin⟩) hs
theorem ix_tup:IxR X (b8Q X.K):=by
 intro value slice pins s σ H x y v u Q I rx ry h hs;obtain⟨p,xs,i,z,rfl,rfl,hq,he,q⟩:=h;cases rx;obtain⟨t,rfl⟩:=ry;obtain⟨its,r,pl,hz⟩:=I.tuple hq;obtain⟨j,h1,h2,h3,h4,h5⟩:=a4l he;obtain⟨w,ew,rw'⟩:=r.get h2;have hl:=r.length;have hn:=Y8
 have fin:EP X pins σ Q w s:=⟨z,H,I,rw',q⟩
 exact subscriptTail_builtinR (x:=w) pl.typeIs slot_tuple_getitem.lookup
  (getItem_tuple (j:=j) (Q:=fun r s'=>r=w/\EP X pins σ Q r s') pl (by omega) (by omega) (by rw[size_toArray,←hl];exact h1) (by simpa using ew) ⟨rfl,fin⟩) hs
theorem ix_str:IxR X b8R:=by
 intro value slice pins s σ H x y v u Q I rx ry h hs;obtain⟨z,i,c,rfl,rfl,hz,he,q⟩:=h;obtain⟨t,rfl⟩:=rx;obtain⟨t',rfl⟩:=ry;obtain⟨j,h1,h2,h3,h4,h5⟩:=a4l he
 have hl:z.cps.toList.length=z.length:=by simp[Str.length]
 rw[hl] at h1 h4 h5;have hn:=Y8
 exact tail_any (typeIs_str s z t) slot_str_getitem.lookup (getItem_str (c:=c) (by
  have e1:decide (i< -(2^63:Int))=false:=bE (by omega)
  have e2:decide (i≥2^63)=false:=bE (by omega)
  rw[e1,e2,Bool.or_false]) (by rw[h1];simpa using h2) ⟨.str ⟨#[c]⟩,H,I.tok _,⟨_,rfl⟩,q⟩) hs
theorem a5K(its:List Value)(n j:Nat)(u:Value):Obj.mapSeq (·.setIfInBounds j u) {cls:=.type "list",data:=.seq its.toArray n}={cls:=.type "list",data:=.seq (its.set j u).toArray n}:=by
 simp[Obj.mapSeq]
theorem Inv.lst{pins:List (Addr×Obj)}{σ:St}{H:Hp}{s:Shared}{p:Addr}{xs:List V}(I:Inv X pins σ H s)(h:H p=some (.lst xs)):
 ∃(its:List Value) (n:Nat),l7 xs its/\s.heap.get? p=some {cls:=.type "list",data:=.seq its.toArray n}/\xs.length<=sizeLine:=by
 obtain⟨z,its,n,r,e⟩:=I.hok p _ h;exact⟨its,n,r,e,z⟩
theorem Inv.lstUpd{p:Addr}{xs:List V}{n':Nat}{f:Obj->Obj}(I:Inv X pins σ H s)(h:H p=some (.lst xs))
 (ho:s.heap.get? p=some {cls:=.type "list",data:=.seq its.toArray n}) (hf:f {cls:=.type "list",data:=.seq its.toArray n}={cls:=.type "list",data:=.seq its'.toArray n'}) (r:l7 ys its') (hz:ys.length<=sizeLine) (t:Nat):
 Inv X pins σ (upd H p (.lst ys)) {s with heap:=s.heap.update p f,toks:=t}:=by
 have e:(s.heap.update p f).get? p=some {cls:=.type "list",data:=.seq its'.toArray n'}:=by
  rw[Heap.get?_update_self f ho (by rw[hf]<;>rfl),hf]
 refine I.write (x:=p) (e:=p) (by rw[h];trivial) (.inl rfl) (fun b u hb q=>(Heap.get?_update_other _ _ (Ne.symm hb)).trans q) ⟨_,e⟩ ?_
 exact⟨hz,its',n',r,e⟩
def b6F:V->V->V->Hp->(Hp->Prop)->Prop:=fun o i v H Q=>∃p xs k j,o=.ref p/\i=.int k/\H p=some (.lst xs)/\ixN xs.length k=some j/\Q (upd H p (.lst (xs.set j v)))
theorem a8B:b6b X b6F:=by
 intro pins s σ H o i v ov iv u Q I ro ri rv h;obtain⟨p,xs,k,j,rfl,rfl,hp,hj,q⟩:=h;cases ro;obtain⟨t,rfl⟩:=ri;obtain⟨its,n,r,ho,hz⟩:=I.lst hp;obtain⟨h1,h2,h3,h4⟩:=a6F hj;have hl:=r.length;have hn:=Y8
 have I':Inv X pins σ (upd H p (.lst (xs.set j v))) {s with heap:=s.heap.update p (Obj.mapSeq (·.setIfInBounds j u))}:=
  I.lstUpd hp ho (a5K its n j u) (r.set rv j) (by rw[aU];exact hz) s.toks
 by_cases h0:0<=k
 · have hk:k.toNat=j:=by
    rw[seqIndex_of h0 h4] at h1;exact ax h1
   exact PySem.W.ki_setAt ho h0 (by omega) (by rw[size_toArray,←hl];exact h4) (by rw[hk];exact⟨_,I',q⟩)
 · have hk:(k+(its.toArray.size:Int)).toNat=j:=by
    rw[seqIndex_neg (by omega) h3] at h1
    rw[size_toArray,←hl];exact ax h1
   exact PySem.W.ki_setBack ho (by omega) (by rw[size_toArray,←hl];exact h3) (by omega) (by rw[hk];exact⟨_,I',q⟩)
theorem a3s(lo hi:Option Int)(n:Nat):(sliceBounds lo hi none n).1=((HT.sIx n 0 lo:Nat):Int)/\(sliceBounds lo hi none n).2.1=((HT.sIx n n hi:Nat):Int)/\(sliceBounds lo hi none n).2.2=1:=by
 refine⟨?_,?_,rfl⟩
 · cases lo with
   |none=>simp[sliceBounds,HT.sIx]
   |some i=>
    simp only[sliceBounds,HT.sIx,Option.getD_none,show(1:Int)>0 by decide,if_true]
    by_cases h:i<0
    · simp only[h,if_true]<;>omega
    · simp only[h,if_false]<;>omega
 · cases hi with
   |none=>simp[sliceBounds,HT.sIx]
   |some i=>
    simp only[sliceBounds,HT.sIx,Option.getD_none,show(1:Int)>0 by decide,if_true]
    by_cases h:i<0
    · simp only[h,if_true]<;>omega
    · simp only[h,if_false]<;>omega
theorem a2t(its:List Value)(lo hi:Option Int):slicePick its.toArray lo hi none=((its.drop (HT.sIx its.length 0 lo)).take (HT.sIx its.length its.length hi-HT.sIx its.length 0 lo)).toArray:=by
 obtain⟨h1,h2,h3⟩:=a3s lo hi its.toArray.size;unfold slicePick;rw[h1,h2,h3];simp only[sliceRange_one,pick_run,size_toArray]<;>rfl
def b8O(K:PySem.W.Frag):V->Option Int->Option Int->Hp->VK->Prop:=fun x lo hi H Q=>∃a xs,x=.ref a/\SqL K H a xs/\∀p,H p=none->Q (.ref p) (upd H p (.lst (a7X xs lo hi)))
theorem b1g:SlR X (b8O X.K):=by
 intro pins s σ H x v vl vu lo hi sl Q I rx hs pl pu h;obtain⟨a,xs,rfl,hx,q⟩:=h;cases rx;obtain⟨its,r,ht,hz⟩:=I.list hx;have hlen:=r.length;refine⟨"list",_,slot_list_getitem.lookup,ht.isList.typeIs,?_⟩
 refine wpAny_getItem_list_slice ht.isList hs pl pu .none (by simp) ?_ (by rw[size_toArray]<;>omega)
 rw[a2t,←hlen];refine⟨.ref s.heap.objs.size,_,I.laid (t':=s.toks) (o:=.lst (a7X xs lo hi)) (fun b ob q=>Heap.get?_push_of_some _ q) (ai _) ?_,rfl,q _ (I.hok.fresh (ai _))⟩
 exact⟨aY (a5e xs lo hi) hz,_,0,(r.drop (HT.sIx xs.length 0 lo)).take (HT.sIx xs.length xs.length hi-HT.sIx xs.length 0 lo),Heap.get?_push_size _ rfl⟩
noncomputable def K8:V->Bool
 |.non=>true
 |.bl _=>true
 |.int _=>true
 |.str _=>true
 |_=>false
noncomputable def eqV:V->V->Bool
 |.non,.non=>true
 |.bl a,.bl b=>a==b
 |.bl a,.int b=>(if a then 1 else 0)==b
 |.int a,.bl b=>a==(if b then 1 else 0)
 |.int a,.int b=>a==b
 |.str a,.str b=>a==b
 |_,_=>false
theorem b0u{x:V}{v:Value}(ry:l8 y u)(rx:l8 x v)(fy:K8 y=true)(fx:K8 x=true):SeqAt.EqAt A s u v (eqV y x):=by
 cases y with
 |non=>
  cases ry
  cases x with
  |non=>cases rx;exact SeqAt.EqAt.same _
  |bl b=>cases rx;exact SeqAt.EqAt.none_bool b
  |int b=>obtain⟨t,rfl⟩:=rx;exact SeqAt.EqAt.none_int b t
  |str b=>obtain⟨t,rfl⟩:=rx;exact SeqAt.EqAt.none_str b t
  |_=>exact absurd (show false=true from fx) bx
 |bl a=>
  cases ry
  cases x with
  |non=>cases rx;exact SeqAt.EqAt.bool_none a
  |bl b=>cases rx;exact SeqAt.EqAt.bool_bool a b
  |int b=>obtain⟨t,rfl⟩:=rx;exact SeqAt.EqAt.bool_int a b t
  |str b=>obtain⟨t,rfl⟩:=rx;exact SeqAt.EqAt.bool_str a b t
  |_=>exact absurd (show false=true from fx) bx
 |int a=>
  obtain⟨t',rfl⟩:=ry
  cases x with
  |non=>cases rx;exact SeqAt.EqAt.int_none a t'
  |bl b=>cases rx;exact SeqAt.EqAt.int_bool a t' b
  |int b=>obtain⟨t,rfl⟩:=rx;exact SeqAt.EqAt.int_int a t' b t
  |str b=>obtain⟨t,rfl⟩:=rx;exact SeqAt.EqAt.int_str a t' b t
  |_=>exact absurd (show false=true from fx) bx
 |str a=>
  obtain⟨t',rfl⟩:=ry
  cases x with
  |non=>cases rx;exact SeqAt.EqAt.str_none a t'
  |bl b=>cases rx;exact SeqAt.EqAt.str_bool a t' b
  |int b=>obtain⟨t,rfl⟩:=rx;exact SeqAt.EqAt.str_int a t' b t
  |str b=>obtain⟨t,rfl⟩:=rx;exact SeqAt.EqAt.str_str a t' b t
  |_=>exact absurd (show false=true from fx) bx
 |_=>exact absurd (show false=true from fy) bx
def eqU(x:V)(u:Value):Bool:=match u with
 |.none=>eqV .non x
 |.bool b=>eqV (.bl b) x
 |.int i _=>eqV (.int i) x
 |.str z _=>eqV (.str z) x
 |_=>false
theorem b0r{x:V}(r:l8 y u)(f:K8 y=true):eqU x u=eqV y x:=by
 cases y with
 |non=>cases r;rfl
 |bl b=>cases r;rfl
 |int i=>obtain⟨t,rfl⟩:=r;rfl
 |str z=>obtain⟨t,rfl⟩:=r;rfl
 |_=>exact absurd (show false=true from f) bx
theorem a0A{x:V}:∀{xs:List V} {us:List Value},l7 xs us->xs.all K8=true->us.any (eqU x)=xs.any fun y=>eqV y x
 |_,_,.nil,_=>rfl
 |y::xs,u::us,.cons r t,f=>by
  rw[all_cons,ae] at f;rw[any_cons,any_cons,b0r r f.1,a0A t f.2]
theorem T2{A:Around}{s:Shared}{x:V}{v:Value}(rx:l8 x v)(fx:K8 x=true):∀{xs:List V} {us:List Value},l7 xs us->xs.all K8=true->∀u∈us,SeqAt.EqAt A s u v (eqU x u)
 |_,_,.nil,_=>fun u hu=>by cases hu
 |y::xs,u::us,.cons r t,f=>fun u' hu=>by
  rw[all_cons,ae] at f
  rcases aH.mp hu with rfl|hu
  · rw[b0r r f.1];exact b0u r rx f.1 fx
  · exact T2 rx fx t f.2 u' hu
def inV(x:V)(xs:List V):Bool:=xs.any fun y=>eqV y x
def rIn(K:PySem.W.Frag)(neg:Bool):R2:=fun x y H Q=>∃p xs,y=.ref p/\(SqL K H p xs∨SqT K H p xs)/\K8 x=true/\xs.all K8=true/\Q (.bl (if neg then !inV x xs else inV x xs)) H
theorem V5:OpR X (compareOp .In) (rIn X.K false):=by
 intro pins s σ H x y v u Q I rx ry h;obtain⟨p,xs,rfl,hq,fx,fs,q⟩:=h;cases ry
 rcases hq with hq|hq
 · obtain⟨its,r,pl,hz⟩:=I.list hq;refine SeqAt.in_listAt (eqU x) pl.isList (fun w hw=>T2 rx fx r fs w (by simpa using hw)) ⟨.bl _,H,I,rfl,?_⟩
   rw[show its.toArray.any (eqU x)=its.any (eqU x) by simp,a0A r fs]
   exact q
 · obtain⟨its,r,pl,hz⟩:=I.tuple hq;refine SeqAt.in_tupleAt (eqU x) pl (fun w hw=>T2 rx fx r fs w (by simpa using hw)) ⟨.bl _,H,I,rfl,?_⟩
   rw[show its.toArray.any (eqU x)=its.any (eqU x) by simp,a0A r fs]
   exact q
theorem K9:OpR X (compareOp .NotIn) (rIn X.K true):=by
 intro pins s σ H x y v u Q I rx ry h;obtain⟨p,xs,rfl,hq,fx,fs,q⟩:=h;cases ry
 rcases hq with hq|hq
 · obtain⟨its,r,pl,hz⟩:=I.list hq;refine SeqAt.notIn_listAt (eqU x) pl.isList (fun w hw=>T2 rx fx r fs w (by simpa using hw)) ⟨.bl _,H,I,rfl,?_⟩
   rw[show its.toArray.any (eqU x)=its.any (eqU x) by simp,a0A r fs]
   exact q
 · obtain⟨its,r,pl,hz⟩:=I.tuple hq;refine SeqAt.notIn_tupleAt (eqU x) pl (fun w hw=>T2 rx fx r fs w (by simpa using hw)) ⟨.bl _,H,I,rfl,?_⟩
   rw[show its.toArray.any (eqU x)=its.any (eqU x) by simp,a0A r fs]
   exact q
theorem a3I:OpR X (compareOp .NotIn) (fun x y H Q=>∃i j,x=.str i/\y=.str j/\Q (.bl (!(!(Builtin.Str.occurrences j i 0 j.length 1).isEmpty))) H):=by
 intro pins s σ H x y v u Q I rx ry h;obtain⟨i,j,rfl,rfl,q⟩:=h;obtain⟨t,rfl⟩:=rx;obtain⟨t',rfl⟩:=ry;exact notIn_str ⟨.bl _,H,I,rfl,q⟩
theorem a0y:D5 X (.builtin "len") (fun xs H Q=>∃p ys,xs=[.ref p]/\(SqL X.K H p ys∨SqT X.K H p ys)/\Q (.int ys.length) H):=by
 intro pins s σ H xs us Q I r h;obtain⟨p,ys,rfl,hq,q⟩:=h;obtain⟨u,rfl,rx⟩:=O2 r;cases rx;have hn:=Y8
 rcases hq with hq|hq
 · obtain⟨its,r',pl,hz⟩:=I.list hq;have hlen:=r'.length;exact Calls.call_len_list pl.isList (by simp only[size_toArray]<;>omega) ⟨.int ys.length,H,I.tok _,⟨s.toks+1,by rw[size_toArray,hlen]⟩,q⟩
 · obtain⟨its,r',pl,hz⟩:=I.tuple hq;have hlen:=r'.length;exact len_tuple pl (by simp only[size_toArray]<;>omega) ⟨.int ys.length,H,I.tok _,⟨s.toks+1,by rw[size_toArray,hlen]⟩,q⟩
theorem a4i:D5 X (.builtin "len") (fun xs H Q=>∃z,xs=[.str z]/\z.length<=sizeLine/\Q (.int z.length) H):=by
 intro pins s σ H xs us Q I r h;obtain⟨z,rfl,hz,q⟩:=h;obtain⟨u,rfl,t,rfl⟩:=O2 r;have hn:=Y8;exact len_str (by omega) ⟨.int z.length,H,I.tok _,⟨_,rfl⟩,q⟩
theorem a0x:D5 X (.type "list") (fun xs H Q=>∃p ys,xs=[.ref p]/\(SqL X.K H p ys∨SqT X.K H p ys)/\∀l,H l=none->Q (.ref l) (upd H l (.lst ys))):=by
 intro pins s σ H xs us Q I r h;obtain⟨p,ys,rfl,hq,q⟩:=h;obtain⟨u,rfl,rx⟩:=O2 r;cases rx
 have fin:∀(its:List Value),l7 ys its->ys.length<=sizeLine->∀(h':Heap) (c':Nat),(∀b o',s.heap.get? b=some o'->h'.get? b=some o')→
  h'.get? s.heap.objs.size=some {cls:=.type "list",dict:=none,data:=.seq its.toArray c',slots:= #[]}->EP X pins σ Q (.ref s.heap.objs.size) {s with heap:=h'}:=fun its r' hz h' c' kp e=>
  ⟨.ref s.heap.objs.size,_,I.laid (t':=s.toks) kp (ai _) (show x5 X.prog X.w _ h' _ (.lst ys) from⟨hz,its,c',r',e⟩),rfl,q _ (I.hok.fresh (ai _))⟩
 rcases hq with hq|hq
 · obtain⟨its,r',pl,hz⟩:=I.list hq;have hlen:=r'.length;obtain⟨o,ho,hc,n,hd⟩:=pl.isList;exact call_list_seq p (.inl rfl) ho hc hd (fun h' c' kp e=>fin its r' hz h' c' kp e) (by simp only[size_toArray]<;>omega)
 · obtain⟨its,r',pl,hz⟩:=I.tuple hq;have hlen:=r'.length;obtain⟨o,ho,hc,n,hd⟩:=pl;exact call_list_seq p (.inr rfl) ho hc hd (fun h' c' kp e=>fin its r' hz h' c' kp e) (by simp only[size_toArray]<;>omega)
theorem X8:D5 X (.type "tuple") (fun xs H Q=>∃p ys,xs=[.ref p]/\((SqL X.K H p ys/\∀l,H l=none->Q (.ref l) (upd H l (.tup ys)))∨(SqT X.K H p ys/\Q (.ref p) H))):=by
 intro pins s σ H xs us Q I r h;obtain⟨p,ys,rfl,h⟩:=h;obtain⟨u,rfl,rx⟩:=O2 r;cases rx
 rcases h with⟨hq,q⟩|⟨hq,q⟩
 · obtain⟨its,r',pl,hz⟩:=I.list hq;have hlen:=r'.length;refine call_tuple_list pl.isList (fun h' kp=>?_) (by simp only[size_toArray]<;>omega)
   have I1:Inv X pins σ H {s with heap:=h'}:=I.kept (t':=s.toks) kp
   have I2:Inv X pins σ (upd H h'.objs.size (.tup ys)) {s with heap:=h'.push {cls:=.type "tuple",data:=.seq its.toArray}}:=
    I1.laid (t':=s.toks) (fun b o e=>Heap.get?_push_of_some _ e) (ai _) (show x5 X.prog X.w _ _ _ (.tup ys) from⟨hz,its,r',a0V.new _ _⟩)
   exact⟨.ref h'.objs.size,_,I2,rfl,q _ (I1.hok.fresh (ai _))⟩
 · obtain⟨its,r',pl,hz⟩:=I.tuple hq;exact call_tuple_same pl ⟨.ref p,H,I,rfl,q⟩
def tyV(K:PySem.W.Frag)(T:String)(x:V)(H:Hp):Prop:=match x with
 |.str _=>T="str"
 |.int _=>T="int"
 |.ref p=>(T="list"/\∃xs,SqL K H p xs)∨(T="tuple"/\∃o,K.lookup p=some o/\o.cls=.type "tuple"/\o.dict=none)∨
  (T="dict"/\((∃kvs,H p=some (.dK kvs))∨∃kvs,H p=some (.dT kvs)))∨(T="set"/\∃S n,H p=some (.set S n))
 |_=>False
theorem b3p{T:String}{x:V}{v:Value}(I:Inv X pins σ H s)(r:l8 x v)(ty:tyV X.K T x H):
 s.TypeIs v T/\∀a,v=.ref a->∃ob,s.heap.get? a=some ob/\ob.dict=none:=by
 cases x with
 |str z=>
  obtain⟨t,rfl⟩:=r
  cases (show T="str" from ty)
  exact⟨typeIs_str s z t,fun _ e=>nomatch e⟩
 |int i=>
  obtain⟨t,rfl⟩:=r
  cases (show T="int" from ty)
  exact⟨typeIs_int s i t,fun _ e=>nomatch e⟩
 |ref p=>
  cases r
  rcases ty with⟨rfl,xs,hq⟩|⟨rfl,o,hk,hc,hd⟩|⟨rfl,hk⟩|⟨rfl,S,n,hk⟩
  · obtain⟨its,_,pl,_⟩:=I.list hq;refine⟨pl.isList.typeIs,fun a e=>?_⟩
    cases e;obtain⟨o,n,e,c,hd,_⟩:=pl;exact⟨o,e,hd⟩
  · refine⟨⟨o,I.kIn p o hk,hc⟩,fun a e=>?_⟩
    cases e;exact⟨o,I.kIn _ o hk,hd⟩
  · have z:∃o,s.heap.get? p=some o/\o.ExactDict:=by
     rcases hk with⟨kvs,hk⟩|⟨kvs,hk⟩
     · obtain⟨_,_,_,_,o,_,_,e,ex,_⟩:=I.hok p _ hk;exact⟨o,e,ex⟩
     · obtain⟨_,_,_,_,o,_,_,e,ex,_⟩:=I.hok p _ hk;exact⟨o,e,ex⟩
    obtain⟨o,e,ex⟩:=z;refine⟨⟨o,e,ex.1⟩,fun a e2=>?_⟩
    cases e2;exact⟨o,e,ex.2.1⟩
  · obtain⟨o,_,_,_,e,ex,_⟩:=I.hok p _ hk;refine⟨⟨o,e,ex.1⟩,fun a e2=>?_⟩
    cases e2;exact⟨o,e,ex.2.1⟩
 |_=>exact False.elim ty
def tBM(K:PySem.W.Frag)(T:String)(r:V->List V->Hp->VK->Prop)(to:TE)(t:TA):TE:=fun σ H Q=>to σ H fun x H1=>tyV K T x H1/\t σ H1 fun xs H2=>r x xs H2 Q
variable{o e:Expr}{es:List Expr}{to:TE}{t:TA}{name:Str}{apos cpos:Pos}{T:String}{r:V->List V->Hp->VK->Prop}
theorem a4I(pa:PlainAttrs T)(slot:Slot T name id)(hty:typeOf (.builtin id)=pure (.type "method_descriptor"))(hm:MtR X id r)(ho:PE X o to)(ha:PA X (e::es) t)
 (hbase:attributeBase o name X.env (eval o X.env)=eval o X.env:=by rfl)
 (hfew:((backTo cpos (starEach (e::es) X.env)).all (fun x=>!x.1)&&(backToKw cpos (keywordEach [] X.env)).all (fun x=>x.1.isSome)
  &&decide ((e::es).length+([]:List Keyword).length+(if([]:List Keyword).isEmpty then 0 else 1)<30))=true:=by rfl)
 (hline:(apos.endLine==cpos.line)=true:=by rfl) (hs:starEach (e::es) X.env=(false,eval e X.env)::starEach es X.env:=by rfl) (hplain:(backTo cpos (starEach es X.env)).any (·.1)=false:=by rfl):
 PE X (.Call (.Attribute o name apos) (e::es) [] cpos) (tBM X.K T r to t):=by
 intro pins s σ H Q I h;refine wpAny_Call_method_late hbase hfew hline rfl (thn (ho pins s σ H _ I h) fun v s1 ⟨x,H1,I1,r1,ty,q1⟩=>?_)
 obtain⟨h1,h2⟩:=b3p I1 r1 ty;refine⟨T,id,pa,slot,hty,h1,h2,?_⟩
 have hA:=ha cpos pins s1 σ H1 _ I1 q1;rw[hs] at hA⊢;refine Calls.callWith_builtin (by show(false||(backTo cpos (starEach es X.env)).any (·.1))=false;rw[hplain]<;>rfl) (Calls.evalArgs_plain ?_)
 exact thn hA fun us s2 ⟨vs,H2,I2,r2,q2⟩=>hm pins s2 σ H2 x vs v us Q I2 r1 r2 q2
end
def MtM(X:Cx)(id:String)(r:V->List V->Hp->VK->Prop):Prop:=
 ∀(pins:List (Addr×Obj)) (s:Shared) (σ:St) (H:Hp) (x:V) (xs:List V) (v:Value) (us:List Value) (Q:VK),Inv X pins σ H s->l8 x v->l7 xs us->r x xs H Q→
  wpAny (model X.prog X.w) X.A (call (.builtin id) (v::us)) (EP X pins σ Q) X.xe s
theorem l7.one:∀{x:V} {us:List Value},l7 [x] us->∃u,us=[u]/\l8 x u
 |_,_,.cons r .nil=>⟨_,rfl,r⟩
theorem l7.rep{xs:List V}{us:List Value}(h:l7 xs us):∀k:Nat,l7 (List.replicate k xs).flatten (List.replicate k us).flatten
 |0=>.nil
 |k+1=>by
  rw[replicate_succ,replicate_succ,flatten_cons,flatten_cons];exact l7.append h (l7.rep h k)
theorem a2P(its:List Value):∀(k:Nat) (acc:List Value),
 List.foldl (fun x1 x2=>x1++x2) acc.toArray (List.replicate k its.toArray)=(acc++(List.replicate k its).flatten).toArray
 |0,acc=>by simp
 | k+1,acc=>by
  have e:acc.toArray++its.toArray=(acc++its).toArray:=by simp
  have e2:(acc++its)++(List.replicate k its).flatten=acc++(List.replicate (k+1) its).flatten:=by
   rw[replicate_succ,flatten_cons,aA]
  rw[←e2,←a2P its k (acc++its),←e,replicate_succ,foldl_cons]
section
variable{X:Cx}{l b:Addr}{xs zs:List V}
theorem Inv.lset{f:Array Value->Array Value}{t':Nat}(I:Inv X pins σ H s)(hH:H l=some (.lst xs))
 (e:s.heap.get? l=some {cls:=.type "list",data:=.seq its.toArray n}) (hf:f its.toArray=its'.toArray) (hv:l7 ys its') (hz:ys.length<=sizeLine):
 Inv X pins σ (upd H l (.lst ys)) {s with heap:=s.heap.update l (Obj.mapSeq f),toks:=t'}:=by
 have q:=PySem.IsL.update e f;rw[hf] at q;refine I.write (x:=l) (e:=l) (by rw[hH];exact trivial) (.inl rfl) (fun b' u hb hu=>(Heap.get?_update_other s.heap (Obj.mapSeq f) (Ne.symm hb)).trans hu) ⟨_,q⟩ ?_
 exact⟨hz,its',_,hv,q⟩
theorem Inv.lnew{t':Nat}(I:Inv X pins σ H s)(hv:l7 ys its)(hz:ys.length<=sizeLine):
 Inv X pins σ (upd H s.heap.objs.size (.lst ys)) {s with heap:=s.heap.push {cls:=.type "list",data:=.seq its.toArray},toks:=t'}:=
 I.laid (fun _ _ q=>Heap.get?_push_of_some _ q) (ai _) ⟨hz,its,0,hv,Heap.get?_push_size _ rfl⟩
theorem Inv.fresh(I:Inv X pins σ H s):H s.heap.objs.size=none:=I.hok.fresh (ai _)
theorem Inv.lstM(I:Inv X pins σ H s)(hH:H l=some (.lst xs)):xs.length<=sizeLine/\∃(its:List Value) (n:Nat),l7 xs its/\xs.length=its.length/\s.heap.get? l=some {cls:=.type "list",data:=.seq its.toArray n}:=by
 obtain⟨z,its,n,r,e⟩:=I.hok l _ hH;exact⟨z,its,n,r,r.length,e⟩
theorem a9v(h:n<=sizeLine):Builtin.List.listTooLong n=false:=by
 unfold Builtin.List.listTooLong;exact bE (by omega)
end
section
variable{X:Cx}
def b1o:V->List V->Hp->VK->Prop:=fun x vs H Q=>∃l xs y,x=.ref l/\vs=[y]/\H l=some (.lst xs)/\xs.length<sizeLine/\Q .non (upd H l (.lst (xs++[y])))
theorem a2N:MtM X "list.append" b1o:=by
 intro pins s σ H x vs v us Q I rx rv h;obtain⟨l,xs,y,rfl,rfl,hH,hz,q⟩:=h;cases rx;obtain⟨u,rfl,ru⟩:=rv.one;obtain⟨z,its,n,r,hl,e⟩:=I.lstM hH;refine call_meets F.slot_list_append ⟨_,e,rfl⟩ F.entry_list_append (F.args_list_append_2 _ _) (PySem.list_append l its.toArray n u (by rw[size_toArray];omega)) ⟨e,?_⟩
 refine⟨.non,_,I.lset (its':=its++[u]) hH e (by simp) (r.append (.cons ru .nil)) ?_,rfl,q⟩
 rw[aq,List.length_singleton];omega
def b8V:R2:=fun x y H Q=>∃l b xs zs,x=.ref l/\y=.ref b/\H l=some (.lst xs)/\H b=some (.lst zs)/\xs.length+zs.length<=sizeLine/\∀p,H p=none->Q (.ref p) (upd H p (.lst (xs++zs)))
theorem b4q:OpR X (binaryOp .Add) b8V:=by
 intro pins s σ H x y v u Q I rx ry h;obtain⟨l,b,xs,zs,rfl,rfl,hH,hB,hz,q⟩:=h;cases rx;cases ry;obtain⟨z,its,n,r,hl,e⟩:=I.lstM hH;obtain⟨z2,its2,n2,r2,hl2,e2⟩:=I.lstM hB;refine PySem.P.add_list e e2 ?_ (by rw[size_toArray,size_toArray];omega)
 have ea:its.toArray++its2.toArray=(its++its2).toArray:=by simp
 rw[ea];exact⟨.ref _,_,I.lnew (t':=s.toks) (r.append r2) (by rw[aq];omega),rfl,q _ I.fresh⟩
def b8P:R2:=fun x y H Q=>∃l k xs,x=.ref l/\y=.int k/\H l=some (.lst xs)/\ -(2^63)<=k/\k<2^63/\xs.length*k.toNat<=sizeLine∧
 ∀p,H p=none->Q (.ref p) (upd H p (.lst (List.replicate k.toNat xs).flatten))
theorem b1Z(xs:List α)(k:Nat):(List.replicate k xs).flatten.length=k*xs.length:=by
 induction k with
 |zero=>simp
 |succ k ih=>rw[replicate_succ,flatten_cons,aq,ih,Nat.succ_mul,Nat.add_comm]
theorem b4k:OpR X (binaryOp .Mult) b8P:=by
 intro pins s σ H x y v u Q I rx ry h;obtain⟨l,k,xs,rfl,rfl,hH,h1,h2,hz,q⟩:=h;cases rx;obtain⟨t,rfl⟩:=ry;obtain⟨z,its,n,r,hl,e⟩:=I.lstM hH
 have hlen:its.toArray.size*k.toNat<=sizeLine:=by rw[size_toArray,←hl];exact hz
 have hcap:¬its.toArray.size*k.toNat>(2^63-1)/8:=by
  have:(sizeLine:Nat)<=(2^63-1)/8:=by decide
  omega
 have hfit:¬(!Builtin.List.listFitsIndex k)=true:=by
  rw[fitsIndex_both h1 h2];exact bx
 have hlong:¬Builtin.List.listTooLong (its.toArray.size*k.toNat)=true:=by
  rw[a9v hlen];exact bx
 have hnew:List.foldl (fun x1 x2=>x1++x2) #[] (List.replicate (if its.toArray.isEmpty=true then 0 else k.toNat) its.toArray)=(List.replicate k.toNat its).flatten.toArray:=by
  have f0:∀m:Nat,List.foldl (fun x1 x2=>x1++x2) #[] (List.replicate m its.toArray)=(List.replicate m its).flatten.toArray:=fun m=>by
   have:=a2P its m []
   rw[nil_append] at this;exact this
  rw[f0]
  cases its with
  |nil=>simp
  |cons a r'=>rw[az (by simp)]
 refine wpAny_binaryOp_repeat_ref (T:="list") (U:="int") (by decide) ⟨_,e,rfl⟩ (fun s'=>typeIs_int s' k t) noFill_list_mul F.fills_int_mul F.slot_int_rmul repeat_list F.slot_int_index.lookup
  (call_meets F.slot_int_rmul (typeIs_int s k t) F.entry_int_rmul (F.args_int_rmul_2 _ _) (int___rmul___int_list k t l its.toArray n)
   ⟨e,rfl,⟨_,e,rfl⟩,call_meets F.slot_list_mul ⟨_,e,rfl⟩ F.entry_list_mul (F.args_list_mul_2 _ _) (AutoListH.list___mul___list_int_3 l its.toArray n k t hfit hcap hlong) ⟨e,?_⟩⟩)
 rw[hnew];exact⟨.ref _,_,I.lnew (t':=s.toks) (r.rep k.toNat) (by rw[b1Z,Nat.mul_comm];exact hz),rfl,q _ I.fresh⟩
end
variable{b:Addr}{vl:Value}{vu:Value}
section
variable{κ:Type}[DecidableEq κ]
noncomputable def O3(kvs:List (κ×V))(k:κ):Option V:=(kvs.find? fun kv=>decide (kv.1=k)).map (·.2)
noncomputable def J8(kvs:List (κ×V))(k:κ)(v:V):List (κ×V):=
 if(kvs.any fun kv=>decide (kv.1=k))=true then kvs.map (fun kv=>if kv.1=k then(kv.1,v) else kv) else kvs++[(k,v)]
theorem S7{p:κ×V}{r:List (κ×V)}{k:κ}(e:p.1=k):O3 (p::r) k=some p.2:=by simp[O3,List.find?_cons,e]
theorem S8{p:κ×V}{r:List (κ×V)}{k:κ}(e:¬p.1=k):O3 (p::r) k=O3 r k:=by simp[O3,List.find?_cons,e]
theorem a4w(k:κ):∀kvs:List (κ×V),(kvs.any fun kv=>decide (kv.1=k))=(O3 kvs k).isSome
 |[]=>rfl
 |p::r=>by
  rw[any_cons]
  by_cases e:p.1=k
  · simp only[S7 e,bp e,Bool.true_or,Option.isSome_some]
  · rw[S8 e,bE e,Bool.false_or];exact a4w k r
theorem T3(kvs:List (κ×V))(k:κ)(v:V):(J8 kvs k v).length<=kvs.length+1:=by
 unfold J8
 split
 · rw[aa];omega
 · rw[aq,length_cons,length_nil];omega
theorem a0C.isSome_eq{o:Option V}{u:Option Value}(r:a0C o u):o.isSome=u.isSome:=by
 cases o with
 |none=>cases u with
  |none=>rfl
  |some _=>exact(show False from r).elim
 |some _=>cases u with
  |none=>exact(show False from r).elim
  |some _=>rfl
theorem KV.val{kvs:List (κ×V)}{vs:List (κ×Value)}(r:KV kvs vs)(k:κ):a0C (O3 kvs k) (valueAt vs k):=by
 unfold KV at r
 induction r with
 |nil=>exact True.intro
 | @cons p q ps qs h t ih=>
  obtain⟨h1,h2⟩:=h
  by_cases e:p.1=k
  · have e':q.1=k:=h1.symm.trans e
    have b:valueAt (q::qs) k=some q.2:=by simp[valueAt,List.find?_cons,e']
    rw[S7 e,b];exact h2
  · have e':¬q.1=k:=fun z=>e (h1.trans z)
    have b:valueAt (q::qs) k=valueAt qs k:=by simp[valueAt,List.find?_cons,e']
    rw[S8 e,b];exact ih
theorem KV.any{kvs:List (κ×V)}{vs:List (κ×Value)}(r:KV kvs vs)(k:κ):(kvs.any fun kv=>decide (kv.1=k))=vs.any fun kv=>decide (kv.1=k):=by
 unfold KV at r
 induction r with
 |nil=>rfl
 |cons h t ih=>rw[any_cons,any_cons,ih,h.1]
theorem KV.repl{kvs:List (κ×V)}{vs:List (κ×Value)}(r:KV kvs vs)(k:κ)(ry:l8 y u):
 KV (kvs.map fun kv=>if kv.1=k then(kv.1,y) else kv) (vs.map fun kv=>if kv.1=k then(kv.1,u) else kv):=by
 unfold KV at r⊢
 induction r with
 |nil=>exact .nil
 | @cons p q ps qs h t ih=>
  rw[map_cons,map_cons];refine .cons ?_ ih
  obtain⟨h1,h2⟩:=h
  by_cases e:p.1=k
  · rw[ay e,ay (h1.symm.trans e)];exact⟨h1,ry⟩
  · rw[az e,az (fun z=>e (h1.trans z))];exact⟨h1,h2⟩
theorem KV.put{kvs:List (κ×V)}{vs:List (κ×Value)}(r:KV kvs vs)(k:κ)(ry:l8 y u):KV (J8 kvs k y) (stored vs k u):=by
 unfold J8 stored;rw[r.any k]
 by_cases e:(vs.any fun kv=>decide (kv.1=k))=true
 · rw[ay e,ay e];exact r.repl k ry
 · rw[az e,az e];exact Paired.snoc r ⟨rfl,ry⟩
theorem KV.length{kvs:List (κ×V)}{vs:List (κ×Value)}(r:KV kvs vs):kvs.length=vs.length:=Paired.length r
end
variable{P:Program}{w:World}
theorem X3{k:Key}(r:l8 (kV k) u):(o9 P w).is k u=true:=by
 cases k with
 |inl i=>obtain⟨t,e⟩:=(show∃t,u=Value.int i t from r);subst e;exact a4N P w i t
 |inr x=>obtain⟨t,e⟩:=(show∃t,u=Value.str x t from r);subst e;exact a4M P w x t
theorem a2O{P:Program}{w:World}:∀{ks:List Key} {us:List Value},l7 (ks.map kV) us->ItemsAre (o9 P w) ks us
 |[],_,r=>by rw[map_nil] at r;cases r;exact .nil
 |k::ks,_,r=>by
  rw[map_cons] at r
  cases r with
  |cons h t=>exact .cons (X3 h) (a2O t)
abbrev KT(H:Hp):List (List Key×V)->List (List Key×Addr×Value)->Prop:=Paired fun p q=>p.1=q.1/\H q.2.1=some (.tup (p.1.map kV))/\l8 p.2 q.2.2
variable{kvs:List (List Key×V)}{xs:List (List Key×Addr×Value)}
theorem KT.val(r:KT H kvs xs)(k:List Key):a0C (O3 kvs k) ((atKey xs k).map (·.2)):=by
 induction r with
 |nil=>exact True.intro
 | @cons p q ps qs h t ih=>
  obtain⟨h1,_,h2⟩:=h
  by_cases e:p.1=k
  · have e':q.1=k:=h1.symm.trans e
    have b:atKey (q::qs) k=some q.2:=by simp[atKey,List.find?_cons,e']
    rw[S7 e,b];exact h2
  · have e':¬q.1=k:=fun z=>e (h1.trans z)
    have b:atKey (q::qs) k=atKey qs k:=by simp[atKey,List.find?_cons,e']
    rw[S8 e,b];exact ih
theorem KT.repl(r:KT H kvs xs)(k:List Key)(ry:l8 y u):
 KT H (kvs.map fun kv=>if kv.1=k then(kv.1,y) else kv) (xs.map (putAt k u)):=by
 induction r with
 |nil=>exact .nil
 | @cons p q ps qs h t ih=>
  rw[map_cons,map_cons];refine .cons ?_ ih
  obtain⟨h1,h2,h3⟩:=h;unfold putAt
  by_cases e:p.1=k
  · rw[ay e,ay (h1.symm.trans e)];exact⟨h1,h2,ry⟩
  · rw[az e,az (fun z=>e (h1.trans z))];exact⟨h1,h2,h3⟩
theorem KT.put(r:KT H kvs xs)(k:List Key)(hb:H b=some (.tup (k.map kV)))(ry:l8 y u):
 KT H (J8 kvs k y) (storedH xs k b u):=by
 have e:(kvs.any fun kv=>decide (kv.1=k))=(atKey xs k).isSome:=by
  rw[a4w,(r.val k).isSome_eq,Option.isSome_map]
 unfold J8 storedH;rw[e]
 by_cases q:(atKey xs k).isSome=true
 · rw[ay q,ay q];exact r.repl k ry
 · rw[az q,az q];exact Paired.snoc r ⟨rfl,hb,ry⟩
variable{H':Hp}
theorem KT.keeps(r:KT H kvs xs)(ht:∀b ys,H b=some (.tup ys)->H' b=some (.tup ys)):KT H' kvs xs:=
 Paired.mapP r fun _ _ z=>⟨z.1,ht _ _ z.2.1,z.2.2⟩
section
variable{h:Heap}{a:Addr}
theorem rd_of{u:HO}(ok:HOk P w H h)(e:Rd H a u):x5 P w H h a u:=e.ok ok
theorem a2X{kvs:List (Key×V)}(ok:HOk P w H h)(e:Rd H a (.dK kvs)):kvs.length<=sizeLine/\(a==sysModules)=false/\∃vs,KV kvs vs/\h.DictOf (o9 P w) a vs:=
 show x5 P w H h a (.dK kvs) from rd_of ok e
theorem b3i{kvs:List (Key×V)}(ok:HOk P w H h)(e:H a=some (.dK kvs)):kvs.length<=sizeLine/\(a==sysModules)=false/\∃vs,KV kvs vs/\h.DictOf (o9 P w) a vs:=a2X ok (.inl e)
theorem a1Z{ks:List Key}(ok:HOk P w H h)(e:H a=some (.tup (ks.map kV))):(tupleKind (o9 P w)).is h ks a:=by
 obtain⟨_,its,r,o,h1,h2,_,n,h3⟩:=(show x5 P w H h a (.tup (ks.map kV)) from ok a _ e);exact⟨o,its.toArray,n,h1,h2,h3,by simpa using a2O r⟩
theorem a5b(ok:HOk P w H h)(e:Rd H a (.dT kvs)):kvs.length<=sizeLine/\(a==sysModules)=false∧
 ∃xs,KT H kvs xs/\h.DictOfH (tupleKind (o9 P w)) a xs:=by
 obtain⟨z,y,xs,r,o,es,ep,h1,h2,h3,h4,h5⟩:=(show x5 P w H h a (.dT kvs) from rd_of ok e);refine⟨z,y,xs,r,o,es,ep,h1,h2,h3,h4,fun x hx=>?_,h5⟩
 have all:∀{l:List (List Key×V)} {m:List (List Key×Addr×Value)},KT H l m->∀x∈m,(tupleKind (o9 P w)).is h x.1 x.2.1:=by
  intro l m q
  induction q with
  |nil=>intro x hx;exact nomatch hx
  | @cons p q ps qs hq t ih=>
   intro x hx
   rcases aH.mp hx with e|hx
   · subst e;exact a1Z ok (by rw[←hq.1];exact hq.2.1)
   · exact ih x hx
 exact all r x hx
theorem b7I(ok:HOk P w H h)(e:H a=some (.dT kvs)):kvs.length<=sizeLine/\(a==sysModules)=false∧
 ∃xs,KT H kvs xs/\h.DictOfH (tupleKind (o9 P w)) a xs:=a5b ok (.inl e)
end
def b0O(H:Hp)(a:Addr)(y:V)(r:Option V):Prop:=
 (∃kvs k,Rd H a (.dK kvs)/\y=kV k/\r=O3 kvs k)∨∃kvs k b,Rd H a (.dT kvs)/\y=.ref b/\H b=some (.tup (k.map kV))/\r=O3 kvs k
def b9P(H:Hp)(a:Addr)(y v:V)(H':Hp):Prop:=
 (∃kvs k,H a=some (.dK kvs)/\y=kV k/\kvs.length<sizeLine/\H'=upd H a (.dK (J8 kvs k v)))∨
 ∃kvs k b,H a=some (.dT kvs)/\y=.ref b/\H b=some (.tup (k.map kV))/\kvs.length<sizeLine/\H'=upd H a (.dT (J8 kvs k v))
variable{a:Addr}{v:V}{Q:Value->Shared->Prop}{h':Heap}{vs:List (Key×Value)}
section
variable{X:Cx}{r:Value}{o:Option V}{E:Value->Shared->Prop}
theorem Inv.big(I:Inv X pins σ H s):sysModules<s.heap.objs.size:=by
 have h:mainGlobals<s.heap.objs.size:=(I.mod.glob.keeps I.bk).lt
 exact Nat.lt_trans (by decide) h
theorem a7W(hu:A.units+1<cLine)(I:Inv X pins σ H s)(g:b0O H a y (some v))(ry:l8 y u)(h:∀w' s',Inv X pins σ H s'->l8 v w'->Q w' s'):
 wpAny (model X.prog X.w) A (getItem (.ref a) u) Q E s:=by
 rcases g with⟨kvs,k,e,ey,l⟩|⟨kvs,k,b,e,ey,eb,l⟩
 · subst ey;obtain⟨z,hd,vs,rel,dd⟩:=a2X I.hok e;obtain⟨w',hw,rw'⟩:=a0C.some_of (v:=v) (o:=valueAt vs k) (by rw[l];exact rel.val k)
   exact wpAny_getItem_of (X3 ry) dd.mapOf hw (h w' _ (I.tok _) rw')
 · subst ey
   cases (show u=Value.ref b from ry)
   obtain⟨z,hd,xs,rel,dd⟩:=a5b I.hok e;obtain⟨w',hw,rw'⟩:=a0C.some_of (v:=v) (o:=(atKey xs k).map (·.2)) (by rw[l];exact rel.val k)
   obtain⟨p,hp,hp2⟩:=Option.map_eq_some_iff.mp hw;refine wpAny_getItem_heap (tupleKind_room_in1 hu) (a1Z I.hok eb) dd hp ?_
   rw[hp2];exact h w' _ (I.tok _) rw'
theorem b9o(hu:A.units+1<cLine)(I:Inv X pins σ H s)(g:b0O H a y o)(ry:l8 y u)(h:∀s',Inv X pins σ H s'->Q (.bool o.isSome) s'):
 wpAny (model X.prog X.w) A (compareOp .In u (.ref a)) Q E s:=by
 rcases g with⟨kvs,k,e,ey,l⟩|⟨kvs,k,b,e,ey,eb,l⟩
 · subst ey;obtain⟨z,hd,vs,rel,dd⟩:=a2X I.hok e;refine wpAny_in_of (X3 ry) hd dd.mapOf ?_
   rw[←(rel.val k).isSome_eq,←l];exact h _ (I.tok _)
 · subst ey
   cases (show u=Value.ref b from ry)
   obtain⟨z,hd,xs,rel,dd⟩:=a5b I.hok e;refine wpAny_in_heap (tupleKind_room_in1 hu) (a1Z I.hok eb) hd dd ?_
   have q:=(rel.val k).isSome_eq;rw[Option.isSome_map] at q;rw[←q,←l];exact h _ (I.tok _)
theorem b2G(hu:A.units+1<cLine)(I:Inv X pins σ H s)(g:b0O H a y o)(ry:l8 y u)(h:∀s',Inv X pins σ H s'->Q (.bool (!o.isSome)) s'):
 wpAny (model X.prog X.w) A (compareOp .NotIn u (.ref a)) Q E s:=by
 rcases g with⟨kvs,k,e,ey,l⟩|⟨kvs,k,b,e,ey,eb,l⟩
 · subst ey;obtain⟨z,hd,vs,rel,dd⟩:=a2X I.hok e;refine wpAny_notIn_of (X3 ry) hd dd.mapOf ?_
   rw[←(rel.val k).isSome_eq,←l];exact h _ (I.tok _)
 · subst ey
   cases (show u=Value.ref b from ry)
   obtain⟨z,hd,xs,rel,dd⟩:=a5b I.hok e;refine wpAny_notIn_heap (tupleKind_room_in1 hu) (a1Z I.hok eb) hd dd ?_
   have q:=(rel.val k).isSome_eq;rw[Option.isSome_map] at q;rw[←q,←l];exact h _ (I.tok _)
theorem a4c{t':Nat}{ob:HO}(I:Inv X pins σ H s)(mu:Mut (H a))(hs:Heap.SameBut a s.heap h')(he:∃q,h'.get? a=some q)(new:x5 X.prog X.w (upd H a ob) h' a ob):
 Inv X pins σ (upd H a ob) {s with heap:=h',toks:=t'}:=
 I.write (x:=a) (e:=a) mu (.inl rfl) (fun b q hb z=>(hs.2 b hb).trans z) he new
theorem a6c{kvs:List (Key×V)}(z:kvs.length<=sizeLine)(hd:(a==sysModules)=false)(rel:KV kvs vs)(dd:h'.DictOf (o9 P w) a vs):
 x5 P w H' h' a (.dK kvs):=⟨z,hd,vs,rel,dd⟩
theorem a3a{Q:Unit->Shared->Prop}(hu:A.units+1<cLine)(I:Inv X pins σ H s)(g:b9P H a y v H')(ry:l8 y u)(rv:l8 v r)(h:∀s',Inv X pins σ H' s'->Q () s'):
 wpAny (model X.prog X.w) A (setItem (.ref a) u r) Q E s:=by
 rcases g with⟨kvs,k,e,ey,l,eH⟩|⟨kvs,k,b,e,ey,eb,l,eH⟩
 · subst ey eH;obtain⟨z,hd,vs,rel,dd⟩:=b3i I.hok e
   have hz:vs.length<=sizeLine:=by rw[←rel.length];exact z
   have hl:(J8 kvs k v).length<=sizeLine:=by have:=T3 kvs k v;omega
   refine wpAny_setItem_pairs (hsz:=hz) (X3 ry) dd fun h' dd' hs=>h _ ?_
   have he:∃q,h'.get? a=some q:=let⟨q,_,_,hq,_⟩:=dd';⟨q,hq⟩
   exact a4c I (by rw[e];exact True.intro) hs he (a6c hl hd (rel.put k rv) dd')
 · subst ey eH
   cases (show u=Value.ref b from ry)
   obtain⟨z,hd,xs,rel,dd⟩:=b7I I.hok e
   have hz:xs.length<=sizeLine:=by rw[←Paired.length rel];exact z
   have hl:(J8 kvs k v).length<=sizeLine:=by have:=T3 kvs k v;omega
   refine wpAny_setItem_heap (hsz:=hz) (tupleKind_room_in1 hu) (a1Z I.hok eb) dd fun h' dd' hs=>h _ ?_
   obtain⟨q,es,ep,hq,h2,h3,h4,_,h5⟩:=dd';refine a4c I (by rw[e];exact True.intro) hs ⟨q,hq⟩ ⟨hl,hd,_,(rel.put k eb rv).keeps fun c ys ec=>?_,q,es,ep,hq,h2,h3,h4,h5⟩
   rw[d9 (b7a ec e (fun z=>nomatch z))]
   exact ec
end
section
variable{X:Cx}{kvs:List (Key×V)}{k:Key}{E:Value->Shared->Prop}
theorem b7J(I:Inv X pins σ H s)(e:Rd H a (.dK kvs))(h:∀t s',Inv X pins σ H s'->Q (.int kvs.length t) s'):wpAny (model X.prog X.w) A (call (.builtin "len") [.ref a]) Q E s:=by
 obtain⟨z,hd,vs,rel,dd⟩:=a2X I.hok e;refine call_len_dict hd dd (by rw[←rel.length];rw[sizeLine_eq] at z;omega) ?_
 rw[←rel.length];exact h _ _ (I.tok _)
end
variable{prog:Program}{env:Env}{pos:Pos}{X:Cx}
theorem a5d{o:Option V}(I:Inv X pins σ H s)(g:b0O H a y o):s.TypeIs (.ref a) "dict":=by
 rcases g with⟨kvs,k,e,_,_⟩|⟨kvs,k,b,e,_,_,_⟩
 · obtain⟨_,_,vs,_,dd⟩:=a2X I.hok e;exact dd.typeIs
 · obtain⟨_,_,xs,_,dd⟩:=a5b I.hok e;exact dd.typeIs
theorem a5c(h:Heap)(hb:sysModules<h.objs.size):x5 P w H (h.push {cls:=.type "dict",data:=.dict #[]}) h.objs.size (.dK []):=
 ⟨Nat.zero_le _,beq_eq_false_iff_ne.mpr (Ne.symm (Nat.ne_of_lt hb)),[],.nil,Heap.DictOf.new h⟩
def b3A:TE:=fun _ H Q=>∀p,H p=none->Q (.ref p) (upd H p (.dK []))
section
theorem a9g:PE X (.Dict [] [] pos) b3A:=fun pins s σ H Q I h=>
 wpAny_Dict_empty ⟨.ref s.heap.objs.size,_,I.laid (a:=s.heap.objs.size) (o:=.dK []) (t':=s.toks) (fun _ _ q=>Heap.get?_push_of_some _ q) (ai _) (a5c s.heap I.big),rfl,h _ (I.hok.fresh (ai _))⟩
end
def a3n:List (TE×TE)->St->Hp->(List (V×V)->Hp->Prop)->Prop
 |[],_,H,Q=>Q [] H
 |(tk,tv)::r,σ,H,Q=>tk σ H fun x H1=>tv σ H1 fun y H2=>a3n r σ H2 fun ps H3=>Q ((x,y)::ps) H3
abbrev VV:List (V×V)->List (Value×Value)->Prop:=Paired fun p q=>l8 p.1 q.1/\l8 p.2 q.2
def PPs(X:Cx)(pos:Pos)(keys:List (Option Expr))(values:List Expr)(trs:List (TE×TE)):Prop:=
 ∀(pins:List (Addr×Obj)) (s:Shared) (σ:St) (H:Hp) (Q:List (V×V)->Hp->Prop),Inv X pins σ H s->a3n trs σ H Q→
  wpAny (model X.prog X.w) X.A (evalPairs (pairTrees keys values X.env pos)) (fun vs s'=>∃ps H',Inv X pins σ H' s'/\VV ps vs/\Q ps H') X.xe s
theorem b1u:PPs X pos [] [] []:=fun pins s σ H Q I h=>pairTrees_nil_walk ⟨[],H,I,.nil,h⟩
variable{trs:List (TE×TE)}
theorem a8X{k v:Expr}{ks:List (Option Expr)}{vs:List Expr}{tk tv:TE}(hk:PE X k tk)(hv:PE X v tv)(hr:PPs X pos ks vs trs):
 PPs X pos (some k::ks) (v::vs) ((tk,tv)::trs):=fun pins s σ H Q I h=>
 pairTrees_cons_walk (thn (hk pins s σ H _ I h) fun u s1 ⟨x,H1,I1,rx,q1⟩=>thn (hv pins s1 σ H1 _ I1 q1) fun w2 s2 ⟨y,H2,I2,ry,q2⟩=>
  thn (hr pins s2 σ H2 _ I2 q2) fun ws s3 ⟨ps,H3,I3,rel,q3⟩=>⟨(x,y)::ps,H3,I3,.cons ⟨rx,ry⟩ rel,q3⟩)
def P7(kvs more:List (Key×V)):List (Key×V):=more.foldl (fun acc kv=>J8 acc kv.1 kv.2) kvs
theorem KV.merge:∀{more:List (Key×V)} {rs:List (Key×Value)} {kvs:List (Key×V)} {vs:List (Key×Value)},KV more rs->KV kvs vs->KV (P7 kvs more) (merged vs rs):=by
 intro more rs kvs vs r;unfold KV at r
 induction r generalizing kvs vs with
 |nil=>intro q;exact q
 | @cons p q ps qs h t ih=>
  intro r0
  have e:KV (J8 kvs p.1 p.2) (stored vs q.1 q.2):=by
   have:=r0.put p.1 h.2
   rw[←h.1];exact this
  exact ih e
theorem N9:∀(more kvs:List (Key×V)),(P7 kvs more).length<=kvs.length+more.length
 |[],kvs=>by show kvs.length<=kvs.length+0;omega
 |p::r,kvs=>by
  have h1:=N9 r (J8 kvs p.1 p.2);have h2:=T3 kvs p.1 p.2
  show(P7 (J8 kvs p.1 p.2) r).length<=_
  rw[length_cons];omega
theorem a2h{P:Program}{w:World}:∀{kvs:List (Key×V)} {ws:List (Value×Value)},VV (kvs.map fun kv=>(kV kv.1,kv.2)) ws->∃rs,Carries (o9 P w) ws rs/\KV kvs rs
 |[],_,r=>by rw[map_nil] at r;cases r;exact⟨[],True.intro,.nil⟩
 | p::kvs,_,r=>by
  rw[map_cons] at r
  cases r with
  | @cons a b as bs h t=>
   obtain⟨rs,c,q⟩:=a2h (P:=P) (w:=w) t;obtain⟨b1,b2⟩:=b;exact⟨(p.1,b2)::rs,⟨X3 h.1,rfl,c⟩,.cons ⟨rfl,h.2⟩ q⟩
def b6t(trs:List (TE×TE)):TE:=fun σ H Q=>∀p,H p=none->a3n trs σ (upd H p (.dK [])) fun ps H2=>H2 p=some (.dK [])/\∃kvs:List (Key×V),ps=kvs.map (fun kv=>(kV kv.1,kv.2))/\kvs.length<=15/\Q (.ref p) (upd H2 p (.dK (P7 [] kvs)))
theorem b1E{keys:List (Option Expr)}{values:List Expr}(h:PPs X pos keys values trs)(hall:keys.all (·.isSome)=true)(hl:keys.length=values.length)(h0:keys≠[])
 (h15:keys.length<=15):PE X (.Dict keys values pos) (b6t trs):=by
 intro pins s σ H Q I q;have hn:=I.hok.fresh (ai s.heap.objs.size);have I1:=I.laid (a:=s.heap.objs.size) (o:=.dK []) (h':=s.heap.push {cls:=.type "dict",data:=.dict #[]}) (t':=s.toks) (fun _ _ q=>Heap.get?_push_of_some _ q) (ai _) (a5c s.heap I.big)
 refine wpAny_Dict_walk (knd:=o9 X.prog X.w) hall hl h0 h15 (thn (h pins _ σ _ _ I1 (q _ hn)) fun ws s2 ⟨ps,H2,I2,rel,e,kvs,ep,lk,q2⟩=>?_)
 subst ep;obtain⟨rs,c,rk⟩:=a2h (P:=X.prog) (w:=X.w) rel;obtain⟨z,hd,vs0,r0,dd⟩:=b3i I2.hok e;cases r0;refine⟨rs,c,dd,fun h' dd' hs=>⟨.ref s.heap.objs.size,_,?_,rfl,q2⟩⟩
 have hz:(P7 [] kvs).length<=sizeLine:=by
  have h1:=N9 kvs [];rw[length_nil] at h1;rw[sizeLine_eq];omega
 have he:∃q,h'.get? s.heap.objs.size=some q:=let⟨q,_,_,hq,_⟩:=dd';⟨q,hq⟩
 exact a4c I2 (by rw[e];exact True.intro) hs he (a6c hz hd (rk.merge .nil) dd')
structure M2(X:Cx)(o:Expr)(m:Str)(apos:Pos)(e f:Expr)(cpos:Pos):Prop where
 base:attributeBase o m X.env (eval o X.env)=eval o X.env
 few:((backTo cpos (starEach [e,f] X.env)).all (fun x=>!x.1)&&(backToKw cpos (keywordEach [] X.env)).all (fun x=>x.1.isSome)
  &&decide (([e,f]:List Expr).length+([]:List Keyword).length+(if([]:List Keyword).isEmpty then 0 else 1)<30))=true
 line:(apos.endLine==cpos.line)=true
 trees:backTo cpos (starEach [e,f] X.env)=[(false,eval e X.env),(false,eval f X.env)]
end L2
namespace Att
open PySem PySem.W PySem.Calls PyProof.Rows
variable{P:Params}{h:Heap}
theorem a1i:∀(ns:List Int) (vs:List Value),WellAll P h vs (ns.map WData.int)->IntsAre vs ns:=by
 intro ns
 induction ns with
 |nil=>
  intro vs w;rw[map_nil] at w;cases w;exact .nil
 | cons n ns ih=>
  intro vs w;rw[map_cons] at w
  cases w with
  |cons a b=>
   cases a;exact .cons _ _ (ih _ b)
variable{l:OpenLaw}{n:Nat}
theorem a7q(hn:l.most=some n){args:List WData}{vals:List Value}
 (hpre:l.row.toRowW.claim.pre args=true) (hwl:WellAll P h vals args):
 ∃a vs ns,vals=[Value.ref a]/\args=[WData.list (ns.map WData.int)]/\h.get? a=some {cls:=.type "list",data:=.seq vs.toArray}/\IntsAre vs ns/\ns.length<=n:=by
 have hsh:WShape.hasAll [] args [.list .int]=true:=(pre_splitW hpre).1
 have hc:l.pre.holds [] {args:=args}=true:=(pre_splitW hpre).2
 obtain⟨d,r,rfl,h1,h2⟩:=hasAllW_cons hsh;obtain rfl:=hasAllW_nil h2;obtain⟨xs,rfl,h3⟩:=hasW_list h1;obtain⟨ns,rfl⟩:=items_int h3
 have hlen:ns.length<=n:=by
  unfold OpenLaw.pre at hc
  have h4:(WTm.not (.lt (.lit (.int (n:Int))) (.len (.arg 0)))).holds [] {args:=[.list (ns.map .int)]}=true:=by
   have h4:=(holds_andW hc).1;rw[hn] at h4;exact h4
  have h5:=condW_of h4 (w_not (w_lt w_lit (w_len_list (w_arg rfl))));rw[aa] at h5;refine bc fun q=>?_
  have q':(n:Int)<((ns.length:Nat):Int):=by omega
  first
   |(rw[bp q'] at h5;exact absurd h5 (by decide))
   |(simp at h5;omega)
 cases hwl with
 |cons w1 w2=>
  cases w2
  cases w1 with
  |list ho hall=>exact⟨_,_,ns,rfl,rfl,ho,a1i ns _ hall,hlen⟩
theorem a7v(l:OpenLaw)(args:List WData):l.row.toRowW.claim.post args (.bool true) args=true:=
 postW_of (r:=l.row.toRowW) (X:=(true==true))
  (show WShape.has [] (.bool true) .bool=true by first|rfl|decide|simp[WShape.has,WShape.arms,WShape.armsAll])
  (show(WTm.eq .res (.lit (.bool true))).value [] {args:=args,res:=some (.bool true),after:=args}=some (.bool (true==true)) from w_eq_bool (w_res rfl) w_lit) rfl
variable{q:Program}{loose:List Str}{XP:(Str->Option Value)->Heap->Prop}{YP:World->Heap->Prop}{d:DefRec}
theorem a5o
 (hn:l.most=some n) (hdf:d.params.defaults=[])
 (call:∀(w:World) (s₀ s₁:Shared) (mg mb:Str->Option Value) (fa:Addr) (o:Obj) (pm cd doc:Value) (a:Addr) (vs:List Value) (ns:List Int),
  Ground q loose [] XP w s₀ mg mb s₁.heap->YP w s₁.heap→
  s₁.heap.get? fa=some o->o.data=.func (docDef d.name d.params d.body d.scope pm cd doc)->s₁.heap.CodeRec cd d.name->mg d.name=some (.ref fa)→
  s₁.heap.get? a=some {cls:=.type "list",data:=.seq vs.toArray}->IntsAre vs ns->ns.length<=n->s₁.gens= #[]→
  codeAny (model l.prog w) callerA (.call (.ref fa) ⟨[.ref a],[]⟩) (fun r s'=>r=.ok (.ret (.bool true))/\OldK s₁.heap s'.heap/\s'.os=s₁.os/\AllBare s'.gens) s₁):
 WalkO q loose XP YP l.row.toRowW d [] (fun f vs=>PySem.call f vs):=by
 intro w s₀ s₁ mg mb G Y fa o pm cd doc dV kV ho hd hcd hD hmg hg args vals as hpre hlay hrd hwl hlo;obtain rfl:dV=.none:=Dflts.none hD hdf;obtain rfl:kV=.none:=Dflts.noKw hD;obtain⟨a,vs,ns,rfl,rfl,hobj,hints,hlen⟩:=a7q hn hpre hwl;refine enter_call (codeAny_mono (call w s₀ s₁ mg mb fa o pm cd doc a vs ns G Y ho (fd_plain hd) hcd hmg hobj hints hlen hg) fun r s' hq=>?_)
 obtain⟨rfl,h2,h3,h4⟩:=hq;exact⟨.inl ⟨.bool true,.bool true,[],rfl,fun _=>rfl,.bool true,a7v l _,fun _=>⟨List.Pairwise.nil,fun _ hm=>(nomatch hm)⟩⟩,h2,h3,h4⟩
variable{f:Addr}{C:Addr}{x:Addr}{ox:Obj}{es:List DictEntry}{v:Value}{L:Addr}{o:Obj}{m:Str->Option Value}
end Att
namespace L2
open PySem PySem.Spec PyProof.Rows
theorem a2z:∀{vs:List Value} {ns:List Int},IntsAre vs ns->l7 (ns.map V.int) vs
 |_,_,.nil=>.nil
 |_,_,.cons n t h=>.cons ⟨t,rfl⟩ (a2z h)
def b0N(H:Hp):Prop:=∀b,H b=none∨∃o xs,H b=some (.frz o (.lst xs))
variable{P:Program}{w:World}{K:PySem.W.Frag}{mg:Str->Option Value}{CX:CXT}{a:Addr}{fd:FuncData}{x:Str}{sp:Sp}{ns:List Int}
theorem a9K{mb:Str->Option Value}{k:Nat}{fa:Addr}{s₁:Shared}{vs:List Value}
 (KX:K.In s₁.heap) (hns:s₁.heap.Ns mainGlobals mg) (hb:s₁.heap.Ns builtinsNs mb) (hbb:∀x:Str,x≠"__name__"->mb x=bootBuiltins x) (hlim:s₁.heap.NoLimit) (hg:s₁.gens= #[])
 (ha:s₁.heap.get? a=some {cls:=.type "list",data:=.seq vs.toArray}) (hi:IntsAre vs ns) (hl:ns.length<=sizeLine) (hr:Room k callerA)
 (F:∀base:Heap,K.In base->base.Ns mainGlobals mg->FnOk P w K mg base CX k fa fd [x] sp) (hbind:∀(s:Shared) (u:Value),BindsTo s fd ⟨[u],[]⟩ [(x,u)])
 (hsp:∀H:Hp,b0N H->SqL K H a (ns.map V.int)->sp [.ref a] H (fun v _=>v=.bl true) fun _ _ _=>False)
 (hCX:∀H e s',CX [] H s₁ (fun _ _ _=>False) e s'->False):
 codeAny (model P w) callerA (.call (.ref fa) ⟨[.ref a],[]⟩) (fun r s'=>r=.ok (.ret (.bool true))/\OldK s₁.heap s'.heap/\s'.os=s₁.os/\AllBare s'.gens) s₁:=by
 have rv:=a2z hi;have lenV:=hi.length
 -- from an abstract heap in which nothing but the script may be tracked
 have core:∀H:Hp,b0N H->SqL K H a (ns.map V.int)->HOk P w H s₁.heap->(∀b,H b≠none->b=a)->(H a≠none->K.lookup a=none)→
  codeAny (model P w) callerA (.call (.ref fa) ⟨[.ref a],[]⟩) (fun r s'=>r=.ok (.ret (.bool true))/\OldK s₁.heap s'.heap/\s'.os=s₁.os/\AllBare s'.gens) s₁:=by
  intro H hO hS hok hA hK
  have base_of:∀{b:Addr} {o:Obj},s₁.heap.get? b=some o->H b=none->(a3W s₁.heap H).get? b=some o:=fun e n=>a9X e n
  have noA:∀{b:Addr} {o:Obj} {es:Array DictEntry} {ep:Nat},s₁.heap.get? b=some o->o.data=.dict es ep->H b=none:=fun{b o es ep} e d=>by
   cases q:H b with
   |none=>rfl
   |some u=>
    have e':b=a:=hA b (by rw[q];simp)
    subst e';rw[ha] at e;cases e
    have d':Data.seq vs.toArray _=Data.dict es ep:=d
    cases d'
  have nsK:∀{b:Addr} {m:Str->Option Value},s₁.heap.Ns b m->(a3W s₁.heap H).Ns b m:=fun{b m} ⟨o,es,ep,e,d,r⟩=>⟨o,es,ep,base_of e (noA e d),d,r⟩
  have hKb:K.In (a3W s₁.heap H):=fun b o e=>base_of (KX b o e) (by
   cases q:H b with
   |none=>rfl
   |some u=>
    have e':b=a:=hA b (by rw[q];simp)
    subst e';rw[hK (by rw[q];simp)] at e;cases e)
  have hM:Mod K mg (a3W s₁.heap H):=⟨hKb,nsK hns,⟨mb,nsK hb,hbb⟩,let⟨mc,h1,h2⟩:=hlim;⟨mc,nsK h1,h2⟩⟩
  have e0:Env0 P w K mg (a3W s₁.heap H) callerA [] s₁ H:=⟨rfl,hM,fun b o e=>b1S e,Nat.le_of_eq (a7O _ _),trivial,fun b hb=>absurd (show b∈([]:List Addr) from hb) (by simp),hok,.of_eq hg⟩
  refine codeAny_mono ((F _ hKb (nsK hns)).run callerA [] s₁ H ⟨[.ref a],[]⟩ [.ref a] [.ref a] _ _ hr e0 (hbind s₁ (.ref a)) (.cons rfl .nil) (hsp H hO hS)) fun r s' h=>?_
  cases r with
  |error e=>exact(hCX H e s' h).elim
  | ok fl=>
   cases fl with
   |next=>exact False.elim h
   |brk=>exact False.elim h
   |cont=>exact False.elim h
   | ret u=>
    obtain⟨v,H',os,bare,un,hok',r',q⟩:=h
    have q':v=.bl true:=q
    subst q';obtain rfl:u=Value.bool true:=r';refine⟨rfl,OldK.of_keep fun b o e=>?_,os,bare⟩
    cases q:H b with
    |none=>exact un.keep b o e q (by intro z;exact absurd (show b∈([]:List Addr) from z) (by simp)) (by simp)
    |some u=>
     rcases hO b with z|⟨ob,xs,z⟩
     · rw[q] at z;cases z
     · have z2:=un.frzs b ob _ z;obtain⟨e1,_⟩:=hok b _ z;obtain⟨e2,_⟩:=hok' b _ z2;rw[e] at e1;cases e1
       exact e2
 cases hk:K.lookup a with
 |some o=>
  -- the script is one of the module's own objects
  have e:=KX a o hk;rw[ha] at e;cases e;refine core (fun _=>none) (fun _=>.inl rfl) (.inr ⟨_,vs.toArray,_,hk,rfl,rfl,rfl,by rw[size_toArray,lenV];exact hl,by simpa using rv⟩) (fun b u z=>by have z':(none:Option HO)=some u:=z;cases z') (fun b z=>absurd rfl z) fun z=>absurd rfl z
 |none=>
  refine core (fun b=>if b=a then some (.frz {cls:=.type "list",data:=.seq vs.toArray} (.lst (ns.map V.int))) else none) (fun b=>?_) (.inl (.inr ⟨{cls:=.type "list",data:=.seq vs.toArray},ay rfl⟩)) (fun b u z=>?_) (fun b z=>?_) fun _=>hk
  · by_cases hb:b=a
    · exact .inr ⟨_,_,ay hb⟩
    · exact .inl (az hb)
  · by_cases hb:b=a
    · have z':=(ay hb).symm.trans z
      cases z';subst hb;exact⟨ha,by rw[aa];exact hl,vs,_,rv,ha⟩
    · have z':=(az hb).symm.trans z
      cases z'
  · by_cases hb:b=a
    · exact hb
    · exact absurd (az hb) z
abbrev KOf{K:PySem.W.Frag}{h:Heap}(_:K.In h):PySem.W.Frag:=K
variable{n:Nat}{q:Program}{loose:List Str}{XP:(Str->Option Value)->Heap->Prop}{YP:World->Heap->Prop}
theorem b0Q{l:PySem.W.OpenLaw}{k:Nat}{d:DefRec}{K:Params->PySem.W.Frag}{CX:World->CXT}{sp:World->Sp}
 (hn:l.most=some n) (hn2:n<=sizeLine) (hdf:d.params.defaults=[]) (hr:Room k callerA)
 (hY:∀(w:World) (h:Heap),YP w h->(K w.params).In h)
 (F:∀(w:World) (mg:Str->Option Value) (fa:Addr) (h:Heap),(K w.params).In h->h.Ns mainGlobals mg->mg d.name=some (.ref fa)→
  ∃fd:FuncData,(∀(s:Shared) (u:Value),BindsTo s fd ⟨[u],[]⟩ [(x,u)])∧
   ∀base:Heap,(K w.params).In base->base.Ns mainGlobals mg->FnOk l.prog w (K w.params) mg base (CX w) k fa fd [x] (sp w))
 (hsp:∀(w:World) (H:Hp) (a:Addr) (ns:List Int),ns.length<=n->b0N H->SqL (K w.params) H a (ns.map V.int)->sp w [.ref a] H (fun v _=>v=.bl true) fun _ _ _=>False)
 (hCX:∀(w:World) (H:Hp) (s:Shared) (e:Value) (s':Shared),CX w [] H s (fun _ _ _=>False) e s'->False):
 PySem.W.WalkO q loose XP YP l.row.toRowW d [] (fun f vs=>PySem.call f vs):=by
 refine Att.a5o hn hdf fun w s₀ s₁ mg mb fa o pm cd doc a vs ns G Y ho hd hcd hmg hobj hints hlen hg=>?_
 have KX:=hY w _ Y;obtain⟨fd,hb,hF⟩:=F w mg fa _ KX G.T.g hmg;exact a9K KX G.T.g G.T.b G.T.builtins G.T.nolimit hg hobj hints (aY hlen hn2) hr hF hb (fun H hO hS=>hsp w H a ns hlen hO hS) fun H e s'=>hCX w H s₁ e s'
noncomputable def b2e(s:Stmt)(j:Nat):Stmt:=match s with
 |.ClassDef _ _ _ body _ _ _ _ _ _ _=>body.getD j (.Pass ⟨0,0,0,0⟩)
 |_=>.Pass ⟨0,0,0,0⟩
noncomputable def N7(s:Stmt):Arguments:=match s with
 |.FunctionDef _ a _ _ _ _ _ _ _ _=>a
 |_=>{posonlyargs:=[],args:=[],vararg:=none,kwonlyargs:=[],kw_defaults:=[],kwarg:=none,defaults:=[]}
noncomputable def J0(s:Stmt):List Stmt:=match s with
 |.FunctionDef _ _ b _ _ _ _ _ _ _=>b
 |_=>[]
noncomputable def v5(s:Stmt):Scope:=match s with
 |.FunctionDef _ _ _ _ _ _ sc _ _ _=>sc
 |_=>{kind:=.function,names:=[],isGenerator:=false,isCoroutine:=false}
abbrev CX0:CXT:=fun _ _ _ _ _ _=>False
abbrev E0:XK:=fun _ _ _=>False
variable{X:Cx}
structure Fun(K:PySem.W.Frag)(x qual:Str)(st:Stmt)(f:Addr)(fd:FuncData):Prop where
 ex:∃(oc:Value) (od:Option Addr) (kV doc pm:Value) (an:Option Addr) (cdv ct:Value) (osl:Array (Option Value)),
  fd=PySem.W.fnOf x qual (N7 st) (J0 st) (v5 st) .none kV doc pm an cdv ct/\K.lookup f=some ⟨oc,od,.func fd,osl⟩/\PySem.W.codeIn K cdv qual=true
 kp:PySem.W.keepIn K (.ref f)=true
variable{qual:Str}{st:Stmt}{N:List Str}{ps:List Str}{oc:Value}{od:Option Addr}{an:Option Addr}{osl:Array (Option Value)}{doc:Value}{pm:Value}{cdv:Value}{ct:Value}
section
variable{base:Heap}
theorem Fun.binds{f:Addr}(F:Fun K x qual st f fd)
 (h:∀(kV doc pm:Value) (an:Option Addr) (cdv ct:Value) (us:List Value),us.length=ps.length->bindArgs (PySem.W.fnOf x qual (N7 st) (J0 st) (v5 st) .none kV doc pm an cdv ct) ⟨us,[]⟩=pure (ps.zip us)):M1 K fd ps []:=by
 obtain⟨oc,od,kV,doc,pm,an,cdv,ct,osl,rfl,lk,hcd⟩:=F.ex;exact .all (h kV doc pm an cdv ct)
theorem b0g{f:Addr}{kV:Value}(l:K.lookup f=some ⟨oc,od,.func (PySem.W.fnOf x qual (N7 st) (J0 st) (v5 st) .none kV doc pm an cdv ct),osl⟩)
 (c:PySem.W.codeIn K cdv qual=true) (k:PySem.W.keepIn K (.ref f)=true):Fun K x qual st f (PySem.W.fnOf x qual (N7 st) (J0 st) (v5 st) .none kV doc pm an cdv ct):=⟨⟨oc,od,kV,doc,pm,an,cdv,ct,osl,rfl,l,c⟩,k⟩
end
variable{A:Around}{pos:Pos}
theorem b4P{A B:Prop}(h:B):if false=true then A else B:=by
 rw[az bx];exact h
theorem b4O{A B:Prop}(h:A):if true=true then A else B:=by
 rw[ay rfl];exact h
def b8w(H H':Hp):Prop:=∀b o,H b=some o->H' b=some o
variable{H:Hp}{H':Hp}
noncomputable def C1(cells:List (Str×Addr)):List (Str×NameKind)->List (Str×Addr)->List (Str×Addr)
 |[],acc=>acc
 |(n,k)::r,acc=>if k=NameKind.free then(match cells.lookup n with|some c=>C1 cells r ((n,c)::acc)|none=>C1 cells r acc) else C1 cells r acc
theorem O7{cells:List (Str×Addr)}{x:Str}{c:Addr}:∀{l:List (Str×NameKind)} {acc:List (Str×Addr)},(x,c)∈C1 cells l acc->(x,c)∈acc∨((x,NameKind.free)∈l/\cells.lookup x=some c)
 |[],_,h=>.inl h
 | (n, k)::r,acc,h=>by
  unfold C1 at h
  by_cases hk:k=NameKind.free
  · rw [ay hk] at h
    cases e:cells.lookup n with
    |none=>
     rw[e] at h
     rcases O7 h with q|⟨q,z⟩
     · exact .inl q
     · exact .inr ⟨aE _ q,z⟩
    |some d=>
     rw[e] at h
     rcases O7 h with q|⟨q,z⟩
     · rcases aH.mp q with q|q
       · cases q;exact .inr ⟨by rw[hk];exact bj,e⟩
       · exact .inl q
     · exact .inr ⟨aE _ q,z⟩
  · rw[az hk] at h
    rcases O7 h with q|⟨q,z⟩
    · exact .inl q
    · exact .inr ⟨aE _ q,z⟩
theorem W6{cells:List (Str×Addr)}{p:Str×Addr}:∀{l:List (Str×NameKind)} {acc:List (Str×Addr)},p∈acc->p∈C1 cells l acc
 |[],_,h=>h
 | (n,k)::r,acc,h=>by
  unfold C1
  by_cases hk:k=NameKind.free
  · rw[ay hk]
    cases e:cells.lookup n with
    |none=>exact W6 h
    |some d=>exact W6 (aE _ h)
  · rw[az hk];exact W6 h
theorem a0t{cells:List (Str×Addr)}{x:Str}{c:Addr}(hc:cells.lookup x=some c):∀{l:List (Str×NameKind)} {acc:List (Str×Addr)},(x,NameKind.free)∈l->(x,c)∈C1 cells l acc
 | (n,k)::r,acc,h=>by
  unfold C1
  rcases aH.mp h with q|q
  · cases q;rw[ay rfl,hc];exact W6 bj
  · by_cases hk:k=NameKind.free
    · rw[ay hk]
      cases e:cells.lookup n with
      |none=>exact a0t hc q
      |some d=>exact a0t hc q
    · rw[az hk];exact a0t hc q
theorem a2u{cl:List (Str×Addr)}{c:Addr}:(∀d,(x,d)∈cl->d=c)->(x,c)∈cl->cl.lookup x=some c:=by
 induction cl with
 |nil=>intro _ h;cases h
 |cons p r ih=>
  intro ha h;obtain⟨n,d⟩:=p;rw[lookup_cons]
  by_cases e:x=n
  · subst e;rw[beq_self_eq_true];rw[ha d bj]
  · rw[show(x==n)=false from beq_eq_false_iff_ne.mpr e];refine ih (fun d' hd'=>ha d' (aE _ hd')) ?_
    rcases aH.mp h with q|q
    · cases q;exact absurd rfl e
    · exact q
variable{cells:List (Str×Addr)}{l:List (Str×NameKind)}
theorem a0p{c:Addr}(hl:(x,NameKind.free)∈l)(hc:cells.lookup x=some c):(C1 cells l []).lookup x=some c:=
 a2u (fun d hd=>by
  rcases O7 hd with q|⟨_,z⟩
  · cases q
  · rw[hc] at z;exact(ax z).symm) (a0t hc hl)
theorem L6{c:Addr}(h:(C1 cells l []).lookup x=some c):cells.lookup x=some c:=by
 rcases O7 (PySem.mem_of_lookup h) with q|⟨_,z⟩
 · cases q
 · exact z
theorem Z1{env:Env}{f:Str×NameKind->List (Str×Addr)->Sem (ForInStep (List (Str×Addr)))}
 (hf:∀n k r,f (n,k) r=if(k==NameKind.free)=true then(cellOf env n>>=fun a=>pure (ForInStep.yield ((n,a)::r))) else pure (ForInStep.yield r)):
 ∀(l:List (Str×NameKind)) (acc:List (Str×Addr)),(∀y∈l,y.2=NameKind.free->∃c,env.cells.lookup y.1=some c)->(forIn l acc f:Sem (List (Str×Addr)))=pure (C1 env.cells l acc)
 |[],acc,_=>rfl
 | (n,k)::r,acc,h=>by
  rw[forIn_cons,hf];unfold C1
  by_cases hk:k=NameKind.free
  · subst hk;obtain⟨c,hc⟩:=h (n,.free) bj rfl
    have hc':env.cells.lookup n=some c:=hc
    have e1:cellOf env n=pure c:=by unfold cellOf;rw[hc']
    rw[ay (beq_self_eq_true _),ay rfl,e1,hc'];simp only[pure_bind];exact Z1 hf r _ fun y hy=>h y (aE _ hy)
  · have hb:¬(k==NameKind.free)=true:=fun z=>hk (by simpa using z)
    rw[az hb,az hk];simp only[pure_bind];exact Z1 hf r _ fun y hy=>h y (aE _ hy)
variable{scope:Scope}{env:Env}
theorem J1(h:∀y∈scope.names,y.2=NameKind.free->∃c,env.cells.lookup y.1=some c):closureFor scope env=pure (C1 env.cells scope.names []):=by
 unfold closureFor
 dsimp only
 rw[Z1 (env:=env) (fun n k r=>by rfl) scope.names [] h]
 rfl
theorem a0X{k:NameKind}(h:(relabel scope env).names.lookup x=some k):(x,k)∈scope.names∨((x,NameKind.free)∈scope.names/\k=.cell):=by
 obtain⟨⟨n,k'⟩,hm,e⟩:=ak.mp (PySem.mem_of_lookup h)
 dsimp only at e
 split at e
 · rename_i hc;cases e
   have hk:k'=NameKind.free:=by simp only[ae,beq_iff_eq] at hc;exact hc.1.1
   exact .inr ⟨hk▸hm,rfl⟩
 · cases e;exact .inl hm
theorem a0m{env:Env}:∀{names:List (Str×NameKind)} {x:Str},names.lookup x=some .free→
 (names.map fun(n,k)=>if(k==NameKind.free&&env.scope.kind==.function&&env.kindOf n==some .cell) then(n,NameKind.cell) else(n,k)).lookup x=some .cell∨
 (names.map fun(n,k)=>if(k==NameKind.free&&env.scope.kind==.function&&env.kindOf n==some .cell) then(n,NameKind.cell) else(n,k)).lookup x=some .free
 |[],_,h=>by simp at h
 | (n,k)::r,x,h=>by
  have ih:= @a0m env r x;rw[map_cons]
  cases hx:x==n with
  |true=>
   simp only[lookup_cons,hx] at h;cases h
   by_cases hc:(NameKind.free==NameKind.free&&env.scope.kind==.function&&env.kindOf n==some .cell)=true
   · refine .inl ?_;simp only[ay hc,lookup_cons,hx]
   · refine .inr ?_;simp only[az hc,lookup_cons,hx]
  |false=>
   simp only[lookup_cons,hx] at h
   by_cases hc:(k==NameKind.free&&env.scope.kind==.function&&env.kindOf n==some .cell)=true
   · simp only[ay hc,lookup_cons,hx];exact ih h
   · simp only[az hc,lookup_cons,hx];exact ih h
structure CompScope(sc scope:Scope)(own frees:List Str):Prop where
 kind:scope.kind=.function
 nocell:∀y∈scope.names,y.2≠.cell
 locs:∀y∈scope.names,y.2=.local->scope.names.lookup y.1=some .local
 out:∀y∈scope.names,y.2=.free->sc.names.lookup y.1=some .cell
 nd:(own++frees).Nodup
 ownL:∀x∈own,scope.names.lookup x=some .local
 fr:∀x∈frees,scope.names.lookup x=some .free
def E4(X:Cx)(own frees:List Str)(scope:Scope)(C:Addr)(s₀:Shared)(H₀:Hp)(ex:List Addr):Cx:=
 { prog:=X.prog,w:=X.w,K:=X.K,mg:=X.mg,base:=X.base,A:=X.A,N:=own++frees,s₀:=s₀,H₀:=H₀,env:=compEnvC scope (C1 X.env.cells scope.names []) C X.env,
   outer:=X.stack,stack:=X.stack,ex:=ex,fn:=fun _=>false,calm:=X.calm,pn:=[],xe:=fun _ _=>False}
abbrev B8(X:Cx)(own frees:List Str)(scope:Scope)(C:Addr)(s₀:Shared)(H₀:Hp)(ex:List Addr)(E:Value->Shared->Prop):Cx:=(E4 X own frees scope C s₀ H₀ ex).wish E
noncomputable def A8(own:List Str)(js:List Nat)(σ:St):St:=own.map (fun _=>none)++js.map (fun j=>(σ[j]?).join)
def Wk(σ σ':St):Prop:=σ.length=σ'.length/\∀(i:Nat) (v:V),σ[i]? =some (some v)->σ'[i]? =some (some v)
variable{σ:St}{i:Nat}{v:V}
def a4p(X:Cx)(ifs:List Expr)(t:TT):Prop:=
 ∀(pins:List (Addr×Obj)) (s:Shared) (σ:St) (H:Hp) (Q:Bool->Hp->Prop),Inv X pins σ H s->t σ H Q→
  wpAny (model X.prog X.w) X.A (forIn ifs true fun c r=>if r=true then do let ok←isTrue c X.env (eval c X.env);pure (ForInStep.yield ok) else pure (ForInStep.yield r)) (TP X pins σ Q) X.xe s
theorem b1y:a4p X [] (fun _ H Q=>Q true H):=fun _ _ _ H _ I h=>wpAny_tests_nil ⟨H,I,h⟩
variable{c:Expr}
theorem b1x{t:TT}(h:PT X c t):a4p X [c] t:=fun pins s σ H Q I q=>wpAny_tests_one (h pins s σ H Q I q)
variable{iter:Expr}
section
variable{prog:Program}{R:Result->Shared->Prop}{s:Shared}
theorem a4e{E:Value->Shared->Prop}{elt target:Expr}{ifs:List Expr}{it acc:Value}(I:Nat->Shared->Prop)
 (turn:∀n s,I n s->wpAny (model prog w) A (pyNext it) (fun r s₁=>match r with
  |none=>R (.ok .next) s₁
  | some v=>wpAny (model prog w) A (letOwnedTupleGo target it v) (fun _ s₁'=>wpAny (model prog w) A (assign target env v) (fun _ s₂=>
   wpAny (model prog w) A (forIn ifs true fun c r=>if r=true then do let ok←isTrue c env (eval c env);pure (ForInStep.yield ok) else pure (ForInStep.yield r)) (fun ok s₃=>
    if ok=true then wpAny (model prog w) A (eval elt env) (fun x s₄=>
     wpAny (model prog w) A (call (.builtin "list.append") [acc,x]) (fun _ s₅=>∃m,m<n/\I m s₅) E s₄) E s₃
    else∃m,m<n/\I m s₃) E s₂) E s₁') E s₁) E s)
 (hE:∀e s,E e s->notedBy (model prog w) A env (fun x s'=>R (.error x) s') e s) (n:Nat) (h:I n s):codeAny (model prog w) A (.compLoop (.ListComp elt [⟨target,iter,ifs,0⟩] scope pos) 0 it acc env) R s:=by
 have no:∀{α:Type} {t:Sem α} {Q:α->Shared->Prop} {s:Shared},wpAny (model prog w) A t Q E s->wpAny (model prog w) A t Q (notedBy (model prog w) A env (fun x s'=>R (.error x) s')) s:=
  fun h=>wpAny_mono h (fun _ _ q=>q) hE
 refine codeAny_loop rfl I (fun n s hI=>?_) n h
 show wpAny _ A ((compTurn (.ListComp elt [⟨target,iter,ifs,0⟩] scope pos) 0 it acc env).onRaise (fun x=>do noteFrame x env;theTreesLotGoes x)) _ _ s
 refine wpAny_noted ?_
 rw[compTurn_list];refine wpAny_bind (wpAny_standAt (wpAny_bind (no (wpAny_mono (turn n s hI) (fun r s₁ h₁=>?_) fun _ _ h'=>h'))))
 cases r with
 |none=>exact wpAny_pure h₁
 | some v=>
  refine wpAny_bind (no (wpAny_mono h₁ (fun _ s₁' h₁'=>?_) fun _ _ h'=>h'))
  refine wpAny_bind (no (wpAny_mono h₁' (fun _ s₂ h₂=>wpAny_bind (no (wpAny_mono h₂ (fun ok s₃ h₃=>?_) fun _ _ h'=>h'))) fun _ _ h'=>h'))
  cases ok with
  |false=>exact wpAny_pure ⟨rfl,h₃⟩
  |true=>
   exact wpAny_bind (wpAny_bind (no (wpAny_mono h₃ (fun x s₄ h₄=>wpAny_bind (no (wpAny_mono h₄ (fun _ s₅ h₅=>wpAny_pure (wpAny_pure ⟨rfl,h₅⟩)) fun _ _ h'=>h'))) fun _ _ h'=>h')))
end
variable{h:Heap}{h':Heap}
theorem HOk.sameBut(ok:HOk P w H h)(hn:H a=none)(hs:Heap.SameBut a h h'):HOk P w H h':=fun b ob e=>by
 refine(ok b ob e).stay (fun c w' hc q=>(hs.2 c ?_).trans q) (fun _ q=>q) fun _ _ q=>q
 rintro rfl
 rcases hc with rfl|hc
 · rw[hn] at e;cases e
 · rw[hn] at hc;cases hc
def a1B(own:List Str)(js:List Nat)(wi:TI)(g:TG)(tc:TT)(te:TE):TE:=fun σ H Q=>wi σ H fun J H1=>∀D,H1 D=none→
 ∃ W:Nat->Nat->List V->Hp->Prop,(∃m,W 0 m [] (upd H1 D (.lst [])))/\∀i m ys H2,W i m ys H2→
  (J.stop i H2/\Q (.ref D) H2)∨(J.go i H2/\∀x H3,J.yld i H2 x H3->g x (A8 own js σ) H3 fun σ4 H4=>Wk (A8 own js σ) σ4/\tc σ4 H4 fun b H5=>
   if b=true then te σ4 H5 fun y H6=>H6 D=some (.lst ys)/\ys.length<sizeLine/\∃m',m'<m/\W (i+1) m' (ys++[y]) (upd H6 D (.lst (ys++[y])))
   else∃m',m'<m/\W (i+1) m' ys H5)
variable{pins:List (Addr×Obj)}{s:Shared}{C:Addr}{fp:List Addr}{s':Shared}{m:Str->Option Value}
section
variable{elt tg:Expr}{ifs:List Expr}{own frees:List Str}{js:List Nat}{wi:TI}{g:TG}{tc:TT}{te:TE}
theorem b2K(I:Inv X pins σ H s)(S:CompScope X.env.scope scope own frees)(hC:s.heap.objs.size<=C)
 (hf:∀b∈fp,a0c X pins H b) (ho:∀b∈fp,∃o,s.heap.get? b=some o):(E4 X own frees scope C s H fp).Ok:=by
 have cellX:∀x c,(C1 X.env.cells scope.names []).lookup x=some c->X.env.cells.lookup x=some c:=fun x c e=>L6 e
 refine⟨I.ok.mod,S.kind,I.ok.glob,I.ok.blt,hC,fun x y c h1 h2=>I.ok.inj x y c (cellX x c h1) (cellX y c h2),fun x hx=>?_,fun x c h=>(bx h).elim,I.ok.hd,I.ok.frames,.inl rfl,fun b hb=>⟨?_,fun x c e=>(hf b hb).2.2.2.2.1 x c (cellX x c e)⟩,
  I.bs,aY I.ok.bsz I.sz,fun b o e hb=>?_,fun b hb hm=>?_,I.stack,I.stkFree⟩
 · have hx':(relabel scope X.env).names.lookup x=some .cell∨(relabel scope X.env).names.lookup x=some .free:=hx
   have hm:(x,NameKind.free)∈scope.names:=by
    rcases hx' with q|q
    · rcases a0X q with z|z
      · exact absurd rfl (S.nocell _ z)
      · exact z.1
    · rcases a0X q with z|z
      · exact z
      · exact z.1
   obtain⟨c,hc⟩:=I.ok.has x (.inl (S.out _ hm rfl));exact⟨c,a0p hm hc⟩
 · intro e;obtain⟨o,q⟩:=ho b hb
   have e':b=C:=e
   have:=Heap.lt_size q
   rw[e'] at this;exact absurd (aC this hC) (aX _)
 · rcases(hf b hb).2.2.2.1 with z|z
   · exact I.ok.noex b o e z
   · exact absurd (aC (aC (Heap.lt_size e) I.ok.bsz) z) (aX _)
 · rcases aH.mp (I.stkSub b hm) with z|z
   · exact(hf b hb).2.1 z
   · exact(hf b hb).2.2.1 z
theorem b0z (I:Inv X pins σ H s) (S:CompScope X.env.scope scope own frees) (hj:frees.map some=js.map (X.N[·]?)) (hC:s.heap.objs.size<=C)
 (hf:∀b∈fp,a0c X pins H b) (ho:∀b∈fp,∃o,s.heap.get? b=some o) (os:s'.os=s.os) (bare:AllBare s'.gens) (k:∀b o,s.heap.get? b=some o->s'.heap.get? b=some o) (un:Un (frs X.stack) fp H H' s.heap s'.heap)
 (hn:s'.heap.Ns C m) (hCn:H' C=none) (hok:HOk X.prog X.w H' s'.heap) (hcl:∀x c,X.env.cells.lookup x=some c->H' c=none):
 Inv (E4 X own frees scope C s H fp) [] (A8 own js σ) H' s':=by
 have hlen:frees.length=js.length:=by have:=congrArg List.length hj;simpa using this
 refine⟨b2K I S hC hf ho,os,bare,un,⟨m,hn,fun i x v h1 h2 h3=>?_⟩,fun x c e=>?_,hCn,fun x c e=>hcl x c (L6 e),fun p hp=>absurd (show p∈([]:List (Addr×Obj)) from hp) (by simp),hok,?_⟩
 · have h1':(own++frees)[i]? =some x:=h1
   unfold A8 at h2
   by_cases hi:i<own.length
   · rw[av (by simpa using hi),aj] at h2
     cases q:own[i]? with
     |none=>rw[q] at h2;cases h2
     |some z=>rw[q] at h2;cases h2
   · have hi':own.length<=i:=bc hi
     rw[au hi'] at h1'
     rw[au (by simpa using hi'),aa,aj] at h2
     cases q:js[i-own.length]? with
     |none=>rw[q] at h2;cases h2
     | some j=>
      rw[q] at h2
      have h2':(σ[j]?).join=some v:=ax h2
      have hσ:σ[j]? =some (some v):=by
       cases z:σ[j]? with
       |none=>rw[z] at h2';cases h2'
       |some w'=>rw[z] at h2';exact congrArg some h2'
      have hX:X.N[j]? =some x:=by
       have e:=congrArg (fun l=>l[i-own.length]?) hj
       rw[aj,aj,h1',q] at e
       exact(ax e).symm
      have hm:(x,NameKind.free)∈scope.names:=PySem.mem_of_lookup (S.fr x (aI h1'))
      have ho':=S.out _ hm rfl
      obtain⟨m0,hn0,hl0⟩:=I.loc;obtain⟨u,ru,l⟩:=hl0 j x v hX hσ (.inr (.inl ho'));refine⟨u,ru,?_⟩
      rcases l with⟨q1,_⟩|⟨_,c,e,z⟩
      · have q1':X.env.scope.names.lookup x=some .local:=q1
        rw[ho'] at q1';cases q1'
      · refine .inr ⟨a0m (S.fr x (aI h1')),c,a0p hm e,?_⟩
        obtain⟨o,eo,d⟩:=z;exact⟨o,k c o eo,d⟩
 · obtain⟨v,o,eo,d⟩:=I.cell x c (L6 e);exact⟨v,o,k c o eo,d⟩
 · show(A8 own js σ).length=(own++frees).length
   unfold A8;rw[aq,aa,aa,aq,hlen]
end
variable{Q:Value->Shared->Prop}
section
def b8N:V->Option Int->Option Int->Hp->VK->Prop:=fun x lo hi H Q=>∃z,x=.str z/\z.length<=sizeLine/\Q (.str (Txt.slice z lo hi)) H
theorem b3D:SlR X b8N:=by
 intro pins s σ H x v vl vu lo hi sl Q I rx hs pl pu h;obtain⟨z,rfl,hz,q⟩:=h;obtain⟨t,rfl⟩:=rx
 have fin:∀(t':Tok) (k:Nat),EP X pins σ Q (.str (Txt.slice z lo hi) t') {s with toks:=k}:=fun t' k=>⟨.str _,H,I.tok _,⟨_,rfl⟩,q⟩
 refine⟨"str",_,PySem.F.slot_str_getitem.lookup,typeIs_str _ _ _,?_⟩
 obtain⟨o,e1,e2,e3⟩:=hs
 cases pl with
 |none=>
  cases pu with
  |none=>exact wpAny_getItem_str_slice (l:=none) (u:=none) (st:=none) ⟨o,e1,e2,e3⟩ rfl (post_val_or_str ⟨aY (Txt.slice_le z _ _) hz,fun t' k=>fin t' k⟩)
  |int j uj=>exact wpAny_getItem_str_slice (l:=none) (u:=some (j,uj)) (st:=none) ⟨o,e1,e2,e3⟩ rfl (post_val_or_str ⟨aY (Txt.slice_le z _ _) hz,fun t' k=>fin t' k⟩)
 |int i ui=>
  cases pu with
  |none=>exact wpAny_getItem_str_slice (l:=some (i,ui)) (u:=none) (st:=none) ⟨o,e1,e2,e3⟩ rfl (post_val_or_str ⟨aY (Txt.slice_le z _ _) hz,fun t' k=>fin t' k⟩)
  |int j uj=>exact wpAny_getItem_str_slice (l:=some (i,ui)) (u:=some (j,uj)) (st:=none) ⟨o,e1,e2,e3⟩ rfl (post_val_or_str ⟨aY (Txt.slice_le z _ _) hz,fun t' k=>fin t' k⟩)
theorem a2y:∀l:List (Str×Tok),l7 ((l.map (·.1)).map V.str) (strValues l)
 |[]=>.nil
 |(x,t)::r=>.cons ⟨t,rfl⟩ (a2y r)
theorem a2B:∀{xs:List Str} {us:List Value},l7 (xs.map V.str) us->∃l:List (Str×Tok),us=strValues l/\l.map (·.1)=xs
 |[],us,r=>by
  rw[map_nil] at r;cases r;exact⟨[],rfl,rfl⟩
 | x::xs,us,r=>by
  rw[map_cons] at r
  cases r with
  |cons r1 r2=>
   obtain⟨t,rfl⟩:=r1;obtain⟨l,rfl,rfl⟩:=a2B r2;exact⟨(x,t)::l,rfl,rfl⟩
def b3K:V->List V->Hp->VK->Prop:=fun x vs H Q=>∃z y,x=.str z/\vs=[.str y]/\0<y.length/\z.length+2<=sizeLine/\∀p,H p=none->Q (.ref p) (upd H p (.lst ((Txt.split z y).map V.str)))
theorem a9D:MtR X "str.split" b3K:=by
 intro pins s σ H x vs v us Q I rx rv h;obtain⟨z,y,rfl,rfl,hy0,hz,q⟩:=h;obtain⟨t,rfl⟩:=rx;obtain⟨u,rfl,tu,rfl⟩:=rv.one
 have hy:(y.length==0)=false:=by
  rw[beq_eq_false_iff_ne];omega
 have fin:∀(l:List (Str×Tok)) (k:Nat),l.map (·.1)=Txt.split z y->EP X pins σ Q (.ref s.heap.objs.size) {s with toks:=k,heap:=s.heap.push {cls:=.type "list",data:=.seq (strValues l).toArray}}:=fun l k e=>by
  refine⟨.ref s.heap.objs.size,upd H s.heap.objs.size (.lst ((Txt.split z y).map V.str)),?_,rfl,q _ (I.hok.fresh (ai _))⟩
  refine I.laid (t':=k) (fun b o e=>Heap.get?_push_of_some _ e) (ai _) ⟨?_,strValues l,0,?_,Heap.get?_push_size _ rfl⟩
  · rw[aa];exact aY (split_le z y) hz
  · rw[←e];exact a2y l
 cases h1:(decide (z.length<y.length)||decide (Builtin.Str.strKind z<Builtin.Str.strKind y))
 · cases hf:(Builtin.Str.occurrences z y 0 z.length (z.length+1)).isEmpty
   · have es:Txt.split z y=Builtin.Str.partsBetween z (Builtin.Str.occurrences z y 0 z.length (z.length+1)) y.length:=(az (ne_true_of_eq_false h1)).trans (az (ne_true_of_eq_false hf))
     refine call_meets PySem.F.slot_str_split (typeIs_str _ _ _) PySem.F.entry_str_split (PySem.F.args_str_split_2 _ _) (meets_str_split_sep z y t tu h1 hy hf (by omega) (by rw[←es];exact aY (split_le z y) hz)) ?_
     show wants _ _ _ {s with toks:=_,heap:=s.heap.push {cls:=.type "list",data:=.seq (strsFrom s.toks (Builtin.Str.partsBetween z (Builtin.Str.occurrences z y 0 z.length (z.length+1)) y.length)).toArray}}
     rw[strsFrom_eq];exact fin (numbered s.toks _) _ ((numbered_texts _ _).trans es.symm)
   · exact call_meets PySem.F.slot_str_split (typeIs_str _ _ _) PySem.F.entry_str_split (PySem.F.args_str_split_2 _ _) (meets_str_split_not_found z y t tu h1 hy hf)
      (fin [(z,t)] s.toks ((az (ne_true_of_eq_false h1)).trans (ay hf)).symm)
 · exact call_meets PySem.F.slot_str_split (typeIs_str _ _ _) PySem.F.entry_str_split (PySem.F.args_str_split_2 _ _) (meets_str_split_cannot_occur z y t tu h1)
    (fin [(z,t)] s.toks (ay h1).symm)
def b1m:V->List V->Hp->VK->Prop:=fun x vs H Q=>∃z y,x=.str z/\vs=[.str y]/\Q (.bl (Txt.startswith z y)) H
theorem a7D:MtR X "str.startswith" b1m:=by
 intro pins s σ H x vs v us Q I rx rv h;obtain⟨z,y,rfl,rfl,q⟩:=h;obtain⟨t,rfl⟩:=rx;obtain⟨u,rfl,tu,rfl⟩:=rv.one;exact call_gives PySem.F.slot_str_startswith (typeIs_str _ _ _) PySem.F.entry_str_startswith (PySem.F.args_str_startswith_2 _ _) (gives_str_startswith z y t tu) ⟨.bl _,H,I,rfl,q⟩
def b6H(K:PySem.W.Frag):V->List V->Hp->VK->Prop:=fun x vs H Q=>∃z p ts,x=.str z/\vs=[.ref p]/\SqL K H p (ts.map V.str)/\JoinOk z ts=true/\Q (.str (Txt.join z ts)) H
theorem b1V:MtR X "str.join" (b6H X.K):=by
 intro pins s σ H x vs v us Q I rx rv h;obtain⟨z,p,ts,rfl,rfl,hp,hok,q⟩:=h;obtain⟨t,rfl⟩:=rx;obtain⟨u,rfl,ru⟩:=rv.one;cases ru;obtain⟨its,r,pl,hz⟩:=I.list hp;obtain⟨l,rfl,e⟩:=a2B r;exact SC.join pl.isList e hok fun t' k=>⟨.str _,H,I.tok _,⟨_,rfl⟩,q⟩
theorem a5l:∀{bs:List Bool} {us:List Value},l7 (bs.map V.bl) us->us=bs.map Value.bool
 |[],us,r=>by
  rw[map_nil] at r;cases r;rfl
 | b::bs,us,r=>by
  rw[map_cons] at r
  cases r with
  |cons r1 r2=>
   cases r1;rw[a5l r2];rfl
theorem a7t(bs:List Bool)(p:Bool->Bool):(List.range bs.length).all (fun i=>p (bs.getD i true))=bs.all p:=by
 induction bs with
 |nil=>rfl
 |cons b r ih=>
  rw[length_cons,List.range_succ_eq_map,all_cons,all_map,all_cons,←ih];rfl
theorem a7s(bs:List Bool)(p:Bool->Bool):(List.range bs.length).any (fun i=>p (bs.getD i true))=bs.any p:=by
 induction bs with
 |nil=>rfl
 |cons b r ih=>
  rw[length_cons,List.range_succ_eq_map,any_cons,List.any_map,any_cons,←ih];rfl
theorem a3e{p:Addr}{bs:List Bool}(hc:X.calm=true)(I:Inv X pins σ H s)(hp:SqL X.K H p (bs.map V.bl)){E:Value->Shared->Prop}{f:(Nat->Bool)->Bool}
 (hq:∀s',Inv X pins σ H s'->Q (.bool (f fun i=>bs.getD i true)) s'):
 wpAny (model X.prog X.w) X.A.in1 (pyIter (.ref p)) (fun it s₂=>∃I fp wr n P St tr,it=.ref I/\Walks X.prog X.w X.A.in1 I fp wr n P St/\St 0 s₂.heap/\TruthOf X.prog X.w X.A.in1 P tr/\n=bs.length∧
  ∀h' tk,(∀b o,b∉wr->s₂.heap.get? b=some o->h'.get? b=some o)->Q (.bool (f tr)) {s₂ with heap:=h',toks:=tk}) E s:=by
 obtain⟨its,r,pl,hz⟩:=I.list hp;have e:=a5l r;subst e
 have hne:p≠s.heap.objs.size:=by
  obtain⟨o,n,e,_⟩:=pl;exact Nat.ne_of_lt (Heap.lt_size e)
 refine wpAny_pyIter_list pl.isList ⟨s.heap.objs.size,_,_,_,_,_,fun i=>bs.getD i true,rfl,Walks.list (A:=X.A.in1) (I.ok.hd hc) s.heap.objs.size p hne (bs.map Value.bool).toArray,⟨⟨_,Heap.get?_push_size _ rfl,rfl,rfl⟩,?_⟩,?_,?_,?_⟩
 · exact pl.isList.at fun o e=>Heap.get?_push_of_some _ e
 · intro i v s' Q' E' hP hQ
   have hP':(bs.map Value.bool).toArray[i]? =some v:=hP
   rw[List.getElem?_toArray,aj] at hP'
   cases q:bs[i]? with
   |none=>rw[q] at hP';cases hP'
   |some b=>
    rw[q] at hP';cases hP'
    have:bs.getD i true=b:=by rw[bC,q];rfl
    have hQ':Q' b s':=this▸hQ
    exact wpAny_truthy_bool hQ'
 · simp
 · intro h' tk k
   exact hq _ (I.kept fun b o e=>k b o (by
    have:=Nat.ne_of_lt (Heap.lt_size e)
    simpa using this) (Heap.get?_push_of_some _ e))
theorem b0D(hc:X.calm=true):D5 X (.builtin "all") (fun xs H Q=>∃(p:Addr) (bs:List Bool),xs=[.ref p]/\SqL X.K H p (bs.map V.bl)/\Q (.bl (bs.all id)) H):=by
 intro pins s σ H xs us Q I r h;obtain⟨p,bs,rfl,hp,q⟩:=h;obtain⟨u,rfl,ru⟩:=O2 r;cases ru;refine call_all_walk (thn (a3e (f:=fun tr=>(List.range bs.length).all tr) (Q:=EP X pins σ Q) hc I hp fun s' I'=>⟨.bl (bs.all id),H,I',?_,q⟩) fun it s2 ⟨i,fp,wr,n,P,St,tr,e1,e2,e3,e4,e5,e6⟩=>⟨i,fp,wr,n,P,St,tr,e1,e2,e3,e4,?_⟩)
 · show Value.bool _=Value.bool _
   exact congrArg Value.bool (a7t bs id)
 · subst e5;exact e6
theorem b0C(hc:X.calm=true):D5 X (.builtin "any") (fun xs H Q=>∃(p:Addr) (bs:List Bool),xs=[.ref p]/\SqL X.K H p (bs.map V.bl)/\Q (.bl (bs.any id)) H):=by
 intro pins s σ H xs us Q I r h;obtain⟨p,bs,rfl,hp,q⟩:=h;obtain⟨u,rfl,ru⟩:=O2 r;cases ru;refine call_any_walk (thn (a3e (f:=fun tr=>(List.range bs.length).any tr) (Q:=EP X pins σ Q) hc I hp fun s' I'=>⟨.bl (bs.any id),H,I',?_,q⟩) fun it s2 ⟨i,fp,wr,n,P,St,tr,e1,e2,e3,e4,e5,e6⟩=>⟨i,fp,wr,n,P,St,tr,e1,e2,e3,e4,?_⟩)
 · show Value.bool _=Value.bool _
   exact congrArg Value.bool (a7s bs id)
 · subst e5;exact e6
theorem a4j:D5 X (.type "int") (fun xs H Q=>∃z n,xs=[.str z]/\z.length<=640/\PySem.intText? z=some n/\Q (.int n) H):=by
 intro pins s σ H xs us Q I r h;obtain⟨z,n,rfl,hz,hn,q⟩:=h;obtain⟨u,rfl,t,rfl⟩:=O2 r;exact PySem.W.KIN.call_text hn hz ⟨.int n,H,I.tok _,⟨_,rfl⟩,q⟩
end
variable{o:HO}
section
theorem Inv.turnedF{t':Nat}(I:Inv X pins σ H s)(hf:∀b∈fp,a0c X pins H b)(k:∀b u,b∉fp->s.heap.get? b=some u->h'.get? b=some u):Inv X pins σ H {s with heap:=h',toks:=t'}:=by
 have nit:∀b u,H b=some u->b∉fp:=fun b u e z=>by rw[(hf b z).1] at e;cases e
 refine I.step (g':=s.gens) (d':=s.drawn) (ch:=fp) (fun b hb=>⟨(hf b hb).2.2.2.1,(hf b hb).2.1,(hf b hb).2.2.2.2.1,(hf b hb).2.2.2.2.2⟩) (fun b o _ _ hc e _=>k b o hc e) (fun b o _ _ hc e _=>⟨o.slots,k b o hc e⟩) (fun _ _ _ _ n=>n)
  (fun b o hc e=>⟨o,k b o hc e⟩) (fun _ _ e=>e) (fun _ _ _ e=>e) (fun b ps e=>⟨#[],by rw[e];simp⟩) (fun m hm=>?_) (fun b u e=>?_) I.bare
 · obtain⟨o,es,ep,ho,r⟩:=hm;exact⟨o,es,ep,k _ o (fun z=>(hf _ z).2.1 rfl) ho,r⟩
 · refine(I.hok b u e).stay (fun c v hc q=>k c v ?_ q) (fun _ q=>q) fun _ _ q=>q
   rcases hc with z|z
   · rw[z];exact nit b u e
   · exact nit c _ z
theorem Inv.turnedN{t':Nat}{T:Addr}(I:Inv X pins σ H s)(hf:∀b∈fp,a0c X pins H b)(k:∀b u,b∉fp->s.heap.get? b=some u->h'.get? b=some u)(hT:s.heap.objs.size<=T)(new:x5 X.prog X.w (upd H T o) h' T o):
 Inv X pins σ (upd H T o) {s with heap:=h',toks:=t'}:=by
 have hn:H T=none:=I.hok.fresh hT
 have nit:∀b u,H b=some u->b∉fp:=fun b u e z=>by rw[(hf b z).1] at e;cases e
 have ne:∀b u,s.heap.get? b=some u->b≠T:=fun b u e=>Nat.ne_of_lt (aC (Heap.lt_size e) hT)
 have up:∀b u,H b=some u->upd H T o b=some u:=fun b u e=>by rw[d9 (n5 e hn)];exact e
 refine I.step (g':=s.gens) (d':=s.drawn) (ch:=fp) (fun b hb=>⟨(hf b hb).2.2.2.1,(hf b hb).2.1,(hf b hb).2.2.2.2.1,(hf b hb).2.2.2.2.2⟩) (fun b u _ _ hc e _=>k b u hc e) (fun b u _ _ hc e _=>⟨u.slots,k b u hc e⟩) (fun b u _ e n=>by rw[d9 (ne b u e)];exact n)
  (fun b u hc e=>⟨u,k b u hc e⟩) (fun b xs e=>up b _ e) (fun b u xs e=>up b _ e) (fun b ps e=>⟨#[],by rw[up b _ e];simp⟩) (fun m hm=>?_) (fun b u e=>?_) I.bare
 · obtain⟨u,es,ep,ho,r⟩:=hm;exact⟨u,es,ep,k _ u (fun z=>(hf _ z).2.1 rfl) ho,r⟩
 · by_cases hb:b=T
   · subst hb;rw[d8] at e;cases e;exact new
   · rw[d9 hb] at e;refine(I.hok b u e).stay (fun c v hc q=>k c v ?_ q) (fun c q=>up c _ q) fun c xs q=>up c _ q
     rcases hc with z|z
     · rw[z];exact nit b u e
     · exact nit c _ z
end
noncomputable def Its(x:Str):It:=⟨fun i _=>i<x.cps.size,fun i H v H'=>H'=H/\∃c,x.cps[i]? =some c/\v=.str ⟨#[c]⟩,fun i _=>i=x.cps.size⟩
variable{tg:Expr}
theorem a4x{K:PySem.W.Frag}{ty:String}(x:Str)(t:Tok)(it:Addr)(hty:["enumerate","zip","dict_itemiterator","dict_reverseitemiterator","odict_iterator","itertools.zip_longest","itertools.pairwise"].contains ty=false)
 (W:∀A:Around,A.handled=none->Walks P w A it [it] [it] x.cps.size (SignAt x) (fun i h=>h.IsStrIter it ty x t i))
 (Sf:∀(A:Around) (i:Nat) (s:Shared) (Q:Value->Shared->Prop) (E:Value->Shared->Prop),s.heap.IsStrIter it ty x t i->Q (.ref it) s->wpAny (model P w) A (pyIter (.ref it)) Q E s):Turn P w K tg (Its x) [it] it (fun i h=>h.IsStrIter it ty x t i) where
 mem:=by simp
 obj:=fun i h st b hb=>by
  have e:b=it:=by simpa using hb
  subst e;obtain⟨o,e,c,d⟩:=st;exact⟨o,e,fun v z=>by rw[d] at z;cases z⟩
 keep:=fun i h h' st k=>let⟨o,e,r⟩:=st;⟨o,k it (by simp) o e,r⟩
 item:=by
  intro X hP hw hK hc i pins s σ H E I hf st hg;subst hP hw hK;refine(W X.A (I.ok.hd hc)).item i s _ _ hg st fun v h' tk hv st' kk=>?_
  obtain⟨c,u,hcx,rfl⟩:=hv
  have I1:Inv X pins σ H {s with heap:=h',toks:=tk}:=I.turnedF hf fun b o hb e=>kk b o hb e
  obtain⟨o,e,hcl,d⟩:=id st';exact⟨_,rfl,a6O (s:={s with heap:=h',toks:=tk}) e hcl d hty ⟨.str ⟨#[c]⟩,H,I1,⟨u,rfl⟩,⟨rfl,c,hcx,rfl⟩,st',fun b hb=>(hf b hb).1⟩⟩
 done:=by
  intro X hP hw hK hc i pins s σ H E I hf st hg;subst hP hw hK
  have hg':i=x.cps.size:=hg
  subst hg';exact(W X.A (I.ok.hd hc)).done s _ _ st fun h' tk k=>⟨rfl,I.turnedF (t':=tk) hf fun b o hb e=>k b o hb e⟩
 self:=fun A i s Q E st h=>Sf A i s Q E st h
variable{tb:TS}
section
def b9c(tl:TE):TI:=fun σ H R=>tl σ H fun x H1=>∃z,x=.str z/\R (Its z) H1
theorem b3X{l:Expr}{tl:TE}(hl:PE X l tl):PI X tg l (b9c tl):=by
 intro pins s σ H R I h;refine thn (hl pins s σ H _ I h) fun v s1 ⟨x,H1,I1,r1,z,e,q⟩=>?_
 subst e;obtain⟨t,rfl⟩:=r1
 have fp:∀b∈[s1.heap.objs.size],a0c X pins H1 b:=fun b hb=>by
  have e:b=s1.heap.objs.size:=by simpa using hb
  subst e;exact I1.fpOk (ai _) (I1.hok.fresh (ai _))
 cases ha:z.cps.all (· <128)
 · exact wpAny_pyIter_wide ha ⟨s1.heap.objs.size,[s1.heap.objs.size],_,_,H1,rfl,I1.kept (t':=s1.toks) fun b o e=>Heap.get?_push_of_some _ e,a4x (ty:="str_iterator") z t _ (by decide) (fun A hA=>Walks.strWide hA _ z t) (fun A i s Q E st h=>wpAny_pyIter_striter_wide st h),
    ⟨_,Heap.get?_push_size _ rfl,rfl,rfl⟩,fp,q⟩
 · exact wpAny_pyIter_ascii ha ⟨s1.heap.objs.size,[s1.heap.objs.size],_,_,H1,rfl,I1.kept (t':=s1.toks) fun b o e=>Heap.get?_push_of_some _ e,a4x (ty:="str_ascii_iterator") z t _ (by decide) (fun A hA=>Walks.strAscii hA _ z t) (fun A i s Q E st h=>wpAny_pyIter_striter_ascii st h),
    ⟨_,Heap.get?_push_size _ rfl,rfl,rfl⟩,fp,q⟩
end
def Ite(K:PySem.W.Frag)(l:Addr):It:=⟨fun i H=>∃xs x,SqL K H l xs/\xs[i]? =some x,fun i H v H'=>∃T x,H T=none/\v=.ref T/\(∀xs,SqL K H l xs->xs[i]? =some x)/\H'=upd H T (.tup [.int i,x]),fun i H=>∃xs,SqL K H l xs/\xs.length<=i⟩
variable{elts:List Expr}
theorem a7k{k:Nat}(e it l:Addr)(hei:e≠it):
 Turn P w K (.Tuple elts k pos) (Ite K l) [e,it] e (fun i h=>(∃old,IsEnum h e it i old)/\h.IsListIter it l i) where
 mem:=by simp
 obj :=fun i h st b hb=>by
  obtain⟨⟨old,he⟩,o,e1,c,d⟩:=st
  rcases aH.mp hb with z|z
  · subst z
    exact⟨_,he,fun v z=>by
     have z':Data.fields _=Data.cell v:=z
     cases z'⟩
  · have z':b=it:=by simpa using z
    subst z';exact⟨o,e1,fun v z=>by rw[d] at z;cases z⟩
 keep:=fun i h h' st k=>by
  obtain⟨⟨old,he⟩,hit⟩:=st;exact⟨⟨old,k e (by simp) _ he⟩,hit.at fun o x=>k it (by simp) o x⟩
 item:=by
  intro X hP hw hK hc i pins s σ H E I hf st hg;subst hP hw hK;obtain⟨⟨old,he⟩,hit⟩:=st;obtain⟨xs,x,hq,hx⟩:=hg;obtain⟨its,rv,p,hz⟩:=I.list hq;obtain⟨u,hu,ru⟩:=rv.get hx
  have helt:e<s.heap.objs.size:=Heap.lt_size he
  refine wpAny_pyNext_enum_item he hit p.isList (x:=u) (by simpa using hu) hei fun h' ho hit' hT hsz hk=>?_
  refine⟨_,rfl,wpAny_letOwnedTupleGo_enum ho fun h2 he2 hs2=>?_⟩
  have kk:∀b o,b∉[e,it]->s.heap.get? b=some o->h2.get? b=some o:=fun b o hb q=>by
   have h1:b≠e:=fun z=>hb (by simp[z])
   have h2':b≠it:=fun z=>hb (by simp[z])
   exact(hs2.2 b h1).trans (hk b o h1 h2' q)
  have hT2:h2.get? s.heap.objs.size=some {cls:=.type "tuple",data:=.seq #[.int i s.toks,u]}:=(hs2.2 _ (Nat.ne_of_gt helt)).trans hT
  have I1:Inv X pins σ (upd H s.heap.objs.size (.tup [.int i,x])) {s with heap:=h2,toks:=s.toks+1}:=
   I.turnedN (fp:=[e,it]) hf kk (ai _) ⟨by show 2<=sizeLine;decide,[.int i s.toks,u],.cons ⟨_,rfl⟩ (.cons ru .nil),_,hT2,rfl,rfl,_,rfl⟩
  refine⟨.ref s.heap.objs.size,_,I1,rfl,⟨s.heap.objs.size,x,I.hok.fresh (ai _),rfl,fun ys hy=>by rw[I.list_inj hy hq];exact hx,rfl⟩,⟨⟨_,by simpa using he2⟩,hit'.at fun o x=>(hs2.2 it (Ne.symm hei)).trans x⟩,fun b hb=>?_⟩
  have hbs:b<s.heap.objs.size:=by
   rcases aH.mp hb with z|z
   · rw[z];exact helt
   · have z':b=it:=by simpa using z
     rw[z'];obtain⟨o,e1,_⟩:=hit;exact Heap.lt_size e1
  rw[d9 (Nat.ne_of_lt hbs)];exact(hf b hb).1
 done:=by
  intro X hP hw hK hc i pins s σ H E I hf st hg;subst hP hw hK;obtain⟨⟨old,he⟩,hit⟩:=st;obtain⟨xs,hq,hx⟩:=hg;obtain⟨its,rv,p,hz⟩:=I.list hq;have hl:=rv.length;exact wpAny_pyNext_enum_end (I.ok.hd hc) he hit p.isList (by simp;omega) fun h' eb=>⟨rfl,I.turnedF (t':=s.toks) hf fun b o hb q=>eb b o (fun z=>hb (by simp[z])) q⟩
 self:=fun A i s Q E st h=>by
  obtain⟨⟨old,he⟩,_⟩:=st;exact wpAny_pyIter_enum he h
variable{ta:TA}{p:Pos}
section
variable{k:Nat}{tpos:Pos}
def b7l(K:PySem.W.Frag)(ta:TA):TI:=fun σ H R=>ta σ H fun vs H1=>∃l xs,vs=[.ref l]/\SqL K H1 l xs/\R (Ite K l) H1
theorem b1A{a:Expr}(hg:Gl X "enumerate")(hm:X.mg "enumerate"=none)(ha:PA X [a] ta)(hs:starEach [a] X.env=[(false,eval a X.env)]:=by rfl):
 PI X (.Tuple elts k tpos) (.Call (.Name "enumerate" p) [a] [] pos) (b7l X.K ta):=by
 intro pins s σ H R I h;refine Call_ (Y9 I hg hm boot_enumerate (PyProof.Rows.callWith_type1 (thn (ha pos pins s σ H _ I h) fun us s1 ⟨vs,H1,I1,r1,q1⟩=>?_) hs rfl))
 obtain⟨l,xs,e,hq,q⟩:=q1;subst e;obtain⟨u,rfl,ru⟩:=O2 r1;cases ru;obtain⟨its,rv,pl,hz⟩:=I1.list hq;refine call_enumerate_list pl.isList fun h' he hit hsz hk=>?_
 have I2:Inv X pins σ H1 {s1 with heap:=h'}:=I1.kept (t':=s1.toks) hk
 refine wpAny_pyIter_enum he ⟨s1.heap.objs.size+1,[s1.heap.objs.size+1,s1.heap.objs.size],_,_,H1,rfl,I2,a7k (s1.heap.objs.size+1) s1.heap.objs.size l (Nat.ne_of_gt (ba _)),⟨⟨_,he⟩,hit⟩,fun b hb=>?_,q⟩
 have hb':s1.heap.objs.size<=b:=by
  rcases aH.mp hb with z|z
  · rw[z];exact Nat.le_succ _
  · have z':b=s1.heap.objs.size:=by simpa using z
    rw[z'];exact ai _
 exact I1.fpOk hb' (I1.hok.fresh hb')
end
end L2
namespace L2X
open PySem
open Sem (wp)
inductive OwnT(h:Heap)(bmB:List Value)(ns:List Str):List Value->Prop
 |base:OwnT h bmB ns bmB
 |own {K:Addr} {kc:Value} {kd:Option Addr} {cd:ClassData} {sl:Array (Option Value)} {mK:Str->Option Value} {up:List Value}:
  h.get? K=some {cls:=kc,dict:=kd,data:=.cls cd,slots:=sl}->h.Ns cd.ns mK->(∀n∈ns,mK n=none)->OwnT h bmB ns up->OwnT h bmB ns (.ref K::up)
variable{h:Heap}{h':Heap}{a:Addr}
theorem a5r{m:Str->Option Value}(k:∀b o,h.get? b=some o->h'.get? b=some o):h.Ns a m->h'.Ns a m
 |⟨o,es,ep,e,r⟩=>⟨o,es,ep,k _ _ e,r⟩
variable{bmB:List Value}{up:List Value}{ns:List Str}
theorem OwnT.tail(T:OwnT h bmB ns up)(hn:("__init__":Str)∈ns):OwnTail h bmB up:=by
 induction T with
 |base=>exact .base
 |own a b c _ ih=>exact .own a b (c _ hn) ih
theorem OwnT.has{X:String}{b:Bool}(T:OwnT h bmB ns up)(hb:bmB.contains (.type X)=b):up.contains (.type X)=b:=by
 induction T with
 |base=>exact hb
 |own _ _ _ _ ih=>rw[contains_cons,ih];rfl
structure ECl(h:Heap)(C N:Addr)(mN:Str->Option Value)(bm:List Value)(nid:String):Prop where
 obj:∃nm q bs sn sub ab col dd k0 k1 k2 k3 k5,h.get? C=some (excClassObj nm q C N bs bm true sn sub ab col dd k0 k1 k2 k3 k5 nid)
 names:h.Ns N mN
variable{N:Addr}{mN:Str->Option Value}{bm:List Value}{nid:String}
theorem ECl.keeps{C:Addr}(c:ECl h C N mN bm nid)(k:∀b o,h.get? b=some o->h'.get? b=some o):ECl h' C N mN bm nid:=by
 obtain⟨⟨a1,a2,a3,a4,a5,a6,a7,a8,b0,b1,b2,b3,b5,e⟩,n⟩:=c;exact⟨⟨a1,a2,a3,a4,a5,a6,a7,a8,b0,b1,b2,b3,b5,k _ _ e⟩,a5r k n⟩
abbrev a2T(C t:Addr):Obj:={cls:=.ref C,data:=.fields #[.ref t,.none,.none,.none,.bool false,.none]}
abbrev a8o(vs:List Value):Obj:={cls:=.type "tuple",data:=.seq vs.toArray}
variable{y:Option Value}
section
variable{M:Model}{A:Around}{E:Value->Shared->Prop}{g:Array GenState}{d:Drawn}{t:Nat}{os:OsState}{C:Addr}{B:String}{n:Str}
theorem b8d{Q:Option Value->Shared->Prop}(hn:n∈ns)(T:OwnT h bmB ns up)(hb:lookupAlong bmB n=pure y)(hq:Q y ⟨h,g,d,t,os⟩):wpAny M A (lookupAlong up n) Q E ⟨h,g,d,t,os⟩:=by
 induction T with
 |base=>rw[hb];exact wpAny_pure hq
 |own a b c _ ih=>
  rw[lookupAlong_cons];refine wpAny_bind (wpAny_classOwn_cls a b ?_)
  rw[c n hn];exact ih
theorem b0h{Q:Option Value->Shared->Prop}(c:ECl h C N mN bm nid)(hn:n∈ns)(T:OwnT h bmB ns bm)(hm:mroOf (.type B)=pure bmB)(hB:typeLookup (.type B) n=pure y){z:Option Value}(hz:(match mN n with|some v=>some v|none=>y)=z)
 (hq:Q z ⟨h,g,d,t,os⟩):wpAny M A (typeLookup (.ref C) n) Q E ⟨h,g,d,t,os⟩:=by
 obtain⟨⟨a1,a2,a3,a4,a5,a6,a7,a8,b0,b1,b2,b3,b5,e⟩,hN⟩:=c
 have hb:lookupAlong bmB n=pure y:=by rw[typeLookup_eq,hm] at hB;exact hB
 subst hz;rw[typeLookup_eq];refine wpAny_bind (wpAny_mroOf_exc e ?_)
 rw[lookupAlong_cons];refine wpAny_bind (wpAny_classOwn_exc e hN ?_)
 cases q:mN n with
 |none=>rw[q] at hq;exact b8d hn T hb hq
 |some v=>rw[q] at hq;exact wpAny_pure hq
end
section
variable{prog:Program}{w:World}{A:Around}{E:Value->Shared->Prop}{g:Array GenState}{d:Drawn}{t:Nat}{os:OsState}{C:Addr}{B iid:String}
theorem a8c(F:ExcBaseFacts B nid iid bmB)(c:ECl h C N mN bm nid)(T:OwnTail h bmB bm){vs:List Value}{e t0:Addr}{Q:Value->Shared->Prop}(he:h.get? e=some (a2T C t0))(hz:vs.length<=sizeLine)
 (k:∀h',(∀b o,b≠e->h.get? b=some o->h'.get? b=some o)->h'.get? e=some (a2T C h.objs.size)->h'.get? h.objs.size=some (a8o vs)->h'.objs.size=h.objs.size+1->Q .none ⟨h',g,d,t,os⟩):
 wpAny (model prog w) A (call (.builtin iid) (.ref e::vs)) Q E ⟨h,g,d,t,os⟩:=by
 obtain⟨⟨a1,a2,a3,a4,a5,a6,a7,a8,b0,b1,b2,b3,b5,eC⟩,hN⟩:=c
 have ne:e≠h.objs.size:=Nat.ne_of_lt (Heap.lt_size he)
 refine wpAny_call (codeAny_call_builtin F.init.plain F.initEntry (wpAny_check_init_subT F T eC he rfl ?_))
 wp_walk
 refine k _ (fun b o hb q=>?_) ?_ ?_ ?_
 · rw[Heap.get?_update_other _ _ (Ne.symm hb)];exact Heap.get?_push_of_some _ q
 · rw[Heap.get?_update_self _ (Heap.get?_push_of_some _ he) rfl];rfl
 · rw[Heap.get?_update_other _ _ ne];exact Heap.get?_push_at rfl rfl
 · simp[Heap.update,Heap.push]
theorem a7G(F:ExcBaseFacts B nid iid bmB)(c:ECl h C N mN bm nid)(T:OwnTail h bmB bm){vs:List Value}{Q:Fin->Shared->Prop}(hi:mN "__init__"=none)(hz:vs.length<=sizeLine)
 (k:∀h' t',(∀b o,h.get? b=some o->h'.get? b=some o)->h'.get? (h.objs.size+1)=some (a2T C t')->Q (.done (.ret (.ref (h.objs.size+1)))) ⟨h',g,d,t,os⟩):
 wpAny (model prog w) A (Builtin.«type.__call__» ⟨.ref C::vs,[]⟩) Q E ⟨h,g,d,t,os⟩:=by
 have c0:=c;obtain⟨⟨a1,a2,a3,a4,a5,a6,a7,a8,b0,b1,b2,b3,b5,e⟩,hN⟩:=c
 repeat (first
  |with_reducible refine wpAny_loadPart_at e ?_
  |with_reducible refine wpAny_madeBy_exc e ?_
  |wp_step)
 refine codeAny_call_builtin_code (Code.quiet_builtin _ F.quiet) (wpAny_check_new_subT F T e (codeAny_exc_new_subT F T e ?_ hz))
 generalize hh:(h.push (a8o vs)).push (a2T C h.objs.size)=h2
 have up:∀b o,h.get? b=some o->h2.get? b=some o:=fun b o q=>hh▸Heap.get?_push_of_some _ (Heap.get?_push_of_some _ q)
 have hx:h2.get? (h.objs.size+1)=some (a2T C h.objs.size):=by rw[←hh];heap_get
 have e2:=up _ _ e
 have self:(Value.ref C::bm).contains (.ref C)=true:=by simp
 show wpAny _ _ _ _ _ _
 unfold isInstance
 repeat (first
  |with_reducible refine wpAny_loadPart_at hx ?_
  |(with_reducible refine wpAny_isSubtype_exc e2 ?_;rw[self])
  |wp_step)
 show wpAny _ _ (typeLookup (.ref C) _) _ _ _
 refine wpAny_typeLookup_tail e2 (a5r up hN) (T.keeps up) F.mroIs F.init.lookup ?_
 rw[hi];refine wpAny_holding (wpAny_bind (wpAny_of_eq (F.init.bind _) ?_))
 refine wpAny_bind (a8c (vs:=vs) F (c0.keeps up) (T.keeps up) hx hz fun h' q1 q2 q3 q4=>?_)
 wp_walk
 exact k h' _ (fun b o q=>q1 b o (Nat.ne_of_lt (Nat.lt_succ_of_lt (Heap.lt_size q))) (up b o q)) q2
theorem made(F:ExcBaseFacts B nid iid bmB)(c:ECl h C N mN bm nid)(T:OwnTail h bmB bm){vs:List Value}{Q:Value->Shared->Prop}(hi:mN "__init__"=none)(hz:vs.length<=sizeLine)
 (k:∀h' t',(∀b o,h.get? b=some o->h'.get? b=some o)->h'.get? (h.objs.size+1)=some (a2T C t')->Q (.ref (h.objs.size+1)) ⟨h',g,d,t,os⟩):
 wpAny (model prog w) A (call (.ref C) vs) Q E ⟨h,g,d,t,os⟩:=by
 have c':=c
 obtain⟨⟨a1,a2,a3,a4,a5,a6,a7,a8,b0,b1,b2,b3,b5,e⟩,hN⟩:=c';have x1:=tc_lookup;have x2:=tc_bind (.ref C)
 have x3:(⟨h,g,d,t,os⟩:Shared).TypeIs (.ref C) "type":=⟨_,e,rfl⟩
 refine wpAny_call (codeAny_of_tree ?_)
 show wpAny _ _ (callAny (.ref C) _) _ _ _
 repeat (any_goals (first
  |assumption
  |with_reducible refine wpAny_loadPart_at e ?_
  |wp_step))
 exact⟨rfl,codeAny_call_builtin_at (Code.quiet_builtin _ (by decide+kernel)) entry_typeCall (wpAny_check_type_call_sub e (a7G F c T hi hz k))⟩
end
abbrev fr(l:List Env):List Addr:=l.filterMap (·.frame)
def Trc(h:Heap)(e C:Addr)(dx:Option Addr)(T:Addr)(fl:Value):Prop:=
 ∃oe vs oT ts,h.get? e=some oe/\oe.cls=.ref C/\oe.dict=dx/\oe.data=.fields vs/\vs[1]? =some (.ref T)/\T≠e/\h.get? T=some oT/\oT.data=.fields ts/\ts[3]? =some fl
structure Kp(l:List Env)(ch:List Addr)(h h':Heap):Prop where
 same:∀b o,b∉fr l->b∉ch->h.get? b=some o->h'.get? b=some o
 slot:∀b o,b∉ch->h.get? b=some o->∃sl,h'.get? b=some {o with slots:=sl}
variable{l:List Env}{ch:List Addr}
theorem Kp.trans{h1 h2:Heap}(x:Kp l ch h h1)(y:Kp l ch h1 h2):Kp l ch h h2:=
 ⟨fun b o n m e=>y.same b o n m (x.same b o n m e),fun b o m e=>by
  obtain⟨sl,e1⟩:=x.slot b o m e;obtain⟨sl',e2⟩:=y.slot b _ m e1;exact⟨sl',e2⟩⟩
theorem Kp.mono{ch':List Addr}(x:Kp l ch h h')(s:∀b∈ch,b∈ch'):Kp l ch' h h':=
 ⟨fun b o n m e=>x.same b o n (fun z=>m (s b z)) e,fun b o m e=>x.slot b o (fun z=>m (s b z)) e⟩
theorem Kp.upd(f:Obj->Obj):Kp l [a] h (h.update a f):=
 ⟨fun b o _ m e=>(Heap.get?_update_other _ _ (fun z=>m (by simp[z]))).trans e,fun b o m e=>⟨o.slots,(Heap.get?_update_other _ _ (fun z=>m (by simp[z]))).trans e⟩⟩
theorem Kp.frames{base:Heap}(x:Kp l ch h h')(nc:∀b∈ch,b∉fr l)(F:h.FunFrames base l):h'.FunFrames base l:=by
 have go:∀m:List Env,(∀b∈fr m,b∈fr l)->h.FunFrames base m->h'.FunFrames base m:=by
  intro m
  induction m with
  |nil=>exact fun _ _=>trivial
  |cons env r ih=>
   rintro hs ⟨hk,⟨L,o,hf,hn,ho,hd⟩,hr⟩
   have hL:L∈fr (env::r):=bB.mpr ⟨env,bj,hf⟩
   obtain⟨sl,e⟩:=x.slot L o (fun z=>nc L z (hs L hL)) ho
   refine⟨hk,⟨L,_,hf,hn,e,hd⟩,ih (fun b hb=>hs b ?_) hr⟩
   obtain⟨en,he,hfe⟩:=bB.mp hb;exact bB.mpr ⟨en,aE _ he,hfe⟩
 exact go l (fun _ h=>h) F
variable{oe:Obj}{vs:Array Value}{Q:Unit->Shared->Prop}{fl:Value}
section
variable{M:Model}{A:Around}{E:Value->Shared->Prop}{s:Shared}{base:Heap}{env:Env}{outer:List Env}{L e C:Addr}{dx:Option Addr}
theorem a0G(hl:s.heap.FunFrames base (env::outer))(he:s.heap.get? e=some oe)(hd:oe.data=.fields vs):e∉fr (env::outer):=fun z=>by
 obtain⟨_,o,ho,hn⟩:=hl.mem z;rw[he] at ho;cases ho;exact hn vs hd
theorem a6b{head:Value}{nx:Bool}(hfr:A.frames=some (env::outer))(hl:s.heap.FunFrames base (env::outer))(hf:env.frame=some L)(he:s.heap.get? e=some oe)(hd:oe.data=.fields vs)(hz:1<vs.size)(hc:oe.cls=.ref C)(hx:oe.dict=dx)
 (k:∀h' T,Kp (env::outer) [e] s.heap h'->s.heap.objs.size<=T->Trc h' e C dx T (rawInt L)->Q () {s with heap:=h'}):
 wpAny M A (do let a←frameOf env;let pl←entryPlaceOf L nx;let b←EntryCells.newEntry head a .none (rawInt L) .none pl;setField (.ref e) 1 b) Q E s:=by
 have ne:=a0G hl he hd;refine wpAny_bind (wpAny_frameOf_fun hfr hl hf fun h1 s1=>wpAny_bind (wpAny_entryPlaceOf fun pl ip=>?_))
 unfold EntryCells.newEntry newFields;refine wpAny_bind (wpAny_newObj_type ?_ (ip.sizeOk5 _ _ _ _ _))
 have e1:h1.get? e=some oe:=(s1.2.1 e ne).trans he
 generalize hT:({cls:=.type "traceback",dict:=none,data:=.fields ([head,.ref L,.none,rawInt L,.none]++(if pl.isEmpty then List.replicate 6 Value.none else pl)).toArray}:Obj)=oT
 have dT:oT.data=.fields ([head,.ref L,.none,rawInt L,.none]++(if pl.isEmpty then List.replicate 6 Value.none else pl)).toArray:=by rw[←hT]
 have fT:oT.isFreed=false:=by rw[←hT];rfl
 have e2:=Heap.get?_push_of_some oT e1
 have nT:h1.objs.size≠e:=Nat.ne_of_gt (Heap.lt_size e1)
 refine wpAny_setField e2 hd hz (k _ h1.objs.size ?_ (Nat.le_of_eq s1.1.symm) ?_)
 · refine⟨fun b o n m q=>?_,fun b o m q=>?_⟩
   · rw[Heap.get?_update_other _ _ (fun z=>m (by simp[z]))]
     exact Heap.get?_push_of_some _ ((s1.2.1 b n).trans q)
   · obtain⟨sl,q1⟩:=s1.2.2 b o q;refine⟨sl,?_⟩
     rw[Heap.get?_update_other _ _ (fun z=>m (by simp[z]))]
     exact Heap.get?_push_of_some _ q1
 · have d3:=Obj.data_mapFields hd (·.setIfInBounds 1 (Value.ref h1.objs.size))
   refine⟨_,_,oT,_,Heap.get?_update_self _ e2 (Obj.isFreed_of_fields d3),?_,?_,d3,by simp[hz],nT,?_,dT,?_⟩
   · rw[Obj.cls_mapFields];exact hc
   · obtain⟨q1,q2,q3,q4⟩:=oe;cases hd;exact hx
   · rw[Heap.get?_update_other _ _ (Ne.symm nT)]
     exact Heap.get?_push_size _ fT
   · first|(simp;done)|(rcases ip with rfl|⟨_,_,_,_,_,_,_,rfl⟩<;>simp)
theorem a6B{T:Addr}(t:Trc s.heap e C dx T fl)(k:∀h',(∀b o,b≠T->s.heap.get? b=some o->h'.get? b=some o)->(∃oT vs,s.heap.get? T=some oT/\oT.data=.fields vs)->Trc h' e C dx T .none->Q () {s with heap:=h'}):
 wpAny M A (setFlight (.ref e) none) Q E s:=by
 obtain⟨oe,vs,oT,ts,he,hc,hx,hd,h1,nT,hT,dT,h3⟩:=t
 have z3:3<ts.size:=(Array.getElem?_eq_some_iff.mp h3).1
 unfold setFlight;refine wpAny_bind (wpAny_field he hd h1 ?_)
 rw[ay (show(Value.ref T !=Value.none)=true from by simp)]
 have d4:=Obj.data_mapFields dT (·.setIfInBounds 3 ((none:Option Addr).elim Value.none fun f=>rawInt f))
 refine wpAny_setField hT dT z3 (k _ (fun b o hb q=>(Heap.get?_update_other _ _ (Ne.symm hb)).trans q) ⟨oT,ts,hT,dT⟩ ⟨oe,vs,_,_,(Heap.get?_update_other _ _ nT).trans he,hc,hx,hd,h1,nT,Heap.get?_update_self _ hT (Obj.isFreed_of_fields d4),d4,by simp[z3]⟩)
theorem b4D(hfr:A.frames=some (env::outer))(hl:s.heap.FunFrames base (env::outer))(hf:env.frame=some L)(he:s.heap.get? e=some oe)(hd:oe.data=.fields vs)(h1:vs[1]? =some .none)(hc:oe.cls=.ref C)(hx:oe.dict=dx)
 (k:∀h' T,Kp (env::outer) [e] s.heap h'->s.heap.objs.size<=T->Trc h' e C dx T .none->Q () {s with heap:=h'}):wpAny M A (leaving env (.ref e)) Q E s:=by
 unfold leaving noteFrame;simp only[hf];refine wpAny_bind (wpAny_bind (wpAny_field he hd h1 ?_))
 rw[az (by decide)]
 refine a6b hfr hl hf he hd (Array.getElem?_eq_some_iff.mp h1).1 hc hx fun h2 T k2 nT t2=>?_
 refine a6B t2 fun h3 k3 _ t3=>k h3 T ⟨fun b o n m q=>k3 b o ?_ (k2.same b o n m q),fun b o m q=>?_⟩ nT t3
 · exact fun z=>absurd (aC (Heap.lt_size q) nT) (by rw[z];exact aX _)
 · obtain⟨sl,q2⟩:=k2.slot b o m q;exact⟨sl,k3 b _ (fun z=>absurd (aC (Heap.lt_size q) nT) (by rw[z];exact aX _)) q2⟩
theorem b7d{T:Addr}(hfr:A.frames=some (env::outer))(hl:s.heap.FunFrames base (env::outer))(hf:env.frame=some L)(t:Trc s.heap e C dx T .none)
 (k:∀h' T',Kp (env::outer) [e,T] s.heap h'->s.heap.objs.size<=T'->Trc h' e C dx T' .none->Q () {s with heap:=h'}):
 wpAny M A (noteFrame (.ref e) env) (fun _ s'=>wpAny M A (setFlight (.ref e) none) Q E s') E s:=by
 obtain⟨oe,vs,oT,ts,he,hc,hx,hd,h1,nT,hT,dT,h3⟩:=t
 have z3:3<ts.size:=(Array.getElem?_eq_some_iff.mp h3).1
 have nfT:=a0G hl hT dT;unfold noteFrame;simp only[hf];refine wpAny_bind (wpAny_field he hd h1 ?_)
 rw[ay (show(Value.ref T !=Value.none)=true from by simp)]
 refine wpAny_bind (wpAny_field hT dT h3 ?_)
 rw[az (show¬((Value.none==rawInt L)=true) from by simp[rawInt])]
 refine wpAny_bind (wpAny_setField hT dT z3 ?_)
 generalize hu:s.heap.update T (Obj.mapFields (·.setIfInBounds 3 Value.none))=h2
 have k2:Kp (env::outer) [T] s.heap h2:=hu▸Kp.upd _
 have sz:h2.objs.size=s.heap.objs.size:=by rw[←hu];simp
 have e2:h2.get? e=some oe:=by rw[←hu];exact(Heap.get?_update_other _ _ nT).trans he
 have inT:∀b∈[T],b=T:=fun b hb=>by simpa using hb
 have inE:∀b∈[e],b=e:=fun b hb=>by simpa using hb
 have f2:h2.FunFrames base (env::outer):=k2.frames (fun b hb=>(inT b hb)▸nfT) hl
 refine a6b (s:={s with heap:=h2}) hfr f2 hf e2 hd (Array.getElem?_eq_some_iff.mp h1).1 hc hx fun h4 T' k4 nT' t4=>?_
 have k24:Kp (env::outer) [e,T] s.heap h4:=(k2.mono fun b hb=>by simp[inT b hb]).trans (k4.mono fun b hb=>by simp[inE b hb])
 have nT2:s.heap.objs.size<=T':=by have:=nT';rw[sz] at this;exact this
 refine a6B (s:={s with heap:=h4}) t4 fun h5 k5 _ t5=>k h5 T' ⟨fun b o n m q=>k5 b o ?_ (k24.same b o n m q),fun b o m q=>?_⟩ nT2 t5
 · exact fun z=>absurd (aC (Heap.lt_size q) nT2) (by rw[z];exact aX _)
 · obtain⟨sl,q2⟩:=k24.slot b o m q;exact⟨sl,k5 b _ (fun z=>absurd (aC (Heap.lt_size q) nT2) (by rw[z];exact aX _)) q2⟩
end
section
variable{prog:Program}{w:World}{A:Around}{E:Value->Shared->Prop}{s:Shared}{env:Env}{e C D:Addr}
theorem b4x{g:Array GenState}{d:Drawn}{tk:Nat}{os:OsState}{ND:Addr}{mD:Str->Option Value}{bmD:List Value}{nid':String}{Q:Bool->Shared->Prop}(c:ECl h C N mN bm nid)(cD:ECl h D ND mD bmD nid')(he:h.get? e=some oe)(hc:oe.cls=.ref C)
 (hb:bmD.contains (.type "BaseException")=true) (hm:(Value.ref C::bm).contains (.ref D)=true) (k:Q true ⟨h,g,d,tk,os⟩):wpAny (model prog w) A (excMatches (.ref e) (.ref D)) Q E ⟨h,g,d,tk,os⟩:=by
 obtain⟨⟨a1,a2,a3,a4,a5,a6,a7,a8,b0,b1,b2,b3,b5,eC⟩,hN⟩:=c;obtain⟨⟨c1,c2,c3,c4,c5,c6,c7,c8,d0,d1,d2,d3,d5,eD⟩,hND⟩:=cD;have x1:=tc_notTuple
 have base:(Value.ref D::bmD).contains (.type "BaseException")=true:=by rw[contains_cons,hb,Bool.or_true]
 unfold excMatches
 repeat (first
  |(with_reducible refine wpAny_loadPart_at he ?_;rw[hc])
  |with_reducible refine wpAny_loadPart_at eD ?_
  |(with_reducible refine wpAny_isSubtype_exc eD ?_;rw[base])
  |(with_reducible refine wpAny_isSubtype_exc eC ?_;rw[hm])
  |wp_step)
 exact k
theorem b5x{t:Expr}{n:Str}{b₀:Stmt}{suite:List Stmt}{pos:Pos}{i7:List ExceptHandler}{Q:Flow->Shared->Prop}
 (h:wpAny (model prog w) (A.mark (some (.ref e))) (eval t env) (fun c s1=>wpAny (model prog w) (A.mark (some (.ref e))) (excMatches (.ref e) c) (fun b s2=>b=true∧
  wpAny (model prog w) (A.mark (some (.ref e))) (setFlight (.ref e) none) (fun _ s3=>wpAny (model prog w) (A.mark (some (.ref e))) (storeName env n (.ref e)) (fun _ s4=>
   wpAny (model prog w) (A.mark (some (.ref e))) (execs (b₀::suite) env) (fun f s5=>wpAny (model prog w) A (do bindName env n .none;unbindBehindTheSuite env n pos) (fun _ s6=>Q f s6) E s5) (fun _ _=>False) s4) (fun _ _=>False) s3) (fun _ _=>False) s2) (fun _ _=>False) s1) (fun _ _=>False) s):
 wpAny (model prog w) A (handleBy (.ref e) env (.ExceptHandler (some t) (some n) (b₀::suite) pos::i7)) Q E s:=by
 have no:∀{A':Around} {α:Type} {m:Sem α} {P:α->Shared->Prop} {E':Value->Shared->Prop} {s:Shared},wpAny (model prog w) A' m P (fun _ _=>False) s->wpAny (model prog w) A' m P E' s:=
  fun z=>wpAny_mono z (fun _ _ q=>q) fun _ _ q=>q.elim
 refine wpAny_handleBy_cons (codeAny_handlers_test (no (wpAny_mono h (fun c s1 h1=>no (wpAny_mono h1 (fun b s2 h2=>?_) fun _ _ q=>q)) fun _ _ q=>q))) (by intro q;cases q)
 obtain⟨rfl,h2⟩:=h2;exact codeAny_handlers_suite_as (no (wpAny_mono h2 (fun _ s3 h3=>no (wpAny_mono h3 (fun _ s4 h4=>no (wpAny_mono h4 (fun f s5 h5=>h5) fun _ _ q=>q)) fun _ _ q=>q)) fun _ _ q=>q))
end
end L2X
namespace L2
open PySem PySem.Spec PyProof.Rows L2X
abbrev vbm:List Value:=[.type "ValueError",.type "Exception",.type "BaseException",.type "object"]
noncomputable def xns:List Str:=["__init__","__getattribute__","__getattr__","__class__"]
structure XC(K:PySem.W.Frag)(C N D ND:Addr):Prop where
 lC:∃nm q bs sn sub ab col dd k0 k1 k2 k3 k5,K.lookup C=some (excClassObj nm q C N bs (.ref D::vbm) true sn sub ab col dd k0 k1 k2 k3 k5 "ValueError.__new__")
 lD:∃nm q bs sn sub ab col dd k0 k1 k2 k3 k5,K.lookup D=some (excClassObj nm q D ND bs vbm true sn sub ab col dd k0 k1 k2 k3 k5 "ValueError.__new__")
 oC:PySem.W.nsOkIn K N=true
 oD:PySem.W.nsOkIn K ND=true
 nC:∀f∈xns,PySem.W.nsIn K N f=some none
 nD:∀f∈xns,PySem.W.nsIn K ND f=some none
 kC:PySem.W.keepIn K (.ref C)=true
section
variable{K:PySem.W.Frag}{C N D ND:Addr}{h:Heap}
theorem XC.nsC(x:XC K C N D ND)(X:K.In h):h.Ns N (h.nsMap N):=.of_isNs (PySem.W.isNs_of_in X x.oC)
theorem XC.nsD(x:XC K C N D ND)(X:K.In h):h.Ns ND (h.nsMap ND):=.of_isNs (PySem.W.isNs_of_in X x.oD)
theorem XC.clC(x:XC K C N D ND)(X:K.In h):ECl h C N (h.nsMap N) (.ref D::vbm) "ValueError.__new__":=by
 obtain⟨a1,a2,a3,a4,a5,a6,a7,a8,b0,b1,b2,b3,b5,e⟩:=x.lC;exact⟨⟨a1,a2,a3,a4,a5,a6,a7,a8,b0,b1,b2,b3,b5,X _ _ e⟩,x.nsC X⟩
theorem XC.clD(x:XC K C N D ND)(X:K.In h):ECl h D ND (h.nsMap ND) vbm "ValueError.__new__":=by
 obtain⟨a1,a2,a3,a4,a5,a6,a7,a8,b0,b1,b2,b3,b5,e⟩:=x.lD;exact⟨⟨a1,a2,a3,a4,a5,a6,a7,a8,b0,b1,b2,b3,b5,X _ _ e⟩,x.nsD X⟩
theorem XC.tl(x:XC K C N D ND)(X:K.In h):OwnT h vbm xns (.ref D::vbm):=by
 obtain⟨a1,a2,a3,a4,a5,a6,a7,a8,b0,b1,b2,b3,b5,e⟩:=x.lD;exact .own (X _ _ e) (x.nsD X) (fun f hf=>PySem.W.ns_none_of X (x.nsD X) (x.nD f hf)) .base
theorem XC.mn(x:XC K C N D ND)(X:K.In h):∀f∈xns,h.nsMap N f=none:=fun f hf=>PySem.W.ns_none_of X (x.nsC X) (x.nC f hf)
end
noncomputable def exO(a C t:Addr):HO:=.ext fun h=>h.get? a=some {cls:=.ref C,data:=.fields #[.ref t,.none,.none,.none,.bool false,.none]}
variable{P:Program}{w:World}{H:Hp}{h:Heap}{a:Addr}{C:Addr}
theorem b5e{t:Addr}(e:h.get? a=some {cls:=.ref C,data:=.fields #[.ref t,.none,.none,.none,.bool false,.none]}):x5 P w H h a (exO a C t):=
 ⟨e,⟨_,e⟩,fun _ _ q k=>k _ q⟩
theorem b0k{t:Addr}(ok:HOk P w H h)(e:H a=some (exO a C t)):h.get? a=some {cls:=.ref C,data:=.fields #[.ref t,.none,.none,.none,.bool false,.none]}:=(ok a _ e).1
variable{b:Addr}
theorem in1(h:b∈[a]):b=a:=by simpa using h
theorem in2{c:Addr}(h:b∈[a,c]):b=a∨b=c:=by simpa using h
section
variable{X:Cx}{N D ND:Addr}{x:Str}{p pos:Pos}{e:Expr}{es:List Expr}{t:TA}
def b8I(n0:Nat)(C:Addr)(t:TA):TE:=fun σ H Q=>t σ H fun vs H1=>vs.length<=1000/\∀a tt,H1 a=none->n0<=a->Q (.ref a) (upd H1 a (exO a C tt))
theorem b4f(xc:XC X.K C N D ND)(hg:Gl X x)(hm:X.mg x=some (.ref C))(ha:PA X (e::es) t)
 (hdb:(x==("__debug__":Str))=false:=by decide) (he:starEach (e::es) X.env=(false,eval e X.env)::starEach es X.env:=by rfl) (hpl:(backTo pos (starEach es X.env)).any (·.1)=false:=by rfl):
 PE X (.Call (.Name x p) (e::es) [] pos) (b8I X.s₀.heap.objs.size C t):=by
 intro pins s σ H Q I h;refine wpAny_Call_Name_kw (V7 I hg hm ?_ hdb)
 refine PySem.W.callWith_K (h₀:=X.base) I.ok.mod.kin xc.kC (thn (ha pos pins s σ H _ I h) fun us s1 ⟨vs,H1,I1,r,hz,q⟩=>⟨I1.kIn,?_⟩) he hpl
 have line:sizeLine=16777216:=sizeLine_eq
 have ln:=r.length;obtain⟨hp,g,d,tk,os⟩:=s1
 have KI:X.K.In hp:=I1.kIn
 refine made PySem.F.excBase_ValueError (xc.clC KI) ((xc.tl KI).tail (by simp[xns])) (xc.mn KI _ (by simp[xns])) (by rw[nil_append];omega) fun h' t' up e'=>?_
 exact⟨.ref (hp.objs.size+1),_,I1.laid (t':=tk) up (Nat.le_succ _) (b5e e'),rfl,q _ t' (I1.hok.fresh (Nat.le_succ _)) (aY I1.sz (Nat.le_succ _))⟩
end
noncomputable def X7(H:Hp)(a:Addr):Hp:=fun b=>if b=a then none else H b
theorem J7(h:b≠a):X7 H a b=H b:=by unfold X7;rw[az h]
theorem a2e:X7 H a a=none:=by unfold X7;rw[ay rfl]
def CXr(P:Program)(w:World):CXT:=fun outer H s E e s'=>∃a C T H',e=.ref a/\s'.os=s.os/\AllBare s'.gens/\Un (frs outer) [] H H' s.heap s'.heap/\HOk P w H' s'.heap/\Trc s'.heap a C none T .none∧
 s.heap.objs.size<=a/\s.heap.objs.size<=T/\H' a=none/\H' T=none/\E (.ref C) none H'
section
variable{M:Model}{A:Around}{Ex:Value->Shared->Prop}{s:Shared}{env:Env}
theorem b3J{x:Sem Value}{Q:Flow->Shared->Prop}(hh:A.handled=none)
 (h:wpAny M A x (fun v s1=>∃a tt N mN bm nid,v=.ref a/\ECl s1.heap C N mN bm nid/\bm.contains (.type "BaseException")=true/\s1.heap.get? a=some {cls:=.ref C,data:=.fields #[.ref tt,.none,.none,.none,.bool false,.none]}/\Ex (.ref a) s1) Ex s):wpAny M A (raiseStmt env (some x) none) Q Ex s:=by
 unfold raiseStmt;refine wpAny_bind (wpAny_mono h (fun v s1 h1=>?_) fun _ _ z=>z)
 obtain⟨a,tt,N,mN,bm,nid,rfl,⟨⟨a1,a2,a3,a4,a5,a6,a7,a8,b0,b1,b2,b3,b5,eC⟩,_⟩,hb,he,hE⟩:=h1
 have base:(Value.ref C::bm).contains (.type "BaseException")=true:=by rw[contains_cons,hb,Bool.or_true]
 obtain⟨hp,g,d,tk,os⟩:=s1
 repeat (first
  |with_reducible refine wpAny_loadPart_at he ?_
  |with_reducible refine wpAny_loadPart_at eC ?_
  |(with_reducible refine wpAny_isSubtype_exc eC ?_;rw[base])
  |wp_step)
 exact wpAny_raiseNew_none hh hE
end
section
variable{X:Cx}{N D ND:Addr}{e:Expr}{te:TE}{pos:Pos}
def b3z(te:TE)(R:Addr->Hp->Prop):TS:=fun _ σ H=>te σ H fun v H1=>∃a,v=.ref a/\R a H1
theorem a8R{R:Addr->Hp->Prop}(xc:XC X.K C N D ND)(hc:X.calm=true)(he:PE X e te)(hR:∀pins σ H s a,Inv X pins σ H s->R a H->(∃tt,H a=some (exO a C tt))/\X.xe (.ref a) s):PS X (.Raise (some e) none pos) (b3z te R):=by
 intro pins s σ H D' I h;rw[arm_exec_Raise];refine wpAny_bind (wpAny_standAt (b3J (C:=C) (I.ok.hd hc) (wpAny_bind (thn (he pins s σ H _ I h) fun v s1 ⟨x,H1,I1,r1,a,ea,q⟩=>wpAny_bind (wpAny_standAt (wpAny_pure ?_))))))
 subst ea;obtain rfl:v=Value.ref a:=r1;obtain⟨⟨tt,hH⟩,hx⟩:=hR pins σ H1 s1 a I1 q;exact⟨a,_,_,_,_,_,rfl,xc.clC I1.kIn,rfl,b0k I1.hok hH,hx⟩
end
noncomputable def exC(a C:Addr):HO:=.ext fun h=>∃vs sl,h.get? a=some {cls:=.ref C,dict:=none,data:=.fields vs,slots:=sl}
theorem b5f{vs:Array Value}{sl:Array (Option Value)}(e:h.get? a=some {cls:=.ref C,dict:=none,data:=.fields vs,slots:=sl}):x5 P w H h a (exC a C):=
 ⟨⟨vs,sl,e⟩,⟨_,e⟩,fun _ _ ⟨vs,sl,q⟩ k=>⟨vs,sl,k _ q⟩⟩
theorem a5Z(ok:HOk P w H h)(e:H a=some (exC a C)):∃vs sl,h.get? a=some {cls:=.ref C,dict:=none,data:=.fields vs,slots:=sl}:=(ok a _ e).1
abbrev Cx.marked(X:Cx)(a:Addr):Cx:={X with A:=X.A.mark (some (.ref a)),calm:=false,xe:=fun _ _=>False}
variable{o:HO}{i:Nat}{h':Heap}{m:Str->Option Value}
section
variable{X:Cx}{pins:List (Addr×Obj)}{σ:St}{s:Shared}
theorem Inv.marked(I:Inv X pins σ H s)(a:Addr):Inv (X.marked a) pins σ H s:=
 ⟨⟨I.ok.mod,I.ok.kind,I.ok.glob,I.ok.blt,I.ok.above,I.ok.inj,I.ok.has,I.ok.cab,fun h=>(bx h).elim,I.ok.frames,I.ok.stk,I.ok.exf,I.ok.bs,I.ok.bsz,I.ok.noex,I.ok.exfs,I.ok.funs,I.ok.frf⟩,
  I.os,I.bare,I.base,I.loc,I.cell,I.free,I.freeC,I.pin,I.hok,I.len⟩
theorem Inv.unmarked(ok:X.Ok)(I:Inv (X.marked a) pins σ H s):Inv X pins σ H s:=⟨ok,I.os,I.bare,I.base,I.loc,I.cell,I.free,I.freeC,I.pin,I.hok,I.len⟩
theorem Inv.track(I:Inv X pins σ H s)(hn:H a=none)(hs:X.s₀.heap.objs.size<=a)(hL:a≠X.env.locals)(hc:∀x c,X.env.cells.lookup x=some c->c≠a)(hp:∀p∈X.pn++pins,p.1≠a)(ok:x5 X.prog X.w (upd H a o) s.heap a o):Inv X pins σ (upd H a o) s:=by
 have nin:∀b u,X.s₀.heap.get? b=some u->b≠a:=fun b u e z=>absurd (aC (Heap.lt_size e) (by rw[z];exact hs)) (aX _)
 have up:∀b u,H b=some u->upd H a o b=some u:=fun b u e=>by rw[d9 (n5 e hn)];exact e
 refine⟨I.ok,I.os,I.bare,⟨I.base.keep,I.base.slot,fun b u e n hx=>by rw[d9 (nin b u e)];exact I.base.free b u e n hx,I.base.there,fun b xs e=>up b _ (I.base.tups b xs e),fun b u v e=>up b _ (I.base.frzs b u v e),fun b ps e=>?_⟩,
  I.loc,I.cell,by rw[d9 (Ne.symm hL)];exact I.free,fun x c e=>by rw[d9 (hc x c e)];exact I.freeC x c e,fun p h=>?_,fun b u e=>?_,I.len⟩
 · obtain⟨m,q⟩:=I.base.tbls b ps e;exact⟨m,up b _ q⟩
 · obtain⟨e1,e2,e3,e4,e5⟩:=I.pin p h;exact⟨e1,by rw[d9 (hp p h)];exact e2,e3,e4,e5⟩
 · by_cases hb:b=a
   · subst hb;rw[d8] at e;cases e;exact ok
   · rw[d9 hb] at e;exact(I.hok b u e).stay (fun c v _ q=>q) (fun c q=>up c _ q) fun c xs q=>up c _ q
theorem Inv.goes{n:Str}{v:Option Value}{t':Nat}(I:Inv X pins σ H s)(hN:X.N.Nodup)(hi:X.N[i]? =some n)(hk:X.env.scope.names.lookup n=some .local)
 (hl:∀(j:Nat) (y:Str) (w:V),X.N[j]? =some y->σ[j]? =some (some w)->Vis X.env.scope y->∃u,l8 w u/\b8x X.env s.heap m y u)
    (hn:h'.Ns X.env.locals (fun x=>if x=n then v else m x)) (hs:Heap.SameBut X.env.locals s.heap h'):Inv X pins (σ.set i none) H {s with heap:=h',toks:=t'}:=by
  have neL:∀b u,X.s₀.heap.get? b=some u->b≠X.env.locals:=fun b u e=>Nat.ne_of_lt (aC (Heap.lt_size e) I.ok.above)
  refine⟨I.ok,I.os,I.bare,⟨fun b o e n hb hx=>(hs.2 b (neL b o e)).trans (I.base.keep b o e n hb hx),fun b o e n hb hx=>?_,I.base.free,fun b o e hx=>?_,I.base.tups,I.base.frzs,I.base.tbls⟩,
    ⟨_,hn,fun j y w e1 e2 e3=>?_⟩,fun y c e=>?_,I.free,I.freeC,fun p hp=>?_,I.hok.sameBut I.free hs,by rw[aU];exact I.len⟩
  · obtain⟨sl,q⟩:=I.base.slot b o e n hb hx;exact⟨sl,(hs.2 b (neL b o e)).trans q⟩
  · obtain⟨o',q⟩:=I.base.there b o e hx;exact⟨o',(hs.2 b (neL b o e)).trans q⟩
  · have ne:i≠j:=fun z=>by
      subst z
      have hiσ:i<σ.length:=by rw[I.len];exact(ac.mp hi).1
      rw[List.getElem?_set_self hiσ] at e2
      cases e2
    rw[List.getElem?_set_ne ne] at e2
    obtain⟨u,r,q⟩:=hl j y w e1 e2 e3;refine⟨u,r,?_⟩
    rcases q with⟨k,e⟩|⟨k,c,e,z⟩
    · have:y≠n:=fun z=>ne (a1M hN hi (z▸e1))
      exact .inl ⟨k,by simp[this,e]⟩
    · exact .inr ⟨k,c,e,z.sameBut hs (I.cne y c e)⟩
  · obtain⟨w',z⟩:=I.cell y c e;exact⟨w',z.sameBut hs (I.cne y c e)⟩
  · obtain⟨e,n,ne,nf,d⟩:=I.pin p hp;exact⟨(hs.2 p.1 ne).trans e,n,ne,nf,d⟩
end
section
variable{X:Cx}{k i0:Nat}{D f:Addr}{fd:FuncData}{ps:List Str}{sp:Sp}{x n hx x0:Str}{p p0 ep cp hp0 hpos pos:Pos}{e:Expr}{es:List Expr}{t:TA}{b₀:Stmt}{suite:List Stmt}{ts:TS}
def b8y(K:PySem.W.Frag)(n0 i i0:Nat)(D:Addr)(sp:Sp)(t:TA)(ts:TS):TS:=fun Dn σ H=>t σ H fun vs H1=>sp vs H1 (fun v H2=>Dn.nx (σ.set i0 (some v)) H2) (fun cls dxo H2=>∃C N ND,cls=.ref C/\dxo=none/\XC K C N D ND∧
 ∀a,H2 a=none->n0<=a->ts {nx:=fun σ3 H3=>Dn.nx (σ3.set i none) H3,rt:=fun _ _=>False} (σ.set i (some (.ref a))) (upd H2 a (exC a C)))
theorem b3P(F:FnOk X.prog X.w X.K X.mg X.base (CXr X.prog X.w) k f fd ps sp)(hr:Room k X.A)(hg:Gl X x)(hm:X.mg x=some (.ref f))(hkp:PySem.W.keepIn X.K (.ref f)=true)(hb:M1 X.K fd ps [])(ha:PA X.nox (e::es) t)
 (hgD:Gl X hx) (hmD:X.mg hx=some (.ref D)) (hst:X.stack=X.env::X.outer) (hfr:X.env.frame=some X.env.locals) (hN:X.N.Nodup) (hi:X.N[i]? =some n) (hl:X.env.scope.names.lookup n=some .local) (hi0:X.N[i0]? =some x0) (hl0:X.env.scope.names.lookup x0=some .local) (hsu:∀a,PSs (X.marked a) (b₀::suite) ts)
 (hsw:swapsWith (.Call (.Name x p) (e::es) [] cp) (some (.Name x0 p0)) ep.line X.env=pure false:=by rfl) (hdb:(x==("__debug__":Str))=false:=by decide) (hdb2:(hx==("__debug__":Str))=false:=by decide)
 (he:starEach (e::es) X.env=(false,eval e X.env)::starEach es X.env:=by rfl) (hpl:(backTo cp (starEach es X.env)).any (·.1)=false:=by rfl):
 PS X (.Try [.Assign [.Name x0 p0] (.Call (.Name x p) (e::es) [] cp) ep] [.ExceptHandler (some (.Name hx hp0)) (some n) (b₀::suite) hpos] [] [] pos) (b8y X.K X.s₀.heap.objs.size i i0 D sp t ts):=by
 intro pins s σ H Dn I h;refine wpAny_Try_except (wpAny_execs_cons (wpAny_Assign_Name ?_ hsw))
 refine wpAny_Call_Name_kw (V7 I hg hm ?_ hdb)
 refine PySem.W.callWith_K (h₀:=X.base) I.ok.mod.kin hkp (wpAny_mono (ha cp pins s σ H _ (I.wish _) h) (fun us s1 ⟨vs,H1,I0,r,q⟩=>⟨I0.kIn,?_⟩) (fun _ _ z=>z.elim)) he hpl
 have I1:Inv X pins σ H1 s1:=I0.unwish
 have hln:(us++[]).length=ps.length:=by rw[bn,←r.length];exact F.len _ _ _ _ q
 refine wpAny_call (codeAny_mono (F.run X.A X.stack s1 H1 ⟨us,[]⟩ us vs _ _ hr I1.env0 (by simpa using hb s1 us I1.kIn hln) r q) fun res s2 hq=>?_)
 cases res with
 | ok fl=>
  cases fl with
  |ret u=>
   obtain⟨v,H2,I2,rv,q2⟩:=I1.after hq;exact a1E (i:=i0) (v:=v) I2 hN hi0 (.inl hl0) rv (fun s5 I5=>wpAny_execs_nil (wpAny_execs_nil ⟨_,H2,I5,q2⟩)) (.inr hl0)
  |next=>exact False.elim hq
  |brk=>exact False.elim hq
  |cont=>exact False.elim hq
 | error ev=>
  obtain⟨a,C,T,H2,rfl,os,bare,un,hok,trc,sa,sT,na,nT,C',N,ND,ec,ed,xc,qs⟩:=hq;cases ec
  have I2:Inv X pins σ H2 s2:=I1.call' (ch:=[]) os un hok bare fun b z=>absurd z (by simp)
  have big:∀b,s1.heap.objs.size<=b->X.s₀.heap.objs.size<=b/\b≠X.env.locals/\(∀y c,X.env.cells.lookup y=some c->c≠b)/\∀p∈X.pn++pins,p.1≠b:=fun b hb=>
   ⟨aY I1.sz hb,Nat.ne_of_gt (aC I1.lt hb),fun y c e z=>by
    obtain⟨v,q⟩:=I1.cell y c e;exact absurd (aC q.lt (by rw[z];exact hb)) (aX _),fun p hp z=>absurd (aC (Heap.lt_size (I1.pin p hp).1) (by rw[z];exact hb)) (aX _)⟩
  have frm:X.A.frames=some (X.env::X.outer):=by rw[←hst];exact I2.ok.frames
  have fun2:s2.heap.FunFrames X.base (X.env::X.outer):=by rw[←hst];exact I2.stack
  refine b7d frm fun2 hfr trc fun h3 T' kp sT' trc3=>?_
  have nfr:∀b o,H2 b=some o->b∉fr (X.env::X.outer):=fun b o e z=>by
   have:=I2.stkFree b (by rw[hst];exact z)
   rw[e] at this;cases this
  have nch:∀b o,H2 b=some o->b∉[a,T]:=fun b o e z=>by
   rcases in2 z with q|q
   · rw[q,na] at e;cases e
   · rw[q,nT] at e;cases e
  have ok3:HOk X.prog X.w H2 h3:=fun b o e=>(I2.hok b o e).stay (fun c v hc z=>by
   rcases hc with y|y
   · rw[y] at z⊢;exact kp.same b v (nfr b o e) (nch b o e) z
   · exact kp.same c v (nfr c _ y) (nch c _ y) z) (fun _ z=>z) fun _ _ z=>z
  have I3:Inv X pins σ H2 {s2 with heap:=h3}:=I2.call' (s':={s2 with heap:=h3}) (ch:=[a,T]) rfl
   ⟨fun b o e n hb hc=>kp.same b o (by rw[←hst];exact hb) hc e,fun b o e n hb hc=>kp.slot b o hc e,fun b o e n _=>n,fun b o e hc=>by obtain⟨sl,z⟩:=kp.slot b o hc e;exact⟨_,z⟩,fun _ _ z=>z,fun _ _ _ z=>z,fun b ps z=>⟨#[],by rw[z];simp⟩⟩ ok3 I2.bare
   fun b hb=>by
    have hb':s1.heap.objs.size<=b:=by rcases in2 hb with q|q<;>rw[q]<;>assumption
    obtain⟨x1,x2,x3,x4⟩:=big b hb';exact⟨.inr x1,x2,x3,x4⟩
  obtain⟨x1,x2,x3,x4⟩:=big a sa;refine b5x (V7 (I3.marked a) hgD hmD ?_ hdb2)
  obtain⟨oe,ws,oT,ts',he3,hc3,hx3,hd3,rest3⟩:=id trc3;refine b4x (h:=h3) (xc.clC I3.kIn) (xc.clD I3.kIn) he3 hc3 rfl (by simp) ⟨rfl,?_⟩
  refine a6B (s:={s2 with heap:=h3}) trc3 fun h4 k4 _ trc4=>?_
  have fT':∀b∈[T'],a0c X pins H2 b:=fun b hb=>by
   rw[in1 hb];exact I2.fpOk sT' (I2.hok.fresh sT')
  have I4:Inv X pins σ H2 {s2 with heap:=h4}:=I3.turnedF (t':=s2.toks) fT' fun b u hb z=>k4 b u (fun q=>hb (by simp[q])) z
  refine V2 (i:=i) (v:=.ref a) I4 hN hi (.inl hl) rfl (fun s5 I5 ⟨b,sb,eb⟩=>?_) (.inr hl)
  have hba:a≠b:=fun z=>by
   rcases eb with q|q
   · exact x2 (z.trans q)
   · rw[show X.env.scope.names.lookup n=some .local from hl] at*
     exact x3 n b q z.symm
  obtain⟨oe,ws,oT,ts',he4,hc4,hx4,hd4,_⟩:=id trc4
  have he5:s5.heap.get? a=some oe:=(sb.2 a hba).trans he4
  have I6:Inv X pins (σ.set i (some (.ref a))) (upd H2 a (exC a C)) s5:=I5.track na x1 x2 x3 x4 (by
   obtain⟨q1,q2,q3,q4⟩:=oe;cases hc4;cases hx4;cases hd4;exact b5f he5)
  refine thn (hsu a pins s5 _ _ _ (I6.marked a) (qs a na x1)) fun fl s6 q6=>?_
  cases fl with
  |next=>
   obtain⟨σ6,H6,I7,q7⟩:=q6
   have I8:Inv X pins σ6 H6 s6:=Inv.unmarked I.ok I7
   obtain⟨m,hm6,hl6⟩:=id I8.loc;exact wpAny_nameGoes_keeps hl hm6 (by rw[I8.ok.kind];rfl) fun h' v hn' hs'=>⟨_,H6,I8.goes hN hi hl hl6 hn' hs',q7⟩
  |ret v=>obtain⟨_,_,_,_,_,z⟩:=q6;exact z.elim
  |brk=>obtain⟨_,_,_,z⟩:=q6;exact z.elim
  |cont=>obtain⟨_,_,_,z⟩:=q6;exact z.elim
end
end L2
namespace L2X
open PySem
open Sem (wp)
theorem a8k:typeLookup (.type "ValueError") "__class__"=pure (some (.builtin "object.__class__")):=by rw[typeLookup_type,builtinLookup_eq_fast];kernel_rfl
theorem b1T:typeOf (.builtin "object.__class__")=pure (.type "getset_descriptor"):=by kernel_rfl
theorem b0R:ExcAttrBase "ValueError" [.type "ValueError",.type "Exception",.type "BaseException",.type "object"] where
 ga:=.of (owner:="BaseException") (n:="__getattribute__") (by rw[typeLookup_type,builtinLookup_eq_fast];kernel_rfl) (by decide+kernel) (by decide+kernel) (by decide+kernel)
  (by first|exact .inl (by decide+kernel)|exact .inr (by decide+kernel)) (by rw[isSubtype_type];kernel_rfl)
 lkArgs:=by rw[typeLookup_type,builtinLookup_eq_fast];kernel_rfl
 sub:=by rw[isSubtype_type];kernel_rfl
 mro:=by kernel_rfl
 noGetattr:=by rw[typeLookup_type,builtinLookup_eq_fast];kernel_rfl
 hasBase:=by decide+kernel
section
variable{prog:Program}{w:World}{A:Around}{E:Value->Shared->Prop}{h:Heap}{g:Array GenState}{d:Drawn}{t:Nat}{os:OsState}{C N:Addr}{mN:Str->Option Value}{bm bmB:List Value}{nid:String}{ns:List Str}
theorem a7S(FB:ExcAttrBase "ValueError" bmB)(c:ECl h C N mN bm nid)(T:OwnT h bmB ns bm){x:Addr}{o:Obj}{Q:Option Value->Shared->Prop}(h1:("__getattribute__":Str)∈ns)(h2:("__class__":Str)∈ns)(h3:("__getattr__":Str)∈ns)
 (m1:mN "__getattribute__"=none) (m2:mN "__class__"=none) (m3:mN "__getattr__"=none) (hx:h.get? x=some o) (hc:o.cls=.ref C)
 (kg:∀(A':Around) (t':Nat) (R:Result->Shared->Prop),R (.ok (.ret (.ref C))) ⟨h,g,d,t',os⟩->codeAny (model prog w) A' (.call (.builtin "getset_descriptor.__get__") ⟨[.builtin "object.__class__",.ref x,.ref C],[]⟩) R ⟨h,g,d,t',os⟩)
 (k:Q (some (.ref C)) ⟨h,g,d,t+1,os⟩):wpAny (model prog w) A (getAttr? (.ref x) "__class__") Q E ⟨h,g,d,t,os⟩:=by
 have c':=c
 obtain⟨⟨a1,a2,a3,a4,a5,a6,a7,a8,b0,b1,b2,b3,b5,eC⟩,hN⟩:=c';have x1:=FB.ga.bind (.ref x)
 have nb:(Value.builtin "BaseException.__getattribute__"==Value.builtin "object.__getattribute__")=false:=by decide+kernel
 have y1:(onTheHeap (Value.ref C)&&Value.builtin "BaseException.__getattribute__"==Value.builtin "object.__getattribute__")=false:=by rw[nb];rfl
 unfold getAttr? getAttrBy? getAttrBy
 repeat (any_goals (first
  |assumption
  |(with_reducible refine wpAny_loadPart_at hx ?_;rw[hc])
  |with_reducible refine b0h c h1 T FB.mro FB.ga.lookup (z:=some (.builtin "BaseException.__getattribute__")) (by rw[m1]) ?_
  |with_reducible refine b0h c h3 T FB.mro FB.noGetattr (z:=none) (by rw[m3]) ?_
  |wp_step))
 refine codeAny_call_builtin FB.ga.plain F.entry_bexc_ga ?_
 have kd:builtinKind "BaseException.__getattribute__"=some .slot:=by decide+kernel
 have sp:splitId "BaseException.__getattribute__"=some ("BaseException","__getattribute__"):=by decide+kernel
 have own:(Value.ref C::bm).contains (.type "BaseException")=true:=by rw[contains_cons,T.has FB.hasBase,Bool.or_true]
 have ok:=F.args_bexc_ga (.ref x) (.str "__class__" t);simp only[checkBuiltinCall,kd,sp];refine wpAny_bind ?_
 unfold isInstance
 repeat (first
  |(with_reducible refine wpAny_loadPart_at hx ?_;rw[hc])
  |(with_reducible refine wpAny_isSubtype_exc eC ?_;rw[own])
  |wp_step)
 have f5:=b1T;have f6:=F.slot_gs_get.lookup;have f7:=F.slot_gs_set.lookup
 repeat (any_goals (first
  |assumption
  |with_reducible refine b0h c h2 T FB.mro a8k (z:=some (.builtin "object.__class__")) (by rw[m2]) ?_
  |(with_reducible refine wpAny_loadPart_at hx ?_;rw[hc])
  |wp_step))
 refine kg _ _ _ (wpAny_pure ?_)
 show wpAny _ _ (handedOut (.ref C)) _ _ _
 exact PySem.W.handed_on rfl (wpAny_pure k)
end
end L2X
namespace L2
open PySem PySem.Spec PyProof.Rows L2X
variable{a:Addr}
section
variable{K:PySem.W.Frag}{C N D ND:Addr}
theorem a1W(xc:XC K C N D ND)(hm:PySem.W.mroIn K C (.type "object")=some true):PySem.W.KitX K (.ref a) (.ref C) (fun h=>∃vs sl,h.get? a=some {cls:=.ref C,dict:=none,data:=.fields vs,slots:=sl}) where
 ty:=fun M h X ⟨vs,sl,e⟩=>by
  have I:PySem.W.InstAt h a {cls:=.ref C,dict:=none,data:=.fields vs,slots:=sl} C none:=⟨e,rfl,rfl,trivial⟩
  exact I.type
 it:=fun M h X _=>by
  obtain⟨a1,a2,a3,a4,a5,a6,a7,a8,b0,b1,b2,b3,b5,e⟩:=xc.lC;intro A' Q' E' s' k q;unfold isType loadHead;exact wpAny_bind (wpAny_loadPart (k _ _ (X _ _ e)) (wpAny_pure q))
 ne:=fun h tp dd its n sl X htp=>by
  obtain⟨a1,a2,a3,a4,a5,a6,a7,a8,b0,b1,b2,b3,b5,e⟩:=xc.lC;refine Bool.eq_false_iff.mpr fun q=>?_
  have e':C=tp:=Value.ref.inj (beq_iff_eq.mp q)
  subst e';have z:=congrArg Obj.cls (ax ((X _ _ e).symm.trans htp));exact absurd (Value.type.inj z) (by decide)
 ca:=fun{prog w A E Q s} X ⟨vs,sl,e⟩ k=>by
  have I:PySem.W.InstAt s.heap a {cls:=.ref C,dict:=none,data:=.fields vs,slots:=sl} C none:=⟨e,rfl,rfl,trivial⟩
  obtain⟨hp,g,d,tk,os⟩:=s
  exact a7S b0R (xc.clC X) (xc.tl X) (by simp[xns]) (by simp[xns]) (by simp[xns]) (xc.mn X _ (by simp[xns])) (xc.mn X _ (by simp[xns])) (xc.mn X _ (by simp[xns])) e rfl
   (fun A' t' R q=>PySem.W.class_get (s:=⟨hp,g,d,t',os⟩) X I hm q) k
end
section
variable{X:Cx}{C N D ND:Addr}
def b8U(K:PySem.W.Frag)(C:Addr):List V->Hp->VK->Prop:=fun xs H Q=>∃a c b,xs=[.ref a,c]/\H a=some (exC a C)∧
 ((∃B,c=.ref B/\PySem.W.kitOne K (.ref C) (.ref B)=some b)∨(∃T,c=.ty T/\PySem.W.kitOne K (.ref C) (.type T)=some b)∨
  ∃(tp:Addr) (ds:List Addr),c=.ref tp/\H tp=some (.tup (ds.map V.ref))/\PySem.W.kitAny K (.ref C) (ds.map Value.ref)=some b)/\Q (.bl b) H
theorem a2I:∀{ds:List Addr} {us:List Value},l7 (ds.map V.ref) us->us=ds.map Value.ref
 |[],us,r=>by
  rw[map_nil] at r;cases r;rfl
 | b::bs,us,r=>by
  rw[map_cons] at r
  cases r with
  |cons r1 r2=>
   cases r1;rw[a2I r2];rfl
theorem a5k(xc:XC X.K C N D ND)(hm:PySem.W.mroIn X.K C (.type "object")=some true):D5 X (.builtin "isinstance") (b8U X.K C):=by
 intro pins s σ H xs us Q I r h;obtain⟨a,c,b,rfl,ha,hc,q⟩:=h;obtain⟨u1,u2,rfl,ru1,ru2⟩:=a2A r;cases ru1
 have fin:∀tk,EP X pins σ Q (.bool b) {s with toks:=tk}:=fun tk=>⟨.bl b,H,I.tok _,rfl,q⟩
 rcases hc with⟨B,rfl,e⟩|⟨T,rfl,e⟩|⟨tp,ds,rfl,ht,e⟩
 · cases ru2;exact PySem.W.kia_one (a1W xc hm (a:=a)) I.kIn (a5Z I.hok ha) e (fun z=>nomatch z) fin
 · cases ru2;exact PySem.W.kia_one (a1W xc hm (a:=a)) I.kIn (a5Z I.hok ha) e (fun z=>nomatch z) fin
 · cases ru2;obtain⟨_,its,rv,o,e1,e2,_,n,e3⟩:=I.hok tp _ ht;rw[a2I rv] at e3;obtain⟨q1,q2,q3,q4⟩:=o;cases e2;cases e3;exact PySem.W.kia_tup (a1W xc hm (a:=a)) I.kIn (a5Z I.hok ha) e1 e (fun z=>nomatch z) fin
def b8T(K:PySem.W.Frag):List V->Hp->VK->Prop:=fun xs H Q=>∃x T t b,xs=[x,.ty T]/\TyOf K H x t/\PySem.W.kitOne K t (.type T)=some b/\Q (.bl b) H
theorem a0z:D5 X (.builtin "isinstance") (b8T X.K):=by
 intro pins s σ H xs us Q I r h;obtain⟨x,T,t,b,rfl,ty,e,q⟩:=h;obtain⟨u1,u2,rfl,ru1,ru2⟩:=a2A r;cases ru2;exact a7M I ru1 ty e fun tk=>⟨.bl b,H,I.tok _,rfl,q⟩
end
open PySem PySem.Spec PyProof.Rows
def b6j:TT:=fun _ H Q=>Q true H
variable{X:Cx}
theorem b3U:a4p X [] b6j:=b1y
noncomputable def b5v(sc scope:Scope)(own frees:List Str):Bool:=
 decide (scope.kind=.function)&&scope.names.all (fun y=>decide (y.2≠.cell))&&scope.names.all (fun y=>decide (y.2=.local->scope.names.lookup y.1=some .local))&&
 scope.names.all (fun y=>decide (y.2=.free->sc.names.lookup y.1=some .cell))&&decide ((own++frees).Nodup)&&own.all (fun x=>decide (scope.names.lookup x=some .local))&&frees.all (fun x=>decide (scope.names.lookup x=some .free))
variable{sc:Scope}{scope:Scope}
theorem b7L{own frees:List Str}(h:b5v sc scope own frees=true):CompScope sc scope own frees:=by
 unfold b5v at h;simp only[ae,bD,bv] at h;obtain⟨⟨⟨⟨⟨⟨a,b⟩,c⟩,d⟩,e⟩,f⟩,g⟩:=h;exact⟨a,b,c,d,e,f,g⟩
variable{pins:List (Addr×Obj)}{σ:St}{H:Hp}{s:Shared}{i:Nat}{x:Str}{pos':Pos}{spos:Pos}
section
variable{elt iter tg:Expr}{ifs:List Expr}{pos:Pos}{own frees:List Str}{js:List Nat}{wi:TI}{g:TG}{tc:TT}{te:TE}
theorem W3{XE:Addr->Shared->Hp->List Addr->Value->Shared->Prop}{Q:VK}{RR:Value->Addr->Result->Shared->Prop}(hcalm:X.calm=true)(hi:PI X tg iter wi)(S:CompScope X.env.scope scope own frees)(hj:frees.map some=js.map (X.N[·]?))
 (hg:∀C s₀ H₀ ex,PG (B8 X own frees scope C s₀ H₀ ex (XE C s₀ H₀ ex)) tg g) (hc:∀C s₀ H₀ ex,a4p (B8 X own frees scope C s₀ H₀ ex (XE C s₀ H₀ ex)) ifs tc) (he:∀C s₀ H₀ ex,PE (B8 X own frees scope C s₀ H₀ ex (XE C s₀ H₀ ex)) elt te)
 (I:Inv X pins σ H s) (h:a1B own js wi g tc te σ H Q)
 (fin:∀D C s5 H4 m5,Inv X pins σ H4 s5->s5.heap.Ns C m5->H4 C=none->X.s₀.heap.objs.size<=C->C≠X.env.locals->(∀x c,X.env.cells.lookup x=some c->c≠C)->(∀p∈X.pn++pins,p.1≠C)->Q (.ref D) H4->RR (.ref D) C (.ok .next) s5)
 (bad:∀D C s₂ H₂ fp e s',Inv X pins σ H₂ s₂->(∀b∈fp,a0c X pins H₂ b)->s₂.heap.objs.size<=C->XE C s₂ H₂ fp e s'->notedBy (model X.prog X.w) X.A (compEnvC scope (C1 X.env.cells scope.names []) C X.env) (fun x s'=>RR (.ref D) C (.error x) s') e s'):
 wpAny (model X.prog X.w) X.A (eval iter X.env) (fun v s1=>wpAny (model X.prog X.w) X.A (pyIter v) (fun it s2=>wpAny (model X.prog X.w) X.A (newList []) (fun acc s3=>
  wpAny (model X.prog X.w) X.A (newFunctionEnv scope X.env.globals (C1 X.env.cells scope.names []) [] X.env.qual none .none (some X.env)) (fun cenv s4=>
   codeAny (model X.prog X.w) X.A (.compStart (.ListComp elt [⟨tg,iter,ifs,0⟩] scope pos) 0 it acc {cenv with scope:=relabel scope X.env}) (RR acc cenv.locals) s4) X.xe s3) X.xe s2) X.xe s1) X.xe s:=by
 refine thn (hi pins s σ H _ I h) fun v s1 h1=>thn h1 fun itv s2 h2=>?_
 obtain⟨it,fp,tn,J,H2,e,I2,T,st2,f2,R2⟩:=h2;subst e
 have hD:H2 s2.heap.objs.size=none:=I2.hok.fresh (ai _)
 obtain⟨W,⟨m0,w0⟩,turn⟩:=R2 s2.heap.objs.size hD
 have hcells:∀x c,X.env.cells.lookup x=some c->c<s2.heap.objs.size:=fun x c e=>by obtain⟨v,z⟩:=I2.cell x c e;exact z.lt
 refine wpAny_newObj_type (wpAny_newFunctionEnv S.nocell (by intro y hy;simp at hy) (fun h₁ hns₁ hsb₁=>?_) S.kind)
 dsimp only at hns₁ hsb₁⊢
 generalize hHH:s2.heap.push {cls:=.type "list",dict:=none,data:=.seq ([]:List Value).toArray}=HH at hns₁ hsb₁⊢
 have hC:HH.objs.size=s2.heap.objs.size+1:=by rw[←hHH,Heap.size_push]
 have hCle:s2.heap.objs.size<=HH.objs.size:=by rw[hC];exact Nat.le_succ _
 have hDC:s2.heap.objs.size≠HH.objs.size:=by rw[hC];exact Nat.ne_of_lt (ba _)
 have neC:∀b,b<s2.heap.objs.size->b≠HH.objs.size:=fun b hb=>by rw[hC];exact Nat.ne_of_lt (Nat.lt_succ_of_lt hb)
 have old:∀b o,s2.heap.get? b=some o->h₁.get? b=some o:=fun b o e=>hsb₁.extBut b o (neC b (Heap.lt_size e)) (Heap.get?_push_of_some _ (hHH▸Heap.get?_push_of_some _ e))
 have accAt:h₁.get? s2.heap.objs.size=some {cls:=.type "list",dict:=none,data:=.seq ([]:List Value).toArray}:=hsb₁.extBut _ _ hDC (Heap.get?_push_of_some _ (hHH▸Heap.get?_push_size _ rfl))
 have hfo:∀b∈fp,∃o,s2.heap.get? b=some o:=fun b hb=>let⟨o,e,_⟩:=T.obj _ _ st2 b hb;⟨o,e⟩
 have hnD:∀b,b<s2.heap.objs.size->upd H2 s2.heap.objs.size (.lst []) b=H2 b:=fun b hb=>d9 (Nat.ne_of_lt hb)
 have hok1:HOk X.prog X.w (upd H2 s2.heap.objs.size (.lst [])) h₁:=I2.hok.laid old (ai _) ⟨Nat.zero_le _,[],0,.nil,accAt⟩
 have I3:∀s3:Shared,s3={s2 with heap:=h₁,toks:=s2.toks+([]:List (Str×Value)).length}->Inv (B8 X own frees scope HH.objs.size s2 H2 fp (XE HH.objs.size s2 H2 fp)) [] (A8 own js σ) (upd H2 s2.heap.objs.size (.lst [])) s3:=by
  rintro s3 rfl;refine Inv.wish ?_ _
  refine b0z I2 S hj hCle f2 hfo rfl I2.bare old (Un.laid old (ai _) hD) hns₁ ?_ hok1 (fun x c e=>?_)
  · rw[d9 (Ne.symm hDC)];exact I2.hok.fresh hCle
  · rw[hnD c (hcells x c e)];exact I2.freeC x c e
 -- what stays true of the iterator's objects
 have stat:∀{H':Hp},(∀b∈fp,H' b=none)->∀b∈fp,a0c (B8 X own frees scope HH.objs.size s2 H2 fp (XE HH.objs.size s2 H2 fp)) [] H' b:=fun{H'} hn b hb=>by
  obtain⟨o,q⟩:=hfo b hb;refine⟨hn b hb,neC b (Heap.lt_size q),fun hm=>?_,.inl hb,fun x c e=>(f2 b hb).2.2.2.2.1 x c (L6 e),fun p hp=>absurd (show p∈([]:List (Addr×Obj)) from hp) (by simp)⟩
  rcases aH.mp (I2.stkSub b hm) with z|z
  · exact(f2 b hb).2.1 z
  · exact(f2 b hb).2.2.1 z
 have loop:∀s3:Shared,s3={s2 with heap:=h₁,toks:=s2.toks+([]:List (Str×Value)).length}→
  codeAny (model X.prog X.w) X.A (.compLoop (.ListComp elt [⟨tg,iter,ifs,0⟩] scope pos) 0 (.ref it) (.ref s2.heap.objs.size) (compEnvC scope (C1 X.env.cells scope.names []) HH.objs.size X.env))
   (RR (.ref s2.heap.objs.size) HH.objs.size) s3:=by
  intro s3 hs3
  refine a4e (fun n s'=>∃i ys H',Inv (B8 X own frees scope HH.objs.size s2 H2 fp (XE HH.objs.size s2 H2 fp)) [] (A8 own js σ) H' s'/\tn i s'.heap/\(∀b∈fp,H' b=none)/\W i n ys H') ?_ (fun e s' z=>bad _ _ s2 H2 fp e s' I2 f2 hCle z) m0
   ⟨0,[],_,I3 s3 hs3,T.keep _ _ _ st2 (fun b hb o e=>by rw[hs3];exact old b o e),fun b hb=>by obtain⟨o,q⟩:=hfo b hb;rw[hnD b (Heap.lt_size q)];exact(f2 b hb).1,w0⟩
  rintro n s4 ⟨i,ys,H4,I4,st4,fr4,w4⟩
  rcases turn i n ys H4 w4 with⟨stop,qn⟩|⟨go,step⟩
  · refine thn (T.done (B8 X own frees scope HH.objs.size s2 H2 fp (XE HH.objs.size s2 H2 fp)) rfl rfl rfl hcalm i [] s4 (A8 own js σ) H4 _ I4 (stat fr4) st4 stop) fun r s5 ⟨hr,I5⟩=>?_
    subst hr;obtain⟨m5,hn5,_⟩:=I5.loc
    have ub:Un (frs X.stack) fp H2 H4 s2.heap s5.heap:=I5.base
    refine fin _ _ s5 H4 m5 (I2.call' (ch:=fp) I5.os ub I5.hok I5.bare fun b hb=>⟨(f2 b hb).2.2.2.1,(f2 b hb).2.1,(f2 b hb).2.2.2.2.1,(f2 b hb).2.2.2.2.2⟩) hn5 I5.free (aY I2.sz hCle) ?_ ?_ ?_ qn
    · exact Ne.symm (neC _ I2.lt)
    · exact fun x c e=>neC c (hcells x c e)
    · exact fun p hp=>neC _ (Heap.lt_size (I2.pin p hp).1)
  · refine thn (T.item (B8 X own frees scope HH.objs.size s2 H2 fp (XE HH.objs.size s2 H2 fp)) rfl rfl rfl hcalm i [] s4 (A8 own js σ) H4 _ I4 (stat fr4) st4 go) fun r s5 ⟨u,hr,h5⟩=>?_
    subst hr;refine thn h5 fun _ s6 ⟨x,H6,I6,r6,y6,st6,fr6⟩=>?_
    have I6':=I6.pinned (stat fr6) (T.obj _ _ st6)
    refine thn (hg _ _ _ _ _ s6 _ H6 x u _ I6' r6 (step x H6 y6)) fun _ s7 ⟨σ7,H7,I7,wk7,q7⟩=>?_
    refine thn (hc _ _ _ _ _ s7 σ7 H7 _ I7 q7) fun b s8 ⟨H8,I8,q8⟩=>?_
    have again:∀{s9:Shared} {H9:Hp} {zs:List V},Inv (B8 X own frees scope HH.objs.size s2 H2 fp (XE HH.objs.size s2 H2 fp)) ([]++a1I fp s6.heap) σ7 H9 s9->(∃m',m'<n/\W (i+1) m' zs H9)→
     ∃m,m<n/\∃i ys H',Inv (B8 X own frees scope HH.objs.size s2 H2 fp (XE HH.objs.size s2 H2 fp)) [] (A8 own js σ) H' s9/\tn i s9.heap/\(∀b∈fp,H' b=none)/\W i m ys H':=fun{s9 H9 zs} I9 ⟨m',hm,w9⟩=>by
     refine⟨m',hm,i+1,zs,H9,(I9.weak wk7.1 wk7.2).unpinned,T.keep _ _ _ st6 fun b hb o e=>(I9.pin (b,o) (mem_append_right _ (mem_append_right _ (P8 hb e)))).1,fun b hb=>?_,w9⟩
     obtain⟨o,e,d⟩:=T.obj _ _ st6 b hb;exact(I9.pin (b,o) (mem_append_right _ (mem_append_right _ (P8 hb e)))).2.1
    cases b with
    |false=>
     rw[az bx] at q8⊢;exact again I8 q8
    | true=>
     rw[ay rfl] at q8⊢;refine thn (he _ _ _ _ _ s8 σ7 H8 _ I8 q8) fun y s9 ⟨v9,H9,I9,r9,hD9,hz9,q9⟩=>?_
     refine thn (a2N (X:=B8 X own frees scope HH.objs.size s2 H2 fp (XE HH.objs.size s2 H2 fp)) _ s9 σ7 H9 (.ref s2.heap.objs.size) [v9] (.ref s2.heap.objs.size) [y] (fun _ H'=>∃m',m'<n/\W (i+1) m' (ys++[v9]) H') I9 rfl (.cons r9 .nil)
      ⟨_,ys,v9,rfl,rfl,hD9,hz9,q9⟩) fun _ s10 ⟨_,H10,I10,_,q10⟩=>?_
     exact again I10 q10
 exact codeAny_compStart_list (loop _ rfl) (T.self _ 0 _ _ _ (T.keep _ _ _ st2 fun b hb o e=>old b o e) (loop _ rfl))
theorem a1J(hcalm:X.calm=true)(hi:PI X tg iter wi)(S:CompScope X.env.scope scope own frees)(hj:frees.map some=js.map (X.N[·]?))
 (hg:∀C s₀ H₀ ex,PG (E4 X own frees scope C s₀ H₀ ex) tg g) (hc:∀C s₀ H₀ ex,a4p (E4 X own frees scope C s₀ H₀ ex) ifs tc) (he:∀C s₀ H₀ ex,PE (E4 X own frees scope C s₀ H₀ ex) elt te)
 (hs:∀x,foldedSetIterable iter X.env x=pure x):PE X (.ListComp elt [⟨tg,iter,ifs,0⟩] scope pos) (a1B own js wi g tc te):=by
 intro pins s σ H Q I h;rw[eval_ListComp]
 have hcl:closureFor scope X.env=pure (C1 X.env.cells scope.names []):=J1 fun y hy e=>I.ok.has y.1 (.inl (S.out y hy e))
 refine wpAny_comprehension_free (use:=none) rfl hs hcl S.kind S.locs (W3 (XE:=fun _ _ _ _ _ _=>False) hcalm hi S hj hg hc he I h (fun D C s5 H4 m5 I5 hn5 c1 c2 c3 c4 c5 q=>?_) fun _ _ _ _ _ _ _ _ _ _ z=>z.elim)
 exact⟨m5,hn5,fun h' hs'=>⟨.ref D,H4,I5.turned (t':=s5.toks) (fun b o hb e=>(hs'.2 b hb).trans e) c1 (Ne.symm (Ne.symm c3)) (.inr c2) c4 c5,rfl,q⟩⟩
theorem a6r(hcalm:X.calm=true)(hi:PI X tg iter wi)(S:CompScope X.env.scope scope own frees)(hj:frees.map some=js.map (X.N[·]?))
 (hg:∀C s₀ H₀ ex,PG (E4 X own frees scope C s₀ H₀ ex) tg g) (hc:∀C s₀ H₀ ex,a4p (E4 X own frees scope C s₀ H₀ ex) ifs tc) (he:∀C s₀ H₀ ex,PE (E4 X own frees scope C s₀ H₀ ex) elt te)
 (hs:∀x,foldedSetIterable iter X.env x=pure x) (hN:X.N.Nodup) (hix:X.N[i]? =some x) (hx:Loc X.env.scope x) (hf:X.fn x=true∨X.env.scope.names.lookup x=some .local):
 PS X (.Assign [.Name x pos'] (.ListComp elt [⟨tg,iter,ifs,0⟩] scope pos) spos) (a8w (a1B own js wi g tc te) (a4R i)):=by
 obtain⟨b,hb⟩:∃b,swapsWith (.ListComp elt [⟨tg,iter,ifs,0⟩] scope pos) (some (.Name x pos')) spos.line X.env=pure b:=⟨_,rfl⟩
 cases b with
 |false=>exact a3F hN hix hx (a1J hcalm hi S hj hg hc he hs) hb hf
 | true=>
  intro pins s σ H Dn I h;rw[exec_Assign_Name_used _ _ _ _ hb]
  have hcl:closureFor scope X.env=pure (C1 X.env.cells scope.names []):=J1 fun y hy e=>I.ok.has y.1 (.inl (S.out y hy e))
  refine wpAny_bind (wpAny_standAt (wpAny_bind ?_))
  show wpAny _ X.A (do let _←comprehension (.ListComp elt [⟨tg,iter,ifs,0⟩] scope pos) scope X.env _ (newList []) false (eval iter X.env) (some (assign (.Name x pos') X.env))) _ _ s
  refine wpAny_bind (wpAny_mono (wpAny_comprehension_free (use:=some (assign (.Name x pos') X.env)) (Q:=fun _ s'=>SP X pins Dn .next s') rfl hs hcl S.kind S.locs
   (W3 (XE:=fun _ _ _ _ _ _=>False) hcalm hi S hj hg hc he I h (fun D C s5 H4 m5 I5 hn5 c1 c2 c3 c4 c5 q=>?_) fun _ _ _ _ _ _ _ _ _ _ z=>z.elim)) (fun _ s' hq=>wpAny_pure (wpAny_pure hq)) fun _ _ e=>e)
  show wpAny _ X.A (assign (.Name x pos') X.env (.ref D)) _ _ s5
  refine wpAny_assign_Name (V2 (v:=.ref D) I5 hN hix hx rfl (fun s6 I6 ⟨a,sb,ea⟩=>?_) hf)
  have hCa:C≠a:=fun z=>by
   rcases ea with y|y
   · exact c3 (z.trans y)
   · exact c4 x a y z.symm
  exact⟨m5,hn5.sameBut sb hCa,fun h' hs'=>⟨_,H4,I6.turned (t':=s6.toks) (fun b o hb e=>(hs'.2 b hb).trans e) c1 c3 (.inr c2) c4 c5,q⟩⟩
end
end L2
namespace L2X
open PySem
open Sem (wp)
variable{fl:Value}{Q:Unit->Shared->Prop}
section
variable{M:Model}{A:Around}{E:Value->Shared->Prop}{s:Shared}{base:Heap}{env env':Env}{outer:List Env}{L e C:Addr}{dx:Option Addr}
theorem a9u{x:Value}(h:env'.frame=env.frame):noteFrame x env'=noteFrame x env:=by
 unfold noteFrame frameOf;rw[h]
theorem b7f{T:Addr}{fo:Option Addr}(t:Trc s.heap e C dx T fl)(k:∀h',(∀b o,b≠T->s.heap.get? b=some o->h'.get? b=some o)->Trc h' e C dx T (fo.elim Value.none fun f=>rawInt f)->Q () {s with heap:=h'}):
 wpAny M A (setFlight (.ref e) fo) Q E s:=by
 obtain⟨oe,vs,oT,ts,he,hc,hx,hd,h1,nT,hT,dT,h3⟩:=t
 have z3:3<ts.size:=(Array.getElem?_eq_some_iff.mp h3).1
 unfold setFlight;refine wpAny_bind (wpAny_field he hd h1 ?_)
 rw[ay (show(Value.ref T !=Value.none)=true from by simp)]
 have d4:=Obj.data_mapFields dT (·.setIfInBounds 3 (fo.elim Value.none fun f=>rawInt f))
 exact wpAny_setField hT dT z3 (k _ (fun b o hb q=>(Heap.get?_update_other _ _ (Ne.symm hb)).trans q) ⟨oe,vs,_,_,(Heap.get?_update_other _ _ nT).trans he,hc,hx,hd,h1,nT,Heap.get?_update_self _ hT (Obj.isFreed_of_fields d4),d4,by simp[z3]⟩)
theorem b3c{T:Addr}(hfr:A.frames=some (env::outer))(hl:s.heap.FunFrames base (env::outer))(hf:env.frame=some L)(t:Trc s.heap e C dx T fl)
 (k:∀h' T' fl',Kp (env::outer) [e,T] s.heap h'->(T'=T∨s.heap.objs.size<=T')->Trc h' e C dx T' fl'->Q () {s with heap:=h'}):
 wpAny M A (noteFrame (.ref e) env) Q E s:=by
 have t0:=t;obtain⟨oe,vs,oT,ts,he,hc,hx,hd,h1,nT,hT,dT,h3⟩:=t
 have z3:3<ts.size:=(Array.getElem?_eq_some_iff.mp h3).1
 have nfT:=a0G hl hT dT;unfold noteFrame;simp only[hf];refine wpAny_bind (wpAny_field he hd h1 ?_)
 rw[ay (show(Value.ref T !=Value.none)=true from by simp)]
 refine wpAny_bind (wpAny_field hT dT h3 ?_)
 by_cases hq:(fl==rawInt L)=true
 · rw[ay hq];exact wpAny_pure (k s.heap T fl ⟨fun b o _ _ q=>q,fun b o _ q=>⟨o.slots,q⟩⟩ (.inl rfl) t0)
 rw[az hq];refine wpAny_bind (wpAny_setField hT dT z3 ?_)
 generalize hu:s.heap.update T (Obj.mapFields (·.setIfInBounds 3 Value.none))=h2
 have k2:Kp (env::outer) [T] s.heap h2:=hu▸Kp.upd _
 have sz:h2.objs.size=s.heap.objs.size:=by rw[←hu];simp
 have e2:h2.get? e=some oe:=by rw[←hu];exact(Heap.get?_update_other _ _ nT).trans he
 have inT:∀b∈[T],b=T:=fun b hb=>by simpa using hb
 have inE:∀b∈[e],b=e:=fun b hb=>by simpa using hb
 have f2:h2.FunFrames base (env::outer):=k2.frames (fun b hb=>(inT b hb)▸nfT) hl
 refine a6b (s:={s with heap:=h2}) hfr f2 hf e2 hd (Array.getElem?_eq_some_iff.mp h1).1 hc hx fun h4 T' k4 nT' t4=>?_
 exact k h4 T' _ ((k2.mono fun b hb=>by simp[inT b hb]).trans (k4.mono fun b hb=>by simp[inE b hb])) (.inr (by have:=nT';rw[sz] at this;exact this)) t4
end
end L2X
namespace L2
open PySem PySem.Spec PyProof.Rows L2X
def a5p(X:Cx)(E:XK):Prop:=∀(pins:List (Addr×Obj)) (σ:St) (H:Hp) (s:Shared) (a C T:Addr) (fl:Value),Inv X pins σ H s->Trc s.heap a C none T fl->X.s₀.heap.objs.size<=a->X.s₀.heap.objs.size<=T->H a=none->H T=none->E (.ref C) none H->X.xe (.ref a) s
def XEc(X:Cx)(own frees:List Str)(scope:Scope)(E:XK):Addr->Shared->Hp->List Addr->Value->Shared->Prop:=fun C s₀ H₀ ex e s'=>∃pins σ H s,Inv (E4 X own frees scope C s₀ H₀ ex) pins σ H s/\CXr X.prog X.w X.stack H s E e s'
variable{pins:List (Addr×Obj)}{σ:St}{C:Addr}{s':Shared}{fp:List Addr}
section
variable{X:Cx}{scope:Scope}{own frees:List Str}{E:XK}
theorem a5g{s₂:Shared}{H₂:Hp}{e:Value}(hst:X.stack=X.env::X.outer)(hfr:∃L,X.env.frame=some L)(pl:a5p X E)(I2:Inv X pins σ H₂ s₂)(f2:∀b∈fp,a0c X pins H₂ b)(hC:s₂.heap.objs.size<=C)(z:XEc X own frees scope E C s₂ H₂ fp e s'){E':Value->Shared->Prop}:
 wpAny (model X.prog X.w) X.A (noteFrame e (compEnvC scope (C1 X.env.cells scope.names []) C X.env)) (fun _ s''=>∃m,s''.heap.Ns C m/\∀h',Heap.SameBut C s''.heap h'->∀cenv:Env,cenv.locals=C->wpAny (model X.prog X.w) X.A (PySem.passOn "comprehension.variables-let-go" e cenv:Sem Value) (fun _ _=>False) X.xe {s'' with heap:=h'}) E' s':=by
 obtain⟨pins',σ',H,s,IC,a,Cc,T,H',rfl,os,bare,un,hok,trc,sa,sT,na,nT,q⟩:=z;obtain⟨L,hfr⟩:=hfr
 have IC':Inv (E4 X own frees scope C s₂ H₂ fp) pins' σ' H' s':=IC.call' (ch:=[]) os un hok bare fun b z=>absurd z (by simp)
 rw[a9u (show(compEnvC scope (C1 X.env.cells scope.names []) C X.env).frame=X.env.frame from rfl)]
 have frm:X.A.frames=some (X.env::X.outer):=by rw[←hst];exact IC'.ok.frames
 have fun2:s'.heap.FunFrames X.base (X.env::X.outer):=by rw[←hst];exact IC'.stack
 refine b3c frm fun2 hfr trc fun h3 T' fl' kp nT' trc3=>?_
 have ltC:C<s.heap.objs.size:=IC.lt
 have ltC':C<s'.heap.objs.size:=IC'.lt
 have neA:a≠C:=Nat.ne_of_gt (aC ltC sa)
 have neT:T≠C:=Nat.ne_of_gt (aC ltC sT)
 have neT':T'≠C:=by
  rcases nT' with y|y
  · rw[y];exact neT
  · exact Nat.ne_of_gt (aC ltC' y)
 have nfrC:C∉fr (X.env::X.outer):=fun z=>by
  obtain⟨_,o,ho,_⟩:=I2.stack.mem (show C∈X.stack.filterMap (·.frame) by rw[hst];exact z)
  exact absurd (aC (Heap.lt_size ho) hC) (aX _)
 obtain⟨m,⟨oC,es,ep,eC,rC⟩,_⟩:=IC'.loc;refine⟨m,⟨oC,es,ep,kp.same C oC nfrC (fun z=>by rcases in2 z with y|y;exact neA y.symm;exact neT y.symm) eC,rC⟩,fun h4 sb cenv _=>?_⟩
 have trc4:Trc h4 a Cc none T' fl':=by
  obtain⟨oe,vs,oT,ts,he,hc,hx,hd,h1,nq,hT,dT,h3⟩:=trc3;exact⟨oe,vs,oT,ts,(sb.2 a neA).trans he,hc,hx,hd,h1,nq,(sb.2 T' neT').trans hT,dT,h3⟩
 unfold PySem.passOn;obtain⟨oe,vs,oT,ts,he,hc,hx,hd,h1,nq,hT,dT,h3'⟩:=id trc4;refine wpAny_bind (wpAny_field (s:=⟨h4,s'.gens,s'.drawn,s'.toks,s'.os⟩) he hd h1 ?_)
 rw[az (show¬(Value.ref T'==Value.none)=true from by simp)]
 refine wpAny_bind (b7f (s:=⟨h4,s'.gens,s'.drawn,s'.toks,s'.os⟩) trc4 fun h5 k5 trc5=>wpAny_throw ?_)
 have s2C:s₂.heap.objs.size<=a:=aY hC (aZ (aC ltC sa))
 have s2T:s₂.heap.objs.size<=T:=aY hC (aZ (aC ltC sT))
 have s2T':s₂.heap.objs.size<=T':=by
  rcases nT' with y|y
  · rw[y];exact s2T
  · exact aY hC (aZ (aC ltC' y))
 have hT':H' T'=none:=by
  rcases nT' with y|y
  · rw[y];exact nT
  · exact IC'.hok.fresh y
 have kt:Kp (X.env::X.outer) [a,T,C,T'] s'.heap h5:=by
  refine⟨fun b o n c e=>?_,fun b o c e=>?_⟩
  · have c':b∉[a,T]:=fun z=>c (by rcases in2 z with y|y<;>simp[y])
    exact k5 b o (fun z=>c (by simp[z])) ((sb.2 b (fun z=>c (by simp[z]))).trans (kp.same b o n c' e))
  · have c':b∉[a,T]:=fun z=>c (by rcases in2 z with y|y<;>simp[y])
    obtain⟨sl,e1⟩:=kp.slot b o c' e;exact⟨sl,k5 b _ (fun z=>c (by simp[z])) ((sb.2 b (fun z=>c (by simp[z]))).trans e1)⟩
 have inq:∀b,b∈[a,T,C,T']->s₂.heap.objs.size<=b/\H' b=none:=fun b z=>by
  rcases aH.mp z with y|z
  · rw[y];exact⟨s2C,na⟩
  rcases aH.mp z with y|z
  · rw[y];exact⟨s2T,nT⟩
  rcases in2 z with y|y
  · rw[y];exact⟨hC,IC'.free⟩
  · rw[y];exact⟨s2T',hT'⟩
 have nin:∀b o,s₂.heap.get? b=some o->b∉[a,T,C,T']:=fun b o e z=>absurd (aC (Heap.lt_size e) (inq b z).1) (aX _)
 have nch:∀b o,H' b=some o->b∉[a,T,C,T']:=fun b o e z=>by
  have:=(inq b z).2
  rw[e] at this;cases this
 have nfr:∀b o,H' b=some o->b∉fr (X.env::X.outer):=fun b o e z=>by
  have:=IC'.stkFree b (show b∈frs X.stack by rw[hst];exact z)
  rw[e] at this;cases this
 have ub:Un (frs X.stack) fp H₂ H' s₂.heap s'.heap:=IC'.base
 have I5:Inv X pins σ H' ⟨h5,s'.gens,s'.drawn,s'.toks,s'.os⟩:=I2.call' (s':=⟨h5,s'.gens,s'.drawn,s'.toks,s'.os⟩) (ch:=fp) IC'.os
  ⟨fun b o e n hb hx=>kt.same b o (by rw[hst] at hb;exact hb) (nin b o e) (ub.keep b o e n hb hx),fun b o e n hb hx=>by
   obtain⟨sl,e1⟩:=ub.slot b o e n hb hx;obtain⟨sl',e2⟩:=kt.slot b _ (nin b o e) e1;exact⟨sl',e2⟩,ub.free,fun b o e hx=>by
   obtain⟨o',e1⟩:=ub.there b o e hx;obtain⟨sl,e2⟩:=kt.slot b o' (nin b o e) e1;exact⟨_,e2⟩,ub.tups,ub.frzs,ub.tbls⟩
  (fun b o e=>(IC'.hok b o e).stay (fun c v hc z=>by
   rcases hc with y|y
   · rw[y] at z⊢;exact kt.same b v (nfr b o e) (nch b o e) z
   · exact kt.same c v (nfr c _ y) (nch c _ y) z) (fun _ z=>z) fun _ _ z=>z) bare
  fun b hb=>⟨(f2 b hb).2.2.2.1,(f2 b hb).2.1,(f2 b hb).2.2.2.2.1,(f2 b hb).2.2.2.2.2⟩
 exact pl pins σ H' _ a Cc T' _ I5 trc5 (aY I2.sz s2C) (aY I2.sz s2T') na hT' q
end
variable{i:Nat}{x:Str}{pos':Pos}{spos:Pos}
section
variable{X:Cx}{elt iter tg:Expr}{ifs:List Expr}{scope:Scope}{pos:Pos}{own frees:List Str}{js:List Nat}{wi:TI}{g:TG}{tc:TT}{te:TE}{E:XK}
theorem a8S(hst:X.stack=X.env::X.outer)(hfr:∃L,X.env.frame=some L)(pl:a5p X E)(hcalm:X.calm=true)(hi:PI X tg iter wi)(S:CompScope X.env.scope scope own frees)(hj:frees.map some=js.map (X.N[·]?))
 (hg:∀C s₀ H₀ ex,PG (B8 X own frees scope C s₀ H₀ ex (XEc X own frees scope E C s₀ H₀ ex)) tg g) (hc:∀C s₀ H₀ ex,a4p (B8 X own frees scope C s₀ H₀ ex (XEc X own frees scope E C s₀ H₀ ex)) ifs tc) (he:∀C s₀ H₀ ex,PE (B8 X own frees scope C s₀ H₀ ex (XEc X own frees scope E C s₀ H₀ ex)) elt te)
 (hs:∀x,foldedSetIterable iter X.env x=pure x) (hN:X.N.Nodup) (hix:X.N[i]? =some x) (hx:Loc X.env.scope x) (hf:X.fn x=true∨X.env.scope.names.lookup x=some .local):
 PS X (.Assign [.Name x pos'] (.ListComp elt [⟨tg,iter,ifs,0⟩] scope pos) spos) (a8w (a1B own js wi g tc te) (a4R i)):=by
 obtain⟨b,hb⟩:∃b,swapsWith (.ListComp elt [⟨tg,iter,ifs,0⟩] scope pos) (some (.Name x pos')) spos.line X.env=pure b:=⟨_,rfl⟩
 cases b with
 |false=>
  refine a3F hN hix hx (fun pins s σ H Q I h=>?_) hb hf
  rw[eval_ListComp]
  have hcl:closureFor scope X.env=pure (C1 X.env.cells scope.names []):=J1 fun y hy e=>I.ok.has y.1 (.inl (S.out y hy e))
  refine wpAny_comprehension_free (use:=none) rfl hs hcl S.kind S.locs (W3 (XE:=XEc X own frees scope E) hcalm hi S hj hg hc he I h (fun D C s5 H4 m5 I5 hn5 c1 c2 c3 c4 c5 q=>?_) fun D C s₂ H₂ fp e s' I2 f2 hC z=>a5g hst hfr pl I2 f2 hC z)
  exact⟨m5,hn5,fun h' hs'=>⟨.ref D,H4,I5.turned (t':=s5.toks) (fun b o hb e=>(hs'.2 b hb).trans e) c1 (Ne.symm (Ne.symm c3)) (.inr c2) c4 c5,rfl,q⟩⟩
 | true=>
  intro pins s σ H Dn I h;rw[exec_Assign_Name_used _ _ _ _ hb]
  have hcl:closureFor scope X.env=pure (C1 X.env.cells scope.names []):=J1 fun y hy e=>I.ok.has y.1 (.inl (S.out y hy e))
  refine wpAny_bind (wpAny_standAt (wpAny_bind ?_))
  show wpAny _ X.A (do let _←comprehension (.ListComp elt [⟨tg,iter,ifs,0⟩] scope pos) scope X.env _ (newList []) false (eval iter X.env) (some (assign (.Name x pos') X.env))) _ _ s
  refine wpAny_bind (wpAny_mono (wpAny_comprehension_free (use:=some (assign (.Name x pos') X.env)) (Q:=fun _ s'=>SP X pins Dn .next s') rfl hs hcl S.kind S.locs
   (W3 (XE:=XEc X own frees scope E) hcalm hi S hj hg hc he I h (fun D C s5 H4 m5 I5 hn5 c1 c2 c3 c4 c5 q=>?_) fun D C s₂ H₂ fp e s' I2 f2 hC z=>a5g hst hfr pl I2 f2 hC z)) (fun _ s' hq=>wpAny_pure (wpAny_pure hq)) fun _ _ e=>e)
  show wpAny _ X.A (assign (.Name x pos') X.env (.ref D)) _ _ s5
  refine wpAny_assign_Name (V2 (v:=.ref D) I5 hN hix hx rfl (fun s6 I6 ⟨a,sb,ea⟩=>?_) hf)
  have hCa:C≠a:=fun z=>by
   rcases ea with y|y
   · exact c3 (z.trans y)
   · exact c4 x a y z.symm
  exact⟨m5,hn5.sameBut sb hCa,fun h' hs'=>⟨_,H4,I6.turned (t':=s6.toks) (fun b o hb e=>(hs'.2 b hb).trans e) c1 c3 (.inr c2) c4 c5,q⟩⟩
end
open PySem PySem.Spec PyProof.Rows
def Itz(K:PySem.W.Frag)(l1 l2:Addr):It:=⟨fun i H=>∃xs ys x y,SqL K H l1 xs/\SqL K H l2 ys/\xs[i]? =some x/\ys[i]? =some y,
 fun i H v H'=>∃T x y,H T=none/\v=.ref T/\(∀xs,SqL K H l1 xs->xs[i]? =some x)/\(∀ys,SqL K H l2 ys->ys[i]? =some y)/\H'=upd H T (.tup [x,y]),
 fun i H=>∃xs ys,SqL K H l1 xs/\SqL K H l2 ys/\(xs.length<=i∨ys.length<=i)⟩
variable{P:Program}{w:World}{K:PySem.W.Frag}{elts:List Expr}{pos:Pos}
theorem a8m{k:Nat}(z TI TO i1 i2 l1 l2:Addr)(D:ZipApart z TI TO i1 i2 l1 l2):
 Turn P w K (.Tuple elts k pos) (Itz K l1 l2) [z,TI,TO,i1,i2] z (fun i h=>IsZip h z TI TO .none/\IsPair h TI (.ref i1) (.ref i2)/\(∃a b,IsPair h TO a b)/\h.IsListIter i1 l1 i/\h.IsListIter i2 l2 i) where
 mem:=by simp
 obj:=fun i h st b hb=>by
  obtain⟨hz,hTI,⟨a,c,hTO⟩,⟨o1,e1,c1,d1⟩,⟨o2,e2,c2,d2⟩⟩:=st;simp only[aH,not_mem_nil,or_false] at hb
  rcases hb with rfl|rfl|rfl|rfl|rfl
  · exact⟨_,hz,fun v q=>by have q':Data.fields _=Data.cell v:=q;cases q'⟩
  · exact⟨_,hTI,fun v q=>by have q':Data.seq _ _=Data.cell v:=q;cases q'⟩
  · exact⟨_,hTO,fun v q=>by have q':Data.seq _ _=Data.cell v:=q;cases q'⟩
  · exact⟨o1,e1,fun v q=>by rw[d1] at q;cases q⟩
  · exact⟨o2,e2,fun v q=>by rw[d2] at q;cases q⟩
 keep:=fun i h h' st k=>by
  obtain⟨hz,hTI,⟨a,c,hTO⟩,h1,h2⟩:=st;exact⟨k z (by simp) _ hz,k TI (by simp) _ hTI,⟨a,c,k TO (by simp) _ hTO⟩,h1.at fun o x=>k i1 (by simp) o x,h2.at fun o x=>k i2 (by simp) o x⟩
 item:=by
  intro X hP hw hK hc i pins s σ H E I hf st hg;subst hP hw hK;obtain⟨hz,hTI,⟨a,c,hTO⟩,h1,h2⟩:=st;obtain⟨xs,ys,x,y,hq1,hq2,hx,hy⟩:=hg;obtain⟨its,rv,p,hz1⟩:=I.list hq1;obtain⟨its',rv',p',hz2⟩:=I.list hq2;obtain⟨u,hu,ru⟩:=rv.get hx;obtain⟨u',hu',ru'⟩:=rv'.get hy
  have hzlt:z<s.heap.objs.size:=Heap.lt_size hz
  refine wpAny_pyNext_zip_item D hz hTI hTO h1 h2 p.isList p'.isList (x:=u) (y:=u') (by simpa using hu) (by simpa using hu') fun h' a1 a2 a3 a4 a5 a6 hk=>?_
  refine⟨_,rfl,wpAny_letOwnedTupleGo_zip a1 fun h3 hz3 hs3=>?_⟩
  have kk:∀b o,b∉[z,TI,TO,i1,i2]->s.heap.get? b=some o->h3.get? b=some o:=fun b o hb q=>by
   have n1:b≠z:=fun w=>hb (by simp[w])
   exact(hs3.2 b n1).trans (hk b o n1 (fun w=>hb (by simp[w])) (fun w=>hb (by simp[w])) (fun w=>hb (by simp[w])) q)
  have hT3:h3.get? s.heap.objs.size=some {cls:=.type "tuple",data:=.seq #[u,u']}:=(hs3.2 _ (Nat.ne_of_gt hzlt)).trans a5
  have I1:Inv X pins σ (upd H s.heap.objs.size (.tup [x,y])) {s with heap:=h3,toks:=s.toks}:=
   I.turnedN (fp:=[z,TI,TO,i1,i2]) hf kk (ai _) ⟨by show 2<=sizeLine;decide,[u,u'],.cons ru (.cons ru' .nil),_,hT3,rfl,rfl,_,rfl⟩
  refine⟨.ref s.heap.objs.size,_,I1,rfl,⟨s.heap.objs.size,x,y,I.hok.fresh (ai _),rfl,fun zs hy=>by rw[I.list_inj hy hq1];exact hx,fun zs hy'=>by rw[I.list_inj hy' hq2];exact hy,rfl⟩,
   ⟨hz3,(hs3.2 _ D.TIz).trans (hk _ _ D.TIz D.TITO D.TIi1 D.TIi2 hTI),⟨_,_,(hs3.2 _ D.TOz).trans a2⟩,a3.at fun o x=>(hs3.2 _ D.i1z).trans x,a4.at fun o x=>(hs3.2 _ D.i2z).trans x⟩,fun b hb=>?_⟩
  have hbs:b<s.heap.objs.size:=by
   obtain⟨o1,e1,_⟩:=h1;obtain⟨o2,e2,_⟩:=h2;simp only[aH,not_mem_nil,or_false] at hb
   rcases hb with rfl|rfl|rfl|rfl|rfl
   · exact hzlt
   · exact Heap.lt_size hTI
   · exact Heap.lt_size hTO
   · exact Heap.lt_size e1
   · exact Heap.lt_size e2
  rw[d9 (Nat.ne_of_lt hbs)];exact(hf b hb).1
 done:=by
  intro X hP hw hK hc i pins s σ H E I hf st hg;subst hP hw hK;obtain⟨hz,hTI,⟨a,c,hTO⟩,h1,h2⟩:=st;obtain⟨xs,ys,hq1,hq2,hx⟩:=hg;obtain⟨its,rv,p,hz1⟩:=I.list hq1;obtain⟨its',rv',p',hz2⟩:=I.list hq2;have hl:=rv.length
  have hl':=rv'.length
  refine wpAny_pyNext_zip_end (I.ok.hd hc) D hz hTI hTO h1 h2 p.isList p'.isList ?_ fun h' eb=>⟨rfl,I.turnedF (t':=s.toks) hf fun b o hb q=>eb b o (fun z=>hb (by simp[z])) (fun z=>hb (by simp[z])) (fun z=>hb (by simp[z])) (fun z=>hb (by simp[z])) q⟩
  rcases hx with hx|hx
  · exact .inl (by simp;omega)
  · exact .inr (by simp;omega)
 self:=fun A i s Q E st h=>wpAny_pyIter_zip st.1 h
variable{ta:TA}{p:Pos}
section
variable{X:Cx}{k:Nat}{tpos:Pos}
def b7i(K:PySem.W.Frag)(ta:TA):TI:=fun σ H R=>ta σ H fun vs H1=>∃l1 l2 xs ys,vs=[.ref l1,.ref l2]/\SqL K H1 l1 xs/\SqL K H1 l2 ys/\R (Itz K l1 l2) H1
theorem b3V{a b:Expr}(hg:Gl X "zip")(hm:X.mg "zip"=none)(ha:PA X [a,b] ta)(hs:starEach [a,b] X.env=(false,eval a X.env)::starEach [b] X.env)(hp:(backTo pos (starEach [b] X.env)).any (·.1)=false):
 PI X (.Tuple elts k tpos) (.Call (.Name "zip" p) [a,b] [] pos) (b7i X.K ta):=by
 intro pins s σ H R I h;refine Call_ (Y9 I hg hm boot_zip (PyProof.Rows.callWith_type1 (thn (ha pos pins s σ H _ I h) fun us s1 ⟨vs,H1,I1,r1,q1⟩=>?_) hs hp))
 obtain⟨l1,l2,xs,ys,e,hq1,hq2,q⟩:=q1;subst e;obtain⟨u,u',rfl,ru,ru'⟩:=a2A r1;cases ru;cases ru';obtain⟨its,rv,pl,hz⟩:=I1.list hq1;obtain⟨its',rv',pl',hz'⟩:=I1.list hq2;refine call_zip_2 pl.isList pl'.isList fun h' a1 a2 a3 a4 a5 a6 hk=>?_
 have I2:Inv X pins σ H1 {s1 with heap:=h'}:=I1.kept (t':=s1.toks) hk
 have lt1:l1<s1.heap.objs.size:=by obtain⟨o,e,_⟩:=pl.isList;exact Heap.lt_size e
 have lt2:l2<s1.heap.objs.size:=by obtain⟨o,e,_⟩:=pl'.isList;exact Heap.lt_size e
 refine wpAny_pyIter_zip a1 ⟨s1.heap.objs.size+4,[s1.heap.objs.size+4,s1.heap.objs.size+2,s1.heap.objs.size+3,s1.heap.objs.size,s1.heap.objs.size+1],_,_,H1,rfl,I2,a8m _ _ _ _ _ l1 l2 (zipApart_new lt1 lt2),⟨a1,a2,⟨_,_,a3⟩,a4,a5⟩,fun b hb=>?_,q⟩
 have hb':s1.heap.objs.size<=b:=by
  simp only[aH,not_mem_nil,or_false] at hb
  rcases hb with rfl|rfl|rfl|rfl|rfl
  · exact Nat.le_add_right _ _
  · exact Nat.le_add_right _ _
  · exact Nat.le_add_right _ _
  · exact ai _
  · exact Nat.le_add_right _ _
 exact I1.fpOk hb' (I1.hok.fresh hb')
end
noncomputable def C3(n:Nat)(x:Str):Str:=⟨(List.replicate n x.cps).foldl (· ++ ·) #[]⟩
theorem a2Q(x:Array Nat):∀(n:Nat) (a:Array Nat),((List.replicate n x).foldl (· ++ ·) a).toList=a.toList++(List.replicate n x.toList).flatten
 |0,a=>by simp
 |n+1,a=>by rw[replicate_succ,foldl_cons,a2Q x n,replicate_succ,flatten_cons];simp
theorem a4z(n:Nat)(x:Str):(C3 n x).cps.toList=(List.replicate n x.cps.toList).flatten:=by
 unfold C3;rw[a2Q];simp
theorem a1D(n:Nat)(x:Str):(C3 n x).length=x.length*n:=by
 show(C3 n x).cps.size=x.cps.size*n
 rw[←Array.length_toList,a4z];simp[List.length_flatten,Nat.mul_comm]
theorem a5y(x:Str):C3 1 x=x:=by
 unfold C3;simp
theorem a5z(n:Nat)(x:Str)(h:x.length=0):C3 n x=x:=by
 have h1:(C3 n x).cps.size=0:=by
  have:=a1D n x
  rw[h,Nat.zero_mul] at this;exact this
 have h2:x.cps.size=0:=h
 have e1:=Array.eq_empty_of_size_eq_zero h1;have e2:=Array.eq_empty_of_size_eq_zero h2;cases x
 simp only at e2
 subst e2;generalize hq:C3 n ⟨#[]⟩=q at e1;cases q
 simp only at e1
 rw[e1]
variable{A:Around}{s:Shared}{ys:List V}{us:List Value}
section
variable{X:Cx}
def b6G:R2:=fun x y H Q=>∃t k,x=.str t/\y=.int k/\ -(2^63)<=k/\k<2^63/\t.length*k.toNat<=sizeLine/\Q (.str (C3 k.toNat t)) H
theorem b1O:OpR X (binaryOp .Mult) b6G:=by
 intro pins s σ H x y v u Q I rx ry h;obtain⟨t,k,rfl,rfl,h1,h2,h3,q⟩:=h;obtain⟨a,rfl⟩:=rx;obtain⟨b,rfl⟩:=ry;refine P.mul_str ?_ ?_ ?_ ?_
 · rw[bE (by omega),bE (by omega)];rfl
 · intro h4 h5 h6
   have hk:0<k:=by omega
   have h8:(t.length:Int)*k<=2^62:=by
    have h9:((t.length*k.toNat:Nat):Int)<=((sizeLine:Nat):Int):=Int.ofNat_le.mpr h3
    rw[Int.natCast_mul,Int.toNat_of_nonneg (by omega),sizeLine_eq] at h9
    exact Int.le_trans h9 (by decide)
   have h7:(t.length:Int)<=(2^63-1)/k:=by
    rw[Int.le_ediv_iff_mul_le hk];omega
   omega
 · intro h4 h5;simp only[Builtin.Str.tooLong,decide_eq_false_iff_not];omega
 · by_cases c1:k<1
   · rw[ay c1]
     have:k.toNat=0:=by omega
     rw[this] at q;exact⟨Nat.zero_le _,.str _,H,I.tok _,⟨_,rfl⟩,q⟩
   · rw [az c1]
     by_cases c2:(k==1||t.length==0)=true
     · rw [ay c2]
       have e:C3 k.toNat t=t:=by
        rw[Bool.or_eq_true] at c2
        rcases c2 with c|c
        · have:k=1:=by simpa using c
          subst this;exact a5y t
        · exact a5z _ _ (by simpa using c)
       rw[e] at q;exact⟨.str _,H,I,⟨_,rfl⟩,q⟩
     · rw[az c2];refine⟨?_,.str _,H,I.tok _,⟨_,rfl⟩,q⟩
       show(C3 k.toNat t).length<=sizeLine
       rw[a1D];exact h3
def Z6:List V->List V->Bool
 |[],[]=>true
 |x::xs,y::ys=>eqV x y&&Z6 xs ys
 |_,_=>false
def X5(xs ys:List V)(j:Nat):Bool:=match xs[j]?,ys[j]? with
 |some x,some y=>eqV x y
 |_,_=>false
theorem a2p:∀(xs ys:List V),xs.length=ys.length->(List.range xs.length).all (X5 xs ys)=Z6 xs ys
 |[],[],_=>rfl
 |[],_::_,h=>by simp at h
 |_::_,[],h=>by simp at h
 | x::xs,y::ys,h=>by
  rw[length_cons,List.range_succ_eq_map,all_cons,all_map];have ih:=a2p xs ys (by simpa using h)
  have e:X5 (x::xs) (y::ys)∘Nat.succ=X5 xs ys:=by
   funext j
   simp[X5]
  rw[e,ih];simp[X5,Z6]
theorem a2d:∀{xs ys:List V},xs.length≠ys.length->Z6 xs ys=false
 |[],[],h=>absurd rfl h
 |[],_::_,h=>rfl
 |_::_,[],h=>rfl
 |x::xs,y::ys,h=>by
  rw[Z6,a2d (fun e=>h (by simp[e])),Bool.and_false]
theorem a6u{xs:List V}{vs:List Value}(r:l7 xs us)(r':l7 ys vs)(f:xs.all K8=true)(f':ys.all K8=true)(j:Nat)(h1:j<us.toArray.size)(h2:j<vs.toArray.size):SeqAt.EqAt A s us.toArray[j] vs.toArray[j] (X5 xs ys j):=by
 have l1:=r.length;have l2:=r'.length
 have j1:j<xs.length:=by simp at h1;omega
 have j2:j<ys.length:=by simp at h2;omega
 obtain⟨u,hu,ru⟩:=r.get (af j1)
 obtain⟨v,hv,rv⟩:=r'.get (af j2)
 have e1:us.toArray[j]=u:=by
  have:=(ac.mp hu).2
  simpa using this
 have e2:vs.toArray[j]=v:=by
  have:=(ac.mp hv).2
  simpa using this
 rw[e1,e2]
 have e3:X5 xs ys j=eqV xs[j] ys[j]:=by
  unfold X5;rw[af j1,af j2]
 rw[e3];exact b0u ru rv (bv.mp f _ (bz j1)) (bv.mp f' _ (bz j2))
def b6I(K:PySem.W.Frag)(neg:Bool):R2:=fun x y H Q=>∃a b xs ys,x=.ref a/\y=.ref b/\SqL K H a xs/\SqL K H b ys/\xs.all K8=true/\ys.all K8=true/\Q (.bl (Z6 xs ys !=neg)) H
theorem b4l(hu:X.A.units<cLine):OpR X (compareOp .NotEq) (b6I X.K true):=by
 intro pins s σ H x y v u Q I rx ry h;obtain⟨a,b,xs,ys,rfl,rfl,q1,q2,f1,f2,q⟩:=h;cases rx;cases ry;obtain⟨its,r,pl,hz⟩:=I.list q1;obtain⟨its',r',pl',hz'⟩:=I.list q2;have l1:=r.length;have l2:=r'.length
 by_cases hl:xs.length=ys.length
 · refine SeqAt.RcNeAt.lists (e:=X5 xs ys) pl.isList pl'.isList (by simp;omega) hu (fun j h1 h2=>a6u r r' f1 f2 j h1 h2) X.prog X.w _ _ ⟨.bl _,H,I,rfl,?_⟩
   have e:its.toArray.size=xs.length:=by simp;omega
   rw[e,a2p xs ys hl];rw[show(Z6 xs ys !=true)=!Z6 xs ys by cases Z6 xs ys<;>rfl] at q
   exact q
 · refine SeqAt.RcNeAt.lists_lengths pl.isList pl'.isList (by simp;omega) hu X.prog X.w _ _ ⟨.bl _,H,I,rfl,?_⟩
   rw[a2d hl] at q;exact q
theorem b4p(hu:X.A.units<cLine):OpR X (compareOp .Eq) (b6I X.K false):=by
 intro pins s σ H x y v u Q I rx ry h;obtain⟨a,b,xs,ys,rfl,rfl,q1,q2,f1,f2,q⟩:=h;cases rx;cases ry;obtain⟨its,r,pl,hz⟩:=I.list q1;obtain⟨its',r',pl',hz'⟩:=I.list q2;have l1:=r.length;have l2:=r'.length
 by_cases hl:xs.length=ys.length
 · refine SeqAt.RcAt.lists (e:=X5 xs ys) pl.isList pl'.isList (by simp;omega) hu (fun j h1 h2=>a6u r r' f1 f2 j h1 h2) X.prog X.w _ _ ⟨.bl _,H,I,rfl,?_⟩
   have e:its.toArray.size=xs.length:=by simp;omega
   rw[e,a2p xs ys hl];rw[show(Z6 xs ys !=false)=Z6 xs ys by cases Z6 xs ys<;>rfl] at q
   exact q
 · refine SeqAt.RcAt.lists_lengths pl.isList pl'.isList (by simp;omega) hu X.prog X.w _ _ ⟨.bl _,H,I,rfl,?_⟩
   rw[a2d hl] at q;exact q
end
end L2
namespace PySem
open Sem (wp)
theorem a3O:typeLookup (.type "list") "keys"=pure none:=by rw[typeLookup_type,builtinLookup_eq_fast];kernel_rfl
variable{A:Around}{s:Shared}{xs:Array Value}
theorem a7F{prog:Program}{w:World}{E:Value->Shared->Prop}{a:Addr}{o:Obj}{k:Nat}{Q:Option Value->Shared->Prop}
 (hx:s.heap.get? a=some o) (hc:o.cls=.type "list") (hdat:o.data=.seq xs k) (hd:o.dict=none) (hA:A.handled=none)
 (h:∀h' tk,(∀b ob,s.heap.get? b=some ob->h'.get? b=some ob)->Q none {s with heap:=h',toks:=tk}):wpAny (model prog w) A (getAttr? (.ref a) "keys") Q E s:=by
 obtain⟨c,dct,dat,sl⟩:=o
 simp only at hc hdat hd
 subst hc hdat hd;obtain⟨hp,g,d,tk,os⟩:=s
 have hT:∀tk',(⟨hp,g,d,tk',os⟩:Shared).TypeIs (.ref a) "list":=fun _=>⟨_,hx,rfl⟩
 have f1:=sub_AttributeError;have f3:=F.slot_list_getattribute.lookup;have f4:=F.slot_list_getattribute.bind (.ref a);have f5:=am_list_getattr_none;unfold getAttr? getAttrBy? getAttrBy
 repeat (any_goals (first|assumption|exact hT _|((with_reducible show wpAny _ _ (call (Value.builtin "list.__getattribute__") _ _) _ _ _);refine call_meets F.slot_list_getattribute (hT _) am_entry_list_getattribute (F.args_list_getattribute_2 _ _) (meets_getattribute_miss_list a xs k sl "keys" _ a3O (by decide) (by decide)) ⟨hx,hA,fun h' tk' e hx'=>?_⟩)|wp_step))
 obtain⟨t2,u2,he⟩:=hx'.there
 show wpAny _ _ (getattributeRaised _ _ _ _ _ _ _) _ _ _
 unfold getattributeRaised
 repeat (any_goals (first|assumption|wp_step))
 exact h _ _ hx'.keeps
open PyProof.Rows
theorem E9:plainId "dict.update.loop"=true:=by decide+kernel
theorem U2:entryFor table "dict.update.loop"=some Builtin.«dict.update.loop»:=entryFor_of_tree (by kernel_rfl)
variable{a:Value}{b:Value}{l:Addr}{items:Array Value}{Q:Value->Shared->Prop}
section
variable{prog:Program}{w:World}{K:Type}[DecidableEq K]{knd:KeyKind prog w K}
theorem a5D{E:Value->Shared->Prop}{t:Addr}{Q:List Value->Shared->Prop}(ht:IsTup s.heap t #[a,b])(h:Q [a,b] s):wpAny (model prog w) A (Builtin.Dict.pairItems (.ref t)) Q E s:=by
 obtain⟨o,ho,hc,n,hd⟩:=ht;obtain⟨hp,g,d,tk,os⟩:=s
 have hT:(⟨hp,g,d,tk,os⟩:Shared).TypeIs (.ref t) "tuple":=⟨_,ho,hc⟩
 unfold Builtin.Dict.pairItems
 repeat (any_goals (first|assumption|wp_step))
 rw[hd];exact wpAny_pure (wpAny_pure h)
theorem a8l{d it:Addr}{ps:List (K×Value)}(n1:d≠it)(n2:d≠l)(n3:it≠l)(hsz:items.size=ps.length)(k:Nat):∀(i:Nat) (kvs:List (K×Value)),ps.length-i=k->i<=ps.length->MeetsIn prog w (Builtin.«dict.update.loop» ⟨[.ref d,.ref it,rawInt i,.none],[]⟩)
 (fun A R s=>A.handled=none/\s.heap.IsListIter it l i/\s.heap.IsList l items/\s.heap.DictOf knd d kvs/\kvs.length+(ps.length-i)<=sizeLine∧
  (∀(j:Nat) (p:K×Value),ps[j]? =some p->∃t kv,items[j]? =some (.ref t)/\t≠d/\t≠it/\IsTup s.heap t #[kv,p.2]/\knd.is p.1 kv=true)∧
  ∀h' tk,h'.DictOf knd d (merged kvs (ps.drop i))->(∀b o,b≠d->b≠it->s.heap.get? b=some o->h'.get? b=some o)->R (.ok (.ret .none)) {s with heap:=h',toks:=tk}):=by
 induction k with
 |zero=>
  intro i kvs hk hi A R s h;obtain⟨hA,hit,hl,hd,hz,hq,h⟩:=h
  have hx:items[i]? =none:=by rw[Array.getElem?_eq_none];omega
  have hdr:ps.drop i=[]:=List.drop_eq_nil_of_le (by omega)
  rw[hdr] at h;unfold Builtin.«dict.update.loop»;refine wpAny_bind (wpAny_pyNext_list_end hA hit hl hx fun h' eb=>?_)
  refine wpAny_bind ?_
  unfold Builtin.Dict.addKeywords;refine wpAny_pure (wpAny_pure (h h' s.toks ?_ fun b o n1 n2 e=>eb b o n2 e))
  exact hd.extBut eb n1
 | succ k ih=>
  intro i kvs hk hi A R s h;obtain⟨hA,hit,hl,hd,hz,hq,h⟩:=h
  have hlt:i<ps.length:=by omega
  obtain⟨t,kv,e1,e2,e3,e4,e5⟩:=hq i ps[i] (af hlt)
  have hdr:ps.drop i=ps[i]::ps.drop (i+1):=List.drop_eq_getElem_cons hlt
  unfold Builtin.«dict.update.loop»;refine wpAny_bind (wpAny_pyNext_list_item hit hl e1 fun h1 st sb=>?_)
  have k1:∀b o,b≠it->s.heap.get? b=some o->h1.get? b=some o:=fun b o n e=>(sb.2 b n).trans e
  refine wpAny_bind (wpAny_holding (wpAny_bind (wpAny_tryCatch (a5D (show IsTup h1 t #[kv,ps[i].2] from let⟨o,ho,r⟩:=e4;⟨o,k1 t o e3 ho,r⟩) ?_))))
  refine wpAny_holding (wpAny_dictSet_pairs (hsz:=by omega) e5 (hd.sameBut sb n1) fun h2 dd sb2=>?_)
  have k2:∀b o,b≠d->b≠it->s.heap.get? b=some o->h2.get? b=some o:=fun b o n n' e=>(sb2.2 b n).trans (k1 b o n' e)
  refine wpAny_pure ⟨plainId_quiet E9 _,codeAny_builtin U2 (by
   rw[Around.under_plainId E9 _,show((i:Nat):Int)+1=((i+1:Nat):Int) by omega]
   refine ih (i+1) (stored kvs ps[i].1 ps[i].2) (by omega) (by omega) A R _ ⟨hA,?_,?_,dd,?_,fun j p hj=>?_,fun h' tk d1 d2=>?_⟩
   · obtain⟨o,ho,r⟩:=st;exact⟨o,(sb2.2 it n1.symm).trans ho,r⟩
   · obtain⟨o,ho,r⟩:=hl;exact⟨o,k2 l o n2.symm n3.symm ho,r⟩
   · have:=stored_length_le kvs ps[i].1 ps[i].2
     omega
   · obtain⟨t,kv,q1,q2,q3,⟨o,ho,r⟩,q5⟩:=hq j p hj;exact⟨t,kv,q1,q2,q3,⟨o,k2 t o q2 q3 ho,r⟩,q5⟩
   · refine h h' tk ?_ fun b o n n' e=>d2 b o n n' (k2 b o n n' e)
     rw[hdr];exact d1)⟩
theorem a1l{E:Value->Shared->Prop}{ol:Obj}{n:Nat}{ps:List (K×Value)}(hA:A.handled=none)(hx:s.heap.get? l=some ol)(hc:ol.cls=.type "list")(hdat:ol.data=.seq items n)(hd:ol.dict=none)(hsz:items.size=ps.length)(hz:ps.length<=sizeLine)
 (hq:∀(j:Nat) (p:K×Value),ps[j]? =some p->∃t kv,items[j]? =some (.ref t)/\IsTup s.heap t #[kv,p.2]/\knd.is p.1 kv=true)
 (h:∀h' tk,h'.DictOf knd s.heap.objs.size (merged [] ps)->(∀b o,s.heap.get? b=some o->h'.get? b=some o)->Q (.ref s.heap.objs.size) {s with heap:=h',toks:=tk}):
 wpAny (model prog w) A (call (.type "dict") [.ref l]) Q E s:=by
 refine callType_codes (Q₁:=fun obj s₁=>obj=.ref s.heap.objs.size/\s₁={s with heap:=s.heap.push {cls:=.type "dict",data:=.dict #[]}}) F.kt_called_dict (F.kt_typeCall_dict_1 _) F.entry_dict_init (kt_code_dict_new _ ⟨rfl,rfl⟩) ?_
 rintro obj s₁ ⟨rfl,rfl⟩
 have hnew:(s.heap.push {cls:=.type "dict",data:=.dict #[]}).DictOf knd s.heap.objs.size []:=Heap.DictOf.new s.heap
 have hx1:(s.heap.push {cls:=.type "dict",data:=.dict #[]}).get? l=some ol:=Heap.get?_push_of_some _ hx
 have ty:Shared.TypeIs {s with heap:=s.heap.push {cls:=.type "dict",data:=.dict #[]}} (.ref l) "list":=⟨_,hx1,hc⟩
 have nl:s.heap.objs.size≠l:=fun e=>absurd (Heap.lt_size hx) (by rw[e];exact aX _)
 refine⟨hnew.typeIs,F.args_dict_init_2 _ _,?_⟩
 unfold Builtin.«dict.__init__»;refine wpAny_bind ?_
 unfold Builtin.Dict.selfAndRest;refine wpAny_bind (wpAny_notOrdered_dict hnew.typeIs ?_)
 show wpAny _ _ (pure (s.heap.objs.size,[Value.ref l])) _ _ _
 refine wpAny_pure ?_
 show wpAny _ _ (Builtin.Dict.updateFrom "dict.__init__" s.heap.objs.size (.ref l) [] .none) _ _ _
 unfold Builtin.Dict.updateFrom;refine wpAny_bind (wpAny_typeOf ty ?_)
 rw[ay (by decide)]
 refine wpAny_bind (a7F hx1 hc hdat hd ?_ fun h1 tk1 k1=>?_)
 · exact hA
 · rw [ay (show(none:Option Value).isNone=true from rfl)]
   have hx2:h1.get? l=some ol:=k1 l _ hx1
   have hd2:h1.DictOf knd s.heap.objs.size []:=hnew.keep k1
   have lt1:s.heap.objs.size<h1.objs.size:=by
    obtain⟨o,_,_,ho,_⟩:=hd2;exact Heap.lt_size ho
   refine wpAny_bind (wpAny_rule (wpAny_bind (wpAny_pyIter_list (items:=items) ⟨ol,hx2,hc,n,hdat⟩ ?_)))
   refine wpAny_pure ⟨plainId_quiet E9 _,codeAny_builtin U2 (by
    rw[Around.under_plainId E9 _];refine a8l (knd:=knd) (d:=s.heap.objs.size) (it:=h1.objs.size) (l:=l) (ps:=ps) (Nat.ne_of_lt lt1) nl (fun e=>absurd (Heap.lt_size hx2) (by rw[←e];exact aX _)) hsz _ 0 [] rfl (Nat.zero_le _) A.in1 _ _ ⟨hA,⟨_,Heap.get?_push_size _ rfl,rfl,rfl⟩,⟨ol,Heap.get?_push_of_some _ hx2,hc,n,hdat⟩,hd2.push _,by simpa using hz,fun j p hj=>?_,fun h' tk d1 d2=>⟨rfl,?_⟩⟩
    · obtain⟨t,kv,q1,⟨o,ho,r⟩,q3⟩:=hq j p hj;have ho1:=k1 t o (Heap.get?_push_of_some _ ho)
      exact⟨t,kv,q1,fun e=>absurd (Heap.lt_size ho) (by rw[e];exact aX _),fun e=>absurd (Heap.lt_size ho1) (by rw[e];exact aX _),⟨o,Heap.get?_push_of_some _ ho1,r⟩,q3⟩
    · refine h h' tk (by rwa [drop_zero] at d1) fun b o e=>d2 b o (fun z=>absurd (Heap.lt_size e) (by rw[z];exact aX _)) (fun z=>?_) (Heap.get?_push_of_some _ (k1 b o (Heap.get?_push_of_some _ e)))
      have:=Heap.lt_size (k1 b o (Heap.get?_push_of_some _ e))
      rw[z] at this;exact absurd this (aX _))⟩
end
end PySem
namespace L2
open PySem PySem.Spec PyProof.Rows
def PrT(H:Hp):List V->List (Key×V)->Prop:=Paired fun y p=>∃t,y=.ref t/\H t=some (.tup [kV p.1,p.2])
section
variable{X:Cx}
theorem a8V{pins:List (Addr×Obj)}{σ:St}{H:Hp}{s:Shared}(I:Inv X pins σ H s):∀{ys:List V} {kvs:List (Key×V)} {its:List Value},PrT H ys kvs->l7 ys its->∃ps:List (Key×Value),KV kvs ps/\ps.length=its.length/\∀(j:Nat) (p:Key×Value),ps[j]? =some p->∃t kv,its[j]? =some (.ref t)/\IsTup s.heap t #[kv,p.2]/\(o9 X.prog X.w).is p.1 kv=true
 |_,_,_,.nil,.nil=>⟨[],.nil,rfl,fun j p h=>by simp at h⟩
 | _,_,_,.cons h t,.cons r q=>by
  obtain⟨ps,k1,k2,k3⟩:=a8V I t q;obtain⟨a,rfl,ha⟩:=h;cases r;obtain⟨_,its,rv,pa⟩:=I.hok a _ ha;obtain⟨u,w,rfl,ru,rw'⟩:=a2A rv;refine⟨(_,w)::ps,.cons ⟨rfl,rw'⟩ k1,by rw[length_cons,length_cons,k2],fun j p hj=>?_⟩
  cases j with
  |zero=>
   cases hj;exact⟨a,u,rfl,pa.tup,X3 ru⟩
  |succ j=>exact k3 j p hj
theorem a4k(hc:X.calm=true):D5 X (.type "dict") (fun xs H Q=>∃p ys kvs,xs=[.ref p]/\SqL X.K H p ys/\PrT H ys kvs/\∀d,H d=none->Q (.ref d) (upd H d (.dK (P7 [] kvs)))):=by
 intro pins s σ H xs us Q I r h;obtain⟨p,ys,kvs,rfl,hq,pr,q⟩:=h;obtain⟨u,rfl,rx⟩:=O2 r;cases rx;obtain⟨its,rv,pl,hz⟩:=I.list hq;obtain⟨o,n,e,c,hd,dat⟩:=pl;obtain⟨ps,k1,k2,k3⟩:=a8V I pr rv;have l1:=rv.length;have l2:=Paired.length pr;refine a1l (knd:=o9 X.prog X.w) (items:=its.toArray) (ps:=ps) (I.ok.hd hc) e c dat hd (by simp[k2]) (by omega) (fun j p hj=>?_) fun h' tk dd kp=>?_
 · obtain⟨t,kv,q1,q2,q3⟩:=k3 j p hj;exact⟨t,kv,by simpa using q1,q2,q3⟩
 · have hl:=N9 kvs [];rw[length_nil] at hl;exact⟨.ref s.heap.objs.size,_,I.laid (t':=tk) (fun b o e=>kp b o e) (ai _) (a6c (by omega) (beq_eq_false_iff_ne.mpr (Nat.ne_of_gt I.big)) (k1.merge .nil) dd),rfl,q _ (I.hok.fresh (ai _))⟩
end
end L2
namespace PySem
open Sem (wp)
abbrev ZAt(h:Heap)(z TI TO:Addr)(f0:Value)(b:Bool):Prop:=
 h.get? z=some {cls:=.type "zip",dict:=none,data:=.fields #[f0,.bool b,.bool false,.ref TI,.ref TO],slots:= #[]}
def a5q(f0:Value):Prop:=f0=.none∨∃T:Addr,f0=rawInt T
variable{z:Addr}{f0:Value}{l1:Addr}{l2:Addr}{k1:Nat}{k2:Nat}{xs:Array Value}{ys:Array Value}{x:Value}{y:Value}{a:Value}{b:Value}{b0:Bool}{Q:Value->Shared->Prop}
section
variable{prog:Program}{w:World}{A:Around}{E:Value->Shared->Prop}{s:Shared}
theorem a8i{a:Addr}{Q:Option Obj->Shared->Prop}(h:Q (s.heap.get? a) s):wpAny (model prog w) A (loadIfAlive a) Q E s:=fun _ _ _=>h
theorem a4S{TI TO:Addr}{b:Bool}{Q:Bool->Shared->Prop}(hz:ZAt s.heap z TI TO f0 b)(hf:a5q f0)(h1:Q true s)(h2:∀h',ZAt h' z TI TO f0 true->Heap.SameBut z s.heap h'->Q false {s with heap:=h'}):wpAny (model prog w) A (Builtin.SmallTypes.ownedTupleIsFree (.ref z)) Q E s:=by
 unfold Builtin.SmallTypes.ownedTupleIsFree;refine wpAny_bind (wpAny_field hz rfl (x:=f0) rfl ?_)
 rcases hf with rfl|⟨T,rfl⟩
 · exact wpAny_pure h1
 · show wpAny _ _ (loadIfAlive ((T:Int).toNat)>>=_) _ _ _
   refine wpAny_bind (a8i ?_)
   cases s.heap.get? ((T:Int).toNat) with
   |none=>exact wpAny_pure h1
   | some o=>
    refine wpAny_bind (wpAny_field hz rfl (x:=.bool b) rfl ?_)
    cases b with
    |true=>
     have:Q false {s with heap:=s.heap}:=h2 s.heap hz ⟨rfl,fun _ _=>rfl⟩
     exact wpAny_bind (wpAny_pure (wpAny_pure this))
    |false=>
     refine wpAny_bind (wpAny_setField_rec hz (by simp) fun h' hz' hs'=>wpAny_pure (h2 h' hz' hs'))
theorem a7e{TI TO i1 i2:Addr}(D:ZipApart z TI TO i1 i2 l1 l2)(hz:ZAt s.heap z TI TO f0 b0)(hf:a5q f0)(hTI:IsPair s.heap TI (.ref i1) (.ref i2))(hTO:IsPair s.heap TO a b)
 (h1:s.heap.IsListIter i1 l1 k1) (h2:s.heap.IsListIter i2 l2 k2) (hl1:s.heap.IsList l1 xs) (hl2:s.heap.IsList l2 ys) (hx:xs[k1]? =some x) (hy:ys[k2]? =some y)
 (hQ:∀h' f1 b1,a5q f1->ZAt h' z TI TO f1 b1->(∃a b,IsPair h' TO a b)->h'.IsListIter i1 l1 (k1+1)->h'.IsListIter i2 l2 (k2+1)->IsPair h' s.heap.objs.size x y->h'.objs.size=s.heap.objs.size+1→
  (∀c o,c≠z->c≠TO->c≠i1->c≠i2->s.heap.get? c=some o->h'.get? c=some o)->Q (.ref s.heap.objs.size) {s with heap:=h'}):
 wpAny (model prog w) A (Builtin.«zip.__next__» ⟨[.ref z],[]⟩) (fun fin s'=>∃v,fin=.done (.ret v)/\Q v s') E s:=by
 change wpAny (model prog w) A (field (Value.ref z) 2>>=_) _ E s
 refine wpAny_bind (wpAny_field hz rfl (x:=.bool false) rfl ?_)
 change wpAny (model prog w) A (field (Value.ref z) 3>>=_) _ E s
 refine wpAny_bind (wpAny_field hz rfl (x:=.ref TI) rfl (wpAny_bind (wpAny_seqItems hTI rfl ?_)))
 change wpAny (model prog w) A (Builtin.SmallTypes.ownedTupleIsFree (Value.ref z)>>=_) _ E s
 refine wpAny_bind (a4S hz hf ?free fun h' hz' hs'=>?held)
 case held=>
  have n1:h'.IsListIter i1 l1 k1:=h1.extBut hs'.extBut D.i1z
  have n2:h'.IsListIter i2 l2 k2:=h2.extBut hs'.extBut D.i2z
  simp only[Bool.false_eq_true,if_false,←Array.forIn_toList,forIn_cons,forIn_nil];refine wpAny_bind (wpAny_bind (wpAny_bind (wpAny_holding ?_)))
  change wpAny (model prog w) A (Builtin.SmallTypes.nextOf (Value.ref i1)>>=_) _ E _
  refine wpAny_bind (wpAny_nextOf_list_item n1 (hl1.extBut hs'.extBut D.l1z) hx fun g1 m1 t1=>wpAny_pure (wpAny_pure ?_))
  refine wpAny_bind (wpAny_bind (wpAny_holding ?_))
  change wpAny (model prog w) A (Builtin.SmallTypes.nextOf (Value.ref i2)>>=_) _ E _
  refine wpAny_bind (wpAny_nextOf_list_item (n2.extBut t1.extBut D.i12.symm) ((hl2.extBut hs'.extBut D.l2z).extBut t1.extBut D.l2i1) hy fun g2 m2 t2=>wpAny_pure (wpAny_pure (wpAny_pure (wpAny_bind (wpAny_newTuple ?_ (show 2<=sizeLine by decide))))))
  have sz:g2.objs.size=s.heap.objs.size:=by rw[t2.1,t1.1,hs'.1]
  have up:∀c o,c≠z->c≠i1->c≠i2->s.heap.get? c=some o->(g2.push {cls:=.type "tuple",data:=.seq #[x,y]}).get? c=some o:=fun c o c1 c2 c3 e=>Heap.get?_push_of_some _ (t2.extBut _ _ c3 (t1.extBut _ _ c2 (hs'.extBut _ _ c1 e)))
  have zz:ZAt (g2.push {cls:=.type "tuple",data:=.seq #[x,y]}) z TI TO f0 true:=Heap.get?_push_of_some _ (t2.extBut _ _ D.i2z.symm (t1.extBut _ _ D.i1z.symm hz'))
  refine wpAny_pure ⟨_,rfl,?_⟩
  change Q (Value.ref g2.objs.size) _
  have hp:IsPair (g2.push {cls:=.type "tuple",data:=.seq #[x,y]}) g2.objs.size x y:=Heap.get?_push_size _ rfl
  have h8:(g2.push {cls:=.type "tuple",data:=.seq #[x,y]}).objs.size=g2.objs.size+1:=Heap.size_push ..
  rw[sz] at hp h8⊢;exact hQ _ f0 true hf zz ⟨a,b,up TO _ D.TOz D.TOi1 D.TOi2 hTO⟩ ((m1.extBut t2.extBut D.i12).at fun o e=>Heap.get?_push_of_some _ e) (m2.at fun o e=>Heap.get?_push_of_some _ e) hp h8 fun c o c1 _ c3 c4 e=>up c o c1 c3 c4 e
 case free=>
  simp only[if_true];refine wpAny_bind (wpAny_rule (wpAny_bind (wpAny_field hz rfl (x:=.ref TO) rfl (wpAny_bind (wpAny_setField_rec hz (by simp) fun g1 e1 t1=>?_)))))
  replace e1:ZAt g1 z TI TO .ellipsis b0:=e1
  simp only[List.zipIdx_cons,List.zipIdx_nil,forIn_cons,forIn_nil];refine wpAny_bind (wpAny_bind (wpAny_bind (wpAny_onRaise ?_)))
  change wpAny (model prog w) A (Builtin.SmallTypes.nextOf (Value.ref i1)>>=_) _ _ _
  refine wpAny_bind (wpAny_nextOf_list_item (h1.extBut t1.extBut D.i1z) (hl1.extBut t1.extBut D.l1z) hx fun g2 m2 t2=>wpAny_pure ?_)
  have o2:IsPair g2 TO a b:=t2.extBut _ _ D.TOi1 (t1.extBut _ _ D.TOz hTO)
  refine wpAny_bind (wpAny_seqItems o2 rfl (wpAny_bind (wpAny_updateSeq_pair o2 fun g3 o3 t3=>wpAny_bind (wpAny_letGo (wpAny_pure ?_)))))
  replace o3:IsPair g3 TO x b:=o3
  refine wpAny_bind (wpAny_bind (wpAny_onRaise ?_))
  change wpAny (model prog w) A (Builtin.SmallTypes.nextOf (Value.ref i2)>>=_) _ _ _
  refine wpAny_bind (wpAny_nextOf_list_item (((h2.extBut t1.extBut D.i2z).extBut t2.extBut D.i12.symm).extBut t3.extBut D.TOi2.symm) (((hl2.extBut t1.extBut D.l2z).extBut t2.extBut D.l2i1).extBut t3.extBut D.l2TO) hy fun g4 m4 t4=>wpAny_pure ?_)
  have o4:IsPair g4 TO x b:=t4.extBut _ _ D.TOi2 o3
  refine wpAny_bind (wpAny_seqItems o4 rfl (wpAny_bind (wpAny_updateSeq_pair o4 fun g5 o5 t5=>wpAny_bind (wpAny_letGo (wpAny_pure (wpAny_pure ?_))))))
  replace o5:IsPair g5 TO x y:=o5
  refine wpAny_bind (wpAny_seqItems o5 rfl (wpAny_bind (wpAny_newTuple ?_)))
  have sz:g5.objs.size=s.heap.objs.size:=by rw[t5.1,t4.1,t3.1,t2.1,t1.1]
  have e5:ZAt g5 z TI TO .ellipsis b0:=t5.extBut _ _ D.TOz.symm (t4.extBut _ _ D.i2z.symm (t3.extBut _ _ D.TOz.symm (t2.extBut _ _ D.i1z.symm e1)))
  have zl:z<g5.objs.size:=Heap.lt_size e5
  change wpAny (model prog w) A (Builtin.SmallTypes.ownedTupleHandOut (Value.ref z) (Value.ref g5.objs.size)>>=_) _ E _
  refine wpAny_bind ?_
  unfold Builtin.SmallTypes.ownedTupleHandOut
  have e6:ZAt (g5.push {cls:=.type "tuple",data:=.seq #[x,y]}) z TI TO .ellipsis b0:=Heap.get?_push_of_some _ e5
  refine wpAny_bind (wpAny_setField_rec e6 (by simp) fun g7 e7 t7=>?_)
  replace e7:ZAt g7 z TI TO (rawInt g5.objs.size) b0:=e7
  refine wpAny_setField_rec e7 (by simp) fun g8 e8 t8=>wpAny_pure ⟨_,rfl,?_⟩
  replace e8:ZAt g8 z TI TO (rawInt g5.objs.size) false:=e8
  have up:∀c o,c≠z->g5.get? c=some o->g8.get? c=some o:=fun c o c1 e=>t8.extBut _ _ c1 (t7.extBut _ _ c1 (Heap.get?_push_of_some _ e))
  have hp:IsPair g8 g5.objs.size x y:=t8.extBut _ _ (Nat.ne_of_gt zl) (t7.extBut _ _ (Nat.ne_of_gt zl) (Heap.get?_push_size _ rfl))
  have h8:g8.objs.size=g5.objs.size+1:=by rw[t8.1,t7.1,Heap.size_push]
  change Q (Value.ref g5.objs.size) _
  rw[sz] at e8 hp h8⊢
  have m5:g5.IsListIter i1 l1 (k1+1):=((m2.extBut t3.extBut D.TOi1.symm).extBut t4.extBut D.i12).extBut t5.extBut D.TOi1.symm
  exact hQ _ _ _ (.inr ⟨_,rfl⟩) e8 ⟨x,y,up _ _ D.TOz o5⟩ (m5.at fun o e=>up _ o D.i1z e) ((m4.extBut t5.extBut D.TOi2.symm).at fun o e=>up _ o D.i2z e) hp h8 fun c o c1 c2 c3 c4 e=>up c o c1 (t5.extBut _ _ c2 (t4.extBut _ _ c4 (t3.extBut _ _ c2 (t2.extBut _ _ c3 (t1.extBut _ _ c1 e)))))
theorem a8h{TI TO i1 i2:Addr}{Q:Fin->Shared->Prop}(hh:A.handled=none)(D:ZipApart z TI TO i1 i2 l1 l2)(hz:ZAt s.heap z TI TO f0 b0)(hf:a5q f0)(hTI:IsPair s.heap TI (.ref i1) (.ref i2))(hTO:IsPair s.heap TO a b)
 (h1:s.heap.IsListIter i1 l1 k1) (h2:s.heap.IsListIter i2 l2 k2) (hl1:s.heap.IsList l1 xs) (hl2:s.heap.IsList l2 ys) (hend:xs[k1]? =none∨ys[k2]? =none)
 (hE:∀h' e,(∀c o,c≠z->c≠TO->c≠i1->c≠i2->s.heap.get? c=some o->h'.get? c=some o)->(∃o,h'.get? e=some o/\o.cls=.type "StopIteration")->E (.ref e) {s with heap:=h'}):
 wpAny (model prog w) A (Builtin.«zip.__next__» ⟨[.ref z],[]⟩) Q E s:=by
 change wpAny (model prog w) A (field (Value.ref z) 2>>=_) _ E s
 refine wpAny_bind (wpAny_field hz rfl (x:=.bool false) rfl ?_)
 change wpAny (model prog w) A (field (Value.ref z) 3>>=_) _ E s
 refine wpAny_bind (wpAny_field hz rfl (x:=.ref TI) rfl (wpAny_bind (wpAny_seqItems hTI rfl ?_)))
 change wpAny (model prog w) A (Builtin.SmallTypes.ownedTupleIsFree (Value.ref z)>>=_) _ E s
 refine wpAny_bind (a4S hz hf ?free fun h' hz' hs'=>?held)
 case held=>
  simp only[Bool.false_eq_true,if_false,←Array.forIn_toList,forIn_cons,forIn_nil];refine wpAny_bind (wpAny_bind (wpAny_bind (wpAny_holding ?_)))
  change wpAny (model prog w) A (Builtin.SmallTypes.nextOf (Value.ref i1)>>=_) _ E _
  cases hx:xs[k1]? with
  |none=>exact wpAny_bind (wpAny_nextOf_list_end hh (h1.extBut hs'.extBut D.i1z) (hl1.extBut hs'.extBut D.l1z) hx fun g e t he=>hE g e (fun c o c1 _ c3 _ q=>t _ _ c3 (hs'.extBut _ _ c1 q)) he)
  |some x=>
   have hy:ys[k2]? =none:=hend.resolve_left (by rw[hx];exact fun q=>nomatch q)
   refine wpAny_bind (wpAny_nextOf_list_item (h1.extBut hs'.extBut D.i1z) (hl1.extBut hs'.extBut D.l1z) hx fun g1 m1 t1=>wpAny_pure (wpAny_pure ?_))
   refine wpAny_bind (wpAny_bind (wpAny_holding ?_))
   change wpAny (model prog w) A (Builtin.SmallTypes.nextOf (Value.ref i2)>>=_) _ E _
   exact wpAny_bind (wpAny_nextOf_list_end hh ((h2.extBut hs'.extBut D.i2z).extBut t1.extBut D.i12.symm) ((hl2.extBut hs'.extBut D.l2z).extBut t1.extBut D.l2i1) hy fun g e t he=>hE g e (fun c o c1 _ c3 c4 q=>t _ _ c4 (t1.extBut _ _ c3 (hs'.extBut _ _ c1 q))) he)
 case free=>
  simp only[if_true];refine wpAny_bind (wpAny_rule (wpAny_bind (wpAny_field hz rfl (x:=.ref TO) rfl (wpAny_bind (wpAny_setField_rec hz (by simp) fun g1 e1 t1=>?_)))))
  replace e1:ZAt g1 z TI TO .ellipsis b0:=e1
  simp only[List.zipIdx_cons,List.zipIdx_nil,forIn_cons,forIn_nil];refine wpAny_bind (wpAny_bind (wpAny_bind (wpAny_onRaise ?_)))
  change wpAny (model prog w) A (Builtin.SmallTypes.nextOf (Value.ref i1)>>=_) _ _ _
  cases hx:xs[k1]? with
  |none=>
   refine wpAny_bind (wpAny_nextOf_list_end hh (h1.extBut t1.extBut D.i1z) (hl1.extBut t1.extBut D.l1z) hx fun g2 e t2 he=>?_)
   obtain⟨oe,p1,p2⟩:=he
   have e2:ZAt g2 z TI TO .ellipsis b0:=t2 _ _ D.i1z.symm e1
   have ez:e≠z:=fun q=>by subst q;rw[e2] at p1;cases p1;simp at p2
   exact wpAny_setField_rec e2 (by simp) fun g3 _ t3=>hE g3 e (fun c o c1 _ c3 _ q=>t3.extBut _ _ c1 (t2 _ _ c3 (t1.extBut _ _ c1 q))) ⟨oe,t3.extBut _ _ ez p1,p2⟩
  |some x=>
   have hy:ys[k2]? =none:=hend.resolve_left (by rw[hx];exact fun q=>nomatch q)
   refine wpAny_bind (wpAny_nextOf_list_item (h1.extBut t1.extBut D.i1z) (hl1.extBut t1.extBut D.l1z) hx fun g2 m2 t2=>wpAny_pure ?_)
   have o2:IsPair g2 TO a b:=t2.extBut _ _ D.TOi1 (t1.extBut _ _ D.TOz hTO)
   refine wpAny_bind (wpAny_seqItems o2 rfl (wpAny_bind (wpAny_updateSeq_pair o2 fun g3 o3 t3=>wpAny_bind (wpAny_letGo (wpAny_pure ?_)))))
   refine wpAny_bind (wpAny_bind (wpAny_onRaise ?_))
   change wpAny (model prog w) A (Builtin.SmallTypes.nextOf (Value.ref i2)>>=_) _ _ _
   refine wpAny_bind (wpAny_nextOf_list_end hh (((h2.extBut t1.extBut D.i2z).extBut t2.extBut D.i12.symm).extBut t3.extBut D.TOi2.symm) (((hl2.extBut t1.extBut D.l2z).extBut t2.extBut D.l2i1).extBut t3.extBut D.l2TO) hy fun g4 e t4 he=>?_)
   obtain⟨oe,p1,p2⟩:=he
   have e4:ZAt g4 z TI TO .ellipsis b0:=t4 _ _ D.i2z.symm (t3.extBut _ _ D.TOz.symm (t2.extBut _ _ D.i1z.symm e1))
   have ez:e≠z:=fun q=>by subst q;rw[e4] at p1;cases p1;simp at p2
   exact wpAny_setField_rec e4 (by simp) fun g5 _ t5=>hE g5 e (fun c o c1 c2 c3 c4 q=>t5.extBut _ _ c1 (t4 _ _ c4 (t3.extBut _ _ c2 (t2.extBut _ _ c3 (t1.extBut _ _ c1 q))))) ⟨oe,t5.extBut _ _ ez p1,p2⟩
theorem a7C{TI TO i1 i2:Addr}{Q:Option Value->Shared->Prop}(D:ZipApart z TI TO i1 i2 l1 l2)(hz:ZAt s.heap z TI TO f0 b0)(hf:a5q f0)(hTI:IsPair s.heap TI (.ref i1) (.ref i2))(hTO:IsPair s.heap TO a b)
 (h1:s.heap.IsListIter i1 l1 k1) (h2:s.heap.IsListIter i2 l2 k2) (hl1:s.heap.IsList l1 xs) (hl2:s.heap.IsList l2 ys) (hx:xs[k1]? =some x) (hy:ys[k2]? =some y)
 (hQ:∀h' f1 b1,a5q f1->ZAt h' z TI TO f1 b1->(∃a b,IsPair h' TO a b)->h'.IsListIter i1 l1 (k1+1)->h'.IsListIter i2 l2 (k2+1)->IsPair h' s.heap.objs.size x y->h'.objs.size=s.heap.objs.size+1→
  (∀c o,c≠z->c≠TO->c≠i1->c≠i2->s.heap.get? c=some o->h'.get? c=some o)->Q (some (.ref s.heap.objs.size)) {s with heap:=h'}):wpAny (model prog w) A (pyNext (.ref z)) Q E s:=by
 have hT:s.TypeIs (.ref z) "zip":=⟨_,hz,rfl⟩
 unfold pyNext;exact wpAny_bind (wpAny_attempt (wpAny_callSpecial?_slot (name:=Str.ofString "__next__") hT F.slot_zip_next (wpAny_call_entry F.slot_zip_next hT F.entry_zip_next (a7e D hz hf hTI hTO h1 h2 hl1 hl2 hx hy fun h' f1 b1 q0 q1 q2 q3 q4 q5 q6 q7=>wpAny_pure (hQ h' f1 b1 q0 q1 q2 q3 q4 q5 q6 q7)) (F.args_zip_next_1 _))))
theorem a7U{TI TO i1 i2:Addr}{Q:Option Value->Shared->Prop}(hh:A.handled=none)(D:ZipApart z TI TO i1 i2 l1 l2)(hz:ZAt s.heap z TI TO f0 b0)(hf:a5q f0)(hTI:IsPair s.heap TI (.ref i1) (.ref i2))(hTO:IsPair s.heap TO a b)
 (h1:s.heap.IsListIter i1 l1 k1) (h2:s.heap.IsListIter i2 l2 k2) (hl1:s.heap.IsList l1 xs) (hl2:s.heap.IsList l2 ys) (hend:xs[k1]? =none∨ys[k2]? =none)
 (hQ:∀h',(∀c o,c≠z->c≠TO->c≠i1->c≠i2->s.heap.get? c=some o->h'.get? c=some o)->Q none {s with heap:=h'}):wpAny (model prog w) A (pyNext (.ref z)) Q E s:=by
 have hT:s.TypeIs (.ref z) "zip":=⟨_,hz,rfl⟩
 unfold pyNext;refine wpAny_bind (wpAny_attempt (wpAny_callSpecial?_slot (name:=Str.ofString "__next__") hT F.slot_zip_next (wpAny_call_entry F.slot_zip_next hT F.entry_zip_next (a8h hh D hz hf hTI hTO h1 h2 hl1 hl2 hend fun h' e hk he=>?_) (F.args_zip_next_1 _))))
 obtain⟨o,ho,hc⟩:=he;exact wpAny_bind (wpAny_isInstance (T:="StopIteration") (b:=true) ⟨o,ho,hc⟩ isSubtype_stop (wpAny_pure (hQ _ hk)))
end
end PySem
namespace L2
open PySem PySem.Spec PyProof.Rows
variable{P:Program}{w:World}{K:PySem.W.Frag}{pos:Pos}
theorem a7i{nm:Str}(z TI TO i1 i2 l1 l2:Addr)(D:ZipApart z TI TO i1 i2 l1 l2):
 Turn P w K (.Name nm pos) (Itz K l1 l2) [z,TI,TO,i1,i2] z (fun i h=>(∃f0 b0,a5q f0/\ZAt h z TI TO f0 b0)/\IsPair h TI (.ref i1) (.ref i2)/\(∃a b,IsPair h TO a b)/\h.IsListIter i1 l1 i/\h.IsListIter i2 l2 i) where
 mem:=by simp
 obj:=fun i h st b hb=>by
  obtain⟨⟨f0,b0,hf0,hz⟩,hTI,⟨a,c,hTO⟩,⟨o1,e1,c1,d1⟩,⟨o2,e2,c2,d2⟩⟩:=st;simp only[aH,not_mem_nil,or_false] at hb
  rcases hb with rfl|rfl|rfl|rfl|rfl
  · exact⟨_,hz,fun v q=>by have q':Data.fields _=Data.cell v:=q;cases q'⟩
  · exact⟨_,hTI,fun v q=>by have q':Data.seq _ _=Data.cell v:=q;cases q'⟩
  · exact⟨_,hTO,fun v q=>by have q':Data.seq _ _=Data.cell v:=q;cases q'⟩
  · exact⟨o1,e1,fun v q=>by rw[d1] at q;cases q⟩
  · exact⟨o2,e2,fun v q=>by rw[d2] at q;cases q⟩
 keep:=fun i h h' st k=>by
  obtain⟨⟨f0,b0,hf0,hz⟩,hTI,⟨a,c,hTO⟩,h1,h2⟩:=st;exact⟨⟨f0,b0,hf0,k z (by simp) _ hz⟩,k TI (by simp) _ hTI,⟨a,c,k TO (by simp) _ hTO⟩,h1.at fun o x=>k i1 (by simp) o x,h2.at fun o x=>k i2 (by simp) o x⟩
 item:=by
  intro X hP hw hK hc i pins s σ H E I hf st hg;subst hP hw hK;obtain⟨⟨f0,b0,hf0,hz⟩,hTI,⟨a,c,hTO⟩,h1,h2⟩:=st;obtain⟨xs,ys,x,y,hq1,hq2,hx,hy⟩:=hg;obtain⟨its,rv,p,hz1⟩:=I.list hq1;obtain⟨its',rv',p',hz2⟩:=I.list hq2;obtain⟨u,hu,ru⟩:=rv.get hx;obtain⟨u',hu',ru'⟩:=rv'.get hy
  have hzlt:z<s.heap.objs.size:=Heap.lt_size hz
  refine a7C D hz hf0 hTI hTO h1 h2 p.isList p'.isList (x:=u) (y:=u') (by simpa using hu) (by simpa using hu') fun h3 f1 b1 a0 a1 a2 a3 a4 a5 a6 hk=>?_
  refine⟨_,rfl,wpAny_pure ?_⟩
  have kk:∀b o,b∉[z,TI,TO,i1,i2]->s.heap.get? b=some o->h3.get? b=some o:=fun b o hb q=>by
   have n1:b≠z:=fun w=>hb (by simp[w])
   exact(hk b o n1 (fun w=>hb (by simp[w])) (fun w=>hb (by simp[w])) (fun w=>hb (by simp[w])) q)
  have hT3:h3.get? s.heap.objs.size=some {cls:=.type "tuple",data:=.seq #[u,u']}:=a5
  have I1:Inv X pins σ (upd H s.heap.objs.size (.tup [x,y])) {s with heap:=h3,toks:=s.toks}:=
   I.turnedN (fp:=[z,TI,TO,i1,i2]) hf kk (ai _) ⟨by show 2<=sizeLine;decide,[u,u'],.cons ru (.cons ru' .nil),_,hT3,rfl,rfl,_,rfl⟩
  refine⟨.ref s.heap.objs.size,_,I1,rfl,⟨s.heap.objs.size,x,y,I.hok.fresh (ai _),rfl,fun zs hy=>by rw[I.list_inj hy hq1];exact hx,fun zs hy'=>by rw[I.list_inj hy' hq2];exact hy,rfl⟩,
   ⟨⟨f1,b1,a0,a1⟩,hk _ _ D.TIz D.TITO D.TIi1 D.TIi2 hTI,a2,a3,a4⟩,fun b hb=>?_⟩
  have hbs:b<s.heap.objs.size:=by
   obtain⟨o1,e1,_⟩:=h1;obtain⟨o2,e2,_⟩:=h2;simp only[aH,not_mem_nil,or_false] at hb
   rcases hb with rfl|rfl|rfl|rfl|rfl
   · exact hzlt
   · exact Heap.lt_size hTI
   · exact Heap.lt_size hTO
   · exact Heap.lt_size e1
   · exact Heap.lt_size e2
  rw[d9 (Nat.ne_of_lt hbs)];exact(hf b hb).1
 done:=by
  intro X hP hw hK hc i pins s σ H E I hf st hg;subst hP hw hK;obtain⟨⟨f0,b0,hf0,hz⟩,hTI,⟨a,c,hTO⟩,h1,h2⟩:=st;obtain⟨xs,ys,hq1,hq2,hx⟩:=hg;obtain⟨its,rv,p,hz1⟩:=I.list hq1;obtain⟨its',rv',p',hz2⟩:=I.list hq2;have hl:=rv.length
  have hl':=rv'.length
  refine a7U (I.ok.hd hc) D hz hf0 hTI hTO h1 h2 p.isList p'.isList ?_ fun h' eb=>⟨rfl,I.turnedF (t':=s.toks) hf fun b o hb q=>eb b o (fun z=>hb (by simp[z])) (fun z=>hb (by simp[z])) (fun z=>hb (by simp[z])) (fun z=>hb (by simp[z])) q⟩
  rcases hx with hx|hx
  · exact .inl (by simp;omega)
  · exact .inr (by simp;omega)
 self:=fun A i s Q E st h=>by
  obtain⟨⟨f0,b0,hf0,hz⟩,_⟩:=st
  have hT:s.TypeIs (.ref z) "zip":=⟨_,hz,rfl⟩
  refine wpAny_pyIter_slot hT F.slot_zip_iter (wpAny_call_entry F.slot_zip_iter hT F.entry_zip_iter ?_ (F.args_zip_iter_1 _))
  change wpAny (model P w) _ (ret (.ref z)) _ E s
  exact wpAny_pure ⟨_,rfl,"zip",_,hT,F.slot_zip_next.lookup,h⟩
variable{ta:TA}{p:Pos}
section
variable{X:Cx}{nm:Str}{tpos:Pos}
theorem b1z{a b:Expr}(hg:Gl X "zip")(hm:X.mg "zip"=none)(ha:PA X [a,b] ta)(hs:starEach [a,b] X.env=(false,eval a X.env)::starEach [b] X.env)(hp:(backTo pos (starEach [b] X.env)).any (·.1)=false):
 PI X (.Name nm tpos) (.Call (.Name "zip" p) [a,b] [] pos) (b7i X.K ta):=by
 intro pins s σ H R I h;refine Call_ (Y9 I hg hm boot_zip (PyProof.Rows.callWith_type1 (thn (ha pos pins s σ H _ I h) fun us s1 ⟨vs,H1,I1,r1,q1⟩=>?_) hs hp))
 obtain⟨l1,l2,xs,ys,e,hq1,hq2,q⟩:=q1;subst e;obtain⟨u,u',rfl,ru,ru'⟩:=a2A r1;cases ru;cases ru';obtain⟨its,rv,pl,hz⟩:=I1.list hq1;obtain⟨its',rv',pl',hz'⟩:=I1.list hq2;refine call_zip_2 pl.isList pl'.isList fun h' a1 a2 a3 a4 a5 a6 hk=>?_
 have I2:Inv X pins σ H1 {s1 with heap:=h'}:=I1.kept (t':=s1.toks) hk
 have lt1:l1<s1.heap.objs.size:=by obtain⟨o,e,_⟩:=pl.isList;exact Heap.lt_size e
 have lt2:l2<s1.heap.objs.size:=by obtain⟨o,e,_⟩:=pl'.isList;exact Heap.lt_size e
 refine wpAny_pyIter_zip a1 ⟨s1.heap.objs.size+4,[s1.heap.objs.size+4,s1.heap.objs.size+2,s1.heap.objs.size+3,s1.heap.objs.size,s1.heap.objs.size+1],_,_,H1,rfl,I2,a7i _ _ _ _ _ l1 l2 (zipApart_new lt1 lt2),⟨⟨.none,false,.inl rfl,a1⟩,a2,⟨_,_,a3⟩,a4,a5⟩,fun b hb=>?_,q⟩
 have hb':s1.heap.objs.size<=b:=by
  simp only[aH,not_mem_nil,or_false] at hb
  rcases hb with rfl|rfl|rfl|rfl|rfl
  · exact Nat.le_add_right _ _
  · exact Nat.le_add_right _ _
  · exact Nat.le_add_right _ _
  · exact ai _
  · exact Nat.le_add_right _ _
 exact I1.fpOk hb' (I1.hok.fresh hb')
end
section
variable{X:Cx}
def b1n:V->List V->Hp->VK->Prop:=fun x vs H Q=>∃l xs i y,x=.ref l/\vs=[.int i,y]/\H l=some (.lst xs)/\0<=i/\i<=xs.length/\xs.length<sizeLine/\Q .non (upd H l (.lst (xs.take i.toNat++y::xs.drop i.toNat)))
theorem a7E:MtM X "list.insert" b1n:=by
 intro pins s σ H x vs v us Q I rx rv h;obtain⟨l,xs,i,y,rfl,rfl,hH,h1,h2,hz,q⟩:=h;cases rx;obtain⟨u1,u2,rfl,r1,r2⟩:=L2.a2A rv;obtain⟨t,rfl⟩:=r1;obtain⟨z,its,n,r,hl,e⟩:=I.lstM hH
 have hs:sizeLine<2^62:=by rw[sizeLine_eq];decide
 have hf:Builtin.List.listFitsIndex i=true:=fitsIndex_both (by omega) (by omega)
 refine call_meets F.slot_list_insert ⟨_,e,rfl⟩ F.entry_list_insert (F.args_list_insert_3 _ _ _)
  (AutoListH.list_insert_list_int_val_1 l its.toArray n i t u2 (by rw[hf];decide) (by rw[size_toArray];omega)) ⟨e,?_⟩
 refine⟨.non,_,I.lset (its':=its.take i.toNat++u2::its.drop i.toNat) hH e ?_ ((l7.take _ r).append (.cons r2 (l7.drop _ r))) ?_,rfl,q⟩
 · show(its.toArray.extract 0 (if i<0 then(i+((its.toArray.size:Nat):Int)).toNat else min i.toNat its.toArray.size)).push u2++its.toArray.extract (if i<0 then(i+((its.toArray.size:Nat):Int)).toNat else min i.toNat its.toArray.size)=_
   rw[az (by omega),bq (by rw[size_toArray];omega)]
   apply Array.ext'
   simp;exact br (by simp)
 · rw[aq,length_cons,aQ,bF];omega
end
variable{u:Value}{vs:List (Key×Value)}{h:Heap}{a:Addr}
section
variable{X:Cx}{pins:List (Addr×Obj)}{σ:St}{H:Hp}{s:Shared}{d:Addr}{od:Obj}{l:List (Key×V)}
theorem b4K{k:Key}(h:a2a k u=true):l8 (kV k) u:=by
 rcases z7 h with⟨i,t,rfl,rfl⟩|⟨x,t,rfl,rfl⟩
 · exact⟨t,rfl⟩
 · exact⟨t,rfl⟩
theorem KV.at(r:KV l vs):∀{i:Nat} {p:Key×V},l[i]? =some p->∃u,vs[i]? =some (p.1,u)/\l8 p.2 u:=by
 induction r with
 |nil=>intro i p h;cases i<;>cases h
 | @cons a b as bs h t ih=>
  intro i p e
  cases i with
  |zero=>
   cases ax e
   exact⟨b.2,by show some b=_;rw[h.1],h.2⟩
  |succ i=>exact ih e
theorem Inv.freeze(I:Inv X pins σ H s)(hd:H d=some (.dK l)):∃od vs ep,s.heap.get? d=some od/\od.ExactDict/\(d==sysModules)=false/\KV l vs/\(∀h:Heap,h.get? d=some od->h.DictAt (o9 X.prog X.w) d vs ep)∧
 (∀o u,X.H₀ d≠some (.frz o u))/\Inv X pins σ (upd H d (.frz od (.dK l))) s:=by
 obtain⟨z,nd,vs,kv,o,es,ep,e,r⟩:=I.hok d _ hd;refine⟨o,vs,ep,e,r.1,nd,kv,fun h q=>⟨o,es,q,r⟩,fun o' u q=>?_,?_⟩
 · have:=I.base.frzs d o' u q
   rw[hd] at this;cases this
 · exact I.write (t':=s.toks) (h':=s.heap) (by rw[hd];exact trivial) (.inl rfl) (fun _ _ _ q=>q) ⟨_,e⟩ ⟨e,z,nd,vs,kv,o,es,ep,e,r⟩
theorem x5.thaw{x u:HO}(hd:H d=some (.frz od u)):∀{o:HO},x5 P w H h a o->x5 P w (upd H d x) h a o:=by
 intro o
 have ne:∀{b:Addr} {v:HO},H b=some v->(∀o' u',v≠.frz o' u')->upd H d x b=some v:=fun{b v} e n=>by
  have:b≠d:=fun z=>by
   rw[z,hd] at e;exact n _ _ (ax e).symm
  rw[d9 this];exact e
 induction o with
 |dT kvs=>
  rintro⟨z,nd,xs,pr,r⟩;refine⟨z,nd,xs,?_,r⟩
  clear r z
  induction pr with
  |nil=>exact .nil
  |cons q t ih=>exact .cons ⟨q.1,ne q.2.1 (fun _ _=>nofun),q.2.2⟩ ih
 |ins C dx fs=>rintro⟨e,r⟩;exact⟨ne e (fun _ _=>nofun),r⟩
 |frz o' u' ih=>rintro⟨e,r⟩;exact⟨e,ih r⟩
 |_=>exact id
theorem Inv.thaw(I:Inv X pins σ H s)(hd:H d=some (.frz od (.dK l)))(h0:∀o u,X.H₀ d≠some (.frz o u)):Inv X pins σ (upd H d (.dK l)) s:=by
 have nd:∀{b:Addr},H b=none->upd H d (.dK l) b=none:=fun{b} e=>by
  rw[d9 (fun z=>by rw[z,hd] at e;cases e)];exact e
 have ne:∀{b:Addr} {v:HO},H b=some v->(∀o' u',v≠.frz o' u')->upd H d (.dK l) b=some v:=fun{b v} e n=>by
  rw[d9 (fun z=>by
   rw[z,hd] at e;exact n _ _ (ax e).symm)];exact e
 refine⟨I.ok,I.os,I.bare,⟨I.base.keep,I.base.slot,fun b o e n hx=>nd (I.base.free b o e n hx),I.base.there,fun b xs e=>ne (I.base.tups b xs e) (fun _ _=>nofun),fun b o u e=>?_,fun b ps e=>?_⟩,I.loc,I.cell,nd I.free,fun x c e=>nd (I.freeC x c e),fun p hp=>?_,fun a o e=>?_,I.len⟩
 · rw[d9 (fun z=>h0 o u (by rw[←z];exact e))]
   exact I.base.frzs b o u e
 · obtain⟨m,e⟩:=I.base.tbls b ps e;exact⟨m,ne e (fun _ _=>nofun)⟩
 · obtain⟨a1,a2,a3⟩:=I.pin p hp;exact⟨a1,nd a2,a3⟩
 · by_cases z:a=d
   · subst z;rw[d8] at e;cases e;exact x5.thaw hd (I.hok a _ hd).2
   · rw[d9 z] at e;exact x5.thaw hd (I.hok a o e)
end
def Itd(d:Addr)(od:Obj)(l:List (Key×V)):It:=⟨fun i H=>H d=some (.frz od (.dK l))/\∃p,l[i]? =some p,fun i H v H'=>∃T p,H T=none/\v=.ref T/\l[i]? =some p/\H'=upd H T (.tup [kV p.1,p.2]),fun i H=>H d=some (.frz od (.dK l))/\l.length<=i⟩
variable{elts:List Expr}{it:Addr}{d:Addr}
theorem a5u{k:Nat}{od:Obj}{l:List (Key×V)}{ep:Nat}(kv:KV l vs)(hne:d≠it)(hat:∀h:Heap,h.get? d=some od->h.DictAt (o9 P w) d vs ep):
 Turn P w K (.Tuple elts k pos) (Itd d od l) [it] it (fun i h=>∃ok ov,IsItemIter h it d i vs.length ep ok ov) where
 mem:=by simp
 obj:=fun i h st b hb=>by
  obtain⟨ok,ov,he⟩:=st;obtain rfl:=aW.mp hb;exact⟨_,he,fun v q=>by have q':Data.fields _=Data.cell v:=q;cases q'⟩
 keep:=fun i h h' st k=>by
  obtain⟨ok,ov,he⟩:=st;exact⟨ok,ov,k it (by simp) _ he⟩
 item:=by
  intro X hP hw hK hc i pins s σ H E I hf st hg;subst hP hw hK;obtain⟨ok,ov,he⟩:=st;obtain⟨hd,p,hp⟩:=hg;have hm:=hat s.heap (I.hok d _ hd).1;obtain⟨u,hu,ru⟩:=kv.at hp
  have hlt:it<s.heap.objs.size:=Heap.lt_size he
  refine wpAny_pyNext_items_item he hm hu fun key h' hkey ho hT hsz hk=>?_
  refine⟨_,rfl,wpAny_letOwnedTupleGo_items ho fun h3 he3 hs3=>?_⟩
  have kk:∀b o,b∉[it]->s.heap.get? b=some o->h3.get? b=some o:=fun b o hb q=>by
   have n1:b≠it:=fun w=>hb (by simp[w])
   exact(hs3.2 b n1).trans (hk b o n1 q)
  have hT3:h3.get? s.heap.objs.size=some {cls:=.type "tuple",data:=.seq #[key,u]}:=(hs3.2 _ (Nat.ne_of_gt hlt)).trans hT
  have I1:Inv X pins σ (upd H s.heap.objs.size (.tup [kV p.1,p.2])) {s with heap:=h3,toks:=s.toks}:=
   I.turnedN (fp:=[it]) hf kk (ai _) ⟨by show 2<=sizeLine;decide,[key,u],.cons (b4K hkey) (.cons ru .nil),_,hT3,rfl,rfl,_,rfl⟩
  refine⟨.ref s.heap.objs.size,_,I1,rfl,⟨s.heap.objs.size,p,I.hok.fresh (ai _),rfl,hp,rfl⟩,⟨_,_,he3⟩,fun b hb=>?_⟩
  obtain rfl:=aW.mp hb;rw[d9 (Nat.ne_of_lt hlt)];exact(hf b (by simp)).1
 done:=by
  intro X hP hw hK hc i pins s σ H E I hf st hg;subst hP hw hK;obtain⟨ok,ov,he⟩:=st;have hm:=hat s.heap (I.hok d _ hg.1).1;have hl:=kv.length;refine wpAny_pyNext_items_end (I.ok.hd hc) he hm (bg (by have:=hg.2;omega)) fun h' eb=>⟨rfl,I.turnedF (t':=s.toks) hf fun b o hb q=>eb b o (fun z=>hb (by simp[z])) q⟩
 self:=fun A i s Q E st h=>by
  obtain⟨ok,ov,he⟩:=st;exact PySem.W.kcp_self he h
section
variable{X:Cx}{k:Nat}{tpos:Pos}{o:Expr}{to:TE}{apos cpos:Pos}
def a5T(H₀:Hp)(to:TE):TI:=fun σ H R=>to σ H fun v H1=>∃d l,v=.ref d/\H1 d=some (.dK l)/\∀od,(∀o u,H₀ d≠some (.frz o u))->R (Itd d od l) (upd H1 d (.frz od (.dK l)))
theorem a8Y(ho:PE X o to)(hbase:attributeBase o "items" X.env (eval o X.env)=eval o X.env:=by rfl)(hline:(apos.endLine==cpos.line)=true:=by rfl):
 PI X (.Tuple elts k tpos) (.Call (.Attribute o "items" apos) [] [] cpos) (a5T X.H₀ to):=by
 intro pins s σ H R I h;refine wpAny_Call_method0_late hbase hline (thn (ho pins s σ H _ I h) fun v s1 ⟨x,H1,I1,r1,d,l,ex,hd,q1⟩=>?_)
 subst ex;cases r1;obtain⟨od,vs,ep,e1,ex,nd,kv,hat,h0,I2⟩:=I1.freeze hd
 have ty:s1.TypeIs (.ref d) "dict":=⟨od,e1,ex.1⟩
 have hlt:d<s1.heap.objs.size:=Heap.lt_size e1
 refine⟨"dict","dict.items",PySem.F.plainAttrs_dict,PySem.F.slot_dict_items,PySem.F.type_dict_items,ty,fun a e=>?_,Calls.callWith_builtin rfl (PySem.evalArgs_none (call_meetsIn PySem.F.slot_dict_items ty PySem.F.entry_dict_items (PySem.F.args_dict_items_1 _) (meets_dict_items (o9 X.prog X.w) d nd) ⟨⟨vs,(hat _ e1).dictOf⟩,?_⟩))⟩
 · cases e;exact⟨od,e1,ex.2.1⟩
 have e2:(s1.heap.push {cls:=.type "dict_items",data:=.fields #[.ref d]}).get? d=some od:=Heap.get?_push_of_some _ e1
 refine wpAny_pyIter_items (knd:=o9 X.prog X.w) ⟨_,Heap.get?_push_size _ rfl,rfl,rfl⟩ (hat _ e2) ?_
 have hS:(s1.heap.push {cls:=.type "dict_items",data:=.fields #[.ref d]}).objs.size=s1.heap.objs.size+1:=Heap.size_push ..
 refine⟨(s1.heap.push {cls:=.type "dict_items",data:=.fields #[.ref d]}).objs.size,[(s1.heap.push {cls:=.type "dict_items",data:=.fields #[.ref d]}).objs.size],_,_,upd H1 d (.frz od (.dK l)),rfl,I2.kept (t':=s1.toks) (fun b u e=>Heap.get?_push_of_some _ (Heap.get?_push_of_some _ e)),a5u kv (Nat.ne_of_lt (by rw[hS];exact Nat.lt_succ_of_lt hlt)) hat,⟨_,_,Heap.get?_push_size _ rfl⟩,fun b hb=>?_,q1 od h0⟩
 obtain rfl:=aW.mp hb;exact I2.fpOk (by rw[hS];omega) (I2.hok.fresh (by rw[hS];omega))
end
variable{e:Expr}{st:Stmt}
section
variable{X:Cx}{elt iter tg:Expr}{ifs:List Expr}{scope:Scope}{own frees:List Str}{js:List Nat}{wi:TI}{g:TG}{tc:TT}{te:TE}
def a6k(H₀:Hp)(Q:Hp->Prop):Hp->Prop:=fun H=>∃d od l,H d=some (.frz od (.dK l))/\(∀o u,H₀ d≠some (.frz o u))/\Q (upd H d (.dK l))
noncomputable def b6m(H₀:Hp)(t:TE):TE:=fun σ H Q=>t σ H fun v=>a6k H₀ (Q v)
theorem b1D{t:TE}(h:PE X e t):PE X e (b6m X.H₀ t):=by
 intro pins s σ H Q I q;refine thn (h pins s σ H _ I q) fun v s1 ⟨x,H1,I1,r1,d,od,l,hd,h0,q1⟩=>?_
 exact⟨x,_,I1.thaw hd h0,r1,q1⟩
noncomputable def b6y(H₀:Hp)(t:TS):TS:=fun D=>t {D with nx:=fun σ=>a6k H₀ (D.nx σ)}
theorem b1s{t:TS}(h:PS X st t):PS X st (b6y X.H₀ t):=by
 intro pins s σ H D I q;refine thn (h pins s σ H _ I q) fun f s1 h1=>?_
 cases f with
 |next=>
  obtain⟨σ',H',I1,d,od,l,hd,h0,q1⟩:=h1;exact⟨σ',_,I1.thaw hd h0,q1⟩
 |brk=>exact h1
 |cont=>exact h1
 |ret u=>exact h1
end
end L2
namespace EV
open PySem L2
inductive D where
 |non|bl (b:Bool)|int (i:Int)|str (x:Str)|tup (l:List D)|ref (n:Nat)
 deriving Inhabited
mutual
def D.dec:(a b:D)->Decidable (a=b)
  | .non,b=>match b with
    |.non=>Decidable.isTrue rfl
    |.bl _=>Decidable.isFalse (fun h=>nomatch h)|.int _=>Decidable.isFalse (fun h=>nomatch h)|.str _=>Decidable.isFalse (fun h=>nomatch h)|.tup _=>Decidable.isFalse (fun h=>nomatch h)|.ref _=>Decidable.isFalse (fun h=>nomatch h)
  | .bl x,b=>match b with
    |.bl y=>if h:x=y then Decidable.isTrue (by rw[h]) else Decidable.isFalse (fun e=>h (by injection e))
    |.non=>Decidable.isFalse (fun h=>nomatch h)|.int _=>Decidable.isFalse (fun h=>nomatch h)|.str _=>Decidable.isFalse (fun h=>nomatch h)|.tup _=>Decidable.isFalse (fun h=>nomatch h)|.ref _=>Decidable.isFalse (fun h=>nomatch h)
  | .int x,b=>match b with
    |.int y=>if h:x=y then Decidable.isTrue (by rw[h]) else Decidable.isFalse (fun e=>h (by injection e))
    |.non=>Decidable.isFalse (fun h=>nomatch h)|.bl _=>Decidable.isFalse (fun h=>nomatch h)|.str _=>Decidable.isFalse (fun h=>nomatch h)|.tup _=>Decidable.isFalse (fun h=>nomatch h)|.ref _=>Decidable.isFalse (fun h=>nomatch h)
  | .str x,b=>match b with
    |.str y=>if h:x=y then Decidable.isTrue (by rw[h]) else Decidable.isFalse (fun e=>h (by injection e))
    |.non=>Decidable.isFalse (fun h=>nomatch h)|.bl _=>Decidable.isFalse (fun h=>nomatch h)|.int _=>Decidable.isFalse (fun h=>nomatch h)|.tup _=>Decidable.isFalse (fun h=>nomatch h)|.ref _=>Decidable.isFalse (fun h=>nomatch h)
  | .tup x,b=>match b with
    | .tup y=>match D.decs x y with
      |.isTrue h=>Decidable.isTrue (by rw[h])
      |.isFalse h=>Decidable.isFalse (fun e=>h (by injection e))
    |.non=>Decidable.isFalse (fun h=>nomatch h)|.bl _=>Decidable.isFalse (fun h=>nomatch h)|.int _=>Decidable.isFalse (fun h=>nomatch h)|.str _=>Decidable.isFalse (fun h=>nomatch h)|.ref _=>Decidable.isFalse (fun h=>nomatch h)
  | .ref x,b=>match b with
    |.ref y=>if h:x=y then Decidable.isTrue (by rw[h]) else Decidable.isFalse (fun e=>h (by injection e))
    |.non=>Decidable.isFalse (fun h=>nomatch h)|.bl _=>Decidable.isFalse (fun h=>nomatch h)|.int _=>Decidable.isFalse (fun h=>nomatch h)|.str _=>Decidable.isFalse (fun h=>nomatch h)|.tup _=>Decidable.isFalse (fun h=>nomatch h)
def D.decs:(a b:List D)->Decidable (a=b)
  | [],b=>match b with
    |[]=>Decidable.isTrue rfl
    |_::_=>Decidable.isFalse (fun h=>nomatch h)
  | x ::xs,b=>match b with
    |[]=>Decidable.isFalse (fun h=>nomatch h)
    | y ::ys=>match D.dec x y with
      | .isTrue h1=>match D.decs xs ys with
        |.isTrue h2=>Decidable.isTrue (by rw[h1,h2])
        |.isFalse h2=>Decidable.isFalse (fun e=>h2 (by injection e))
      |.isFalse h1=>Decidable.isFalse (fun e=>h1 (by injection e))
end
instance:DecidableEq D:=D.dec
inductive Cell where
 |lst (l:List D)|rol (l:List D)|rod (l:List (D×D))|dict (l:List (D×D))|obj (c:Nat) (fs:List (Str×D))|exc (c:Nat)
 deriving DecidableEq
abbrev AH:=List Cell
inductive R(α:Type)where
 |ok (a:α) (h:AH)|ex (c:Nat) (h:AH)|no
def R.bind{α β:Type}(r:R α)(k:α->AH->R β):R β:=match r with
 |.ok a h=>k a h
 |.ex c h=>.ex c h
 |.no=>.no
@[simp] theorem i6 {α β:Type} (a:α) (h:AH) (k:α->AH->R β):(R.ok a h).bind k=k a h:=rfl
@[simp] theorem b2R {α β:Type} (c:Nat) (h:AH) (k:α->AH->R β):(R.ex c h).bind k=.ex c h:=rfl
@[simp] theorem b2Q {α β:Type} (k:α->AH->R β):(R.no).bind k=.no:=rfl
mutual
def D.flat:D->Bool
  |.tup l=>D.flats l
  |.ref _=>false
  |_=>true
def D.flats:List D->Bool
  |[]=>true
  |d::r=>d.flat&&D.flats r
end
abbrev SL:Nat:=16777216
noncomputable def A4(c:Cell)(h:AH):R D:=.ok (.ref h.length) (h++[c])
noncomputable def rdL(h:AH)(n:Nat):Option (List D):=match h[n]? with
 |some (.lst l)=>some l
 |some (.rol l)=>some l
 |_=>none
noncomputable def a1n:Int->Bool
 |.ofNat n=>Nat.ble n 18446744073709551615
 |.negSucc n=>Nat.ble n 18446744073709551614
noncomputable def a0F:Int->Bool
 |.ofNat n=>Nat.ble n 16777216
 |.negSucc n=>Nat.ble n 16777216
theorem a1G:∀{i:Int},a1n i=true-> -(2^64)<i/\i<2^64
 |.ofNat n,h=>by
  have h:=Nat.le_of_ble_eq_true h
  show-(2^64)<(n:Int)/\(n:Int)<2^64
  omega
 |.negSucc n,h=>by
  have h:=Nat.le_of_ble_eq_true h;rw[Int.negSucc_eq];omega
theorem L8:∀{i:Int},a0F i=true-> -(2^62)<=i/\i<2^62
 |.ofNat n,h=>by
  have h:=Nat.le_of_ble_eq_true h
  show-(2^62)<=(n:Int)/\(n:Int)<2^62
  omega
 |.negSucc n,h=>by
  have h:=Nat.le_of_ble_eq_true h;rw[Int.negSucc_eq];omega
def O5(h:AH):D->D->R D
 |.int i,.int j=>.ok (.int (i+j)) h
 |.str x,.str y=>if x.length+y.length<=SL then .ok (.str (x++y)) h else .no
 |.ref a,.ref b=>match h[a]?,h[b]? with
  |some (.lst xs),some (.lst ys)=>if xs.length+ys.length<=SL then A4 (.lst (xs++ys)) h else .no
  |_,_=>.no
 |_,_=>.no
noncomputable def a6v(h:AH):D->D->R D
 |.int i,.int j=>.ok (.int (i-j)) h
 |_,_=>.no
def X1(h:AH):D->D->R D
 |.int i,.int j=>if(a1n i||a1n j)=true then .ok (.int (i*j)) h else .no
 |.ref a,.int k=>match h[a]? with
  |some (.lst xs)=>if a0F k=true/\xs.length*k.toNat<=SL then A4 (.lst (List.replicate k.toNat xs).flatten) h else .no
  |_=>.no
 |.str x,.int k=>if a0F k=true/\x.length*k.toNat<=SL then .ok (.str (C3 k.toNat x)) h else .no
 |_,_=>.no
noncomputable def M6(h:AH):D->D->R D
 |.int i,.int j=>if 0<j/\j<1073741824 then .ok (.int (i/j)) h else .no
 |_,_=>.no
noncomputable def F8(h:AH):D->D->R D
 |.int i,.int j=>if 0<j then .ok (.int (i%j)) h else .no
 |_,_=>.no
noncomputable def eqS:D->D->Option Bool
 |.non,.non=>some true|.non,.int _=>some false|.int _,.non=>some false|.non,.bl _=>some false|.bl _,.non=>some false|.non,.str _=>some false|.str _,.non=>some false
 |.int i,.int j=>some (decide (i=j))|.bl i,.bl j=>some (decide (i=j))|.str i,.str j=>some (decide (i=j))
 |.int _,.str _=>some false|.str _,.int _=>some false|.bl _,.str _=>some false|.str _,.bl _=>some false
 |_,_=>none
noncomputable def F9(p:Int->Int->Bool)(h:AH):D->D->R D
 |.int i,.int j=>.ok (.bl (p i j)) h
 |_,_=>.no
noncomputable def a3K(i j:Str):Bool:=!(Builtin.Str.occurrences j i 0 j.length 1).isEmpty
noncomputable def y7:D->Bool
 |.non=>true|.bl _=>true|.int _=>true|.str _=>true
 |_=>false
noncomputable def eqF:D->D->Bool
 |.non,.non=>true
 |.bl a,.bl b=>a==b
 |.bl a,.int b=>(if a then 1 else 0)==b
 |.int a,.bl b=>a==(if b then 1 else 0)
 |.int a,.int b=>a==b
 |.str a,.str b=>a==b
 |_,_=>false
def inD(x:D)(xs:List D):Bool:=xs.any fun y=>eqF y x
def a4Z:List D->List D->Bool
 |[],[]=>true
 |x::xs,y::ys=>eqF x y&&a4Z xs ys
 |_,_=>false
def a4X(h:AH):D->D->Option Bool
 |.ref i,.ref j=>match rdL h i,rdL h j with
  |some xs,some ys=>if xs.all y7&&ys.all y7 then some (a4Z xs ys) else none
  |_,_=>none
 |_,_=>none
def M4(h:AH)(a b:D):R D:=match eqS a b with
 |some c=>.ok (.bl c) h
 |none=>match a4X h a b with
  |some c=>.ok (.bl (c !=false)) h
  |none=>.no
def W8(h:AH)(a b:D):R D:=match eqS a b with
 |some c=>.ok (.bl (!c)) h
 |none=>match a4X h a b with
  |some c=>.ok (.bl (c !=true)) h
  |none=>.no
noncomputable def D9:D->Option Key
 |.int i=>some (.inl i)
 |.str x=>some (.inr x)
 |_=>none
def C9:List D->Option (List Key)
 |[]=>some []
 |d::r=>match D9 d,C9 r with
  |some k,some ks=>some (k::ks)
  |_,_=>none
def G8:D->Option Bool
 |.int _=>some false
 |.str _=>some false
 |.tup l=>if(C9 l).isSome then some true else none
 |_=>none
def C8(k:D)(kvs:List (D×D)):Bool:=(G8 k).isSome&&kvs.all fun p=>G8 p.1==G8 k
noncomputable def n8(kvs:List (D×D))(k:D):Option D:=(kvs.find? fun p=>decide (p.1=k)).map (·.2)
noncomputable def Y3(kvs:List (D×D))(k v:D):List (D×D):=if(kvs.any fun p=>decide (p.1=k))=true then kvs.map (fun p=>if p.1=k then(p.1,v) else p) else kvs++[(k,v)]
def M3(neg:Bool)(h:AH):D->D->R D
 |.str i,.str j=>.ok (.bl (a3K i j !=neg)) h
 |x,.tup xs=>if y7 x&&xs.all y7 then .ok (.bl (inD x xs !=neg)) h else .no
 |x,.ref n=>match h[n]? with
  |some (.lst xs)=>if y7 x&&xs.all y7 then .ok (.bl (inD x xs !=neg)) h else .no
  |some (.rol xs)=>if y7 x&&xs.all y7 then .ok (.bl (inD x xs !=neg)) h else .no
  |some (.dict kvs)=>if C8 x kvs then .ok (.bl ((n8 kvs x).isSome !=neg)) h else .no
  |_=>.no
 |_,_=>.no
inductive B where
 |add|sub|mul|div|mod|eq|ne|lt|le|gt|ge|isin|notin
 deriving DecidableEq
def op2(o:B)(h:AH)(a b:D):R D:=match o with
 |.add=>O5 h a b|.sub=>a6v h a b|.mul=>X1 h a b|.div=>M6 h a b|.mod=>F8 h a b
 |.eq=>M4 h a b|.ne=>W8 h a b
 |.lt=>F9 (fun i j=>decide (i<j)) h a b|.le=>F9 (fun i j=>decide (i<=j)) h a b|.gt=>F9 (fun i j=>decide (j<i)) h a b|.ge=>F9 (fun i j=>decide (j<=i)) h a b
 |.isin=>M3 false h a b|.notin=>M3 true h a b
def ixD (h:AH):D->D->R D
 |.tup xs,.int i=>match atI xs i with
  |some d=>.ok d h
  |none=>.no
 |.str x,.int i=>if x.length<=SL then(match atI x.cps.toList i with
  |some c=>.ok (.str ⟨#[c]⟩) h
  |none=>.no) else .no
 | .ref n,k=>match h[n]? with
  | some (.lst xs)=>(match k with
   |.int i=>(match atI xs i with
    |some d=>.ok d h
    |none=>.no)
   |_=>.no)
  | some (.rol xs)=>(match k with
   |.int i=>(match atI xs i with
    |some d=>.ok d h
    |none=>.no)
   |_=>.no)
  |some (.dict kvs)=>if C8 k kvs then(match n8 kvs k with
   |some d=>.ok d h
   |none=>.no) else .no
  |_=>.no
 |_,_=>.no
def O0(xs:List D)(lo hi:Option Int):List D:=(xs.drop (HT.sIx xs.length 0 lo)).take (HT.sIx xs.length xs.length hi-HT.sIx xs.length 0 lo)
def slD(h:AH)(lo hi:Option Int):D->R D
 |.str x=>if x.length<=SL then .ok (.str (Txt.slice x lo hi)) h else .no
 |.ref n=>match rdL h n with
  |some xs=>A4 (.lst (O0 xs lo hi)) h
  |none=>.no
 |_=>.no
noncomputable def T7(h:AH)(f:Str):D->R D
 | .ref n=>match h[n]? with
  |some (.obj _ fs)=>(match fs.lookup f with
   |some d=>.ok d h
   |none=>.no)
  |_=>.no
 |_=>.no
inductive Bi where
 |len|str|int|list|tuple|all|any|dict
 deriving DecidableEq
noncomputable def a5n:List D->Option (List Bool)
 |[]=>some []
 |.bl b::r=>(a5n r).map (b:: ·)
 |_::_=>none
noncomputable def a1C:List D->Option (List Str)
 |[]=>some []
 |.str x::r=>(a1C r).map (x:: ·)
 |_::_=>none
def a7u:List D->Option (List (D×D))
 |[]=>some []
 |.tup [k,v]::r=>if(D9 k).isSome then(a7u r).map ((k,v):: ·) else none
 |_::_=>none
def biD (b:Bi) (h:AH):List D->R D
 | [.str x]=>match b with
  |.len=>if x.length<=SL then .ok (.int x.length) h else .no
  |.int=>if x.length<=640 then(match PySem.intText? x with
   |some n=>.ok (.int n) h
   |none=>.no) else .no
  |_=>.no
 |[.tup xs]=>match b with
  |.len=>.ok (.int xs.length) h
  |.list=>A4 (.lst xs) h
  |.tuple=>.ok (.tup xs) h
  |_=>.no
 |[.int i]=>match b with
  |.str=>if i.natAbs.log2<1920 then .ok (.str (toString i)) h else .no
  |.int=>.ok (.int i) h
  |_=>.no
 |[.bl k]=>match b with
  |.int=>.ok (.int (if k then 1 else 0)) h
  |_=>.no
 | [.ref n]=>match h[n]? with
  |some (.dict kvs)=>(match b with
   |.len=>if C8 (.int 0) kvs then .ok (.int kvs.length) h else .no
   |_=>.no)
  | _=>match rdL h n with
   | some xs=>(match b with
    |.len=>.ok (.int xs.length) h
    |.list=>A4 (.lst xs) h
    |.tuple=>.ok (.tup xs) h
    |.all=>(match a5n xs with
     |some bs=>.ok (.bl (bs.all id)) h
     |none=>.no)
    |.any=>(match a5n xs with
     |some bs=>.ok (.bl (bs.any id)) h
     |none=>.no)
    |.dict=>(match a7u xs with
     |some kvs=>A4 (.dict (kvs.foldl (fun a p=>Y3 a p.1 p.2) [])) h
     |none=>.no)
    |_=>.no)
   |none=>.no
 |_=>.no
inductive Mt where
 |append|split|join|starts|insert
 deriving DecidableEq
def mtD (b:Mt) (h:AH):D->List D->R D
 |.ref n,[d]=>match b,h[n]? with
  |.append,some (.lst xs)=>if xs.length<SL then .ok .non (h.set n (.lst (xs++[d]))) else .no
  |_,_=>.no
 |.ref n,[.int i,d]=>match b,h[n]? with
  |.insert,some (.lst xs)=>if 0<=i/\i<=xs.length/\xs.length<SL then .ok .non (h.set n (.lst (xs.take i.toNat++d::xs.drop i.toNat))) else .no
  |_,_=>.no
 |.str x,[.str y]=>match b with
  |.split=>if 0<y.length/\x.length+2<=SL then A4 (.lst ((Txt.split x y).map D.str)) h else .no
  |.starts=>.ok (.bl (Txt.startswith x y)) h
  |_=>.no
 | .str x,[.ref n]=>match b with
  | .join=>(match rdL h n with
   |some xs=>(match a1C xs with
    |some ts=>if JoinOk x ts=true then .ok (.str (Txt.join x ts)) h else .no
    |none=>.no)
   |none=>.no)
  |_=>.no
 |_,_=>.no
def mtT(b:Mt)(h:AH):D->Bool
 |.str _=>match b with
  |.split=>true|.join=>true|.starts=>true
  |_=>false
 |.ref n=>match b with
  |.append=>(rdL h n).isSome
  |.insert=>(rdL h n).isSome
  |_=>false
 |_=>false
def S4 (h:AH) (o i v:D):R Unit:=match o with
 | .ref n=>match h[n]? with
  | some (.lst xs)=>(match i with
   |.int k=>(match ixN xs.length k with
    |some j=>.ok () (h.set n (.lst (xs.set j v)))
    |none=>.no)
   |_=>.no)
  |some (.dict kvs)=>if C8 i kvs=true/\kvs.length<SL then .ok () (h.set n (.dict (Y3 kvs i v))) else .no
  |_=>.no
 |_=>.no
noncomputable def a2J(f:Str)(v:D):List (Str×D)->List (Str×D)
 |[]=>[(f,v)]
 |(g,x)::r=>if g=f then(g,v)::r else(g,x)::a2J f v r
def a3v(h:AH)(o:D)(f:Str)(v:D):R Unit:=match o with
 |.ref n=>match h[n]? with
  |some (.obj c fs)=>if fs.length<1000 then .ok () (h.set n (.obj c (a2J f v fs))) else .no
  |_=>.no
 |_=>.no
theorem D.ind{P:D->Prop}{Q:List D->Prop}(h0:P .non)(h1:∀b,P (.bl b))(h2:∀i,P (.int i))(h3:∀x,P (.str x))(h4:∀l,Q l->P (.tup l))(h5:∀n,P (.ref n))(q0:Q [])(q1:∀d r,P d->Q r->Q (d::r)):
 (∀d,P d)/\∀l,Q l:=
 ⟨fun d=>D.rec (motive_1:=P) (motive_2:=Q) h0 h1 h2 h3 h4 h5 q0 q1 d,fun l=>by
  induction l with
  |nil=>exact q0
  |cons d r ih=>exact q1 d r (D.rec (motive_1:=P) (motive_2:=Q) h0 h1 h2 h3 h4 h5 q0 q1 d) ih⟩
mutual
def Rp(m:List Addr)(H:Hp):D->V->Prop
  |.non,v=>v=.non
  |.bl b,v=>v=.bl b
  |.int i,v=>v=.int i
  |.str x,v=>v=.str x
  |.tup l,v=>∃a vs,v=.ref a/\H a=some (.tup vs)/\Rps m H l vs
  |.ref n,v=>∃a,v=.ref a/\m[n]? =some a
def Rps(m:List Addr)(H:Hp):List D->List V->Prop
  |[],vs=>vs=[]
  |d::r,vs=>∃v t,vs=v::t/\Rp m H d v/\Rps m H r t
end
def Im:HO->Prop
 |.tup _=>True
 |.frz _ _=>True
 |_=>False
def Imt:HO->Prop
 |.tup _=>True
 |_=>False
theorem imt{o:HO}(h:Imt o):Im o:=by cases o<;>first|exact h.elim|trivial
abbrev KIm(H H':Hp):Prop:=∀b o,Imt o->H b=some o->H' b=some o
structure Keep(m m':List Addr)(H H':Hp):Prop where
 imm:∀b o,Im o->H b=some o->H' b=some o
 out:∀b o,b∉m->H b=some o->H' b=some o
 fr:∀a,a∈m'->a∈m∨H a=none
variable{m:List Addr}{m':List Addr}{H:Hp}{H':Hp}
theorem Keep.im(k:Keep m m' H H'):KIm H H':=fun b o i h=>k.imm b o (imt i) h
theorem Keep.refl(m:List Addr)(H:Hp):Keep m m H H:=⟨fun _ _ _ h=>h,fun _ _ _ h=>h,fun _ h=>.inl h⟩
variable{m1:List Addr}{H1:Hp}
theorem Keep.trans{m2:List Addr}{H2:Hp}(a:Keep m m1 H H1)(b:Keep m1 m2 H1 H2):Keep m m2 H H2:=by
 refine⟨fun c o i h=>b.imm c o i (a.imm c o i h),fun c o n h=>b.out c o (fun z=>?_) (a.out c o n h),fun c h=>?_⟩
 · rcases a.fr c z with q|q
   · exact n q
   · rw[h] at q;cases q
 · rcases b.fr c h with q|q
   · exact a.fr c q
   · by_cases hc:c∈m
     · exact .inl hc
     · cases e:H c with
       |none=>exact .inr rfl
       |some o=>rw[a.out c o hc e] at q;cases q
theorem Keep.new{p:Addr}{o:HO}(hp:H p=none):Keep m m H (upd H p o):=
 ⟨fun b ob _ h=>by rw[d9 (n5 h hp)];exact h,fun b ob _ h=>by rw[d9 (n5 h hp)];exact h,fun _ h=>.inl h⟩
theorem Keep.newc{p:Addr}{o:HO}(hp:H p=none):Keep m (m++[p]) H (upd H p o):=
 ⟨fun b ob _ h=>by rw[d9 (n5 h hp)];exact h,fun b ob _ h=>by rw[d9 (n5 h hp)];exact h,fun a h=>by
  rcases aO.mp h with q|q
  · exact .inl q
  · simp at q;subst q;exact .inr hp⟩
variable{o':HO}
theorem Keep.put{p:Addr}{o:HO}{k:Nat}(hm:m[k]? =some p)(hp:H p=some o)(ni:¬Im o):Keep m m H (upd H p o'):=by
 refine⟨fun b ob i h=>?_,fun b ob n h=>?_,fun _ h=>.inl h⟩
 · have:b≠p:=fun e=>by rw[e,hp] at h;cases h;exact ni i
   rw[d9 this];exact h
 · have:b≠p:=fun e=>n (by rw[e];exact aI hm)
   rw[d9 this];exact h
theorem Keep.tup{m m':List Addr}{H H':Hp}(k:Keep m m' H H'){a:Addr}{vs:List V}(h:H a=some (.tup vs)):H' a=some (.tup vs):=k.imm a _ trivial h
abbrev Pre(m m':List Addr):Prop:=∃t,m'=m++t
theorem Pre.refl(m:List Addr):Pre m m:=⟨[],by simp⟩
theorem Pre.trans{a b c:List Addr}(h:Pre a b)(k:Pre b c):Pre a c:=by
 obtain⟨t,rfl⟩:=h;obtain⟨u,rfl⟩:=k;exact⟨t++u,by simp⟩
theorem Pre.snoc(m:List Addr)(p:Addr):Pre m (m++[p]):=⟨[p],rfl⟩
variable{n:Nat}{a:Addr}
theorem Pre.get(h:Pre m m')(e:m[n]? =some a):m'[n]? =some a:=by
 obtain⟨t,rfl⟩:=h;rw[av (ac.mp e).1];exact e
theorem a1p(p:Pre m m')(k:KIm H H'):(∀d v,Rp m H d v->Rp m' H' d v)/\∀l vs,Rps m H l vs->Rps m' H' l vs:=by
 refine D.ind (P:=fun d=>∀v,Rp m H d v->Rp m' H' d v) (Q:=fun l=>∀vs,Rps m H l vs->Rps m' H' l vs) ?_ ?_ ?_ ?_ ?_ ?_ ?_ ?_
 · intro v h;exact h
 · intro b v h;exact h
 · intro b v h;exact h
 · intro b v h;exact h
 · rintro l ih v ⟨a,vs,rfl,e,q⟩;exact⟨a,vs,rfl,k _ _ trivial e,ih vs q⟩
 · rintro n v ⟨a,rfl,e⟩;exact⟨a,rfl,p.get e⟩
 · intro vs h;exact h
 · rintro d r ih ihs vs ⟨v,t,rfl,q1,q2⟩;exact⟨v,t,rfl,ih v q1,ihs t q2⟩
variable{d:D}{v:V}
theorem Rp.mono(h:Rp m H d v)(p:Pre m m')(k:Keep m m' H H'):Rp m' H' d v:=(a1p p k.im).1 d v h
theorem Rp.mono'(h:Rp m H d v)(p:Pre m m')(k:KIm H H'):Rp m' H' d v:=(a1p p k).1 d v h
variable{vs:List V}
theorem Rps.mono{l:List D}(h:Rps m H l vs)(p:Pre m m')(k:Keep m m' H H'):Rps m' H' l vs:=(a1p p k.im).2 l vs h
theorem Rps.mono'{l:List D}(h:Rps m H l vs)(p:Pre m m')(k:KIm H H'):Rps m' H' l vs:=(a1p p k).2 l vs h
theorem a3z:(∀d v,D.flat d=true->Rp m H d v->Rp m' H d v)/\∀l vs,D.flats l=true->Rps m H l vs->Rps m' H l vs:=by
 refine D.ind (P:=fun d=>∀v,D.flat d=true->Rp m H d v->Rp m' H d v) (Q:=fun l=>∀vs,D.flats l=true->Rps m H l vs->Rps m' H l vs) ?_ ?_ ?_ ?_ ?_ ?_ ?_ ?_
 · intro v _ h;exact h
 · intro b v _ h;exact h
 · intro b v _ h;exact h
 · intro b v _ h;exact h
 · rintro l ih v f ⟨a,vs,rfl,e,q⟩;exact⟨a,vs,rfl,e,ih vs f q⟩
 · intro n v f;exact absurd f (by simp[D.flat])
 · intro vs _ h;exact h
 · rintro d r ih ihs vs f ⟨v,t,rfl,q1,q2⟩;rw[D.flats,ae] at f;exact⟨v,t,rfl,ih v f.1 q1,ihs t f.2 q2⟩
section
theorem Rps.len:∀{l:List D} {vs:List V},Rps m H l vs->vs.length=l.length
 |[],vs,h=>by rw[show vs=[] from h];rfl
 |d::r,vs,⟨v,t,e,_,q⟩=>by rw[e,length_cons,length_cons,Rps.len q]
theorem Rps.get:∀{l:List D} {vs:List V} {i:Nat} {d:D},Rps m H l vs->l[i]? =some d->∃v,vs[i]? =some v/\Rp m H d v
 |d'::r,vs,0,d,⟨v,t,e,q,_⟩,h=>by
  simp at h;subst h;exact⟨v,by rw[e];rfl,q⟩
 |d'::r,vs,i+1,d,⟨v,t,e,_,q⟩,h=>by
  obtain⟨w,h1,h2⟩:=Rps.get (i:=i) q (by simpa using h)
  exact⟨w,by rw[e];simpa using h1,h2⟩
 |[],_,_,_,_,h=>by simp at h
theorem Rps.app:∀{l l':List D} {vs vs':List V},Rps m H l vs->Rps m H l' vs'->Rps m H (l++l') (vs++vs')
 |[],_,vs,_,h,k=>by rw[show vs=[] from h];exact k
 |d::r,_,vs,_,⟨v,t,e,q1,q2⟩,k=>by subst e;exact⟨v,_,rfl,q1,Rps.app q2 k⟩
theorem Rps.snoc{l:List D}(h:Rps m H l vs)(q:Rp m H d v):Rps m H (l++[d]) (vs++[v]):=h.app ⟨v,[],rfl,q,rfl⟩
theorem Rps.drop:∀{l:List D} {vs:List V} (n:Nat),Rps m H l vs->Rps m H (l.drop n) (vs.drop n)
 |[],vs,n,h=>by rw[show vs=[] from h];simp[Rps]
 |d::r,vs,0,h=>h
 |d::r,vs,n+1,⟨v,t,e,_,q⟩=>by subst e;exact Rps.drop n q
theorem Rps.take:∀{l:List D} {vs:List V} (n:Nat),Rps m H l vs->Rps m H (l.take n) (vs.take n)
 |[],vs,n,h=>by rw[show vs=[] from h];simp[Rps]
 |d::r,vs,0,h=>by simp[Rps]
 |d::r,vs,n+1,⟨v,t,e,q1,q⟩=>by subst e;exact⟨v,_,rfl,q1,Rps.take n q⟩
theorem Rps.set:∀{l:List D} {vs:List V} {d:D} {v:V} (n:Nat),Rps m H l vs->Rp m H d v->Rps m H (l.set n d) (vs.set n v)
 |[],vs,_,_,n,h,_=>by rw[show vs=[] from h];simp[Rps]
 |d::r,vs,_,_,0,⟨v,t,e,q1,q⟩,k=>by subst e;exact⟨_,t,rfl,k,q⟩
 |d::r,vs,_,_,n+1,⟨v,t,e,q1,q⟩,k=>by subst e;exact⟨v,_,rfl,q1,Rps.set n q k⟩
theorem Rps.rep{l:List D}{vs:List V}(h:Rps m H l vs):∀k:Nat,Rps m H (List.replicate k l).flatten (List.replicate k vs).flatten
 |0=>rfl
 |k+1=>by
  rw[replicate_succ,replicate_succ,flatten_cons,flatten_cons];exact h.app (Rps.rep h k)
theorem Rps.strs:∀{ts:List Str},Rps m H (ts.map D.str) (ts.map V.str)
 |[]=>rfl
 |x::r=>⟨_,_,rfl,rfl,Rps.strs⟩
theorem Rps.cut{l:List D}(h:Rps m H l vs)(lo hi:Option Int):Rps m H (O0 l lo hi) (a7X vs lo hi):=by
 unfold O0 a7X;rw[h.len];exact(h.drop _).take _
theorem Rps.at{l:List D}{i:Int}(h:Rps m H l vs)(e:atI l i=some d):∃v,atI vs i=some v/\Rp m H d v:=by
 unfold atI at e⊢;rw[h.len]
 cases q:ixN l.length i with
 |none=>rw[q] at e;cases e
 |some j=>rw[q] at e;exact h.get e
theorem a4D:∀{l:List D} {ts:List Str} {vs:List V},a1C l=some ts->Rps m H l vs->vs=ts.map V.str
 |[],ts,vs,e,h=>by cases e;exact h
 |d::r,ts,vs,e,⟨v,t,ev,q1,q2⟩=>by
  subst ev
  cases d<;>simp only[a1C] at e<;>try cases e
  rename_i x
  cases q:a1C r with
  |none=>rw[q] at e;cases e
  |some us=>rw[q] at e;cases e;rw[a4D q q2,show v=V.str x from q1];rfl
theorem a3x:∀{l:List D} {ts:List Bool} {vs:List V},a5n l=some ts->Rps m H l vs->vs=ts.map V.bl
 |[],ts,vs,e,h=>by cases e;exact h
 |d::r,ts,vs,e,⟨v,t,ev,q1,q2⟩=>by
  subst ev
  cases d<;>simp only[a5n] at e<;>try cases e
  rename_i x
  cases q:a5n r with
  |none=>rw[q] at e;cases e
  |some us=>rw[q] at e;cases e;rw[a3x q q2,show v=V.bl x from q1];rfl
end
structure Gm where
 K:PySem.W.Frag
 cA:Nat->Addr
 ob:List Nat
 xs:List Nat
def Fl(m:List Addr)(H:Hp):List (Str×D)->List (Str×V)->Prop:=Paired fun p q=>p.1=q.1/\Rp m H p.2 q.2
def DK(m:List Addr)(H:Hp):List (D×D)->List (Key×V)->Prop:=Paired fun p q=>D9 p.1=some q.1/\Rp m H p.2 q.2
def DT(m:List Addr)(H:Hp):List (D×D)->List (List Key×V)->Prop:=Paired fun p q=>(∃l,p.1=.tup l/\C9 l=some q.1)/\Rp m H p.2 q.2
def C4(Γ:Gm)(m:List Addr)(H:Hp)(a:Addr):Cell->Prop
 |.lst l=>∃vs,H a=some (.lst vs)/\Rps m H l vs
 |.rol l=>∃vs,SqL Γ.K H a vs/\Rps m H l vs/\∃o,H a=some (.frz o (.lst vs))
 |.rod l=>∃kvs o,H a=some (.frz o (.dK kvs))/\DK m H l kvs
 |.dict l=>(∃kvs,H a=some (.dK kvs)/\DK m H l kvs)∨∃kvs,H a=some (.dT kvs)/\DT m H l kvs
 |.obj c fs=>∃dx gs,H a=some (.ins (Γ.cA c) dx gs)/\Fl m H fs gs/\c∈Γ.ob
 |.exc c=>H a=some (exC a (Γ.cA c))/\c∈Γ.xs
variable{Γ:Gm}
theorem C4.there{c:Cell}(h:C4 Γ m H a c):∃o,H a=some o/\True:=by
 cases c with
 |lst l=>obtain⟨vs,e,_⟩:=h;exact⟨_,e,trivial⟩
 |rol l=>obtain⟨vs,_,_,o,e⟩:=h;exact⟨_,e,trivial⟩
 |rod l=>obtain⟨kvs,o,e,_⟩:=h;exact⟨_,e,trivial⟩
 |dict l=>
  rcases h with⟨kvs,e,_⟩|⟨kvs,e,_⟩
  · exact⟨_,e,trivial⟩
  · exact⟨_,e,trivial⟩
 |obj c fs=>obtain⟨dx,gs,e,_⟩:=h;exact⟨_,e,trivial⟩
 |exc c=>obtain⟨e,_⟩:=h;exact⟨_,e,trivial⟩
theorem Fl.mono{fs:List (Str×D)}{gs:List (Str×V)}(h:Fl m H fs gs)(p:Pre m m')(k:KIm H H'):Fl m' H' fs gs:=Paired.mapP h fun _ _ z=>⟨z.1,z.2.mono' p k⟩
variable{gs:List (Key×V)}
theorem DK.mono{fs:List (D×D)}(h:DK m H fs gs)(p:Pre m m')(k:KIm H H'):DK m' H' fs gs:=Paired.mapP h fun _ _ z=>⟨z.1,z.2.mono' p k⟩
theorem DT.mono{fs:List (D×D)}{gs:List (List Key×V)}(h:DT m H fs gs)(p:Pre m m')(k:KIm H H'):DT m' H' fs gs:=Paired.mapP h fun _ _ z=>⟨z.1,z.2.mono' p k⟩
theorem C4.mono'{c:Cell}(h:C4 Γ m H a c)(p:Pre m m')(k:KIm H H')(e:H' a=H a):C4 Γ m' H' a c:=by
 cases c with
 |lst l=>obtain⟨vs,q,r⟩:=h;exact⟨vs,e.trans q,r.mono' p k⟩
 |rol l=>obtain⟨vs,s,r,o,q⟩:=h;exact⟨vs,.inl (.inr ⟨o,e.trans q⟩),r.mono' p k,o,e.trans q⟩
 |rod l=>obtain⟨kvs,o,q,r⟩:=h;exact⟨kvs,o,e.trans q,r.mono p k⟩
 |dict l=>
  rcases h with⟨kvs,q,r⟩|⟨kvs,q,r⟩
  · exact .inl ⟨kvs,e.trans q,r.mono p k⟩
  · exact .inr ⟨kvs,e.trans q,r.mono p k⟩
 |obj c fs=>obtain⟨dx,gs,q,r,z⟩:=h;exact⟨dx,gs,e.trans q,r.mono p k,z⟩
 |exc c=>obtain⟨q,z⟩:=h;exact⟨e.trans q,z⟩
theorem C4.mono{c:Cell}(h:C4 Γ m H a c)(p:Pre m m')(k:Keep m m' H H')(e:H' a=H a):C4 Γ m' H' a c:=h.mono' p k.im e
structure Sim(Γ:Gm)(ah:AH)(m:List Addr)(H:Hp):Prop where
 len:m.length=ah.length
 nd:m.Nodup
 cell:∀(n:Nat) (a:Addr) (c:Cell),m[n]? =some a->ah[n]? =some c->C4 Γ m H a c
section
variable{ah:AH}
theorem Sim.at(s:Sim Γ ah m H){c:Cell}(h:m[n]? =some a)(e:ah[n]? =some c):C4 Γ m H a c:=s.cell n a c h e
theorem Sim.has(s:Sim Γ ah m H)(h:m[n]? =some a):∃c,ah[n]? =some c:=by
 have h:=(ac.mp h).1
 rw[s.len] at h;exact⟨ah[n],af h⟩
theorem Sim.fresh(s:Sim Γ ah m H){p:Addr}(hp:H p=none):p∉m:=fun hm=>by
 obtain⟨n,hn⟩:=bo hm
 obtain⟨c,hc⟩:=s.has hn;obtain⟨o,e,_⟩:=(s.at hn hc).there;rw[hp] at e;cases e
theorem Sim.keep(s:Sim Γ ah m H)(k:Keep m m H H')(e:∀(n:Nat) (a:Addr),m[n]? =some a->H' a=H a):Sim Γ ah m H':=
 ⟨s.len,s.nd,fun n a c h q=>(s.at h q).mono (Pre.refl m) k (e n a h)⟩
theorem Sim.same(s:Sim Γ ah m H)(k:b8w H H'):Sim Γ ah m H':=
 s.keep ⟨fun b o _ h=>k b o h,fun b o _ h=>k b o h,fun _ h=>.inl h⟩ fun n a h=>by
  obtain⟨c,hc⟩:=s.has h;obtain⟨o,e,_⟩:=(s.at h hc).there;rw[e];exact k a o e
theorem Sim.new{p:Addr}{o:HO}(s:Sim Γ ah m H)(hp:H p=none):Sim Γ ah m (upd H p o):=s.same fun b ob h=>by rw[d9 (n5 h hp)];exact h
theorem Y5{m:List Addr}{p:Addr}(nd:m.Nodup)(hp:p∉m):(m++[p]).Nodup:=by
 rw[List.nodup_append];refine⟨nd,by simp,fun a ha b hb=>?_⟩
 simp at hb;subst hb
 rintro rfl;exact hp ha
theorem Sim.alloc{p:Addr}{o:HO}{c:Cell}(s:Sim Γ ah m H)(hp:H p=none)(h:C4 Γ (m++[p]) (upd H p o) p c):Sim Γ (ah++[c]) (m++[p]) (upd H p o):=by
 refine⟨by simp[s.len],Y5 s.nd (s.fresh hp),fun n a c' hn hc=>?_⟩
 by_cases hl:n<m.length
 · rw[av hl] at hn
   rw[av (by rw[←s.len];exact hl)] at hc
   have ok:=s.at hn hc;refine ok.mono (Pre.snoc m p) (Keep.newc hp) ?_
   obtain⟨o',e,_⟩:=ok.there;rw[d9 (n5 e hp)]
 · have hn':n=m.length:=by
    have:=(ac.mp hn).1
    simp at this;omega
   subst hn';rw[au (ai _)] at hn
   rw[s.len,au (ai _)] at hc
   simp at hn hc;subst hn;subst hc
   exact h
theorem Sim.write{k:Nat}{q:Addr}{o:HO}{c:Cell}(s:Sim Γ ah m H)(hk:m[k]? =some q)(hq:H q=some o)(ni:¬Im o)(h:C4 Γ m (upd H q o') q c):Sim Γ (ah.set k c) m (upd H q o'):=by
  refine⟨by simp[s.len],s.nd,fun n a c' hn hc=>?_⟩
  by_cases e:n=k
  · subst e;rw[hk] at hn;cases hn
    rw[List.getElem?_set_self (by rw[←s.len];exact(ac.mp hk).1)] at hc
    cases hc;exact h
  · rw[List.getElem?_set_ne (Ne.symm e)] at hc
    have ne:a≠q:=fun z=>by subst z;exact e (nodup_ixA s.nd hn hk)
    exact(s.at hn hc).mono (Pre.refl m) (Keep.put hk hq ni) (d9 ne)
where
  nodup_ixA {m:List Addr} (hN:m.Nodup) {i j:Nat} {x:Addr} (a:m[i]? =some x) (b:m[j]? =some x):i=j:=by
    obtain⟨h1,e1⟩:=ac.mp a
    obtain⟨h2,e2⟩:=ac.mp b
    exact(getElem_inj hN).mp (e1.trans e2.symm)
theorem Sim.lst(s:Sim Γ ah m H){n:Nat}{l:List D}(e:ah[n]? =some (.lst l)){v:V}(r:Rp m H (.ref n) v):∃a vs,v=.ref a/\m[n]? =some a/\H a=some (.lst vs)/\Rps m H l vs:=by
 obtain⟨a,rfl,hm⟩:=r;obtain⟨vs,e1,e2⟩:=s.at hm e;exact⟨a,vs,rfl,hm,e1,e2⟩
theorem Sim.rdL(s:Sim Γ ah m H){l:List D}(e:rdL ah n=some l)(r:Rp m H (.ref n) v):∃a vs,v=.ref a/\m[n]? =some a/\SqL Γ.K H a vs/\Rps m H l vs:=by
 obtain⟨a,rfl,hm⟩:=r;unfold EV.rdL at e
 split at e
 · rename_i l' q;cases e;obtain⟨vs,e1,e2⟩:=s.at hm q;exact⟨a,vs,rfl,hm,.inl (.inl e1),e2⟩
 · rename_i l' q;cases e;obtain⟨vs,e1,e2,_⟩:=s.at hm q;exact⟨a,vs,rfl,hm,e1,e2⟩
 · cases e
end
abbrev o6:=List (Option D)
structure EnvRel(m:List Addr)(H:Hp)(env:o6)(σ:St):Prop where
 len:env.length=σ.length
 val:∀(i:Nat) (d:D),env[i]? =some (some d)->∃v,σ[i]? =some (some v)/\Rp m H d v
variable{env:o6}{σ:St}
theorem EnvRel.mono(h:EnvRel m H env σ)(p:Pre m m')(k:Keep m m' H H'):EnvRel m' H' env σ:=
 ⟨h.len,fun i d e=>let⟨v,a,b⟩:=h.val i d e;⟨v,a,b.mono p k⟩⟩
variable{i:Nat}
theorem EnvRel.set(h:EnvRel m H env σ)(r:Rp m H d v):EnvRel m H (env.set i (some d)) (σ.set i (some v)):=by
 refine⟨by simp[h.len],fun j d' e=>?_⟩
 by_cases q:j=i
 · subst q
   by_cases hl:j<env.length
   · rw[List.getElem?_set_self hl] at e
     cases e;exact⟨v,List.getElem?_set_self (by rw[←h.len];exact hl),r⟩
   · rw[bg (by simp;omega)] at e;cases e
 · rw[List.getElem?_set_ne (Ne.symm q)] at e⊢
   exact h.val j d' e
structure Rel(Γ:Gm)(env:o6)(ah:AH)(σ:St)(H:Hp)(m:List Addr):Prop where
 sim:Sim Γ ah m H
 env:EnvRel m H env σ
def i9(Γ:Gm)(E:XK)(m:List Addr)(H:Hp)(r:R D)(Q:VK):Prop:=match r with
 |.ok d ah'=>∀m' H' v,Pre m m'->Keep m m' H H'->Sim Γ ah' m' H'->Rp m' H' d v->Q v H'
 |.ex c ah'=>∀m' H',Pre m m'->Keep m m' H H'->Sim Γ ah' m' H'->c∈Γ.xs->E (.ref (Γ.cA c)) none H'
 |.no=>False
def i8{α:Type}(Γ:Gm)(E:XK)(m:List Addr)(H:Hp)(r:R α)(Q:α->AH->List Addr->Hp->Prop):Prop:=match r with
 |.ok a ah'=>∀m' H',Pre m m'->Keep m m' H H'->Sim Γ ah' m' H'->Q a ah' m' H'
 |.ex c ah'=>∀m' H',Pre m m'->Keep m m' H H'->Sim Γ ah' m' H'->c∈Γ.xs->E (.ref (Γ.cA c)) none H'
 |.no=>False
variable{Q:VK}{α:Type}{β:Type}{ah:AH}
section
variable{E:XK}
theorem i9.later{r:R D}(h:i9 Γ E m H r Q)(p:Pre m m')(k:Keep m m' H H'):i9 Γ E m' H' r Q:=by
 cases r with
 |ok d ah=>exact fun m2 H2 v p2 k2 s2 r2=>h m2 H2 v (p.trans p2) (k.trans k2) s2 r2
 |ex c ah=>exact fun m2 H2 p2 k2 s2 r2=>h m2 H2 (p.trans p2) (k.trans k2) s2 r2
 |no=>exact h
theorem i9.bind{r:R α}{f:α->AH->R D}(h:i9 Γ E m H (r.bind f) Q):i8 Γ E m H r (fun a ah1 m1 H1=>i9 Γ E m1 H1 (f a ah1) Q):=by
 cases r with
 |ok d ah=>exact fun m2 H2 p2 k2 s2=>i9.later h p2 k2
 |ex c ah=>exact h
 |no=>exact h
theorem i8.later{r:R α}{Q:α->AH->List Addr->Hp->Prop}(h:i8 Γ E m H r Q)(p:Pre m m')(k:Keep m m' H H'):i8 Γ E m' H' r Q:=by
 cases r with
 |ok d ah=>exact fun m2 H2 p2 k2 s2=>h m2 H2 (p.trans p2) (k.trans k2) s2
 |ex c ah=>exact fun m2 H2 p2 k2 s2 r2=>h m2 H2 (p.trans p2) (k.trans k2) s2 r2
 |no=>exact h
theorem i8.bind{r:R α}{f:α->AH->R β}{Q:β->AH->List Addr->Hp->Prop}(h:i8 Γ E m H (r.bind f) Q):i8 Γ E m H r (fun a ah1 m1 H1=>i8 Γ E m1 H1 (f a ah1) Q):=by
 cases r with
 |ok d ah=>exact fun m2 H2 p2 k2 s2=>i8.later h p2 k2
 |ex c ah=>exact h
 |no=>exact h
theorem i8.val{r:R D}{P:D->AH->List Addr->Hp->Prop}(h:i8 Γ E m H r P)(k:∀d ah1 m1 H1 v,Pre m m1->Keep m m1 H H1->Sim Γ ah1 m1 H1->Rp m1 H1 d v->P d ah1 m1 H1->Q v H1):i9 Γ E m H r Q:=by
 cases r with
 |ok d ah=>exact fun m2 H2 v p2 k2 s2 r2=>k d ah m2 H2 v p2 k2 s2 r2 (h m2 H2 p2 k2 s2)
 |ex c ah=>exact h
 |no=>exact h
theorem i9.ok(h:i9 Γ E m H (.ok d ah) Q)(s:Sim Γ ah m H)(r:Rp m H d v):Q v H:=h m H v (Pre.refl m) (Keep.refl m H) s r
theorem i9.newc{c:Cell}{p:Addr}{o:HO}(h:i9 Γ E m H (A4 c ah) Q)(s:Sim Γ ah m H)(hp:H p=none)(ok:C4 Γ (m++[p]) (upd H p o) p c):Q (.ref p) (upd H p o):=by
 refine h (m++[p]) (upd H p o) (.ref p) (Pre.snoc m p) (Keep.newc hp) (s.alloc hp ok) ⟨p,rfl,?_⟩
 rw[←s.len,au (ai _)];simp
theorem i9.newt{l:List D}{p:Addr}(h:i9 Γ E m H (.ok (.tup l) ah) Q)(s:Sim Γ ah m H)(hp:H p=none)(r:Rps m H l vs):Q (.ref p) (upd H p (.tup vs)):=
 h m _ (.ref p) (Pre.refl m) (Keep.new hp) (s.new hp) ⟨p,vs,rfl,d8,r.mono (Pre.refl m) (Keep.new hp)⟩
end
open PySem PySem.Spec L2
open PyProof.Rows hiding St
theorem K7:SL=sizeLine:=by rw[sizeLine_eq]
theorem a4C{l:List α}{x:α}(h:l[n]? =some x):l.set n x=l:=by
 refine ext_getElem? fun i=>?_
 by_cases e:i=n
 · subst e;rw[List.getElem?_set_self (ac.mp h).1,h]
 · rw[List.getElem?_set_ne (Ne.symm e)]
variable{op:CmpOp}{pins:List (Addr×Obj)}{l:List (D×D)}{kvs:List (D×D)}
section
variable{X:Cx}{E:XK}
noncomputable def rOf(Γ:Gm)(E:XK)(g:AH->D->D->R D):R2:=fun x y H Q=>∃d1 d2 ah m,Sim Γ ah m H/\Rp m H d1 x/\Rp m H d2 y/\i9 Γ E m H (g ah d1 d2) Q
theorem OpR.imp{f:Value->Value->Sem Value}{r r':R2}(h:OpR X f r)(i:∀x y H Q,r' x y H Q->r x y H Q):OpR X f r':=fun pins s σ H x y v u Q I rx ry q=>h pins s σ H x y v u Q I rx ry (i _ _ _ _ q)
theorem b7H:OpR X (binaryOp .Add) (rOf Γ E O5):=by
 refine OpR.imp (b4r.or (a5F.or b4q)) ?_
 rintro x y H Q ⟨d1,d2,ah,m,s,r1,r2,q⟩;unfold O5 at q
 split at q
 · cases r1;cases r2
   exact .inl ⟨_,_,rfl,rfl,q.ok s rfl⟩
 · cases r1;cases r2
   split at q
   · rename_i h;exact .inr (.inl ⟨_,_,rfl,rfl,by rw[←K7];exact h,q.ok s rfl⟩)
   · exact q.elim
 · split at q
   · rename_i e1 e2
     split at q
     · rename_i h;obtain⟨a,vs,rfl,ha,h1,q1⟩:=s.lst e1 r1;obtain⟨b,ws,rfl,hb,h2,q2⟩:=s.lst e2 r2;refine .inr (.inr ⟨a,b,vs,ws,rfl,rfl,h1,h2,by rw[q1.len,q2.len,←K7];exact h,fun p hp=>q.newc s hp ⟨_,d8,?_⟩⟩)
       exact(q1.app q2).mono (Pre.snoc m p) (Keep.newc hp)
     · exact q.elim
   · exact q.elim
 · exact q.elim
theorem b7B:OpR X (binaryOp .Sub) (rOf Γ E a6v):=by
 refine OpR.imp b4j ?_
 rintro x y H Q ⟨d1,d2,ah,m,s,r1,r2,q⟩;unfold a6v at q
 split at q
 · cases r1;cases r2
   exact⟨_,_,rfl,rfl,q.ok s rfl⟩
 · exact q.elim
theorem b7C:OpR X (binaryOp .Mult) (rOf Γ E X1):=by
 refine OpR.imp ((b4m.or b4k).or b1O) ?_
 rintro x y H Q ⟨d1,d2,ah,m,s,r1,r2,q⟩;unfold X1 at q
 split at q
 · cases r1;cases r2
   split at q
   · rename_i h;rw[Bool.or_eq_true] at h;exact .inl (.inl ⟨_,_,rfl,rfl,h.imp a1G a1G,q.ok s rfl⟩)
   · exact q.elim
 · split at q
   · rename_i e1
     split at q
     · rename_i h;obtain⟨a,vs,rfl,ha,h1,q1⟩:=s.lst e1 r1;cases r2;refine .inl (.inr ⟨a,_,vs,rfl,rfl,h1,(by have:=L8 h.1;omega),(by have:=L8 h.1;omega),by rw[q1.len,←K7];exact h.2,fun p hp=>q.newc s hp ⟨_,d8,?_⟩⟩)
       exact(q1.rep _).mono (Pre.snoc m p) (Keep.newc hp)
     · exact q.elim
   · exact q.elim
 · cases r1;cases r2
   split at q
   · rename_i h;exact .inr ⟨_,_,rfl,rfl,(by have:=L8 h.1;omega),(by have:=L8 h.1;omega),by rw[←K7];exact h.2,q.ok s rfl⟩
   · exact q.elim
 · exact q.elim
theorem b7F:OpR X (binaryOp .FloorDiv) (rOf Γ E M6):=by
 refine OpR.imp b1P ?_
 rintro x y H Q ⟨d1,d2,ah,m,s,r1,r2,q⟩;unfold M6 at q
 split at q
 · cases r1;cases r2
   split at q
   · rename_i h;exact⟨_,_,rfl,rfl,h,q.ok s rfl⟩
   · exact q.elim
 · exact q.elim
theorem b7D:OpR X (binaryOp .Mod) (rOf Γ E F8):=by
 refine OpR.imp b4n ?_
 rintro x y H Q ⟨d1,d2,ah,m,s,r1,r2,q⟩;unfold F8 at q
 split at q
 · cases r1;cases r2
   split at q
   · rename_i h;exact⟨_,_,rfl,rfl,h,q.ok s rfl⟩
   · exact q.elim
 · exact q.elim
theorem b9n{x y:V}{b:Bool}(h:b=true↔x=y):b=decide (x=y):=by
 by_cases e:x=y
 · rw[bp e];exact h.mpr e
 · rw[bE e]
   cases b with
   |false=>rfl
   |true=>exact absurd (h.mp rfl) e
theorem b0s{d1 d2:D}{x y:V}{b:Bool}(e:eqS d1 d2=some b)(r1:Rp m H d1 x)(r2:Rp m H d2 y):scal x y=true/\b=decide (x=y):=by
 unfold eqS at e
 split at e<;>first|(cases e;done)|(cases e;cases r1;cases r2;refine⟨rfl,?_⟩;first|rfl|(refine b9n ⟨fun h=>?_,fun h=>?_⟩<;>first|(rw[aw h])|(injection h with h;exact bp h)))
theorem a6X{p:Int->Int->Bool}(h:OpR X (compareOp op) (rI0 fun i j=>.bl (p i j))):OpR X (compareOp op) (rOf Γ E (F9 p)):=by
 refine OpR.imp h ?_
 rintro x y H Q ⟨d1,d2,ah,m,s,r1,r2,q⟩;unfold F9 at q
 split at q
 · cases r1;cases r2
   exact⟨_,_,rfl,rfl,q.ok s rfl⟩
 · exact q.elim
theorem N1{x:V}(r:Rp m H d x)(f:y7 d=true):K8 x=true:=by
 cases d<;>first|(cases r;rfl)|(simp[y7] at f)
theorem E1{m:List Addr}{H:Hp}:∀{l:List D} {vs:List V},Rps m H l vs->l.all y7=true->vs.all K8=true
 |[],vs,h,_=>by rw[show vs=[] from h];rfl
 |d::r,vs,⟨v,t,e,q1,q2⟩,f=>by
  subst e;rw[all_cons,ae] at f⊢;exact⟨N1 q1 f.1,E1 q2 f.2⟩
theorem b0t{e:D}{x y:V}(r1:Rp m H d x)(r2:Rp m H e y)(f1:y7 d=true)(f2:y7 e=true):eqF d e=eqV x y:=by
 cases d<;>first|(simp[y7] at f1;done)|(cases e<;>first|(simp[y7] at f2;done)|(cases r1;cases r2;rfl))
theorem T6{m:List Addr}{H:Hp}{d:D}{x:V}(r:Rp m H d x)(f:y7 d=true):∀{l:List D} {vs:List V},Rps m H l vs->l.all y7=true->inD d l=inV x vs
 |[],vs,h,_=>by rw[show vs=[] from h];rfl
 |e::t,vs,⟨v,u,ev,q1,q2⟩,fl=>by
  subst ev;rw[all_cons,ae] at fl;have ih:=T6 r f q2 fl.2;unfold inD inV at ih⊢;rw[any_cons,any_cons,b0t q1 r fl.1 f,ih]
theorem a6W{m:List Addr}{H:Hp}:∀{xs ys:List D} {vs ws:List V},Rps m H xs vs->Rps m H ys ws->xs.all y7=true->ys.all y7=true->a4Z xs ys=Z6 vs ws
 |[],[],vs,ws,h1,h2,_,_=>by rw[show vs=[] from h1,show ws=[] from h2];rfl
 |[],y::ys,vs,ws,h1,⟨v,t,e,_,_⟩,_,_=>by rw[show vs=[] from h1,e];rfl
 |x::xs,[],vs,ws,⟨v,t,e,_,_⟩,h2,_,_=>by rw[show ws=[] from h2,e];rfl
 |x::xs,y::ys,vs,ws,⟨v,t,e,q1,q2⟩,⟨v',t',e',q1',q2'⟩,f,f'=>by
  subst e e';rw[all_cons,ae] at f f';rw[a4Z,Z6,b0t q1 q1' f.1 f'.1,a6W q2 q2' f.2 f'.2]
theorem a6V{e:D}{x y:V}{c:Bool}(s:Sim Γ ah m H)(r1:Rp m H d x)(r2:Rp m H e y)(h:a4X ah d e=some c):∃a b xs ys,x=.ref a/\y=.ref b/\SqL Γ.K H a xs/\SqL Γ.K H b ys/\xs.all K8=true/\ys.all K8=true/\Z6 xs ys=c:=by
 unfold a4X at h
 split at h
 · split at h
   · rename_i xs ys e1 e2
     split at h
     · rename_i hf;cases h;rw[ae] at hf;obtain⟨a,vs,rfl,_,h1,q1⟩:=s.rdL e1 r1;obtain⟨b,ws,rfl,_,h2,q2⟩:=s.rdL e2 r2;exact⟨a,b,vs,ws,rfl,rfl,h1,h2,E1 q1 hf.1,E1 q2 hf.2,(a6W q1 q2 hf.1 hf.2).symm⟩
     · cases h
   · cases h
 · cases h
theorem hu1(h:n+8<cLine):n+1<cLine:=Nat.lt_of_le_of_lt (by omega) h
theorem b9m(hu:X.A.units+8<cLine)(hK:X.K=Γ.K):OpR X (compareOp .Eq) (rOf Γ E M4):=by
 refine OpR.imp (b6X.or (b4p (X:=X) (by omega))) ?_
 rintro x y H Q ⟨d1,d2,ah,m,s,r1,r2,q⟩;unfold M4 at q
 split at q
 · rename_i c e;obtain⟨h1,h2⟩:=b0s e r1 r2;exact .inl ⟨h1,by rw[←h2];exact q.ok s rfl⟩
 · split at q
   · rename_i c e;obtain⟨a,b,xs,ys,e1,e2,s1,s2,f1,f2,z⟩:=a6V s r1 r2 e;exact .inr ⟨a,b,xs,ys,e1,e2,by rw[hK];exact s1,by rw[hK];exact s2,f1,f2,by rw[z];exact q.ok s rfl⟩
   · exact q.elim
theorem b9k(hu:X.A.units+8<cLine)(hK:X.K=Γ.K):OpR X (compareOp .NotEq) (rOf Γ E W8):=by
 refine OpR.imp (b6S.or (b4l (X:=X) (by omega))) ?_
 rintro x y H Q ⟨d1,d2,ah,m,s,r1,r2,q⟩;unfold W8 at q
 split at q
 · rename_i c e;obtain⟨h1,h2⟩:=b0s e r1 r2;exact .inl ⟨h1,by rw[←h2];exact q.ok s rfl⟩
 · split at q
   · rename_i c e;obtain⟨a,b,xs,ys,e1,e2,s1,s2,f1,f2,z⟩:=a6V s r1 r2 e;exact .inr ⟨a,b,xs,ys,e1,e2,by rw[hK];exact s1,by rw[hK];exact s2,f1,f2,by rw[z];exact q.ok s rfl⟩
   · exact q.elim
theorem b3H{s:Shared}(I:Inv X pins σ H s)(h:H a=some (.dK [])):Inv X pins σ (upd H a (.dT [])) s:=by
 obtain⟨z,hd,vs,rel,o,es,ep,ho,hx,hdt,hes,hp,hh⟩:=I.hok a _ h;cases rel
 have e0:es.toList=[]:=by cases q:es.toList with
  |nil=>rfl
  |cons x r=>rw[q] at hp;cases hp
 exact I.write (x:=a) (e:=a) (h':=s.heap) (t':=s.toks) (by rw[h];trivial) (.inl rfl) (fun b u _ q=>q) ⟨o,ho⟩ ⟨z,hd,[],.nil,o,es,ep,ho,hx,hdt,e0,nodup_nil⟩
theorem b3I{s:Shared}(I:Inv X pins σ H s)(h:H a=some (.dT [])):Inv X pins σ (upd H a (.dK [])) s:=by
 obtain⟨z,hd,xs,rel,o,es,ep,ho,hx,hdt,hes,hh⟩:=I.hok a _ h;cases rel
 have e0:es= #[]:=Array.toList_inj.mp hes
 subst e0;refine I.write (x:=a) (e:=a) (h':=s.heap) (t':=s.toks) (by rw[h];trivial) (.inl rfl) (fun b u _ q=>q) ⟨o,ho⟩ ⟨z,hd,[],.nil,o,#[],ep,ho,hx,hdt,fun e he=>?_,.nil,nodup_nil⟩
 simp at he
theorem V8{k:Key}(e:D9 d=some k)(r:Rp m H d v):v=kV k:=by
 cases d<;>simp only[D9] at e<;>first|(cases e;done)|(cases e;cases r;rfl)
theorem a1X{m:List Addr}{H:Hp}:∀{l:List D} {vs:List V} {ks:List Key},C9 l=some ks->Rps m H l vs->vs=ks.map kV
 |[],vs,ks,e,h=>by cases e;exact h
 |d::r,vs,ks,e,⟨v,t,ev,q1,q2⟩=>by
  subst ev;unfold C9 at e
  split at e
  · rename_i k ks' e1 e2;cases e;rw[map_cons,V8 e1 q1,a1X e2 q2]
  · cases e
theorem T4{a b:D}{k:Key}(h1:D9 a=some k)(h2:D9 b=some k):a=b:=by
 cases a<;>simp only[D9] at h1<;>first|(cases h1;done)|(cases h1;cases b<;>simp only[D9] at h2<;>first|(cases h2;done)|(cases h2;rfl))
theorem a0L:∀{a b:List D} {k:List Key},C9 a=some k->C9 b=some k->a=b
 |[],[],_,_,_=>rfl
 |[],y::ys,k,h1,h2=>by
  cases h1;unfold C9 at h2
  split at h2<;>cases h2
 |x::xs,[],k,h1,h2=>by
  cases h2;unfold C9 at h1
  split at h1<;>cases h1
 |x::xs,y::ys,k,h1,h2=>by
  unfold C9 at h1 h2
  split at h1
  · rename_i k1 ks1 e1 e2;cases h1
    split at h2
    · rename_i k2 ks2 e3 e4;cases h2;rw[T4 e1 e3,a0L e2 e4]
    · cases h2
  · cases h1
theorem a3P(h:G8 d=some false):∃k,D9 d=some k:=by
 cases d<;>simp only[G8] at h<;>first|(cases h;done)|exact⟨_,rfl⟩|(split at h<;>cases h)
theorem a1Y(h:G8 d=some true):∃l ks,d=.tup l/\C9 l=some ks:=by
 cases d<;>simp only[G8] at h<;>first|(cases h;done)|skip
 rename_i l
 split at h
 · rename_i e;obtain⟨ks,hk⟩:=Option.isSome_iff_exists.mp e;exact⟨l,ks,rfl,hk⟩
 · cases h
theorem DK.val{kvs:List (Key×V)}(r:DK m H l kvs){k:Key}(e:D9 d=some k):
 (∀c,n8 l d=some c->∃v,O3 kvs k=some v/\Rp m H c v)/\(n8 l d=none->O3 kvs k=none):=by
 induction r with
 |nil=>exact⟨fun c h=>(by cases h),fun _=>rfl⟩
 | @cons p q ps qs h t ih=>
  by_cases z:p.1=d
  · have z':q.1=k:=by have:=h.1;rw[z,e] at this;exact(ax this).symm
    rw[S7 z',show n8 (p::ps) d=some p.2 from by simp[n8,List.find?_cons,z]]
    exact⟨fun c hc=>by cases hc;exact⟨q.2,rfl,h.2⟩,fun hc=>by cases hc⟩
  · have z':¬q.1=k:=fun y=>z (T4 (by rw[h.1,y]) e)
    rw[S8 z',show n8 (p::ps) d=n8 ps d from by simp[n8,List.find?_cons,z]]
    exact ih
theorem DT.val{kvs:List (List Key×V)}(r:DT m H l kvs){d:List D}{k:List Key}(e:C9 d=some k):
 (∀c,n8 l (.tup d)=some c->∃v,O3 kvs k=some v/\Rp m H c v)/\(n8 l (.tup d)=none->O3 kvs k=none):=by
 induction r with
 |nil=>exact⟨fun c h=>(by cases h),fun _=>rfl⟩
 | @cons p q ps qs h t ih=>
  obtain⟨⟨l',e1,e2⟩,h2⟩:=h
  by_cases z:p.1=.tup d
  · have z':q.1=k:=by rw[e1] at z;injection z with z;rw[z,e] at e2;exact(ax e2).symm
    rw[S7 z',show n8 (p::ps) (.tup d)=some p.2 from by simp[n8,List.find?_cons,z]]
    exact⟨fun c hc=>by cases hc;exact⟨q.2,rfl,h2⟩,fun hc=>by cases hc⟩
  · have z':¬q.1=k:=fun y=>z (e1.trans (congrArg D.tup (a0L (e2.trans (congrArg some y)) e)))
    rw[S8 z',show n8 (p::ps) (.tup d)=n8 ps (.tup d) from by simp[n8,List.find?_cons,z]]
    exact ih
theorem DK.put {kvs:List (Key×V)} (r:DK m H l kvs) {c:D} {k:Key} (e:D9 d=some k) (rv:Rp m H c v):DK m H (Y3 l d c) (J8 kvs k v):=by
 have any:(l.any fun p=>decide (p.1=d))=kvs.any fun p=>decide (p.1=k):=by
  induction r with
  |nil=>rfl
  | @cons p q ps qs h t ih=>
   rw[any_cons,any_cons,ih];congr 1;refine decide_eq_decide.mpr ⟨fun(z:p.1=d)=>?_,fun(z:q.1=k)=>T4 (by rw[h.1,z]) e⟩
   have:=h.1;rw[z,e] at this;exact(ax this).symm
 unfold Y3 J8;rw[any]
 split
 · clear any
   induction r with
   |nil=>exact .nil
   | @cons p q ps qs h t ih=>
    rename_i hh;rw[map_cons,map_cons];refine .cons ?_ ?_
    · by_cases z:p.1=d
      · have z':q.1=k:=by have:=h.1;rw[z,e] at this;exact(ax this).symm
        rw[ay z,ay z'];exact⟨h.1,rv⟩
      · have z':¬q.1=k:=fun y=>z (T4 (by rw[h.1,y]) e)
        rw[az z,az z'];exact h
    · clear hh ih h
      induction t with
      |nil=>exact .nil
      | @cons p q ps qs h t ih=>
       rw[map_cons,map_cons];refine .cons ?_ ih
       by_cases z:p.1=d
       · have z':q.1=k:=by have:=h.1;rw[z,e] at this;exact(ax this).symm
         rw[ay z,ay z'];exact⟨h.1,rv⟩
       · have z':¬q.1=k:=fun y=>z (T4 (by rw[h.1,y]) e)
         rw[az z,az z'];exact h
 · exact Paired.snoc r ⟨e,rv⟩
theorem DT.put{kvs:List (List Key×V)}(r:DT m H l kvs){d:List D}{c:D}{k:List Key}(e:C9 d=some k)(rv:Rp m H c v):DT m H (Y3 l (.tup d) c) (J8 kvs k v):=by
 have one:∀{p:D×D} {q:List Key×V},(∃l,p.1=.tup l/\C9 l=some q.1)->(p.1=.tup d↔q.1=k):=by
  rintro p q ⟨l',e1,e2⟩;refine⟨fun(z:p.1=.tup d)=>?_,fun(z:q.1=k)=>e1.trans (congrArg D.tup (a0L (e2.trans (congrArg some z)) e))⟩
  rw[e1] at z;injection z with z;rw[z,e] at e2;exact(ax e2).symm
 have any:(l.any fun p=>decide (p.1=.tup d))=kvs.any fun p=>decide (p.1=k):=by
  induction r with
  |nil=>rfl
  | @cons p q ps qs h t ih=>
   rw[any_cons,any_cons,ih];congr 1;exact decide_eq_decide.mpr (one h.1)
 unfold Y3 J8;rw[any]
 split
 · have go:∀{l:List (D×D)} {kvs:List (List Key×V)},DT m H l kvs->DT m H (l.map fun p=>if p.1=.tup d then(p.1,c) else p) (kvs.map fun p=>if p.1=k then(p.1,v) else p):=by
    intro l kvs r
    induction r with
    |nil=>exact .nil
    | @cons p q ps qs h t ih=>
     rw[map_cons,map_cons];refine .cons ?_ ih
     by_cases z:p.1=.tup d
     · rw[ay z,ay ((one h.1).mp z)];exact⟨h.1,rv⟩
     · rw[az z,az fun y=>z ((one h.1).mpr y)];exact h
   exact go r
 · exact Paired.snoc r ⟨⟨d,rfl,e⟩,rv⟩
theorem M0{s:Shared}{k:D}(I:Inv X pins σ H s)(S:Sim Γ ah m H)(e:ah[n]? =some (.dict kvs))(ok:C8 k kvs=true)(hm:m[n]? =some a):
 ∃H',Inv X pins σ H' s/\Keep m m H H'/\Sim Γ ah m H'/\((∃ks gs,D9 k=some ks/\H' a=some (.dK gs)/\DK m H' kvs gs)∨∃l ks gs,k=.tup l/\C9 l=some ks/\H' a=some (.dT gs)/\DT m H' kvs gs):=by
 unfold C8 at ok;rw[ae] at ok;obtain⟨ok1,ok2⟩:=ok;obtain⟨b,hb⟩:=Option.isSome_iff_exists.mp ok1
 rcases S.at hm e with⟨gs,h1,h2⟩|⟨gs,h1,h2⟩
 · cases b with
   |false=>
    obtain⟨ks,hk⟩:=a3P hb;exact⟨H,I,Keep.refl m H,S,.inl ⟨ks,gs,hk,h1,h2⟩⟩
   | true=>
    obtain⟨l,ks,rfl,hk⟩:=a1Y hb
    cases h2 with
    |nil=>
     have kp:Keep m m H (upd H a (.dT [])):=Keep.put hm h1 fun z=>z
     have S':=S.write (o':=.dT []) (c:=.dict []) hm h1 (fun z=>z) (.inr ⟨[],d8,.nil⟩)
     rw[show ah.set n (.dict [])=ah from a4C e] at S';exact⟨_,b3H I h1,kp,S',.inr ⟨l,ks,[],rfl,hk,d8,.nil⟩⟩
    | @cons p q ps qs h t=>
     rw[all_cons,ae,hb] at ok2
     exfalso
     have:=eq_of_beq ok2.1
     obtain⟨l',ks',e1,_⟩:=a1Y this;have h1:=h.1;rw[e1] at h1;cases h1
 · cases b with
   |true=>
    obtain⟨l,ks,rfl,hk⟩:=a1Y hb;exact⟨H,I,Keep.refl m H,S,.inr ⟨l,ks,gs,rfl,hk,h1,h2⟩⟩
   | false=>
    obtain⟨ks,hk⟩:=a3P hb
    cases h2 with
    |nil=>
     have kp:Keep m m H (upd H a (.dK [])):=Keep.put hm h1 fun z=>z
     have S':=S.write (o':=.dK []) (c:=.dict []) hm h1 (fun z=>z) (.inl ⟨[],d8,.nil⟩)
     rw[show ah.set n (.dict [])=ah from a4C e] at S';exact⟨_,b3I I h1,kp,S',.inl ⟨ks,[],hk,d8,.nil⟩⟩
    | @cons p q ps qs h t=>
     rw[all_cons,ae,hb] at ok2
     exfalso
     have:=eq_of_beq ok2.1
     obtain⟨ks',hk'⟩:=a3P this;obtain⟨⟨l',e1,_⟩,_⟩:=h;rw[e1] at hk';cases hk'
end
variable{o:B}
section
variable{X:Cx}{E:XK}
theorem a2l(b:Bool):(b !=false)=b:=by cases b<;>rfl
theorem a2k(b:Bool):(b !=true)=!b:=by cases b<;>rfl
theorem DK.some_eq{kvs:List (Key×V)}(r:DK m H l kvs){k:Key}(e:D9 d=some k):(n8 l d).isSome=(O3 kvs k).isSome:=by
 obtain⟨h1,h2⟩:=r.val e
 cases q:n8 l d with
 |none=>rw[h2 q];rfl
 |some c=>obtain⟨v,hv,_⟩:=h1 c q;rw[hv];rfl
theorem DT.some_eq{kvs:List (List Key×V)}(r:DT m H l kvs){d:List D}{k:List Key}(e:C9 d=some k):(n8 l (.tup d)).isSome=(O3 kvs k).isSome:=by
 obtain⟨h1,h2⟩:=r.val e
 cases q:n8 l (.tup d) with
 |none=>rw[h2 q];rfl
 |some c=>obtain⟨v,hv,_⟩:=h1 c q;rw[hv];rfl
theorem a2f{k:D}{x:V}(kp:Keep m m H H')(r:Rp m H k x)
 (h:(∃ks gs,D9 k=some ks/\H' a=some (.dK gs)/\DK m H' kvs gs)∨∃l ks gs,k=.tup l/\C9 l=some ks/\H' a=some (.dT gs)/\DT m H' kvs gs):
 ∃o,b0O H' a x o/\(n8 kvs k).isSome=o.isSome/\∀c,n8 kvs k=some c->∃v,o=some v/\Rp m H' c v:=by
 rcases h with⟨ks,gs,hk,ha,dk⟩|⟨l,ks,gs,rfl,hk,ha,dt⟩
 · obtain⟨h1,h2⟩:=dk.val hk;exact⟨O3 gs ks,.inl ⟨gs,ks,.inl ha,V8 hk r,rfl⟩,dk.some_eq hk,fun c hc=>h1 c hc⟩
 · obtain⟨h1,h2⟩:=dt.val hk;obtain⟨b,vs,rfl,hb,rs⟩:=r;have hv:=a1X hk rs;subst hv;exact⟨O3 gs ks,.inr ⟨gs,ks,b,.inl ha,rfl,kp.tup hb,rfl⟩,dt.some_eq hk,fun c hc=>h1 c hc⟩
theorem b9l(hu:X.A.units+8<cLine)(hK:X.K=Γ.K):OpR X (compareOp .In) (rOf Γ E (M3 false)):=by
 rintro pins s σ H x y v u Q I rx ry ⟨d1,d2,ah,m,S,r1,r2,q⟩;unfold M3 at q
 split at q
 · cases r1;cases r2
   rw[a2l] at q;exact a7y pins s σ H _ _ v u Q I rx ry ⟨_,_,rfl,rfl,q.ok S rfl⟩
 · split at q
   · rename_i h;rw[ae] at h;obtain⟨a,vs,rfl,h1,q1⟩:=r2;refine V5 pins s σ H _ _ v u Q I rx ry ⟨a,vs,rfl,.inr (.inl (.inl h1)),N1 r1 h.1,E1 q1 h.2,?_⟩
     rw[a2l,T6 r1 h.1 q1 h.2] at q;exact q.ok S rfl
   · exact q.elim
 · split at q
   · rename_i xs e
     split at q
     · rename_i h;rw[ae] at h;obtain⟨a,vs,rfl,_,h1,q1⟩:=S.lst e r2;refine V5 pins s σ H _ _ v u Q I rx ry ⟨a,vs,rfl,.inl (.inl (.inl h1)),N1 r1 h.1,E1 q1 h.2,?_⟩
       rw[a2l,T6 r1 h.1 q1 h.2] at q;exact q.ok S rfl
     · exact q.elim
   · rename_i xs e
     split at q
     · rename_i h;rw[ae] at h;obtain⟨a,vs,rfl,_,h1,q1⟩:=S.rdL (l:=xs) (by unfold rdL;rw[e]) r2
       refine V5 pins s σ H _ _ v u Q I rx ry ⟨a,vs,rfl,.inl (by rw[hK];exact h1),N1 r1 h.1,E1 q1 h.2,?_⟩
       rw[a2l,T6 r1 h.1 q1 h.2] at q;exact q.ok S rfl
     · exact q.elim
   · rename_i kvs e
     split at q
     · rename_i h;obtain⟨a,rfl,hm⟩:=r2;obtain⟨H',I',kp,S',hd⟩:=M0 I S e h hm;obtain⟨o,g,h1,_⟩:=a2f kp r1 hd
       cases (show u=Value.ref a from ry)
       refine b9o (hu1 hu) I' g rx fun s' I''=>⟨.bl o.isSome,H',I'',rfl,?_⟩
       rw[a2l,h1] at q;exact q m H' _ (Pre.refl m) kp S' rfl
     · exact q.elim
   · exact q.elim
 · exact q.elim
theorem b2C(hu:X.A.units+8<cLine)(hK:X.K=Γ.K):OpR X (compareOp .NotIn) (rOf Γ E (M3 true)):=by
 rintro pins s σ H x y v u Q I rx ry ⟨d1,d2,ah,m,S,r1,r2,q⟩;unfold M3 at q
 split at q
 · cases r1;cases r2
   rw[a2k] at q;exact a3I pins s σ H _ _ v u Q I rx ry ⟨_,_,rfl,rfl,q.ok S rfl⟩
 · split at q
   · rename_i h;rw[ae] at h;obtain⟨a,vs,rfl,h1,q1⟩:=r2;refine K9 pins s σ H _ _ v u Q I rx ry ⟨a,vs,rfl,.inr (.inl (.inl h1)),N1 r1 h.1,E1 q1 h.2,?_⟩
     rw[a2k,T6 r1 h.1 q1 h.2] at q;exact q.ok S rfl
   · exact q.elim
 · split at q
   · rename_i xs e
     split at q
     · rename_i h;rw[ae] at h;obtain⟨a,vs,rfl,_,h1,q1⟩:=S.lst e r2;refine K9 pins s σ H _ _ v u Q I rx ry ⟨a,vs,rfl,.inl (.inl (.inl h1)),N1 r1 h.1,E1 q1 h.2,?_⟩
       rw[a2k,T6 r1 h.1 q1 h.2] at q;exact q.ok S rfl
     · exact q.elim
   · rename_i xs e
     split at q
     · rename_i h;rw[ae] at h;obtain⟨a,vs,rfl,_,h1,q1⟩:=S.rdL (l:=xs) (by unfold rdL;rw[e]) r2
       refine K9 pins s σ H _ _ v u Q I rx ry ⟨a,vs,rfl,.inl (by rw[hK];exact h1),N1 r1 h.1,E1 q1 h.2,?_⟩
       rw[a2k,T6 r1 h.1 q1 h.2] at q;exact q.ok S rfl
     · exact q.elim
   · rename_i kvs e
     split at q
     · rename_i h;obtain⟨a,rfl,hm⟩:=r2;obtain⟨H',I',kp,S',hd⟩:=M0 I S e h hm;obtain⟨o,g,h1,_⟩:=a2f kp r1 hd
       cases (show u=Value.ref a from ry)
       refine b2G (hu1 hu) I' g rx fun s' I''=>⟨.bl (!o.isSome),H',I'',rfl,?_⟩
       rw[a2k,h1] at q;exact q m H' _ (Pre.refl m) kp S' rfl
     · exact q.elim
   · exact q.elim
 · exact q.elim
noncomputable def B.cmp:B->Option CmpOp
 |.eq=>some .Eq|.ne=>some .NotEq|.lt=>some .Lt|.le=>some .LtE|.gt=>some .Gt|.ge=>some .GtE|.isin=>some .In|.notin=>some .NotIn
 |_=>none
noncomputable def B.bin:B->Option Operator
 |.add=>some .Add|.sub=>some .Sub|.mul=>some .Mult|.div=>some .FloorDiv|.mod=>some .Mod
 |_=>none
theorem b7G{op:Operator}(h:o.bin=some op):OpR X (binaryOp op) (rOf Γ E (op2 o)):=by
 cases o<;>cases h
 · exact b7H
 · exact b7B
 · exact b7C
 · exact b7F
 · exact b7D
theorem a0Q(hu:X.A.units+8<cLine)(hK:X.K=Γ.K)(h:o.cmp=some op):OpR X (compareOp op) (rOf Γ E (op2 o)):=by
 cases o<;>cases h
 · exact b9m hu hK
 · exact b9k hu hK
 · exact a6X b6T
 · exact a6X b6U
 · exact a6X b6V
 · exact a6X b6W
 · exact b9l hu hK
 · exact b2C hu hK
theorem b7E (hu:X.A.units+8<cLine) (hK:X.K=Γ.K):IxR X (rOf Γ E ixD):=by
  rintro value slice pins s σ H x y v u Q I rx ry ⟨d1,d2,ah,m,S,r1,r2,q⟩ hs;unfold ixD at q
  split at q
  · split at q
    · rename_i d e;obtain⟨a,vs,rfl,h1,q1⟩:=r1;cases r2;obtain⟨w,hw,rw'⟩:=q1.at e;exact ix_tup value slice pins s σ H _ _ v u Q I rx ry ⟨a,vs,_,w,rfl,rfl,.inl (.inl h1),hw,q.ok S rw'⟩ hs
    · exact q.elim
  · split at q
    · rename_i hl
      split at q
      · rename_i c e
        cases r1;cases r2
        exact ix_str value slice pins s σ H _ _ v u Q I rx ry ⟨_,_,c,rfl,rfl,by rw[←K7];exact hl,e,q.ok S rfl⟩ hs
      · exact q.elim
    · exact q.elim
  · split at q
    · rename_i xs e
      split at q
      · split at q
        · rename_i d e2;obtain⟨a,vs,rfl,_,h1,q1⟩:=S.lst e r1;cases r2;obtain⟨w,hw,rw'⟩:=q1.at e2;exact a6E value slice pins s σ H _ _ v u Q I rx ry ⟨a,vs,_,w,rfl,rfl,.inl (.inl h1),hw,q.ok S rw'⟩ hs
        · exact q.elim
      · exact q.elim
    · rename_i xs e
      split at q
      · split at q
        · rename_i d e2;obtain⟨a,vs,rfl,_,h1,q1⟩:=S.rdL (l:=xs) (by unfold rdL;rw[e]) r1
          cases r2;obtain⟨w,hw,rw'⟩:=q1.at e2;exact a6E value slice pins s σ H _ _ v u Q I rx ry ⟨a,vs,_,w,rfl,rfl,by rw[hK];exact h1,hw,q.ok S rw'⟩ hs
        · exact q.elim
      · exact q.elim
    · rename_i kvs e
      split at q
      · rename_i h
        split at q
        · rename_i d e2;obtain⟨a,rfl,hm⟩:=r1;obtain⟨H',I',kp,S',hd⟩:=M0 I S e h hm;obtain⟨o,g,h1,h2⟩:=a2f kp r2 hd;obtain⟨w,hw,rw'⟩:=h2 d e2;subst hw
          cases (show v=Value.ref a from rx)
          refine ixd_tail (a5d I' g) hs ?_
          exact a7W (hu1 hu) I' g ry fun w' s' I'' r''=>⟨w,H',I'',r'',q m H' _ (Pre.refl m) kp S' rw'⟩
        · exact q.elim
      · exact q.elim
    · exact q.elim
  · exact q.elim
where
  ixd_tail {value slice:Expr} {v u:Value} {Q:Value->Shared->Prop} {s:Shared} (hT:s.TypeIs v "dict") (hs:subscripted slice false v u=operate [v,u] (getItem v u)) (h:wpAny (model X.prog X.w) X.A (getItem v u) Q X.xe s):
      wpAny (model X.prog X.w) X.A (subscriptTail value slice v u) Q X.xe s:=by
    unfold subscriptTail;refine wpAny_bind ?_
    rw[getitemInPython_of_ne hT.not_modules];refine wpAny_bind (wpAny_specialOf hT PySem.F.slot_dict_getitem.lookup ?_)
    have fin:wpAny (model X.prog X.w) X.A (subscripted slice false v u) (fun r s₃=>wpAny (model X.prog X.w) X.A (letTemporaryGo value v r>>=fun _=>pure r) Q X.xe s₃) X.xe s:=by
      rw[hs];exact wpAny_operating (wpAny_mono h (fun r s₃ h₃=>wpAny_bind (wpAny_letTemporaryGo (wpAny_pure h₃))) fun _ _ x=>x)
    first
      |exact wpAny_pure (wpAny_bind fin)
      |exact wpAny_bind (wpAny_pure (wpAny_bind fin))
      |exact wpAny_bind fin
theorem b9j(hK:X.K=Γ.K):SlR X (fun x lo hi H Q=>∃d ah m,Sim Γ ah m H/\Rp m H d x/\i9 Γ E m H (slD ah lo hi d) Q):=by
 rintro pins s σ H x v vl vu lo hi sl Q I rx hs pl pu ⟨d,ah,m,S,r,q⟩;unfold slD at q
 split at q
 · split at q
   · rename_i hl;cases r;exact b3D pins s σ H _ v vl vu lo hi sl Q I rx hs pl pu ⟨_,rfl,by rw[←K7];exact hl,q.ok S rfl⟩
   · exact q.elim
 · split at q
   · rename_i xs e;obtain⟨a,vs,rfl,_,h1,q1⟩:=S.rdL e r;refine b1g pins s σ H _ v vl vu lo hi sl Q I rx hs pl pu ⟨a,vs,rfl,by rw[hK];exact h1,fun p hp=>q.newc S hp ⟨_,d8,(q1.cut lo hi).mono (Pre.snoc m p) (Keep.newc hp)⟩⟩
   · exact q.elim
 · exact q.elim
def rBi(Γ:Gm)(E:XK)(b:Bi):List V->Hp->VK->Prop:=fun xs H Q=>∃ds ah m,Sim Γ ah m H/\Rps m H ds xs/\i9 Γ E m H (biD b ah ds) Q
theorem O8{xs:List V}(h:Rps m H [d] xs):∃x,xs=[x]/\Rp m H d x:=by
 obtain⟨v,t,rfl,q,e⟩:=h;exact⟨v,by rw[show t=[] from e],q⟩
theorem b8M{e:D}{xs:List V}(h:Rps m H [d,e] xs):∃x y,xs=[x,y]/\Rp m H d x/\Rp m H e y:=by
 obtain⟨v,t,rfl,q,h2⟩:=h;obtain⟨y,rfl,q2⟩:=O8 h2;exact⟨v,y,rfl,q,q2⟩
theorem b7O(hK:X.K=Γ.K):D5 X (.builtin "len") (rBi Γ E .len):=by
 rintro pins s σ H xs us Q I r ⟨ds,ah,m,S,rs,q⟩;unfold biD at q
 split at q
 · obtain⟨x,rfl,r1⟩:=O8 rs;cases r1
   simp only at q
   split at q
   · rename_i hl;exact a4i pins s σ H _ us Q I r ⟨_,rfl,by rw[←K7];exact hl,q.ok S rfl⟩
   · exact q.elim
 · obtain⟨x,rfl,a,vs,rfl,h1,q1⟩:=O8 rs;exact a0y pins s σ H _ us Q I r ⟨a,vs,rfl,.inr (.inl (.inl h1)),by rw[q1.len];exact q.ok S rfl⟩
 · exact q.elim
 · exact q.elim
 · rename_i n;obtain⟨x,rfl,r1⟩:=O8 rs
   split at q
   · rename_i kvs e
     simp only at q
     split at q
     · rename_i h;obtain⟨a,rfl,hm⟩:=r1;obtain⟨H',I',kp,S',hd⟩:=M0 I S e h hm
       rcases hd with⟨ks,gs,hk,ha,dk⟩|⟨l,ks,gs,e0,_⟩
       · obtain⟨u,rfl,ru⟩:=O2 r
         cases (show u=Value.ref a from ru)
         refine b7J I' (.inl ha) fun t s' I''=>⟨.int gs.length,H',I'',⟨t,rfl⟩,?_⟩
         rw[←Paired.length dk];exact q m H' _ (Pre.refl m) kp S' rfl
       · cases e0
     · exact q.elim
   · split at q
     · rename_i ys e
       simp only at q
       obtain⟨a,vs,rfl,_,h1,q1⟩:=S.rdL e r1;exact a0y pins s σ H _ us Q I r ⟨a,vs,rfl,.inl (by rw[hK];exact h1),by rw[q1.len];exact q.ok S rfl⟩
     · exact q.elim
 · exact q.elim
theorem b7N:D5 X (.type "str") (rBi Γ E .str):=by
 rintro pins s σ H xs us Q I r ⟨ds,ah,m,S,rs,q⟩;unfold biD at q
 split at q<;>(try exact q.elim)
 · simp only at q
   split at q
   · rename_i hl;obtain⟨x,rfl,r1⟩:=O8 rs;cases r1;exact a4h pins s σ H _ us Q I r ⟨_,rfl,hl,q.ok S rfl⟩
   · exact q.elim
 · split at q
   · exact q.elim
   · split at q<;>exact q.elim
theorem b7P:D5 X (.type "int") (rBi Γ E .int):=by
 rintro pins s σ H xs us Q I r ⟨ds,ah,m,S,rs,q⟩;unfold biD at q
 split at q<;>(try exact q.elim)
 · simp only at q
   split at q
   · rename_i hl
     split at q
     · rename_i n e;obtain⟨x,rfl,r1⟩:=O8 rs;cases r1;exact a4j pins s σ H _ us Q I r ⟨_,n,rfl,hl,e,q.ok S rfl⟩
     · exact q.elim
   · exact q.elim
 · obtain⟨x,rfl,r1⟩:=O8 rs;cases r1;exact a3d pins s σ H _ us Q I r (.inl ⟨_,rfl,q.ok S rfl⟩)
 · obtain⟨x,rfl,r1⟩:=O8 rs;cases r1;exact a3d pins s σ H _ us Q I r (.inr ⟨_,rfl,q.ok S rfl⟩)
 · split at q
   · exact q.elim
   · split at q<;>exact q.elim
theorem b5y(hK:X.K=Γ.K):D5 X (.type "list") (rBi Γ E .list):=by
 rintro pins s σ H xs us Q I r ⟨ds,ah,m,S,rs,q⟩;unfold biD at q
 split at q<;>(try exact q.elim)
 · obtain⟨x,rfl,a,vs,rfl,h1,q1⟩:=O8 rs;exact a0x pins s σ H _ us Q I r ⟨a,vs,rfl,.inr (.inl (.inl h1)),fun p hp=>q.newc S hp ⟨_,d8,q1.mono (Pre.snoc m p) (Keep.newc hp)⟩⟩
 · split at q
   · exact q.elim
   · split at q
     · rename_i ys e;obtain⟨x,rfl,r1⟩:=O8 rs;obtain⟨a,vs,rfl,_,h1,q1⟩:=S.rdL e r1;exact a0x pins s σ H _ us Q I r ⟨a,vs,rfl,.inl (by rw[hK];exact h1),fun p hp=>i9.newc q S hp ⟨_,d8,q1.mono (Pre.snoc m p) (Keep.newc hp)⟩⟩
     · exact q.elim
theorem b2L(hK:X.K=Γ.K):D5 X (.type "tuple") (rBi Γ E .tuple):=by
 rintro pins s σ H xs us Q I r ⟨ds,ah,m,S,rs,q⟩;unfold biD at q
 split at q<;>(try exact q.elim)
 · obtain⟨x,rfl,a,vs,rfl,h1,q1⟩:=O8 rs;exact X8 pins s σ H _ us Q I r ⟨a,vs,rfl,.inr ⟨.inl (.inl h1),i9.ok q S ⟨a,vs,rfl,h1,q1⟩⟩⟩
 · split at q
   · exact q.elim
   · split at q
     · rename_i ys e;obtain⟨x,rfl,r1⟩:=O8 rs;obtain⟨a,vs,rfl,_,h1,q1⟩:=S.rdL e r1;exact X8 pins s σ H _ us Q I r ⟨a,vs,rfl,.inl ⟨by rw[hK];exact h1,fun p hp=>i9.newt q S hp q1⟩⟩
     · exact q.elim
theorem a8U{m:List Addr}{H:Hp}:∀{l:List D} {kvs:List (D×D)} {vs:List V},a7u l=some kvs->Rps m H l vs->∃gs,PrT H vs gs/\DK m H kvs gs
 |[],kvs,vs,h,r=>by cases h;rw[show vs=[] from r];exact⟨[],.nil,.nil⟩
 |d::l,kvs,vs,h,⟨v,t,e,q1,q2⟩=>by
  unfold a7u at h
  split at h
  · rename_i e0;cases e0
  · rename_i k x r e0;cases e0
    split at h
    · rename_i hk;obtain⟨kvs',h1,rfl⟩:=Option.map_eq_some_iff.mp h;obtain⟨gs,g1,g2⟩:=a8U h1 q2;obtain⟨kk,hk⟩:=Option.isSome_iff_exists.mp hk;obtain⟨a,ws,rfl,ha,rs⟩:=q1;obtain⟨y,z,rfl,r1,r2⟩:=b8M rs
      have:=V8 hk r1
      subst this;rw[e];exact⟨(kk,z)::gs,.cons ⟨a,rfl,ha⟩ g1,.cons ⟨hk,r2⟩ g2⟩
    · cases h
  · cases h
theorem b0w(h:DK m H kvs gs):∀{acc:List (D×D)} {ag:List (Key×V)},DK m H acc ag->DK m H (kvs.foldl (fun a p=>Y3 a p.1 p.2) acc) (P7 ag gs):=by
 unfold DK at h
 induction h with
 |nil=>exact fun r=>r
 |cons h t ih=>exact fun r=>ih (DK.put r h.1 h.2)
theorem b5z(hc:X.calm=true)(hK:X.K=Γ.K):D5 X (.type "dict") (rBi Γ E .dict):=by
 rintro pins s σ H xs us Q I r ⟨ds,ah,m,S,rs,q⟩;unfold biD at q
 split at q<;>(try exact q.elim)
 split at q
 · exact q.elim
 · split at q
   · rename_i ys e
     simp only at q
     split at q
     · rename_i kvs e2;obtain⟨x,rfl,r1⟩:=O8 rs;obtain⟨a,vs,rfl,_,h1,q1⟩:=S.rdL e r1;obtain⟨gs,g1,g2⟩:=a8U e2 q1;exact a4k hc pins s σ H _ us Q I r ⟨a,vs,gs,rfl,by rw[hK];exact h1,g1,fun d hd=>q.newc S hd (.inl ⟨_,d8,(b0w g2 .nil).mono (Pre.snoc m d) (Keep.newc (m:=m) hd).im⟩)⟩
     · exact q.elim
   · exact q.elim
theorem b7R(hc:X.calm=true)(hK:X.K=Γ.K):D5 X (.builtin "all") (rBi Γ E .all):=by
 rintro pins s σ H xs us Q I r ⟨ds,ah,m,S,rs,q⟩;unfold biD at q
 split at q<;>(try exact q.elim)
 split at q
 · exact q.elim
 · split at q
   · rename_i ys e
     simp only at q
     split at q
     · rename_i bs e2;obtain⟨x,rfl,r1⟩:=O8 rs;obtain⟨a,vs,rfl,_,h1,q1⟩:=S.rdL e r1;rw[a3x e2 q1] at h1;exact b0D hc pins s σ H _ us Q I r ⟨a,bs,rfl,by rw[hK];exact h1,q.ok S rfl⟩
     · exact q.elim
   · exact q.elim
theorem b7Q(hc:X.calm=true)(hK:X.K=Γ.K):D5 X (.builtin "any") (rBi Γ E .any):=by
 rintro pins s σ H xs us Q I r ⟨ds,ah,m,S,rs,q⟩;unfold biD at q
 split at q<;>(try exact q.elim)
 split at q
 · exact q.elim
 · split at q
   · rename_i ys e
     simp only at q
     split at q
     · rename_i bs e2;obtain⟨x,rfl,r1⟩:=O8 rs;obtain⟨a,vs,rfl,_,h1,q1⟩:=S.rdL e r1;rw[a3x e2 q1] at h1;exact b0C hc pins s σ H _ us Q I r ⟨a,bs,rfl,by rw[hK];exact h1,q.ok S rfl⟩
     · exact q.elim
   · exact q.elim
def rMt(Γ:Gm)(E:XK)(b:Mt):V->List V->Hp->VK->Prop:=fun x xs H Q=>∃d ds ah m,Sim Γ ah m H/\Rp m H d x/\Rps m H ds xs/\i9 Γ E m H (mtD b ah d ds) Q
theorem a9H:MtR X "list.append" (rMt Γ E .append):=by
 rintro pins s σ H x xs v us Q I rx r ⟨d,ds,ah,m,S,rd,rs,q⟩;unfold mtD at q
 split at q<;>(try exact q.elim)
 · rename_i n e0;obtain⟨y,rfl,r1⟩:=O8 rs
   split at q
   · rename_i l e
     split at q
     · rename_i hl;obtain⟨a,vs,rfl,hm,h1,q1⟩:=S.lst e rd;refine a2N pins s σ H _ _ v us Q I rx r ⟨a,vs,y,rfl,rfl,h1,by rw[q1.len,←K7];exact hl,?_⟩
       have kp:Keep m m H (upd H a (.lst (vs++[y]))):=Keep.put hm h1 fun z=>z
       exact q m _ _ (Pre.refl m) kp (S.write hm h1 (fun z=>z) ⟨_,d8,(q1.snoc r1).mono (Pre.refl m) kp⟩) rfl
     · exact q.elim
   · exact q.elim
theorem a9G:MtR X "list.insert" (rMt Γ E .insert):=by
 rintro pins s σ H x xs v us Q I rx r ⟨d,ds,ah,m,S,rd,rs,q⟩;unfold mtD at q
 split at q<;>(try exact q.elim)
 · rename_i n i d';obtain⟨v1,t1,rfl,ri,y,t2,rfl,r1,e1⟩:=rs;cases ri;cases e1
   split at q
   · rename_i l _ e
     split at q
     · rename_i hl;obtain⟨a,vs,rfl,hm,h1,q1⟩:=S.lst e rd;refine a7E pins s σ H _ _ v us Q I rx r ⟨a,vs,i,y,rfl,rfl,h1,hl.1,by rw[q1.len];exact hl.2.1,by rw[q1.len,←K7];exact hl.2.2,?_⟩
       have kp:Keep m m H (upd H a (.lst (vs.take i.toNat++y::vs.drop i.toNat))):=Keep.put hm h1 fun z=>z
       exact q m _ _ (Pre.refl m) kp (S.write hm h1 (fun z=>z) ⟨_,d8,((q1.take i.toNat).app (show Rps m H (d'::l.drop i.toNat) (y::vs.drop i.toNat) from⟨y,_,rfl,r1,q1.drop _⟩)).mono (Pre.refl m) kp⟩) rfl
     · exact q.elim
   · exact q.elim
theorem b1X:MtR X "str.split" (rMt Γ E .split):=by
 rintro pins s σ H x xs v us Q I rx r ⟨d,ds,ah,m,S,rd,rs,q⟩;unfold mtD at q
 split at q<;>(try exact q.elim)
 · simp only at q
   split at q
   · rename_i h;obtain⟨y,rfl,r1⟩:=O8 rs
     cases rd;cases r1
     refine a9D pins s σ H _ _ v us Q I rx r ⟨_,_,rfl,rfl,h.1,by rw[←K7];exact h.2,fun p hp=>q.newc S hp ⟨_,d8,Rps.strs⟩⟩
   · exact q.elim
theorem a9F:MtR X "str.startswith" (rMt Γ E .starts):=by
 rintro pins s σ H x xs v us Q I rx r ⟨d,ds,ah,m,S,rd,rs,q⟩;unfold mtD at q
 split at q<;>(try exact q.elim)
 · obtain⟨y,rfl,r1⟩:=O8 rs
   cases rd;cases r1
   exact a7D pins s σ H _ _ v us Q I rx r ⟨_,_,rfl,rfl,q.ok S rfl⟩
theorem b4y(hK:X.K=Γ.K):MtR X "str.join" (rMt Γ E .join):=by
 rintro pins s σ H x xs v us Q I rx r ⟨d,ds,ah,m,S,rd,rs,q⟩;unfold mtD at q
 split at q<;>(try exact q.elim)
 · simp only at q
   split at q
   · rename_i l e
     split at q
     · rename_i ts e2
       split at q
       · rename_i hj;obtain⟨y,rfl,r1⟩:=O8 rs;obtain⟨a,vs,rfl,_,h1,q1⟩:=S.rdL e r1;rw[a4D e2 q1] at h1;cases rd;exact b1V pins s σ H _ _ v us Q I rx r ⟨_,a,ts,rfl,rfl,by rw[hK];exact h1,hj,q.ok S rfl⟩
       · exact q.elim
     · exact q.elim
   · exact q.elim
theorem b8K(hu:X.A.units+8<cLine):b6b X (fun o i v H Q=>∃d1 d2 d3 ah m,Sim Γ ah m H/\Rp m H d1 o/\Rp m H d2 i/\Rp m H d3 v/\i8 Γ E m H (S4 ah d1 d2 d3) (fun _ _ _ H'=>Q H')):=by
 rintro pins s σ H o i v ov iv u Q I ro ri rv ⟨d1,d2,d3,ah,m,S,r1,r2,r3,q⟩;unfold S4 at q
 split at q
 · split at q
   · rename_i xs e
     split at q
     · rename_i k
       split at q
       · rename_i j e2;obtain⟨a,vs,rfl,hm,h1,q1⟩:=S.lst e r1;cases r2;refine a8B pins s σ H _ _ _ ov iv u Q I ro ri rv ⟨a,vs,_,j,rfl,rfl,h1,by rw[q1.len];exact e2,?_⟩
         have kp:Keep m m H (upd H a (.lst (vs.set j v))):=Keep.put hm h1 fun z=>z
         exact q m _ (Pre.refl m) kp (S.write hm h1 (fun z=>z) ⟨_,d8,(q1.set j r3).mono (Pre.refl m) kp⟩)
       · exact q.elim
     · exact q.elim
   · rename_i kvs e
     split at q
     · rename_i h;obtain⟨a,rfl,hm⟩:=r1
       cases (show ov=Value.ref a from ro)
       obtain⟨H',I',kp,S',hd⟩:=M0 I S e h.1 hm
       have r3':=r3.mono (Pre.refl m) kp
       rcases hd with⟨ks,gs,hk,ha,dk⟩|⟨l,ks,gs,rfl,hk,ha,dt⟩
       · have kp2:Keep m m H' (upd H' a (.dK (J8 gs ks v))):=Keep.put hm ha fun z=>z
         refine a3a (v:=v) (H':=upd H' a (.dK (J8 gs ks v))) (hu1 hu) I' (.inl ⟨gs,ks,ha,V8 hk r2,by rw[←Paired.length dk,←K7];exact h.2,rfl⟩) ri rv fun s' I''=>⟨_,I'',?_⟩
         exact q m _ (Pre.refl m) (kp.trans kp2) (S'.write hm ha (fun z=>z) (.inl ⟨_,d8,(dk.put hk r3').mono (Pre.refl m) kp2.im⟩))
       · have kp2:Keep m m H' (upd H' a (.dT (J8 gs ks v))):=Keep.put hm ha fun z=>z
         obtain⟨b,vs,rfl,hb,rs⟩:=r2;have hv:=a1X hk rs;subst hv;refine a3a (v:=v) (H':=upd H' a (.dT (J8 gs ks v))) (hu1 hu) I' (.inr ⟨gs,ks,b,ha,rfl,kp.tup hb,by rw[←Paired.length dt,←K7];exact h.2,rfl⟩) ri rv fun s' I''=>⟨_,I'',?_⟩
         exact q m _ (Pre.refl m) (kp.trans kp2) (S'.write hm ha (fun z=>z) (.inr ⟨_,d8,(dt.put hk r3').mono (Pre.refl m) kp2.im⟩))
     · exact q.elim
   · exact q.elim
 · exact q.elim
theorem Fl.put{f:Str}(r:Rp m H d v){fs:List (Str×D)}{gs:List (Str×V)}(h:Fl m H fs gs):Fl m H (a2J f d fs) (O9 f v gs):=by
 induction h with
 |nil=>exact .cons ⟨rfl,r⟩ .nil
 | @cons p q ps qs h t ih=>
  obtain⟨n,x⟩:=p;obtain⟨n',x'⟩:=q
  have e:n=n':=h.1
  subst e;unfold a2J O9
  split
  · exact .cons ⟨rfl,r⟩ t
  · exact .cons h ih
theorem Fl.look{f:Str}{fs:List (Str×D)}{gs:List (Str×V)}(h:Fl m H fs gs)(e:fs.lookup f=some d):∃v,gs.lookup f=some v/\Rp m H d v:=by
 induction h with
 |nil=>cases e
 | @cons p q ps qs h t ih=>
  obtain⟨n,x⟩:=p;obtain⟨n',x'⟩:=q
  have e1:n=n':=h.1
  subst e1;rw[lookup_cons] at e⊢
  cases z:f==n with
  |true=>rw[z] at e;cases e;exact⟨x',rfl,h.2⟩
  |false=>rw[z] at e;exact ih e
end
set_option genInjectivity false
mutual
inductive Pat where
  |nm (i:Nat)|tp (ps:Pats)
inductive Pats where
  |nil|cons (p:Pat) (r:Pats)
end
inductive Ty where
 |b (n:String)|c (k:Nat)
 deriving DecidableEq
mutual
inductive E where
  |v (i:Nat)|k (d:D)|bin (o:B) (a b:E)|isN (a:E)|notN (a:E)|neg (a:E)|nt (a:E)|an (a b:E)|orr (a b:E)|chn (o p:B) (a b c:E)
  |ix (a b:E)|sl (a:E) (lo hi:O)|fld (a:E) (f:Str)|lst (es:Es)|tup (es:Es)|dnew|call (f:Nat) (es:Es)|mk (c:Nat) (es:Es)|bi (b:Bi) (es:Es)|mt (b:Mt) (o:E) (es:Es)
  |isi (a:E) (t:Ty)|isis (a:E) (cs:List Nat)|comp (p:Pat) (it:I) (n:Nat) (fr:List Nat) (t:T) (e:E)|compI (p:Pat) (a:E) (n:Nat) (fr:List Nat) (t:T) (e:E)|gin (neg:Bool) (a:E) (ds:List D)|gdin (neg:Bool) (a:E) (kvs:List (D×D))|gdix (a:E) (kvs:List (D×D))|dlit (kvs:List (D×D))
inductive Es where
  |nil|cons (e:E) (r:Es)
inductive T where
  |yes|val (e:E)|cmp (o:B) (a b:E)|isN (a:E)|notN (a:E)|chn (o p:B) (a b c:E)|an (a b:T)|orr (a b:T)|nt (a:T)
inductive O where
  |no|at(e:E)
inductive I where
  |seq (e:E)|rng1 (a:E)|enum (e:E)|zip (a b:E)
end
mutual
inductive S where
  |set (i:Nat) (e:E)|ex (e:E)|ret (e:E)|iff (t:T) (a b:Ss)|for (p:Pat) (it:I) (b:Ss)|whl (t:T) (b:Ss)|pat (p:Pat) (e:E)|bad|rais (c:Nat) (es:Es)|tryc (i0 f:Nat) (es:Es) (cl:Nat) (i j:Nat)|setc (i:Nat) (e:E)|six (a i v:E)|sfl (a:E) (f:Str) (v:E)
inductive Ss where
  |nil|cons (s:S) (r:Ss)
end
set_option genInjectivity true
inductive Out where
 |nx (env:o6)|rt (d:D)
abbrev CF:=Nat->List D->AH->R D
structure CT where
 init:Nat->Nat
 sub:Nat->Nat->Bool
mutual
def G0:Pat->D->o6->Option o6
  |.nm i,d,env=>some (env.set i (some d))
  | .tp ps,d,env=>match d with
    |.tup ds=>O1 ps ds env
    |_=>none
def O1:Pats->List D->o6->Option o6
  | .nil,ds,env=>match ds with
    |[]=>some env
    |_::_=>none
  | .cons p r,ds,env=>match ds with
    |[]=>none
    | d::t=>match G0 p d env with
      |some env'=>O1 r t env'
      |none=>none
end
noncomputable def gOk(g:List (Nat×Cell))(h:AH):Bool:=g.all fun p=>decide (h[p.1]? =some p.2)
def noex{α:Type}:R α->R α
 |.ok a h=>.ok a h
 |_=>.no
noncomputable def asB(r:R D):R Bool:=r.bind fun d h=>match d with
 |.bl b=>.ok b h
 |_=>.no
def M5(g:List (Nat×Cell))(p:Pat)(body:o6->AH->R Out):List D->o6->AH->R Out
 |[],env,h=>if gOk g h=true then .ok (.nx env) h else .no
 | x::r,env,h=>if gOk g h=true then(match G0 p x env with
  |none=>.no
  |some env'=>(body env' h).bind fun o h'=>match o with
   |.nx env''=>M5 g p body r env'' h'
   |.rt d=>.ok (.rt d) h') else .no
def B2(g:List (Nat×Cell))(p:Pat)(t:o6->AH->R Bool)(elt:o6->AH->R D)(env0:o6):List D->List D->AH->R (List D)
 |[],acc,h=>if gOk g h=true then .ok acc h else .no
 | x::r,acc,h=>if gOk g h=true then(match G0 p x env0 with
  |none=>.no
  |some env=>(t env h).bind fun b h1=>if b=true then((elt env h1).bind fun d h2=>if acc.length<SL then B2 g p t elt env0 r (acc++[d]) h2 else .no)
   else B2 g p t elt env0 r acc h1) else .no
def a3k:Nat:=1000000
noncomputable def a1g(t:o6->AH->R Bool)(body:o6->AH->R Out):Nat->o6->AH->R Out
 |0,_,_=>.no
 |n+1,env,h=>(t env h).bind fun b h1=>if b=true then((body env h1).bind fun o h'=>match o with
  |.nx env''=>a1g t body n env'' h'
  |.rt d=>.ok (.rt d) h') else .ok (.nx env) h1
noncomputable def z9:Nat->List D->List D
 |_,[]=>[]
 |n,x::r=>.tup [.int n,x]::z9 (n+1) r
noncomputable def S2(x:Str):List D:=x.cps.toList.map fun c=>.str ⟨#[c]⟩
noncomputable def a8I(lo:Int)(n:Nat):List D:=(List.range n).map fun i=>.int (lo+(i:Nat))
abbrev Its:=List D×List (Nat×Cell)
def S5(h:AH):D->R Its
 |.str x=>.ok (S2 x,[]) h
 |.tup l=>.ok (l,[]) h
 |.ref n=>match h[n]? with
  |some (.lst l)=>.ok (l,[(n,.lst l)]) h
  |some (.rol l)=>.ok (l,[(n,.rol l)]) h
  |_=>.no
 |_=>.no
def a5C(h:AH):D->D->R Its
 |.int i,.int j=>if a0F i=true/\a0F j=true then .ok (a8I i (j-i).toNat,[]) h else .no
 |_,_=>.no
def X6(h:AH):D->R Its
 |.ref n=>match h[n]? with
  |some (.lst l)=>.ok (z9 0 l,[(n,.lst l)]) h
  |some (.rol l)=>.ok (z9 0 l,[(n,.rol l)]) h
  |_=>.no
 |_=>.no
noncomputable def a1d(h:AH)(n:Nat):Option (List D×Cell):=match h[n]? with
 |some (.lst l)=>some (l,.lst l)
 |some (.rol l)=>some (l,.rol l)
 |_=>none
noncomputable def Y0:List D->List D->List D
 |x::xs,y::ys=>.tup [x,y]::Y0 xs ys
 |_,_=>[]
def a7f(h:AH):D->D->R Its
 |.ref i,.ref j=>match a1d h i,a1d h j with
  |some a,some b=>.ok (Y0 a.1 b.1,[(i,a.2),(j,b.2)]) h
  |_,_=>.no
 |_,_=>.no
noncomputable def K0(l:List (D×D)):List D:=l.map fun p=>.tup [p.1,p.2]
def a2Z(h:AH):D->Option (Nat×List (D×D))
 |.ref n=>match h[n]? with
  |some (.dict l)=>if l.isEmpty=false/\l.all (fun p=>(D9 p.1).isSome)=true then some (n,l) else none
  |_=>none
 |_=>none
noncomputable def a0M(ct:CT)(h:AH)(t:Ty):D->Option Bool
 |.str _=>(match t with
  |.b n=>if n="str" then some true else none
  |_=>none)
 | .ref n=>(match h[n]? with
  |some (.lst _)=>(match t with
   |.b n=>if n="list" then some true else none
   |_=>none)
  |some (.exc c)=>(match t with
   |.b n=>if n="ValueError" then some true else none
   |.c k=>some (ct.sub c k))
  |_=>none)
 |_=>none
noncomputable def u6(n:Nat)(fr:List Nat)(env:o6):o6:=List.replicate n none++fr.map fun j=>(env[j]?).join
noncomputable def a6J(r:R D):R (Option Int):=r.bind fun d h=>match d with
 |.int i=>.ok (some i) h
 |_=>.no
section
variable(ct:CT)(c:CF)
mutual
def ev:E->o6->AH->R D
  | .v i,env,h=>match env[i]? with
    |some (some d)=>.ok d h
    |_=>.no
  |.k d,_,h=>.ok d h
  |.bin o a b,env,h=>(ev a env h).bind fun x h1=>(ev b env h1).bind fun y h2=>op2 o h2 x y
  |.isN a,env,h=>(ev a env h).bind fun x h1=>.ok (.bl (decide (x=.non))) h1
  |.notN a,env,h=>(ev a env h).bind fun x h1=>.ok (.bl (!decide (x=.non))) h1
  | .neg a,env,h=>(ev a env h).bind fun x h1=>match x with
    |.int i=>.ok (.int (-i)) h1
    |_=>.no
  |.nt a,env,h=>(asB (ev a env h)).bind fun b h1=>.ok (.bl (!b)) h1
  |.an a b,env,h=>(asB (ev a env h)).bind fun x h1=>if x=true then ev b env h1 else .ok (.bl false) h1
  |.orr a b,env,h=>(asB (ev a env h)).bind fun x h1=>if x=true then .ok (.bl true) h1 else ev b env h1
  |.chn o p a b e,env,h=>(ev a env h).bind fun x h1=>(ev b env h1).bind fun y h2=>(asB (op2 o h2 x y)).bind fun k h3=>if k=true then(ev e env h3).bind fun z h4=>op2 p h4 y z else .ok (.bl false) h3
  |.ix a b,env,h=>(ev a env h).bind fun x h1=>(ev b env h1).bind fun y h2=>ixD h2 x y
  |.sl a lo hi,env,h=>(ev a env h).bind fun x h1=>(evo lo env h1).bind fun l h2=>(evo hi env h2).bind fun u h3=>slD h3 l u x
  |.fld a f,env,h=>(ev a env h).bind fun x h1=>T7 h1 f x
  |.lst es,env,h=>(evs es env h).bind fun ds h1=>if ds.length<=SL then A4 (.lst ds) h1 else .no
  |.tup es,env,h=>(evs es env h).bind fun ds h1=>if ds.length<=SL then .ok (.tup ds) h1 else .no
  |.dnew,_,h=>A4 (.dict []) h
  |.call f es,env,h=>(evs es env h).bind fun ds h1=>c f ds h1
  | .mk k es,env,h=>(evs es env h).bind fun ds h1=>(c (ct.init k) (.ref h1.length::ds) (h1++[.obj k []])).bind fun r h2=>match r with
    |.non=>.ok (.ref h1.length) h2
    |_=>.no
  |.bi b es,env,h=>(evs es env h).bind fun ds h1=>biD b h1 ds
  |.mt b o es,env,h=>(ev o env h).bind fun x h1=>if mtT b h1 x=true then(evs es env h1).bind fun ds h2=>mtD b h2 x ds else .no
  | .isi a t,env,h=>(ev a env h).bind fun x h1=>match a0M ct h1 t x with
    |some b=>.ok (.bl b) h1
    |none=>.no
  | .isis a cs,env,h=>(ev a env h).bind fun x h1=>match x with
    | .ref n=>match h1[n]? with
      |some (.exc k)=>.ok (.bl (cs.any (ct.sub k))) h1
      |_=>.no
    |_=>.no
  |.comp p it n fr t e,env,h=>(evi it env h).bind fun x h1=>(noex (B2 x.2 p (tst t) (ev e) (u6 n fr env) x.1 [] h1)).bind fun ds h2=>A4 (.lst ds) h2
  | .compI p a n fr t e,env,h=>(ev a env h).bind fun x h1=>match a2Z h1 x with
    |some (k,l)=>(noex (B2 [(k,.rod l)] p (tst t) (ev e) (u6 n fr env) (K0 l) [] (h1.set k (.rod l)))).bind fun ds h2=>A4 (.lst ds) (h2.set k (.dict l))
    |none=>.no
  |.gin neg a ds,env,h=>(ev a env h).bind fun x h1=>if y7 x=true/\ds.all y7=true then .ok (.bl (inD x ds !=neg)) h1 else .no
  |.gdin neg a kvs,env,h=>(ev a env h).bind fun x h1=>if(D9 x).isSome=true then .ok (.bl ((n8 kvs x).isSome !=neg)) h1 else .no
  | .gdix a kvs,env,h=>(ev a env h).bind fun x h1=>if(D9 x).isSome=true then(match n8 kvs x with
    |some d=>.ok d h1
    |none=>.no) else .no
  |.dlit kvs,_,h=>A4 (.dict kvs) h
def evs:Es->o6->AH->R (List D)
  |.nil,_,h=>.ok [] h
  |.cons e r,env,h=>(ev e env h).bind fun d h1=>(evs r env h1).bind fun ds h2=>.ok (d::ds) h2
def tst:T->o6->AH->R Bool
  |.yes,_,h=>.ok true h
  |.val e,env,h=>asB (ev e env h)
  |.cmp o a b,env,h=>asB ((ev a env h).bind fun x h1=>(ev b env h1).bind fun y h2=>op2 o h2 x y)
  |.isN a,env,h=>(ev a env h).bind fun x h1=>.ok (decide (x=.non)) h1
  |.notN a,env,h=>(ev a env h).bind fun x h1=>.ok (!decide (x=.non)) h1
  |.chn o p a b e,env,h=>asB ((ev a env h).bind fun x h1=>(ev b env h1).bind fun y h2=>(asB (op2 o h2 x y)).bind fun k h3=>if k=true then(ev e env h3).bind fun z h4=>op2 p h4 y z else .ok (.bl false) h3)
  |.an a b,env,h=>(tst a env h).bind fun x h1=>if x=true then tst b env h1 else .ok false h1
  |.orr a b,env,h=>(tst a env h).bind fun x h1=>if x=true then .ok true h1 else tst b env h1
  |.nt a,env,h=>(tst a env h).bind fun x h1=>.ok (!x) h1
def evo:O->o6->AH->R (Option Int)
  |.no,_,h=>.ok none h
  |.at e,env,h=>a6J (ev e env h)
def evi:I->o6->AH->R Its
  |.seq e,env,h=>(ev e env h).bind fun d h1=>S5 h1 d
  |.rng1 a,env,h=>(ev a env h).bind fun d h1=>a5C h1 (.int 0) d
  |.enum e,env,h=>(ev e env h).bind fun d h1=>X6 h1 d
  |.zip a b,env,h=>(ev a env h).bind fun x h1=>(ev b env h1).bind fun y h2=>a7f h2 x y
end
def evc:E->o6->AH->R D
 |.comp p it n fr t e,env,h=>(evi ct c it env h).bind fun x h1=>(B2 x.2 p (tst ct c t) (ev ct c e) (u6 n fr env) x.1 [] h1).bind fun ds h2=>A4 (.lst ds) h2
 |_,_,_=>.no
mutual
def ex:S->o6->AH->R Out
  |.set i e,env,h=>(ev ct c e env h).bind fun d h1=>.ok (.nx (env.set i (some d))) h1
  |.setc i e,env,h=>(evc ct c e env h).bind fun d h1=>.ok (.nx (env.set i (some d))) h1
  |.ex e,env,h=>(ev ct c e env h).bind fun _ h1=>.ok (.nx env) h1
  |.ret e,env,h=>(ev ct c e env h).bind fun d h1=>.ok (.rt d) h1
  |.iff t a b,env,h=>(tst ct c t env h).bind fun x h1=>if x=true then exs a env h1 else exs b env h1
  |.for p it b,env,h=>(evi ct c it env h).bind fun x h1=>M5 x.2 p (exs b) x.1 env h1
  |.whl t b,env,h=>a1g (tst ct c t) (exs b) a3k env h
  | .pat p e,env,h=>(ev ct c e env h).bind fun d h1=>match G0 p d env with
    |some env'=>.ok (.nx env') h1
    |none=>.no
  |.bad,_,_=>.no
  |.rais k es,env,h=>(evs ct c es env h).bind fun ds h1=>if ds.length<=8 then .ex k h1 else .no
  | .tryc i0 f es cl i j,env,h=>(noex (evs ct c es env h)).bind fun ds h1=>match c f ds h1 with
    |.ok d h2=>.ok (.nx (env.set i0 (some d))) h2
    |.ex k h2=>if ct.sub k cl=true/\i<env.length then .ok (.nx ((env.set j (some (.ref h2.length))).set i none)) (h2++[.exc k]) else .no
    |.no=>.no
  |.six a i v,env,h=>(ev ct c v env h).bind fun x h1=>(ev ct c a env h1).bind fun o h2=>(ev ct c i env h2).bind fun k h3=>(S4 h3 o k x).bind fun _ h4=>.ok (.nx env) h4
  |.sfl a f v,env,h=>(ev ct c v env h).bind fun x h1=>(ev ct c a env h1).bind fun o h2=>(a3v h2 o f x).bind fun _ h3=>.ok (.nx env) h3
def exs:Ss->o6->AH->R Out
  |.nil,env,h=>.ok (.nx env) h
  | .cons s r,env,h=>(ex s env h).bind fun o h1=>match o with
    |.nx env'=>exs r env' h1
    |.rt d=>.ok (.rt d) h1
end
end
structure Fn where
 np:Nat
 ns:Nat
 gc:Nat
 body:Ss
noncomputable def Cell.flat:Cell->Bool
 |.lst l=>D.flats l
 |.dict l=>l.all fun p=>p.1.flat&&p.2.flat
 |_=>false
def gcR (n:Nat) (h:AH):R D->R D
 | .ok d h'=>if n=0 then .ok d h' else if n=1 then(if h'.take h.length=h/\d.flat=true then .ok d h else .no)
  else(match d with
   |.ref k=>(match h'[k]? with
    |some c=>if h'.take h.length=h/\h.length<=k/\c.flat=true then .ok (.ref h.length) (h++[c]) else .no
    |none=>.no)
   |_=>.no)
 |.ex k h'=>.ex k h'
 |.no=>.no
def b6(ct:CT)(F:Nat->Option Fn):Nat->CF
 |0=>fun _ _ _=>.no
 | k+1=>fun f ds h=>match F f with
  |none=>.no
  |some fd=>if ds.length=fd.np then gcR fd.gc h (match exs ct (b6 ct F k) fd.body (ds.map some++List.replicate (fd.ns-fd.np) none) h with
   |.ok (.nx _) h'=>.ok .non h'
   |.ok (.rt d) h'=>.ok d h'
   |.ex c h'=>.ex c h'
   |.no=>.no) else .no
structure GT where
 fn:List (Str×Nat×Nat)
 scal:List (Str×D)
 tups:List (Str×List D)
 dicts:List (Str×List (D×D))
 cls:List (Str×Nat)
 rs:List (Str×Nat)
 obj:List (Str×Nat)
 hb:Nat
 rc:List Nat
 atts:List Str
 blt:List Str
noncomputable def b7S:Operator->Option B
 |.Add=>some .add|.Sub=>some .sub|.Mult=>some .mul|.FloorDiv=>some .div|.Mod=>some .mod
 |_=>none
noncomputable def a6e:CmpOp->Option B
 |.Eq=>some .eq|.NotEq=>some .ne|.Lt=>some .lt|.LtE=>some .le|.Gt=>some .gt|.GtE=>some .ge|.In=>some .isin|.NotIn=>some .notin
 |_=>none
noncomputable def a9V(sc:Scope)(x:Str):Bool:=match sc.names.lookup x with
 |some .local=>true|some .cell=>true|some .free=>true
 |_=>false
noncomputable def D6(sc:Scope)(x:Str):Bool:=decide (sc.names.lookup x=some .globalImplicit)&&decide (x≠"__debug__")&&decide (x≠"__name__")
def slot(N:List Str)(sc:Scope)(x:Str):Option Nat:=if a9V sc x&&decide (x≠"__debug__")&&decide (x≠"__classdict__") then N.idxOf? x else none
noncomputable def a9W(dfn:Bool)(sc:Scope)(x:Str):Bool:=match sc.names.lookup x with
 |some .local=>true|some .cell=>dfn
 |_=>false
def a0W(dfn:Bool)(N:List Str)(sc:Scope)(x:Str):Option Nat:=if a9W dfn sc x then N.idxOf? x else none
noncomputable def b5C(x:Str):Option Bi:=if x="len" then some .len else if x="str" then some .str else if x="int" then some .int else if x="tuple" then some .tuple else if x="list" then some .list
 else if x="all" then some .all else if x="any" then some .any else if x="dict" then some .dict else none
noncomputable def b4w(x:Str):Option Mt:=if x="append" then some .append else if x="split" then some .split else if x="join" then some .join else if x="startswith" then some .starts else if x="insert" then some .insert else none
noncomputable def o0:Expr->Bool
 |.Starred _ _=>false
 |_=>true
noncomputable def Y4:Expr->Bool
 |.Call (.Name _ _) [] [] _=>false
 |_=>true
noncomputable def a1t:Expr->Bool
 |.Slice .. =>false
 |_=>true
noncomputable def a0o:Expr->Bool
 |.Set .. =>false
 |_=>true
noncomputable def a1H(sc scope:Scope):Scope:={scope with names:=scope.names.map fun(n,k)=>if(k==NameKind.free&&sc.kind==.function&&sc.names.lookup n==some .cell) then(n,NameKind.cell) else(n,k)}
noncomputable def b3T:Expr->Bool
 |.Name .. =>true|.Call .. =>true|.Subscript .. =>true|.Attribute .. =>true
 |_=>false
def cTy(G:GT)(sc:Scope)(x:Str):Option Ty:=if D6 sc x then(match G.cls.lookup x with
 |some k=>some (.c k)
 |none=>if G.blt.contains x then(if x="str" then some (.b "str") else if x="list" then some (.b "list") else if x="ValueError" then some (.b "ValueError") else none) else none) else none
def U7(G:GT)(sc:Scope):List Expr->Option (List Nat)
 |[]=>some []
 |.Name x _::r=>match(if D6 sc x then G.cls.lookup x else none),U7 G sc r with
  |some k,some ks=>some (k::ks)
  |_,_=>none
 |_=>none
mutual
def a6g (dfn:Bool) (N:List Str) (sc:Scope):Nat->Expr->Option Pat
  |0,_=>none
  | n+1,e=>match e with
    |.Name x _=>(a0W dfn N sc x).map .nm
    |.Tuple es _ _=>(a2j dfn N sc n es).map .tp
    |_=>none
def a2j (dfn:Bool) (N:List Str) (sc:Scope):Nat->List Expr->Option Pats
  |0,_=>none
  | n +1,es=>match es with
    |[]=>some .nil
    | e::r=>match a6g dfn N sc n e,a2j dfn N sc n r with
      |some p,some ps=>some (.cons p ps)
      |_,_=>none
end
mutual
def B9:Pat->List Nat
  |.nm i=>[i]
  |.tp ps=>V4 ps
def V4:Pats->List Nat
  |.nil=>[]
  |.cons p r=>B9 p++V4 r
end
mutual
def v0:Nat->Expr->List Str
  |0,_=>[]
  | n+1,e=>match e with
    |.Name x _=>[x]
    |.Tuple es _ _=>a2K n es
    |_=>[]
def a2K:Nat->List Expr->List Str
  |0,_=>[]
  | n+1,es=>match es with
    |[]=>[]
    |e::r=>v0 n e++a2K n r
end
noncomputable def C5(scope:Scope):List Str:=(scope.names.filter fun y=>decide (y.2=.free)).map (·.1)
noncomputable def b2f(N:List Str):List Str->Option (List Nat)
 |[]=>some []
 |x::r=>match N.idxOf? x,b2f N r with
  |some i,some is=>some (i::is)
  |_,_=>none
structure Rec where
 E:List Str->Scope->Expr->Option E
 Es:List Str->Scope->List Expr->Option Es
 T:List Str->Scope->Expr->Option T
 O:List Str->Scope->Option Expr->Option O
 I:List Str->Scope->Expr->Expr->Option I
noncomputable def b4T:Expr->Bool
 |.Constant k _ _=>(match k with
  |.none=>true
  |_=>false)
 |_=>false
noncomputable def a5G:CmpOp->Option Bool
 |.Is=>some true
 |.IsNot=>some false
 |_=>none
noncomputable def b6x:Expr->Option (Option Expr×Option Expr)
 |.Slice lo hi st _=>(match st with
  |none=>some (lo,hi)
  |some _=>none)
 |_=>none
noncomputable def b6C:Const->Option E
 |.int i=>some (.k (.int i))
 |.str x=>some (.k (.str x))
 |.bool b=>some (.k (.bl b))
 |.none=>some (.k .non)
 |_=>none
noncomputable def sUn(G:GT)(r:Rec)(N:List Str)(sc:Scope)(a:Expr):UnaryOp->Option E
 |.USub=>(r.E N sc a).map .neg
 |.Not=>(r.E N sc a).map .nt
 |_=>none
noncomputable def sBo (G : GT) (r:Rec) (N:List Str) (sc:Scope) (p:Pos) (op:BoolOp):List Expr->Option E
 |[]=>none
 | a :: t => match t with
   |[]=>r.E N sc a
   | b::l=>match op with
     |.And=>(match r.E N sc a,r.E N sc (.BoolOp .And (b::l) p) with
             |some x,some y=>some (.an x y)
             |_,_=>none)
     |.Or=>(match r.E N sc a,r.E N sc (.BoolOp .Or (b::l) p) with
             |some x,some y=>some (.orr x y)
             |_,_=>none)
def b6E (G:GT) (r:Rec) (N:List Str) (sc:Scope) (a:Expr) (op:CmpOp) (b:Expr):Option E:=
 if b4T b&&(a5G op).isSome then(match a5G op with
  |some true=>(r.E N sc a).map .isN
  |_=>(r.E N sc a).map .notN) else
 if a0o b then(match a6e op,r.E N sc a,r.E N sc b with
  |some o,some x,some y=>some (.bin o x y)
  | some o,some x,none=>(match b with
   |.Name y _=>if D6 sc y then(match op,G.tups.lookup y with
    |.In,some ds=>some (.gin false x ds)
    |.NotIn,some ds=>some (.gin true x ds)
    |.In,none=>(G.dicts.lookup y).map (.gdin false x)
    |.NotIn,none=>(G.dicts.lookup y).map (.gdin true x)
    |_,_=>none) else none
   |_=>none)
  |_,_,_=>none) else none
def b6D(G:GT)(r:Rec)(N:List Str)(sc:Scope)(a:Expr)(op op':CmpOp)(b d:Expr):Option E:=if a0o d then(match a6e op,a6e op',r.E N sc a,r.E N sc b,r.E N sc d with
 |some o,some p,some x,some y,some z=>some (.chn o p x y z)
 |_,_,_,_,_=>none) else none
def sSl (G:GT) (r:Rec) (N:List Str) (sc:Scope) (a b:Expr):Option E:=match b6x b with
 | some (lo,hi)=>(match r.E N sc a,r.O N sc lo,r.O N sc hi with
         |some x,some l,some u=>some (.sl x l u)
         |_,_,_=>none)
 |none=>if a1t b then(match r.E N sc a,r.E N sc b with
     |some x,some y=>some (.ix x y)
     | none,some y=>(match a with
       |.Name z _=>if D6 sc z then(G.dicts.lookup z).map (.gdix y) else none
       |_=>none)
     |_,_=>none) else none
noncomputable def b5t:Expr->Option Str
 |.Constant k _ _=>(match k with
  |.str x=>some x
  |_=>none)
 |_=>none
noncomputable def b5u:Expr->Option Int
 |.Constant k _ _=>(match k with
  |.int i=>some i
  |_=>none)
 |_=>none
def a7V:List (Option Expr)->List Expr->Option (List (D×D))
 |[],vs=>if vs.isEmpty then some [] else none
 | k::ks,vs=>(match vs with
  |[]=>none
  |v::r=>(match k.bind b5t,b5u v,a7V ks r with
   |some x,some i,some l=>some ((.str x,.int i)::l)
   |_,_,_=>none))
noncomputable def a3L:List D->Bool
 |[]=>true
 |d::r=>!(r.any fun e=>decide (e=d))&&a3L r
def b5r(kvs:List (D×D)):Bool:=decide (kvs.length<=15)&&a3L (kvs.map (·.1))
noncomputable def a4K:Expr->Option Str
 |.Name x _=>some x
 |_=>none
def sCn (G:GT) (r:Rec) (N:List Str) (sc:Scope) (x:Str) (as:List Expr):Option E:=if D6 sc x then(match G.fn.lookup x with
 |some (f,np)=>if as.length=np&&decide (as≠[]) then(r.Es N sc as).map (.call f) else none
 | none=>match G.obj.lookup x with
  |some k=>if as=[] then some (.mk k .nil) else none
  | none=>if G.blt.contains x then(if x="isinstance" then(match as with
   |[a,.Name y _]=>if o0 a then(match r.E N sc a,cTy G sc y with
    |some z,some t=>some (.isi z t)
    |_,_=>none) else none
   |[a,.Tuple es _ _]=>if o0 a then(match r.E N sc a,U7 G sc es with
    |some z,some ks=>if ks.length<=SL then some (.isis z ks) else none
    |_,_=>none) else none
   |_=>none)
   else match b5C x with
    |some b=>if as≠[] then(r.Es N sc as).map (.bi b) else none
    |none=>none) else none) else none
def sCa(G:GT)(r:Rec)(N:List Str)(sc:Scope)(o:Expr)(m:Str)(apos:Pos)(as:List Expr)(cpos:Pos):Option E:=if Y4 o&&(apos.endLine==cpos.line)&&decide (as.length<20)&&decide (as≠[]) then(match b4w m,r.E N sc o,r.Es N sc as with
 |some b,some x,some xs=>some (.mt b x xs)
 |_,_,_=>none) else none
def b3E (r:Rec) (N:List Str) (sc:Scope) (elt tg iter:Expr) (ifs:List Expr) (scope:Scope):Option (List Nat×Pat×T×E):=match b2f N (C5 scope) with
       | some js=>if b5v sc scope (v0 8 tg) (C5 scope)&&a0o iter then(match a6g false (v0 8 tg++C5 scope) (a1H sc scope) 8 tg,r.E (v0 8 tg++C5 scope) (a1H sc scope) elt with
         | some p,some x=>if(B9 p).all (fun i=>decide (i<(v0 8 tg).length)) then(match ifs with
           |[]=>some (js,p,.yes,x)
           |[t]=>(r.T (v0 8 tg++C5 scope) (a1H sc scope) t).map fun z=>(js,p,z,x)
           |_=>none) else none
         |_,_=>none) else none
       |none=>none
def a3T(tg iter:Expr):Option Expr:=match iter with
 |.Call (.Attribute o m ap) [] [] cp=>if decide (m="items")&&Y4 o&&(ap.endLine==cp.line) then(match tg with
  |.Tuple _ _ _=>some o
  |_=>none) else none
 |_=>none
def sLc(G:GT)(r:Rec)(N:List Str)(sc:Scope)(elt tg iter:Expr)(ifs:List Expr)(scope:Scope):Option E:=match b3E r N sc elt tg iter ifs scope with
 |some q=>(match a3T tg iter with
  |some o=>(r.E N sc o).map fun x=>.compI q.2.1 x (v0 8 tg).length q.1 q.2.2.1 q.2.2.2
  |none=>(r.I N sc tg iter).map fun it=>.comp q.2.1 it (v0 8 tg).length q.1 q.2.2.1 q.2.2.2)
 |none=>none
def sE (G:GT) (r:Rec) (N:List Str) (sc:Scope) (e:Expr):Option E:=match e with
 |.Constant k _ _=>b6C k
 |.Name x _=>match slot N sc x with
  |some i=>some (.v i)
  |none=>if D6 sc x then(G.scal.lookup x).map .k else none
 |.BinOp a op b _=>match b7S op,r.E N sc a,r.E N sc b with
  |some o,some x,some y=>some (.bin o x y)
  |_,_,_=>none
 |.UnaryOp op a _=>sUn G r N sc a op
 |.BoolOp op l p=>sBo G r N sc p op l
 | .Compare a ops bs _=>(match ops with
  |[]=>none
  | op::t=>(match bs with
   |[]=>none
   | b::u=>(match t with
    |[]=>(match u with
     |[]=>b6E G r N sc a op b
     |_::_=>none)
    |op'::t'=>(match u with
     |[]=>none
     |d::u'=>if t'.isEmpty&&u'.isEmpty then b6D G r N sc a op op' b d else none))))
 |.Subscript a b _=>sSl G r N sc a b
 |.Attribute a f _=>if Y4 a&&G.atts.contains f then(r.E N sc a).map (.fld · f) else none
 |.List es _=>(r.Es N sc es).map .lst
 |.Tuple es _ _=>(r.Es N sc es).map .tup
 | .Dict ks vs _=>(match ks with
  |[]=>(match vs with
   |[]=>some .dnew
   |_::_=>none)
  |_::_=>(a7V ks vs).bind fun kvs=>if b5r kvs then some (.dlit kvs) else none)
 |.Call f as ks cpos=>if ks.isEmpty then(match f with
  |.Name x _=>sCn G r N sc x as
  |.Attribute o m apos=>sCa G r N sc o m apos as cpos
  |_=>none) else none
 |.ListComp elt gens scope _=>(match gens with
  |[]=>none
  |g::t=>if t.isEmpty&&decide (g.is_async=0) then sLc G r N sc elt g.target g.iter g.ifs scope else none)
 |_=>none
def sEs(G:GT)(r:Rec)(N:List Str)(sc:Scope)(es:List Expr):Option Es:=match es with
 |[]=>some .nil
 |e::l=>if o0 e then(match r.E N sc e,r.Es N sc l with
  |some x,some xs=>some (.cons x xs)
  |_,_=>none) else none
def sTd(G:GT)(r:Rec)(N:List Str)(sc:Scope)(e:Expr):Option T:=if b3T e then(r.E N sc e).map .val else none
def b6A (G:GT) (r:Rec) (N:List Str) (sc:Scope) (a:Expr) (op:CmpOp) (b:Expr):Option T:=
 if b4T b&&(a5G op).isSome then(match a5G op with
  |some true=>(r.E N sc a).map .isN
  |_=>(r.E N sc a).map .notN) else
 if a0o b then(match a6e op,r.E N sc a,r.E N sc b with
  |some o,some x,some y=>some (.cmp o x y)
  | some o,some x,none=>(match b with
   |.Name y _=>if D6 sc y then(match op,G.tups.lookup y with
    |.In,some ds=>some (.val (.gin false x ds))
    |.NotIn,some ds=>some (.val (.gin true x ds))
    |.In,none=>(G.dicts.lookup y).map fun kvs=>.val (.gdin false x kvs)
    |.NotIn,none=>(G.dicts.lookup y).map fun kvs=>.val (.gdin true x kvs)
    |_,_=>none) else none
   |_=>none)
  |_,_,_=>none) else none
def b6z(G:GT)(r:Rec)(N:List Str)(sc:Scope)(a:Expr)(op op':CmpOp)(b d:Expr):Option T:=if a0o d then(match a6e op,a6e op',r.E N sc a,r.E N sc b,r.E N sc d with
 |some o,some p,some x,some y,some z=>some (.chn o p x y z)
 |_,_,_,_,_=>none) else none
def sT (G:GT) (r:Rec) (N:List Str) (sc:Scope) (e:Expr):Option T:=match e with
 |.UnaryOp op a p=>(match op with
  |.Not=>(r.T N sc a).map .nt
  |op=>sTd G r N sc (.UnaryOp op a p))
 | .BoolOp op l p=>(match l with
  |[]=>sTd G r N sc (.BoolOp op [] p)
  | a::t=>(match t with
   |[]=>r.T N sc a
   | b::l=>(match op with
    |.And=>(match r.T N sc a,r.T N sc (.BoolOp .And (b::l) p) with
     |some x,some y=>some (.an x y)
     |_,_=>none)
    |.Or=>(match r.T N sc a,r.T N sc (.BoolOp .Or (b::l) p) with
     |some x,some y=>some (.orr x y)
     |_,_=>none))))
 | .Compare a ops bs p=>(match ops with
  |[]=>none
  | op::t=>(match bs with
   |[]=>none
   | b::u=>(match t with
    |[]=>(match u with
     |[]=>b6A G r N sc a op b
     |_::_=>none)
    |op'::t'=>(match u with
     |[]=>none
     |d::u'=>if t'.isEmpty&&u'.isEmpty then b6z G r N sc a op op' b d else none))))
 |e=>sTd G r N sc e
noncomputable def sO(G:GT)(r:Rec)(N:List Str)(sc:Scope)(o:Option Expr):Option O:=match o with
 |none=>some .no
 |some e=>(r.E N sc e).map .at
def sI (G:GT) (r:Rec) (N:List Str) (sc:Scope) (tg e:Expr):Option I:=match e with
 | .Call (.Name x p) as [] q=>if D6 sc x&&G.blt.contains x&&decide (x="range") then(match as with
  |[a]=>if o0 a then(r.E N sc a).map .rng1 else none
  |_=>none)
  else if D6 sc x&&G.blt.contains x&&decide (x="enumerate") then(match as,tg with
   |[a],.Tuple _ _ _=>if o0 a then(r.E N sc a).map .enum else none
   |_,_=>none)
  else if D6 sc x&&G.blt.contains x&&decide (x="zip") then(match as,tg with
   |[a,b],.Tuple _ _ _=>if o0 a&&o0 b then(match r.E N sc a,r.E N sc b with
    |some u,some v=>some (.zip u v)
    |_,_=>none) else none
   |[a,b],.Name _ _=>if o0 a&&o0 b then(match r.E N sc a,r.E N sc b with
    |some u,some v=>some (.zip u v)
    |_,_=>none) else none
   |_,_=>none)
  else(r.E N sc (.Call (.Name x p) as [] q)).map .seq
 |e=>(r.E N sc e).map .seq
def cR(G:GT):Nat->Rec
 |0=>⟨fun _ _ _=>none,fun _ _ _=>none,fun _ _ _=>none,fun _ _ _=>none,fun _ _ _ _=>none⟩
 |n+1=>⟨sE G (cR G n),sEs G (cR G n),sT G (cR G n),sO G (cR G n),sI G (cR G n)⟩
abbrev cE(G:GT)(N:List Str)(sc:Scope)(n:Nat)(e:Expr):Option E:=(cR G n).E N sc e
abbrev cEs(G:GT)(N:List Str)(sc:Scope)(n:Nat)(es:List Expr):Option Es:=(cR G n).Es N sc es
abbrev cT(G:GT)(N:List Str)(sc:Scope)(n:Nat)(e:Expr):Option T:=(cR G n).T N sc e
abbrev cO(G:GT)(N:List Str)(sc:Scope)(n:Nat)(o:Option Expr):Option O:=(cR G n).O N sc o
abbrev cI(G:GT)(N:List Str)(sc:Scope)(n:Nat)(tg e:Expr):Option I:=(cR G n).I N sc tg e
noncomputable def P5(e:Expr):Bool:=match e with
 |.ListComp .. =>false|.SetComp .. =>false|.DictComp .. =>false
 |_=>true
noncomputable def b9a(e:Expr):Bool:=match e with
 |.ListComp .. =>true
 |_=>false
noncomputable def b3e:Expr->Bool
 |.Subscript .. =>true|.Call .. =>true
 |_=>false
noncomputable def rcE(G:GT):E->Bool
 |.comp _ _ _ _ _ (.call f _)=>G.rc.contains f
 |_=>false
def sAs (G:GT) (N:List Str) (sc:Scope) (e:Expr):Expr->Option S
 | .Name x _=>(match a0W true N sc x,cE G N sc 40 e with
         |some i,some y=>if P5 e then some (.set i y) else if b9a e then some (if rcE G y then .setc i y else .set i y) else none
         |_,_=>none)
 |.Subscript a i _=>(match cE G N sc 40 a,cE G N sc 40 i,cE G N sc 40 e with
         |some x,some k,some y=>if P5 e&&a1t i then some (.six x k y) else none
         |_,_,_=>none)
 |.Attribute a f _=>(match cE G N sc 40 a,cE G N sc 40 e with
         |some x,some y=>if P5 e&&G.atts.contains f then some (.sfl x f y) else none
         |_,_=>none)
 |.Tuple es k q=>(match a6g true N sc 8 (.Tuple es k q),cE G N sc 40 e with
         |some p,some y=>if b3e e then some (.pat p y) else none
         |_,_=>none)
 |_=>none
def sRa(G:GT)(N:List Str)(sc:Scope)(x:Str)(as:List Expr):Option S:=if D6 sc x&&decide (as≠[]) then(match G.rs.lookup x,cEs G N sc 40 as with
 |some k,some xs=>some (.rais k xs)
 |_,_=>none) else none
def sRx(G:GT)(N:List Str)(sc:Scope):Option Expr->Option S
 |none=>none
 | some ex=>(match ex with
  |.Call f as ks _=>if ks.isEmpty then(match a4K f with
   |some x=>sRa G N sc x as
   |none=>none) else none
  |_=>none)
def b6i:Stmt->Option (Str×Str×List Expr)
 | .Assign ts e _=>(match ts with
  |[]=>none
  | t::u=>if u.isEmpty then(match e with
   |.Call f as ks _=>if ks.isEmpty then(match a4K t,a4K f with
    |some y,some x=>some (y,x,as)
    |_,_=>none) else none
   |_=>none) else none)
 |_=>none
def tyB:List Stmt->Option (Str×Str×List Expr)
 |[]=>none
 |s::r=>if r.isEmpty then b6i s else none
def tyA:Stmt->Option (Str×Str)
 | .Assign ts e _=>(match ts with
  |[]=>none
  |t::r=>if r.isEmpty then(match a4K t,a4K e with
   |some u,some v=>some (u,v)
   |_,_=>none) else none)
 |_=>none
def b6h(y:Option Expr)(z:Option Str):List Stmt->Option (Str×Str×Str×Str)
 |[]=>none
 |s::q=>if q.isEmpty then(match y.bind a4K,z,tyA s with
  |some y,some z,some (u,v)=>some (y,z,u,v)
  |_,_,_=>none) else none
def tyH:List ExceptHandler->Option (Str×Str×Str×Str)
 |[]=>none
 |.ExceptHandler y z b _::r=>if r.isEmpty then b6h y z b else none
def sTy(G:GT)(N:List Str)(sc:Scope)(b:List Stmt)(hs:List ExceptHandler):Option S:=match tyB b,tyH hs with
 | some (x0,x,as),some (y,z,u,v)=>
  if D6 sc x&&D6 sc y&&decide (v=z)&&decide (sc.names.lookup z=some .local)&&decide (sc.names.lookup u=some .local)&&decide (u≠z)&&decide (z≠"__debug__")&&decide (z≠"__classdict__")&&decide (sc.names.lookup x0=some .local) then(match G.fn.lookup x,G.cls.lookup y,cEs G N sc 40 as,N.idxOf? z,N.idxOf? u,N.idxOf? x0 with
   |some (f,np),some k,some xs,some i,some j,some i0=>if as.length=np&&decide (as≠[])&&decide (k=G.hb) then some (.tryc i0 f xs k i j) else none
   |_,_,_,_,_,_=>none) else none
 |_,_=>none
def sS(G:GT)(N:List Str)(sc:Scope)(r:List Stmt->Option Ss)(s:Stmt):Option S:=match s with
 |.Assign tgs e _=>(match tgs with
  |[]=>none
  |t::u=>if u.isEmpty then sAs G N sc e t else none)
 |.Expr e _=>if P5 e then(cE G N sc 40 e).map .ex else none
 |.Return o _=>(match o with
  |some e=>(cE G N sc 40 e).map .ret
  |none=>none)
 |.If t a b _=>match cT G N sc 40 t,r a,r b with
  |some z,some x,some y=>some (.iff z x y)
  |_,_,_=>none
 |.For tg it b els _=>if els.isEmpty then(match a6g true N sc 8 tg,cI G N sc 40 tg it,r b with
  |some p,some i,some y=>if a0o it then some (.for p i y) else none
  |_,_,_=>none) else none
 |.While t b els _=>if els.isEmpty then(match cT G N sc 40 t,r b with
  |some z,some y=>some (.whl z y)
  |_,_=>none) else none
 |.Raise ex ca _=>some (if ca.isNone then(sRx G N sc ex).getD .bad else .bad)
 |.Try b hs el fi _=>if el.isEmpty&&fi.isEmpty then sTy G N sc b hs else none
 |_=>none
def sSs(G:GT)(N:List Str)(sc:Scope)(r:List Stmt->Option Ss):List Stmt->Option Ss
 |[]=>some .nil
 |s::l=>match sS G N sc r s,sSs G N sc r l with
  |some x,some y=>some (.cons x y)
  |_,_=>none
def cSs(G:GT)(N:List Str)(sc:Scope):Nat->List Stmt->Option Ss
 |0=>fun _=>none
 |n+1=>sSs G N sc (cSs G N sc n)
noncomputable def TEv(Γ:Gm)(E:XK)(f:o6->AH->R D):TE:=fun σ H Q=>∃env ah m,Rel Γ env ah σ H m/\i9 Γ E m H (f env ah) Q
noncomputable def TAv(Γ:Gm)(E:XK)(f:o6->AH->R (List D)):TA:=fun σ H Q=>∃env ah m,Rel Γ env ah σ H m/\i8 Γ E m H (f env ah) (fun ds _ m1 H1=>∀vs,Rps m1 H1 ds vs->Q vs H1)
noncomputable def TTv(Γ:Gm)(E:XK)(f:o6->AH->R Bool):TT:=fun σ H Q=>∃env ah m,Rel Γ env ah σ H m/\i8 Γ E m H (f env ah) (fun b _ _ H1=>Q b H1)
noncomputable def TOv(Γ:Gm)(E:XK)(f:o6->AH->R (Option Int)):TO:=fun σ H Q=>∃env ah m,Rel Γ env ah σ H m/\i8 Γ E m H (f env ah) (fun b _ _ H1=>Q b H1)
variable{t':TE}{es:List Expr}{st:Stmt}{ah1:AH}{Q':VK}{x:Str}
section
variable{X:Cx}{E:XK}{e a b d:Expr}{pos:Pos}
theorem PE.imp{t:TE}(h:PE X e t)(i:∀σ H Q,t' σ H Q->t σ H Q):PE X e t':=fun pins s σ H Q I q=>h pins s σ H Q I (i _ _ _ q)
theorem PT.imp{t t':TT}(h:PT X e t)(i:∀σ H Q,t' σ H Q->t σ H Q):PT X e t':=fun pins s σ H Q I q=>h pins s σ H Q I (i _ _ _ q)
theorem PW.imp{t t':TT}(h:PW X e t)(i:∀σ H Q,t' σ H Q->t σ H Q):PW X e t':=fun w pins s σ H Q I q=>h w pins s σ H Q I (i _ _ _ q)
theorem PA.imp{t t':TA}(h:PA X es t)(i:∀σ H Q,t' σ H Q->t σ H Q):PA X es t':=fun p pins s σ H Q I q=>h p pins s σ H Q I (i _ _ _ q)
theorem PO.imp{e:Option Expr}{t t':TO}(h:PO X e t)(i:∀σ H Q,t' σ H Q->t σ H Q):PO X e t':=fun pins s σ H Q I q=>h pins s σ H Q I (i _ _ _ q)
theorem PS.imp{t t':TS}(h:PS X st t)(i:∀D σ H,t' D σ H->t D σ H):PS X st t':=fun pins s σ H D I q=>h pins s σ H D I (i _ _ _ q)
theorem PSs.imp{st:List Stmt}{t t':TS}(h:PSs X st t)(i:∀D σ H,t' D σ H->t D σ H):PSs X st t':=fun pins s σ H D I q=>h pins s σ H D I (i _ _ _ q)
theorem Rel.on(r:Rel Γ env ah σ H m)(p:Pre m m1)(k:Keep m m1 H H1)(s:Sim Γ ah1 m1 H1):Rel Γ env ah1 σ H1 m1:=⟨s,r.env.mono p k⟩
theorem i9.first{r:R D}{f:D->AH->R D}(rl:Rel Γ env ah σ H m)(h:i9 Γ E m H (r.bind f) Q)
 (k:∀d ah1 m1 H1 v,Pre m m1->Keep m m1 H H1->Rel Γ env ah1 σ H1 m1->Rp m1 H1 d v->i9 Γ E m1 H1 (f d ah1) Q->Q' v H1):i9 Γ E m H r Q':=
 h.bind.val fun d ah1 m1 H1 v p kp s r q=>k d ah1 m1 H1 v p kp (rl.on p kp s) r q
theorem i8.first{r:R D}{f:D->AH->R β}{P:β->AH->List Addr->Hp->Prop}(rl:Rel Γ env ah σ H m)(h:i8 Γ E m H (r.bind f) P)
 (k:∀d ah1 m1 H1 v,Pre m m1->Keep m m1 H H1->Rel Γ env ah1 σ H1 m1->Rp m1 H1 d v->i8 Γ E m1 H1 (f d ah1) P->Q' v H1):i9 Γ E m H r Q':=
 h.bind.val fun d ah1 m1 H1 v p kp s r q=>k d ah1 m1 H1 v p kp (rl.on p kp s) r q
theorem i8.mp{r:R α}{P P':α->AH->List Addr->Hp->Prop}(h:i8 Γ E m H r P)(k:∀a ah1 m1 H1,Pre m m1->Keep m m1 H H1->Sim Γ ah1 m1 H1->P a ah1 m1 H1->P' a ah1 m1 H1):i8 Γ E m H r P':=by
 cases r with
 |ok d ah=>exact fun m2 H2 p2 k2 s2=>k d ah m2 H2 p2 k2 s2 (h m2 H2 p2 k2 s2)
 |ex c ah=>exact h
 |no=>exact h
theorem i9.mp{r:R D}(h:i9 Γ E m H r Q)(k:∀v H',Q v H'->Q' v H'):i9 Γ E m H r Q':=by
 cases r with
 |ok d ah=>exact fun m2 H2 v p2 k2 s2 r2=>k v H2 (h m2 H2 v p2 k2 s2 r2)
 |ex c ah=>exact h
 |no=>exact h
theorem i8.ok{a:α}{P:α->AH->List Addr->Hp->Prop}(h:i8 Γ E m H (.ok a ah) P)(s:Sim Γ ah m H):P a ah m H:=h m H (Pre.refl m) (Keep.refl m H) s
theorem i8.bool{r:R D}{P:Bool->AH->List Addr->Hp->Prop}(h:i8 Γ E m H (asB r) P):i9 Γ E m H r (fun x H1=>∃k,x=.bl k/\∃ah1 m1,Pre m m1/\Keep m m1 H H1/\Sim Γ ah1 m1 H1/\P k ah1 m1 H1):=by
 unfold asB at h;refine h.bind.val fun d ah1 m1 H1 v p kp s r q=>?_
 cases d<;>first|exact q.elim|skip
 rename_i k;exact⟨k,r,ah1,m1,p,kp,s,q.ok s⟩
theorem a_v(hN:X.N[i]? =some x)(hv:Vis X.env.scope x)(hd:(x==("__debug__":Str))=false)(hcd:(x==("__classdict__":Str))=false)(c:CF)(ct:CT):PE X (.Name x pos) (TEv Γ E (ev ct c (.v i))):=by
 refine PE.imp (a9a hN hv hd hcd) ?_
 rintro σ H Q ⟨env,ah,m,rl,q⟩;unfold ev at q
 split at q
 · rename_i d e;obtain⟨v,h1,h2⟩:=rl.env.val i d e;exact⟨v,h1,q.ok rl.sim h2⟩
 · exact q.elim
theorem a_k{dd:D}(h:PE X e (tC v))(hr:∀m H,Rp m H dd v)(c:CF)(ct:CT):PE X e (TEv Γ E (ev ct c (.k dd))):=by
 refine PE.imp h ?_
 rintro σ H Q ⟨env,ah,m,rl,q⟩;unfold ev at q;exact q.ok rl.sim (hr m H)
end
variable{op':CmpOp}
section
variable{X:Cx}{Ex:XK}{e a b d:Expr}{pos:Pos}{ct:CT}{c:CF}{x y z:E}
theorem two{r:R2}{g:AH->D->D->R D}(ha:PE X a (TEv Γ Ex (ev ct c x)))(hb:PE X b (TEv Γ Ex (ev ct c y))):∀σ H Q,TEv Γ Ex (fun env h=>(ev ct c x env h).bind fun u h1=>(ev ct c y env h1).bind fun v h2=>g h2 u v) σ H Q→
 tOp (rOf Γ Ex g) (TEv Γ Ex (ev ct c x)) (TEv Γ Ex (ev ct c y)) σ H Q:=by
 rintro σ H Q ⟨env,ah,m,rl,q⟩;refine⟨env,ah,m,rl,i9.first rl q fun d1 ah1 m1 H1 v1 p1 k1 rl1 r1 q1=>?_⟩
 refine⟨env,ah1,m1,rl1,i9.first rl1 q1 fun d2 ah2 m2 H2 v2 p2 k2 rl2 r2 q2=>?_⟩
 exact⟨d1,d2,ah2,m2,rl2.sim,r1.mono p2 k2,r2,q2⟩
theorem b8s{op:Operator}(h:o.bin=some op)(ha:PE X a (TEv Γ Ex (ev ct c x)))(hb:PE X b (TEv Γ Ex (ev ct c y))):PE X (.BinOp a op b pos) (TEv Γ Ex (ev ct c (.bin o x y))):=by
 refine PE.imp (b6N (b7G (Γ:=Γ) (E:=Ex) h) ha hb) fun σ H Q q=>two (r:=rOf Γ Ex (op2 o)) ha hb σ H Q ?_
 simpa only[TEv,ev] using q
theorem b8q(hu:X.A.units+8<cLine)(hK:X.K=Γ.K)(h:o.cmp=some op)(ha:PE X a (TEv Γ Ex (ev ct c x)))(hb:PE X b (TEv Γ Ex (ev ct c y)))(hm:behindInMarks op b=false):PE X (.Compare a [op] [b] pos) (TEv Γ Ex (ev ct c (.bin o x y))):=by
 refine PE.imp (a3G (a0Q (Γ:=Γ) (E:=Ex) hu hK h) ha hb hm) fun σ H Q q=>two (r:=rOf Γ Ex (op2 o)) ha hb σ H Q ?_
 simpa only[TEv,ev] using q
theorem a1m{f:o6->AH->R D}{t:TE}(h:∀σ H Q,TEv Γ Ex f σ H Q->t σ H Q):∀σ H Q,TTv Γ Ex (fun env h=>asB (f env h)) σ H Q->a8v t σ H Q:=by
 rintro σ H Q ⟨env,ah,m,rl,q⟩;exact h σ H _ ⟨env,ah,m,rl,q.bool.mp fun v H1 ⟨k,e,_,_,_,_,_,w⟩=>⟨k,e,w⟩⟩
theorem b5X(hu:X.A.units+8<cLine)(hK:X.K=Γ.K)(h:o.cmp=some op)(ha:PE X a (TEv Γ Ex (ev ct c x)))(hb:PE X b (TEv Γ Ex (ev ct c y)))(hm:behindInMarks op b=false):PT X (.Compare a [op] [b] pos) (TTv Γ Ex (tst ct c (.cmp o x y))):=by
 refine PT.imp (a3E (a0Q (Γ:=Γ) (E:=Ex) hu hK h) ha hb hm) fun σ H Q q=>a1m (two (r:=rOf Γ Ex (op2 o)) ha hb) σ H Q ?_
 simpa only[TTv,tst] using q
theorem a3y{d:D}(r:Rp m H d v):decide (v=.non)=decide (d=.non):=by
 cases d with
 |non=>cases r;rfl
 |bl _=>cases r;rfl
 |int _=>cases r;rfl
 |str _=>cases r;rfl
 |tup _=>obtain⟨_,_,rfl,_⟩:=r;rfl
 |ref _=>obtain⟨_,rfl,_⟩:=r;rfl
theorem b8o{j p'}(ha:PE X a (TEv Γ Ex (ev ct c x))):PE X (.Compare a [.Is] [.Constant .none j p'] pos) (TEv Γ Ex (ev ct c (.isN x))):=by
 refine PE.imp (a9h (a9j ha)) ?_
 rintro σ H Q ⟨env,ah,m,rl,q⟩;rw[ev] at q;refine⟨env,ah,m,rl,i9.first rl q fun d1 ah1 m1 H1 v1 p1 k1 rl1 r1 q1=>?_⟩
 rw[a3y r1];exact q1.ok rl1.sim rfl
theorem b5N{j p'}(ha:PE X a (TEv Γ Ex (ev ct c x))):PE X (.Compare a [.IsNot] [.Constant .none j p'] pos) (TEv Γ Ex (ev ct c (.notN x))):=by
 refine PE.imp (a9h (a6t ha)) ?_
 rintro σ H Q ⟨env,ah,m,rl,q⟩;rw[ev] at q;refine⟨env,ah,m,rl,i9.first rl q fun d1 ah1 m1 H1 v1 p1 k1 rl1 r1 q1=>?_⟩
 rw[a3y r1];exact q1.ok rl1.sim rfl
theorem b5Q{j p'}(ha:PE X a (TEv Γ Ex (ev ct c x))):PT X (.Compare a [.Is] [.Constant .none j p'] pos) (TTv Γ Ex (tst ct c (.isN x))):=by
 refine PT.imp (a8N (a9j ha)) ?_
 rintro σ H Q ⟨env,ah,m,rl,q⟩;rw[tst] at q;refine⟨env,ah,m,rl,i8.first rl q fun d1 ah1 m1 H1 v1 p1 k1 rl1 r1 q1=>?_⟩
 rw[a3y r1];exact⟨_,rfl,q1.ok rl1.sim⟩
theorem b2Y{j p'}(ha:PE X a (TEv Γ Ex (ev ct c x))):PT X (.Compare a [.IsNot] [.Constant .none j p'] pos) (TTv Γ Ex (tst ct c (.notN x))):=by
 refine PT.imp (a8N (a6t ha)) ?_
 rintro σ H Q ⟨env,ah,m,rl,q⟩;rw[tst] at q;refine⟨env,ah,m,rl,i8.first rl q fun d1 ah1 m1 H1 v1 p1 k1 rl1 r1 q1=>?_⟩
 rw[a3y r1];exact⟨_,rfl,q1.ok rl1.sim⟩
theorem b8m(ha:PE X a (TEv Γ Ex (ev ct c x))):PE X (.UnaryOp .USub a pos) (TEv Γ Ex (ev ct c (.neg x))):=by
 refine PE.imp (b6L b3o ha) ?_
 rintro σ H Q ⟨env,ah,m,rl,q⟩;rw[ev] at q;refine⟨env,ah,m,rl,i9.first rl q fun d1 ah1 m1 H1 v1 p1 k1 rl1 r1 q1=>?_⟩
 cases d1<;>first|exact q1.elim|skip
 cases r1;exact⟨_,rfl,q1.ok rl1.sim rfl⟩
theorem i9.firstB{r:R D}{f:Bool->AH->R D}(rl:Rel Γ env ah σ H m)(h:i9 Γ Ex m H ((asB r).bind f) Q)
 (k:∀b ah1 m1 H1,Pre m m1->Keep m m1 H H1->Rel Γ env ah1 σ H1 m1->i9 Γ Ex m1 H1 (f b ah1) Q->Q' (.bl b) H1):i9 Γ Ex m H r Q':=by
 refine h.bind.bool.mp fun v H1 hh=>?_
 obtain⟨b,rfl,ah2,m2,p2,k2,s2,w⟩:=hh;exact k b ah2 m2 H1 p2 k2 (rl.on p2 k2 s2) w
theorem b9v(ha:PE X a (TEv Γ Ex (ev ct c x))):PE X (.UnaryOp .Not a pos) (TEv Γ Ex (ev ct c (.nt x))):=by
 refine PE.imp (b4b ha) ?_
 rintro σ H Q ⟨env,ah,m,rl,q⟩;rw[ev] at q;exact⟨env,ah,m,rl,i9.firstB rl q fun b ah1 m1 H1 p1 k1 rl1 q1=>⟨b,rfl,q1.ok rl1.sim rfl⟩⟩
theorem b9A{i7:List Expr}(ha:PE X a (TEv Γ Ex (ev ct c x)))(hb:PE X (.BoolOp .And (b::i7) pos) (TEv Γ Ex (ev ct c y))):PE X (.BoolOp .And (a::b::i7) pos) (TEv Γ Ex (ev ct c (.an x y))):=by
 refine PE.imp (b4g ha hb) ?_
 rintro σ H Q ⟨env,ah,m,rl,q⟩;rw[ev] at q;refine⟨env,ah,m,rl,i9.firstB rl q fun k ah1 m1 H1 p1 k1 rl1 q1=>⟨k,rfl,?_⟩⟩
 cases k with
 |true=>rw[ay rfl] at q1⊢;exact⟨env,ah1,m1,rl1,q1⟩
 |false=>rw[az (by decide)] at q1⊢;exact q1.ok rl1.sim rfl
theorem b8i{i7:List Expr}(ha:PE X a (TEv Γ Ex (ev ct c x)))(hb:PE X (.BoolOp .Or (b::i7) pos) (TEv Γ Ex (ev ct c y))):PE X (.BoolOp .Or (a::b::i7) pos) (TEv Γ Ex (ev ct c (.orr x y))):=by
 refine PE.imp (b6M ha hb) ?_
 rintro σ H Q ⟨env,ah,m,rl,q⟩;rw[ev] at q;refine⟨env,ah,m,rl,i9.firstB rl q fun k ah1 m1 H1 p1 k1 rl1 q1=>⟨k,rfl,?_⟩⟩
 cases k with
 |true=>rw[ay rfl] at q1⊢;exact q1.ok rl1.sim rfl
 |false=>rw[az (by decide)] at q1⊢;exact⟨env,ah1,m1,rl1,q1⟩
variable{t u:T}{v:List Expr}
theorem b8f(he:∀whole,isTrue e X.env whole=(do let v←whole;standAt e.pos;holding [v] (truthy v)))(ha:PE X e (TEv Γ Ex (ev ct c x))):PT X e (TTv Γ Ex (tst ct c (.val x))):=by
 refine PT.imp (a8M ha he) ?_
 rintro σ H Q ⟨env,ah,m,rl,q⟩;rw[tst] at q;refine⟨env,ah,m,rl,q.bool.mp fun v H1 hh=>?_⟩
 obtain⟨b,rfl,ah2,m2,p2,k2,s2,w⟩:=hh;exact⟨b,rfl,w⟩
theorem TTv.next{r:R Bool}{f:Bool->AH->R Bool}{Q Q':Bool->Hp->Prop}(rl:Rel Γ env ah σ H m)(h:i8 Γ Ex m H (r.bind f) (fun b _ _ H1=>Q b H1))
 (k:∀b ah1 m1 H1,Pre m m1->Keep m m1 H H1->Rel Γ env ah1 σ H1 m1->i8 Γ Ex m1 H1 (f b ah1) (fun b _ _ H1=>Q b H1)->Q' b H1):i8 Γ Ex m H r (fun b _ _ H1=>Q' b H1):=
 h.bind.mp fun b ah1 m1 H1 p1 k1 s1 q1=>k b ah1 m1 H1 p1 k1 (rl.on p1 k1 s1) q1
theorem b8k(ha:PT X a (TTv Γ Ex (tst ct c t))):PT X (.UnaryOp .Not a pos) (TTv Γ Ex (tst ct c (.nt t))):=by
 refine PT.imp (b3O ha) ?_
 rintro σ H Q ⟨env,ah,m,rl,q⟩;rw[tst] at q;exact⟨env,ah,m,rl,TTv.next rl q fun b ah1 m1 H1 p1 k1 rl1 q1=>q1.ok rl1.sim⟩
theorem b8u{i7:List Expr}(ha:PT X a (TTv Γ Ex (tst ct c t)))(hb:PW X (.BoolOp .And (b::i7) pos) (TTv Γ Ex (tst ct c u))):PW X (.BoolOp .And (a::b::i7) pos) (TTv Γ Ex (tst ct c (.an t u))):=by
 refine PW.imp (b3M ha hb) ?_
 rintro σ H Q ⟨env,ah,m,rl,q⟩;rw[tst] at q;refine⟨env,ah,m,rl,TTv.next rl q fun k ah1 m1 H1 p1 k1 rl1 q1=>?_⟩
 cases k with
 |true=>rw[ay rfl] at q1⊢;exact⟨env,ah1,m1,rl1,q1⟩
 |false=>rw[az (by decide)] at q1⊢;exact q1.ok rl1.sim
theorem b8j{i7:List Expr}(ha:PT X a (TTv Γ Ex (tst ct c t)))(hb:PW X (.BoolOp .Or (b::i7) pos) (TTv Γ Ex (tst ct c u))):PW X (.BoolOp .Or (a::b::i7) pos) (TTv Γ Ex (tst ct c (.orr t u))):=by
 refine PW.imp (b6J ha hb) ?_
 rintro σ H Q ⟨env,ah,m,rl,q⟩;rw[tst] at q;refine⟨env,ah,m,rl,TTv.next rl q fun k ah1 m1 H1 p1 k1 rl1 q1=>?_⟩
 cases k with
 |true=>rw[ay rfl] at q1⊢;exact q1.ok rl1.sim
 |false=>rw[az (by decide)] at q1⊢;exact⟨env,ah1,m1,rl1,q1⟩
theorem b3j{p:B}{op op':CmpOp}(ha:PE X a (TEv Γ Ex (ev ct c x))):∀σ H Q,TEv Γ Ex (fun env h=>(ev ct c x env h).bind fun x1 h1=>(ev ct c y env h1).bind fun y1 h2=>(asB (op2 o h2 x1 y1)).bind fun k h3=>if k=true then(ev ct c z env h3).bind fun z1 h4=>op2 p h4 y1 z1 else .ok (.bl false) h3) σ H Q→
 a5x (rOf Γ Ex (op2 o)) (rOf Γ Ex (op2 p)) (TEv Γ Ex (ev ct c x)) (TEv Γ Ex (ev ct c y)) (TEv Γ Ex (ev ct c z)) σ H Q:=by
 rintro σ H Q ⟨env,ah,m,rl,q⟩;refine⟨env,ah,m,rl,i9.first rl q fun d1 ah1 m1 H1 v1 p1 k1 rl1 r1 q1=>?_⟩
 refine⟨env,ah1,m1,rl1,i9.first rl1 q1 fun d2 ah2 m2 H2 v2 p2 k2 rl2 r2 q2=>?_⟩
 refine⟨d1,d2,ah2,m2,rl2.sim,r1.mono p2 k2,r2,i9.firstB rl2 q2 fun k ah3 m3 H3 p3 k3 rl3 q3=>⟨k,rfl,?_⟩⟩
 cases k with
 |false=>rw[az (by decide)] at q3⊢;exact q3.ok rl3.sim rfl
 |true=>
  rw[ay rfl] at q3⊢;refine⟨env,ah3,m3,rl3,i9.first rl3 q3 fun d4 ah4 m4 H4 v4 p4 k4 rl4 r4 q4=>?_⟩
  exact⟨d2,d4,ah4,m4,rl4.sim,r2.mono (p3.trans p4) (k3.trans k4),r4,q4⟩
theorem b8r{p:B}(hu:X.A.units+8<cLine)(hK:X.K=Γ.K)(h:o.cmp=some op)(h':p.cmp=some op')(ha:PE X a (TEv Γ Ex (ev ct c x)))(hb:PE X b (TEv Γ Ex (ev ct c y)))(hd:PE X d (TEv Γ Ex (ev ct c z)))(hm:lastMarks [op,op'] [b,d]=false):
 PE X (.Compare a [op,op'] [b,d] pos) (TEv Γ Ex (ev ct c (.chn o p x y z))):=by
 refine PE.imp (a9i (a0Q (Γ:=Γ) (E:=Ex) hu hK h) (a0Q (Γ:=Γ) (E:=Ex) hu hK h') ha hb hd hm) fun σ H Q q=>b3j (op:=op) (op':=op') ha σ H Q ?_
 simpa only[TEv,ev] using q
theorem b5Y{p:B}(hu:X.A.units+8<cLine)(hK:X.K=Γ.K)(h:o.cmp=some op)(h':p.cmp=some op')(ha:PE X a (TEv Γ Ex (ev ct c x)))(hb:PE X b (TEv Γ Ex (ev ct c y)))(hd:PE X d (TEv Γ Ex (ev ct c z)))(hm:lastMarks [op,op'] [b,d]=false):
 PT X (.Compare a [op,op'] [b,d] pos) (TTv Γ Ex (tst ct c (.chn o p x y z))):=by
 refine PT.imp (a8O (a0Q (Γ:=Γ) (E:=Ex) hu hK h) (a0Q (Γ:=Γ) (E:=Ex) hu hK h') ha hb hd hm) fun σ H Q q=>a1m (b3j (op:=op) (op':=op') (o:=o) (p:=p) (y:=y) (z:=z) ha) σ H Q ?_
 simpa only[TTv,tst] using q
theorem b9y(hu:X.A.units+8<cLine)(hK:X.K=Γ.K)(ha:PE X a (TEv Γ Ex (ev ct c x)))(hb:PE X b (TEv Γ Ex (ev ct c y)))(hs:a1y b):PE X (.Subscript a b pos) (TEv Γ Ex (ev ct c (.ix x y))):=by
 refine PE.imp (b3b (b7E (Γ:=Γ) (E:=Ex) hu hK) ha hb hs) fun σ H Q q=>two (r:=rOf Γ Ex ixD) ha hb σ H Q ?_
 simpa only[TEv,ev] using q
theorem b9u:PO X none (TOv Γ Ex (evo ct c .no)):=by
 refine PO.imp b1w ?_
 rintro σ H Q ⟨env,ah,m,rl,q⟩;rw[evo] at q;exact q.ok rl.sim
theorem b9t(ha:PE X a (TEv Γ Ex (ev ct c x))):PO X (some a) (TOv Γ Ex (evo ct c (.at x))):=by
 refine PO.imp (b1v ha) ?_
 rintro σ H Q ⟨env,ah,m,rl,q⟩;rw[evo,a6J] at q;refine⟨env,ah,m,rl,i8.first rl q fun d1 ah1 m1 H1 v1 p1 k1 rl1 r1 q1=>?_⟩
 cases d1<;>first|exact q1.elim|skip
 cases r1;exact⟨_,rfl,q1.ok rl1.sim⟩
variable{l h:Option Expr}{ol oh:O}
theorem b9s{p2:Pos}(hK:X.K=Γ.K)(ha:PE X a (TEv Γ Ex (ev ct c x)))(hl:PO X l (TOv Γ Ex (evo ct c ol)))(hh:PO X h (TOv Γ Ex (evo ct c oh))):PE X (.Subscript a (.Slice l h none p2) pos) (TEv Γ Ex (ev ct c (.sl x ol oh))):=by
 refine PE.imp (a9d (b9j (Γ:=Γ) (E:=Ex) hK) ha hl hh) ?_
 rintro σ H Q ⟨env,ah,m,rl,q⟩;rw[ev] at q;refine⟨env,ah,m,rl,i9.first rl q fun d1 ah1 m1 H1 v1 p1 k1 rl1 r1 q1=>?_⟩
 refine⟨env,ah1,m1,rl1,q1.bind.mp fun lo ah2 m2 H2 p2 k2 s2 q2=>?_⟩
 refine⟨env,ah2,m2,rl1.on p2 k2 s2,q2.bind.mp fun hi ah3 m3 H3 p3 k3 s3 q3=>?_⟩
 exact⟨d1,ah3,m3,s3,r1.mono (p2.trans p3) (k2.trans k3),q3⟩
variable{xs:Es}
theorem b8l:PA X [] (TAv Γ Ex (evs ct c .nil)):=by
 refine PA.imp T1 ?_
 rintro σ H Q ⟨env,ah,m,rl,q⟩;rw[evs] at q;exact q.ok rl.sim [] rfl
theorem b5V(ha:PE X a (TEv Γ Ex (ev ct c x)))(hr:PA X es (TAv Γ Ex (evs ct c xs)))(hs:starEach (a::es) X.env=(false,eval a X.env)::starEach es X.env):PA X (a::es) (TAv Γ Ex (evs ct c (.cons x xs))):=by
 refine PA.imp (E2 ha hr hs) ?_
 rintro σ H Q ⟨env,ah,m,rl,q⟩;rw[evs] at q;refine⟨env,ah,m,rl,i8.first rl q fun d1 ah1 m1 H1 v1 p1 k1 rl1 r1 q1=>?_⟩
 refine⟨env,ah1,m1,rl1,q1.bind.mp fun ds ah2 m2 H2 p2 k2 s2 q2=>fun vs rs=>?_⟩
 exact q2.ok s2 (v1::vs) ⟨v1,vs,rfl,r1.mono p2 k2,rs⟩
theorem b8n(ha:PA X es (TAv Γ Ex (evs ct c xs))):PE X (.List es pos) (TEv Γ Ex (ev ct c (.lst xs))):=by
 refine PE.imp (b4d ha) ?_
 rintro σ H Q ⟨env,ah,m,rl,q⟩;rw[ev] at q;refine⟨env,ah,m,rl,q.bind.mp fun ds ah1 m1 H1 p1 k1 s1 q1=>fun vs rs=>?_⟩
 split at q1
 · rename_i hl;exact⟨by rw[rs.len,←K7];exact hl,fun p hp=>q1.newc s1 hp ⟨_,d8,rs.mono (Pre.snoc m1 p) (Keep.newc hp)⟩⟩
 · exact q1.elim
theorem b8g{k:Nat}(ha:PA X es (TAv Γ Ex (evs ct c xs))):PE X (.Tuple es k pos) (TEv Γ Ex (ev ct c (.tup xs))):=by
 refine PE.imp (a9b ha) ?_
 rintro σ H Q ⟨env,ah,m,rl,q⟩;rw[ev] at q;refine⟨env,ah,m,rl,q.bind.mp fun ds ah1 m1 H1 p1 k1 s1 q1=>fun vs rs=>?_⟩
 split at q1
 · rename_i hl;exact⟨by rw[rs.len,←K7];exact hl,fun p hp=>q1.newt s1 hp rs⟩
 · exact q1.elim
theorem b5T:PE X (.Dict [] [] pos) (TEv Γ Ex (ev ct c .dnew)):=by
 refine PE.imp a9g ?_
 rintro σ H Q ⟨env,ah,m,rl,q⟩;rw[ev] at q;exact fun p hp=>q.newc rl.sim hp (.inl ⟨[],d8,.nil⟩)
theorem b8t{b:Bi}(ha:PA X es (TAv Γ Ex (evs ct c xs))):∀σ H Q,TEv Γ Ex (ev ct c (.bi b xs)) σ H Q->tCB (rBi Γ Ex b) (TAv Γ Ex (evs ct c xs)) σ H Q:=by
 rintro σ H Q ⟨env,ah,m,rl,q⟩;rw[ev] at q;exact⟨env,ah,m,rl,q.bind.mp fun ds ah1 m1 H1 p1 k1 s1 q1=>fun vs rs=>⟨ds,ah1,m1,s1,rs,q1⟩⟩
end
open PySem PySem.Spec L2 L2X
noncomputable def a3r(Γ:Gm)(c:CF)(f np:Nat):Sp:=fun vs H Q E=>∃ds ah m,ds.length=np/\Rps m H ds vs/\Sim Γ ah m H/\i9 Γ E m H (c f ds ah) Q
theorem g9{a:Expr}{env:Env}(h:o0 a=true):starEach (a::es) env=(false,eval a env)::starEach es env:=by
 cases a<;>first|rfl|cases h
theorem D7{pos:Pos}{env:Env}:∀{es:List Expr},es.all o0=true->(backTo pos (starEach es env)).any (·.1)=false
 |[],_=>rfl
 |a::es,h=>by
  rw[all_cons,ae] at h;rw[g9 h.1];exact D7 (es:=es) h.2
theorem a2C{pos:Pos}{env:Env}:∀{es:List Expr},es.all o0=true->(backTo pos (starEach es env)).all (fun x=>!x.1)=true
 |[],_=>rfl
 |a::es,h=>by
  rw[all_cons,ae] at h;rw[g9 h.1];exact a2C (es:=es) h.2
theorem a0b{o:Expr}{f:Str}{env:Env}{w:Sem Value}(h:Y4 o=true):attributeBase o f env w=w:=by
 unfold attributeBase
 split
 · cases h
 · rfl
def a8g(P:Program)(w:World)(K:PySem.W.Frag)(a:Addr)(gs:List (Key×V)):Prop:=(a==sysModules)=false/\∃vs,KV gs vs/\∀h:Heap,K.In h->h.DictOf (o9 P w) a vs
structure Cxt(X:Cx)(Γ:Gm)(G:GT)(ct:CT)(c:CF)(Ex:XK)(N:List Str)(sc:Scope)(dfn:Bool):Prop where
 hN:X.N=N
 nd:N.Nodup
 sc:X.env.scope=sc
 calm:X.calm=true
 hu:X.A.units+8<cLine
 K:X.K=Γ.K
 fnb:dfn=true->∀x,X.fn x=true
 scal:∀x d,G.scal.lookup x=some d->∃u v,X.mg x=some u/\l8 v u/\∀m H,Rp m H d v
 tups:∀x ds,G.tups.lookup x=some ds->∃a vs,X.mg x=some (.ref a)/\(∀H,SqT X.K H a vs)/\∀m H,Rps m H ds vs
 dicts:∀x kvs,G.dicts.lookup x=some kvs->∃a gs,X.mg x=some (.ref a)/\a8g X.prog X.w X.K a gs/\∀m H,DK m H kvs gs
 blt:∀x,G.blt.contains x=true->X.mg x=none
 fn:∀x f np,G.fn.lookup x=some (f,np)->∃k a fd ps,ps.length=np/\Room k X.A/\X.mg x=some (.ref a)/\PySem.W.keepIn X.K (.ref a)=true/\M1 X.K fd ps []/\FnOk X.prog X.w X.K X.mg X.base (CXr X.prog X.w) k a fd ps (a3r Γ c f np)/\∀ds h,ds.length≠np->c f ds h=.no
 obj:∀x k,G.obj.lookup x=some k->k∈Γ.ob/\∃r a fd ps,ps.length=1/\Room (r+1) X.A/\Mk X.K (Γ.cA k) a/\X.mg x=some (.ref (Γ.cA k))/\M1 X.K fd ps []/\FnOk X.prog X.w X.K X.mg X.base (CXr X.prog X.w) r a fd ps (a3r Γ c (ct.init k) 1)
 att:∀k,k∈Γ.ob->Cls X.K (Γ.cA k)/\∀f,G.atts.contains f=true->V1 X.K (Γ.cA k) f
 xatt:∀k,k∈Γ.xs->∃N ND,XC X.K (Γ.cA k) N (Γ.cA G.hb) ND/\PySem.W.mroIn X.K (Γ.cA k) (.type "object")=some true/\PySem.W.kitOne X.K (.ref (Γ.cA k)) (.type "ValueError")=some true
 sub:∀x j,G.cls.lookup x=some j->X.mg x=some (.ref (Γ.cA j))/\∀k,k∈Γ.xs->PySem.W.kitOne X.K (.ref (Γ.cA k)) (.ref (Γ.cA j))=some (ct.sub k j)
 pass:a0U (CXr X.prog X.w) X Ex
variable{f:Nat}{np:Nat}{K:PySem.W.Frag}{kk:Nat}{tp:Pos}{neg:Bool}{ds:List D}{ad:Addr}{apos:Pos}
section
variable{X:Cx}{G:GT}{ct:CT}{c:CF}{Ex:XK}{N:List Str}{sc:Scope}{dfn:Bool}{e a b:Expr}{pos p:Pos}{x y z:E}{xs:Es}
theorem G4{n:Str}(h:D6 sc n=true):sc.names.lookup n=some .globalImplicit/\(n==("__debug__":Str))=false/\n≠"__name__":=by
 unfold D6 at h;rw[ae,ae] at h;exact⟨aw h.1.1,beq_eq_false_iff_ne.mpr (aw h.1.2),aw h.2⟩
theorem Cxt.gl(C:Cxt X Γ G ct c Ex N sc dfn){n:Str}(h:D6 sc n=true):Gl X n:=by
 show X.env.scope.names.lookup n=_
 rw[C.sc];exact(G4 h).1
theorem Cxt.vis(C:Cxt X Γ G ct c Ex N sc dfn){n:Str}(h:a9V sc n=true):Vis X.env.scope n:=by
 rw[C.sc];unfold a9V at h;unfold Vis
 split at h
 · rename_i e;exact .inl e
 · rename_i e;exact .inr (.inl e)
 · rename_i e;exact .inr (.inr e)
 · cases h
theorem P9{N:List Str}{n:Str}(h:N.idxOf? n=some i):N[i]? =some n:=by
 unfold List.idxOf? at h;rw[List.findIdx?_eq_some_iff_getElem] at h
 obtain⟨h1,h2,_⟩:=h;rw[af h1]
 exact congrArg some (eq_of_beq h2)
theorem b5Z{n:Str}(C:Cxt X Γ G ct c Ex N sc dfn)(hf:G.fn.lookup n=some (f,np))(hg:D6 sc n=true)(hp:(a::es).all o0=true)(ha:PA X (a::es) (TAv Γ Ex (evs ct c xs))):
 PE X (.Call (.Name n p) (a::es) [] pos) (TEv Γ Ex (ev ct c (.call f xs))):=by
 obtain⟨k,ad,fd,ps,h1,h2,h3,h4,h5,h6,h7⟩:=C.fn n f np hf;rw[all_cons,ae] at hp;refine PE.imp (b1F h6 h2 (C.gl hg) h3 h4 h5 .nil C.pass ha (G4 hg).2.1 (g9 hp.1) (D7 hp.2)) ?_
 rintro σ H Q ⟨env,ah,m,rl,q⟩;rw[ev] at q;refine⟨env,ah,m,rl,q.bind.mp fun ds ah1 m1 H1 p1 k1 s1 q1=>fun vs rs=>⟨ds,ah1,m1,?_,by rw[bn];exact rs,s1,q1⟩⟩
 by_cases hl:ds.length=np
 · exact hl
 · rw[h7 ds ah1 hl] at q1;exact q1.elim
theorem b9x{n:Str}{k:Nat}(C:Cxt X Γ G ct c Ex N sc dfn)(hf:G.obj.lookup n=some k)(hg:D6 sc n=true):PE X (.Call (.Name n p) [] [] pos) (TEv Γ Ex (ev ct c (.mk k .nil))):=by
 obtain⟨hk,r,ad,fd,ps,h1,h2,h3,h4,h5,h6⟩:=C.obj n k hf;refine PE.imp (a9e h3 h6 h2 (C.gl hg) h4 h5 .nil C.pass (G4 hg).2.1) ?_
 rintro σ H Q ⟨env,ah,m,rl,q⟩;rw[ev,evs,i6] at q;intro x dx hx hdx hne
 have kp:Keep m (m++[x]) H (upd (upd H dx (.own x)) x (.ins (Γ.cA k) dx [])):=(Keep.new hdx).trans (Keep.newc (by rw[d9 (Ne.symm hne)];exact hx))
 have s1:Sim Γ (ah++[.obj k []]) (m++[x]) (upd (upd H dx (.own x)) x (.ins (Γ.cA k) dx [])):=(rl.sim.new (o:=.own x) hdx).alloc (by rw[d9 (Ne.symm hne)];exact hx) ⟨dx,[],d8,.nil,hk⟩
 refine⟨[.ref ah.length],ah++[.obj k []],m++[x],rfl,⟨.ref x,[],rfl,⟨x,rfl,?_⟩,rfl⟩,s1,?_⟩
 · rw[←rl.sim.len,au (ai _)];simp
 · refine(q.bind.later (Pre.snoc m x) kp).val fun d ah1 m1 H1 v p1 k1 s1 r1 q1=>?_
   cases d<;>first|exact q1.elim|skip
   cases r1;refine⟨rfl,q1.ok s1 ⟨x,rfl,p1.get ?_⟩⟩
   rw[←rl.sim.len,au (ai _)];simp
theorem b8p{f:Str}(C:Cxt X Γ G ct c Ex N sc dfn)(hb:Y4 a=true)(hf:G.atts.contains f=true)(ha:PE X a (TEv Γ Ex (ev ct c x))):PE X (.Attribute a f pos) (TEv Γ Ex (ev ct c (.fld x f))):=by
 refine PE.imp (b4e (pos:=pos) ha (a0b (f:=f) hb)) ?_
 rintro σ H Q ⟨env,ah,m,rl,q⟩;rw[ev] at q;refine⟨env,ah,m,rl,i9.first rl q fun d1 ah1 m1 H1 v1 p1 k1 rl1 r1 q1=>?_⟩
 unfold T7 at q1
 split at q1
 · split at q1
   · rename_i k fs e2
     split at q1
     · rename_i d e3;obtain⟨ad,rfl,hm1⟩:=r1;obtain⟨dx,gs,g1,g2,g3⟩:=rl1.sim.at hm1 e2;obtain⟨w,hw,rw'⟩:=g2.look e3;obtain⟨a1,a2⟩:=C.att k g3;exact⟨ad,Γ.cA k,dx,gs,w,rfl,g1,a1,a2 f hf,hw,q1.ok rl1.sim rw'⟩
     · exact q1.elim
   · exact q1.elim
 · exact q1.elim
theorem b6g{n:String}{b:Bool}(S:Sim Γ ah m H)(r:Rp m H d v)(h:a0M ct ah (.b n) d=some b)(hx:¬∃i k,d=.ref i/\ah[i]? =some (.exc k)):
 ∃t,TyOf K H v t/\PySem.W.kitOne K t (.type n)=some b:=by
 unfold a0M at h
 cases d with
 |str k=>
  cases r
  simp only at h
  split at h
  · rename_i hn;cases h;subst hn;exact⟨_,.str _,by unfold PySem.W.kitOne;rw[ay (by simp)]⟩
  · cases h
 |ref i=>
  simp only at h
  split at h
  · rename_i l e;obtain⟨a,vs,rfl,hm,h1,q1⟩:=S.lst e r
    split at h
    · rename_i hn;cases h;subst hn;exact⟨_,.lst h1,by unfold PySem.W.kitOne;rw[ay (by simp)]⟩
    · cases h
  · rename_i k e;exact absurd ⟨i,k,rfl,e⟩ hx
  · cases h
 |_=>cases h
theorem b5P {t:Ty} {T:V} (C:Cxt X Γ G ct c Ex N sc dfn) (hg:D6 sc "isinstance"=true) (hm:X.mg "isinstance"=none) (hp:o0 a=true) (hpb:o0 b=true) (ha:PE X a (TEv Γ Ex (ev ct c x))) (hb:PE X b (tC T))
 (h1:∀n,t=.b n->T=.ty n) (h2:∀j,t=.c j->T=.ref (Γ.cA j)/\∀k,k∈Γ.xs->PySem.W.kitOne X.K (.ref (Γ.cA k)) (.ref (Γ.cA j))=some (ct.sub k j)):
 PE X (.Call (.Name "isinstance" p) [a,b] [] pos) (TEv Γ Ex (ev ct c (.isi x t))):=by
 have PAab:PA X [a,b] (a4y (TEv Γ Ex (ev ct c x)) (a4y (tC T) b1d)):=E2 ha (E2 hb T1 (g9 hpb)) (g9 hp)
 have hst:(backTo pos (starEach [b] X.env)).any (·.1)=false:=D7 (by simp[hpb])
 intro pins s σ H Q I ⟨env,ah,m,rl,q⟩;rw[ev] at q
 by_cases hh:∃n ah1 k,ev ct c x env ah=.ok (.ref n) ah1/\ah1[n]? =some (.exc k)
 · obtain⟨n,ah1,k,e1,e2⟩:=hh;rw[e1,i6] at q
   by_cases hk:k∈Γ.xs
   · obtain⟨N',ND,xc,hmr,hve⟩:=C.xatt k hk;refine F0 (a5k xc hmr) (C.gl hg) hm PyProof.Rows.boot_isinstance PAab (by decide) (by decide) (g9 hp) hst pins s σ H Q I ⟨env,ah,m,rl,?_⟩
     rw[e1];intro m1 H1 v p1 k1 s1 r1;obtain⟨ad,rfl,hm1⟩:=r1;obtain⟨g1,_⟩:=s1.at hm1 e2;have q1:=i9.later q p1 k1;unfold a0M at q1;simp only[e2] at q1
     cases t with
     |b nn=>
      simp only at q1
      split at q1
      · rename_i b' hb'
        split at hb'
        · rename_i hn;cases hb';subst hn;exact⟨ad,T,true,rfl,g1,.inr (.inl ⟨_,h1 _ rfl,hve⟩),q1.ok s1 rfl⟩
        · cases hb'
      · exact q1.elim
     |c j=>
      simp only at q1
      obtain⟨t1,t2⟩:=h2 j rfl;exact⟨ad,T,_,rfl,g1,.inl ⟨_,t1,t2 k hk⟩,q1.ok s1 rfl⟩
   · refine F0 a0z (C.gl hg) hm PyProof.Rows.boot_isinstance PAab (by decide) (by decide) (g9 hp) hst pins s σ H Q I ⟨env,ah,m,rl,?_⟩
     rw[e1];intro m1 H1 v p1 k1 s1 r1;obtain⟨ad,rfl,hm1⟩:=r1;obtain⟨g1,g4⟩:=s1.at hm1 e2;exact absurd g4 hk
 · refine F0 a0z (C.gl hg) hm PyProof.Rows.boot_isinstance PAab (by decide) (by decide) (g9 hp) hst pins s σ H Q I ⟨env,ah,m,rl,?_⟩
   cases hr:ev ct c x env ah with
   | ok d1 ah1=>
    rw[hr,i6] at q;intro m1 H1 v1 p1 k1 s1 r1;have q1:=i9.later q p1 k1
    split at q1
    · rename_i b' hb'
      cases t with
      |b nn=>
       obtain⟨t,ht1,ht2⟩:=b6g (K:=X.K) s1 r1 hb' (fun⟨i,k,z1,z2⟩=>hh ⟨i,ah1,k,by rw[hr,z1],z2⟩)
       exact⟨v1,nn,t,b',by rw[h1 nn rfl],ht1,ht2,q1.ok s1 rfl⟩
      | c j=>
       exfalso
       unfold a0M at hb'
       cases d1 with
       |ref i=>
        simp only at hb'
        split at hb'
        · cases hb'
        · rename_i k e;exact hh ⟨i,ah1,k,hr,e⟩
        · cases hb'
       |_=>cases hb'
    · exact q1.elim
   |ex k ah1=>rw[hr] at q;exact q
   |no=>rw[hr] at q;exact q.elim
theorem a1f(C:Cxt X Γ G ct c Ex N sc dfn):∀{es:List Expr} {ks:List Nat},U7 G sc es=some ks->es.all o0=true/\PA X es (fun _ H Q=>Q (ks.map fun k=>V.ref (Γ.cA k)) H)/\∀k∈ks,∀i,i∈Γ.xs->PySem.W.kitOne X.K (.ref (Γ.cA i)) (.ref (Γ.cA k))=some (ct.sub i k)
 |[],ks,h=>by cases h;exact⟨rfl,T1,fun k hk=>by cases hk⟩
 |e::r,ks,h=>by
  cases e<;>simp only[U7] at h<;>first|(cases h;done)|skip
  rename_i n pp
  split at h
  · rename_i k ks' e1 e2;cases h;obtain⟨i1,i2,i3⟩:=a1f C e2
    split at e1
    · rename_i hg;obtain⟨s1,s2⟩:=C.sub n k e1;have hn:=(G4 hg).2.1;refine⟨by simp[o0,i1],E2 (V3 (v:=.ref (Γ.cA k)) (C.gl hg) s1 rfl hn) i2 (g9 rfl),fun k' hk' i hi=>?_⟩
      rcases aH.mp hk' with rfl|hk'
      · exact s2 i hi
      · exact i3 k' hk' i hi
    · cases e1
  · cases h
theorem a6C{K:PySem.W.Frag}{t:Value}{i:Nat}:∀{ks:List Nat},(∀k∈ks,PySem.W.kitOne K t (.ref (Γ.cA k))=some (ct.sub i k))->PySem.W.kitAny K t (ks.map fun k=>Value.ref (Γ.cA k))=some (ks.any (ct.sub i))
 |[],_=>rfl
 |k::r,h=>by
  have ih:=a6C (K:=K) (t:=t) (i:=i) (ks:=r) fun k' hk'=>h k' (aE _ hk')
  rw[map_cons,any_cons];unfold PySem.W.kitAny;rw[h k bj]
  cases ct.sub i k with
  |true=>rfl
  |false=>exact ih
theorem b5O{ks:List Nat}(C:Cxt X Γ G ct c Ex N sc dfn)(hg:D6 sc "isinstance"=true)(hm:X.mg "isinstance"=none)(hp:o0 a=true)(ha:PE X a (TEv Γ Ex (ev ct c x)))(hc:U7 G sc es=some ks)(hl:ks.length<=SL):
 PE X (.Call (.Name "isinstance" p) [a,.Tuple es kk tp] [] pos) (TEv Γ Ex (ev ct c (.isis x ks))):=by
 obtain⟨c1,c2,c3⟩:=a1f C hc
 have PAab:PA X [a,.Tuple es kk tp] (a4y (TEv Γ Ex (ev ct c x)) (a4y (b6l fun _ H Q=>Q (ks.map fun k=>V.ref (Γ.cA k)) H) b1d)):=E2 ha (E2 (a9b c2) T1 (g9 rfl)) (g9 hp)
 have hst:(backTo pos (starEach [.Tuple es kk tp] X.env)).any (·.1)=false:=D7 rfl
 intro pins s σ H Q I ⟨env,ah,m,rl,q⟩;rw[ev] at q
 cases hr:ev ct c x env ah with
 | ok d1 ah1=>
  rw[hr,i6] at q
  cases d1<;>first|exact q.elim|skip
  rename_i n
  simp only at q
  split at q
  · rename_i k e2
    by_cases hk:k∈Γ.xs
    · obtain⟨N',ND,xc,hmr,hve⟩:=C.xatt k hk;refine F0 (a5k xc hmr) (C.gl hg) hm PyProof.Rows.boot_isinstance PAab (by decide) (by decide) (g9 hp) hst pins s σ H Q I ⟨env,ah,m,rl,?_⟩
      rw[hr];intro m1 H1 v p1 k1 s1 r1;refine⟨by rw[aa,←K7];exact hl,fun tp htp=>?_⟩
      obtain⟨ad,rfl,hm1⟩:=r1;obtain⟨g1,_⟩:=s1.at hm1 e2
      have kp:Keep m1 m1 H1 (upd H1 tp (.tup (ks.map fun k=>V.ref (Γ.cA k)))):=Keep.new htp
      refine⟨ad,.ref tp,_,rfl,by rw[d9 (n5 g1 htp)];exact g1,.inr (.inr ⟨tp,ks.map Γ.cA,rfl,?_,?_⟩),q m1 _ _ p1 (k1.trans kp) (s1.new htp) rfl⟩
      · rw[d8,aK];rfl
      · rw[aK];exact a6C (Γ:=Γ) fun k' hk'=>c3 k' hk' k hk
    · refine F0 a0z (C.gl hg) hm PyProof.Rows.boot_isinstance PAab (by decide) (by decide) (g9 hp) hst pins s σ H Q I ⟨env,ah,m,rl,?_⟩
      rw[hr];intro m1 H1 v p1 k1 s1 r1;obtain⟨ad,rfl,hm1⟩:=r1;obtain⟨g1,g4⟩:=s1.at hm1 e2;exact absurd g4 hk
  · exact q.elim
 |ex k ah1=>
  rw[hr] at q;refine F0 a0z (C.gl hg) hm PyProof.Rows.boot_isinstance PAab (by decide) (by decide) (g9 hp) hst pins s σ H Q I ⟨env,ah,m,rl,?_⟩
  rw[hr];exact q
 |no=>rw[hr] at q;exact q.elim
theorem a6P(h1:∀H,SqT X.K H ad vs)(h2:∀m H,Rps m H ds vs):∀σ H Q,TEv Γ Ex (ev ct c (.gin neg x ds)) σ H Q->tOp (rIn X.K neg) (TEv Γ Ex (ev ct c x)) (tC (.ref ad)) σ H Q:=by
 rintro σ H Q ⟨env,ah,m,rl,q⟩;rw[ev] at q;refine⟨env,ah,m,rl,i9.first rl q fun d1 ah1 m1 H1 v1 p1 k1 rl1 r1 q1=>?_⟩
 split at q1
 · rename_i hf;refine⟨ad,vs,rfl,.inr (h1 H1),N1 r1 hf.1,E1 (h2 m1 H1) hf.2,?_⟩
   rw[T6 r1 hf.1 (h2 m1 H1) hf.2] at q1
   cases neg with
   |false=>rw[a2l] at q1;exact q1.ok rl1.sim rfl
   |true=>rw[a2k] at q1;exact q1.ok rl1.sim rfl
 · exact q1.elim
theorem b3n{n:Str}(C:Cxt X Γ G ct c Ex N sc dfn)(ho:(op=.In/\neg=false)∨(op=.NotIn/\neg=true))(hg:D6 sc n=true)(ht:G.tups.lookup n=some ds)(ha:PE X a (TEv Γ Ex (ev ct c x))):
 PE X (.Compare a [op] [.Name n p] pos) (TEv Γ Ex (ev ct c (.gin neg x ds)))/\PT X (.Compare a [op] [.Name n p] pos) (TTv Γ Ex (tst ct c (.val (.gin neg x ds)))):=by
 obtain⟨ad,vs,h1,h2,h3⟩:=C.tups n ds ht
 have hb:PE X (.Name n p) (tC (.ref ad)):=V3 (C.gl hg) h1 rfl (G4 hg).2.1
 have ho':OpR X (compareOp op) (rIn X.K neg):=by
  rcases ho with⟨rfl,rfl⟩|⟨rfl,rfl⟩
  · exact V5
  · exact K9
 refine⟨PE.imp (a3G ho' ha hb rfl) (a6P h2 h3),PT.imp (a3E ho' ha hb rfl) fun σ H Q q=>a1m (a6P (neg:=neg) h2 h3) σ H Q ?_⟩
 simpa only[TTv,tst] using q
def rMd(a:Addr)(gs:List (Key×V))(neg:Bool):R2:=fun x y H Q=>∃k,x=kV k/\y=.ref a/\Q (.bl ((O3 gs k).isSome !=neg)) H
theorem b4o(d:a8g X.prog X.w X.K ad gs):OpR X (compareOp .In) (rMd ad gs false):=by
 intro pins s σ H x y v u Q I rx ry h;obtain⟨k,rfl,rfl,q⟩:=h;cases ry;obtain⟨hd,vs,rel,dd⟩:=d;refine wpAny_in_of (X3 rx) hd (dd _ I.kIn).mapOf ?_
 rw[←(rel.val k).isSome_eq];rw[a2l] at q;exact⟨.bl _,H,I.tok _,rfl,q⟩
theorem a7x(d:a8g X.prog X.w X.K ad gs):OpR X (compareOp .NotIn) (rMd ad gs true):=by
 intro pins s σ H x y v u Q I rx ry h;obtain⟨k,rfl,rfl,q⟩:=h;cases ry;obtain⟨hd,vs,rel,dd⟩:=d;refine wpAny_notIn_of (X3 rx) hd (dd _ I.kIn).mapOf ?_
 rw[←(rel.val k).isSome_eq];rw[a2k] at q;exact⟨.bl _,H,I.tok _,rfl,q⟩
def rMx(a:Addr)(gs:List (Key×V)):R2:=fun x y H Q=>∃k v,x=.ref a/\y=kV k/\O3 gs k=some v/\Q v H
theorem b8Z(d:a8g X.prog X.w X.K ad gs):IxR X (rMx ad gs):=by
 rintro value slice pins s σ H x y v u Q I rx ry ⟨k,z,rfl,rfl,hz,q⟩ hs;cases rx;obtain⟨hd,vs,rel,dd⟩:=d;have dd:=dd _ I.kIn;obtain⟨w',hw,rw'⟩:=a0C.some_of (v:=z) (o:=valueAt vs k) (by rw[←hz];exact rel.val k)
 exact b7E.ixd_tail dd.typeIs hs (wpAny_getItem_of (X3 ry) dd.mapOf hw ⟨z,H,I.tok _,rw',q⟩)
theorem a4Q(h2:∀m H,DK m H kvs gs):∀σ H Q,TEv Γ Ex (ev ct c (.gdin neg x kvs)) σ H Q->tOp (rMd ad gs neg) (TEv Γ Ex (ev ct c x)) (tC (.ref ad)) σ H Q:=by
 rintro σ H Q ⟨env,ah,m,rl,q⟩;rw[ev] at q;refine⟨env,ah,m,rl,i9.first rl q fun d1 ah1 m1 H1 v1 p1 k1 rl1 r1 q1=>?_⟩
 split at q1
 · rename_i hf;obtain⟨k,hk⟩:=Option.isSome_iff_exists.mp hf;refine⟨k,V8 hk r1,rfl,?_⟩
   rw[(h2 m1 H1).some_eq hk] at q1;exact q1.ok rl1.sim rfl
 · exact q1.elim
theorem b0M{n:Str}(C:Cxt X Γ G ct c Ex N sc dfn)(ho:(op=.In/\neg=false)∨(op=.NotIn/\neg=true))(hg:D6 sc n=true)(ht:G.dicts.lookup n=some kvs)(ha:PE X a (TEv Γ Ex (ev ct c x))):
 PE X (.Compare a [op] [.Name n p] pos) (TEv Γ Ex (ev ct c (.gdin neg x kvs)))/\PT X (.Compare a [op] [.Name n p] pos) (TTv Γ Ex (tst ct c (.val (.gdin neg x kvs)))):=by
 obtain⟨ad,gs,h1,h2,h3⟩:=C.dicts n kvs ht
 have hb:PE X (.Name n p) (tC (.ref ad)):=V3 (C.gl hg) h1 rfl (G4 hg).2.1
 have ho':OpR X (compareOp op) (rMd ad gs neg):=by
  rcases ho with⟨rfl,rfl⟩|⟨rfl,rfl⟩
  · exact b4o h2
  · exact a7x h2
 refine⟨PE.imp (a3G ho' ha hb rfl) (a4Q h3),PT.imp (a3E ho' ha hb rfl) fun σ H Q q=>a1m (a4Q (neg:=neg) (ad:=ad) h3) σ H Q ?_⟩
 simpa only[TTv,tst] using q
theorem b5R{n:Str}(C:Cxt X Γ G ct c Ex N sc dfn)(hg:D6 sc n=true)(ht:G.dicts.lookup n=some kvs)(hb:PE X b (TEv Γ Ex (ev ct c y)))(hs:a1y b):
 PE X (.Subscript (.Name n p) b pos) (TEv Γ Ex (ev ct c (.gdix y kvs))):=by
 obtain⟨ad,gs,h1,h2,h3⟩:=C.dicts n kvs ht
 have ha:PE X (.Name n p) (tC (.ref ad)):=V3 (C.gl hg) h1 rfl (G4 hg).2.1
 refine PE.imp (b3b (b8Z h2) ha hb hs) ?_
 rintro σ H Q ⟨env,ah,m,rl,q⟩;rw[ev] at q;refine⟨env,ah,m,rl,i9.first rl q fun d1 ah1 m1 H1 v1 p1 k1 rl1 r1 q1=>?_⟩
 split at q1
 · rename_i hf;obtain⟨k,hk⟩:=Option.isSome_iff_exists.mp hf
   split at q1
   · rename_i d hd;obtain⟨v,hv,rv⟩:=((h3 m1 H1).val hk).1 d hd;exact⟨k,v,rfl,V8 hk r1,hv,q1.ok rl1.sim rv⟩
   · exact q1.elim
 · exact q1.elim
theorem b9z{n:Str}{b:Bi}(C:Cxt X Γ G ct c Ex N sc dfn)(hb:b5C n=some b)(hg:D6 sc n=true)(hm:X.mg n=none)(hp:(a::es).all o0=true)(ha:PA X (a::es) (TAv Γ Ex (evs ct c xs))):
 PE X (.Call (.Name n p) (a::es) [] pos) (TEv Γ Ex (ev ct c (.bi b xs))):=by
 obtain⟨_,hd,hn⟩:=G4 hg;rw[all_cons,ae] at hp;have s1:=g9 (es:=es) (env:=X.env) hp.1;have s2:=D7 (pos:=pos) (env:=X.env) hp.2
 have go:∀{b:Bi} {t:TE},PE X (.Call (.Name n p) (a::es) [] pos) (tCB (rBi Γ Ex b) (TAv Γ Ex (evs ct c xs)))->PE X (.Call (.Name n p) (a::es) [] pos) (TEv Γ Ex (ev ct c (.bi b xs))):=fun h=>PE.imp h (b8t ha)
 unfold b5C at hb
 repeat' split at hb
 all_goals (first|(cases hb;done)|(cases hb;rename_i e;subst e))
 · exact go (t:=tCB (rBi Γ Ex .len) (TAv Γ Ex (evs ct c xs))) (F0 (b7O C.K) (C.gl hg) hm PySem.boot_len ha hn hd s1 s2)
 · exact go (t:=tCB (rBi Γ Ex .len) (TAv Γ Ex (evs ct c xs))) (O4 b7N (C.gl hg) hm PyProof.Rows.boot_str ha hn hd s1 s2)
 · exact go (t:=tCB (rBi Γ Ex .len) (TAv Γ Ex (evs ct c xs))) (O4 b7P (C.gl hg) hm PyProof.Rows.boot_int ha hn hd s1 s2)
 · exact go (t:=tCB (rBi Γ Ex .len) (TAv Γ Ex (evs ct c xs))) (O4 (b2L C.K) (C.gl hg) hm PyProof.Rows.boot_tuple ha hn hd s1 s2)
 · exact go (t:=tCB (rBi Γ Ex .len) (TAv Γ Ex (evs ct c xs))) (O4 (b5y C.K) (C.gl hg) hm PyProof.Rows.boot_list ha hn hd s1 s2)
 · exact go (t:=tCB (rBi Γ Ex .len) (TAv Γ Ex (evs ct c xs))) (F0 (b7R C.calm C.K) (C.gl hg) hm PyProof.Rows.boot_all ha hn hd s1 s2)
 · exact go (t:=tCB (rBi Γ Ex .len) (TAv Γ Ex (evs ct c xs))) (F0 (b7Q C.calm C.K) (C.gl hg) hm PyProof.Rows.boot_any ha hn hd s1 s2)
 · exact go (t:=tCB (rBi Γ Ex .len) (TAv Γ Ex (evs ct c xs))) (O4 (b5z C.calm C.K) (C.gl hg) hm PyProof.Rows.boot_dict ha hn hd s1 s2)
theorem a1S{b:Mt}{T:String}(hK:X.K=Γ.K)(hT:(T="list"/\(b=.append∨b=.insert))∨(T="str"/\(b=.split∨b=.join∨b=.starts))):∀σ H Q,TEv Γ Ex (ev ct c (.mt b x xs)) σ H Q->tBM X.K T (rMt Γ Ex b) (TEv Γ Ex (ev ct c x)) (TAv Γ Ex (evs ct c xs)) σ H Q:=by
 rintro σ H Q ⟨env,ah,m,rl,q⟩;rw[ev] at q;refine⟨env,ah,m,rl,i9.first rl q fun d1 ah1 m1 H1 v1 p1 k1 rl1 r1 q1=>?_⟩
 split at q1
 · rename_i ht;refine⟨?_,env,ah1,m1,rl1,q1.bind.mp fun ds ah2 m2 H2 p2 k2 s2 q2=>fun vs rs=>⟨d1,ds,ah2,m2,s2,r1.mono p2 k2,rs,q2⟩⟩
   unfold mtT at ht
   split at ht
   · cases r1
     rcases hT with⟨rfl,rfl|rfl⟩|⟨rfl,_⟩
     · cases ht
     · cases ht
     · rfl
   · rename_i n
     rcases hT with⟨rfl,hb⟩|⟨rfl,rfl|rfl|rfl⟩
     · have hs:(rdL ah1 n).isSome=true:=by rcases hb with rfl|rfl<;>exact ht
       obtain⟨l,hl⟩:=Option.isSome_iff_exists.mp hs;obtain⟨ad,vs,rfl,_,h1,_⟩:=rl1.sim.rdL hl r1;exact .inl ⟨rfl,vs,by rw[hK];exact h1⟩
     · cases ht
     · cases ht
     · cases ht
   · cases ht
 · exact q1.elim
theorem b9w{n:Str}{b:Mt}(C:Cxt X Γ G ct c Ex N sc dfn)(hb:b4w n=some b)(hpb:Y4 e=true)(hline:(apos.endLine==pos.line)=true)(hlen:(a::es).length<20)(hp:(a::es).all o0=true)(ho:PE X e (TEv Γ Ex (ev ct c x)))(ha:PA X (a::es) (TAv Γ Ex (evs ct c xs))):
 PE X (.Call (.Attribute e n apos) (a::es) [] pos) (TEv Γ Ex (ev ct c (.mt b x xs))):=by
 have hp':=hp
 rw[all_cons,ae] at hp;have s1:=g9 (es:=es) (env:=X.env) hp.1;have s2:=D7 (pos:=pos) (env:=X.env) hp.2;have hbase:=a0b (f:=n) (env:=X.env) (w:=eval e X.env) hpb
 have hfew:((backTo pos (starEach (a::es) X.env)).all (fun x=>!x.1)&&(backToKw pos (keywordEach [] X.env)).all (fun x=>x.1.isSome)
  &&decide ((a::es).length+([]:List Keyword).length+(if([]:List Keyword).isEmpty then 0 else 1)<30))=true:=by
  rw[ae,ae];refine⟨⟨a2C hp',rfl⟩,bp ?_⟩
  show(a::es).length+0+0<30
  omega
 unfold b4w at hb
 repeat' split at hb
 all_goals (first|(cases hb;done)|(cases hb;rename_i e0;subst e0))
 · exact PE.imp (a4I PySem.F.plainAttrs_list PySem.F.slot_list_append PySem.F.type_list_append (a9H (Γ:=Γ) (E:=Ex)) ho ha hbase hfew hline s1 s2) (a1S C.K (.inl ⟨rfl,.inl rfl⟩))
 · exact PE.imp (a4I PySem.F.plainAttrs_str PySem.F.slot_str_split PySem.F.type_str_split (b1X (Γ:=Γ) (E:=Ex)) ho ha hbase hfew hline s1 s2) (a1S C.K (.inr ⟨rfl,.inl rfl⟩))
 · exact PE.imp (a4I PySem.F.plainAttrs_str PySem.F.slot_str_join PySem.F.type_str_join (b4y (Γ:=Γ) (E:=Ex) C.K) ho ha hbase hfew hline s1 s2) (a1S C.K (.inr ⟨rfl,.inr (.inl rfl)⟩))
 · exact PE.imp (a4I PySem.F.plainAttrs_str PySem.F.slot_str_startswith PySem.F.type_str_startswith (a9F (Γ:=Γ) (E:=Ex)) ho ha hbase hfew hline s1 s2) (a1S C.K (.inr ⟨rfl,.inr (.inr rfl)⟩))
 · exact PE.imp (a4I PySem.F.plainAttrs_list PySem.F.slot_list_insert PySem.F.type_list_insert (a9G (Γ:=Γ) (E:=Ex)) ho ha hbase hfew hline s1 s2) (a1S C.K (.inl ⟨rfl,.inr rfl⟩))
end
end EV
namespace L2
open PySem PySem.Spec PyProof.Rows
theorem a1T:∀(gs acc:List (Key×V)),((acc++gs).map (·.1)).Nodup->P7 acc gs=acc++gs
 |[],acc,_=>by rw[bn];rfl
 | g::gs,acc,h=>by
  have h2:((acc++[g]++gs).map (·.1)).Nodup:=by rw[aA];exact h
  have hn:(acc.any fun kv=>decide (kv.1=g.1))=false:=by
   rw[List.any_eq_false];intro p hp
   have e:p.1≠g.1:=by
    rw[ao,List.nodup_append] at h;exact h.2.2 p.1 (ak.mpr ⟨p,hp,rfl⟩) g.1 (by simp)
   simp[e]
  show P7 (J8 acc g.1 g.2) gs=_
  rw[show J8 acc g.1 g.2=acc++[g] by unfold J8;rw[hn];rfl,a1T gs _ h2,aA]
  rfl
variable{H:Hp}
theorem a7g{p:Addr}{a b:HO}:upd (upd H p a) p b=upd H p b:=by
 funext x
 by_cases h:x=p
 · subst h;rw[d8,d8]
 · rw[d9 h,d9 h,d9 h]
end L2
namespace EV
open PySem PySem.Spec L2
open PyProof.Rows hiding St
noncomputable def kDg:Key->D
 |.inl i=>.int i
 |.inr x=>.str x
theorem a2L:∀{l:List D},a3L l=true->l.Nodup
 |[],_=>.nil
 |d::r,h=>by
  rw[a3L,ae] at h;refine bf.mpr ⟨fun m=>?_,a2L h.2⟩
  have:=h.1
  rw[bw.mpr ⟨d,m,bp rfl⟩] at this;cases this
variable{kvs:List (D×D)}
section
variable{X:Cx}{Γ:Gm}{G:GT}{ct:CT}{c:CF}{Ex:XK}{N:List Str}{sc:Scope}{dfn:Bool}{e a b:Expr}{pos p:Pos}{x y z:E}
theorem b2I{e:Expr}{x:Str}(h:b5t e=some x):∃k q,e=.Constant (.str x) k q:=by
 unfold b5t at h
 split at h
 · split at h
   · cases h;exact⟨_,_,rfl⟩
   · cases h
 · cases h
theorem b2J{e:Expr}{i:Int}(h:b5u e=some i):∃k q,e=.Constant (.int i) k q:=by
 unfold b5u at h
 split at h
 · split at h
   · cases h;exact⟨_,_,rfl⟩
   · cases h
 · cases h
theorem b3h:∀{ks:List (Option Expr)} {vs:List Expr} {kvs:List (D×D)},a7V ks vs=some kvs->∃trs gs,PPs X pos ks vs trs/\ks.all (·.isSome)=true/\ks.length=vs.length/\ks.length=kvs.length/\gs.length=kvs.length/\kvs.map (·.1)=(gs.map (·.1)).map kDg∧
 (∀σ H Q,Q (gs.map fun kv=>(kV kv.1,kv.2)) H->a3n trs σ H Q)/\∀m H,DK m H kvs gs
 |[],vs,kvs,h=>by
  unfold a7V at h
  split at h
  · rename_i e
    cases isEmpty_iff.mp e
    cases h;exact⟨[],[],b1u,rfl,rfl,rfl,rfl,rfl,fun _ _ _ q=>q,fun _ _=>.nil⟩
  · cases h
 |k::ks,vs,kvs,h=>by
  unfold a7V at h
  split at h
  · cases h
  · rename_i v r
    split at h
    · rename_i s i l h1 h2 h3;cases h;obtain⟨e,rfl,h1⟩:=Option.bind_eq_some_iff.mp h1;obtain⟨_,_,rfl⟩:=b2I h1;obtain⟨_,_,rfl⟩:=b2J h2;obtain⟨trs,gs,g1,g2,g3,g4,g5,g6,g7,g8⟩:=b3h h3;exact⟨(tC (.str s),tC (.int i))::trs,(.inr s,.int i)::gs,a8X a9c a9f g1,g2,congrArg (· +1) g3,congrArg (· +1) g4,congrArg (· +1) g5,by rw[map_cons,g6];rfl,fun σ H Q q=>g7 σ H _ q,fun m H=>.cons ⟨rfl,rfl⟩ (g8 m H)⟩
    · cases h
theorem b5U{ks:List (Option Expr)}{vs:List Expr}(h0:ks≠[])(h:a7V ks vs=some kvs)(hk:b5r kvs=true):PE X (.Dict ks vs pos) (TEv Γ Ex (ev ct c (.dlit kvs))):=by
 unfold b5r at hk;rw[ae] at hk;have h15:=aw hk.1;obtain⟨trs,gs,g1,g2,g3,g4,g5,g6,g7,g8⟩:=b3h (X:=X) (pos:=pos) h
 have nd:(gs.map (·.1)).Nodup:=by
  have:=a2L hk.2
  rw[g6] at this;exact List.Pairwise.of_map _ (fun a b h e=>h (by rw[e])) this
 refine PE.imp (b1E g1 g2 g3 h0 (by omega)) ?_
 rintro σ H Q ⟨env,ah,m,rl,q⟩;rw[ev] at q;intro p hp;refine g7 σ _ _ ⟨d8,gs,rfl,by omega,?_⟩
 rw[a7g,a1T gs [] nd];exact q.newc rl.sim hp (.inl ⟨gs,d8,g8 _ _⟩)
end
open PySem PySem.Spec L2 L2X
noncomputable def TGv(Γ:Gm)(p:Pat):TG:=fun v σ H Q=>∃env d m env',EnvRel m H env σ/\Rp m H d v/\G0 p d env=some env'/\∀σ',EnvRel m H env' σ'->σ'.length=σ.length->(∀(j:Nat),j∉B9 p->σ'[j]? =σ[j]?)->Q σ' H
noncomputable def b9C(Γ:Gm)(p:Pats):TGs:=fun vs σ H Q=>∃env ds m env',EnvRel m H env σ/\Rps m H ds vs/\O1 p ds env=some env'/\∀σ',EnvRel m H env' σ'->σ'.length=σ.length->(∀(j:Nat),j∉V4 p->σ'[j]? =σ[j]?)->Q σ' H
noncomputable def a1r:Pats->Nat
 |.nil=>0
 |.cons _ r=>a1r r+1
theorem a0a:∀(ps:Pats) {ds:List D} {env env':o6},O1 ps ds env=some env'->ds.length=a1r ps
 |.nil,ds,env,env',h=>by
  cases ds with
  |nil=>rfl
  |cons d r=>simp only[O1] at h;cases h
 | .cons p r,ds,env,env',h=>by
  cases ds with
  |nil=>simp only[O1] at h;cases h
  |cons d t=>
   simp only[O1] at h
   split at h
   · rw[length_cons,a0a r h];rfl
   · cases h
variable{es:List Expr}{i:Nat}{n:Nat}{cc:Cell}{ah:AH}{K:PySem.W.Frag}{a:Addr}{m:List Addr}{H:Hp}{m0:List Addr}{H0:Hp}{vs:List V}{z:Str}{elts:List Expr}{kk:Nat}{tp:Pos}
section
variable{X:Cx}{Γ:Gm}{G:GT}{ct:CT}{c:CF}{Ex:XK}{N:List Str}{sc:Scope}{dfn:Bool}
theorem PG.imp{e:Expr}{t t':TG}(h:PG X e t)(i:∀v σ H Q,t' v σ H Q->t v σ H Q):PG X e t':=fun pins s σ H v u Q I r q=>h pins s σ H v u Q I r (i _ _ _ _ q)
theorem PGs.imp{t t':TGs}(h:PGs X es t)(i:∀v σ H Q,t' v σ H Q->t v σ H Q):PGs X es t':=fun pins s σ H v u Q I r q=>h pins s σ H v u Q I r (i _ _ _ _ q)
theorem a2m{env:Env}:∀{es:List Expr},(assignEach es env).length=es.length
 |[]=>rfl
 |e::r=>by
  have:=a2m (env:=env) (es:=r)
  cases e<;>simp only[assignEach,length_cons]<;>rw[this]
theorem Cxt.loc(C:Cxt X Γ G ct c Ex N sc dfn){n:Str}(h:a9W dfn sc n=true):Loc X.env.scope n/\(X.fn n=true∨X.env.scope.names.lookup n=some .local):=by
 rw[C.sc];unfold a9W at h;unfold L2.Loc
 split at h
 · rename_i e;exact⟨.inl e,.inr e⟩
 · rename_i e;exact⟨.inr e,.inl (C.fnb h n)⟩
 · cases h
theorem a0g(C:Cxt X Γ G ct c Ex N sc dfn){n:Str}(h:a0W dfn N sc n=some i):X.N[i]? =some n/\Loc X.env.scope n/\(X.fn n=true∨X.env.scope.names.lookup n=some .local):=by
 unfold a0W at h
 split at h
 · rename_i hl;rw[C.hN];exact⟨P9 h,C.loc hl⟩
 · cases h
theorem b0L (C:Cxt X Γ G ct c Ex N sc dfn):∀n,(∀e p,a6g dfn N sc n e=some p->PG X e (TGv Γ p)/\o0 e=true)/\∀es ps,a2j dfn N sc n es=some ps->PGs X es (b9C Γ ps)/\a1r ps=es.length/\(assignEach es X.env).findIdx? (·.1)=none:=by
 intro n
 induction n with
 |zero=>exact⟨fun e p h=>(by simp only[a6g] at h;cases h),fun es ps h=>(by simp only[a2j] at h;cases h)⟩
 | succ n ih=>
  obtain⟨ih1,ih2⟩:=ih;refine⟨fun e p h=>?_,fun es ps h=>?_⟩
  · cases e<;>simp only[a6g] at h<;>first|(cases h;done)|skip
    · rename_i nm pos
      cases hs:a0W dfn N sc nm with
      |none=>rw[hs] at h;cases h
      |some i=>
       rw[hs] at h;cases h
       obtain⟨h1,h2,h3⟩:=a0g C hs;refine⟨PG.imp (b1C (by rw[C.hN];exact C.nd) h1 h2 h3) ?_,rfl⟩
       rintro v σ H Q ⟨env,d,m,env',er,r,hb,q⟩;simp only[G0] at hb;cases hb;exact q _ (er.set r) (by simp) fun j hj=>List.getElem?_set_ne (fun e=>hj (by simp[B9,e]))
    · rename_i es k pos
      cases hs:a2j dfn N sc n es with
      |none=>rw[hs] at h;cases h
      |some ps=>
       rw[hs] at h;cases h
       obtain⟨h1,h2,h3⟩:=ih2 es ps hs;refine⟨PG.imp (b3Y C.calm h1 a2m h3) ?_,rfl⟩
       rintro v σ H Q ⟨env,d,m,env',er,r,hb,q⟩;simp only[G0] at hb
       cases d<;>first|(cases hb;done)|skip
       rename_i ds;obtain⟨a,vs,rfl,ha,rs⟩:=r;refine⟨a,vs,rfl,.inl (.inl ha),by rw[rs.len,a0a ps hb,h2],env,ds,m,env',er,rs,hb,fun σ' r' l' s'=>q σ' r' l' s'⟩
  · cases es with
    | nil=>
     simp only[a2j] at h;cases h;refine⟨PGs.imp b1B ?_,rfl,rfl⟩
     rintro vs σ H Q ⟨env,ds,m,env',er,rs,hb,q⟩;have hl:=a0a .nil hb
     have:vs=[]:=length_eq_zero_iff.mp (rs.len.trans hl)
     subst this
     cases ds with
     |nil=>
      simp only[O1] at hb;cases hb;exact⟨rfl,q σ er rfl fun _ _=>rfl⟩
     |cons d r=>cases hl
    |cons e r=>
     simp only[a2j] at h
     split at h
     · rename_i p ps' h1 h2;cases h;obtain⟨g1,g2⟩:=ih1 e p h1;obtain⟨g3,g4,g5⟩:=ih2 r ps' h2
       have hst:(assignEach (e::r) X.env)=(false,assign e X.env)::assignEach r X.env:=by cases e<;>first|rfl|cases g2
       refine⟨PGs.imp (a8Z g1 g3 (by rw[hst];rfl)) ?_,by simp only[a1r,length_cons,g4],by rw[hst,List.findIdx?_cons,g5];rfl⟩
       rintro vs σ H Q ⟨env,ds,m,env',er,rs,hb,q⟩
       cases ds with
       |nil=>simp only[O1] at hb;cases hb
       |cons d t=>
        simp only[O1] at hb
        split at hb
        · rename_i env1 hb1;obtain⟨v,vt,rfl,rd,rt⟩:=rs;refine⟨v,vt,rfl,env,d,m,env1,er,rd,hb1,fun σ1 er1 l1 s1=>⟨env1,t,m,env',er1,rt,hb,fun σ' er' l' s'=>q σ' er' (l'.trans l1) fun j hj=>?_⟩⟩
          simp only[V4,aO,not_or] at hj;rw[s' j hj.2,s1 j hj.1]
        · cases hb
     · cases h
def a4q(Γ:Gm)(J:It)(its:List D)(g:List (Nat×Cell))(m0:List Addr)(H0:Hp):Prop:=∀(i:Nat) (ah:AH) (m:List Addr) (H:Hp),Pre m0 m->Keep m0 m H0 H->Sim Γ ah m H->gOk g ah=true→
 (i=its.length->J.stop i H)/\∀d,its[i]? =some d->J.go i H/\∀v H',J.yld i H v H'->Keep m m H H'/\Sim Γ ah m H'/\Rp m H' d v
def TIv(Γ:Gm)(E:XK)(f:o6->AH->R Its):TI:=fun σ H R=>∃env ah m,Rel Γ env ah σ H m/\i8 Γ E m H (f env ah) (fun x ah1 m1 H1=>Sim Γ ah1 m1 H1->∀J,a4q Γ J x.1 x.2 m1 H1->R J H1)
theorem b2k(h:gOk [(n,cc)] ah=true):ah[n]? =some cc:=by
 unfold gOk at h;rw[all_cons,ae] at h;exact aw h.1
theorem E8(hK:K=Γ.K){l:List D}(h:cc=.lst l∨cc=.rol l)(S:Sim Γ ah m H)(hm:m[n]? =some a)(e:ah[n]? =some cc):∃vs,SqL K H a vs/\Rps m H l vs:=by
 have:rdL ah n=some l:=by
  unfold rdL
  rcases h with rfl|rfl<;>rw[e]
 obtain⟨a',vs,e1,e2,e3,e4⟩:=S.rdL this ⟨a,rfl,hm⟩;rw[hm] at e2;cases e2;exact⟨vs,by rw[hK];exact e3,e4⟩
theorem a6G(hK:K=Γ.K){l:List D}(h:cc=.lst l∨cc=.rol l)(hm:m0[n]? =some a):a4q Γ (Itl K a) l [(n,cc)] m0 H0:=by
 intro i ah m H p k0 S g;obtain⟨vs,h1,h2⟩:=E8 hK h S (p.get hm) (b2k g);refine⟨fun hi=>⟨vs,h1,by rw[h2.len,hi];exact ai _⟩,fun d hd=>?_⟩
 obtain⟨v,hv,rv⟩:=h2.get hd;refine⟨⟨vs,v,h1,hv⟩,?_⟩
 rintro w H' ⟨rfl,hw⟩
 have:=hw vs h1
 rw[hv] at this;cases this;exact⟨Keep.refl _ _,S,rv⟩
theorem a2W:∀{l:List D} {n i:Nat} {d:D},(z9 n l)[i]? =some d->∃x,l[i]? =some x/\d=.tup [.int ((n+i:Nat):Int),x]
 |[],_,_,_,h=>by simp[z9] at h
 |x::r,n,0,d,h=>by
  simp only[z9,List.getElem?_cons_zero] at h
  cases h;exact⟨x,rfl,rfl⟩
 |x::r,n,i+1,d,h=>by
  simp only[z9,List.getElem?_cons_succ] at h
  obtain⟨y,h1,h2⟩:=a2W h;exact⟨y,by simpa using h1,by rw[h2];congr 3;omega⟩
theorem a2V:∀{l:List D} {n:Nat},(z9 n l).length=l.length
 |[],_=>rfl
 |x::r,n=>by simp only[z9,length_cons,a2V]
theorem a6H(hK:K=Γ.K){l:List D}(h:cc=.lst l∨cc=.rol l)(hm:m0[n]? =some a):a4q Γ (Ite K a) (z9 0 l) [(n,cc)] m0 H0:=by
 intro i ah m H p k0 S g;obtain⟨vs,h1,h2⟩:=E8 hK h S (p.get hm) (b2k g);refine⟨fun hi=>⟨vs,h1,by rw[h2.len,hi,a2V];exact ai _⟩,fun d hd=>?_⟩
 obtain⟨x,hx,rfl⟩:=a2W hd;obtain⟨v,hv,rv⟩:=h2.get hx;refine⟨⟨vs,v,h1,hv⟩,?_⟩
 rintro w H' ⟨T,y,hT,rfl,hw,rfl⟩
 have:=hw vs h1
 rw[hv] at this;cases this;refine⟨Keep.new hT,S.new hT,T,[.int i,v],rfl,d8,.int i,[v],rfl,?_,v,[],rfl,rv.mono (Pre.refl m) (Keep.new hT),rfl⟩
 show V.int (i:Int)=V.int ((0+i:Nat):Int)
 rw[aB]
theorem b4Q{l:List D}(ha:H0 a=some (.tup vs))(r:Rps m0 H0 l vs):a4q Γ (Itt K a) l [] m0 H0:=by
 intro i ah m H p k0 S g;have h1:=k0.tup ha;have h2:=r.mono p k0;refine⟨fun hi=>⟨vs,.inl (.inl h1),by rw[h2.len,hi];exact ai _⟩,fun d hd=>?_⟩
 obtain⟨v,hv,rv⟩:=h2.get hd;refine⟨⟨vs,v,.inl (.inl h1),hv⟩,?_⟩
 rintro w H' ⟨rfl,hw⟩
 have:=hw vs (.inl (.inl h1))
 rw[hv] at this;cases this;exact⟨Keep.refl _ _,S,rv⟩
theorem b4R:a4q Γ (L2.Its z) (S2 z) [] m0 H0:=by
 intro i ah m H p k0 S g;refine⟨fun hi=>?_,fun d hd=>?_⟩
 · show i=z.cps.size
   rw[hi];simp[S2]
 · unfold S2 at hd;rw[aj] at hd
   cases hc:z.cps.toList[i]? with
   |none=>rw[hc] at hd;cases hd
   | some cc=>
    rw[hc] at hd;cases hd
    have hi:i<z.cps.size:=by
     have:=(ac.mp hc).1
     simpa using this
    refine⟨hi,?_⟩
    rintro v H' ⟨rfl,c',h1,rfl⟩;rw[Array.getElem?_toList] at hc
    rw[hc] at h1;cases h1;exact⟨Keep.refl _ _,S,rfl⟩
theorem b4S{lo:Int}:a4q Γ (Itr lo n) (a8I lo n) [] m0 H0:=by
 intro i ah m H p k0 S g;refine⟨fun hi=>?_,fun d hd=>?_⟩
 · show n<=i
   rw[hi];simp[a8I]
 · unfold a8I at hd;rw[aj] at hd
   cases hc:(List.range n)[i]? with
   |none=>rw[hc] at hd;cases hd
   |some j=>
    rw[hc] at hd;cases hd;obtain⟨h1,h2⟩:=ac.mp hc
    rw[List.getElem_range] at h2;rw[aM] at h1;subst h2;refine⟨h1,?_⟩
    rintro v H' ⟨rfl,rfl⟩;exact⟨Keep.refl _ _,S,rfl⟩
variable{tg a b:Expr}{x y:E}{pos p:Pos}
theorem b8h(C:Cxt X Γ G ct c Ex N sc dfn)(ha:PE X a (TEv Γ Ex (ev ct c x))):PI X tg a (TIv Γ Ex (evi ct c (.seq x))):=by
 intro pins s σ H R I ⟨env,ah,m,rl,q⟩;rw[evi] at q
 cases hr:ev ct c x env ah with
 | ok d ah1=>
  rw[hr,i6] at q;unfold S5 at q
  split at q
  · refine b3X ha pins s σ H R I ⟨env,ah,m,rl,?_⟩
    rw[hr];intro m1 H1 v p1 k1 s1 r1;cases r1;exact⟨_,rfl,(q m1 H1 p1 k1 s1) s1 _ b4R⟩
  · refine b3W ha pins s σ H R I ⟨env,ah,m,rl,?_⟩
    rw[hr];intro m1 H1 v p1 k1 s1 r1;obtain⟨ad,vs,rfl,h1,q1⟩:=r1;exact⟨ad,rfl,⟨vs,.inl (.inl h1)⟩,(q m1 H1 p1 k1 s1) s1 _ (b4Q h1 q1)⟩
  · rename_i n;refine a6s ha pins s σ H R I ⟨env,ah,m,rl,?_⟩
    rw[hr];intro m1 H1 v p1 k1 s1 r1
    split at q
    · rename_i l e;obtain⟨ad,vs,rfl,hm,h1,q1⟩:=s1.lst e r1;exact⟨ad,rfl,⟨vs,.inl (.inl h1)⟩,(q m1 H1 p1 k1 s1) s1 _ (a6G C.K (.inl rfl) hm)⟩
    · rename_i l e;obtain⟨ad,vs,rfl,hm,h1,q1⟩:=s1.rdL (l:=l) (by unfold rdL;rw[e]) r1
      exact⟨ad,rfl,⟨vs,by rw[C.K];exact h1⟩,(q m1 H1 p1 k1 s1) s1 _ (a6G C.K (.inr rfl) hm)⟩
    · exact q.elim
  · exact q.elim
 |ex k ah1=>
  rw[hr] at q;refine a6s ha pins s σ H R I ⟨env,ah,m,rl,?_⟩
  rw[hr];exact q
 |no=>rw[hr] at q;exact q.elim
theorem b5M(C:Cxt X Γ G ct c Ex N sc dfn)(hg:D6 sc "range"=true)(hm:X.mg "range"=none)(hp:o0 a=true)(ha:PE X a (TEv Γ Ex (ev ct c x))):PI X tg (.Call (.Name "range" p) [a] [] pos) (TIv Γ Ex (evi ct c (.rng1 x))):=by
 intro pins s σ H R I ⟨env,ah,m,rl,q⟩;refine a7w (C.gl hg) hm (E2 ha T1 (g9 hp)) (g9 hp) pins s σ H R I ⟨env,ah,m,rl,?_⟩
 rw[evi] at q;refine i8.first rl q fun d1 ah1 m1 H1 v1 p1 k1 rl1 r1 q1=>?_
 unfold a5C at q1
 split at q1
 · rename_i i j e1;cases e1;cases r1
   split at q1
   · rename_i hh;refine⟨j,rfl,(L8 hh.2).1,(L8 hh.2).2,?_⟩
     have:=q1.ok rl1.sim rl1.sim (Itr 0 (j-0).toNat) b4S
     rwa [Int.sub_zero] at this
   · exact q1.elim
 · exact q1.elim
theorem b9f{g:Nat×Cell}{g':List (Nat×Cell)}(h:gOk (g::g') ah=true):ah[g.1]? =some g.2/\gOk g' ah=true:=by
 unfold gOk at h⊢;rw[all_cons,ae] at h;exact⟨aw h.1,h.2⟩
theorem a0q{a:List D×Cell}(h:a1d ah n=some a):ah[n]? =some a.2/\(a.2=.lst a.1∨a.2=.rol a.1):=by
 unfold a1d at h
 split at h
 · rename_i l e;cases h;exact⟨e,.inl rfl⟩
 · rename_i l e;cases h;exact⟨e,.inr rfl⟩
 · cases h
theorem a4t:∀{l l':List D} {i:Nat} {d:D},(Y0 l l')[i]? =some d->∃x y,l[i]? =some x/\l'[i]? =some y/\d=.tup [x,y]
 |[],l',i,d,h=>by simp[Y0] at h
 |x::xs,[],i,d,h=>by simp[Y0] at h
 |x::xs,y::ys,0,d,h=>by
  simp only[Y0,List.getElem?_cons_zero] at h
  cases h;exact⟨x,y,rfl,rfl,rfl⟩
 |x::xs,y::ys,i+1,d,h=>by
  simp only[Y0,List.getElem?_cons_succ] at h
  obtain⟨a,b,h1,h2,h3⟩:=a4t h;exact⟨a,b,by simpa using h1,by simpa using h2,h3⟩
theorem a4s:∀{l l':List D},l.length<=(Y0 l l').length∨l'.length<=(Y0 l l').length
 |[],l'=>.inl (Nat.zero_le _)
 |x::xs,[]=>.inr (Nat.zero_le _)
 |x::xs,y::ys=>by
  simp only[Y0,length_cons]
  rcases a4s (l:=xs) (l':=ys) with h|h
  · exact .inl (Nat.succ_le_succ h)
  · exact .inr (Nat.succ_le_succ h)
theorem a9T(hK:K=Γ.K){n':Nat}{a a':Addr}{l l':List D}{cc':Cell}(h:cc=.lst l∨cc=.rol l)(h':cc'=.lst l'∨cc'=.rol l')(hm:m0[n]? =some a)(hm':m0[n']? =some a'):
 a4q Γ (Itz K a a') (Y0 l l') [(n,cc),(n',cc')] m0 H0:=by
 intro i ah m H p k0 S g;obtain⟨g1,g2⟩:=b9f g;obtain⟨vs,h1,h2⟩:=E8 hK h S (p.get hm) g1;obtain⟨ws,h3,h4⟩:=E8 hK h' S (p.get hm') (b2k g2);refine⟨fun hi=>⟨vs,ws,h1,h3,?_⟩,fun d hd=>?_⟩
 · rw[h2.len,h4.len,hi];exact a4s
 · obtain⟨x,y,hx,hy,rfl⟩:=a4t hd;obtain⟨v,hv,rv⟩:=h2.get hx;obtain⟨u,hu,ru⟩:=h4.get hy;refine⟨⟨vs,ws,v,u,h1,h3,hv,hu⟩,?_⟩
   rintro w H' ⟨T,z,z',hT,rfl,hw,hw',rfl⟩;have e1:=hw vs h1;have e2:=hw' ws h3;rw[hv] at e1;rw[hu] at e2;cases e1;cases e2;exact⟨Keep.new hT,S.new hT,T,[v,u],rfl,d8,v,[u],rfl,rv.mono (Pre.refl m) (Keep.new hT),u,[],rfl,ru.mono (Pre.refl m) (Keep.new hT),rfl⟩
theorem b8e(C:Cxt X Γ G ct c Ex N sc dfn)(hg:D6 sc "zip"=true)(hm:X.mg "zip"=none)(hp:o0 a=true)(hpb:o0 b=true)(ha:PE X a (TEv Γ Ex (ev ct c x)))(hb:PE X b (TEv Γ Ex (ev ct c y))):PI X (.Tuple elts kk tp) (.Call (.Name "zip" p) [a,b] [] pos) (TIv Γ Ex (evi ct c (.zip x y))):=by
 intro pins s σ H R I ⟨env,ah,m,rl,q⟩;refine b3V (C.gl hg) hm (E2 ha (E2 hb T1 (g9 hpb)) (g9 hp)) (g9 hp) (D7 (by simp[hpb])) pins s σ H R I ⟨env,ah,m,rl,?_⟩
 rw[evi] at q;refine i8.first rl q fun d1 ah1 m1 H1 v1 p1 k1 rl1 r1 q1=>?_
 refine⟨env,ah1,m1,rl1,i8.first rl1 q1 fun d2 ah2 m2 H2 v2 p2 k2 rl2 r2 q2=>?_⟩
 unfold a7f at q2
 split at q2
 · split at q2
   · rename_i e1 e2;obtain⟨c1,w1⟩:=a0q e1;obtain⟨c2,w2⟩:=a0q e2;obtain⟨ad,rfl,hm1⟩:=r1.mono p2 k2;obtain⟨ad',rfl,hm2⟩:=r2;obtain⟨vs,h1,_⟩:=E8 C.K w1 rl2.sim hm1 c1;obtain⟨ws,h2,_⟩:=E8 C.K w2 rl2.sim hm2 c2;exact⟨ad,ad',vs,ws,rfl,h1,h2,q2.ok rl2.sim rl2.sim _ (a9T C.K w1 w2 hm1 hm2)⟩
   · exact q2.elim
 · exact q2.elim
theorem b5L{nm:Str}(C:Cxt X Γ G ct c Ex N sc dfn)(hg:D6 sc "zip"=true)(hm:X.mg "zip"=none)(hp:o0 a=true)(hpb:o0 b=true)(ha:PE X a (TEv Γ Ex (ev ct c x)))(hb:PE X b (TEv Γ Ex (ev ct c y))):PI X (.Name nm tp) (.Call (.Name "zip" p) [a,b] [] pos) (TIv Γ Ex (evi ct c (.zip x y))):=by
 intro pins s σ H R I ⟨env,ah,m,rl,q⟩;refine b1z (C.gl hg) hm (E2 ha (E2 hb T1 (g9 hpb)) (g9 hp)) (g9 hp) (D7 (by simp[hpb])) pins s σ H R I ⟨env,ah,m,rl,?_⟩
 rw[evi] at q;refine i8.first rl q fun d1 ah1 m1 H1 v1 p1 k1 rl1 r1 q1=>?_
 refine⟨env,ah1,m1,rl1,i8.first rl1 q1 fun d2 ah2 m2 H2 v2 p2 k2 rl2 r2 q2=>?_⟩
 unfold a7f at q2
 split at q2
 · split at q2
   · rename_i e1 e2;obtain⟨c1,w1⟩:=a0q e1;obtain⟨c2,w2⟩:=a0q e2;obtain⟨ad,rfl,hm1⟩:=r1.mono p2 k2;obtain⟨ad',rfl,hm2⟩:=r2;obtain⟨vs,h1,_⟩:=E8 C.K w1 rl2.sim hm1 c1;obtain⟨ws,h2,_⟩:=E8 C.K w2 rl2.sim hm2 c2;exact⟨ad,ad',vs,ws,rfl,h1,h2,q2.ok rl2.sim rl2.sim _ (a9T C.K w1 w2 hm1 hm2)⟩
   · exact q2.elim
 · exact q2.elim
theorem b5S(C:Cxt X Γ G ct c Ex N sc dfn)(hg:D6 sc "enumerate"=true)(hm:X.mg "enumerate"=none)(hp:o0 a=true)(ha:PE X a (TEv Γ Ex (ev ct c x))):PI X (.Tuple elts kk tp) (.Call (.Name "enumerate" p) [a] [] pos) (TIv Γ Ex (evi ct c (.enum x))):=by
 intro pins s σ H R I ⟨env,ah,m,rl,q⟩;refine b1A (C.gl hg) hm (E2 ha T1 (g9 hp)) (g9 hp) pins s σ H R I ⟨env,ah,m,rl,?_⟩
 rw[evi] at q;refine i8.first rl q fun d1 ah1 m1 H1 v1 p1 k1 rl1 r1 q1=>?_
 unfold X6 at q1
 split at q1
 · split at q1
   · rename_i l e;obtain⟨ad,vs,rfl,hm,h1,_⟩:=rl1.sim.lst e r1;exact⟨ad,vs,rfl,.inl (.inl h1),q1.ok rl1.sim rl1.sim _ (a6H C.K (.inl rfl) hm)⟩
   · rename_i l e;obtain⟨ad,vs,rfl,hm,h1,_⟩:=rl1.sim.rdL (l:=l) (by unfold rdL;rw[e]) r1
     exact⟨ad,vs,rfl,by rw[C.K];exact h1,q1.ok rl1.sim rl1.sim _ (a6H C.K (.inr rfl) hm)⟩
   · exact q1.elim
 · exact q1.elim
end
variable{env:o6}{σ:St}{own:List Str}{js:List Nat}{p:Pat}{Q:VK}{e:E}{ah1:AH}{m1:List Addr}{H1:Hp}{it:I}{l:List (D×D)}{d:D}{od:Obj}{H₀:Hp}{elt:Expr}{iter:Expr}{tg:Expr}{ifs:List Expr}{scope:Scope}{pos:Pos}{frees:List Str}{op:CmpOp}{o:B}{α:Type}{β:Type}
section
variable{X:Cx}{Γ:Gm}{G:GT}{ct:CT}{c:CF}{Ex:XK}{N:List Str}{sc:Scope}{dfn:Bool}
theorem a5a(h:EnvRel m H env σ)(own:List Str)(js:List Nat):EnvRel m H (u6 own.length js env) (A8 own js σ):=by
 refine⟨by simp[u6,A8],fun i d e=>?_⟩
 unfold u6 at e;unfold A8
 by_cases hi:i<own.length
 · rw[av (by simpa using hi),bH,ay hi] at e
   cases e
 · have hi':own.length<=i:=bc hi
   rw[au (by simpa using hi'),bu,aj] at e
   rw[au (by simpa using hi'),aa,aj]
   cases hj:js[i-own.length]? with
   |none=>rw[hj] at e;cases e
   | some j=>
    rw[hj] at e
    have e':(env[j]?).join=some d:=ax e
    have e2:env[j]? =some (some d):=by
     cases q:env[j]? with
     |none=>rw[q] at e';cases e'
     |some z=>rw[q] at e';exact congrArg some e'
    obtain⟨v,h1,h2⟩:=h.val j d e2;exact⟨v,by rw[Option.map_some,h1];rfl,h2⟩
theorem b0P{σ4:St}(hp:(B9 p).all (fun i=>decide (i<own.length))=true)(hl:σ4.length=(A8 own js σ).length)(hs:∀(j:Nat),j∉B9 p->σ4[j]? =(A8 own js σ)[j]?):Wk (A8 own js σ) σ4:=by
 refine⟨hl.symm,fun i v h=>?_⟩
 rw[hs i]
 · exact h
 · intro hm
   have:=aw (bv.mp hp i hm)
   unfold A8 at h;rw[av (by simpa using this),aj] at h
   cases q:own[i]? with
   |none=>rw[q] at h;cases h
   |some z=>rw[q] at h;cases h
theorem a7B{r:R (List D)}{g:AH->AH}(h:i9 Γ Ex m H ((noex r).bind fun ds h2=>A4 (.lst ds) (g h2)) Q):i9 Γ E0 m H (r.bind fun ds h2=>A4 (.lst ds) (g h2)) Q:=by
 cases r with
 |ok a ah=>exact h
 |ex k ah=>exact h.elim
 |no=>exact h.elim
def CW(own:List Str)(js:List Nat)(g:TG)(tc:TT)(te:TE)(σ:St)(J:It)(H1:Hp)(Q:VK):Prop:=∀D,H1 D=none→
 ∃ W:Nat->Nat->List V->Hp->Prop,(∃m,W 0 m [] (upd H1 D (.lst [])))/\∀i m ys H2,W i m ys H2→
  (J.stop i H2/\Q (.ref D) H2)∨(J.go i H2/\∀x H3,J.yld i H2 x H3->g x (A8 own js σ) H3 fun σ4 H4=>Wk (A8 own js σ) σ4/\tc σ4 H4 fun b H5=>
   if b=true then te σ4 H5 fun y H6=>H6 D=some (.lst ys)/\ys.length<sizeLine/\∃m',m'<m/\W (i+1) m' (ys++[y]) (upd H6 D (.lst (ys++[y])))
   else∃m',m'<m/\W (i+1) m' ys H5)
theorem a0S {t:T} {x:Its} {J:It} (hp:(B9 p).all (fun i=>decide (i<own.length))=true)
 (er1:EnvRel m1 H1 env σ) (s1:Sim Γ ah1 m1 H1) (hJ:a4q Γ J x.1 x.2 m1 H1) (q1:i9 Γ Ex m1 H1 ((B2 x.2 p (tst ct c t) (ev ct c e) (u6 own.length js env) x.1 [] ah1).bind fun ds h2=>A4 (.lst ds) h2) Q):
 CW own js (TGv Γ p) (TTv Γ Ex (tst ct c t)) (TEv Γ Ex (ev ct c e)) σ J H1 Q:=by
 intro D hD
 refine⟨fun i mm ys H2=>mm=x.1.length-i/\i<=x.1.length/\∃acc ah2 m2,Sim Γ ah2 m2 H2/\Pre m1 m2/\Keep m1 m2 H1 H2/\D∉m2/\H2 D=some (.lst ys)/\Rps m2 H2 acc ys∧
  i9 Γ Ex m1 H1 ((B2 x.2 p (tst ct c t) (ev ct c e) (u6 own.length js env) (x.1.drop i) acc ah2).bind fun ds h2=>A4 (.lst ds) h2) Q,?_,?_⟩
 · exact⟨_,rfl,Nat.zero_le _,[],ah1,m1,s1.new hD,Pre.refl _,Keep.new hD,s1.fresh hD,d8,rfl,q1⟩
 · rintro i mm ys H2 ⟨hmm,hil,acc,ah2,m2,s2,p2,k2,nD,hD2,rs2,q2⟩
   by_cases hend:i=x.1.length
   · refine .inl ?_
     rw[hend,drop_length] at q2;unfold B2 at q2
     split at q2
     · rename_i hgk;rw[i6] at q2;refine⟨(hJ i ah2 m2 H2 p2 k2 s2 hgk).1 hend,?_⟩
       have sm:Sim Γ (ah2++[.lst acc]) (m2++[D]) H2:=by
        refine⟨by simp[s2.len],Y5 s2.nd nD,fun n a cc hn hcc=>?_⟩
        have kk:Keep m2 m2 H2 H2:=Keep.refl _ _
        by_cases hl:n<m2.length
        · rw[av hl] at hn
          rw[av (by rw[←s2.len];exact hl)] at hcc
          exact(s2.at hn hcc).mono' (Pre.snoc m2 D) (fun _ _ _ z=>z) rfl
        · have hn':n=m2.length:=by
           have:=(ac.mp hn).1
           simp at this;omega
          subst hn';rw[au (ai _)] at hn
          rw[s2.len,au (ai _)] at hcc
          simp at hn hcc;subst hn;subst hcc
          exact⟨ys,hD2,rs2.mono' (Pre.snoc m2 D) fun _ _ _ z=>z⟩
       refine q2 (m2++[D]) H2 (.ref D) (p2.trans (Pre.snoc m2 D)) ⟨k2.imm,k2.out,fun a ha=>?_⟩ sm ⟨D,rfl,?_⟩
       · rcases aO.mp ha with z|z
         · exact k2.fr a z
         · simp at z;subst z;exact .inr hD
       · rw[←s2.len,au (ai _)];simp
     · exact q2.elim
   · refine .inr ?_
     have hlt:i<x.1.length:=Nat.lt_of_le_of_ne hil hend
     have hdi:x.1[i]? =some x.1[i]:=af hlt
     rw[List.drop_eq_getElem_cons hlt] at q2;generalize hdd:x.1[i]=dd at q2 hdi;unfold B2 at q2
     split at q2
     · rename_i hgk;obtain⟨go,yl⟩:=(hJ i ah2 m2 H2 p2 k2 s2 hgk).2 dd hdi;refine⟨go,fun v H3 hy=>?_⟩
       obtain⟨k3,s3,r3⟩:=yl v H3 hy
       split at q2
       · exact q2.elim
       · rename_i envb hb
         have er3:EnvRel m2 H3 (u6 own.length js env) (A8 own js σ):=a5a ((er1.mono p2 k2).mono (Pre.refl m2) k3) own js
         refine⟨_,dd,m2,envb,er3,r3,hb,fun σ4 er4 l4 s4=>⟨b0P hp l4 s4,envb,ah2,m2,⟨s3,er4⟩,?_⟩⟩
         have hD3:H3 D=some (.lst ys):=k3.out D _ nD hD2
         have ab:∀{m9:List Addr} {H9:Hp},Pre m2 m9->Keep m2 m9 H3 H9->D∉m9/\H9 D=some (.lst ys):=fun{m9 H9} p9 k9=>
          ⟨fun z=>(k9.fr D z).elim nD fun y=>(by rw[hD3] at y;cases y),k9.out D _ nD hD3⟩
         cases ht:tst ct c t envb ah2 with
         |no=>rw[ht] at q2;exact q2.elim
         |ex kk ah4=>
          rw[ht] at q2;exact fun m9 H9 p9 k9 s9 x9=>q2 m9 H9 (p2.trans p9) (k2.trans (k3.trans k9)) s9 x9
         | ok bb ah4=>
          rw[ht,i6] at q2;intro m5 H5 p5 k5 s5;obtain⟨nD5,hD5⟩:=ab p5 k5;have k25:=k3.trans k5
          cases bb with
          |false=>
           rw[az (by decide)] at q2
           refine b4P ⟨x.1.length-(i+1),by omega,rfl,hlt,acc,ah4,m5,s5,p2.trans p5,k2.trans k25,nD5,hD5,rs2.mono p5 k25,?_⟩
           exact q2
          | true=>
           rw[ay rfl] at q2;refine b4O ⟨envb,ah4,m5,⟨s5,er4.mono p5 k5⟩,?_⟩
           cases hv:ev ct c e envb ah4 with
           |no=>rw[hv] at q2;exact q2.elim
           |ex kk ah6=>
            rw[hv] at q2;exact fun m9 H9 p9 k9 s9 x9=>q2 m9 H9 (p2.trans (p5.trans p9)) (k2.trans (k25.trans k9)) s9 x9
           | ok d6 ah6=>
            rw[hv,i6] at q2
            split at q2
            · rename_i hz;intro m6 H6 v6 p6 k6 s6 r6;have k36:=k5.trans k6;obtain⟨nD6,hD6⟩:=ab (p5.trans p6) k36;have rs6:=rs2.mono (p5.trans p6) (k25.trans k6)
              have im6:∀b o,Im o->H6 b=some o->upd H6 D (.lst (ys++[v6])) b=some o:=fun b o io hbo=>by
               have:b≠D:=fun z=>by rw[z,hD6] at hbo;cases hbo;exact io
               rw[d9 this];exact hbo
              refine⟨hD6,by rw[rs6.len,←K7];exact hz,x.1.length-(i+1),by omega,rfl,hlt,acc++[d6],ah6,m6,?_,p2.trans (p5.trans p6),?_,nD6,d8,(rs6.snoc r6).mono' (Pre.refl m6) (fun b o i h=>im6 b o (imt i) h),?_⟩
              · refine⟨s6.len,s6.nd,fun n a cc hn hcc=>(s6.at hn hcc).mono' (Pre.refl m6) (fun b o i h=>im6 b o (imt i) h) ?_⟩
                exact d9 fun z=>nD6 (by rw[←z];exact aI hn)
              · have kall:=k2.trans (k25.trans k6);refine⟨fun b o io hb=>im6 b o io (kall.imm b o io hb),fun b o nb hb=>?_,kall.fr⟩
                rw[d9 (n5 hb hD)];exact kall.out b o nb hb
              · exact q2
            · exact q2.elim
     · exact q2.elim
theorem a5f{t:T}(hp:(B9 p).all (fun i=>decide (i<own.length))=true):∀σ H Q,TEv Γ Ex (ev ct c (.comp p it own.length js t e)) σ H Q->a1B own js (TIv Γ Ex (evi ct c it)) (TGv Γ p) (TTv Γ E0 (tst ct c t)) (TEv Γ E0 (ev ct c e)) σ H Q:=by
 rintro σ H Q ⟨env,ah,m,rl,q⟩;rw[ev] at q;exact⟨env,ah,m,rl,q.bind.mp fun x ah1 m1 H1 p1 k1 s1 q1=>fun _ J hJ=>a0S hp (rl.env.mono p1 k1) s1 hJ (a7B (g:=fun h=>h) q1)⟩
theorem a7Z{t:T}(hp:(B9 p).all (fun i=>decide (i<own.length))=true):∀σ H Q,TEv Γ Ex (evc ct c (.comp p it own.length js t e)) σ H Q->a1B own js (TIv Γ Ex (evi ct c it)) (TGv Γ p) (TTv Γ Ex (tst ct c t)) (TEv Γ Ex (ev ct c e)) σ H Q:=by
 rintro σ H Q ⟨env,ah,m,rl,q⟩;rw[evc] at q;exact⟨env,ah,m,rl,q.bind.mp fun x ah1 m1 H1 p1 k1 s1 q1=>fun _ J hJ=>a0S hp (rl.env.mono p1 k1) s1 hJ q1⟩
theorem a5Q(h:(K0 l)[i]? =some d):∃p,l[i]? =some p/\d=.tup [p.1,p.2]:=by
 unfold K0 at h;rw[aj] at h
 obtain⟨p,h1,h2⟩:=Option.map_eq_some_iff.mp h;exact⟨p,h1,h2.symm⟩
theorem DK.get{kvs:List (Key×V)}(r:DK m H l kvs):∀{i:Nat} {p:D×D},l[i]? =some p->∃q,kvs[i]? =some q/\D9 p.1=some q.1/\Rp m H p.2 q.2:=by
 induction r with
 |nil=>intro i p h;cases i<;>cases h
 | @cons a b as bs h t ih=>
  intro i p e
  cases i with
  |zero=>cases ax e;exact⟨b,rfl,h.1,h.2⟩
  |succ i=>exact ih e
theorem DK.len{kvs:List (Key×V)}(r:DK m H l kvs):l.length=kvs.length:=Paired.length r
theorem b2b{k:Key}(h:D9 d=some k):Rp m H d (kV k):=by
 cases d<;>first|(cases h;rfl)|cases h
theorem a9U{kvs:List (Key×V)}(r0:DK m0 H0 l kvs)(h0:H0 a=some (.frz od (.dK kvs))):a4q Γ (Itd a od kvs) (K0 l) [(n,.rod l)] m0 H0:=by
 intro i ah m H p k0 S g;have hd:=k0.imm a (.frz od (.dK kvs)) trivial h0;have r:=r0.mono p k0.im;refine⟨fun hi=>⟨hd,?_⟩,fun d h=>?_⟩
 · rw[hi,K0,aa,r.len];exact ai _
 · obtain⟨x,hx,rfl⟩:=a5Q h;obtain⟨q,hq,hk,rq⟩:=r.get hx;refine⟨⟨hd,q,hq⟩,?_⟩
   rintro w H' ⟨T,q',hT,rfl,hq',rfl⟩;rw[hq] at hq';cases hq';exact⟨Keep.new hT,S.new hT,T,[kV q.1,q.2],rfl,d8,kV q.1,[q.2],rfl,b2b hk,q.2,[],rfl,rq.mono (Pre.refl m) (Keep.new hT),rfl⟩
theorem a0T{g:List (Nat×Cell)}{p:Pat}{tt:o6->AH->R Bool}{el:o6->AH->R D}{env0:o6}:∀{l acc ds:List D} {h h':AH},B2 g p tt el env0 l acc h=.ok ds h'->gOk g h'=true
 |[],acc,ds,h,h',q=>by
  unfold B2 at q
  split at q
  · rename_i hg;cases q;exact hg
  · cases q
 |x::r,acc,ds,h,h',q=>by
  unfold B2 at q
  split at q
  · split at q
    · cases q
    · rename_i env _
      cases e1:tt env h with
      |no=>rw[e1] at q;cases q
      |ex k h1=>rw[e1] at q;cases q
      |ok b h1=>
       rw[e1,i6] at q
       split at q
       · cases e2:el env h1 with
         |no=>rw[e2] at q;cases q
         |ex k h1=>rw[e2] at q;cases q
         |ok d h2=>
          rw[e2,i6] at q
          split at q
          · exact a0T q
          · cases q
       · exact a0T q
  · cases q
theorem a7m{r:R (List D)}{k:Nat}{kvs:List (Key×V)}(hm:m1[k]? =some a)(hd:H1 a=some (.dK kvs))(r1:DK m1 H1 l kvs)(h0:∀o u,H₀ a≠some (.frz o u))
 (he:∀ds h2,r=.ok ds h2->h2[k]? =some (.rod l)) (q:i9 Γ Ex m1 H1 ((noex r).bind fun ds h2=>A4 (.lst ds) (h2.set k (.dict l))) Q):
 i9 Γ E0 m1 (upd H1 a (.frz od (.dK kvs))) (r.bind fun ds h2=>A4 (.lst ds) h2) (fun v=>a6k H₀ (Q v)):=by
 cases r with
 |ex k ah=>exact q.elim
 |no=>exact q.elim
 | ok ds h2=>
  rw[i6];rw[show(noex (.ok ds h2)).bind (fun ds h2=>A4 (.lst ds) (h2.set k (.dict l)))=A4 (.lst ds) (h2.set k (.dict l)) from rfl] at q
  have e2:=he ds h2 rfl
  have kl:k<h2.length:=(ac.mp e2).1
  intro m' H' v p' k' s' rv
  have hf:H' a=some (.frz od (.dK kvs)):=k'.imm a (.frz od (.dK kvs)) trivial d8
  refine⟨a,od,kvs,hf,h0,?_⟩
  have ne:∀{b o},H1 b=some o->Im o->b≠a:=fun hb io z=>by rw[z,hd] at hb;cases hb;exact io
  have thT:KIm H' (upd H' a (.dK kvs)):=fun b o io hb=>by
   rw[d9 (fun z=>by rw[z,hf] at hb;cases hb;exact io)];exact hb
  have kp:Keep m1 m' H1 (upd H' a (.dK kvs)):=by
   refine⟨fun b o io hb=>?_,fun b o n hb=>?_,fun b hb=>?_⟩
   · have nb:=ne hb io;rw[d9 nb];exact k'.imm b o io (by rw[d9 nb];exact hb)
   · have nb:b≠a:=fun z=>n (by rw[z];exact aI hm)
     rw[d9 nb];exact k'.out b o n (by rw[d9 nb];exact hb)
   · rcases k'.fr b hb with z|z
     · exact .inl z
     · refine .inr ?_
       rw[←z,d9];rintro rfl;rw[d8] at z;cases z
  have rr:DK m' (upd H' a (.dK kvs)) l kvs:=by
   refine r1.mono p' fun b o io hb=>?_
   have nb:=ne hb (imt io);rw[d9 nb];exact k'.imm b o (imt io) (by rw[d9 nb];exact hb)
  have hm':=p'.get hm
  have len:(h2.set k (.dict l)).length=h2.length:=aU ..
  refine q m' _ v p' kp ?_ ?_
  · refine⟨by rw[s'.len,aq,aq,len],s'.nd,fun n b cc hn hc=>?_⟩
    by_cases e:n=k
    · subst e;rw[hm'] at hn;cases hn;rw[av (by rw[len];exact kl),List.getElem?_set_self kl] at hc
      cases hc;exact .inl ⟨kvs,d8,rr⟩
    · have hc':(h2++[Cell.lst ds])[n]? =some cc:=by
       by_cases hn2:n<h2.length
       · rw[av (by rw[len];exact hn2),List.getElem?_set_ne (Ne.symm e)] at hc
         rw[av hn2]
         exact hc
       · rw[au (by rw[len];omega),len] at hc
         rw[au (by omega)]
         exact hc
      have nb:b≠a:=fun z=>by
       subst z;obtain⟨g1,e1⟩:=ac.mp hn
       obtain⟨g2,e2⟩:=ac.mp hm'
       exact e ((getElem_inj s'.nd).mp (e1.trans e2.symm))
      exact(s'.at hn hc').mono' (Pre.refl m') thT (d9 nb)
  · rw[show(h2.set k (.dict l)).length=h2.length from len];exact rv.mono' (Pre.refl m') thT
theorem a3c {x:E} {t:T} (hp:(B9 p).all (fun i=>decide (i<own.length))=true):
 ∀σ H Q,TEv Γ Ex (ev ct c (.compI p x own.length js t e)) σ H Q->a1B own js (a5T X.H₀ (TEv Γ Ex (ev ct c x))) (TGv Γ p) (TTv Γ E0 (tst ct c t)) (TEv Γ E0 (ev ct c e)) σ H (fun v=>a6k X.H₀ (Q v)):=by
 rintro σ H Q ⟨env,ah,m,rl,q⟩;rw[ev] at q;refine⟨env,ah,m,rl,i9.first rl q fun d1 ah1 m1 H1 v1 p1 k1 rl1 r1 q1=>?_⟩
 cases hd:a2Z ah1 d1 with
 |none=>rw[hd] at q1;exact q1.elim
 | some kl =>
  obtain⟨k,l⟩:=kl;rw[hd] at q1;unfold a2Z at hd
  split at hd
  · rename_i n
    split at hd
    · rename_i l' e1
      split at hd
      · rename_i hk;cases hd;obtain⟨a,rfl,hm⟩:=r1
        rcases rl1.sim.at hm e1 with⟨kvs,hH,dk⟩|⟨kvs,hH,dt⟩
        · refine⟨a,kvs,rfl,hH,fun od h0=>?_⟩
          have kp:Keep m1 m1 H1 (upd H1 a (.frz od (.dK kvs))):=Keep.put hm hH fun z=>z
          have dk':=dk.mono (Pre.refl m1) kp.im
          exact a0S (x:=(K0 l,[(k,.rod l)])) hp (rl1.env.mono (Pre.refl m1) kp) (rl1.sim.write (c:=.rod l) hm hH (fun z=>z) ⟨kvs,od,d8,dk'⟩) (a9U dk' d8)
           (a7m hm hH dk h0 (fun ds h2 z=>b2k (a0T z)) q1)
        · cases dt with
          |nil=>exact absurd hk.1 (by decide)
          |cons h t=>
           obtain⟨⟨y,e2,_⟩,_⟩:=h
           have:=hk.2
           rw[all_cons,ae,e2] at this;exact absurd this.1 (by show¬(false=true);decide)
      · cases hd
    · cases hd
  · cases hd
theorem b5W{t:T}(C:Cxt X Γ G ct c Ex N sc dfn)(hi:PI X tg iter (TIv Γ Ex (evi ct c it)))(S:CompScope X.env.scope scope own frees)(hj:frees.map some=js.map (X.N[·]?))
 (hg:∀C s₀ H₀ ex,PG (E4 X own frees scope C s₀ H₀ ex) tg (TGv Γ p)) (hc:∀C s₀ H₀ ex,a4p (E4 X own frees scope C s₀ H₀ ex) ifs (TTv Γ E0 (tst ct c t))) (he:∀C s₀ H₀ ex,PE (E4 X own frees scope C s₀ H₀ ex) elt (TEv Γ E0 (ev ct c e)))
 (hs:∀x,foldedSetIterable iter X.env x=pure x) (hp:(B9 p).all (fun i=>decide (i<own.length))=true):PE X (.ListComp elt [⟨tg,iter,ifs,0⟩] scope pos) (TEv Γ Ex (ev ct c (.comp p it own.length js t e))):=by
 exact PE.imp (a1J C.calm hi S hj hg hc he hs) (a5f hp)
theorem Cxt.comp(C:Cxt X Γ G ct c Ex N sc dfn)(S:CompScope sc scope own frees)(D:Addr)(s₀:Shared)(H₀:Hp)(ex:List Addr):Cxt (E4 X own frees scope D s₀ H₀ ex) Γ G ct c E0 (own++frees) (a1H sc scope) false where
 hN:=rfl
 nd:=S.nd
 sc:=by rw[←C.sc];rfl
 calm:=C.calm
 hu:=C.hu
 K:=C.K
 fnb:=fun h=>by cases h
 scal:=C.scal
 tups:=C.tups
 dicts:=C.dicts
 blt:=C.blt
 fn:=C.fn
 obj:=C.obj
 att:=C.att
 xatt:=C.xatt
 sub:=C.sub
 pass:=fun pins σ H s e s' I h=>by
  obtain⟨_,_,_,_,_,_,_,_,_,_,_,_,_,_,hE⟩:=h;exact hE.elim
theorem Cxt.compE(C:Cxt X Γ G ct c Ex N sc dfn)(S:CompScope sc scope own frees)(D:Addr)(s₀:Shared)(H₀:Hp)(ex:List Addr):Cxt (B8 X own frees scope D s₀ H₀ ex (XEc X own frees scope Ex D s₀ H₀ ex)) Γ G ct c Ex (own++frees) (a1H sc scope) false where
 hN:=rfl
 nd:=S.nd
 sc:=by rw[←C.sc];rfl
 calm:=C.calm
 hu:=C.hu
 K:=C.K
 fnb:=fun h=>by cases h
 scal:=C.scal
 tups:=C.tups
 dicts:=C.dicts
 blt:=C.blt
 fn:=C.fn
 obj:=C.obj
 att:=C.att
 xatt:=C.xatt
 sub:=C.sub
 pass:=fun pins σ H s e s' I h=>⟨pins,σ,H,s,I.unwish,h⟩
theorem a6L:∀{l:List Str} {js:List Nat},b2f N l=some js->l.map some=js.map (N[·]?)
 |[],js,h=>by cases h;rfl
 |x::r,js,h=>by
  unfold b2f at h
  split at h
  · rename_i i is h1 h2;cases h;rw[map_cons,map_cons,P9 h1,a6L h2]
  · cases h
theorem W4(h:a6e op=some o):o.cmp=some op:=by cases op<;>cases h<;>rfl
theorem b2S{op:Operator}(h:b7S op=some o):o.bin=some op:=by cases op<;>cases h<;>rfl
theorem M7{b:Expr}(h:a0o b=true):behindInMarks op b=false:=by cases b<;>first|rfl|cases h
theorem Y6{e:Expr}{env:Env}(h:a0o e=true):∀x,foldedSetIterable e env x=pure x:=by intro x;cases e<;>first|rfl|cases h
theorem a1N{b:Expr}(h:a1t b=true):a1y b:=by intro o i;cases b<;>first|rfl|cases h
def X9(Γ:Gm)(G:GT)(ct:CT)(c:CF)(n:Nat):Prop:=∀(X:Cx) (Ex:XK) (N:List Str) (sc:Scope) (dfn:Bool),Cxt X Γ G ct c Ex N sc dfn→
 (∀e x,cE G N sc n e=some x->PE X e (TEv Γ Ex (ev ct c x)))/\(∀es xs,cEs G N sc n es=some xs->PA X es (TAv Γ Ex (evs ct c xs))/\es.all o0=true)∧
 (∀e t,cT G N sc n e=some t->PT X e (TTv Γ Ex (tst ct c t))/\∀op l p,e=.BoolOp op l p->PW X e (TTv Γ Ex (tst ct c t)))/\(∀o x,cO G N sc n o=some x->PO X o (TOv Γ Ex (evo ct c x)))∧
 ∀tg e it,cI G N sc n tg e=some it->PI X tg e (TIv Γ Ex (evi ct c it))
theorem b0I:X9 Γ G ct c 0:=fun X Ex N sc dfn C=>
 ⟨fun e x h=>absurd (show none=some x from h) (by simp),fun e x h=>absurd (show none=some x from h) (by simp),fun e x h=>absurd (show none=some x from h) (by simp),fun e x h=>absurd (show none=some x from h) (by simp),fun tg e x h=>absurd (show none=some x from h) (by simp)⟩
theorem b0F(ih:X9 Γ G ct c n)(C:Cxt X Γ G ct c Ex N sc dfn):∀es xs,cEs G N sc (n+1) es=some xs->PA X es (TAv Γ Ex (evs ct c xs))/\es.all o0=true:=by
 intro es xs h;obtain⟨i1,i2,_⟩:=ih X Ex N sc dfn C
 replace h:sEs G (cR G n) N sc es=some xs:=h
 unfold sEs at h
 split at h
 · cases h;exact⟨b8l,rfl⟩
 · split at h
   · rename_i hp
     split at h
     · rename_i x xs' h1 h2;cases h;obtain⟨g1,g2⟩:=i2 _ xs' h2;exact⟨b5V (i1 _ x h1) g1 (g9 hp),by rw[all_cons,hp,g2];rfl⟩
     · cases h
   · cases h
theorem map_some{o:Option α}{f:α->β}{b:β}(h:o.map f=some b):∃a,o=some a/\f a=b:=Option.map_eq_some_iff.mp h
theorem b2N(ih:X9 Γ G ct c n)(C:Cxt X Γ G ct c Ex N sc dfn):∀o x,cO G N sc (n+1) o=some x->PO X o (TOv Γ Ex (evo ct c x)):=by
 intro o x h;obtain⟨i1,i2,_⟩:=ih X Ex N sc dfn C
 replace h:sO G (cR G n) N sc o=some x:=h
 unfold sO at h
 split at h
 · cases h;exact b9u
 · obtain⟨y,h1,rfl⟩:=map_some h;exact b9t (i1 _ y h1)
theorem b2O(ih:X9 Γ G ct c n)(C:Cxt X Γ G ct c Ex N sc dfn):∀tg e it,cI G N sc (n+1) tg e=some it->PI X tg e (TIv Γ Ex (evi ct c it)):=by
 intro tg e it h;obtain⟨i1,i2,_⟩:=ih X Ex N sc dfn C
 have seq:∀{e:Expr} {it:I},(cE G N sc n e).map I.seq=some it->PI X tg e (TIv Γ Ex (evi ct c it)):=by
  intro e it h;obtain⟨x,h1,rfl⟩:=map_some h;exact b8h C (i1 _ _ h1)
 replace h:sI G (cR G n) N sc tg e=some it:=h
 unfold sI at h
 split at h
 · split at h
   · rename_i hc;rw[ae,ae] at hc;obtain⟨⟨hg,hb⟩,hx⟩:=hc;have hx:=aw hx;subst hx;have hm:=C.blt _ hb
     split at h
     · split at h
       · rename_i hp;obtain⟨x,h1,rfl⟩:=map_some h;exact b5M C hg hm hp (i1 _ _ h1)
       · cases h
     · cases h
   · split at h
     · rename_i hc;rw[ae,ae] at hc;obtain⟨⟨hg,hb⟩,hx⟩:=hc;have hx:=aw hx;subst hx;have hm:=C.blt _ hb
       split at h
       · split at h
         · rename_i hp;obtain⟨x,h1,rfl⟩:=map_some h;exact b5S C hg hm hp (i1 _ _ h1)
         · cases h
       · cases h
     · split at h
       · rename_i hc;rw[ae,ae] at hc;obtain⟨⟨hg,hb⟩,hx⟩:=hc;have hx:=aw hx;subst hx;have hm:=C.blt _ hb
         split at h
         · split at h
           · rename_i hp;rw[ae] at hp
             split at h
             · rename_i h1 h2;cases h;exact b8e C hg hm hp.1 hp.2 (i1 _ _ h1) (i1 _ _ h2)
             · cases h
           · cases h
         · split at h
           · rename_i hp;rw[ae] at hp
             split at h
             · rename_i h1 h2;cases h;exact b5L C hg hm hp.1 hp.2 (i1 _ _ h1) (i1 _ _ h2)
             · cases h
           · cases h
         · cases h
       · exact seq h
 · exact seq h
theorem b7m{a b:Expr}{x:E}(ih:X9 Γ G ct c n)(C:Cxt X Γ G ct c Ex N sc dfn)(h1:cE G N sc n a=some x){k:E->α}{y:α}(h:(match b with
       | .Name y _=>if D6 sc y then(match op,G.tups.lookup y with
         |.In,some ds=>some (k (.gin false x ds))
         |.NotIn,some ds=>some (k (.gin true x ds))
         |.In,none=>(G.dicts.lookup y).map fun kvs=>k (.gdin false x kvs)
         |.NotIn,none=>(G.dicts.lookup y).map fun kvs=>k (.gdin true x kvs)
         |_,_=>none) else none
       |_=>none)=some y):∃g,y=k g/\PE X (.Compare a [op] [b] pos) (TEv Γ Ex (ev ct c g))/\PT X (.Compare a [op] [b] pos) (TTv Γ Ex (tst ct c (.val g))):=by
 obtain⟨i1,i2,_⟩:=ih X Ex N sc dfn C
 split at h
 · split at h
   · rename_i hg
     split at h
     · rename_i ds hd;cases h;exact⟨_,rfl,b3n C (.inl ⟨rfl,rfl⟩) hg hd (i1 _ _ h1)⟩
     · rename_i ds hd;cases h;exact⟨_,rfl,b3n C (.inr ⟨rfl,rfl⟩) hg hd (i1 _ _ h1)⟩
     · obtain⟨kvs,hd,rfl⟩:=map_some h;exact⟨_,rfl,b0M C (.inl ⟨rfl,rfl⟩) hg hd (i1 _ _ h1)⟩
     · obtain⟨kvs,hd,rfl⟩:=map_some h;exact⟨_,rfl,b0M C (.inr ⟨rfl,rfl⟩) hg hd (i1 _ _ h1)⟩
     · cases h
   · cases h
 · cases h
theorem a6I{b:Expr}(h:b4T b=true):∃p q,b=.Constant .none p q:=by
 cases b<;>first|(cases h;done)|skip
 rename_i k p q
 cases k<;>first|(cases h;done)|exact⟨_,_,rfl⟩
theorem a9q(h:a5G op=some true):op=.Is:=by cases op<;>first|rfl|(cases h;done)
theorem a9r(h:(a5G op).isSome=true)(h':a5G op=some true->False):op=.IsNot:=by cases op<;>first|rfl|(cases h;done)|exact(h' rfl).elim
theorem b1i{b:Expr}{lo hi:Option Expr}(h:b6x b=some (lo,hi)):∃p,b=.Slice lo hi none p:=by
 cases b<;>first|(cases h;done)|skip
 rename_i a c st p
 cases st<;>first|(cases h;done)|(cases h;exact⟨_,rfl⟩)
theorem b2M (ih:X9 Γ G ct c n) (C:Cxt X Γ G ct c Ex N sc dfn):∀e t,cT G N sc (n+1) e=some t->PT X e (TTv Γ Ex (tst ct c t))/\∀op l p,e=.BoolOp op l p->PW X e (TTv Γ Ex (tst ct c t)):=by
 intro e t h;obtain⟨i1,i2,i3,_⟩:=ih X Ex N sc dfn C
 replace h:sT G (cR G n) N sc e=some t:=h
 have dflt:∀{e:Expr},sTd G (cR G n) N sc e=some t->PT X e (TTv Γ Ex (tst ct c t))/\∀op l p,e=.BoolOp op l p->PW X e (TTv Γ Ex (tst ct c t)):=by
  intro e h;unfold sTd at h
  split at h
  · rename_i hp;obtain⟨y,h1,rfl⟩:=map_some h;refine⟨b8f ?_ (i1 _ y h1),fun _ _ _ z=>?_⟩
    · intro whole
      cases e<;>first|rfl|(cases hp;done)
    · subst z;cases hp
  · cases h
 unfold sT at h
 split at h
 · split at h
   · obtain⟨y,h1,rfl⟩:=map_some h;exact⟨b8k (i3 _ y h1).1,fun _ _ _ z=>nomatch z⟩
   · exact dflt h
 · rename_i op l p
   split at h
   · exact dflt h
   · split at h
     · rename_i a _
       have g:PW X (.BoolOp op [a] p) (TTv Γ Ex (tst ct c t)):=by
        cases op
        · exact b1p (i3 _ t h).1
        · exact b3L (i3 _ t h).1
       exact⟨g.pt,fun _ _ _ _=>g⟩
     · split at h
       · split at h
         · rename_i h1 h2;cases h;have g:=b8u (i3 _ _ h1).1 ((i3 _ _ h2).2 _ _ _ rfl);exact⟨g.pt,fun _ _ _ _=>g⟩
         · cases h
       · split at h
         · rename_i h1 h2;cases h;have g:=b8j (i3 _ _ h1).1 ((i3 _ _ h2).2 _ _ _ rfl);exact⟨g.pt,fun _ _ _ _=>g⟩
         · cases h
 · split at h
   · cases h
   · split at h
     · cases h
     · split at h
       · split at h
         · unfold b6A at h
           split at h
           · rename_i hc;rw[ae] at hc;obtain⟨p,q,rfl⟩:=a6I hc.1
             split at h
             · rename_i ho
               cases a9q ho
               obtain⟨y,h1,rfl⟩:=map_some h;exact⟨b5Q (i1 _ y h1),fun _ _ _ z=>nomatch z⟩
             · rename_i ho
               cases a9r hc.2 ho
               obtain⟨y,h1,rfl⟩:=map_some h;exact⟨b2Y (i1 _ y h1),fun _ _ _ z=>nomatch z⟩
           · split at h
             · rename_i hs
               split at h
               · rename_i h0 h1 h2;cases h;exact⟨b5X C.hu C.K (W4 h0) (i1 _ _ h1) (i1 _ _ h2) (M7 hs),fun _ _ _ z=>nomatch z⟩
               · rename_i h0 h1 h2;obtain⟨gg,rfl,_,g⟩:=b7m (k:=T.val) ih C h1 h;exact⟨g,fun _ _ _ z=>nomatch z⟩
               · cases h
             · cases h
         · cases h
       · split at h
         · cases h
         · split at h
           · rename_i ht;rw[ae] at ht;obtain⟨t1,t2⟩:=ht
             cases isEmpty_iff.mp t1
             cases isEmpty_iff.mp t2
             unfold b6z at h
             split at h
             · rename_i hs
               split at h
               · rename_i h0 h0' h1 h2 h3;cases h;exact⟨b5Y C.hu C.K (W4 h0) (W4 h0') (i1 _ _ h1) (i1 _ _ h2) (i1 _ _ h3) (M7 hs),fun _ _ _ z=>nomatch z⟩
               · cases h
             · cases h
           · cases h
 · exact dflt h
end
variable{x:Str}{y:Str}{Y:Addr->Shared->Hp->List Addr->Cx}{Ey:XK}
section
variable{X:Cx}{Γ:Gm}{G:GT}{ct:CT}{c:CF}{Ex:XK}{N:List Str}{sc:Scope}{dfn:Bool}
theorem V6{e:Expr}(h:a4K e=some x):∃p,e=.Name x p:=by
 unfold a4K at h
 split at h
 · cases h;exact⟨_,rfl⟩
 · cases h
theorem b6f {p:Pos} {t:Ty} (C:Cxt X Γ G ct c Ex N sc dfn) (h:cTy G sc y=some t):∃T,PE X (.Name y p) (tC T)/\(∀n,t=.b n->T=.ty n)/\∀j,t=.c j->T=.ref (Γ.cA j)/\∀k,k∈Γ.xs->PySem.W.kitOne X.K (.ref (Γ.cA k)) (.ref (Γ.cA j))=some (ct.sub k j):=by
 unfold cTy at h
 split at h
 · rename_i hg;obtain⟨_,hd,hn⟩:=G4 hg
   split at h
   · rename_i k hk;cases h;obtain⟨s1,s2⟩:=C.sub y k hk;exact⟨.ref (Γ.cA k),V3 (C.gl hg) s1 rfl hd,fun n z=>(by cases z),fun j z=>(by cases z;exact⟨rfl,s2⟩)⟩
   · split at h
     · rename_i hb;have hm:=C.blt _ hb
       have go:∀{n:String} {u:Value},bootBuiltins y=some (.type n)->t=.b n->∃T,PE X (.Name y p) (tC T)/\(∀n,t=.b n->T=.ty n)/\∀j,t=.c j->T=.ref (Γ.cA j)/\∀k,k∈Γ.xs->PySem.W.kitOne X.K (.ref (Γ.cA k)) (.ref (Γ.cA j))=some (ct.sub k j):=by
        intro n u hv ht;subst ht;exact⟨.ty n,b1G (C.gl hg) hm hv rfl hn hd,fun m z=>(by cases z;rfl),fun j z=>(by cases z)⟩
       repeat' split at h
       all_goals (first|(cases h;done)|(cases h;rename_i e;subst e))
       · exact go (u:=.none) PyProof.Rows.boot_str rfl
       · exact go (u:=.none) PyProof.Rows.boot_list rfl
       · exact go (u:=.none) (by decide+kernel) rfl
     · cases h
 · cases h
structure CB(X:Cx)(Y:Addr->Shared->Hp->List Addr->Cx)(Ey:XK)(Γ:Gm)(ct:CT)(c:CF)(elt tg iter:Expr)(ifs:List Expr)(scope:Scope)(js:List Nat)(p:Pat)(t:T)(y:E):Prop where
 j2:CompScope X.env.scope scope (v0 8 tg) (C5 scope)
 j3:(C5 scope).map some=js.map (X.N[·]?)
 j4:∀D s₀ H₀ ex,PG (Y D s₀ H₀ ex) tg (TGv Γ p)
 j5:∀D s₀ H₀ ex,a4p (Y D s₀ H₀ ex) ifs (TTv Γ Ey (tst ct c t))
 j6:∀D s₀ H₀ ex,PE (Y D s₀ H₀ ex) elt (TEv Γ Ey (ev ct c y))
 j7:∀v,foldedSetIterable iter X.env v=pure v
 j8:(B9 p).all (fun i=>decide (i<(v0 8 tg).length))=true
theorem a7Y{q:List Nat×Pat×T×E}(ih:X9 Γ G ct c n)(C:Cxt X Γ G ct c Ex N sc dfn)(CY:CompScope sc scope (v0 8 tg) (C5 scope)->∀D s₀ H₀ ex,Cxt (Y D s₀ H₀ ex) Γ G ct c Ey (v0 8 tg++C5 scope) (a1H sc scope) false)(h:b3E (cR G n) N sc elt tg iter ifs scope=some q):CB X Y Ey Γ ct c elt tg iter ifs scope q.1 q.2.1 q.2.2.1 q.2.2.2:=by
 unfold b3E at h
 split at h
 · rename_i js hjs
   split at h
   · rename_i hc;rw[ae] at hc
     have S0:CompScope sc scope (v0 8 tg) (C5 scope):=b7L hc.1
     have S:CompScope X.env.scope scope (v0 8 tg) (C5 scope):=by rw[C.sc];exact S0
     have hj:(C5 scope).map some=js.map (X.N[·]?):=by rw[C.hN];exact a6L hjs
     split at h
     · rename_i p y hp hy
       split at h
       · rename_i hall
         have pg:∀D s₀ H₀ ex,PG (Y D s₀ H₀ ex) tg (TGv Γ p):=fun D s₀ H₀ ex=>((b0L (CY S0 D s₀ H₀ ex) 8).1 tg p hp).1
         have pe:∀D s₀ H₀ ex,PE (Y D s₀ H₀ ex) elt (TEv Γ Ey (ev ct c y)):=fun D s₀ H₀ ex=>(ih _ _ _ _ _ (CY S0 D s₀ H₀ ex)).1 elt y hy
         split at h
         · cases h;refine⟨S,hj,pg,fun D s₀ H₀ ex=>?_,pe,Y6 hc.2,hall⟩
           intro pins s σ H Q I q;refine b3U pins s σ H Q I ?_
           obtain⟨env,ah,m,rl,q⟩:=q;rw[tst] at q;exact q.ok rl.sim
         · obtain⟨z,h1,rfl⟩:=map_some h;exact⟨S,hj,pg,fun D s₀ H₀ ex=>b1x ((ih _ _ _ _ _ (CY S0 D s₀ H₀ ex)).2.2.1 _ z h1).1,pe,Y6 hc.2,hall⟩
         · cases h
       · cases h
     · cases h
   · cases h
 · cases h
theorem a9S{o:Expr}(h:a3T tg iter=some o):∃es k tp ap cp,tg=.Tuple es k tp/\iter=.Call (.Attribute o "items" ap) [] [] cp/\Y4 o=true/\(ap.endLine==cp.line)=true:=by
 unfold a3T at h
 split at h
 · split at h
   · rename_i hc;rw[ae,ae] at hc
     split at h
     · cases h
       have:=aw hc.1.1
       subst this;exact⟨_,_,_,_,_,rfl,rfl,hc.1.2,hc.2⟩
     · cases h
   · cases h
 · cases h
theorem U6{x:E}(ih:X9 Γ G ct c n)(C:Cxt X Γ G ct c Ex N sc dfn)(CY:CompScope sc scope (v0 8 tg) (C5 scope)->∀D s₀ H₀ ex,Cxt (Y D s₀ H₀ ex) Γ G ct c Ey (v0 8 tg++C5 scope) (a1H sc scope) false)(h:sLc G (cR G n) N sc elt tg iter ifs scope=some x):
 ∃js p t y,CB X Y Ey Γ ct c elt tg iter ifs scope js p t y/\((∃it,x=.comp p it (v0 8 tg).length js t y/\PI X tg iter (TIv Γ Ex (evi ct c it)))∨∃z,x=.compI p z (v0 8 tg).length js t y/\PI X tg iter (a5T X.H₀ (TEv Γ Ex (ev ct c z)))):=by
 obtain⟨i1,i2,i3,i4,i5⟩:=ih X Ex N sc dfn C;unfold sLc at h
 split at h
 · rename_i q hq;refine⟨_,_,_,_,a7Y ih C CY hq,?_⟩
   split at h
   · rename_i o ho;obtain⟨z,h1,rfl⟩:=map_some h;obtain⟨es,k,tp,ap,cp,rfl,rfl,hb,hl⟩:=a9S ho;exact .inr ⟨z,rfl,a8Y (i1 _ z h1) (a0b hb) hl⟩
   · obtain⟨it,h1,rfl⟩:=map_some h;exact .inl ⟨it,rfl,i5 _ _ _ h1⟩
 · cases h
theorem b2P (ih:X9 Γ G ct c n) (C:Cxt X Γ G ct c Ex N sc dfn):∀e x,cE G N sc (n+1) e=some x->PE X e (TEv Γ Ex (ev ct c x)):=by
 intro e x h;obtain⟨i1,i2,i3,i4,i5⟩:=ih X Ex N sc dfn C
 replace h:sE G (cR G n) N sc e=some x:=h
 unfold sE at h
 split at h
 · unfold b6C at h
   split at h
   · cases h;exact a_k (dd:=.int _) a9f (fun _ _=>rfl) c ct
   · cases h;exact a_k (dd:=.str _) a9c (fun _ _=>rfl) c ct
   · cases h;exact a_k (dd:=.bl _) b6O (fun _ _=>rfl) c ct
   · cases h;exact a_k (dd:=.non) b4c (fun _ _=>rfl) c ct
   · cases h
 · -- Name
   split at h
   · rename_i i hs;cases h;unfold slot at hs
     split at hs
     · rename_i hv;rw[ae,ae] at hv;exact a_v (by rw[C.hN];exact P9 hs) (C.vis hv.1.1) (beq_eq_false_iff_ne.mpr (aw hv.1.2)) (beq_eq_false_iff_ne.mpr (aw hv.2)) c ct
     · cases hs
   · split at h
     · rename_i hg;obtain⟨d,h1,rfl⟩:=map_some h;obtain⟨u,v,s1,s2,s3⟩:=C.scal _ d h1;exact a_k (V3 (C.gl hg) s1 s2 (G4 hg).2.1) s3 c ct
     · cases h
 · split at h
   · rename_i h0 h1 h2;cases h;exact b8s (b2S h0) (i1 _ _ h1) (i1 _ _ h2)
   · cases h
 · unfold sUn at h
   split at h
   · obtain⟨y,h1,rfl⟩:=map_some h;exact b8m (i1 _ y h1)
   · obtain⟨y,h1,rfl⟩:=map_some h;exact b9v (i1 _ y h1)
   · cases h
 · unfold sBo at h
   split at h
   · cases h
   · split at h
     · exact b4a (i1 _ x h)
     · split at h
       · split at h
         · rename_i h1 h2;cases h;exact b9A (i1 _ _ h1) (i1 _ _ h2)
         · cases h
       · split at h
         · rename_i h1 h2;cases h;exact b8i (i1 _ _ h1) (i1 _ _ h2)
         · cases h
 · split at h
   · cases h
   · split at h
     · cases h
     · split at h
       · split at h
         · unfold b6E at h
           split at h
           · rename_i hc;rw[ae] at hc;obtain⟨p,q,rfl⟩:=a6I hc.1
             split at h
             · rename_i ho
               cases a9q ho
               obtain⟨y,h1,rfl⟩:=map_some h;exact b8o (i1 _ y h1)
             · rename_i ho
               cases a9r hc.2 ho
               obtain⟨y,h1,rfl⟩:=map_some h;exact b5N (i1 _ y h1)
           · split at h
             · rename_i hs
               split at h
               · rename_i h0 h1 h2;cases h;exact b8q C.hu C.K (W4 h0) (i1 _ _ h1) (i1 _ _ h2) (M7 hs)
               · rename_i h0 h1 h2;obtain⟨gg,rfl,g,_⟩:=b7m (k:=fun g=>g) ih C h1 h
                 exact g
               · cases h
             · cases h
         · cases h
       · split at h
         · cases h
         · split at h
           · rename_i ht;rw[ae] at ht;obtain⟨t1,t2⟩:=ht
             cases isEmpty_iff.mp t1
             cases isEmpty_iff.mp t2
             unfold b6D at h
             split at h
             · rename_i hs
               split at h
               · rename_i h0 h0' h1 h2 h3;cases h;exact b8r C.hu C.K (W4 h0) (W4 h0') (i1 _ _ h1) (i1 _ _ h2) (i1 _ _ h3) (M7 hs)
               · cases h
             · cases h
           · cases h
 · unfold sSl at h
   split at h
   · rename_i hs0;obtain⟨q,rfl⟩:=b1i hs0
     split at h
     · rename_i h1 h2 h3;cases h;exact b9s C.K (i1 _ _ h1) (i4 _ _ h2) (i4 _ _ h3)
     · cases h
   · split at h
     · rename_i hs
       split at h
       · rename_i h1 h2;cases h;exact b9y C.hu C.K (i1 _ _ h1) (i1 _ _ h2) (a1N hs)
       · rename_i h1 h2
         split at h
         · split at h
           · rename_i hg;obtain⟨kvs,hd,rfl⟩:=map_some h;exact b5R C hg hd (i1 _ _ h2) (a1N hs)
           · cases h
         · cases h
       · cases h
     · cases h
 · split at h
   · rename_i hb;rw[ae] at hb;obtain⟨y,h1,rfl⟩:=map_some h;exact b8p C hb.1 hb.2 (i1 _ y h1)
   · cases h
 · obtain⟨y,h1,rfl⟩:=map_some h;exact b8n (i2 _ y h1).1
 · obtain⟨y,h1,rfl⟩:=map_some h;exact b8g (i2 _ y h1).1
 · split at h
   · split at h
     · cases h;exact b5T
     · cases h
   · obtain⟨kvs,h1,h⟩:=Option.bind_eq_some_iff.mp h
     split at h
     · rename_i hk;cases h;exact b5U (cons_ne_nil _ _) h1 hk
     · cases h
 · rename_i f as ks cpos
   split at h
   · rename_i hk0
     cases isEmpty_iff.mp hk0
     split at h
     · rename_i nm np0;unfold sCn at h
       split at h
       · rename_i hg
         split at h
         · rename_i f np hf
           split at h
           · rename_i hl;obtain⟨y,h1,rfl⟩:=map_some h;obtain⟨g1,g2⟩:=i2 _ y h1;rw[ae] at hl;have hne:=aw hl.2
             cases as with
             |nil=>exact absurd rfl hne
             |cons a r=>exact b5Z C hf hg g2 g1
           · cases h
         · split at h
           · rename_i k hk
             split at h
             · rename_i he;cases h;subst he;exact b9x C hk hg
             · cases h
           · split at h
             · rename_i hb;have hm:=C.blt _ hb
               split at h
               · rename_i hx;subst hx
                 split at h
                 · split at h
                   · rename_i hp
                     split at h
                     · rename_i h1 h2;cases h;obtain⟨T,t1,t2,t3⟩:=b6f C h2;exact b5P C hg hm hp rfl (i1 _ _ h1) t1 t2 t3
                     · cases h
                   · cases h
                 · split at h
                   · rename_i hp
                     split at h
                     · rename_i h1 h2
                       split at h
                       · rename_i hl;cases h;exact b5O C hg hm hp (i1 _ _ h1) h2 hl
                       · cases h
                     · cases h
                   · cases h
                 · cases h
               · split at h
                 · rename_i b hbi
                   split at h
                   · rename_i hne;obtain⟨y,h1,rfl⟩:=map_some h;obtain⟨g1,g2⟩:=i2 _ y h1
                     cases as with
                     |nil=>exact absurd rfl hne
                     |cons a r=>exact b9z C hbi hg hm g2 g1
                   · cases h
                 · cases h
             · cases h
       · cases h
     · rename_i o mm apos;unfold sCa at h
       split at h
       · rename_i hc;rw[ae,ae,ae] at hc;obtain⟨⟨⟨c1,c2⟩,c3⟩,c4⟩:=hc;have c3:=aw c3;have c4:=aw c4
         split at h
         · rename_i h0 h1 h2;cases h;obtain⟨g1,g2⟩:=i2 _ _ h2
           cases as with
           |nil=>exact absurd rfl c4
           |cons a r=>exact b9w C h0 c1 c2 c3 g2 (i1 _ _ h1) g1
         · cases h
       · cases h
     · cases h
   · cases h
 · split at h
   · cases h
   · rename_i g t
     split at h
     · rename_i hg0;rw[ae] at hg0;obtain⟨tg,iter,ifs,a⟩:=g
       cases isEmpty_iff.mp hg0.1
       have ha:a=0:=aw hg0.2
       subst ha;obtain⟨js,p,t,y,B,⟨it,rfl,j1⟩|⟨z,rfl,j1⟩⟩:=U6 ih C (fun S=>C.comp S) h
       · exact b5W C j1 B.j2 B.j3 B.j4 B.j5 B.j6 B.j7 B.j8
       · exact PE.imp (b1D (a1J C.calm j1 B.j2 B.j3 B.j4 B.j5 B.j6 B.j7)) (a3c B.j8)
     · cases h
 · cases h
theorem S3:∀n,X9 Γ G ct c n
 |0=>b0I
 |n+1=>fun X Ex N sc dfn C=>⟨b2P (S3 n) C,b0F (S3 n) C,b2M (S3 n) C,b2N (S3 n) C,b2O (S3 n) C⟩
end
def SQ(D:Ends):Out->AH->List Addr->Hp->Prop:=fun o _ m1 H1=>match o with
 |.nx env'=>∀σ',EnvRel m1 H1 env' σ'->D.nx σ' H1
 |.rt d=>∀v,Rp m1 H1 d v->D.rt v H1
noncomputable def TSv(Γ:Gm)(E:XK)(f:o6->AH->R Out):TS:=fun D σ H=>∃env ah m,Rel Γ env ah σ H m/\i8 Γ E m H (f env ah) (SQ D)
variable{cpos:Pos}{st:Stmt}{tt:Expr}{j:Nat}{v:V}{u:Str}{x0:Str}{f:Nat}{np:Nat}{apos:Pos}
section
variable{X:Cx}{Γ:Gm}{G:GT}{ct:CT}{c:CF}{Ex:XK}{N:List Str}{sc:Scope}{e a b:Expr}{p':Pos}{x y z:E}
theorem a0e{e:Expr}{t:Option Expr}{l:Nat}{env:Env}(h:P5 e=true):swapsWith e t l env=pure false:=by cases e<;>first|rfl|cases h
theorem b7Y{n:Str}(C:Cxt X Γ G ct c Ex N sc true)(hs:a0W true N sc n=some i)(hw:P5 e=true)(he:PE X e (TEv Γ Ex (ev ct c x))):PS X (.Assign [.Name n p'] e pos) (TSv Γ Ex (ex ct c (.set i x))):=by
 obtain⟨h1,h2,h3⟩:=a0g C hs;refine PS.imp (a3F (by rw[C.hN];exact C.nd) h1 h2 he (a0e hw) h3) ?_
 rintro D σ H ⟨env,ah,m,rl,q⟩;rw[ex] at q;refine⟨env,ah,m,rl,i8.first rl q fun d1 ah1 m1 H1 v1 p1 k1 rl1 r1 q1=>?_⟩
 exact q1.ok rl1.sim _ (rl1.env.set r1)
theorem b5E{n:Str}{k:Nat}(C:Cxt X Γ G ct c Ex N sc true)(hs:a0W true N sc n=some i)(h:cE G N sc (k+1) (.ListComp elt [⟨tg,iter,ifs,0⟩] scope cpos)=some x):PS X (.Assign [.Name n p'] (.ListComp elt [⟨tg,iter,ifs,0⟩] scope cpos) pos) (TSv Γ Ex (ex ct c (.set i x))):=by
 obtain⟨h1,h2,h3⟩:=a0g C hs;obtain⟨js,p,t,y,B,⟨it,rfl,j1⟩|⟨z,rfl,j1⟩⟩:=U6 (S3 k) C (fun S=>C.comp S) (show sLc G (cR G k) N sc elt tg iter ifs scope=some x from h)
 · refine PS.imp (a6r C.calm j1 B.j2 B.j3 B.j4 B.j5 B.j6 B.j7 (by rw[C.hN];exact C.nd) h1 h2 h3) ?_
   rintro D σ H ⟨env,ah,m,rl,q⟩;rw[ex] at q;refine a5f B.j8 σ H _ ⟨env,ah,m,rl,i8.first rl q fun d1 ah1 m1 H1 v1 p1 k1 rl1 r1 q1=>?_⟩
   exact q1.ok rl1.sim _ (rl1.env.set r1)
 · refine PS.imp (b1s (a6r C.calm j1 B.j2 B.j3 B.j4 B.j5 B.j6 B.j7 (by rw[C.hN];exact C.nd) h1 h2 h3)) ?_
   rintro D σ H ⟨env,ah,m,rl,q⟩;rw[ex] at q;refine a3c B.j8 σ H (fun v H'=>D.nx (σ.set i (some v)) H') ⟨env,ah,m,rl,i8.first rl q fun d1 ah1 m1 H1 v1 p1 k1 rl1 r1 q1=>?_⟩
   exact q1.ok rl1.sim _ (rl1.env.set r1)
theorem b5F{n:Str}{k:Nat}(C:Cxt X Γ G ct c Ex N sc true)(hst:X.stack=X.env::X.outer)(hfr:X.env.frame=some X.env.locals)(pl:a5p X Ex)(hs:a0W true N sc n=some i)(h:cE G N sc (k+1) (.ListComp elt [⟨tg,iter,ifs,0⟩] scope cpos)=some x):PS X (.Assign [.Name n p'] (.ListComp elt [⟨tg,iter,ifs,0⟩] scope cpos) pos) (TSv Γ Ex (ex ct c (.setc i x))):=by
 obtain⟨h1,h2,h3⟩:=a0g C hs;obtain⟨js,p,t,y,B,⟨it,rfl,j1⟩|⟨z,rfl,j1⟩⟩:=U6 (S3 k) C (fun S=>C.compE S) (show sLc G (cR G k) N sc elt tg iter ifs scope=some x from h)
 · refine PS.imp (a8S hst ⟨_,hfr⟩ pl C.calm j1 B.j2 B.j3 B.j4 B.j5 B.j6 B.j7 (by rw[C.hN];exact C.nd) h1 h2 h3) ?_
   rintro D σ H ⟨env,ah,m,rl,q⟩;rw[ex] at q;refine a7Z B.j8 σ H _ ⟨env,ah,m,rl,i8.first rl q fun d1 ah1 m1 H1 v1 p1 k1 rl1 r1 q1=>?_⟩
   exact q1.ok rl1.sim _ (rl1.env.set r1)
 · rintro pins s σ H D I ⟨env,ah,m,rl,q⟩;rw[ex] at q;exact False.elim q
theorem b9q(hw:P5 e=true)(he:PE X e (TEv Γ Ex (ev ct c x))):PS X (.Expr e pos) (TSv Γ Ex (ex ct c (.ex x))):=by
 refine PS.imp (b1t he (a0e hw)) ?_
 rintro D σ H ⟨env,ah,m,rl,q⟩;rw[ex] at q;refine⟨env,ah,m,rl,i8.first rl q fun d1 ah1 m1 H1 v1 p1 k1 rl1 r1 q1=>?_⟩
 exact q1.ok rl1.sim _ rl1.env
theorem b7Z(he:PE X e (TEv Γ Ex (ev ct c x))):PS X (.Return (some e) pos) (TSv Γ Ex (ex ct c (.ret x))):=by
 refine PS.imp (b3Q he) ?_
 rintro D σ H ⟨env,ah,m,rl,q⟩;rw[ex] at q;refine⟨env,ah,m,rl,i8.first rl q fun d1 ah1 m1 H1 v1 p1 k1 rl1 r1 q1=>?_⟩
 exact q1.ok rl1.sim _ r1
theorem b3m:PS X st (TSv Γ Ex (ex ct c .bad)):=by
 rintro pins s σ H D I ⟨env,ah,m,rl,q⟩;rw[ex] at q;exact q.elim
variable{t:T}{as bs:List Stmt}{sa sb:Ss}
theorem b8b:PSs X [] (TSv Γ Ex (exs ct c .nil)):=by
 refine PSs.imp b1r ?_
 rintro D σ H ⟨env,ah,m,rl,q⟩;rw[exs] at q;exact q.ok rl.sim σ rl.env
theorem b5H{s:S}(h1:PS X st (TSv Γ Ex (ex ct c s)))(h2:PSs X as (TSv Γ Ex (exs ct c sa))):PSs X (st::as) (TSv Γ Ex (exs ct c (.cons s sa))):=by
 refine PSs.imp (a8P h1 h2) ?_
 rintro D σ H ⟨env,ah,m,rl,q⟩;rw[exs] at q;refine⟨env,ah,m,rl,q.bind.mp fun o ah1 m1 H1 p1 k1 s1 q1=>?_⟩
 cases o with
 |nx env'=>exact fun σ' er=>⟨env',ah1,m1,⟨s1,er⟩,q1⟩
 |rt d=>exact q1.ok s1
theorem b9p(hc:PT X tt (TTv Γ Ex (tst ct c t)))(ha:PSs X as (TSv Γ Ex (exs ct c sa)))(hb:PSs X bs (TSv Γ Ex (exs ct c sb))):PS X (.If tt as bs pos) (TSv Γ Ex (ex ct c (.iff t sa sb))):=by
 refine PS.imp (b6K hc ha hb) ?_
 rintro D σ H ⟨env,ah,m,rl,q⟩;rw[ex] at q;refine⟨env,ah,m,rl,q.bind.mp fun k ah1 m1 H1 p1 k1 s1 q1=>?_⟩
 cases k with
 |true=>exact b4O ⟨env,ah1,m1,rl.on p1 k1 s1,q1⟩
 |false=>exact b4P ⟨env,ah1,m1,rl.on p1 k1 s1,q1⟩
theorem b8c{it:Expr}{ii:I}(C:Cxt X Γ G ct c Ex N sc true)(own:PassesOwn (model X.prog X.w) X.A X.env X.xe)(hi:PI X tg it (TIv Γ Ex (evi ct c ii)))(hg:PG X tg (TGv Γ p))(hb:PSs X bs (TSv Γ Ex (exs ct c sb)))(hs:a0o it=true):
 PS X (.For tg it bs [] pos) (TSv Γ Ex (ex ct c (.for p ii sb))):=by
 refine PS.imp (b3R own C.calm hi hg hb (Y6 hs)) ?_
 rintro D σ H ⟨env,ah,m,rl,q⟩;rw[ex] at q;refine⟨env,ah,m,rl,q.bind.mp fun x ah1 m1 H1 p1 k1 s1 q1=>fun _ J hJ=>?_⟩
 refine⟨fun i mm σ H2=>mm=x.1.length-i/\i<=x.1.length/\∃env ah2 m2,Rel Γ env ah2 σ H2 m2/\Pre m1 m2/\Keep m1 m2 H1 H2/\i8 Γ Ex m2 H2 (M5 x.2 p (exs ct c sb) (x.1.drop i) env ah2) (SQ D),?_,?_⟩
 · exact⟨_,rfl,Nat.zero_le _,env,ah1,m1,rl.on p1 k1 s1,Pre.refl _,Keep.refl _ _,q1⟩
 · rintro i mm σ H2 ⟨hmm,hil,env,ah2,m2,rl2,p2,k2,q2⟩
   by_cases hend:i=x.1.length
   · refine .inl ?_
     rw[hend,drop_length] at q2;unfold M5 at q2
     split at q2
     · rename_i hgk;exact⟨(hJ i ah2 m2 H2 p2 k2 rl2.sim hgk).1 hend,q2.ok rl2.sim σ rl2.env⟩
     · exact q2.elim
   · refine .inr ?_
     have hlt:i<x.1.length:=Nat.lt_of_le_of_ne hil hend
     have hdi:x.1[i]? =some x.1[i]:=af hlt
     rw[List.drop_eq_getElem_cons hlt] at q2;generalize x.1[i]=dd at q2 hdi;unfold M5 at q2
     split at q2
     · rename_i hgk;obtain⟨go,yl⟩:=(hJ i ah2 m2 H2 p2 k2 rl2.sim hgk).2 dd hdi;refine⟨go,fun σ' H'=>∃m',m'<mm/\(m'=x.1.length-(i+1)/\i+1<=x.1.length/\∃env ah2 m2,Rel Γ env ah2 σ' H' m2/\Pre m1 m2/\Keep m1 m2 H1 H'/\i8 Γ Ex m2 H' (M5 x.2 p (exs ct c sb) (x.1.drop (i+1)) env ah2) (SQ D)),fun σ' H' h=>h,fun v H3 hy=>?_⟩
       obtain⟨k3,s3,r3⟩:=yl v H3 hy
       split at q2
       · exact q2.elim
       · rename_i envb hb;refine⟨env,dd,m2,envb,rl2.env.mono (Pre.refl m2) k3,r3,hb,fun σ4 er4 l4 s4=>⟨envb,ah2,m2,⟨s3,er4⟩,?_⟩⟩
         refine(q2.later (Pre.refl m2) k3).bind.mp fun o ah5 m5 H5 p5 k5 s5 q5=>?_
         cases o with
         |nx env'=>exact fun σ' er'=>⟨_,by omega,rfl,hlt,env',ah5,m5,⟨s5,er'⟩,p2.trans p5,k2.trans (k3.trans k5),q5⟩
         |rt d=>exact q5.ok s5
     · exact q2.elim
theorem b7U(own:PassesOwn (model X.prog X.w) X.A X.env X.xe)(hc:PT X tt (TTv Γ Ex (tst ct c t)))(hb:PSs X bs (TSv Γ Ex (exs ct c sb))):PS X (.While tt bs [] pos) (TSv Γ Ex (ex ct c (.whl t sb))):=by
 refine PS.imp (a8Q own hc hb) ?_
 rintro D σ H ⟨env,ah,m,rl,q⟩;rw[ex] at q;refine⟨fun n σ H2=>∃env ah2 m2,Rel Γ env ah2 σ H2 m2/\i8 Γ Ex m2 H2 (a1g (tst ct c t) (exs ct c sb) n env ah2) (SQ D),⟨_,env,ah,m,rl,q⟩,?_⟩
 rintro n σ H2 ⟨env,ah2,m2,rl2,q2⟩
 cases n with
 |zero=>exact q2.elim
 | succ n=>
  unfold a1g at q2;refine⟨env,ah2,m2,rl2,q2.bind.mp fun k ah3 m3 H3 p3 k3 s3 q3=>?_⟩
  have rl3:=rl2.on p3 k3 s3
  cases k with
  |false=>exact b4P (i8.ok q3 s3 σ rl3.env)
  |true=>
   refine b4O ⟨fun σ' H'=>∃m',m'<n+1/\∃env ah2 m2,Rel Γ env ah2 σ' H' m2/\i8 Γ Ex m2 H' (a1g (tst ct c t) (exs ct c sb) m' env ah2) (SQ D),fun σ' H' h=>h,env,ah3,m3,rl3,?_⟩
   refine i8.mp (i8.bind q3) fun o ah5 m5 H5 p5 k5 s5 q5=>?_
   cases o with
   |nx env'=>exact fun σ' er'=>⟨n,ba n,env',ah5,m5,⟨s5,er'⟩,q5⟩
   |rt d=>exact q5.ok s5
theorem b8a{pt:Pat}(hg:PG X tg (TGv Γ pt))(hv:PE X e (TEv Γ Ex (ev ct c z)))(hs:b3e e=true)(ht:(assignEach [tg] X.env).map (·.2)=[assign tg X.env])(hw:swappedStores [tg] e X.env=pure none):PS X (.Assign [tg] e pos) (TSv Γ Ex (ex ct c (.pat pt z))):=by
 refine PS.imp (a8T hv hg (show swapsWith e (some tg) pos.line X.env=pure false from a0e (by cases e<;>first|rfl|cases hs)) hw ht) ?_
 rintro D σ H ⟨env,ah,m,rl,q⟩;rw[ex] at q;refine⟨env,ah,m,rl,i8.first rl q fun d1 ah1 m1 H1 v1 p1 k1 rl1 r1 q1=>?_⟩
 split at q1
 · rename_i env' hb;exact⟨env,d1,m1,env',rl1.env,r1,hb,fun σ' er _ _=>q1.ok rl1.sim σ' er⟩
 · exact q1.elim
theorem b7W{o k:Expr}(C:Cxt X Γ G ct c Ex N sc true)(ho:PE X o (TEv Γ Ex (ev ct c x)))(hk:PE X k (TEv Γ Ex (ev ct c y)))(hv:PE X e (TEv Γ Ex (ev ct c z)))(hw:P5 e=true)(hns:a1t k=true):PS X (.Assign [.Subscript o k p'] e pos) (TSv Γ Ex (ex ct c (.six x y z))):=by
 have hg:PG X (.Subscript o k p') (b7p (TEv Γ Ex (ev ct c x)) (TEv Γ Ex (ev ct c y)) _):=b3Z ho hk (b8K (Γ:=Γ) (E:=Ex) C.hu) (by intro v;cases k<;>first|rfl|cases hns)
 refine PS.imp (a8T hv hg (show swapsWith e (some (.Subscript o k p')) pos.line X.env=pure false from a0e hw) (by cases e<;>rfl) rfl) ?_
 rintro D σ H ⟨env,ah,m,rl,q⟩;rw[ex] at q;refine⟨env,ah,m,rl,i8.first rl q fun d1 ah1 m1 H1 v1 p1 k1 rl1 r1 q1=>?_⟩
 refine⟨env,ah1,m1,rl1,i8.first rl1 q1 fun d2 ah2 m2 H2 v2 p2 k2 rl2 r2 q2=>?_⟩
 refine⟨env,ah2,m2,rl2,i8.first rl2 q2 fun d3 ah3 m3 H3 v3 p3 k3 rl3 r3 q3=>?_⟩
 refine⟨d2,d3,d1,ah3,m3,rl3.sim,r2.mono p3 k3,r3,r1.mono (p2.trans p3) (k2.trans k3),q3.bind.mp fun _ ah4 m4 H4 p4 k4 s4 q4=>?_⟩
 exact q4.ok s4 σ (rl3.env.mono p4 k4)
theorem b7X{o:Expr}{f:Str}(C:Cxt X Γ G ct c Ex N sc true)(ho:PE X o (TEv Γ Ex (ev ct c x)))(hv:PE X e (TEv Γ Ex (ev ct c z)))(hw:P5 e=true)(hf:G.atts.contains f=true):PS X (.Assign [.Attribute o f p'] e pos) (TSv Γ Ex (ex ct c (.sfl x f z))):=by
 refine PS.imp (b3S ho hv (a0e hw)) ?_
 rintro D σ H ⟨env,ah,m,rl,q⟩;rw[ex] at q;refine⟨env,ah,m,rl,i8.first rl q fun d1 ah1 m1 H1 v1 p1 k1 rl1 r1 q1=>?_⟩
 refine⟨env,ah1,m1,rl1,i8.first rl1 q1 fun d2 ah2 m2 H2 v2 p2 k2 rl2 r2 q2=>?_⟩
 unfold a3v at q2
 split at q2
 · split at q2
   · rename_i k fs e2
     split at q2
     · rename_i hl;obtain⟨ad,rfl,hm⟩:=r2;obtain⟨dx,gs,g1,g2,g3⟩:=rl2.sim.at hm e2;obtain⟨a1,a2⟩:=C.att k g3
       have kp:Keep m2 m2 H2 (upd H2 ad (.ins (Γ.cA k) dx (O9 f v1 gs))):=Keep.put hm g1 fun z=>z
       refine⟨ad,Γ.cA k,dx,gs,rfl,g1,a1,a2 f hf,by rw[←Paired.length g2];exact hl,?_⟩
       have s3:=rl2.sim.write (c:=.obj k (a2J f d1 fs)) hm g1 (fun z=>z) ⟨dx,_,d8,(Fl.put (r1.mono p2 k2) g2).mono (Pre.refl m2) kp.im,g3⟩
       exact i8.ok (i8.later q2 (Pre.refl m2) kp) s3 σ (rl2.env.mono (Pre.refl m2) kp)
     · exact q2.elim
   · exact q2.elim
 · exact q2.elim
theorem b2B{i:Nat}{y:V}(h:EnvRel m H env σ)(r:Rp m H d v):EnvRel m H ((env.set j (some d)).set i none) (((σ.set i (some y)).set j (some v)).set i none):=by
 refine⟨by simp[h.len],fun k d' e=>?_⟩
 by_cases hi:k=i
 · subst hi
   by_cases hl:k<env.length
   · rw[List.getElem?_set_self (by simpa using hl)] at e;cases e
   · rw[bg (by simp;omega)] at e;cases e
 · rw[List.getElem?_set_ne (Ne.symm hi)] at e⊢
   by_cases hj:k=j
   · subst hj
     by_cases hl:k<env.length
     · rw[List.getElem?_set_self hl] at e
       cases e;exact⟨v,List.getElem?_set_self (by simp;rw[←h.len];exact hl),r⟩
     · rw[bg (by simp;omega)] at e;cases e
   · rw[List.getElem?_set_ne (Ne.symm hj)] at e⊢
     rw[List.getElem?_set_ne (Ne.symm hi)]
     exact h.val k d' e
theorem Cxt.nox{dfn:Bool}(C:Cxt X Γ G ct c Ex N sc dfn):Cxt X.nox Γ G ct c E0 N sc dfn where
 hN:=C.hN
 nd:=C.nd
 sc:=C.sc
 calm:=C.calm
 hu:=C.hu
 K:=C.K
 fnb:=C.fnb
 scal:=C.scal
 tups:=C.tups
 dicts:=C.dicts
 blt:=C.blt
 fn:=C.fn
 obj:=C.obj
 att:=C.att
 xatt:=C.xatt
 sub:=C.sub
 pass:=fun pins σ H s e s' I h=>by
  obtain⟨_,_,_,_,_,_,_,_,_,_,_,_,_,_,hE⟩:=h;exact hE.elim
theorem b7V{n hx:Str}{i0:Nat}{p0:Pos}{xs:Es}{p ep cp hp0 hpos tpos vpos:Pos}(C:Cxt X Γ G ct c Ex N sc true)(hst:X.stack=X.env::X.outer)(hfr:X.env.frame=some X.env.locals)
 {x:Str} (hg:D6 sc x=true) (hgx:D6 sc hx=true) (hln:sc.names.lookup n=some .local) (hlu:sc.names.lookup u=some .local) (hd1:n≠"__debug__") (hd2:n≠"__classdict__") (hf:G.fn.lookup x=some (f,np)) (hk:G.cls.lookup hx=some G.hb)
 (hi:N.idxOf? n=some i) (hj:N.idxOf? u=some j) (hl0:sc.names.lookup x0=some .local) (hi0:N.idxOf? x0=some i0) (hp:(a::es).all o0=true) (ha:PA X.nox (a::es) (TAv Γ E0 (evs ct c xs))):
 PS X (.Try [.Assign [.Name x0 p0] (.Call (.Name x p) (a::es) [] cp) ep] [.ExceptHandler (some (.Name hx hp0)) (some n) [.Assign [.Name u tpos] (.Name n vpos) apos] hpos] [] [] pos) (TSv Γ Ex (ex ct c (.tryc i0 f xs G.hb i j))):=by
 obtain⟨k,ad,fd,ps,h1,h2,h3,h4,h5,h6,h7⟩:=C.fn x f np hf;rw[all_cons,ae] at hp
 have hsc:∀y,X.env.scope.names.lookup y=sc.names.lookup y:=fun y=>by rw[C.sc]
 have hsu:∀a,PSs (X.marked a) [.Assign [.Name u tpos] (.Name n vpos) apos] (a8w (b6k i) (a4R j)):=fun a=>
  b1q (a3F (X:=X.marked a) (by show X.N.Nodup;rw[C.hN];exact C.nd) (by show X.N[j]? =_;rw[C.hN];exact P9 hj) (.inl ((hsc u).trans hlu)) (a9a (by show X.N[i]? =_;rw[C.hN];exact P9 hi) (.inl ((hsc n).trans hln)) (beq_eq_false_iff_ne.mpr hd1) (beq_eq_false_iff_ne.mpr hd2)) rfl (.inr ((hsc u).trans hlu)))
 refine PS.imp (b3P h6 h2 (C.gl hg) h3 h4 h5 ha (C.gl hgx) (C.sub hx G.hb hk).1 hst hfr (by rw[C.hN];exact C.nd) (by rw[C.hN];exact P9 hi) ((hsc n).trans hln) (by rw[C.hN];exact P9 hi0) ((hsc x0).trans hl0) hsu rfl (G4 hg).2.1 (G4 hgx).2.1 (g9 hp.1) (D7 hp.2)) ?_
 rintro D σ H ⟨env,ah,m,rl,q⟩;rw[ex] at q;refine⟨env,ah,m,rl,?_⟩
 cases hr:evs ct c xs env ah with
 |no=>rw[hr] at q;exact q.elim
 |ex kk ah1=>rw[hr] at q;exact q.elim
 | ok ds ah1=>
  rw[hr] at q;intro m1 H1 p1 k1 s1 vs rs;have rl1:=rl.on p1 k1 s1
  have q1:i8 Γ Ex m1 H1 (match c f ds ah1 with
   |.ok d h2=>.ok (.nx (env.set i0 (some d))) h2
   |.ex k h2=>if ct.sub k G.hb=true/\i<env.length then .ok (.nx ((env.set j (some (.ref h2.length))).set i none)) (h2++[.exc k]) else .no
   |.no=>.no) (SQ D):=i8.later q p1 k1
  refine⟨ds,ah1,m1,?_,rs,s1,?_⟩
  · by_cases hl:ds.length=np
    · exact hl
    · rw[h7 ds ah1 hl] at q1;exact q1.elim
  · cases hc:c f ds ah1 with
    |no=>rw[hc] at q1;exact q1.elim
    |ok d ah2=>
     rw[hc] at q1;intro m2 H2 v p2 k2 s2 r2;exact(i8.later q1 p2 k2).ok s2 _ ((rl1.env.mono p2 k2).set r2)
    | ex kk ah2=>
     rw[hc] at q1
     simp only at q1
     split at q1
     · rename_i hsub;intro m2 H2 p2 k2 s2 hxs;obtain⟨N',ND,xc,_⟩:=C.xatt kk hxs;refine⟨_,N',ND,rfl,rfl,xc,fun ad2 had _=>?_⟩
       have kp:Keep m2 (m2++[ad2]) H2 (upd H2 ad2 (exC ad2 (Γ.cA kk))):=Keep.newc had
       have s3:Sim Γ (ah2++[.exc kk]) (m2++[ad2]) (upd H2 ad2 (exC ad2 (Γ.cA kk))):=s2.alloc had ⟨d8,hxs⟩
       refine⟨.ref ad2,?_,?_⟩
       · exact List.getElem?_set_self (by rw[←rl.env.len];exact hsub.2)
       · refine(i8.later q1 (p2.trans (Pre.snoc m2 ad2)) (k2.trans kp)).ok s3 _ (b2B (y:=.ref ad2) ((rl1.env.mono p2 k2).mono (Pre.snoc m2 ad2) kp) ⟨ad2,rfl,?_⟩)
         rw[←s2.len,au (ai _)];simp
     · exact q1.elim
end
variable{pins:List (Addr×Obj)}
section
variable{P:Program}{w:World}{mg:Str->Option Value}{base:Heap}{N:List Str}{qual:Str}{f:Addr}{cd:Value}{A:Around}{outer:List Env}{s₀:Shared}{E:XK}
theorem a5N{s:Shared}{C tt:Addr}(I:Inv (a0R (CXr P w) P w K mg base N qual scope f cd A outer s₀ H₀ E) pins σ H s)(ha:H a=some (exO a C tt))(hs:s₀.heap.objs.size<=a)
 (q:E (.ref C) none (X7 H a)):(a0R (CXr P w) P w K mg base N qual scope f cd A outer s₀ H₀ E).xe (.ref a) s:=by
 have fr1:s.heap.FunFrames base (envOfC qual scope s₀.heap.objs.size f cd::outer):=I.stack
 have e0:=b0k I.hok ha
 have nin:∀b o,s₀.heap.get? b=some o->b≠a:=fun b o e z=>absurd (aC (Heap.lt_size e) (by rw[z];exact hs)) (aX _)
 have nfr:∀b o,H b=some o->b∉fr (envOfC qual scope s₀.heap.objs.size f cd::outer):=fun b o e z=>by
  have:=I.stkFree b z
  rw[e] at this;cases this
 refine b4D (L:=s₀.heap.objs.size) (C:=C) (dx:=none) I.ok.frames fr1 rfl e0 rfl rfl rfl rfl fun h' T kp nT t=>?_
 have ub:=I.base
 have inL:∀b,b∈fr (envOfC qual scope s₀.heap.objs.size f cd::outer)->b=s₀.heap.objs.size∨b∈frs outer:=fun b z=>aH.mp z
 have nfs:∀b o,s₀.heap.get? b=some o->b∉frs outer->b∉fr (envOfC qual scope s₀.heap.objs.size f cd::outer):=fun b o e n z=>by
  rcases inL b z with q|q
  · exact absurd (Heap.lt_size e) (by rw[q];exact aX _)
  · exact n q
 have other:∀b o,H b=some o->(∀φ,o≠.ext φ)->b≠a:=fun b o e n z=>by
  rw[z,ha] at e;cases e;exact n _ rfl
 refine⟨a,C,T,X7 H a,rfl,I.os,I.bare,⟨fun b o e n hb hx=>?_,fun b o e n hb hx=>?_,fun b o e n hx=>?_,fun b o e hx=>?_,fun b xs e=>?_,fun b o u e=>?_,fun b ps e=>?_⟩,fun b o e=>?_,t,hs,aY I.sz nT,a2e,?_,q⟩
 · exact kp.same b o (nfs b o e hb) (fun z=>nin b o e (in1 z)) (ub.keep b o e n hb hx)
 · obtain⟨sl,e1⟩:=ub.slot b o e n hb hx;obtain⟨sl',e2⟩:=kp.slot b _ (fun z=>nin b o e (in1 z)) e1
   exact⟨sl',e2⟩
 · rw[J7 (nin b o e)];exact ub.free b o e n hx
 · obtain⟨o',e1⟩:=ub.there b o e hx;obtain⟨sl,e2⟩:=kp.slot b o' (fun z=>nin b o e (in1 z)) e1
   exact⟨_,e2⟩
 · rw[J7 (other b _ (ub.tups b xs e) fun φ z=>nomatch z)];exact ub.tups b xs e
 · rw[J7 (other b _ (ub.frzs b o u e) fun φ z=>nomatch z)];exact ub.frzs b o u e
 · obtain⟨more,e1⟩:=ub.tbls b ps e;rw[J7 (other b _ e1 fun φ z=>nomatch z)];exact⟨more,e1⟩
 · have nb:b≠a:=fun z=>by rw[z,a2e] at e;cases e
   rw[J7 nb] at e
   have own:∀c,H c=some (.own b)->c≠a:=fun c z=>other c _ z fun φ y=>nomatch y
   refine(I.hok b o e).stay (fun c v hc z=>?_) (fun c z=>by rw[J7 (own c z)];exact z) (fun c xs z=>by
    rw[J7 (other c _ z fun φ y=>nomatch y)]
    exact z)
   rcases hc with y|y
   · rw[y] at z⊢;exact kp.same b v (nfr b o e) (fun z=>nb (in1 z)) z
   · exact kp.same c v (nfr c _ y) (fun z=>own c y (in1 z)) z
 · have:H T=none:=I.hok.fresh nT
   unfold X7
   split
   · rfl
   · exact this
theorem a9l:a5p (a0R (CXr P w) P w K mg base N qual scope f cd A outer s₀ H₀ E) E:=by
 intro pins σ H s a C T fl I trc ha hT na nT q
 have fr1:s.heap.FunFrames base (envOfC qual scope s₀.heap.objs.size f cd::outer):=I.stack
 have ub:Un (frs outer) [] H₀ H s₀.heap s.heap:=I.base
 have nin:∀b o,s₀.heap.get? b=some o->b∉[a,T]:=fun b o e z=>by
  have hb:=Heap.lt_size e
  rcases in2 z with y|y
  · rw[y] at hb;exact absurd (aC hb ha) (aX _)
  · rw[y] at hb;exact absurd (aC hb hT) (aX _)
 have nch:∀b o,H b=some o->b∉[a,T]:=fun b o e z=>by
  rcases in2 z with y|y
  · rw[y,na] at e;cases e
  · rw[y,nT] at e;cases e
 have nfr:∀b o,H b=some o->b∉fr (envOfC qual scope s₀.heap.objs.size f cd::outer):=fun b o e z=>by
  have:=I.stkFree b z
  rw[e] at this;cases this
 have nfs:∀b o,s₀.heap.get? b=some o->b∉frs outer->b∉fr (envOfC qual scope s₀.heap.objs.size f cd::outer):=fun b o e n z=>by
  rcases aH.mp z with y|y
  · exact absurd (Heap.lt_size e) (by rw[y];exact aX _)
  · exact n y
 show wpAny (model P w) (A.deeper (envOfC qual scope s₀.heap.objs.size f cd)) (leaving (envOfC qual scope s₀.heap.objs.size f cd) (.ref a)) _ _ s
 unfold leaving;refine wpAny_bind (b3c I.ok.frames fr1 rfl trc fun h3 T' fl' kp sT' trc3=>a6B (s:={s with heap:=h3}) trc3 fun h4 k4 _ trc4=>?_)
 have nT':H T'=none:=by
  rcases sT' with y|y
  · rw[y];exact nT
  · exact I.hok.fresh y
 have hT':s₀.heap.objs.size<=T':=by
  rcases sT' with y|y
  · rw[y];exact hT
  · exact aY I.sz y
 have neT:∀b o,s₀.heap.get? b=some o->b≠T':=fun b o e z=>absurd (aC (Heap.lt_size e) (z▸hT')) (aX _)
 have neH:∀b o,H b=some o->b≠T':=fun b o e z=>by rw[z,nT'] at e;cases e
 refine⟨a,C,T',H,rfl,I.os,I.bare,⟨fun b o e n hb hx=>?_,fun b o e n hb hx=>?_,ub.free,fun b o e hx=>?_,ub.tups,ub.frzs,ub.tbls⟩,fun b o e=>?_,trc4,ha,hT',na,nT',q⟩
 · exact k4 b o (neT b o e) (kp.same b o (nfs b o e hb) (nin b o e) (ub.keep b o e n hb hx))
 · obtain⟨sl,e1⟩:=ub.slot b o e n hb hx;obtain⟨sl',e2⟩:=kp.slot b _ (nin b o e) e1;exact⟨sl',k4 b _ (neT b o e) e2⟩
 · obtain⟨o',e1⟩:=ub.there b o e hx;obtain⟨sl,e2⟩:=kp.slot b o' (nin b o e) e1;exact⟨_,k4 b _ (neT b o e) e2⟩
 · refine(I.hok b o e).stay (fun c v hc z=>?_) (fun _ z=>z) fun _ _ z=>z
   rcases hc with y|y
   · rw[y] at z⊢;exact k4 b v (neH b o e) (kp.same b v (nfr b o e) (nch b o e) z)
   · exact k4 c v (neH c _ y) (kp.same c v (nfr c _ y) (nch c _ y) z)
theorem a9k:a0U (CXr P w) (a0R (CXr P w) P w K mg base N qual scope f cd A outer s₀ H₀ E) E:=by
 intro pins σ H s e s' I h;obtain⟨a,C,T,H2,rfl,os,bare,un,hok,trc,sa,sT,na,nT,q⟩:=h
 have I2:Inv (a0R (CXr P w) P w K mg base N qual scope f cd A outer s₀ H₀ E) pins σ H2 s':=I.call' (ch:=[]) os un hok bare fun b z=>absurd z (by simp)
 exact a9l pins σ H2 s' a C T .none I2 trc (aY I.sz sa) (aY I.sz sT) na nT q
end
structure Cxs(X:Cx)(Γ:Gm)(G:GT)(ct:CT)(c:CF)(Ex:XK)(N:List Str)(sc1:Scope):Prop extends Cxt X Γ G ct c Ex N sc1 true where
 own:PassesOwn (model X.prog X.w) X.A X.env X.xe
 stk:X.stack=X.env::X.outer
 frm:X.env.frame=some X.env.locals
 pl:a5p X Ex
 rai:∀(x:Str) (k:Nat) (p pos pos':Pos) (a:Expr) (es:List Expr) (xs:Es),G.rs.lookup x=some k->D6 sc1 x=true->(a::es).all o0=true->PA X (a::es) (TAv Γ Ex (evs ct c xs))->PS X (.Raise (some (.Call (.Name x p) (a::es) [] pos)) none pos') (TSv Γ Ex (ex ct c (.rais k xs)))
variable{qual:Str}
section
variable{X:Cx}{Γ:Gm}{G:GT}{ct:CT}{c:CF}{Ex:XK}{N:List Str}{sc:Scope}
theorem b5G{P:Program}{w:World}{mg:Str->Option Value}{base:Heap}{f:Addr}{cd:Value}{A:Around}{outer:List Env}{s₀:Shared}{k:Nat}{p pos':Pos}{a:Expr}{xs:Es}{Nn ND:Addr}
 (hX:X=a0R (CXr P w) P w K mg base N qual scope f cd A outer s₀ H₀ Ex) (C:Cxt X Γ G ct c Ex N sc true) (hg:D6 sc x=true) (hk:X.mg x=some (.ref (Γ.cA k))) (hxs:k∈Γ.xs) (xc:XC X.K (Γ.cA k) Nn (Γ.cA G.hb) ND)
 (hp:(a::es).all o0=true) (ha:PA X (a::es) (TAv Γ Ex (evs ct c xs))):
 PS X (.Raise (some (.Call (.Name x p) (a::es) [] pos)) none pos') (TSv Γ Ex (ex ct c (.rais k xs))):=by
 rw[all_cons,ae] at hp;have hpe:=b4f (p:=p) (pos:=pos) xc (C.gl hg) hk ha (G4 hg).2.1 (g9 hp.1) (D7 hp.2);refine PS.imp (a8R (R:=fun a H'=>∃tt,H' a=some (exO a (Γ.cA k) tt)/\X.s₀.heap.objs.size<=a/\Ex (.ref (Γ.cA k)) none (X7 H' a)) xc C.calm hpe (fun pins σ H s a I hR=>?_)) ?_
 · obtain⟨tt,e1,e2,e3⟩:=hR;refine⟨⟨_,e1⟩,?_⟩
   subst hX;exact a5N I e1 e2 e3
 · rintro D σ H ⟨env,ah,m,rl,q⟩;rw[ex] at q;refine⟨env,ah,m,rl,q.bind.mp fun ds ah1 m1 H1 p1 k1 s1 q1=>fun vs rs=>?_⟩
   split at q1
   · rename_i hl;refine⟨by rw[rs.len];omega,fun ad tt had hge=>⟨ad,rfl,tt,d8,hge,?_⟩⟩
     have sm:b8w H1 (X7 (upd H1 ad (exO ad (Γ.cA k) tt)) ad):=fun b o hb=>by
      have nb:b≠ad:=n5 hb had
      rw[J7 nb,d9 nb];exact hb
     have kp:Keep m1 m1 H1 (X7 (upd H1 ad (exO ad (Γ.cA k) tt)) ad):=⟨fun b o _ h=>sm b o h,fun b o _ h=>sm b o h,fun _ h=>.inl h⟩
     exact q1 m1 _ (Pre.refl m1) kp (s1.same sm) hxs
   · exact q1.elim
theorem b2a{k:Nat}{gens:List Comprehension}{y:E}(h:cE G N sc (k+1) (.ListComp elt gens scope pos)=some y):∃tg iter ifs,gens=[⟨tg,iter,ifs,0⟩]:=by
 cases gens with
 |nil=>exact absurd (show none=some y from h) (by simp)
 |cons g t=>
  replace h:(if t.isEmpty&&decide (g.is_async=0) then sLc G (cR G k) N sc elt g.target g.iter g.ifs scope else none)=some y:=h
  split at h
  · rename_i hg;rw[ae] at hg;obtain⟨tg,iter,ifs,a⟩:=g
    cases isEmpty_iff.mp hg.1
    have ha:a=0:=aw hg.2
    subst ha;exact⟨_,_,_,rfl⟩
  · cases h
theorem a0I{l:List α}(h:l.isEmpty=true):l=[]:=by cases l with
 |nil=>rfl
 |cons a r=>cases h
theorem b3r {b:List Stmt} {as:List Expr} (h:tyB b=some (x0,x,as)):∃p0 p q r,b=[.Assign [.Name x0 p0] (.Call (.Name x p) as [] q) r]:=by
 unfold tyB at h
 split at h
 · cases h
 · split at h
   · rename_i e
     cases a0I e
     unfold b6i at h
     split at h
     · split at h
       · cases h
       · split at h
         · rename_i e
           cases a0I e
           split at h
           · split at h
             · rename_i e
               cases a0I e
               split at h
               · rename_i h1 h2;cases h;obtain⟨p,rfl⟩:=V6 h1;obtain⟨q,rfl⟩:=V6 h2;exact⟨_,_,_,_,rfl⟩
               · cases h
             · cases h
           · cases h
         · cases h
     · cases h
   · cases h
theorem b3s{s:Stmt}{v:Str}(h:tyA s=some (u,v)):∃p q r,s=.Assign [.Name u p] (.Name v q) r:=by
 unfold tyA at h
 split at h
 · split at h
   · cases h
   · split at h
     · rename_i e
       cases a0I e
       split at h
       · rename_i h1 h2;cases h;obtain⟨p,rfl⟩:=V6 h1;obtain⟨q,rfl⟩:=V6 h2;exact⟨_,_,_,rfl⟩
       · cases h
     · cases h
 · cases h
theorem b3q{hs:List ExceptHandler}{v:Str}(h:tyH hs=some (y,z,u,v)):∃p q r t w,hs=[.ExceptHandler (some (.Name y p)) (some z) [.Assign [.Name u q] (.Name v r) t] w]:=by
 unfold tyH at h
 split at h
 · cases h
 · split at h
   · rename_i e
     cases a0I e
     unfold b6h at h
     split at h
     · cases h
     · split at h
       · rename_i e
         cases a0I e
         split at h
         · rename_i h1 h3;cases h;obtain⟨a,rfl,h1⟩:=Option.bind_eq_some_iff.mp h1;obtain⟨p,rfl⟩:=V6 h1;obtain⟨q,r,t,rfl⟩:=b3s h3;exact⟨_,_,_,_,_,rfl⟩
         · cases h
       · cases h
   · cases h
theorem b6B (C:Cxs X Γ G ct c Ex N sc) {r:List Stmt->Option Ss} (hr:∀l ss,r l=some ss->PSs X l (TSv Γ Ex (exs ct c ss))):∀st s,sS G N sc r st=some s->PS X st (TSv Γ Ex (ex ct c s)):=by
 intro st s h;obtain⟨i1,i2,i3,i4,i5⟩:=S3 40 X Ex N sc true C.toCxt;unfold sS at h
 split at h
 · rename_i tgs e pe
   split at h
   · cases h
   · split at h
     · rename_i hu
       cases isEmpty_iff.mp hu
       unfold sAs at h
       split at h
       · rename_i x px
         split at h
         · rename_i i y h1 h2
           split at h
           · rename_i hn;cases h;exact b7Y C.toCxt h1 hn (i1 _ _ h2)
           · split at h
             · rename_i hl;cases h
               cases e<;>first|(cases hl;done)|skip
               obtain⟨tg,iter,ifs,rfl⟩:=b2a h2
               split
               · exact b5F C.toCxt C.stk C.frm C.pl h1 h2
               · exact b5E C.toCxt h1 h2
             · cases h
         · cases h
       · split at h
         · rename_i h1 h2 h3
           split at h
           · rename_i hw;cases h;rw[ae] at hw;exact b7W C.toCxt (i1 _ _ h1) (i1 _ _ h2) (i1 _ _ h3) hw.1 hw.2
           · cases h
         · cases h
       · split at h
         · rename_i h1 h2
           split at h
           · rename_i hw;cases h;rw[ae] at hw;exact b7X C.toCxt (i1 _ _ h1) (i1 _ _ h2) hw.1 hw.2
           · cases h
         · cases h
       · split at h
         · rename_i h1 h2
           split at h
           · rename_i hw;cases h;exact b8a ((b0L C.toCxt 8).1 _ _ h1).1 (i1 _ _ h2) hw rfl (by cases e<;>first|rfl|cases hw)
           · cases h
         · cases h
       · cases h
     · cases h
 · split at h
   · rename_i hw;obtain⟨y,h1,rfl⟩:=map_some h;exact b9q hw (i1 _ _ h1)
   · cases h
 · split at h
   · obtain⟨y,h1,rfl⟩:=map_some h;exact b7Z (i1 _ _ h1)
   · cases h
 · split at h
   · rename_i h1 h2 h3;cases h;exact b9p (i3 _ _ h1).1 (hr _ _ h2) (hr _ _ h3)
   · cases h
 · split at h
   · rename_i hel
     cases isEmpty_iff.mp hel
     split at h
     · rename_i h1 h2 h3
       split at h
       · rename_i hs;cases h;exact b8c C.toCxt C.own (i5 _ _ _ h2) ((b0L C.toCxt 8).1 _ _ h1).1 (hr _ _ h3) hs
       · cases h
     · cases h
   · cases h
 · split at h
   · rename_i hel
     cases isEmpty_iff.mp hel
     split at h
     · rename_i h1 h2;cases h;exact b7U C.own (i3 _ _ h1).1 (hr _ _ h2)
     · cases h
   · cases h
 · rename_i ex ca pos';cases h
   split
   · rename_i hca
     cases Option.isNone_iff_eq_none.mp hca
     cases hq:sRx G N sc ex with
     |none=>exact b3m
     | some s'=>
      unfold sRx at hq
      split at hq
      · cases hq
      · split at hq
        · rename_i f as ks pos
          split at hq
          · rename_i hk0
            cases isEmpty_iff.mp hk0
            split at hq
            · rename_i x hx;obtain⟨p,rfl⟩:=V6 hx;unfold sRa at hq
              split at hq
              · rename_i hg;rw[ae] at hg;have hne:=aw hg.2
                split at hq
                · rename_i h1 h2;cases hq;obtain⟨g1,g2⟩:=i2 _ _ h2
                  cases as with
                  |nil=>exact absurd rfl hne
                  |cons a es=>exact C.rai x _ p pos pos' a es _ h1 hg.1 g2 g1
                · cases hq
              · cases hq
            · cases hq
          · cases hq
        · cases hq
   · exact b3m
 · split at h
   · rename_i he;rw[ae] at he
     cases isEmpty_iff.mp he.1
     cases isEmpty_iff.mp he.2
     unfold sTy at h
     split at h
     · rename_i x0 x as y z u v hb hh;obtain⟨p0,p1,p2,p3,rfl⟩:=b3r hb;obtain⟨p4,p5,p6,p7,p8,rfl⟩:=b3q hh
       split at h
       · rename_i hc;simp only[ae,bD] at hc;obtain⟨⟨⟨⟨⟨⟨⟨⟨c1,c2⟩,c3⟩,c4⟩,c5⟩,c6⟩,c7⟩,c8⟩,c9⟩:=hc
         split at h
         · rename_i h1 h2 h3 h4 h5 h6
           split at h
           · rename_i hl;simp only[ae,bD] at hl;cases h;obtain⟨_,j2,_⟩:=S3 40 X.nox E0 N sc true C.toCxt.nox;obtain⟨g1,g2⟩:=j2 _ _ h3;subst c3;obtain⟨⟨l1,l2⟩,l3⟩:=hl
             cases as with
             |nil=>exact absurd rfl l2
             |cons a es=>
              subst l3;exact b7V C.toCxt C.stk C.frm c1 c2 c4 c5 c7 c8 h1 h2 h4 h5 c9 h6 g2 g1
           · cases h
         · cases h
       · cases h
     · cases h
   · cases h
 · cases h
theorem a8D(C:Cxs X Γ G ct c Ex N sc){r:List Stmt->Option Ss}(hr:∀l ss,r l=some ss->PSs X l (TSv Γ Ex (exs ct c ss))):∀l ss,sSs G N sc r l=some ss->PSs X l (TSv Γ Ex (exs ct c ss))
 |[],ss,h=>by unfold sSs at h;cases h;exact b8b
 |st::l,ss,h=>by
  unfold sSs at h
  split at h
  · rename_i h1 h2;cases h;exact b5H (b6B C hr _ _ h1) (a8D C hr l _ h2)
  · cases h
theorem b0E(C:Cxs X Γ G ct c Ex N sc):∀n l ss,cSs G N sc n l=some ss->PSs X l (TSv Γ Ex (exs ct c ss))
 |0,l,ss,h=>absurd (show none=some ss from h) (by simp)
 |n+1,l,ss,h=>a8D C (b0E C n) l ss h
end
structure RowOk(K:PySem.W.Frag)(G:GT)(F:Nat->Option Fn)(x qual:Str)(id np0:Nat)(f:Addr)(fd:FuncData)(st:Stmt)(N ps:List Str):Prop where
 fn:Fun K x qual st f fd
 sc:FnScope N ps (v5 st)
 bd:M1 K fd ps []
 np:ps.length=np0
 F:∃fn,F id=some fn/\fn.np=np0/\fn.ns=N.length/\cSs G N (v5 st) 20 (J0 st)=some fn.body
structure Stat(P:Program)(w:World)(Γ:Gm)(G:GT)(ct:CT)(F:Nat->Option Fn)(mg:Str->Option Value):Prop where
 scal:∀x d,G.scal.lookup x=some d->∃u v,mg x=some u/\l8 v u/\∀m H,Rp m H d v
 tups:∀x ds,G.tups.lookup x=some ds->∃a vs,mg x=some (.ref a)/\(∀H,SqT Γ.K H a vs)/\∀m H,Rps m H ds vs
 dicts:∀x kvs,G.dicts.lookup x=some kvs->∃a gs,mg x=some (.ref a)/\a8g P w Γ.K a gs/\∀m H,DK m H kvs gs
 blt:∀x,G.blt.contains x=true->mg x=none
 fn:∀x id np,G.fn.lookup x=some (id,np)->∃f fd st N ps,mg x=some (.ref f)/\RowOk Γ.K G F x x id np f fd st N ps
 obj:∀x k,G.obj.lookup x=some k->k∈Γ.ob/\mg x=some (.ref (Γ.cA k))/\∃f fd st N ps qual,Mk Γ.K (Γ.cA k) f/\RowOk Γ.K G F "__init__" qual (ct.init k) 1 f fd st N ps
 att:∀k,k∈Γ.ob->Cls Γ.K (Γ.cA k)/\∀f,G.atts.contains f=true->V1 Γ.K (Γ.cA k) f
 xatt:∀k,k∈Γ.xs->∃N ND,XC Γ.K (Γ.cA k) N (Γ.cA G.hb) ND/\PySem.W.mroIn Γ.K (Γ.cA k) (.type "object")=some true/\PySem.W.kitOne Γ.K (.ref (Γ.cA k)) (.type "ValueError")=some true
 sub:∀x j,G.cls.lookup x=some j->mg x=some (.ref (Γ.cA j))/\∀k,k∈Γ.xs->PySem.W.kitOne Γ.K (.ref (Γ.cA k)) (.ref (Γ.cA j))=some (ct.sub k j)
 rs:∀x k,G.rs.lookup x=some k->k∈Γ.xs/\mg x=some (.ref (Γ.cA k))/\∃Nn ND,XC Γ.K (Γ.cA k) Nn (Γ.cA G.hb) ND
variable{ds:List D}{N:List Str}{m':List Addr}{H':Hp}{id:Nat}
section
variable{P:Program}{w:World}{Γ:Gm}{G:GT}{ct:CT}{F:Nat->Option Fn}{mg:Str->Option Value}
theorem a7T{ns:Nat}(rs:Rps m H ds vs)(hn:ns=N.length)(hd:ds.length=np):EnvRel m H (ds.map some++List.replicate (ns-np) none) (L2.a0f N vs):=by
 unfold L2.a0f;refine⟨by simp[rs.len,hn,hd],fun i d e=>?_⟩
 by_cases hi:i<ds.length
 · rw[av (by simpa using hi),aj] at e
   rw[av (by simpa [rs.len] using hi),aj]
   cases hd':ds[i]? with
   |none=>rw[hd'] at e;cases e
   |some d'=>
    rw[hd'] at e;cases e;obtain⟨v,h1,h2⟩:=rs.get hd';exact⟨v,by rw[h1];rfl,h2⟩
 · rw[au (by simpa using hi),bH] at e
   split at e<;>cases e
noncomputable def b6R:R Out->R D
 |.ok (.nx _) h=>.ok .non h
 |.ok (.rt d) h=>.ok d h
 |.ex c h=>.ex c h
 |.no=>.no
theorem a2i(n:Nat)(f:Nat)(ds:List D)(h:AH):b6 ct F (n+1) f ds h=match F f with
 |none=>.no
 |some fd=>if ds.length=fd.np then gcR fd.gc h (b6R (exs ct (b6 ct F n) fd.body (ds.map some++List.replicate (fd.ns-fd.np) none) h)) else .no:=by
 show(match F f with
  |none=>R.no
  |some fd=>if ds.length=fd.np then gcR fd.gc h (match exs ct (b6 ct F n) fd.body (ds.map some++List.replicate (fd.ns-fd.np) none) h with
   |.ok (.nx _) h'=>.ok .non h'
   |.ok (.rt d) h'=>.ok d h'
   |.ex c h'=>.ex c h'
   |.no=>.no) else .no)=_
 cases F f with
 |none=>rfl
 |some fd=>
  simp only
  generalize exs ct (b6 ct F n) fd.body (ds.map some++List.replicate (fd.ns-fd.np) none) h=r
  cases r with
  |ok o h=>cases o<;>rfl
  |ex c h=>rfl
  |no=>rfl
theorem a6m:(∀d v v' m0 H0,m0.length=n->Rp m0 H0 d v'->Rp m' H d v->Rp (m'.take n) H d v)/\∀l vs vs' m0 H0,m0.length=n->Rps m0 H0 l vs'->Rps m' H l vs->Rps (m'.take n) H l vs:=by
 refine D.ind (P:=fun d=>∀v v' m0 H0,m0.length=n->Rp m0 H0 d v'->Rp m' H d v->Rp (m'.take n) H d v) (Q:=fun l=>∀vs vs' m0 H0,m0.length=n->Rps m0 H0 l vs'->Rps m' H l vs->Rps (m'.take n) H l vs) ?_ ?_ ?_ ?_ ?_ ?_ ?_ ?_
 · intro v v' m0 H0 _ _ h;exact h
 · intro b v v' m0 H0 _ _ h;exact h
 · intro b v v' m0 H0 _ _ h;exact h
 · intro b v v' m0 H0 _ _ h;exact h
 · rintro l ih v v' m0 H0 hn ⟨a',vs',_,_,q'⟩ ⟨a,vs,rfl,e,q⟩;exact⟨a,vs,rfl,e,ih vs vs' m0 H0 hn q' q⟩
 · rintro k v v' m0 H0 hn ⟨a',_,e'⟩ ⟨a,rfl,e⟩;refine⟨a,rfl,?_⟩
   have:=(ac.mp e').1
   rw[bG (by omega)];exact e
 · intro vs vs' m0 H0 _ _ h;exact h
 · rintro d r ih ihs vs vs' m0 H0 hn ⟨v',t',_,q1',q2'⟩ ⟨v,t,rfl,q1,q2⟩;exact⟨v,t,rfl,ih v v' m0 H0 hn q1' q1,ihs t t' m0 H0 hn q2' q2⟩
theorem a0Z{α β β':Type}{R R':α->β->Prop}{R0:α->β'->Prop}(f:∀a b b',R0 a b'->R a b->R' a b):∀{l:List α} {l':List β'} {l2:List β},Paired R0 l l'->Paired R l l2->Paired R' l l2
 |_,_,_,.nil,.nil=>.nil
 |_,_,_,.cons h t,.cons h' t'=>.cons (f _ _ _ h h') (a0Z f t t')
theorem a8b{a0:Addr}{c:Cell}(hn:m.length=n)(h0:C4 Γ m H0 a0 c)(h:C4 Γ m' H a c):C4 Γ (m'.take n) H a c:=by
 have rp:=fun d v v' (h1:Rp m H0 d v') (h2:Rp m' H d v)=>(a6m (m':=m') (n:=n) (H:=H)).1 d v v' m H0 hn h1 h2
 have rps:=fun d v v' (h1:Rps m H0 d v') (h2:Rps m' H d v)=>(a6m (m':=m') (n:=n) (H:=H)).2 d v v' m H0 hn h1 h2
 have pr:∀{κ κ' κ'':Type} {l:List (κ×D)} {l':List (κ'×V)} {l2:List (κ''×V)} {A:κ->κ'->Prop} {B:κ->κ''->Prop},Paired (fun p q=>A p.1 q.1/\Rp m H0 p.2 q.2) l l'->Paired (fun p q=>B p.1 q.1/\Rp m' H p.2 q.2) l l2->Paired (fun p q=>B p.1 q.1/\Rp (m'.take n) H p.2 q.2) l l2:=
  fun h0 h=>a0Z (fun a b b' x y=>⟨y.1,rp _ _ _ x.2 y.2⟩) h0 h
 cases c with
 |lst l=>obtain⟨vs',_,r'⟩:=h0;obtain⟨vs,e,r⟩:=h;exact⟨vs,e,rps _ _ _ r' r⟩
 |rol l=>obtain⟨vs',_,r',_⟩:=h0;obtain⟨vs,e,r,z⟩:=h;exact⟨vs,e,rps _ _ _ r' r,z⟩
 |rod l=>obtain⟨kvs',_,_,r'⟩:=h0;obtain⟨kvs,o,e,r⟩:=h;exact⟨kvs,o,e,pr (A:=fun p q=>D9 p=some q) (B:=fun p q=>D9 p=some q) r' r⟩
 |dict l=>
  rcases h with⟨kvs,e,r⟩|⟨kvs,e,r⟩
  · rcases h0 with⟨kvs',_,r'⟩|⟨kvs',_,r'⟩
    · exact .inl ⟨kvs,e,pr (A:=fun p q=>D9 p=some q) (B:=fun p q=>D9 p=some q) r' r⟩
    · exact .inl ⟨kvs,e,pr (A:=fun(p:D) q=>∃l,p=D.tup l/\C9 l=some q) (B:=fun p q=>D9 p=some q) r' r⟩
  · rcases h0 with⟨kvs',_,r'⟩|⟨kvs',_,r'⟩
    · exact .inr ⟨kvs,e,pr (A:=fun p q=>D9 p=some q) (B:=fun(p:D) q=>∃l,p=D.tup l/\C9 l=some q) r' r⟩
    · exact .inr ⟨kvs,e,pr (A:=fun(p:D) q=>∃l,p=D.tup l/\C9 l=some q) (B:=fun(p:D) q=>∃l,p=D.tup l/\C9 l=some q) r' r⟩
 |obj k fs=>obtain⟨dx',gs',_,r',_⟩:=h0;obtain⟨dx,gs,e,r,z⟩:=h;exact⟨dx,gs,e,pr (A:=fun p q=>p=q) (B:=fun p q=>p=q) r' r,z⟩
 |exc k=>exact h
theorem Sim.drop{ah':AH}(s:Sim Γ ah m H)(s':Sim Γ ah' m' H')(p:Pre m m')(k:Keep m m' H H')(h:ah'.take ah.length=ah):Sim Γ ah m H':=by
 have hm:m'.take ah.length=m:=by
  obtain⟨t,rfl⟩:=p;rw[←s.len,List.take_left]
 refine⟨s.len,s.nd,fun n a c hn hc=>?_⟩
 have hl:=(ac.mp hc).1
 have hc':ah'[n]? =some c:=by
  rw[←h,bG hl] at hc
  exact hc
 have:=a8b (n:=ah.length) s.len (s.at hn hc) (s'.at (p.get hn) hc')
 rwa [hm] at this
theorem a7R{c:Cell}(f:c.flat=true)(h:C4 Γ m H a c):C4 Γ m' H a c:=by
 cases c with
 |lst l=>obtain⟨vs,e,r⟩:=h;exact⟨vs,e,(a3z (m':=m')).2 _ _ f r⟩
 | dict l=>
  have go:∀{κ:Type} {A:D->κ->Prop} {l:List (D×D)} {l2:List (κ×V)},(l.all fun p=>p.1.flat&&p.2.flat)=true->Paired (fun p q=>A p.1 q.1/\Rp m H p.2 q.2) l l2->Paired (fun p q=>A p.1 q.1/\Rp m' H p.2 q.2) l l2:=by
   intro κ A l l2 hf hp
   induction hp with
   |nil=>exact .nil
   |cons h t ih=>
    rw[all_cons,ae,ae] at hf;exact .cons ⟨h.1,(a3z (m':=m')).1 _ _ hf.1.2 h.2⟩ (ih hf.2)
  rcases h with⟨kvs,e,r⟩|⟨kvs,e,r⟩
  · exact .inl ⟨kvs,e,go (A:=fun p q=>D9 p=some q) f r⟩
  · exact .inr ⟨kvs,e,go (A:=fun(p:D) q=>∃l,p=D.tup l/\C9 l=some q) f r⟩
 |_=>cases f
theorem b7n {E :XK} {g:Nat} {r:R Out} (s:Sim Γ ah m H) (h:i9 Γ E m H (gcR g ah (b6R r)) Q):i8 Γ E m H r (SQ {nx:=fun _ H'=>Q .non H',rt:=Q}):=by
 have main : ∀{d:D} {ah':AH},i9 Γ E m H (gcR g ah (.ok d ah')) Q->∀m' H' v,Pre m m'->Keep m m' H H'->Sim Γ ah' m' H'->Rp m' H' d v->Q v H':=by
  intro d ah' h m' H' v p k s' rv;unfold gcR at h
  simp only at h
  split at h
  · exact h m' H' v p k s' rv
  · split at h
    · split at h
      · rename_i hh;exact h m H' v (Pre.refl m) ⟨k.imm,k.out,fun _ z=>.inl z⟩ (s.drop s' p k hh.1) ((a3z (m':=m)).1 d v hh.2 rv)
      · exact h.elim
    · split at h
      · rename_i kk
        split at h
        · rename_i c hc
          split at h
          · rename_i hh;obtain⟨a,rfl,ha⟩:=rv;have s0:=s.drop s' p k hh.1
            have hna:a∉m:=fun z=>by
             obtain⟨i,hi⟩:=bo z
             have e1:=p.get hi;have hlt:=(ac.mp hi).1
             obtain⟨h1,e1⟩:=ac.mp e1
             obtain⟨h2,e2⟩:=ac.mp ha
             have:=(getElem_inj s'.nd).mp (e1.trans e2.symm)
             have hl:=s.len;omega
            have Hn:H a=none:=by
             rcases k.fr a (aI ha) with z|z
             · exact absurd z hna
             · exact z
            refine h (m++[a]) H' (.ref a) (Pre.snoc m a) ⟨k.imm,k.out,fun b hb=>?_⟩ ?_ ⟨a,rfl,?_⟩
            · rcases aO.mp hb with z|z
              · exact .inl z
              · simp at z;subst z;exact .inr Hn
            · refine⟨by simp[s.len],Y5 s.nd hna,fun n b cc hn hcc=>?_⟩
              by_cases hl:n<m.length
              · rw[av hl] at hn
                rw[av (by rw[←s.len];exact hl)] at hcc
                exact(s0.at hn hcc).mono' (Pre.snoc m a) (fun _ _ _ z=>z) rfl
              · have hn':n=m.length:=by
                 have:=(ac.mp hn).1
                 simp at this;omega
                subst hn';rw[au (ai _)] at hn
                rw[s.len,au (ai _)] at hcc
                simp at hn hcc;subst hn;subst hcc
                exact a7R hh.2.2 (s'.at ha hc)
            · rw[←s.len,au (ai _)];simp
          · exact h.elim
        · exact h.elim
      · exact h.elim
 cases r with
 |ok o ah'=>
  cases o with
  |nx env=>exact fun m' H' p k s' σ' _=>main h m' H' .non p k s' rfl
  |rt d=>exact fun m' H' p k s' v rv=>main h m' H' v p k s' rv
 |ex c ah'=>exact h
 |no=>exact h.elim
theorem a3X(S:Stat P w Γ G ct F mg)(ih1:∀x id np,G.fn.lookup x=some (id,np)->∃f fd ps,ps.length=np/\mg x=some (.ref f)/\PySem.W.keepIn Γ.K (.ref f)=true/\M1 Γ.K fd ps []/\∀base,FnOk P w Γ.K mg base (CXr P w) (2*n+6) f fd ps (a3r Γ (b6 ct F n) id np))
    (ih2:∀x k,G.obj.lookup x=some k->k∈Γ.ob/\mg x=some (.ref (Γ.cA k))/\∃f fd ps,ps.length=1/\Mk Γ.K (Γ.cA k) f/\M1 Γ.K fd ps []/\∀base,FnOk P w Γ.K mg base (CXr P w) (2*n+6) f fd ps (a3r Γ (b6 ct F n) (ct.init k) 1))
    (ar:∀x id np,G.fn.lookup x=some (id,np)->∀ds h,ds.length≠np->b6 ct F n id ds h=.no)
 {f : Addr} {fd:FuncData} {ps:List Str} (R:RowOk Γ.K G F x qual id np f fd st N ps) (base:Heap):FnOk P w Γ.K mg base (CXr P w) (2*(n+1)+6) f fd ps (a3r Γ (b6 ct F (n+1)) id np):=by
  obtain⟨fn,F1,F2,F3,F4⟩:=R.F;obtain⟨oc,od,kV,doc,pm,an,cdv,ct',osl,rfl,lk,hcd⟩:=R.fn.ex;refine b7r (k:=2*n+7) lk hcd R.sc (fun vs H Q E h=>?_) fun A outer s H vs Q E hr hsp=>?_
  · obtain⟨ds,ah,m,h1,h2,_⟩:=h;rw[h2.len,h1,R.np]
  · obtain⟨ds,ah,m,h1,h2,h3,h4⟩:=hsp
    have C:Cxt (a0R (CXr P w) P w Γ.K mg base N qual (v5 st) f cdv A outer s H E) Γ G ct (b6 ct F n) E N (v5 st) true:=by
      refine⟨rfl,R.sc.nd,rfl,rfl,?_,rfl,fun _ _=>rfl,S.scal,S.tups,S.dicts,S.blt,fun y i j hy=>?_,fun y k hy=>?_,S.att,S.xatt,S.sub,a9k⟩
      · exact Nat.lt_of_le_of_lt (Nat.add_le_add_left (by decide:8<=64) _) hr.units
      · obtain⟨f',fd',ps',a1,a2,a3,a4,a5⟩:=ih1 y i j hy;exact⟨2*n+6,f',fd',ps',a1,hr.mono (by omega),a2,a3,a4,a5 base,ar y i j hy⟩
      · obtain⟨b1,b2,f',fd',ps',a1,a2,a3,a4⟩:=ih2 y k hy;exact⟨b1,2*n+6,f',fd',ps',a1,hr.mono (by omega),a2,b2,a3,a4 base⟩
    have Cs:Cxs (a0R (CXr P w) P w Γ.K mg base N qual (v5 st) f cdv A outer s H E) Γ G ct (b6 ct F n) E N (v5 st):=by
      refine⟨C,PassesOwn.leaving,rfl,rfl,a9l,fun y k p pos pos' a es xs hk hg hp ha=>?_⟩
      obtain⟨r1,r2,Nn,ND,r3⟩:=S.rs y k hk;exact b5G rfl C hg r2 r1 r3 hp ha
    refine⟨_,b0E Cs 20 _ _ F4,ds.map some++List.replicate (fn.ns-fn.np) none,ah,m,⟨h3,a7T h2 F3 (by rw[h1,F2])⟩,?_⟩
    rw[a2i,F1] at h4
    simp only at h4
    rw[ay (by rw[h1,F2])] at h4
    exact b7n h3 h4
theorem b0G(S:Stat P w Γ G ct F mg):∀n x id np,G.fn.lookup x=some (id,np)->∀ds h,ds.length≠np->b6 ct F n id ds h=.no
 |0,_,_,_,_,_,_,_=>rfl
 |n+1,x,id,np,hx,ds,h,hl=>by
  obtain⟨_,_,_,_,_,_,R⟩:=S.fn x id np hx;obtain⟨fn,F1,F2,_⟩:=R.F;rw[a2i,F1]
  simp only
  rw[az (by rw[F2];exact hl)]
theorem b4Y(S:Stat P w Γ G ct F mg):∀n,(∀x id np,G.fn.lookup x=some (id,np)->∃f fd ps,ps.length=np/\mg x=some (.ref f)/\PySem.W.keepIn Γ.K (.ref f)=true/\M1 Γ.K fd ps []/\∀base,FnOk P w Γ.K mg base (CXr P w) (2*n+6) f fd ps (a3r Γ (b6 ct F n) id np))∧
 (∀x k,G.obj.lookup x=some k->k∈Γ.ob/\mg x=some (.ref (Γ.cA k))/\∃f fd ps,ps.length=1/\Mk Γ.K (Γ.cA k) f/\M1 Γ.K fd ps []/\∀base,FnOk P w Γ.K mg base (CXr P w) (2*n+6) f fd ps (a3r Γ (b6 ct F n) (ct.init k) 1)):=by
 have zero:∀{k:Nat} {f:Addr} {fd:FuncData} {ps:List Str} {id np:Nat} {base:Heap},FnOk P w Γ.K mg base (CXr P w) k f fd ps (a3r Γ (b6 ct F 0) id np):=fun{k f fd ps id np base}=>
  ⟨fun vs H Q E h=>by obtain⟨_,_,_,_,_,_,z⟩:=h;exact z.elim,fun A outer s H args us vs Q E _ _ _ _ h=>by obtain⟨_,_,_,_,_,_,z⟩:=h;exact z.elim⟩
 intro n
 induction n with
 |zero=>
  refine⟨fun x id np hx=>?_,fun x k hk=>?_⟩
  · obtain⟨f,fd,st,N,ps,g,R⟩:=S.fn x id np hx;exact⟨f,fd,ps,R.np,g,R.fn.kp,R.bd,fun base=>zero⟩
  · obtain⟨o1,o2,f,fd,st,N,ps,qual,M,R⟩:=S.obj x k hk;exact⟨o1,o2,f,fd,ps,R.np,M,R.bd,fun base=>zero⟩
 |succ n ih=>
  refine⟨fun x id np hx=>?_,fun x k hk=>?_⟩
  · obtain⟨f,fd,st,N,ps,g,R⟩:=S.fn x id np hx;exact⟨f,fd,ps,R.np,g,R.fn.kp,R.bd,fun base=>a3X S ih.1 ih.2 (b0G S n) R base⟩
  · obtain⟨o1,o2,f,fd,st,N,ps,qual,M,R⟩:=S.obj x k hk;exact⟨o1,o2,f,fd,ps,R.np,M,R.bd,fun base=>a3X S ih.1 ih.2 (b0G S n) R base⟩
end
end EV
namespace L2T
open PySem
abbrev cd(z:Str):List Nat:=z.cps.toList
variable{x:Str}
theorem Z9{y:Str}(h:cd x=cd y):x=y:=by
 cases x;cases y
 exact congrArg Str.mk (Array.toList_inj.mp h)
theorem U8(x y:Str):cd (x++y)=cd x++cd y:=by
 show(x.cps++y.cps).toList=_
 simp
theorem u5(x:Str):(cd x).length=x.length:=by simp[cd,Str.length]
noncomputable def jn(c:Nat):List (List Nat)->List Nat
 |[]=>[]
 |[x]=>x
 |x::y::r=>x++c::jn c (y::r)
theorem a1v(c:Nat):∀ps:List Str,cd (Str.join ⟨#[c]⟩ ps)=jn c (ps.map cd)
 |[]=>rfl
 |[x]=>rfl
 |x::y::r=>by
  show cd (x++⟨#[c]⟩++Str.join ⟨#[c]⟩ (y::r))=cd x++c::jn c ((y::r).map cd)
  rw[U8,U8,a1v c (y::r)];simp[cd]
theorem a3b{c:Nat}:∀{p q a b:List Nat},c∉p->c∉q->p++c::a=q++c::b->p=q/\a=b
 |[],[],a,b,_,_,h=>⟨rfl,by simpa using h⟩
 |[],y::q,a,b,_,hq,h=>by
  have e:c=y:=(List.cons.inj h).1
  exact absurd (by rw[e];exact bj) hq
 |x::p,[],a,b,hp,_,h=>by
  have e:x=c:=(List.cons.inj h).1
  exact absurd (by rw[←e];exact bj) hp
 |x::p,y::q,a,b,hp,hq,h=>by
  obtain⟨e1,e2⟩:=List.cons.inj h;obtain⟨e3,e4⟩:=a3b (fun z=>hp (aE _ z)) (fun z=>hq (aE _ z)) e2
  exact⟨by rw[e1,e3],e4⟩
theorem a9O{c:Nat}:∀{ps qs:List (List Nat)},ps≠[]->qs≠[]->(∀p∈ps,c∉p)->(∀q∈qs,c∉q)->jn c ps=jn c qs->ps=qs
 |[],_,h,_,_,_,_=>absurd rfl h
 |_::_,[],_,h,_,_,_=>absurd rfl h
 |[x],[y],_,_,_,_,h=>by rw[show x=y from h]
 |[x],y::z::r,_,_,hp,_,h=>by
  have h':x=y++c::jn c (z::r):=h
  exact absurd (by rw[h'];simp) (hp x bj)
 |x::y::r,[z],_,_,_,hq,h=>by
  have h':x++c::jn c (y::r)=z:=h
  exact absurd (by rw[←h'];simp) (hq z bj)
 |x::y::r,z::u::t,_,_,hp,hq,h=>by
  obtain⟨e1,e2⟩:=a3b (hp x bj) (hq z bj) h;have e3:=a9O (cons_ne_nil _ _) (cons_ne_nil _ _) (fun p hp'=>hp p (aE _ hp')) (fun q hq'=>hq q (aE _ hq')) e2
  rw[e1,e3]
theorem a6z:∀{ps qs:List Str},ps.map cd=qs.map cd->ps=qs
 |[],[],_=>rfl
 |[],_::_,h=>by cases h
 |_::_,[],h=>by cases h
 |x::r,y::t,h=>by
  obtain⟨e1,e2⟩:=List.cons.inj h;rw[Z9 e1,a6z e2]
variable{c:Nat}
theorem a1F{ps:List Str}(hn:ps≠[])(hf:∀p∈ps,c∉cd p)(h:cd x=jn c (ps.map cd)):Txt.split x ⟨#[c]⟩=ps:=by
 have h1:=StrLaws.join_split x ⟨#[c]⟩
 have h2:jn c ((Txt.split x ⟨#[c]⟩).map cd)=jn c (ps.map cd):=by rw[←a1v,h1,h]
 have h3:Txt.split x ⟨#[c]⟩≠[]:=fun e=>by
  have:=PyProof.Rows.split_pos x ⟨#[c]⟩
  rw[e] at this;exact absurd this (by decide)
 refine a6z (a9O (fun e=>h3 (List.map_eq_nil_iff.mp e)) (fun e=>hn (List.map_eq_nil_iff.mp e)) (fun p hp=>?_) (fun p hp=>?_) h2)
 · obtain⟨q,hq,rfl⟩:=ak.mp hp;exact StrLaws.split_free x c q hq
 · obtain⟨q,hq,rfl⟩:=ak.mp hp;exact hf q hq
def b7t:Str:="0123456789"
noncomputable def a0h:Str:="abcdefghijklmnopqrstuvwxyz0123456789"
def L9(c:Nat):Bool:=decide (c∈cd a0h)
def M8(c:Nat):Bool:=decide (c∈cd b7t)
theorem a3Z(c:Nat):M8 c=true↔48<=c/\c<=57:=by
 unfold M8;rw[decide_eq_true_iff,show cd b7t=List.range' 48 10 from by decide+kernel,List.mem_range'_1]
 exact and_congr_right fun _=>Nat.lt_succ_iff
def j0(z:Str):Bool:=decide (1<=z.length)&&decide (z.length<=12)&&(cd z).all L9
noncomputable def a1a(z:Str):Bool:=decide (1<=z.length)&&decide (z.length<=5)&&(cd z).all M8&&(decide (z="0")||!decide ((cd z).head? =some 48))
noncomputable def O6(z:Str):Option Int:=if(cd z).all M8=true then(if z=""∨5<z.length∨((cd z).head? =some 48/\1<z.length) then none else some ((NumText.digitsVal (cd z):Nat):Int)) else none
noncomputable def tl(z:Str):Str:=⟨((cd z).drop 1).toArray⟩
theorem a7c(z:Str):cd (tl z)=(cd z).drop 1:=by simp[tl,cd]
def a2E(z:Str):Bool:=if(cd z).head? =some 45 then(!decide (z="-0")&&a1a (tl z)) else a1a z
def X0(z:Str):Option Int:=if(cd z).head? =some 45 then(match O6 (tl z) with|none=>none|some n=>if n=0 then none else some (-n)) else O6 z
theorem a7I(z:Str):z=""↔z.length=0:=by
 constructor
 · rintro rfl;rfl
 · intro h;refine Z9 ?_
   have:(cd z).length=0:=by rw[u5];exact h
   rw[length_eq_zero_iff.mp this];rfl
variable{z:Str}
theorem a2o(h:(cd z).all M8=true):NumText.AllDigits (cd z):=fun c hc=>(a3Z c).mp (bv.mp h c hc)
theorem a2Y:∀(cs:List Nat) (a:Nat),a<=cs.foldl (fun acc c=>acc*10+(c-48)) a
 |[],a=>ai _
 |c::r,a=>aY (by omega) (a2Y r (a*10+(c-48)))
theorem a6d{r:List Nat}(h:48<c):0<NumText.digitsVal (c::r):=by
 unfold NumText.digitsVal;rw[foldl_cons];exact aC (by omega) (a2Y r (0*10+(c-48)))
theorem a1K:a1a z=(O6 z).isSome:=by
 unfold a1a O6
 by_cases h:(cd z).all M8=true
 · rw [ay h,h]
   by_cases q:z=""∨5<z.length∨((cd z).head? =some 48/\1<z.length)
   · rw[ay q]
     show _=false
     rcases q with q|q|⟨q1,q2⟩
     · rw[a7I] at q;simp[q]
     · simp[show¬z.length<=5 by omega]
     · have ne:¬z="0":=by rintro rfl;exact absurd q2 (by decide)
       simp[q1,ne]
   · rw [az q]
     show _=true
     have q1:¬z.length=0:=fun e=>q (.inl ((a7I z).mpr e))
     have q2:z.length<=5:=bc fun e=>q (.inr (.inl e))
     have q3:z="0"∨¬(cd z).head? =some 48:=by
      by_cases e:(cd z).head? =some 48
      · left
        have l:z.length=1:=by
         have k:¬1<z.length:=fun e'=>q (.inr (.inr ⟨e,e'⟩))
         omega
        refine Z9 ?_
        have l':(cd z).length=1:=by rw[u5];exact l
        obtain⟨x,hx⟩:=List.length_eq_one_iff.mp l';rw[hx] at e⊢
        have e':x=48:=by simpa using e
        rw[e']
        decide+kernel
      · exact .inr e
     have a1:1<=z.length:=by omega
     rcases q3 with q3|q3
     · rw[q3];decide+kernel
     · simp[a1,q2,q3]
 · rw[az h]
   show _=false
   simp[show(cd z).all M8=false from by simpa using h]
variable{n:Int}
theorem a1s (h:O6 z=some n):intText? z=some n/\z.length<=640/\0<=n/\(n=0↔z="0"):=by
 unfold O6 at h
 by_cases q:(cd z).all M8=true
 · rw[ay q] at h
   by_cases p:z=""∨5<z.length∨((cd z).head? =some 48/\1<z.length)
   · rw[ay p] at h;cases h
   · rw [az p] at h;cases h
     have p1:¬z.length=0:=fun e=>p (.inl ((a7I z).mpr e))
     have p2:z.length<=5:=bc fun e=>p (.inr (.inl e))
     have ne:cd z≠[]:=fun e=>p1 (by rw[←u5,e];rfl)
     refine⟨PySem.intText_digits (a2o q) ne (by omega),by omega,Int.natCast_nonneg _,?_,?_⟩
     · intro e
       have e0:NumText.digitsVal (cd z)=0:=by omega
       cases hz:cd z with
       |nil=>exact absurd hz ne
       | cons c r=>
        have hc:c=48:=by
         have:=(a2o q) c (by rw[hz];exact bj)
         rw[hz] at e0
         by_cases k:48<c
         · exact absurd (a6d (r:=r) k) (by omega)
         · omega
        have hl:¬1<z.length:=fun e'=>p (.inr (.inr ⟨by rw[hz,hc];rfl,e'⟩))
        have hr:r=[]:=by
         have:(cd z).length=r.length+1:=by rw[hz];rfl
         rw[u5] at this;exact length_eq_zero_iff.mp (by omega)
        refine Z9 ?_
        rw[hz,hc,hr]
        decide+kernel
     · rintro rfl
       decide+kernel
 · rw[az q] at h;cases h
theorem a4B:a2E z=(X0 z).isSome:=by
 unfold a2E X0
 by_cases h:(cd z).head? =some 45
 · rw [ay h,ay h,a1K]
   have hz:(z="-0")↔tl z="0":=by
    constructor
    · rintro rfl;decide+kernel
    · intro e;refine Z9 ?_
      have e1:(cd z).drop 1=cd "0":=by rw[←a7c,e]
      cases hc:cd z with
      |nil=>rw[hc] at h;cases h
      |cons c r=>
       rw[hc] at h e1
       have hc':c=45:=by simpa using h
       have hr:r=cd "0":=e1
       rw[hc',hr]
       decide+kernel
   cases q:O6 (tl z) with
   |none=>simp
   |some n=>
    obtain⟨_,_,_,k⟩:=a1s q
    by_cases e:n=0
    · simp[e,hz,k.mp e]
    · have k':¬tl z="0":=fun z'=>e (k.mpr z')
      simp[e,hz,k']
 · rw[az h,az h];exact a1K
theorem a1o(h:X0 z=some n):intText? z=some n/\z.length<=640:=by
 unfold X0 at h
 by_cases q:(cd z).head? =some 45
 · rw [ay q] at h
   cases e:O6 (tl z) with
   |none=>rw[e] at h;cases h
   |some m=>
    rw[e] at h
    dsimp only at h
    by_cases m0:m=0
    · rw[ay m0] at h;cases h
    · rw [az m0] at h;cases h
      cases hc:cd z with
      |nil=>rw[hc] at q;cases q
      |cons c r=>
       have hc':c=45:=by rw[hc] at q;simpa using q
       have ht:cd (tl z)=r:=by rw[a7c,hc];rfl
       unfold O6 at e
       by_cases f:(cd (tl z)).all M8=true
       · rw[ay f] at e
         by_cases p:tl z=""∨5<(tl z).length∨((cd (tl z)).head? =some 48/\1<(tl z).length)
         · rw[ay p] at e;cases e
         · rw[az p] at e;cases e
           have l2:(tl z).length<=5:=bc fun k=>p (.inr (.inl k))
           have l3:z.length=(tl z).length+1:=by rw[←u5 z,←u5 (tl z),ht,hc];rfl
           have ne:r≠[]:=fun k=>p (.inl ((a7I _).mpr (by rw[←u5,ht,k];rfl)))
           refine⟨?_,by omega⟩
           rw[ht];exact PySem.intText_neg (by rw[←hc'];exact hc) (ht▸a2o f) ne (by omega)
       · rw[az f] at e;cases e
 · rw[az q] at h;exact⟨(a1s h).1,(a1s h).2.1⟩
end L2T
namespace EV
open PySem L2
noncomputable def abc:Str:="abcdefghijklmnopqrstuvwxyz"
def cA:E:=(.comp (.nm 0) (.rng1 (.v 1)) 1 [3,2,1] .yes (.bin .mul (.ix (.v 2) (.v 1)) (.bin .sub (.v 3) (.v 0))))
def cS:E:=(.comp (.nm 0) (.rng1 (.v 4)) 1 [0,2] .yes (.ix (.bin .add (.v 2) (.k (.str "0123456789"))) (.bin .mod (.bin .add (.bin .div (.v 1) (.k (.int (16224)))) (.bin .mul (.k (.int (7))) (.v 0))) (.k (.int (36))))))
def cB:E:=(.comp (.nm 0) (.rng1 (.v 1)) 1 [3,2,5,6] .yes (.bin .add (.bin .add (.sl (.v 4) .no (.at (.v 3))) (.ix (.v 2) (.bin .mod (.bin .add (.v 1) (.bin .mul (.k (.int (5))) (.v 0))) (.k (.int (26)))))) (.sl (.v 4) (.at (.v 3)) .no)))
noncomputable def jnD:List (D×D):=[((.str "both"),(.int (4))),((.str "back"),(.int (2))),((.str "none"),(.int (1))),((.str "clear"),(.int (1)))]
noncomputable def jnE:E:=(.lst (.cons (.k (.str "both")) (.cons (.k (.str "back")) (.cons (.k (.str "none")) (.cons (.k (.str "both")) (.cons (.k (.str "clear")) (.cons (.k (.str "both")) .nil)))))))
noncomputable def wyE:E:=(.lst (.cons (.k (.str "left")) (.cons (.k (.str "right")) (.cons (.k (.str "either")) .nil))))
def fcE:E:=(.comp (.nm 0) (.rng1 (.v 8)) 1 [6,1] .yes (.ix (.ix (.v 2) (.bin .mod (.bin .div (.v 1) (.bin .add (.bin .mul (.bin .mul (.v 0) (.v 0)) (.k (.int (31)))) (.k (.int (7))))) (.bi .len (.cons (.v 2) .nil)))) (.k (.int (0)))))
def lB5:Ss:=(.cons (.ex (.mt .append (.v 4) (.cons (.tup (.cons (.ix (.v 3) (.v 5)) (.cons (.v 7) (.cons (.ix wyE (.bin .mod (.bin .div (.v 6) (.k (.int (6)))) (.k (.int (3))))) (.cons (.v 9) .nil))))) .nil))) .nil)
def lB4:Ss:=(.cons (.set 9 (.bi .tuple (.cons fcE .nil))) lB5)
def lB3:Ss:=(.cons (.set 8 (.ix (.dlit jnD) (.v 7))) lB4)
def lB:Ss:=(.cons (.set 6 (.call 202 (.cons (.v 0) (.cons (.bin .add (.v 5) (.k (.int (100)))) .nil)))) (.cons (.set 7 (.ix jnE (.bin .mod (.v 6) (.k (.int (6)))))) lB3))
noncomputable def foJ:E:=(.comp (.nm 0) (.seq (.v 1)) 1 [0] .yes (.ix (.ix (.fld (.v 1) "letters") (.v 0)) (.k (.int (0)))))
noncomputable def foD(i:Int):E:=(.bi .dict (.cons (.comp (.nm 0) (.seq (.v 3)) 1 [] .yes (.tup (.cons (.ix (.v 0) (.k (.int i))) (.cons (.k (.bl true)) .nil)))) .nil))
def foB:Ss:=(.cons (.ex (.mt .append (.v 6) (.cons (.call 37 (.cons (.ix (.ix (.fld (.v 0) "letters") (.v 2)) (.k (.int (2)))) (.cons (.bin .isin (.v 7) (.v 5)) (.cons (.bin .isin (.v 7) (.v 4)) .nil)))) .nil))) .nil)
noncomputable def nrT:T:=(.chn .le .lt (.k (.int (0))) (.v 4) (.bi .len (.cons (.v 1) .nil)))
noncomputable def nrX:E:=(.ix (.ix (.v 0) (.ix (.v 1) (.v 4))) (.k (.int (0))))
def nrB:Ss:=(.cons (.iff (.cmp .ne nrX (.k (.str "clear"))) (.cons (.ret nrX) .nil) .nil) (.cons (.set 4 (.bin .add (.v 4) (.v 3))) .nil))
def fcA:E:=(.an (.bin .eq (.call 216 (.cons (.v 0) (.cons (.v 1) (.cons (.v 2) (.cons (.neg (.k (.int (1)))) .nil))))) (.k (.str "both"))) (.bin .isin (.v 3) (.tup (.cons (.k (.str "both")) (.cons (.k (.str "back")) .nil)))))
def fcC:E:=(.an (.bin .isin (.call 216 (.cons (.v 0) (.cons (.v 1) (.cons (.v 2) (.cons (.k (.int (1))) .nil))))) (.tup (.cons (.k (.str "both")) (.cons (.k (.str "back")) .nil)))) (.bin .eq (.v 3) (.k (.str "both"))))
noncomputable def fcR:E:=(.ix (.v 4) (.ix (.ix (.lst (.cons (.lst (.cons (.k (.int (0))) (.cons (.k (.int (1))) .nil))) (.cons (.lst (.cons (.k (.int (3))) (.cons (.k (.int (2))) .nil))) .nil))) (.bi .int (.cons (.v 5) .nil))) (.bi .int (.cons (.v 6) .nil))))
def fcQ:E:=(.ix (.v 4) (.bi .int (.cons (.an (.v 5) (.bin .eq (.v 3) (.k (.str "back")))) .nil)))
noncomputable def loB:Ss:=(.cons (.six (.v 1) (.v 2) (.tup (.cons (.v 3) (.cons (.v 5) .nil)))) .nil)
def oB:Ss:=(.cons (.ex (.mt .insert (.v 5) (.cons (.bin .mod (.call 202 (.cons (.call 201 (.cons (.v 0) (.cons (.k (.int (1))) .nil))) (.cons (.bin .add (.v 6) (.k (.int (9)))) .nil))) (.bin .add (.v 6) (.k (.int (1))))) (.cons (.ix (.v 4) (.v 6)) .nil)))) .nil)
noncomputable def b4M:E:=(.lst (.cons (.k (.str "both")) (.cons (.k (.str "back")) (.cons (.k (.str "both")) (.cons (.k (.str "none")) (.cons (.k (.str "clear")) (.cons (.k (.str "both")) (.cons (.k (.str "both")) .nil))))))))
def owT:T:=(.an (.val (.v 1)) (.cmp .eq (.bin .mod (.bin .div (.v 9) (.k (.int (7)))) (.k (.int (3)))) (.k (.int (0)))))
def owI:Ss:=(.cons (.set 12 (.comp (.nm 0) (.rng1 (.v 11)) 1 [9,5] .yes (.ix (.v 2) (.bin .mod (.bin .div (.v 1) (.bin .add (.v 0) (.k (.int (8))))) (.k (.int (8))))))) .nil)
def b6P:Ss:=(.cons (.ex (.mt .append (.v 7) (.cons (.tup (.cons (.ix (.v 3) (.v 6)) (.cons (.v 10) (.cons (.ix wyE (.bin .mod (.bin .div (.v 9) (.k (.int (21)))) (.k (.int (3))))) (.cons (.bi .tuple (.cons (.v 12) .nil)) .nil))))) .nil))) (.cons (.set 8 (.bin .add (.v 8) (.v 11))) .nil))
def b4i:Ss:=(.cons (.iff owT owI .nil) b6P)
def b1J:Ss:=(.cons (.set 12 (.sl (.v 5) (.at (.v 8)) (.at (.bin .add (.v 8) (.v 11))))) b4i)
def b6Q:Ss:=(.cons (.set 11 (.ix (.dlit jnD) (.v 10))) b1J)
def owB:Ss:=(.cons (.set 9 (.call 202 (.cons (.call 201 (.cons (.v 0) (.cons (.k (.int (2))) .nil))) (.cons (.bin .add (.v 6) (.k (.int (40)))) .nil)))) (.cons (.set 10 (.ix b4M (.bin .mod (.v 9) (.k (.int (7)))))) b6Q))
def otE:E:=(.bin .add (.bin .add (.bin .add (.k (.str "shape ")) (.v 1)) (.k (.str " "))) (.bi .str (.cons (.bin .mod (.bin .mul (.v 0) (.k (.int (7)))) (.k (.int (5)))) .nil)))
def otC:E:=(.comp (.tp (.cons (.nm 0) (.cons (.nm 1) .nil))) (.enum (.v 0)) 2 [] .yes otE)
def otL:E:=(.bin .add (.lst (.cons (.k (.str "letter")) (.cons (.v 0) (.cons (.v 1) (.cons (.v 2) .nil))))) (.bi .list (.cons (.v 3) .nil)))
def otD:E:=(.comp (.tp (.cons (.nm 0) (.cons (.nm 1) (.cons (.nm 2) (.cons (.nm 3) .nil))))) (.seq (.v 1)) 4 [] .yes (.mt .join (.k (.str " ")) (.cons otL .nil)))
def spC:E:=(.comp (.nm 0) (.seq (.v 1)) 1 [8,2] (.cmp .eq (.ix (.v 0) (.k (.int (0)))) (.ix (.v 2) (.v 1))) (.ix (.v 0) (.k (.int (3)))))
def spL:E:=(.lst (.cons (.ix (.v 0) (.bin .mod (.bin .div (.v 7) (.k (.int (64)))) (.bi .len (.cons (.v 0) .nil)))) (.cons (.ix (.v 9) (.bin .mod (.bin .div (.v 7) (.k (.int (64)))) (.bi .len (.cons (.v 9) .nil)))) (.cons (.ix (.v 9) (.bin .mod (.bin .div (.v 7) (.k (.int (64)))) (.bi .len (.cons (.v 9) .nil)))) (.cons (.k (.str "Q")) (.cons (.k (.str "")) .nil))))))
def spB:Ss:=(.cons (.set 7 (.call 202 (.cons (.v 4) (.cons (.v 6) .nil)))) (.cons (.set 8 (.bin .mod (.v 7) (.bi .len (.cons (.v 5) .nil)))) (.cons (.set 9 (.ix spC (.k (.int (0))))) (.cons (.set 10 spL) (.cons (.six (.v 5) (.v 8) (.ix (.v 10) (.bin .mod (.bin .div (.v 7) (.k (.int (4096)))) (.k (.int (5)))))) .nil)))))
def duC:E:=(.comp (.nm 0) (.seq (.v 0)) 1 [4] (.cmp .isin (.v 1) (.ix (.v 0) (.k (.int (3))))) (.ix (.v 0) (.k (.int (0)))))
def duB:Ss:=(.cons (.set 5 duC) (.cons (.iff (.cmp .ne (.bi .len (.cons (.v 5) .nil)) (.k (.int (1)))) (.cons (.ret (.k .non)) .nil) .nil) (.cons (.ex (.mt .append (.v 3) (.cons (.ix (.v 5) (.k (.int (0)))) .nil))) .nil)))
noncomputable def duF:E:=(.comp (.nm 0) (.rng1 (.bi .len (.cons (.v 3) .nil))) 1 [3,1] .yes (.call 217 (.cons (.v 2) (.cons (.v 1) (.cons (.v 0) .nil)))))
def rwE:E:=(.comp (.tp (.cons (.nm 0) (.cons (.nm 1) .nil))) (.enum (.bin .add (.sl (.v 0) (.at (.k (.int (3)))) (.at (.k (.int (43))))) (.lst (.cons (.k (.int (1))) .nil)))) 2 [3] .yes (.ix (.ix (.v 2) (.bin .mod (.call 202 (.cons (.v 1) (.cons (.v 0) .nil))) (.bi .len (.cons (.v 2) .nil)))) (.k (.int (0)))))
def lwB:Ss:=(.cons (.set 9 (.call 206 (.cons (.v 2) (.cons (.v 3) (.cons (.v 6) (.cons (.v 7) (.cons (.call 202 (.cons (.v 1) (.cons (.v 8) .nil))) .nil))))))) (.cons (.set 10 (.call 208 (.cons (.v 3) (.cons (.v 5) (.cons (.v 9) .nil))))) (.cons (.set 11 (.bi .list (.cons (.v 9) .nil))) (.cons (.pat (.tp (.cons (.nm 12) (.cons (.nm 13) .nil))) (.call 207 (.cons (.v 4) (.cons (.v 11) .nil)))) (.cons (.iff (.orr (.cmp .ne (.v 11) (.v 9)) (.cmp .ne (.v 12) (.ix (.lst (.cons (.k (.str "row")) (.cons (.k (.str "none")) .nil))) (.bi .int (.cons (.isN (.v 10)) .nil))))) (.cons (.ret (.k (.bl false))) .nil) .nil) (.cons (.iff (.an (.notN (.v 10)) (.nt (.val (.call 219 (.cons (.v 13) (.cons (.v 10) .nil)))))) (.cons (.ret (.k (.bl false))) .nil) .nil) .nil))))))
noncomputable def lwF:E:=(.comp (.nm 0) (.rng1 (.bi .len (.cons (.v 6) .nil))) 1 [6,5] .yes (.call 217 (.cons (.v 2) (.cons (.v 1) (.cons (.v 0) .nil)))))
def o7:Fn:=⟨2,4,1,(.cons (.for (.tp (.cons (.nm 2) (.cons (.nm 3) .nil))) (.enum (.v 1)) (.cons (.iff (.cmp .notin (.v 3) (.fld (.v 0) "letters")) (.cons .bad .nil) .nil) .nil)) .nil)⟩
def D0:Fn:=⟨2,8,2,(.cons (.ex (.call 33 (.cons (.v 0) (.cons (.v 1) .nil)))) (.cons (.set 3 (.call 35 (.cons foJ .nil))) (.cons (.set 4 (foD 0)) (.cons (.set 5 (foD 1)) (.cons (.set 6 (.lst .nil)) (.cons (.for (.tp (.cons (.nm 7) (.cons (.nm 2) .nil))) (.enum (.v 1)) foB) (.cons (.ret (.v 6)) .nil)))))))⟩
def r8:Fn:=⟨1,2,2,(.cons (.set 1 (.comp (.tp (.cons (.nm 0) (.cons (.nm 1) .nil))) (.enum (.v 0)) 2 [] (.cmp .ne (.v 1) (.k (.str "clear"))) (.v 0))) (.cons (.ret (.comp (.nm 0) (.zip (.v 1) (.sl (.v 1) (.at (.k (.int (1)))) .no)) 1 [0] (.val (.call 36 (.cons (.ix (.v 1) (.ix (.v 0) (.k (.int (0))))) (.cons (.ix (.v 1) (.ix (.v 0) (.k (.int (1))))) .nil)))) (.v 0))) .nil))⟩
def y0:Fn:=⟨2,2,1,(.cons (.ret (.an (.bin .eq (.v 0) (.k (.str "both"))) (.gin false (.v 1) [(.str "both"),(.str "back")]))) .nil)⟩
noncomputable def z6:Fn:=⟨3,3,1,(.cons (.iff (.an (.val (.v 1)) (.val (.v 2))) (.cons (.ret (.ix (.v 0) (.k (.int (2))))) .nil) .nil) (.cons (.iff (.val (.v 2)) (.cons (.ret (.ix (.v 0) (.k (.int (1))))) .nil) .nil) (.cons (.iff (.val (.v 1)) (.cons (.ret (.ix (.v 0) (.neg (.k (.int (1)))))) .nil) .nil) (.cons (.ret (.ix (.v 0) (.k (.int (0))))) .nil))))⟩
def E7:Fn:=⟨2,3,2,(.cons (.setc 2 (.comp (.nm 0) (.seq (.v 1)) 1 [0] .yes (.call 39 (.cons (.v 1) (.cons (.v 0) .nil))))) (.cons (.iff (.cmp .ne (.call 34 (.cons (.v 0) (.cons (.v 2) .nil))) (.bi .list (.cons (.v 1) .nil))) (.cons (.rais 4 (.cons (.k (.str "the letters of these shapes have other faces")) .nil)) .nil) .nil) (.cons (.ret (.v 2)) .nil)))⟩
def x8:Fn:=⟨2,3,1,(.cons (.set 2 (.compI (.tp (.cons (.nm 0) (.cons (.nm 1) .nil))) (.fld (.v 0) "letters") 2 [1] (.cmp .isin (.v 2) (.ix (.v 1) (.k (.int (2))))) (.v 0))) (.cons (.iff (.cmp .ne (.bi .len (.cons (.v 2) .nil)) (.k (.int (1)))) (.cons (.rais 4 (.cons (.k (.str "a shape does not stand for just one letter")) .nil)) .nil) .nil) (.cons (.ret (.ix (.v 2) (.k (.int (0))))) .nil)))⟩
def Q0:Fn:=⟨1,1,2,(.cons (.ret (.comp (.nm 0) (.seq (.mt .split (.v 0) (.cons (.k (.str " ")) .nil))) 1 [] (.cmp .ne (.v 0) (.k (.str ""))) (.v 0))) .nil)⟩
def W0:Fn:=⟨2,2,1,(.cons (.ret (.bi .all (.cons (.comp (.nm 0) (.seq (.v 0)) 1 [1] .yes (.bin .isin (.v 0) (.v 1))) .nil))) .nil)⟩
noncomputable def W1:Fn:=⟨1,1,1,(.cons (.ret (.an (.chn .le .le (.k (.int (1))) (.bi .len (.cons (.v 0) .nil)) (.k (.int (12)))) (.call 2 (.cons (.v 0) (.cons (.k (.str "abcdefghijklmnopqrstuvwxyz0123456789")) .nil))))) .nil)⟩
def N4:Fn:=⟨1,1,1,(.cons (.iff (.orr (.nt (.chn .le .le (.k (.int (1))) (.bi .len (.cons (.v 0) .nil)) (.k (.int (5))))) (.nt (.val (.call 2 (.cons (.v 0) (.cons (.k (.str "0123456789")) .nil)))))) (.cons (.ret (.k (.bl false))) .nil) .nil) (.cons (.ret (.orr (.bin .eq (.v 0) (.k (.str "0"))) (.bin .ne (.ix (.v 0) (.k (.int (0)))) (.k (.str "0"))))) .nil))⟩
def B7:Fn:=⟨1,1,1,(.cons (.iff (.val (.mt .starts (.v 0) (.cons (.k (.str "-")) .nil))) (.cons (.ret (.an (.bin .ne (.v 0) (.k (.str "-0"))) (.call 4 (.cons (.sl (.v 0) (.at (.k (.int (1)))) .no) .nil)))) .nil) .nil) (.cons (.ret (.call 4 (.cons (.v 0) .nil))) .nil))⟩
noncomputable def K6:Fn:=⟨1,1,1,(.cons (.ret (.sl (.v 0) (.at (.bi .len (.cons (.k (.str "@")) .nil))) .no)) .nil)⟩
noncomputable def K1:Fn:=⟨1,1,1,(.cons (.ret (.an (.mt .starts (.v 0) (.cons (.k (.str "@")) .nil)) (.call 3 (.cons (.call 6 (.cons (.v 0) .nil)) .nil)))) .nil)⟩
noncomputable def a0P:Fn:=⟨1,1,1,(.cons (.ret (.orr (.call 3 (.cons (.v 0) .nil)) (.call 7 (.cons (.v 0) .nil)))) .nil)⟩
noncomputable def U0:Fn:=⟨1,1,1,(.cons (.ret (.bi .all (.cons (.comp (.nm 0) (.seq (.v 0)) 1 [] .yes (.call 3 (.cons (.v 0) .nil))) .nil))) .nil)⟩
noncomputable def D1:Fn:=⟨1,1,1,(.cons (.ret (.bi .all (.cons (.comp (.nm 0) (.seq (.v 0)) 1 [] .yes (.call 5 (.cons (.v 0) .nil))) .nil))) .nil)⟩
noncomputable def U1:Fn:=⟨1,1,1,(.cons (.ret (.bi .all (.cons (.comp (.nm 0) (.seq (.v 0)) 1 [] .yes (.call 8 (.cons (.v 0) .nil))) .nil))) .nil)⟩
noncomputable def J5:Fn:=⟨1,1,0,(.cons (.sfl (.v 0) "shapes" .dnew) (.cons (.sfl (.v 0) "marks" .dnew) (.cons (.sfl (.v 0) "points" .dnew) (.cons (.sfl (.v 0) "letters" .dnew) (.cons (.sfl (.v 0) "gaps" (.lst .nil)) (.cons (.sfl (.v 0) "classes" .dnew) (.cons (.sfl (.v 0) "features" .dnew) (.cons (.sfl (.v 0) "rules" (.lst .nil)) .nil))))))))⟩
def N3:Fn:=⟨1,6,0,(.cons (.set 1 (.mk 6 .nil)) (.cons (.for (.tp (.cons (.nm 2) (.cons (.nm 3) .nil))) (.enum (.mt .split (.v 0) (.cons (.k (.str "\n")) .nil))) (.cons (.set 4 (.call 1 (.cons (.v 3) .nil))) (.cons (.iff (.cmp .gt (.bi .len (.cons (.v 4) .nil)) (.k (.int (0)))) (.cons (.set 5 (.call 13 (.cons (.v 1) (.cons (.v 4) .nil)))) (.cons (.iff (.notN (.v 5)) (.cons .bad .nil) .nil) .nil)) .nil) .nil))) (.cons (.ret (.v 1)) .nil)))⟩
def B6:Fn:=⟨2,3,0,(.cons (.set 2 (.ix (.v 1) (.k (.int (0))))) (.cons (.iff (.cmp .eq (.v 2) (.k (.str "shape"))) (.cons (.ret (.call 17 (.cons (.v 0) (.cons (.v 1) .nil)))) .nil) .nil) (.cons (.iff (.cmp .eq (.v 2) (.k (.str "mark"))) (.cons (.ret (.call 19 (.cons (.v 0) (.cons (.v 1) .nil)))) .nil) .nil) (.cons (.iff (.cmp .eq (.v 2) (.k (.str "point"))) (.cons (.ret (.call 20 (.cons (.v 0) (.cons (.v 1) .nil)))) .nil) .nil) (.cons (.iff (.cmp .eq (.v 2) (.k (.str "letter"))) (.cons (.ret (.call 22 (.cons (.v 0) (.cons (.v 1) .nil)))) .nil) .nil) (.cons (.iff (.cmp .eq (.v 2) (.k (.str "gap"))) (.cons (.ret (.call 23 (.cons (.v 0) (.cons (.v 1) .nil)))) .nil) .nil) (.cons (.iff (.cmp .eq (.v 2) (.k (.str "class"))) (.cons (.ret (.call 24 (.cons (.v 0) (.cons (.v 1) .nil)))) .nil) .nil) (.cons (.iff (.cmp .eq (.v 2) (.k (.str "feature"))) (.cons (.ret (.call 25 (.cons (.v 0) (.cons (.v 1) .nil)))) .nil) .nil) (.cons (.iff (.cmp .eq (.v 2) (.k (.str "rule"))) (.cons (.ret (.call 26 (.cons (.v 0) (.cons (.v 1) .nil)))) .nil) .nil) (.cons (.ret (.k (.str "row"))) .nil))))))))))⟩
noncomputable def N5:Fn:=⟨3,3,1,(.cons (.iff (.val (.v 0)) (.cons (.ret (.k (.str "twice"))) .nil) .nil) (.cons (.iff (.nt (.val (.v 1))) (.cons (.ret (.k (.str "name"))) .nil) .nil) (.cons (.iff (.val (.v 2)) (.cons (.ret (.k (.str "many"))) .nil) .nil) (.cons (.ret (.k .non)) .nil))))⟩
def L5:Fn:=⟨2,2,1,(.cons (.ret (.bi .all (.cons (.comp (.nm 0) (.seq (.v 1)) 1 [0] .yes (.bin .isin (.v 0) (.fld (.v 1) "shapes"))) .nil))) .nil)⟩
noncomputable def V9:Fn:=⟨1,1,1,(.cons (.ret (.tup (.cons (.bi .int (.cons (.ix (.v 0) (.k (.int (0)))) .nil)) (.cons (.bi .int (.cons (.ix (.v 0) (.k (.int (1)))) .nil)) .nil)))) .nil)⟩
def L1:Fn:=⟨2,4,0,(.cons (.iff (.orr (.cmp .ne (.bi .len (.cons (.v 1) .nil)) (.k (.int (3)))) (.orr (.nt (.val (.call 3 (.cons (.ix (.v 1) (.k (.int (1)))) .nil)))) (.nt (.val (.call 4 (.cons (.ix (.v 1) (.k (.int (2)))) .nil)))))) (.cons (.ret (.k (.str "row"))) .nil) .nil) (.cons (.set 2 (.ix (.v 1) (.k (.int (1))))) (.cons (.set 3 (.call 14 (.cons (.bin .isin (.v 2) (.fld (.v 0) "shapes")) (.cons (.k (.bl true)) (.cons (.bin .ge (.bi .len (.cons (.fld (.v 0) "shapes") .nil)) (.k (.int (60)))) .nil))))) (.cons (.iff (.isN (.v 3)) (.cons (.six (.fld (.v 0) "shapes") (.v 2) (.bi .int (.cons (.ix (.v 1) (.k (.int (2)))) .nil))) .nil) .nil) (.cons (.ret (.v 3)) .nil)))))⟩
def E3:Fn:=⟨2,2,1,(.cons (.iff (.orr (.cmp .ne (.bi .len (.cons (.v 0) .nil)) (.bin .add (.k (.int (3))) (.v 1))) (.nt (.val (.call 3 (.cons (.ix (.v 0) (.k (.int (1)))) .nil))))) (.cons (.ret (.k (.bl false))) .nil) .nil) (.cons (.ret (.an (.gin false (.ix (.v 0) (.k (.int (2)))) [(.str "above"),(.str "below")]) (.call 10 (.cons (.sl (.v 0) (.at (.k (.int (3)))) .no) .nil)))) .nil))⟩
def N2:Fn:=⟨2,4,0,(.cons (.iff (.nt (.val (.call 18 (.cons (.v 1) (.cons (.k (.int (4))) .nil))))) (.cons (.ret (.k (.str "row"))) .nil) .nil) (.cons (.set 2 (.ix (.v 1) (.k (.int (1))))) (.cons (.set 3 (.call 14 (.cons (.bin .isin (.v 2) (.fld (.v 0) "marks")) (.cons (.bin .isin (.v 2) (.fld (.v 0) "shapes")) (.cons (.k (.bl false)) .nil))))) (.cons (.iff (.isN (.v 3)) (.cons (.six (.fld (.v 0) "marks") (.v 2) (.tup (.cons (.ix (.v 1) (.k (.int (2)))) (.cons (.call 16 (.cons (.sl (.v 1) (.at (.k (.int (3)))) (.at (.k (.int (5))))) .nil)) (.cons (.call 16 (.cons (.sl (.v 1) (.at (.k (.int (5)))) (.at (.k (.int (7))))) .nil)) .nil))))) .nil) .nil) (.cons (.ret (.v 3)) .nil)))))⟩
def L3:Fn:=⟨2,5,0,(.cons (.iff (.nt (.val (.call 18 (.cons (.v 1) (.cons (.k (.int (2))) .nil))))) (.cons (.ret (.k (.str "row"))) .nil) .nil) (.cons (.set 2 (.ix (.v 1) (.k (.int (1))))) (.cons (.set 3 (.tup (.cons (.v 2) (.cons (.ix (.v 1) (.k (.int (2)))) .nil)))) (.cons (.set 4 (.call 14 (.cons (.bin .isin (.v 3) (.fld (.v 0) "points")) (.cons (.bin .isin (.v 2) (.fld (.v 0) "shapes")) (.cons (.k (.bl false)) .nil))))) (.cons (.iff (.isN (.v 4)) (.cons (.six (.fld (.v 0) "points") (.v 3) (.call 16 (.cons (.sl (.v 1) (.at (.k (.int (3)))) (.at (.k (.int (5))))) .nil))) .nil) .nil) (.cons (.ret (.v 4)) .nil))))))⟩
def C6:Fn:=⟨1,2,1,(.cons (.iff (.orr (.cmp .lt (.bi .len (.cons (.v 0) .nil)) (.k (.int (4)))) (.nt (.val (.call 3 (.cons (.ix (.v 0) (.k (.int (1)))) .nil))))) (.cons (.ret (.k (.bl false))) .nil) .nil) (.cons (.iff (.orr (.val (.gdin true (.ix (.v 0) (.k (.int (2)))) [((.str "none"),(.int (1))),((.str "clear"),(.int (1))),((.str "back"),(.int (2))),((.str "both"),(.int (4)))])) (.val (.gin true (.ix (.v 0) (.k (.int (3)))) [(.str "left"),(.str "right"),(.str "either")]))) (.cons (.ret (.k (.bl false))) .nil) .nil) (.cons (.set 1 (.sl (.v 0) (.at (.k (.int (4)))) .no)) (.cons (.ret (.an (.bin .eq (.bi .len (.cons (.v 1) .nil)) (.gdix (.ix (.v 0) (.k (.int (2)))) [((.str "none"),(.int (1))),((.str "clear"),(.int (1))),((.str "back"),(.int (2))),((.str "both"),(.int (4)))])) (.call 9 (.cons (.v 1) .nil)))) .nil))))⟩
def G9:Fn:=⟨2,5,0,(.cons (.iff (.nt (.val (.call 21 (.cons (.v 1) .nil)))) (.cons (.ret (.k (.str "row"))) .nil) .nil) (.cons (.set 2 (.ix (.v 1) (.k (.int (1))))) (.cons (.set 3 (.sl (.v 1) (.at (.k (.int (4)))) .no)) (.cons (.set 4 (.call 14 (.cons (.bin .isin (.v 2) (.fld (.v 0) "letters")) (.cons (.call 15 (.cons (.v 0) (.cons (.v 3) .nil))) (.cons (.bin .ge (.bi .len (.cons (.fld (.v 0) "letters") .nil)) (.k (.int (24)))) .nil))))) (.cons (.iff (.isN (.v 4)) (.cons (.six (.fld (.v 0) "letters") (.v 2) (.tup (.cons (.ix (.v 1) (.k (.int (2)))) (.cons (.ix (.v 1) (.k (.int (3)))) (.cons (.bi .tuple (.cons (.v 3) .nil)) .nil))))) .nil) .nil) (.cons (.ret (.v 4)) .nil))))))⟩
def Q7:Fn:=⟨2,4,0,(.cons (.iff (.orr (.cmp .ne (.bi .len (.cons (.v 1) .nil)) (.k (.int (2)))) (.nt (.val (.call 3 (.cons (.ix (.v 1) (.k (.int (1)))) .nil))))) (.cons (.ret (.k (.str "row"))) .nil) .nil) (.cons (.set 2 (.ix (.v 1) (.k (.int (1))))) (.cons (.set 3 (.call 14 (.cons (.bin .isin (.v 2) (.fld (.v 0) "gaps")) (.cons (.bin .isin (.v 2) (.fld (.v 0) "letters")) (.cons (.k (.bl false)) .nil))))) (.cons (.iff (.isN (.v 3)) (.cons (.ex (.mt .append (.fld (.v 0) "gaps") (.cons (.v 2) .nil))) .nil) .nil) (.cons (.ret (.v 3)) .nil)))))⟩
def L4:Fn:=⟨2,5,0,(.cons (.set 2 (.sl (.v 1) (.at (.k (.int (2)))) .no)) (.cons (.iff (.orr (.nt (.chn .le .le (.k (.int (1))) (.bi .len (.cons (.v 2) .nil)) (.k (.int (20))))) (.nt (.val (.call 9 (.cons (.sl (.v 1) (.at (.k (.int (1)))) .no) .nil))))) (.cons (.ret (.k (.str "row"))) .nil) .nil) (.cons (.set 3 (.ix (.v 1) (.k (.int (1))))) (.cons (.set 4 (.call 14 (.cons (.bin .isin (.v 3) (.fld (.v 0) "classes")) (.cons (.call 15 (.cons (.v 0) (.cons (.v 2) .nil))) (.cons (.bin .ge (.bi .len (.cons (.fld (.v 0) "classes") .nil)) (.k (.int (20)))) .nil))))) (.cons (.iff (.isN (.v 4)) (.cons (.six (.fld (.v 0) "classes") (.v 3) (.bi .tuple (.cons (.v 2) .nil))) .nil) .nil) (.cons (.ret (.v 4)) .nil))))))⟩
def F6:Fn:=⟨2,4,0,(.cons (.iff (.orr (.cmp .ne (.bi .len (.cons (.v 1) .nil)) (.k (.int (3)))) (.orr (.nt (.val (.call 3 (.cons (.ix (.v 1) (.k (.int (1)))) .nil)))) (.val (.gin true (.ix (.v 1) (.k (.int (2)))) [(.str "on"),(.str "off")])))) (.cons (.ret (.k (.str "row"))) .nil) .nil) (.cons (.set 2 (.ix (.v 1) (.k (.int (1))))) (.cons (.set 3 (.call 14 (.cons (.bin .isin (.v 2) (.fld (.v 0) "features")) (.cons (.k (.bl true)) (.cons (.bin .ge (.bi .len (.cons (.fld (.v 0) "features") .nil)) (.k (.int (10)))) .nil))))) (.cons (.iff (.isN (.v 3)) (.cons (.six (.fld (.v 0) "features") (.v 2) (.bin .eq (.ix (.v 1) (.k (.int (2)))) (.k (.str "on")))) .nil) .nil) (.cons (.ret (.v 3)) .nil)))))⟩
def T8:Fn:=⟨2,8,0,(.cons (.iff (.nt (.val (.call 27 (.cons (.v 1) .nil)))) (.cons (.ret (.k (.str "row"))) .nil) .nil) (.cons (.set 2 (.ix (.v 1) (.k (.int (1))))) (.cons (.set 3 (.ix (.v 1) (.k (.int (2))))) (.cons (.set 4 (.call 28 (.cons (.v 1) .nil))) (.cons (.set 5 (.bin .add (.bin .add (.ix (.v 4) (.k (.int (0)))) (.ix (.v 4) (.k (.int (1))))) (.ix (.v 4) (.k (.int (2)))))) (.cons (.set 6 (.an (.bin .isin (.v 3) (.fld (.v 0) "features")) (.an (.call 29 (.cons (.v 0) (.cons (.v 5) .nil))) (.call 15 (.cons (.v 0) (.cons (.ix (.v 4) (.k (.int (3)))) .nil)))))) (.cons (.set 7 (.call 14 (.cons (.call 31 (.cons (.v 0) (.cons (.v 2) .nil))) (.cons (.v 6) (.cons (.bin .ge (.bi .len (.cons (.fld (.v 0) "rules") .nil)) (.k (.int (30)))) .nil))))) (.cons (.iff (.isN (.v 7)) (.cons (.ex (.mt .append (.fld (.v 0) "rules") (.cons (.tup (.cons (.v 2) (.cons (.v 3) (.cons (.bi .tuple (.cons (.ix (.v 4) (.k (.int (0)))) .nil)) (.cons (.bi .tuple (.cons (.ix (.v 4) (.k (.int (1)))) .nil)) (.cons (.bi .tuple (.cons (.ix (.v 4) (.k (.int (2)))) .nil)) (.cons (.bi .tuple (.cons (.ix (.v 4) (.k (.int (3)))) .nil)) .nil))))))) .nil))) .nil) .nil) (.cons (.ret (.v 7)) .nil)))))))))⟩
def K5:Fn:=⟨1,2,1,(.cons (.iff (.nt (.val (.call 9 (.cons (.sl (.v 0) (.at (.k (.int (1)))) (.at (.k (.int (3))))) .nil)))) (.cons (.ret (.k (.bl false))) .nil) .nil) (.cons (.set 1 (.call 28 (.cons (.v 0) .nil))) (.cons (.iff (.orr (.isN (.v 1)) (.orr (.cmp .gt (.bi .len (.cons (.ix (.v 1) (.k (.int (0)))) .nil)) (.k (.int (3)))) (.cmp .gt (.bi .len (.cons (.ix (.v 1) (.k (.int (2)))) .nil)) (.k (.int (3)))))) (.cons (.ret (.k (.bl false))) .nil) .nil) (.cons (.iff (.orr (.nt (.chn .le .le (.k (.int (1))) (.bi .len (.cons (.ix (.v 1) (.k (.int (1)))) .nil)) (.k (.int (4))))) (.nt (.chn .le .le (.k (.int (1))) (.bi .len (.cons (.ix (.v 1) (.k (.int (3)))) .nil)) (.k (.int (3)))))) (.cons (.ret (.k (.bl false))) .nil) .nil) (.cons (.ret (.an (.call 11 (.cons (.bin .add (.bin .add (.ix (.v 1) (.k (.int (0)))) (.ix (.v 1) (.k (.int (1))))) (.ix (.v 1) (.k (.int (2))))) .nil)) (.call 9 (.cons (.ix (.v 1) (.k (.int (3)))) .nil)))) .nil)))))⟩
def Q8:Fn:=⟨1,4,0,(.cons (.set 1 (.lst (.cons (.lst .nil) .nil))) (.cons (.set 2 (.lst .nil)) (.cons (.for (.nm 3) (.seq (.sl (.v 0) (.at (.k (.int (3)))) .no)) (.cons (.iff (.cmp .isin (.v 3) (.tup (.cons (.k (.str "/")) (.cons (.k (.str ">")) .nil)))) (.cons (.ex (.mt .append (.v 2) (.cons (.v 3) .nil))) (.cons (.ex (.mt .append (.v 1) (.cons (.lst .nil) .nil))) .nil)) (.cons (.ex (.mt .append (.ix (.v 1) (.neg (.k (.int (1))))) (.cons (.v 3) .nil))) .nil)) .nil)) (.cons (.iff (.cmp .ne (.v 2) (.lst (.cons (.k (.str "/")) (.cons (.k (.str "/")) (.cons (.k (.str ">")) .nil))))) (.cons (.ret (.k .non)) .nil) .nil) (.cons (.ret (.v 1)) .nil)))))⟩
noncomputable def T9:Fn:=⟨2,2,1,(.cons (.ret (.bi .all (.cons (.comp (.nm 0) (.seq (.v 1)) 1 [0] .yes (.call 30 (.cons (.v 1) (.cons (.v 0) .nil)))) .nil))) .nil)⟩
def Z5:Fn:=⟨2,2,1,(.cons (.iff (.val (.call 7 (.cons (.v 1) .nil))) (.cons (.ret (.bin .isin (.call 6 (.cons (.v 1) .nil)) (.fld (.v 0) "classes"))) .nil) .nil) (.cons (.ret (.bin .isin (.v 1) (.fld (.v 0) "shapes"))) .nil))⟩
def Z4:Fn:=⟨2,2,1,(.cons (.ret (.bi .any (.cons (.comp (.nm 0) (.seq (.fld (.v 0) "rules")) 1 [1] .yes (.bin .eq (.ix (.v 0) (.k (.int (0)))) (.v 1))) .nil))) .nil)⟩
def z4:Fn:=⟨2,2,1,(.cons (.iff (.cmp .lt (.v 1) (.bi .len (.cons (.v 0) .nil))) (.cons (.ret (.ix (.v 0) (.v 1))) .nil) .nil) (.cons (.ret (.k (.int (0)))) .nil))⟩
def l9:Fn:=⟨2,2,1,(.cons (.ret (.bin .mod (.bin .mul (.bin .mul (.bin .add (.bin .mod (.v 0) (.k (.int (2305843009213693951)))) (.k (.int (1)))) (.bin .add (.bin .mul (.v 1) (.v 1)) (.k (.int (48271))))) (.k (.int (40692)))) (.k (.int (2147483399))))) .nil)⟩
def u0:Fn:=⟨2,7,2,(.cons (.set 2 (.k (.str abc))) (.cons (.set 3 (.bin .mod (.bin .div (.v 0) (.k (.int (4)))) (.k (.int (26))))) (.cons (.iff (.an (.cmp .eq (.bin .mod (.v 0) (.k (.int (4)))) (.k (.int (0)))) (.cmp .lt (.v 1) (.k (.int (13))))) (.cons (.ret cA) .nil) .nil) (.cons (.set 4 (.bin .mod (.bin .div (.v 0) (.k (.int (104)))) (.k (.int (12))))) (.cons (.set 5 (.bin .mod (.bin .div (.v 0) (.k (.int (1248)))) (.bin .add (.v 4) (.k (.int (1)))))) (.cons (.set 6 (.mt .join (.k (.str "")) (.cons cS .nil))) (.cons (.ret cB) .nil)))))))⟩
def A5:Fn:=⟨2,13,0,(.cons (.set 2 (.call 202 (.cons (.call 201 (.cons (.v 0) (.cons (.k (.int (0))) .nil))) (.cons (.k (.int (3))) .nil)))) (.cons (.set 3 (.call 203 (.cons (.bin .div (.v 2) (.k (.int (7)))) (.cons (.bin .add (.k (.int (1))) (.bin .mod (.v 2) (.k (.int (6))))) .nil)))) (.cons (.set 4 (.call 203 (.cons (.call 202 (.cons (.call 201 (.cons (.v 0) (.cons (.k (.int (1))) .nil))) (.cons (.k (.int (4))) .nil))) (.cons (.k (.int (24))) .nil)))) (.cons (.set 5 (.lst .nil)) (.cons (.for (.nm 6) (.rng1 (.k (.int (24)))) oB) (.cons (.set 7 (.lst .nil)) (.cons (.set 8 (.k (.int (0)))) (.cons (.for (.nm 6) (.rng1 (.bi .len (.cons (.v 3) .nil))) owB) (.cons (.ret (.tup (.cons (.v 4) (.cons (.v 7) .nil)))) .nil)))))))))⟩
def C0:Fn:=⟨2,3,1,(.cons (.set 2 otC) (.cons (.set 2 (.bin .add (.v 2) otD)) (.cons (.ret (.mt .join (.k (.str "\n")) (.cons (.v 2) .nil))) .nil)))⟩
def y8:Fn:=⟨4,5,1,(.cons (.set 4 (.bin .add (.v 2) (.v 3))) (.cons (.whl nrT nrB) (.cons (.ret (.k (.str "none"))) .nil)))⟩
def B1:Fn:=⟨3,7,1,(.cons (.pat (.tp (.cons (.nm 3) (.cons (.nm 4) .nil))) (.ix (.v 0) (.ix (.v 1) (.v 2)))) (.cons (.set 5 fcA) (.cons (.set 6 fcC) (.cons (.iff (.cmp .eq (.v 3) (.k (.str "both"))) (.cons (.ret fcR) .nil) .nil) (.cons (.ret fcQ) .nil)))))⟩
def A7:Fn:=⟨1,6,2,(.cons (.set 1 .dnew) (.cons (.for (.tp (.cons (.nm 2) (.cons (.nm 3) (.cons (.nm 4) (.cons (.nm 5) .nil))))) (.seq (.ix (.v 0) (.k (.int (3))))) loB) (.cons (.ret (.v 1)) .nil)))⟩
def D4:Fn:=⟨2,2,1,(.cons (.iff (.orr (.nt (.val (.isi (.v 0) (.b "list")))) (.cmp .ne (.bi .len (.cons (.v 0) .nil)) (.bi .len (.cons (.v 1) .nil)))) (.cons (.ret (.k (.bl false))) .nil) .nil) (.cons (.ret (.an (.bi .all (.cons (.comp (.nm 0) (.seq (.v 0)) 1 [] .yes (.isi (.v 0) (.b "str"))) .nil)) (.bin .eq (.v 0) (.v 1)))) .nil))⟩
def C2:Fn:=⟨5,11,2,(.cons (.set 5 (.bi .list (.cons (.v 3) .nil))) (.cons (.for (.nm 6) (.rng1 (.bin .mod (.v 4) (.k (.int (4))))) spB) (.cons (.ret (.v 5)) .nil)))⟩
noncomputable def D2:Fn:=⟨2,5,0,(.cons (.set 2 (.k .non)) (.cons (.set 3 (.k .non)) (.cons (.tryc 2 38 (.cons (.v 0) (.cons (.v 1) .nil)) 0 4 3) (.cons (.iff (.isN (.v 3)) (.cons (.ret (.tup (.cons (.k (.str "row")) (.cons (.v 2) .nil)))) .nil) .nil) (.cons (.iff (.orr (.nt (.val (.isi (.v 3) (.c 4)))) (.nt (.val (.isi (.v 3) (.b "ValueError"))))) (.cons (.ret (.tup (.cons (.k (.str "other")) (.cons (.k .non) .nil)))) .nil) .nil) (.cons (.iff (.val (.isis (.v 3) [5,1,3,2])) (.cons (.ret (.tup (.cons (.k (.str "other")) (.cons (.k .non) .nil)))) .nil) .nil) (.cons (.ret (.tup (.cons (.k (.str "none")) (.cons (.k .non) .nil)))) .nil)))))))⟩
def G5:Fn:=⟨3,6,0,(.cons (.set 3 (.lst .nil)) (.cons (.for (.nm 4) (.seq (.v 2)) duB) (.cons (.iff (.cmp .ne duF (.v 2)) (.cons (.ret (.k .non)) .nil) .nil) (.cons (.ret (.v 3)) .nil))))⟩
def a4U:Fn:=⟨1,14,0,(.cons (.set 1 (.call 202 (.cons (.call 201 (.cons (.v 0) (.cons (.k (.int (2))) .nil))) (.cons (.k (.int (77))) .nil)))) (.cons (.pat (.tp (.cons (.nm 2) (.cons (.nm 3) .nil))) (.call 204 (.cons (.v 0) (.cons (.bin .gt (.bin .mod (.v 1) (.k (.int (3)))) (.k (.int (0)))) .nil)))) (.cons (.set 4 (.call 12 (.cons (.call 205 (.cons (.v 2) (.cons (.v 3) .nil))) .nil))) (.cons (.set 5 (.call 218 (.cons (.tup (.cons (.lst .nil) (.cons (.lst .nil) (.cons (.lst .nil) (.cons (.v 3) .nil))))) .nil))) (.cons (.set 6 rwE) (.cons (.set 7 lwF) (.cons (.for (.nm 8) (.rng1 (.k (.int (3)))) lwB) (.cons (.ret (.k (.bl true))) .nil))))))))⟩
end EV
namespace K14
open PySem L2 EV
noncomputable def top(i:Nat):Stmt:=PySem.Challenge.pw_glyphhall_k14_rows_that_are_none.main.body.getD i (.Pass ⟨0,0,0,0⟩)
noncomputable def fe(x:Str)(a b:Nat):Str×Nat×Nat:=(x,a,b)
def se(x:Str)(d:D):Str×D:=(x,d)
def fns:List (Str×Nat×Nat):=[fe "words_of" 1 1,fe "made_of" 2 2,fe "is_name" 3 1,fe "is_number" 4 1,fe "is_signed_number" 5 1,fe "class_of_item" 6 1,fe "is_class_item" 7 1,fe "is_item" 8 1,fe "all_names" 9 1,fe "all_signed_numbers" 10 1,fe "all_items" 11 1,fe "read_hall" 12 1,fe "take_row" 13 2,fe "first_due" 14 3,fe "has_shapes" 15 2,fe "pair_of" 16 1,fe "take_shape" 17 2,fe "has_side_form" 18 2,fe "take_mark" 19 2,fe "take_point" 20 2,fe "has_letter_form" 21 1,fe "take_letter" 22 2,fe "take_gap" 23 2,fe "take_class" 24 2,fe "take_feature" 25 2,fe "take_rule" 26 2,fe "has_rule_form" 27 1,fe "rule_parts" 28 1,fe "has_items" 29 2,fe "has_item" 30 2,fe "has_rule" 31 2,fe "check_letters" 33 2,fe "faces_of" 34 2,fe "joined_pairs" 35 1,fe "joins_next" 36 2,fe "face_among" 37 3,fe "read_back" 38 2,fe "only_letter" 39 2,fe "_law_cell_at" 201 2,fe "_law_mixed" 202 2,fe "_law_names_by" 203 2,fe "_law_own_letters" 204 2,fe "_law_own_text" 205 2,fe "_law_near" 216 4,fe "_law_face" 217 3,fe "_law_letters_of" 218 1,fe "_law_texts" 219 2,fe "_law_spoilt" 206 5,fe "_law_told" 207 2,fe "_law_due" 208 3,fe "law" 209 1]
def G:GT:={
 fn:=fns
 scal:=[se "FIGURES" (.str "0123456789"),se "NAME_SIGNS" (.str "abcdefghijklmnopqrstuvwxyz0123456789"),se "CLASS_SIGN" (.str "@"),se "LONGEST_NAME" (.int 12),se "LONGEST_NUMBER" (.int 5),se "MOST_SHAPES" (.int 60),se "MOST_LETTERS" (.int 24),se "MOST_CLASSES" (.int 20),se "MOST_FEATURES" (.int 10),se "MOST_RULES" (.int 30),se "MOST_IN_CLASS" (.int 20),se "MOST_AROUND" (.int 3),se "MOST_IN_CORE" (.int 4),se "MOST_TOLD" (.int 3)]
 tups:=[("SIDES",[.str "above",.str "below"]),("WAYS",[.str "left",.str "right",.str "either"]),("SWITCHES",[.str "on",.str "off"]),("JOINS_THAT_TAKE",[.str "both",.str "back"])]
 dicts:=[("SHAPES_OF_JOIN",[(.str "none",.int 1),(.str "clear",.int 1),(.str "back",.int 2),(.str "both",.int 4)])]
 cls:=[("HallError",0),("BadHall",1),("NoLetter",2),("NoFeature",3),("NoRow",4),("BadDeed",5)]
 rs:=[("NoRow",4)]
 obj:=[("Hall",6)]
 hb:=0
 rc:=[39]
 atts:=["shapes","marks","points","letters","gaps","classes","features","rules"]
 blt:=["len","str","int","list","tuple","all","any","isinstance","bool","range","enumerate","zip","dict","ValueError"]}
def F(i:Nat):Option Fn:=match i with
 |1=>some Q0
 |2=>some W0
 |3=>some W1
 |4=>some N4
 |5=>some B7
 |6=>some K6
 |7=>some K1
 |8=>some a0P
 |9=>some U0
 |10=>some D1
 |11=>some U1
 |12=>some N3
 |13=>some B6
 |14=>some N5
 |15=>some L5
 |16=>some V9
 |17=>some L1
 |18=>some E3
 |19=>some N2
 |20=>some L3
 |21=>some C6
 |22=>some G9
 |23=>some Q7
 |24=>some L4
 |25=>some F6
 |26=>some T8
 |27=>some K5
 |28=>some Q8
 |29=>some T9
 |30=>some Z5
 |31=>some Z4
 |33=>some o7
 |34=>some D0
 |35=>some r8
 |36=>some y0
 |37=>some z6
 |38=>some E7
 |39=>some x8
 |201=>some z4
 |202=>some l9
 |203=>some u0
 |204=>some A5
 |205=>some C0
 |216=>some y8
 |217=>some B1
 |218=>some A7
 |219=>some D4
 |206=>some C2
 |207=>some D2
 |208=>some G5
 |209=>some a4U
 |32=>some J5
 |_=>none
noncomputable def ct:CT:=⟨fun _=>32,fun _ j=>decide (j=0)||decide (j=4)⟩
abbrev SH:Stmt:=b2e (top 48) 0
theorem bd0{P:List Value->Prop}(h:P []):∀us,us.length=0->P us:=fun us e=>List.eq_nil_of_length_eq_zero e▸h
theorem bdS{P:List Value->Prop}{n:Nat}(h:∀a us,us.length=n->P (a::us)):∀us,us.length=n+1->P us:=fun us e=>by
 cases us with
 |nil=>cases e
 |cons a r=>exact h a r (Nat.succ.inj e)
theorem bd1{P:List Value->Prop}(h:∀a,P [a]):∀us,us.length=1->P us:=bdS fun a=>bd0 (P:=fun l=>P (a::l)) (h a)
theorem bd2{P:List Value->Prop}(h:∀a b,P [a,b]):∀us,us.length=2->P us:=bdS fun a=>bd1 (P:=fun l=>P (a::l)) (h a)
theorem bd3{P:List Value->Prop}(h:∀a b c,P [a,b,c]):∀us,us.length=3->P us:=bdS fun a=>bd2 (P:=fun l=>P (a::l)) (h a)
theorem bd4{P:List Value->Prop}(h:∀a b c d,P [a,b,c,d]):∀us,us.length=4->P us:=bdS fun a=>bd3 (P:=fun l=>P (a::l)) (h a)
theorem bd5{P:List Value->Prop}(h:∀a b c d e,P [a,b,c,d,e]):∀us,us.length=5->P us:=bdS fun a=>bd4 (P:=fun l=>P (a::l)) (h a)
theorem bd6{P:List Value->Prop}(h:∀a b c d e f,P [a,b,c,d,e,f]):∀us,us.length=6->P us:=bdS fun a=>bd5 (P:=fun l=>P (a::l)) (h a)
abbrev Bd(x q:Str)(st:Stmt)(ps:List Str):Prop:=∀(kV doc pm:Value) (an:Option Addr) (cdv ct:Value) (us:List Value),us.length=ps.length->bindArgs (PySem.W.fnOf x q (N7 st) (J0 st) (v5 st) .none kV doc pm an cdv ct) ⟨us,[]⟩=pure (ps.zip us)
def pO(st:Stmt):List Str:=(N7 st).args.map (·.arg)
def nO(st:Stmt):List Str:=pO st++((v5 st).names.filter fun y=>(y.2==.local||y.2==.cell)&&!(pO st).contains y.1).map (·.1)
structure Rw(x:Str)(st:Stmt)(id np:Nat)(f:Fn):Prop where
 a:FnScope (nO st) (pO st) (v5 st)
 b:Bd x x st (pO st)
 p:(pO st).length=np
 i:F id=some f
 q:f.np=np
 s:f.ns=(nO st).length
 c:cSs G (nO st) (v5 st) 20 (J0 st)=some f.body
local macro_rules | `(tactic| ac_rfl) => `(tactic| exact ⟨⟨rfl, rfl, rfl, by decide +kernel, by kernel_rfl, by decide +kernel, by decide +kernel⟩, fun _ _ _ _ _ _ => by first | exact bd1 fun _ => rfl | exact bd2 fun _ _ => rfl | exact bd3 fun _ _ _ => rfl | exact bd4 fun _ _ _ _ => rfl | exact bd5 fun _ _ _ _ _ => rfl | exact bd6 fun _ _ _ _ _ _ => rfl, by kernel_rfl, rfl, rfl, by kernel_rfl, by kernel_rfl⟩)
theorem R1:Rw "words_of" (top 23) 1 1 Q0:=by ac_rfl
theorem R2:Rw "made_of" (top 24) 2 2 W0:=by ac_rfl
theorem R3:Rw "is_name" (top 25) 3 1 W1:=by ac_rfl
theorem R4:Rw "is_number" (top 26) 4 1 N4:=by ac_rfl
theorem R5:Rw "is_signed_number" (top 27) 5 1 B7:=by ac_rfl
theorem R6:Rw "class_of_item" (top 28) 6 1 K6:=by ac_rfl
theorem R7:Rw "is_class_item" (top 29) 7 1 K1:=by ac_rfl
theorem R8:Rw "is_item" (top 30) 8 1 a0P:=by ac_rfl
theorem R9:Rw "all_names" (top 31) 9 1 U0:=by ac_rfl
theorem R10:Rw "all_signed_numbers" (top 32) 10 1 D1:=by ac_rfl
theorem R11:Rw "all_items" (top 33) 11 1 U1:=by ac_rfl
theorem R12:Rw "read_hall" (top 49) 12 1 N3:=by ac_rfl
theorem R13:Rw "take_row" (top 50) 13 2 B6:=by ac_rfl
theorem R14:Rw "first_due" (top 51) 14 3 N5:=by ac_rfl
theorem R15:Rw "has_shapes" (top 52) 15 2 L5:=by ac_rfl
theorem R16:Rw "pair_of" (top 53) 16 1 V9:=by ac_rfl
theorem R17:Rw "take_shape" (top 54) 17 2 L1:=by ac_rfl
theorem R18:Rw "has_side_form" (top 55) 18 2 E3:=by ac_rfl
theorem R19:Rw "take_mark" (top 56) 19 2 N2:=by ac_rfl
theorem R20:Rw "take_point" (top 57) 20 2 L3:=by ac_rfl
theorem R21:Rw "has_letter_form" (top 58) 21 1 C6:=by ac_rfl
theorem R22:Rw "take_letter" (top 59) 22 2 G9:=by ac_rfl
theorem R23:Rw "take_gap" (top 60) 23 2 Q7:=by ac_rfl
theorem R24:Rw "take_class" (top 61) 24 2 L4:=by ac_rfl
theorem R25:Rw "take_feature" (top 62) 25 2 F6:=by ac_rfl
theorem R26:Rw "take_rule" (top 63) 26 2 T8:=by ac_rfl
theorem R27:Rw "has_rule_form" (top 64) 27 1 K5:=by ac_rfl
theorem R28:Rw "rule_parts" (top 65) 28 1 Q8:=by ac_rfl
theorem R29:Rw "has_items" (top 66) 29 2 T9:=by ac_rfl
theorem R30:Rw "has_item" (top 67) 30 2 Z5:=by ac_rfl
theorem R31:Rw "has_rule" (top 68) 31 2 Z4:=by ac_rfl
theorem R33:Rw "check_letters" (top 9) 33 2 o7:=by ac_rfl
theorem R34:Rw "faces_of" (top 10) 34 2 D0:=by ac_rfl
theorem R35:Rw "joined_pairs" (top 11) 35 1 r8:=by ac_rfl
theorem R36:Rw "joins_next" (top 12) 36 2 y0:=by ac_rfl
theorem R37:Rw "face_among" (top 13) 37 3 z6:=by ac_rfl
theorem R38:Rw "read_back" (top 15) 38 2 E7:=by ac_rfl
theorem R39:Rw "only_letter" (top 16) 39 2 x8:=by ac_rfl
theorem b9O:Rw "_law_cell_at" (top 70) 201 2 z4:=by ac_rfl
theorem b9N:Rw "_law_mixed" (top 71) 202 2 l9:=by ac_rfl
theorem b9M:Rw "_law_names_by" (top 72) 203 2 u0:=by ac_rfl
theorem b9L:Rw "_law_own_letters" (top 73) 204 2 A5:=by ac_rfl
theorem b9K:Rw "_law_own_text" (top 74) 205 2 C0:=by ac_rfl
theorem b9G:Rw "_law_near" (top 75) 216 4 y8:=by ac_rfl
theorem b9F:Rw "_law_face" (top 76) 217 3 B1:=by ac_rfl
theorem b9E:Rw "_law_letters_of" (top 77) 218 1 A7:=by ac_rfl
theorem b9D:Rw "_law_texts" (top 78) 219 2 D4:=by ac_rfl
theorem b9J:Rw "_law_spoilt" (top 79) 206 5 C2:=by ac_rfl
theorem b9I:Rw "_law_told" (top 80) 207 2 D2:=by ac_rfl
theorem b9H:Rw "_law_due" (top 81) 208 3 G5:=by ac_rfl
theorem a4o:Rw "law" (top 82) 209 1 a4U:=by ac_rfl
theorem AH:FnScope ["self"] ["self"] (v5 SH):=⟨rfl,rfl,rfl,by decide+kernel,rfl,by decide+kernel,by decide+kernel⟩
theorem BH:Bd "__init__" "Hall.__init__" SH ["self"]:=fun _ _ _ _ _ _=>bd1 fun _=>rfl
theorem CH:cSs G ["self"] (v5 SH) 20 (J0 SH)=some J5.body:=by kernel_rfl
open PySem.W (nsIn codeIn keepIn findIn kitOne mroIn)
section
variable{K:PySem.W.Frag}{x:Str}
structure DfE(K:PySem.W.Frag)(x:Str)(st:Stmt):Prop where
 ex:∃f fd,nsIn K mainGlobals x=some (some (.ref f))/\Fun K x x st f fd
theorem b7s{st:Stmt}{f:Addr}{oc:Value}{od an:Option Addr}{osl:Array (Option Value)}{kV doc pm cdv ct:Value}(e1:nsIn K mainGlobals x=some (some (.ref f)))(e2:K.lookup f=some ⟨oc,od,.func (PySem.W.fnOf x x (N7 st) (J0 st) (v5 st) .none kV doc pm an cdv ct),osl⟩)(e3:codeIn K cdv x=true)(e4:keepIn K (.ref f)=true):DfE K x st:=⟨f,_,e1,b0g e2 e3 e4⟩
structure StrE(K:PySem.W.Frag)(x y:Str):Prop where
 ex:∃t,nsIn K mainGlobals x=some (some (.str y t))
theorem b3C{y:Str}{t:Tok}(e1:nsIn K mainGlobals x=some (some (.str y t))):StrE K x y:=⟨t,e1⟩
structure IntE(K:PySem.W.Frag)(x:Str)(i:Int):Prop where
 ex:∃t,nsIn K mainGlobals x=some (some (.int i t))
theorem b4U{i:Int}{t:Tok}(e1:nsIn K mainGlobals x=some (some (.int i t))):IntE K x i:=⟨t,e1⟩
structure TupE(K:PySem.W.Frag)(x:Str)(vs:List V):Prop where
 ex:∃a,nsIn K mainGlobals x=some (some (.ref a))/\∀H,SqT K H a vs
theorem b0V{a:Addr}{d:Option Addr}{n:Nat}{sl:Array (Option Value)}{y z:Str}{t u:Tok}(e1:nsIn K mainGlobals x=some (some (.ref a)))(e2:K.lookup a=some ⟨.type "tuple",d,.seq #[.str y t,.str z u] n,sl⟩):TupE K x [.str y,.str z]:=
 ⟨a,e1,fun H=>.inr ⟨_,_,_,e2,rfl,rfl,by show 2<=sizeLine;decide,.cons ⟨_,rfl⟩ (.cons ⟨_,rfl⟩ .nil)⟩⟩
theorem b0U{a:Addr}{d:Option Addr}{n:Nat}{sl:Array (Option Value)}{y z v:Str}{t u r:Tok}(e1:nsIn K mainGlobals x=some (some (.ref a)))(e2:K.lookup a=some ⟨.type "tuple",d,.seq #[.str y t,.str z u,.str v r] n,sl⟩):TupE K x [.str y,.str z,.str v]:=
 ⟨a,e1,fun H=>.inr ⟨_,_,_,e2,rfl,rfl,by show 3<=sizeLine;decide,.cons ⟨_,rfl⟩ (.cons ⟨_,rfl⟩ (.cons ⟨_,rfl⟩ .nil))⟩⟩
structure DicE(K:PySem.W.Frag)(P:Program)(w:World)(x:Str)(gs:List (Key×V)):Prop where
 ex:∃a,nsIn K mainGlobals x=some (some (.ref a))/\a8g P w K a gs
theorem b2F{P:Program}{w:World}{a:Addr}{ep:Nat}{h1 h2 h3 h4:Int}{y1 y2 y3 y4:Str}{i1 i2 i3 i4:Int}{t1 t2 t3 t4 u1 u2 u3 u4:Tok}(e1:nsIn K mainGlobals x=some (some (.ref a)))
 (e2:K.lookup a=some ⟨.type "dict",none,.dict #[⟨h1,.str y1 t1,.int i1 u1⟩,⟨h2,.str y2 t2,.int i2 u2⟩,⟨h3,.str y3 t3,.int i3 u3⟩,⟨h4,.str y4 t4,.int i4 u4⟩] ep,#[]⟩) (ha:(a==sysModules)=false)
 (q1:h1=hashStr w y1) (q2:h2=hashStr w y2) (q3:h3=hashStr w y3) (q4:h4=hashStr w y4) (nd:([.inr y1,.inr y2,.inr y3,.inr y4]:List Key).Nodup):DicE K P w x [(.inr y1,.int i1),(.inr y2,.int i2),(.inr y3,.int i3),(.inr y4,.int i4)]:=by
 refine⟨a,e1,ha,[(.inr y1,.int i1 u1),(.inr y2,.int i2 u2),(.inr y3,.int i3 u3),(.inr y4,.int i4 u4)],?_,fun h kin=>⟨_,_,_,kin a _ e2,⟨rfl,rfl,rfl⟩,rfl,?_,?_,nd⟩⟩
 · exact .cons ⟨rfl,_,rfl⟩ (.cons ⟨rfl,_,rfl⟩ (.cons ⟨rfl,_,rfl⟩ (.cons ⟨rfl,_,rfl⟩ .nil)))
 · intro e he;simp only[List.mem_toArray,aH,not_mem_nil,or_false] at he
   rcases he with rfl|rfl|rfl|rfl
   · exact⟨.inr y1,strKind_is P w y1 t1,q1⟩
   · exact⟨.inr y2,strKind_is P w y2 t2,q2⟩
   · exact⟨.inr y3,strKind_is P w y3 t3,q3⟩
   · exact⟨.inr y4,strKind_is P w y4 t4,q4⟩
 · exact .cons (strKind_is P w y1 t1) rfl (.cons (strKind_is P w y2 t2) rfl (.cons (strKind_is P w y3 t3) rfl (.cons (strKind_is P w y4 t4) rfl .nil)))
structure HallE(K:PySem.W.Frag)(C:Addr):Prop where
 ex:∃f fd,Mk K C f/\Fun K "__init__" "Hall.__init__" SH f fd
theorem b2g{C f:Addr}{oc:Value}{od an:Option Addr}{osl:Array (Option Value)}{kV doc pm cdv ct:Value}(m1:PySem.W.makesIn K C=true)(m2:findIn K (.ref C) "__init__"=some (some (.ref f)))(m3:PySem.W.isFn K (.ref f)=true)(m4:keepIn K (.ref C)=true)
 (e2:K.lookup f=some ⟨oc,od,.func (PySem.W.fnOf "__init__" "Hall.__init__" (N7 SH) (J0 SH) (v5 SH) .none kV doc pm an cdv ct),osl⟩) (e3:codeIn K cdv "Hall.__init__"=true) (e4:keepIn K (.ref f)=true):HallE K C:=⟨f,_,⟨m1,m2,m3,m4⟩,b0g e2 e3 e4⟩
structure BadE(K:PySem.W.Frag)(C D:Addr):Prop where
 ex:∃N ND,XC K C N D ND
theorem b5D{C N D ND:Addr}{nm q:Str}{bs:List Value}{sn sub ab col dd k0 k1 k2 k3 k5:_}{nm' q':Str}{bs':List Value}{sn' sub' ab' col' dd' k0' k1' k2' k3' k5':_}
 (lC:K.lookup C=some (excClassObj nm q C N bs (.ref D::vbm) true sn sub ab col dd k0 k1 k2 k3 k5 "ValueError.__new__")) (lD:K.lookup D=some (excClassObj nm' q' D ND bs' vbm true sn' sub' ab' col' dd' k0' k1' k2' k3' k5' "ValueError.__new__"))
 (oC:PySem.W.nsOkIn K N=true) (oD:PySem.W.nsOkIn K ND=true) (n0:nsIn K N "__init__"=some none) (n2:nsIn K N "__getattribute__"=some none) (n3:nsIn K N "__getattr__"=some none) (n4:nsIn K N "__class__"=some none)
 (d0:nsIn K ND "__init__"=some none) (d2:nsIn K ND "__getattribute__"=some none) (d3:nsIn K ND "__getattr__"=some none) (d4:nsIn K ND "__class__"=some none) (kC:keepIn K (.ref C)=true):BadE K C D:=by
 refine⟨N,ND,⟨_,_,_,_,_,_,_,_,_,_,_,_,_,lC⟩,⟨_,_,_,_,_,_,_,_,_,_,_,_,_,lD⟩,oC,oD,fun f hf=>?_,fun f hf=>?_,kC⟩
 · simp only[xns,aH,not_mem_nil,or_false] at hf
   rcases hf with rfl|rfl|rfl|rfl<;>assumption
 · simp only[xns,aH,not_mem_nil,or_false] at hf
   rcases hf with rfl|rfl|rfl|rfl<;>assumption
end
theorem A9{α:Type}{x y:Str}{a b:α}{l:List (Str×α)}(h:((y,a)::l).lookup x=some b):(x=y/\a=b)∨l.lookup x=some b:=by
 rw[lookup_cons] at h
 split at h
 · rename_i e;exact .inl ⟨eq_of_beq e,ax h⟩
 · exact .inr h
theorem a1V{α:Type}{x:Str}{b:α}(h:([]:List (Str×α)).lookup x=some b):False:=by simp at h
section
variable{K:PySem.W.Frag}{P:Program}{w:World}{h:Heap}{mg:Str->Option Value}
theorem row{x:Str}{st:Stmt}{id np:Nat}{fn:Fn}(X:K.In h)(Gg:h.Ns mainGlobals mg)(d:DfE K x st)(R:Rw x st id np fn):∃f fd st N ps,mg x=some (.ref f)/\RowOk K G F x x id np f fd st N ps:=by
 obtain⟨f,fd,e,F⟩:=d.ex;exact⟨f,fd,st,_,_,PySem.W.mg_of X Gg e,F,R.a,F.binds R.b,R.p,fn,R.i,R.q,R.s,R.c⟩
def a4n(K:PySem.W.Frag)(mg:Str->Option Value):List (Str×Nat×Nat)->Prop
 |[]=>True
 |p::l=>(∃f fd st N ps,mg p.1=some (.ref f)/\RowOk K G F p.1 p.1 p.2.1 p.2.2 f fd st N ps)/\a4n K mg l
theorem k7{p:Str×Nat×Nat}{l:List (Str×Nat×Nat)}(h:∃f fd st N ps,mg p.1=some (.ref f)/\RowOk K G F p.1 p.1 p.2.1 p.2.2 f fd st N ps)(r:a4n K mg l):a4n K mg (p::l):=⟨h,r⟩
theorem a6o:∀{l:List (Str×Nat×Nat)},a4n K mg l->∀x id np,l.lookup x=some (id,np)->∃f fd st N ps,mg x=some (.ref f)/\RowOk K G F x x id np f fd st N ps
 |[],_,x,id,np,h=>(a1V h).elim
 |(y,a,b)::l,r,x,id,np,h=>by
  rcases A9 h with⟨rfl,e⟩|h
  · cases e;exact r.1
  · exact a6o r.2 x id np h
variable{c0 c1 c2 c3 c4 c5 c6:Addr}(k0:nsIn K mainGlobals "HallError"=some (some (.ref c0)))(k1:nsIn K mainGlobals "BadHall"=some (some (.ref c1)))(k2:nsIn K mainGlobals "NoLetter"=some (some (.ref c2)))(k3:nsIn K mainGlobals "NoFeature"=some (some (.ref c3)))(k4:nsIn K mainGlobals "NoRow"=some (some (.ref c4)))(k5:nsIn K mainGlobals "BadDeed"=some (some (.ref c5)))(k6:nsIn K mainGlobals "Hall"=some (some (.ref c6)))(f1:DfE K "words_of" (top 23))(f2:DfE K "made_of" (top 24))(f3:DfE K "is_name" (top 25))(f4:DfE K "is_number" (top 26))(f5:DfE K "is_signed_number" (top 27))(f6:DfE K "class_of_item" (top 28))(f7:DfE K "is_class_item" (top 29))(f8:DfE K "is_item" (top 30))(f9:DfE K "all_names" (top 31))(f10:DfE K "all_signed_numbers" (top 32))(f11:DfE K "all_items" (top 33))(f12:DfE K "read_hall" (top 49))(f13:DfE K "take_row" (top 50))(f14:DfE K "first_due" (top 51))(f15:DfE K "has_shapes" (top 52))(f16:DfE K "pair_of" (top 53))(f17:DfE K "take_shape" (top 54))(f18:DfE K "has_side_form" (top 55))(f19:DfE K "take_mark" (top 56))(f20:DfE K "take_point" (top 57))(f21:DfE K "has_letter_form" (top 58))(f22:DfE K "take_letter" (top 59))(f23:DfE K "take_gap" (top 60))(f24:DfE K "take_class" (top 61))(f25:DfE K "take_feature" (top 62))(f26:DfE K "take_rule" (top 63))(f27:DfE K "has_rule_form" (top 64))(f28:DfE K "rule_parts" (top 65))(f29:DfE K "has_items" (top 66))(f30:DfE K "has_item" (top 67))(f31:DfE K "has_rule" (top 68))(f33:DfE K "check_letters" (top 9))(f34:DfE K "faces_of" (top 10))(f35:DfE K "joined_pairs" (top 11))(f36:DfE K "joins_next" (top 12))(f37:DfE K "face_among" (top 13))(f38:DfE K "read_back" (top 15))(f39:DfE K "only_letter" (top 16))(f201:DfE K "_law_cell_at" (top 70))(f202:DfE K "_law_mixed" (top 71))(f203:DfE K "_law_names_by" (top 72))(f204:DfE K "_law_own_letters" (top 73))(f205:DfE K "_law_own_text" (top 74))(f216:DfE K "_law_near" (top 75))(f217:DfE K "_law_face" (top 76))(f218:DfE K "_law_letters_of" (top 77))(f219:DfE K "_law_texts" (top 78))(f206:DfE K "_law_spoilt" (top 79))(f207:DfE K "_law_told" (top 80))(f208:DfE K "_law_due" (top 81))(f209:DfE K "law" (top 82))(c_FIGURES:StrE K "FIGURES" "0123456789")(c_NAME_SIGNS:StrE K "NAME_SIGNS" "abcdefghijklmnopqrstuvwxyz0123456789")(c_CLASS_SIGN:StrE K "CLASS_SIGN" "@")(c_LONGEST_NAME:IntE K "LONGEST_NAME" 12)(c_LONGEST_NUMBER:IntE K "LONGEST_NUMBER" 5)(c_MOST_SHAPES:IntE K "MOST_SHAPES" 60)(c_MOST_LETTERS:IntE K "MOST_LETTERS" 24)(c_MOST_CLASSES:IntE K "MOST_CLASSES" 20)(c_MOST_FEATURES:IntE K "MOST_FEATURES" 10)(c_MOST_RULES:IntE K "MOST_RULES" 30)(c_MOST_IN_CLASS:IntE K "MOST_IN_CLASS" 20)(c_MOST_AROUND:IntE K "MOST_AROUND" 3)(c_MOST_IN_CORE:IntE K "MOST_IN_CORE" 4)(c_MOST_TOLD:IntE K "MOST_TOLD" 3)(t_SIDES:TupE K "SIDES" [.str "above",.str "below"])(t_SWITCHES:TupE K "SWITCHES" [.str "on",.str "off"])(t_WAYS:TupE K "WAYS" [.str "left",.str "right",.str "either"])(t_JOINS_THAT_TAKE:TupE K "JOINS_THAT_TAKE" [.str "both",.str "back"])(dJ:DicE K P w "SHAPES_OF_JOIN" [(.inr "none",.int 1),(.inr "clear",.int 1),(.inr "back",.int 2),(.inr "both",.int 4)])(hall:HallE K c6)(cl:Cls K c6)(bad:BadE K c4 c0)(mro:mroIn K c4 (.type "object")=some true)(kve:kitOne K (.ref c4) (.type "ValueError")=some true)(s0:kitOne K (.ref c4) (.ref c0)=some true)(s1:kitOne K (.ref c4) (.ref c1)=some false)(s2:kitOne K (.ref c4) (.ref c2)=some false)(s3:kitOne K (.ref c4) (.ref c3)=some false)(s4:kitOne K (.ref c4) (.ref c4)=some true)(s5:kitOne K (.ref c4) (.ref c5)=some false)(n_shapes:findIn K (.ref c6) "shapes"=some none)(n_marks:findIn K (.ref c6) "marks"=some none)(n_points:findIn K (.ref c6) "points"=some none)(n_letters:findIn K (.ref c6) "letters"=some none)(n_gaps:findIn K (.ref c6) "gaps"=some none)(n_classes:findIn K (.ref c6) "classes"=some none)(n_features:findIn K (.ref c6) "features"=some none)(n_rules:findIn K (.ref c6) "rules"=some none)(b_len:nsIn K mainGlobals "len"=some none)(b_str:nsIn K mainGlobals "str"=some none)(b_int:nsIn K mainGlobals "int"=some none)(b_list:nsIn K mainGlobals "list"=some none)(b_tuple:nsIn K mainGlobals "tuple"=some none)(b_all:nsIn K mainGlobals "all"=some none)(b_any:nsIn K mainGlobals "any"=some none)(b_isinstance:nsIn K mainGlobals "isinstance"=some none)(b_bool:nsIn K mainGlobals "bool"=some none)(b_range:nsIn K mainGlobals "range"=some none)(b_enumerate:nsIn K mainGlobals "enumerate"=some none)(b_zip:nsIn K mainGlobals "zip"=some none)(b_dict:nsIn K mainGlobals "dict"=some none)(b_ValueError:nsIn K mainGlobals "ValueError"=some none)
include k0 k1 k2 k3 k4 k5 k6 f1 f2 f3 f4 f5 f6 f7 f8 f9 f10 f11 f12 f13 f14 f15 f16 f17 f18 f19 f20 f21 f22 f23 f24 f25 f26 f27 f28 f29 f30 f31 f33 f34 f35 f36 f37 f38 f39 f201 f202 f203 f204 f205 f216 f217 f218 f219 f206 f207 f208 f209 c_FIGURES c_NAME_SIGNS c_CLASS_SIGN c_LONGEST_NAME c_LONGEST_NUMBER c_MOST_SHAPES c_MOST_LETTERS c_MOST_CLASSES c_MOST_FEATURES c_MOST_RULES c_MOST_IN_CLASS c_MOST_AROUND c_MOST_IN_CORE c_MOST_TOLD t_SIDES t_SWITCHES t_WAYS t_JOINS_THAT_TAKE dJ hall cl bad mro kve s0 s1 s2 s3 s4 s5 n_shapes n_marks n_points n_letters n_gaps n_classes n_features n_rules b_len b_str b_int b_list b_tuple b_all b_any b_isinstance b_bool b_range b_enumerate b_zip b_dict b_ValueError
theorem b1e(X:K.In h)(Gg:h.Ns mainGlobals mg):Stat P w ⟨K,fun k=>[c0,c1,c2,c3,c4,c5,c6].getD k 0,[6],[4]⟩ G ct F mg where
 scal:=fun x d hx=>by
  have S:∀{x y:Str},StrE K x y->∃u v,mg x=some u/\l8 v u/\∀m H,Rp m H (.str y) v:=fun e=>by
   obtain⟨t,e⟩:=e.ex;exact⟨_,.str _,PySem.W.mg_of X Gg e,⟨t,rfl⟩,fun _ _=>rfl⟩
  have I:∀{x:Str} {i:Int},IntE K x i->∃u v,mg x=some u/\l8 v u/\∀m H,Rp m H (.int i) v:=fun e=>by
   obtain⟨t,e⟩:=e.ex;exact⟨_,.int _,PySem.W.mg_of X Gg e,⟨t,rfl⟩,fun _ _=>rfl⟩
  unfold G se at hx
  simp only at hx
  rcases A9 hx with⟨rfl,rfl⟩|hx
  · exact S c_FIGURES
  rcases A9 hx with⟨rfl,rfl⟩|hx
  · exact S c_NAME_SIGNS
  rcases A9 hx with⟨rfl,rfl⟩|hx
  · exact S c_CLASS_SIGN
  rcases A9 hx with⟨rfl,rfl⟩|hx
  · exact I c_LONGEST_NAME
  rcases A9 hx with⟨rfl,rfl⟩|hx
  · exact I c_LONGEST_NUMBER
  rcases A9 hx with⟨rfl,rfl⟩|hx
  · exact I c_MOST_SHAPES
  rcases A9 hx with⟨rfl,rfl⟩|hx
  · exact I c_MOST_LETTERS
  rcases A9 hx with⟨rfl,rfl⟩|hx
  · exact I c_MOST_CLASSES
  rcases A9 hx with⟨rfl,rfl⟩|hx
  · exact I c_MOST_FEATURES
  rcases A9 hx with⟨rfl,rfl⟩|hx
  · exact I c_MOST_RULES
  rcases A9 hx with⟨rfl,rfl⟩|hx
  · exact I c_MOST_IN_CLASS
  rcases A9 hx with⟨rfl,rfl⟩|hx
  · exact I c_MOST_AROUND
  rcases A9 hx with⟨rfl,rfl⟩|hx
  · exact I c_MOST_IN_CORE
  rcases A9 hx with⟨rfl,rfl⟩|hx
  · exact I c_MOST_TOLD
  exact(a1V hx).elim
 tups:=fun x ds hx=>by
  unfold G at hx
  simp only at hx
  rcases A9 hx with⟨rfl,rfl⟩|hx
  · obtain⟨a,e,s⟩:=t_SIDES.ex;exact⟨a,_,PySem.W.mg_of X Gg e,s,fun _ _=>⟨.str "above",_,rfl,rfl,⟨.str "below",_,rfl,rfl,rfl⟩⟩⟩
  rcases A9 hx with⟨rfl,rfl⟩|hx
  · obtain⟨a,e,s⟩:=t_WAYS.ex;exact⟨a,_,PySem.W.mg_of X Gg e,s,fun _ _=>⟨.str "left",_,rfl,rfl,⟨.str "right",_,rfl,rfl,⟨.str "either",_,rfl,rfl,rfl⟩⟩⟩⟩
  rcases A9 hx with⟨rfl,rfl⟩|hx
  · obtain⟨a,e,s⟩:=t_SWITCHES.ex;exact⟨a,_,PySem.W.mg_of X Gg e,s,fun _ _=>⟨.str "on",_,rfl,rfl,⟨.str "off",_,rfl,rfl,rfl⟩⟩⟩
  rcases A9 hx with⟨rfl,rfl⟩|hx
  · obtain⟨a,e,s⟩:=t_JOINS_THAT_TAKE.ex;exact⟨a,_,PySem.W.mg_of X Gg e,s,fun _ _=>⟨.str "both",_,rfl,rfl,⟨.str "back",_,rfl,rfl,rfl⟩⟩⟩
  exact(a1V hx).elim
 dicts:=fun x kvs hx=>by
  unfold G at hx
  simp only at hx
  rcases A9 hx with⟨rfl,rfl⟩|hx
  · obtain⟨a,e,d⟩:=dJ.ex;exact⟨a,_,PySem.W.mg_of X Gg e,d,fun _ _=>.cons ⟨rfl,rfl⟩ (.cons ⟨rfl,rfl⟩ (.cons ⟨rfl,rfl⟩ (.cons ⟨rfl,rfl⟩ .nil)))⟩
  exact(a1V hx).elim
 blt:=fun x hx=>by
  rw[List.contains_iff_mem] at hx;unfold G at hx;simp only[aH,not_mem_nil,or_false] at hx
  rcases hx with rfl|rfl|rfl|rfl|rfl|rfl|rfl|rfl|rfl|rfl|rfl|rfl|rfl|rfl
  · exact PySem.W.ns_none_of X Gg b_len
  · exact PySem.W.ns_none_of X Gg b_str
  · exact PySem.W.ns_none_of X Gg b_int
  · exact PySem.W.ns_none_of X Gg b_list
  · exact PySem.W.ns_none_of X Gg b_tuple
  · exact PySem.W.ns_none_of X Gg b_all
  · exact PySem.W.ns_none_of X Gg b_any
  · exact PySem.W.ns_none_of X Gg b_isinstance
  · exact PySem.W.ns_none_of X Gg b_bool
  · exact PySem.W.ns_none_of X Gg b_range
  · exact PySem.W.ns_none_of X Gg b_enumerate
  · exact PySem.W.ns_none_of X Gg b_zip
  · exact PySem.W.ns_none_of X Gg b_dict
  · exact PySem.W.ns_none_of X Gg b_ValueError
 fn:=fun x id np hx=>a6o (l:=fns) (k7 (row X Gg f1 R1) (k7 (row X Gg f2 R2) (k7 (row X Gg f3 R3) (k7 (row X Gg f4 R4) (k7 (row X Gg f5 R5) (k7 (row X Gg f6 R6) (k7 (row X Gg f7 R7) (k7 (row X Gg f8 R8) (k7 (row X Gg f9 R9) (k7 (row X Gg f10 R10) (k7 (row X Gg f11 R11) (k7 (row X Gg f12 R12) (k7 (row X Gg f13 R13) (k7 (row X Gg f14 R14) (k7 (row X Gg f15 R15) (k7 (row X Gg f16 R16) (k7 (row X Gg f17 R17) (k7 (row X Gg f18 R18) (k7 (row X Gg f19 R19) (k7 (row X Gg f20 R20) (k7 (row X Gg f21 R21) (k7 (row X Gg f22 R22) (k7 (row X Gg f23 R23) (k7 (row X Gg f24 R24) (k7 (row X Gg f25 R25) (k7 (row X Gg f26 R26) (k7 (row X Gg f27 R27) (k7 (row X Gg f28 R28) (k7 (row X Gg f29 R29) (k7 (row X Gg f30 R30) (k7 (row X Gg f31 R31) (k7 (row X Gg f33 R33) (k7 (row X Gg f34 R34) (k7 (row X Gg f35 R35) (k7 (row X Gg f36 R36) (k7 (row X Gg f37 R37) (k7 (row X Gg f38 R38) (k7 (row X Gg f39 R39) (k7 (row X Gg f201 b9O) (k7 (row X Gg f202 b9N) (k7 (row X Gg f203 b9M) (k7 (row X Gg f204 b9L) (k7 (row X Gg f205 b9K) (k7 (row X Gg f216 b9G) (k7 (row X Gg f217 b9F) (k7 (row X Gg f218 b9E) (k7 (row X Gg f219 b9D) (k7 (row X Gg f206 b9J) (k7 (row X Gg f207 b9I) (k7 (row X Gg f208 b9H) (k7 (row X Gg f209 a4o) (True.intro)))))))))))))))))))))))))))))))))))))))))))))))))))) x id np hx
 obj:=fun x k hx=>by
  unfold G at hx
  simp only at hx
  rcases A9 hx with⟨rfl,rfl⟩|hx
  · obtain⟨f,fd,M,F⟩:=hall.ex;exact⟨by simp,PySem.W.mg_of X Gg k6,f,fd,SH,["self"],["self"],"Hall.__init__",M,F,AH,F.binds BH,rfl,J5,rfl,rfl,rfl,CH⟩
  exact(a1V hx).elim
 att:=fun k hk=>by
  have:k=6:=by simpa using hk
  subst this;refine⟨cl,fun f hf=>?_⟩
  rw[List.contains_iff_mem] at hf;unfold G at hf;simp only[aH,not_mem_nil,or_false] at hf
  rcases hf with rfl|rfl|rfl|rfl|rfl|rfl|rfl|rfl
  · exact n_shapes
  · exact n_marks
  · exact n_points
  · exact n_letters
  · exact n_gaps
  · exact n_classes
  · exact n_features
  · exact n_rules
 xatt:=fun k hk=>by
  have:k=4:=by simpa using hk
  subst this;obtain⟨N,ND,xc⟩:=bad.ex;exact⟨N,ND,xc,mro,kve⟩
 sub:=fun x j hx=>by
  unfold G at hx
  simp only at hx
  have one:∀{k:Nat},k∈[4]->k=4:=fun h=>by simpa using h
  rcases A9 hx with⟨rfl,rfl⟩|hx
  · exact⟨PySem.W.mg_of X Gg k0,fun k hk=>by rw[one hk];exact s0⟩
  rcases A9 hx with⟨rfl,rfl⟩|hx
  · exact⟨PySem.W.mg_of X Gg k1,fun k hk=>by rw[one hk];exact s1⟩
  rcases A9 hx with⟨rfl,rfl⟩|hx
  · exact⟨PySem.W.mg_of X Gg k2,fun k hk=>by rw[one hk];exact s2⟩
  rcases A9 hx with⟨rfl,rfl⟩|hx
  · exact⟨PySem.W.mg_of X Gg k3,fun k hk=>by rw[one hk];exact s3⟩
  rcases A9 hx with⟨rfl,rfl⟩|hx
  · exact⟨PySem.W.mg_of X Gg k4,fun k hk=>by rw[one hk];exact s4⟩
  rcases A9 hx with⟨rfl,rfl⟩|hx
  · exact⟨PySem.W.mg_of X Gg k5,fun k hk=>by rw[one hk];exact s5⟩
  exact(a1V hx).elim
 rs:=fun x k hx=>by
  unfold G at hx
  simp only at hx
  rcases A9 hx with⟨rfl,rfl⟩|hx
  · obtain⟨N,ND,xc⟩:=bad.ex;exact⟨by simp,PySem.W.mg_of X Gg k4,N,ND,xc⟩
  exact(a1V hx).elim
theorem b1f:∃cA,DfE K "law" (top 82)/\∀{h:Heap} {mg:Str->Option Value},K.In h->h.Ns mainGlobals mg->Stat P w ⟨K,cA,[6],[4]⟩ G ct F mg:=⟨_,f209,fun X Gg=>b1e k0 k1 k2 k3 k4 k5 k6 f1 f2 f3 f4 f5 f6 f7 f8 f9 f10 f11 f12 f13 f14 f15 f16 f17 f18 f19 f20 f21 f22 f23 f24 f25 f26 f27 f28 f29 f30 f31 f33 f34 f35 f36 f37 f38 f39 f201 f202 f203 f204 f205 f216 f217 f218 f219 f206 f207 f208 f209 c_FIGURES c_NAME_SIGNS c_CLASS_SIGN c_LONGEST_NAME c_LONGEST_NUMBER c_MOST_SHAPES c_MOST_LETTERS c_MOST_CLASSES c_MOST_FEATURES c_MOST_RULES c_MOST_IN_CLASS c_MOST_AROUND c_MOST_IN_CORE c_MOST_TOLD t_SIDES t_SWITCHES t_WAYS t_JOINS_THAT_TAKE dJ hall cl bad mro kve s0 s1 s2 s3 s4 s5 n_shapes n_marks n_points n_letters n_gaps n_classes n_features n_rules b_len b_str b_int b_list b_tuple b_all b_any b_isinstance b_bool b_range b_enumerate b_zip b_dict b_ValueError X Gg⟩
end
open PyProof.Rows hiding St
theorem b6e{l:PySem.W.OpenLaw}{n k:Nat}{q:Program}{loose:List Str}{XP:(Str->Option Value)->Heap->Prop}{YP:World->Heap->Prop}{d:DefRec}{K:Params->PySem.W.Frag}{CX:World->CXT}{sp:PySem.W.Frag->Sp}{x:Str}
 (hn:l.most=some n) (hn2:n<=sizeLine) (hdf:d.params.defaults=[]) (hr:Room k callerA)
 (hY:∀(w:World) (h:Heap),YP w h->(K w.params).In h)
 (F:∀(w:World) (mg:Str->Option Value) (fa:Addr) (h:Heap),(K w.params).In h->h.Ns mainGlobals mg->mg d.name=some (.ref fa)→
  ∃fd:FuncData,(∀(s:Shared) (u:Value),BindsTo s fd ⟨[u],[]⟩ [(x,u)])∧
   ∀base:Heap,(K w.params).In base->base.Ns mainGlobals mg->FnOk l.prog w (K w.params) mg base (CX w) k fa fd [x] (sp (K w.params)))
 (hsp:∀(w:World) (H:Hp) (a:Addr) (ns:List Int),ns.length<=n->b0N H->SqL (K w.params) H a (ns.map V.int)->sp (K w.params) [.ref a] H (fun v _=>v=.bl true) fun _ _ _=>False)
 (hCX:∀(w:World) (H:Hp) (s:Shared) (e:Value) (s':Shared),CX w [] H s (fun _ _ _=>False) e s'->False):
 PySem.W.WalkO q loose XP YP l.row.toRowW d [] (fun f vs=>PySem.call f vs):=
 b0Q (K:=K) (CX:=CX) (sp:=fun w=>sp (K w.params)) hn hn2 hdf hr hY F hsp hCX
def spK(K:PySem.W.Frag):Sp:=fun vs H Q E=>∀cA,a3r ⟨K,cA,[6],[4]⟩ (b6 ct F 20) 209 1 vs H Q E
theorem b4Z{K:PySem.W.Frag}{P:Program}{w:World}{cA:Nat->Addr}{h:Heap}{mg:Str->Option Value}{fa:Addr}(D:DfE K "law" (top 82))(S:Stat P w ⟨K,cA,[6],[4]⟩ G ct F mg)(X:K.In h)(Gg:h.Ns mainGlobals mg)(hmg:mg "law"=some (.ref fa)):
 ∃fd,(∀(s:Shared) (u:Value),BindsTo s fd ⟨[u],[]⟩ [("_law_script",u)])/\∀base:Heap,FnOk P w K mg base (CXr P w) 46 fa fd ["_law_script"] (spK K):=by
 obtain⟨f,fd,e,Fn⟩:=D.ex;have e0:=hmg.symm.trans (PySem.W.mg_of X Gg e);cases e0
 have R:RowOk K G F "law" "law" 209 1 fa fd (top 82) (nO (top 82)) (pO (top 82)):=⟨Fn,a4o.a,Fn.binds a4o.b,a4o.p,a4U,a4o.i,a4o.q,a4o.s,a4o.c⟩
 refine⟨fd,fun s u=>?_,fun base=>?_⟩
 · obtain⟨oc,od,kV,doc,pm,an,cdv,ct,osl,rfl,lk,hcd⟩:=Fn.ex;exact .of_eq (a4o.b kV doc pm an cdv ct [u] rfl)
 · have ih:=b4Y S 19;have g:=a3X S ih.1 ih.2 (b0G S 19) R base;exact⟨fun vs H Q E hh=>g.len vs H Q E (hh cA),fun A outer s H args us vs Q E a1 a2 a3 a4 hh=>g.run A outer s H args us vs Q E a1 a2 a3 a4 (hh cA)⟩
noncomputable def isL(o:Obj):Bool:=match o.cls with
 |.type n=>n=="list"
 |_=>false
def a9w(K:PySem.W.Frag):Bool:=K.all fun p=>!isL p.2
theorem b1U{K:PySem.W.Frag}(h:a9w K=true){a:Addr}{o:Obj}(e:K.lookup a=some o):o.cls≠.type "list":=by
 intro z
 have hm:∃b,(b,o)∈K:=by
  clear h
  induction K with
  |nil=>cases e
  |cons p r ih=>
   rw[lookup_cons] at e
   split at e
   · cases e;exact⟨p.1,bj⟩
   · obtain⟨b,hb⟩:=ih e;exact⟨b,aE _ hb⟩
 obtain⟨b,hb⟩:=hm
 have:=bv.mp h (b,o) hb
 unfold isL at this
 simp only at this
 rw[z] at this
 simp at this
theorem a4E(m:List Addr)(H:Hp):∀ns:List Int,Rps m H (ns.map D.int) (ns.map V.int)
 |[]=>rfl
 |n::r=>⟨_,_,rfl,rfl,a4E m H r⟩
theorem b4E{K:PySem.W.Frag}{H:Hp}{a:Addr}{ns:List Int}(LT:∀ns:List Int,ns.length<=63->∃h',b6 ct F 20 209 [.ref 0] [.rol (ns.map .int)]=.ok (.bl true) h')(nl:a9w K=true)(hl:ns.length<=63)(hO:b0N H)(hS:SqL K H a (ns.map V.int)):
 spK K [.ref a] H (fun v _=>v=.bl true) fun _ _ _=>False:=by
 intro cA;obtain⟨h',e⟩:=LT ns hl
 have hf:∃o,H a=some (.frz o (.lst (ns.map V.int))):=by
  rcases hS with hS|⟨o,its,n,hk,hc,_⟩
  · rcases hS with hS|hS
    · rcases hO a with z|⟨o,xs,z⟩
      · rw[hS] at z;cases z
      · rw[hS] at z;cases z
    · exact hS
  · exact absurd hc (b1U nl hk)
 refine⟨[.ref 0],[.rol (ns.map .int)],[a],rfl,⟨_,_,rfl,⟨a,rfl,rfl⟩,rfl⟩,⟨rfl,by simp,fun n b c hn hc=>?_⟩,?_⟩
 · cases n with
   |zero=>
    cases hn;cases hc;obtain⟨o,hf⟩:=hf;exact⟨_,hS,a4E _ _ _,o,hf⟩
   |succ n=>simp at hn
 · rw[e];exact fun m' H' v _ _ _ rv=>rv
theorem b6Z{P:Program}{w:World}{H:Hp}{s s':Shared}{e:Value}(h:CXr P w [] H s (fun _ _ _=>False) e s'):False:=by
 obtain⟨_,_,_,_,_,_,_,_,_,_,_,_,_,_,z⟩:=h;exact z
end K14
namespace EV
open PySem L2 L2T
noncomputable def J9:R Out->R D
 |.ok (.nx _) h=>.ok .non h
 |.ok (.rt d) h=>.ok d h
 |.ex c h=>.ex c h
 |.no=>.no
theorem X2:∀{a b:List Char},a.map Char.toNat=b.map Char.toNat->a=b
 |[],[],_=>rfl
 |[],_::_,h=>by simp at h
 |_::_,[],h=>by simp at h
 |x::xs,y::ys,h=>by
  rw[map_cons,map_cons] at h
  injection h with h1 h2
  rw[X2 h2,Char.ext (UInt32.toNat_inj.mp h1)]
theorem a3J{a b:String}:(Str.ofString a=Str.ofString b)=(a=b):=propext ⟨fun h=>by
 rw[Str.ofString_eq_toList,Str.ofString_eq_toList] at h
 injection h with h
 have:=congrArg Array.toList h
 exact String.toList_inj.mp (X2 (by simpa using this)),fun h=>by rw[h]⟩
theorem sl1:(1<=SL)=True:=eq_true (by decide)
theorem sl2:(2<=SL)=True:=eq_true (by decide)
theorem sl3:(3<=SL)=True:=eq_true (by decide)
theorem sl4:(4<=SL)=True:=eq_true (by decide)
theorem sl5:(5<=SL)=True:=eq_true (by decide)
theorem sl6:(6<=SL)=True:=eq_true (by decide)
variable{env:o6}{h:AH}
theorem b1L:J9 (.ok (.nx env) h)=.ok .non h:=rfl
variable{d:D}
theorem b1K:J9 (.ok (.rt d) h)=.ok d h:=rfl
theorem b1N{c:Nat}:J9 (.ex c h)=.ex c h:=rfl
theorem b1M:J9 .no=.no:=rfl
structure PF(F:Nat->Option Fn):Prop where
 f1:F 1=some Q0
 f2:F 2=some W0
 f3:F 3=some W1
 f4:F 4=some N4
 f5:F 5=some B7
 f6:F 6=some K6
 f7:F 7=some K1
 f8:F 8=some a0P
 f9:F 9=some U0
 f10:F 10=some D1
 f11:F 11=some U1
 f12:F 12=some N3
 f13:F 13=some B6
 f14:F 14=some N5
 f15:F 15=some L5
 f16:F 16=some V9
 f17:F 17=some L1
 f18:F 18=some E3
 f19:F 19=some N2
 f20:F 20=some L3
 f21:F 21=some C6
 f22:F 22=some G9
 f23:F 23=some Q7
 f24:F 24=some L4
 f25:F 25=some F6
 f26:F 26=some T8
 f27:F 27=some K5
 f28:F 28=some Q8
 f29:F 29=some T9
 f30:F 30=some Z5
 f31:F 31=some Z4
 f32:F 32=some J5
variable{n:Nat}{f:Nat}{ds:List D}{p:Pat}{c:CF}{α:Type}{g:AH}{i:Nat}{o:B}{neg:Bool}{kvs:List (D×D)}{it:I}{h1:AH}
section
variable{ct:CT}{F:Nat->Option Fn}
theorem m8{fd:Fn}(hF:F f=some fd)(hl:ds.length=fd.np):b6 ct F (n+1) f ds h=gcR fd.gc h (J9 (exs ct (b6 ct F n) fd.body (ds.map some++List.replicate (fd.ns-fd.np) none) h)):=by
 show(match F f with
  |none=>R.no
  |some fd=>if ds.length=fd.np then gcR fd.gc h (match exs ct (b6 ct F n) fd.body (ds.map some++List.replicate (fd.ns-fd.np) none) h with
   |.ok (.nx _) h'=>.ok .non h'
   |.ok (.rt d) h'=>.ok d h'
   |.ex c h'=>.ex c h'
   |.no=>.no) else .no)=_
 rw[hF]
 simp only
 rw[ay hl];generalize exs ct (b6 ct F n) fd.body (ds.map some++List.replicate (fd.ns-fd.np) none) h=r
 cases r with
 |ok o h=>cases o<;>rfl
 |ex c h=>rfl
 |no=>rfl
theorem S1{g:List (Nat×Cell)}{p:Pat}{t:o6->AH->R Bool}{e:o6->AH->R D}{env0:o6}{h:AH}(hg:gOk g h=true)(B:D->Bool)(f:D->D)(env:D->o6):
 ∀(l acc:List D),(∀x∈l,G0 p x env0=some (env x)/\t (env x) h=.ok (B x) h/\(B x=true->e (env x) h=.ok (f x) h))->acc.length+l.length<=SL->B2 g p t e env0 l acc h=.ok (acc++(l.filter B).map f) h
 |[],acc,_,_=>by rw[B2,ay hg];simp
 | x::r,acc,hx,hl=>by
  obtain⟨h1,h2,h3⟩:=hx x bj;have ih:=fun acc' hl'=>S1 hg B f env r acc' (fun y hy=>hx y (aE _ hy)) hl'
  rw[B2,ay hg,h1]
  simp only
  rw[h2,i6];rw[length_cons] at hl
  cases hb:B x with
  |true=>
   rw[ay rfl,h3 hb,i6,ay (by omega),ih _ (by simp;omega),List.filter_cons_of_pos hb]
   simp
  |false=>
   rw[az (by simp),ih _ (by omega),List.filter_cons_of_neg (by simp[hb])]
theorem a8a{g:List (Nat×Cell)}{e:o6->AH->R D}{env0:o6}(hg:gOk g h=true)(f:D->D)(env:D->o6)(l:List D)(hx:∀x∈l,G0 p x env0=some (env x)/\e (env x) h=.ok (f x) h)(hl:l.length<=SL):
 B2 g p (tst ct c .yes) e env0 l [] h=.ok (l.map f) h:=by
 have:=S1 (t:=tst ct c .yes) hg (fun _=>true) f env l [] (fun x hx'=>⟨(hx x hx').1,by simp only[tst],fun _=>(hx x hx').2⟩) (by simpa using hl)
 rw[this,List.filter_eq_self.mpr (fun _ _=>rfl),nil_append]
theorem a5m{α:Type}(P:α->Bool):∀l:List α,a5n (l.map fun x=>D.bl (P x))=some (l.map P)
 |[]=>rfl
 |x::r=>by rw[map_cons,a5n,a5m P r];rfl
theorem a0E:∀l:List Str,a1C (l.map D.str)=some l
 |[]=>rfl
 |x::r=>by rw[map_cons,a1C,a0E r];rfl
theorem a3D{l:List D}:rdL (h++[.lst l]) h.length=some l:=by
 unfold rdL;simp
theorem b8{c:Cell}:(h++[c])[h.length]? =some c:=by simp
theorem a1x{P:α->Bool}{l:List α}:biD .all (h++[.lst (l.map fun x=>D.bl (P x))]) [.ref h.length]=.ok (.bl (l.all P)) (h++[.lst (l.map fun x=>D.bl (P x))]):=by
 simp only[biD,b8,a3D,a5m];congr 2;simp[all_map]
theorem gc1(hd:d.flat=true):gcR 1 h (.ok d (h++g))=.ok d h:=by
 unfold gcR
 simp only
 rw[az (by decide)]
 simp[hd]
theorem A6(hd:d.flat=true):gcR 1 h (.ok d h)=.ok d h:=by
 have:=gc1 (h:=h) (g:=[]) hd
 simpa using this
theorem gc0{r:R D}:gcR 0 h r=r:=by
 cases r<;>rfl
noncomputable def G6(row:Str):List Str:=(Txt.split row " ").filter fun w=>decide (w≠"")
theorem a0Y(c:Nat):∀cs:List Nat,∃ps:List (List Nat),ps≠[]/\(∀p∈ps,c∉p)/\jn c ps=cs
 |[]=>⟨[[]],by simp,by simp,rfl⟩
 | x ::cs=>by
  obtain⟨ps,h1,h2,h3⟩:=a0Y c cs
  by_cases hx:x=c
  · subst hx;refine⟨[]::ps,by simp,fun p hp=>?_,?_⟩
    · rcases aH.mp hp with rfl|hp
      · simp
      · exact h2 p hp
    · cases ps with
      |nil=>exact absurd rfl h1
      |cons p r=>rw[←h3];rfl
  · cases ps with
    |nil=>exact absurd rfl h1
    |cons p r=>
     refine⟨(x::p)::r,by simp,fun q hq=>?_,?_⟩
     · rcases aH.mp hq with rfl|hq
       · intro hc
         rcases aH.mp hc with e|e
         · exact hx e.symm
         · exact h2 p bj e
       · exact h2 q (aE _ hq)
     · rw[←h3]
       cases r<;>rfl
theorem a9N(c:Nat):∀ps:List (List Nat),ps.length<=(jn c ps).length+1
 |[]=>by simp
 |[x]=>by simp
 |x::y::r=>by
  have:=a9N c (y::r)
  show(y::r).length+1<=(x++c::jn c (y::r)).length+1
  simp only[aq,length_cons] at this⊢;omega
theorem a7o(x:Str)(c:Nat):(Txt.split x ⟨#[c]⟩).length<=x.length+1:=by
 obtain⟨ps,h1,h2,h3⟩:=a0Y c (cd x)
 have e:(ps.map fun p=>(⟨p.toArray⟩:Str)).map cd=ps:=by
  rw[aK];refine List.map_id'' (fun p=>?_) ps
  simp[cd]
 rw[a1F (ps:=ps.map fun p=>(⟨p.toArray⟩:Str)) (by simpa using h1) (fun p hp=>by
  obtain⟨q,hq,rfl⟩:=ak.mp hp
  simpa [cd] using h2 q hq) (by rw[e,h3]),aa,←u5,←h3]
 exact a9N c ps
theorem E6:∀l:List Str,D.flats (l.map D.str)=true
 |[]=>rfl
 |x::r=>by rw[map_cons,D.flats,E6 r];rfl
section
variable{a b e:E}{t:T}
theorem b9h:ev ct c (.v i) env h=(match env[i]? with
 |some (some d)=>.ok d h
 |_=>.no):=by(rw[ev];try rfl)
theorem b9i:ev ct c (.k d) env h=.ok d h:=by(rw[ev];try rfl)
theorem b5q:ev ct c (.bin o a b) env h=(ev ct c a env h).bind fun x h1=>(ev ct c b env h1).bind fun y h2=>op2 o h2 x y:=by(rw[ev];try rfl)
theorem b5m:ev ct c (.isN a) env h=(ev ct c a env h).bind fun x h1=>.ok (.bl (decide (x=.non))) h1:=by(rw[ev];try rfl)
theorem b2t:ev ct c (.notN a) env h=(ev ct c a env h).bind fun x h1=>.ok (.bl (!decide (x=.non))) h1:=by(rw[ev];try rfl)
theorem b7w:ev ct c (.nt a) env h=(asB (ev ct c a env h)).bind fun b h1=>.ok (.bl (!b)) h1:=by(rw[ev];try rfl)
theorem b7A:ev ct c (.an a b) env h=(asB (ev ct c a env h)).bind fun x h1=>if x=true then ev ct c b env h1 else .ok (.bl false) h1:=by(rw[ev];try rfl)
theorem b5j:ev ct c (.orr a b) env h=(asB (ev ct c a env h)).bind fun x h1=>if x=true then .ok (.bl true) h1 else ev ct c b env h1:=by(rw[ev];try rfl)
theorem b5p{p:B}:ev ct c (.chn o p a b e) env h=(ev ct c a env h).bind fun x h1=>(ev ct c b env h1).bind fun y h2=>(asB (op2 o h2 x y)).bind fun k h3=>if k=true then(ev ct c e env h3).bind fun z h4=>op2 p h4 y z else .ok (.bl false) h3:=by(rw[ev];try rfl)
theorem b3g:ev ct c (.ix a b) env h=(ev ct c a env h).bind fun x h1=>(ev ct c b env h1).bind fun y h2=>ixD h2 x y:=by(rw[ev];try rfl)
theorem b7v{lo hi:O}:ev ct c (.sl a lo hi) env h=(ev ct c a env h).bind fun x h1=>(evo ct c lo env h1).bind fun l h2=>(evo ct c hi env h2).bind fun u h3=>slD h3 l u x:=by(rw[ev];try rfl)
theorem b5o{f:Str}:ev ct c (.fld a f) env h=(ev ct c a env h).bind fun x h1=>T7 h1 f x:=by(rw[ev];try rfl)
theorem b0q{es:Es}:ev ct c (.lst es) env h=(evs ct c es env h).bind fun ds h1=>if ds.length<=SL then A4 (.lst ds) h1 else .no:=by(rw[ev];try rfl)
theorem b5i{es:Es}:ev ct c (.tup es) env h=(evs ct c es env h).bind fun ds h1=>if ds.length<=SL then .ok (.tup ds) h1 else .no:=by(rw[ev];try rfl)
theorem b2y:ev ct c .dnew env h=A4 (.dict []) h:=by(rw[ev];try rfl)
theorem b5k:ev ct c (.neg a) env h=(ev ct c a env h).bind fun x h1=>(match x with
 |.int i=>.ok (.int (-i)) h1
 |_=>.no):=by(rw[ev];try rfl)
theorem b2A{es:Es}:ev ct c (.call f es) env h=(evs ct c es env h).bind fun ds h1=>c f ds h1:=by(rw[ev];try rfl)
theorem b7y{k:Nat}{es:Es}:ev ct c (.mk k es) env h=(evs ct c es env h).bind fun ds h1=>(c (ct.init k) (.ref h1.length::ds) (h1++[.obj k []])).bind fun r h2=>(match r with
 |.non=>.ok (.ref h1.length) h2
 |_=>.no):=by(rw[ev];try rfl)
theorem b7z{b:Bi}{es:Es}:ev ct c (.bi b es) env h=(evs ct c es env h).bind fun ds h1=>biD b h1 ds:=by(rw[ev];try rfl)
theorem b7x{b:Mt}{o:E}{es:Es}:ev ct c (.mt b o es) env h=(ev ct c o env h).bind fun x h1=>if mtT b h1 x=true then(evs ct c es env h1).bind fun ds h2=>mtD b h2 x ds else .no:=by(rw[ev];try rfl)
theorem b5n:ev ct c (.gin neg a ds) env h=(ev ct c a env h).bind fun x h1=>if y7 x=true/\ds.all y7=true then .ok (.bl (inD x ds !=neg)) h1 else .no:=by(rw[ev];try rfl)
theorem b2x:ev ct c (.gdin neg a kvs) env h=(ev ct c a env h).bind fun x h1=>if(D9 x).isSome=true then .ok (.bl ((n8 kvs x).isSome !=neg)) h1 else .no:=by(rw[ev];try rfl)
theorem b2w:ev ct c (.gdix a kvs) env h=(ev ct c a env h).bind fun x h1=>if(D9 x).isSome=true then(match n8 kvs x with
 |some d=>.ok d h1
 |none=>.no) else .no:=by(rw[ev];try rfl)
theorem b5l{t:Ty}:ev ct c (.isi a t) env h=(ev ct c a env h).bind fun x h1=>(match a0M ct h1 t x with
 |some b=>.ok (.bl b) h1
 |none=>.no):=by(rw[ev];try rfl)
theorem b2v{cs:List Nat}:ev ct c (.isis a cs) env h=(ev ct c a env h).bind fun x h1=>(match x with
 |.ref n=>(match h1[n]? with
  |some (.exc k)=>.ok (.bl (cs.any (ct.sub k))) h1
  |_=>.no)
 |_=>.no):=by(rw[ev];try rfl)
theorem b2p:evs ct c .nil env h=.ok [] h:=by(rw[evs];try rfl)
theorem b0l{r:Es}:evs ct c (.cons e r) env h=(ev ct c e env h).bind fun d h1=>(evs ct c r env h1).bind fun ds h2=>.ok (d::ds) h2:=by(rw[evs];try rfl)
theorem a3m:tst ct c .yes env h=.ok true h:=by(rw[tst];try rfl)
theorem b0W:tst ct c (.val e) env h=asB (ev ct c e env h):=by(rw[tst];try rfl)
theorem b0Z:tst ct c (.cmp o a b) env h=asB ((ev ct c a env h).bind fun x h1=>(ev ct c b env h1).bind fun y h2=>op2 o h2 x y):=by(rw[tst];try rfl)
theorem b0Y:tst ct c (.isN a) env h=(ev ct c a env h).bind fun x h1=>.ok (decide (x=.non)) h1:=by(rw[tst];try rfl)
theorem a8p:tst ct c (.notN a) env h=(ev ct c a env h).bind fun x h1=>.ok (!decide (x=.non)) h1:=by(rw[tst];try rfl)
theorem b1a{p:B}:tst ct c (.chn o p a b e) env h=asB ((ev ct c a env h).bind fun x h1=>(ev ct c b env h1).bind fun y h2=>(asB (op2 o h2 x y)).bind fun k h3=>if k=true then(ev ct c e env h3).bind fun z h4=>op2 p h4 y z else .ok (.bl false) h3):=by(rw[tst];try rfl)
theorem b3w{u:T}:tst ct c (.an t u) env h=(tst ct c t env h).bind fun x h1=>if x=true then tst ct c u env h1 else .ok false h1:=by(rw[tst];try rfl)
theorem b0X{u:T}:tst ct c (.orr t u) env h=(tst ct c t env h).bind fun x h1=>if x=true then .ok true h1 else tst ct c u env h1:=by(rw[tst];try rfl)
theorem b3v:tst ct c (.nt t) env h=(tst ct c t env h).bind fun x h1=>.ok (!x) h1:=by(rw[tst];try rfl)
theorem b5g:evo ct c .no env h=.ok none h:=by(rw[evo];try rfl)
theorem b5h:evo ct c (.at e) env h=a6J (ev ct c e env h):=by(rw[evo];try rfl)
theorem b2d{i:Int}:a6J (.ok (.int i) h)=.ok (some i) h:=rfl
theorem U9{b:Bool}:asB (.ok (.bl b) h)=.ok b h:=rfl
theorem a6T:evi ct c (.seq e) env h=(ev ct c e env h).bind fun d h1=>S5 h1 d:=by(rw[evi];try rfl)
theorem b0p:evi ct c (.enum e) env h=(ev ct c e env h).bind fun d h1=>X6 h1 d:=by(rw[evi];try rfl)
theorem a4W:evi ct c (.rng1 a) env h=(ev ct c a env h).bind fun d h1=>a5C h1 (.int 0) d:=by(rw[evi];try rfl)
theorem b2s:evi ct c (.zip a b) env h=(ev ct c a env h).bind fun x h1=>(ev ct c b env h1).bind fun y h2=>a7f h2 x y:=by(rw[evi];try rfl)
theorem Q9:ex ct c (.set i e) env h=(ev ct c e env h).bind fun d h1=>.ok (.nx (env.set i (some d))) h1:=by(rw[ex];try rfl)
theorem b7u:ex ct c (.ex e) env h=(ev ct c e env h).bind fun _ h1=>.ok (.nx env) h1:=by(rw[ex];try rfl)
theorem a5X:ex ct c (.ret e) env h=(ev ct c e env h).bind fun d h1=>.ok (.rt d) h1:=by(rw[ex];try rfl)
theorem b5c{u v:Ss}:ex ct c (.iff t u v) env h=(tst ct c t env h).bind fun x h1=>if x=true then exs ct c u env h1 else exs ct c v env h1:=by(rw[ex];try rfl)
theorem b5d{u:Ss}:ex ct c (.for p it u) env h=(evi ct c it env h).bind fun x h1=>M5 x.2 p (exs ct c u) x.1 env h1:=by(rw[ex];try rfl)
theorem b2o{k:Nat}{es:Es}:ex ct c (.rais k es) env h=(evs ct c es env h).bind fun ds h1=>if ds.length<=8 then .ex k h1 else .no:=by(rw[ex];try rfl)
theorem b5a{i v:E}:ex ct c (.six a i v) env h=(ev ct c v env h).bind fun x h1=>(ev ct c a env h1).bind fun o h2=>(ev ct c i env h2).bind fun k h3=>(S4 h3 o k x).bind fun _ h4=>.ok (.nx env) h4:=by(rw[ex];try rfl)
theorem b5b{f:Str}{v:E}:ex ct c (.sfl a f v) env h=(ev ct c v env h).bind fun x h1=>(ev ct c a env h1).bind fun o h2=>(a3v h2 o f x).bind fun _ h3=>.ok (.nx env) h3:=by(rw[ex];try rfl)
theorem b2n:exs ct c .nil env h=.ok (.nx env) h:=by(rw[exs];try rfl)
theorem J6{s:S}{r:Ss}:exs ct c (.cons s r) env h=(ex ct c s env h).bind fun o h1=>(match o with
 |.nx env'=>exs ct c r env' h1
 |.rt d=>.ok (.rt d) h1):=by(rw[exs];try rfl)
theorem a4a{fr:List Nat}{x:Its}{h2:AH}(hi:evi ct c it env h=.ok x h1)(hc:B2 x.2 p (tst ct c t) (ev ct c e) (u6 n fr env) x.1 [] h1=.ok ds h2):ev ct c (.comp p it n fr t e) env h=.ok (.ref h2.length) (h2++[.lst ds]):=by
 rw[ev,hi,i6,hc];rfl
end
section
variable{e:E}{t:T}
theorem D3{fr:List Nat}{l:List D}{g:List (Nat×Cell)}(hi:evi ct c it env h=.ok (l,g) h1)(hg:gOk g h1=true)(B:D->Bool)(f:D->D)(envf:D->o6)
 (hx:∀x∈l,G0 p x (u6 n fr env)=some (envf x)/\tst ct c t (envf x) h1=.ok (B x) h1/\(B x=true->ev ct c e (envf x) h1=.ok (f x) h1)) (hl:l.length<=SL):ev ct c (.comp p it n fr t e) env h=.ok (.ref h1.length) (h1++[.lst ((l.filter B).map f)]):=
 a4a (x:=(l,g)) hi (S1 hg B f envf l [] hx (by simpa using hl))
theorem z5{fr:List Nat}{l:List D}{g:List (Nat×Cell)}(hi:evi ct c it env h=.ok (l,g) h1)(hg:gOk g h1=true)(f:D->D)(envf:D->o6)
 (hx:∀x∈l,G0 p x (u6 n fr env)=some (envf x)/\ev ct c e (envf x) h1=.ok (f x) h1) (hl:l.length<=SL):ev ct c (.comp p it n fr .yes e) env h=.ok (.ref h1.length) (h1++[.lst (l.map f)]):=
 a4a (x:=(l,g)) hi (a8a hg f envf l hx hl)
end
theorem gc2{k:Nat}{c:Cell}(hk:(h++g)[k]? =some c)(hl:h.length<=k)(hc:c.flat=true):gcR 2 h (.ok (.ref k) (h++g))=.ok (.ref h.length) (h++[c]):=by
 unfold gcR;simp only[hk];simp[hl,hc]
end
end EV
local macro_rules
  | `(tactic| simp_arith [$ls,*]) => `(tactic| simp only [EV.b9h, EV.b9i, EV.b5q, EV.b5m, EV.b2t, EV.b7w, EV.b7A, EV.b5j, EV.b5p, EV.b3g, EV.b7v, EV.b5o, EV.b0q, EV.b5i, EV.b2y, EV.b5k, EV.b2A, EV.b7y, EV.b7z, EV.b7x, EV.b5n, EV.b2x, EV.b2w, EV.b5l, EV.b2v, EV.b2p, EV.b0l, EV.a3m, EV.b0W, EV.b0Z, EV.b0Y, EV.a8p, EV.b1a, EV.b3w, EV.b0X, EV.b3v, EV.b5g, EV.b5h, EV.b2d, EV.U9, EV.a6T, EV.b0p, EV.a4W, EV.b2s, EV.Q9, EV.b7u, EV.a5X, EV.b5c, EV.b5d, EV.b2o, EV.b5a, EV.b5b, EV.b2n, EV.J6, EV.i6, EV.b2R, EV.b2Q,
      map_cons, map_nil, List.cons_append, nil_append, List.getElem?_cons_zero, List.getElem?_cons_succ, List.set_cons_zero, List.set_cons_succ, List.replicate, length_cons, length_nil, if_true, if_false, Bool.false_eq_true, Bool.true_eq_false, EV.b1K, EV.b1L, EV.b1N, EV.b1M, Nat.reduceSub, Nat.reduceAdd, Nat.reduceLT, aB, Nat.zero_le, EV.a3J, String.reduceEq, EV.sl1, EV.sl2, EV.sl3, EV.sl4, EV.sl5, EV.sl6, $ls,*])
namespace EV
open PySem L2 L2T
variable{z:Str}{i:Nat}{h:AH}{xs:List D}{w:Nat}{d:D}{n:Nat}{id:Nat}{ws:List Str}
section
variable{ct:CT}{F:Nat->Option Fn}
noncomputable def due(a b c:Bool):Option Str:=if a then some "twice" else if !b then some "name" else if c then some "many" else none
noncomputable def S6:Option Str->D
 |some x=>.str x
 |none=>.non
theorem U4(o:Option Str):decide (S6 o=.non)=o.isNone:=by cases o<;>simp[S6]
theorem U3{a b c:Bool}(h:due a b c=none):a=false/\b=true/\c=false:=by
 cases a<;>cases b<;>cases c<;>simp[due] at h⊢
theorem a5A{c:Nat}:Txt.startswith z ⟨#[c]⟩=decide ((cd z).head? =some c):=by
 have:=StrLaws.subAt_one z c 0
 unfold Txt.startswith;rw[Bool.eq_iff_iff,ae,decide_eq_true_iff,this,decide_eq_true_iff]
 show(cd z)[0]? =some c↔_
 rw[List.head?_eq_getElem?]
theorem a8y(z:Str)(h:1<=z.length):Txt.slice z (some 1) none=tl z:=by
 rw[PyProof.Rows.slice_from_eq (b:=z.length) (by decide) (by omega) rfl]
 unfold tl;congr 2
 have:(z.cps.toList.drop 1).length=z.length-1:=by rw[bF,show z.cps.toList.length=z.length from u5 z]
 show List.take ((z.length:Int)-1).toNat (List.drop 1 z.cps.toList)=_
 exact br (by omega)
theorem ix_str{c:Nat}(hl:z.length<=SL)(hc:(cd z)[i]? =some c):ixD h (.str z) (.int (i:Nat))=.ok (.str ⟨#[c]⟩) h:=by
 have hi:=(ac.mp hc).1
 have:atI z.cps.toList (i:Int)=some c:=by
  show(ixN (cd z).length (i:Int)).bind (fun j=>(cd z)[j]?)=some c
  have e:ixN (cd z).length (i:Int)=some i:=by
   unfold ixN;rw[ay (by omega),ay (by omega)]
   simp
  rw[e];exact hc
 simp only[ixD,ay hl,this]
theorem B4(hw:h[w]? =some (.lst xs))(hd:xs[i]? =some d):ixD h (.ref w) (.int (i:Nat))=.ok d h:=by
 have hi:=(ac.mp hd).1
 have:atI xs (i:Int)=some d:=by
  show(ixN xs.length (i:Int)).bind (fun j=>xs[j]?)=some d
  have e:ixN xs.length (i:Int)=some i:=by
   unfold ixN;rw[ay (by omega),ay (by omega)]
   simp
  rw[e];exact hd
 simp only[ixD,hw,this]
variable(W:PF F)
include W
theorem a4u{row:Str}(hr:row.length<=100000):b6 ct F (n+1) 1 [.str row] h=.ok (.ref h.length) (h++[.lst ((G6 row).map .str)]):=by
 rw[m8 W.f1 rfl]
 have hs:(Txt.split row " ").length<=SL:=aY (a7o row 32) (by show _<=16777216;omega)
 simp only[Q0];simp_arith[];rw[D3 (l:=(Txt.split row " ").map D.str) (g:=[(h.length,.lst ((Txt.split row " ").map D.str))]) (h1:=h++[.lst ((Txt.split row " ").map D.str)]) ?_ (by simp[gOk]) (fun d=>match d with|.str w=>decide (w≠"")|_=>false) id (fun d=>[some d]) ?_ (by simpa using hs)]
 · simp_arith[]
   have e:List.map id (List.filter (fun d=>match d with|D.str w=>decide (w≠"")|_=>false) ((Txt.split row " ").map D.str))=(G6 row).map D.str:=by
    rw[map_id,filter_map];rfl
   rw[e,aA];exact gc2 (by simp) (by simp) (E6 _)
 · simp_arith[mtT,mtD,A4];rw[ay ⟨by decide,by show _<=16777216;omega⟩]
   simp only[i6,S5,b8]
 · intro x hx;obtain⟨w,_,rfl⟩:=ak.mp hx;refine⟨rfl,?_,fun _=>?_⟩
   · simp_arith[op2,W8,eqS];simp
   · simp_arith[id]
theorem a1U{g:Str}(hz:z.length<=100000):b6 ct F (n+1) 2 [.str z,.str g] h=.ok (.bl ((cd z).all fun c=>decide (c∈cd g))) h:=by
 rw[m8 W.f2 rfl];simp only[W0];simp_arith[];rw[z5 (l:=S2 z) (g:=[]) (h1:=h) ?_ (by simp[gOk]) (fun d=>match d with|.str w=>.bl (a3K w g)|_=>.non) (fun d=>[some d,some (.str g)]) ?_ (by unfold S2;rw[aa,show z.cps.toList.length=z.length from u5 z];show _<=16777216;omega)]
 · have e:(S2 z).map (fun d=>match d with|D.str w=>D.bl (a3K w g)|_=>D.non)=(cd z).map fun c=>D.bl (decide (c∈cd g)):=by
    unfold S2;rw[aK];refine bh fun c _=>?_
    simp only[Function.comp,a3K];rw[StrLaws.found_one]
   rw[e];simp_arith[a1x];exact gc1 rfl
 · simp_arith[S5]
 · intro x hx;unfold S2 at hx;obtain⟨w,_,rfl⟩:=ak.mp hx;refine⟨rfl,?_⟩
   simp_arith[op2,M3];simp
theorem G3(hz:z.length<=100000):b6 ct F (n+2) 3 [.str z] h=.ok (.bl (j0 z)) h:=by
 rw[m8 W.f3 rfl];simp only[W1]
 have hl:z.length<=SL:=by show _<=16777216;omega
 simp_arith[biD,ay hl,op2,F9,a1U W hz]
 have e:j0 z=(decide ((1:Int)<=(z.length:Int))&&(decide ((z.length:Int)<=12)&&(cd z).all L9)):=by
  unfold j0;rw[Bool.and_assoc];congr 1
  · exact decide_eq_decide.mpr (by omega)
  · congr 1;exact decide_eq_decide.mpr (by omega)
 rw[e]
 by_cases h1:(1:Int)<=(z.length:Int)
 · by_cases h2:(z.length:Int)<=12
   · simp only[h1,h2,decide_true,if_true,Bool.true_and,i6,U9];exact A6 rfl
   · simp only[h1,h2,decide_true,decide_false,if_true,Bool.true_and,Bool.false_and,i6,U9,Bool.false_eq_true,if_false];exact A6 rfl
 · simp only[h1,decide_false,Bool.false_and,i6,U9,Bool.false_eq_true,if_false];exact A6 rfl
theorem F5(hz:z.length<=100000):b6 ct F (n+2) 4 [.str z] h=.ok (.bl (a1a z)) h:=by
 rw[m8 W.f4 rfl];simp only[N4]
 have hl:z.length<=SL:=by show _<=16777216;omega
 have hm:∀h,b6 ct F (n+1) 2 [.str z,.str "0123456789"] h=.ok (.bl ((cd z).all M8)) h:=fun h=>a1U W hz
 simp_arith[biD,ay hl,op2,F9,hm]
 have e:a1a z=(decide ((1:Int)<=(z.length:Int))&&(decide ((z.length:Int)<=5)&&((cd z).all M8&&(decide (z="0")||!decide ((cd z).head? =some 48))))):=by
  unfold a1a;rw[Bool.and_assoc,Bool.and_assoc];congr 1
  · exact decide_eq_decide.mpr (by omega)
  · congr 1;exact decide_eq_decide.mpr (by omega)
 rw[e]
 by_cases h1:(1:Int)<=(z.length:Int)
 · by_cases h2:(z.length:Int)<=5
   · simp_arith[hm,h1,h2,decide_true,if_true,Bool.true_and,i6,U9,Bool.not_true,Bool.false_eq_true,if_false,op2]
     cases hf:(cd z).all M8 with
     |false=>
      simp_arith[hm,Bool.not_false,if_true,Bool.false_and,i6,op2];exact A6 rfl
     | true=>
      obtain⟨c,r,hc⟩:∃c r,cd z=c::r:=by
       cases hq:cd z with
       |nil=>have:=u5 z;rw[hq] at this;simp at this;omega
       |cons c r=>exact⟨c,r,rfl⟩
      have hix:ixD h (.str z) (.int 0)=.ok (.str ⟨#[c]⟩) h:=ix_str (i:=0) hl (by rw[hc];rfl)
      have h0:decide ((⟨#[c]⟩:Str)="0")=decide ((cd z).head? =some 48):=by
       rw[hc];refine decide_eq_decide.mpr ?_
       rw[show(Str.ofString "0")=⟨#[48]⟩ from rfl];simp
      simp_arith[hm,Bool.not_true,Bool.false_eq_true,if_false,Bool.true_and,i6,M4,W8,eqS,U9,hix,h0,op2]
      cases hz0:decide (z="0") with
      |true=>
       simp_arith[hm,if_true,Bool.true_or,op2];exact A6 rfl
      |false=>
       simp_arith[hm,Bool.false_eq_true,if_false,Bool.false_or,op2];exact A6 rfl
   · simp_arith[hm,h1,h2,decide_true,decide_false,if_true,Bool.true_and,Bool.false_and,i6,U9,Bool.false_eq_true,if_false,Bool.not_false,op2];exact A6 rfl
 · simp_arith[hm,h1,decide_false,Bool.false_and,i6,U9,Bool.false_eq_true,if_false,Bool.not_false,if_true,op2];exact A6 rfl
theorem a3U(hz:z.length<=100000):b6 ct F (n+3) 5 [.str z] h=.ok (.bl (a2E z)) h:=by
 rw[m8 W.f5 rfl];simp only[B7]
 have hl:z.length<=SL:=by show _<=16777216;omega
 have hst:Txt.startswith z "-"=decide ((cd z).head? =some 45):=a5A
 simp_arith[mtT,mtD,op2,W8,eqS,slD,ay hl,hst,F5 W hz];unfold a2E
 by_cases h1:(cd z).head? =some 45
 · have hl1:1<=z.length:=by
    rw[←u5]
    cases hq:cd z with
    |nil=>rw[hq] at h1;cases h1
    |cons c r=>simp
   have ht:(tl z).length<=100000:=by rw[←u5,a7c,bF,u5];omega
   simp_arith[h1,decide_true,if_true,a8y z hl1,F5 W ht,i6,F5 W hz]
   cases hz0:decide (z="-0") with
   |true=>
    simp_arith[Bool.not_true,Bool.false_eq_true,if_false,Bool.false_and];exact A6 rfl
   |false=>
    simp_arith[Bool.not_false,if_true,Bool.true_and];exact A6 rfl
 · simp_arith[h1,decide_false,Bool.false_eq_true,if_false,F5 W hz];exact A6 rfl
theorem B5{a b c:Bool}:b6 ct F (n+1) 14 [.bl a,.bl b,.bl c] h=.ok (S6 (due a b c)) h:=by
 rw[m8 W.f14 rfl];simp only[N5];simp_arith[]
 cases a<;>cases b<;>cases c<;>exact A6 rfl
theorem a3j{k:Nat}{P:Str->Bool}{fd:Fn}(hF:F id=some fd)(hb:fd=⟨1,1,1,(.cons (.ret (.bi .all (.cons (.comp (.nm 0) (.seq (.v 0)) 1 [] .yes (.call k (.cons (.v 0) .nil))) .nil))) .nil)⟩)
 (hw:h[w]? =some (.lst (ws.map D.str))) (hl:ws.length<=SL) (hP:∀x∈ws,b6 ct F n k [.str x] h=.ok (.bl (P x)) h):b6 ct F (n+1) id [.ref w] h=.ok (.bl (ws.all P)) h:=by
  subst hb;rw[m8 hF rfl];simp_arith[];rw[z5 (l:=ws.map D.str) (g:=[(w,.lst (ws.map D.str))]) (h1:=h) ?_ (by simp[gOk,hw]) (fun d=>match d with|.str x=>.bl (P x)|_=>.non) (fun d=>[some d]) ?_ (by simpa using hl)]
  · have e:(ws.map D.str).map (fun d=>match d with|D.str x=>D.bl (P x)|_=>D.non)=ws.map fun x=>D.bl (P x):=by
      rw[aK];rfl
    rw[e];simp_arith[a1x];exact gc1 rfl
  · simp_arith[S5,hw]
  · intro x hx;obtain⟨y,hy,rfl⟩:=ak.mp hx;refine⟨rfl,?_⟩
    simp_arith[hP y hy]
theorem a0B(hw:h[w]? =some (.lst (ws.map D.str)))(hl:ws.length<=SL)(hs:∀x∈ws,x.length<=100000):b6 ct F (n+3) 9 [.ref w] h=.ok (.bl (ws.all j0)) h:=
 a3j (n:=n+2) W W.f9 rfl hw hl fun x hx=>G3 W (hs x hx)
theorem a2x(hw:h[w]? =some (.lst (ws.map D.str)))(hl:ws.length<=SL)(hs:∀x∈ws,x.length<=100000):b6 ct F (n+4) 10 [.ref w] h=.ok (.bl (ws.all a2E)) h:=
 a3j (n:=n+3) W W.f10 rfl hw hl fun x hx=>a3U W (hs x hx)
end
structure HD where
 shapes:List (Str×D):=[]
 marks:List (Str×D):=[]
 points:List ((Str×Str)×D):=[]
 letters:List (Str×D):=[]
 gaps:List Str:=[]
 classes:List (Str×D):=[]
 features:List (Str×D):=[]
 rules:List (Str×List D):=[]
noncomputable def kd(l:List (Str×D)):List (D×D):=l.map fun p=>(.str p.1,p.2)
noncomputable def pd(l:List ((Str×Str)×D)):List (D×D):=l.map fun p=>(.tup [.str p.1.1,.str p.1.2],p.2)
noncomputable def rd(l:List (Str×List D)):List D:=l.map fun r=>.tup (.str r.1::r.2)
noncomputable def a0N(n:Nat):List (Str×D):=[("shapes",.ref (n+1)),("marks",.ref (n+2)),("points",.ref (n+3)),("letters",.ref (n+4)),("gaps",.ref (n+5)),("classes",.ref (n+6)),("features",.ref (n+7)),("rules",.ref (n+8))]
structure HallAt(h:AH)(n:Nat)(H:HD):Prop where
 o:h[n]? =some (.obj 6 (a0N n))
 c1:h[n+1]? =some (.dict (kd H.shapes))
 c2:h[n+2]? =some (.dict (kd H.marks))
 c3:h[n+3]? =some (.dict (pd H.points))
 c4:h[n+4]? =some (.dict (kd H.letters))
 c5:h[n+5]? =some (.lst (H.gaps.map .str))
 c6:h[n+6]? =some (.dict (kd H.classes))
 c7:h[n+7]? =some (.dict (kd H.features))
 c8:h[n+8]? =some (.lst (rd H.rules))
structure Fr(n:Nat)(h h':AH):Prop where
 len:h.length<=h'.length
 get:∀i,i<h.length->(i<n∨n+8<i)->h'[i]? =h[i]?
theorem Fr.refl(n:Nat)(h:AH):Fr n h h:=⟨ai _,fun _ _ _=>rfl⟩
variable{h':AH}
theorem Fr.trans{h'':AH}(a:Fr n h h')(b:Fr n h' h''):Fr n h h'':=
 ⟨aY a.len b.len,fun i hi hn=>(b.get i (aC hi a.len) hn).trans (a.get i hi hn)⟩
theorem Fr.app(n:Nat)(h g:AH):Fr n h (h++g):=⟨by simp,fun i hi _=>av hi⟩
theorem Fr.set{k:Nat}{c:Cell}(h1:n<=k)(h2:k<=n+8):Fr n h (h.set k c):=⟨by simp,fun i hi hn=>List.getElem?_set_ne (by omega)⟩
variable{g:AH}
theorem b7{c:Cell}(e:h[i]? =some c):(h++g)[i]? =some c:=by
 rw[av (ac.mp e).1]
 exact e
theorem HallAt.app{H:HD}(A:HallAt h n H)(g:AH):HallAt (h++g) n H:=
 ⟨b7 A.o,b7 A.c1,b7 A.c2,b7 A.c3,b7 A.c4,b7 A.c5,b7 A.c6,b7 A.c7,b7 A.c8⟩
variable{c':Cell}
theorem b9{k:Nat}{c:Cell}(hne:k≠i)(e:h[i]? =some c):(h.set k c')[i]? =some c:=by
 rw[List.getElem?_set_ne hne]
 exact e
theorem M9{c:Cell}(e:h[i]? =some c):(h.set i c')[i]? =some c':=List.getElem?_set_self (ac.mp e).1
theorem HallAt.s1{H:HD}(A:HallAt h n H)(l:List (Str×D)):HallAt (h.set (n+1) (.dict (kd l))) n {H with shapes:=l}:=
 ⟨b9 (by omega) A.o,M9 A.c1,b9 (by omega) A.c2,b9 (by omega) A.c3,b9 (by omega) A.c4,b9 (by omega) A.c5,b9 (by omega) A.c6,b9 (by omega) A.c7,b9 (by omega) A.c8⟩
theorem HallAt.s2{H:HD}(A:HallAt h n H)(l:List (Str×D)):HallAt (h.set (n+2) (.dict (kd l))) n {H with marks:=l}:=
 ⟨b9 (by omega) A.o,b9 (by omega) A.c1,M9 A.c2,b9 (by omega) A.c3,b9 (by omega) A.c4,b9 (by omega) A.c5,b9 (by omega) A.c6,b9 (by omega) A.c7,b9 (by omega) A.c8⟩
theorem HallAt.s3{H:HD}(A:HallAt h n H)(l:List ((Str×Str)×D)):HallAt (h.set (n+3) (.dict (pd l))) n {H with points:=l}:=
 ⟨b9 (by omega) A.o,b9 (by omega) A.c1,b9 (by omega) A.c2,M9 A.c3,b9 (by omega) A.c4,b9 (by omega) A.c5,b9 (by omega) A.c6,b9 (by omega) A.c7,b9 (by omega) A.c8⟩
theorem HallAt.s4{H:HD}(A:HallAt h n H)(l:List (Str×D)):HallAt (h.set (n+4) (.dict (kd l))) n {H with letters:=l}:=
 ⟨b9 (by omega) A.o,b9 (by omega) A.c1,b9 (by omega) A.c2,b9 (by omega) A.c3,M9 A.c4,b9 (by omega) A.c5,b9 (by omega) A.c6,b9 (by omega) A.c7,b9 (by omega) A.c8⟩
theorem HallAt.s6{H:HD}(A:HallAt h n H)(l:List (Str×D)):HallAt (h.set (n+6) (.dict (kd l))) n {H with classes:=l}:=
 ⟨b9 (by omega) A.o,b9 (by omega) A.c1,b9 (by omega) A.c2,b9 (by omega) A.c3,b9 (by omega) A.c4,b9 (by omega) A.c5,M9 A.c6,b9 (by omega) A.c7,b9 (by omega) A.c8⟩
theorem HallAt.s7{H:HD}(A:HallAt h n H)(l:List (Str×D)):HallAt (h.set (n+7) (.dict (kd l))) n {H with features:=l}:=
 ⟨b9 (by omega) A.o,b9 (by omega) A.c1,b9 (by omega) A.c2,b9 (by omega) A.c3,b9 (by omega) A.c4,b9 (by omega) A.c5,b9 (by omega) A.c6,M9 A.c7,b9 (by omega) A.c8⟩
theorem HallAt.fld1{H:HD}(A:HallAt h n H):T7 h "shapes" (.ref n)=.ok (.ref (n+1)) h:=by simp only[T7,A.o];rfl
theorem HallAt.fld2{H:HD}(A:HallAt h n H):T7 h "marks" (.ref n)=.ok (.ref (n+2)) h:=by simp only[T7,A.o];rfl
theorem HallAt.fld3{H:HD}(A:HallAt h n H):T7 h "points" (.ref n)=.ok (.ref (n+3)) h:=by simp only[T7,A.o];rfl
theorem HallAt.fld4{H:HD}(A:HallAt h n H):T7 h "letters" (.ref n)=.ok (.ref (n+4)) h:=by simp only[T7,A.o];rfl
theorem HallAt.fld5{H:HD}(A:HallAt h n H):T7 h "gaps" (.ref n)=.ok (.ref (n+5)) h:=by simp only[T7,A.o];rfl
theorem HallAt.fld6{H:HD}(A:HallAt h n H):T7 h "classes" (.ref n)=.ok (.ref (n+6)) h:=by simp only[T7,A.o];rfl
theorem HallAt.fld7{H:HD}(A:HallAt h n H):T7 h "features" (.ref n)=.ok (.ref (n+7)) h:=by simp only[T7,A.o];rfl
theorem a0r(k:Str)(l:List (Str×D)):C8 (.str k) (kd l)=true:=by
 simp[C8,kd,G8]
theorem a6D(a b:Str)(l:List ((Str×Str)×D)):C8 (.tup [.str a,.str b]) (pd l)=true:=by
 simp[C8,pd,G8,C9,D9]
theorem a5V(k:Str):∀l:List (Str×D),(n8 (kd l) (.str k)).isSome=decide (k∈l.map (·.1))
 |[]=>rfl
 | p ::r=>by
  have ih:=a5V k r;unfold n8 kd at ih⊢;rw[map_cons,List.find?_cons]
  by_cases e:p.1=k
  · simp[e]
  · have e':¬(D.str p.1=D.str k):=fun z=>e (by injection z)
    simp only[e',decide_false];rw[ih]
    exact decide_eq_decide.mpr ⟨fun z=>by simp[z],fun z=>by
     rw[map_cons] at z
     rcases aH.mp z with z|z
     · exact absurd z.symm e
     · exact z⟩
theorem b0d(a b:Str):∀l:List ((Str×Str)×D),(n8 (pd l) (.tup [.str a,.str b])).isSome=decide ((a,b)∈l.map (·.1))
 |[]=>rfl
 | p ::r=>by
  have ih:=b0d a b r;unfold n8 pd at ih⊢;rw[map_cons,List.find?_cons]
  by_cases e:p.1=(a,b)
  · simp[e]
  · have e':¬(D.tup [.str p.1.1,.str p.1.2]=D.tup [.str a,.str b]):=fun z=>e (by
     injection z with z
     injection z with z1 z2
     injection z1 with z1
     injection z2 with z2
     injection z2 with z2
     exact Prod.ext z1 z2)
    simp only[e',decide_false];rw[ih]
    exact decide_eq_decide.mpr ⟨fun z=>by simp[z],fun z=>by
     rw[map_cons] at z
     rcases aH.mp z with z|z
     · exact absurd z.symm e
     · exact z⟩
theorem a8L{k:Str}{l:List (Str×D)}(h:k∉l.map (·.1)):Y3 (kd l) (.str k) d=kd (l++[(k,d)]):=by
 unfold Y3;rw[az]
 · simp[kd]
 · intro z;rw[bw] at z;obtain⟨p,hp,e⟩:=z;unfold kd at hp;obtain⟨q,hq,rfl⟩:=ak.mp hp;have e:=aw e
   injection e with e
   exact h (ak.mpr ⟨q,hq,e⟩)
theorem b3N{a b:Str}{l:List ((Str×Str)×D)}(h:(a,b)∉l.map (·.1)):Y3 (pd l) (.tup [.str a,.str b]) d=pd (l++[((a,b),d)]):=by
 unfold Y3;rw[az]
 · simp[pd]
 · intro z;rw[bw] at z;obtain⟨p,hp,e⟩:=z;unfold pd at hp;obtain⟨q,hq,rfl⟩:=ak.mp hp;have e:=aw e
   injection e with e
   injection e with e1 e2
   injection e1 with e1
   injection e2 with e2
   injection e2 with e2
   exact h (ak.mpr ⟨q,hq,Prod.ext e1 e2⟩)
theorem a0s{l:List (Str×D)}{k:Str}(e:h[n]? =some (.dict (kd l))):M3 false h (.str k) (.ref n)=.ok (.bl (decide (k∈l.map (·.1)))) h:=by
 simp only[M3,e,a0r,if_true,a5V];simp
theorem b7h{l:List ((Str×Str)×D)}{a b:Str}(e:h[n]? =some (.dict (pd l))):M3 false h (.tup [.str a,.str b]) (.ref n)=.ok (.bl (decide ((a,b)∈l.map (·.1)))) h:=by
 simp only[M3,e,a6D,if_true,b0d];simp
theorem a3N{l:List (Str×D)}(e:h[n]? =some (.dict (kd l))):biD .len h [.ref n]=.ok (.int l.length) h:=by
 have:C8 (.int 0) (kd l)=true:=by simp[C8,kd,G8]
 simp only[biD,e,this,if_true];simp[kd]
theorem x6{l:List D}(e:h[n]? =some (.lst l)):biD .len h [.ref n]=.ok (.int l.length) h:=by
 have:rdL h n=some l:=by unfold rdL;rw[e]
 simp only[biD,e,this]
section
variable{ct:CT}{F:Nat->Option Fn}(W:PF F)
include W
theorem a9Z:b6 ct F (n+1) 32 [.ref h.length] (h++[.obj 6 []])=.ok .non (h++[.obj 6 (a0N h.length),.dict [],.dict [],.dict [],.dict [],.lst [],.dict [],.dict [],.lst []]):=by
 rw[m8 W.f32 rfl];simp only[J5];rw[gc0]
 have hs:∀(x z:Cell) (t:AH),(h++x::t).set h.length z=h++z::t:=fun x z t=>by
  rw[List.set_append_right _ _ (ai _)];simp
 have hg:∀(x:Cell) (t:AH),(h++x::t)[h.length]? =some x:=fun x t=>by simp
 simp_arith[A4,a3v,hs,hg,aA,a2J];simp only[aq,length_cons,length_nil,a0N]
end
theorem z8(i:Int)(k:Nat)(hi:i=(k:Nat))(hw:h[w]? =some (.lst xs))(hd:xs[k]? =some d):ixD h (.ref w) (.int i)=.ok d h:=by
 subst hi;exact B4 hw hd
theorem S9{l:List (Str×D)}{k:Str}(e:h[n]? =some (.dict (kd l)))(hk:k∉l.map (·.1))(hl:l.length<SL):S4 h (.ref n) (.str k) d=.ok () (h.set n (.dict (kd (l++[(k,d)])))):=by
 simp only[S4,e];rw[ay ⟨a0r _ _,by simpa [kd] using hl⟩,a8L hk]
theorem a7p{l:List ((Str×Str)×D)}{a b:Str}(e:h[n]? =some (.dict (pd l)))(hk:(a,b)∉l.map (·.1))(hl:l.length<SL):S4 h (.ref n) (.tup [.str a,.str b]) d=.ok () (h.set n (.dict (pd (l++[((a,b),d)])))):=by
 simp only[S4,e];rw[ay ⟨a6D _ _ _,by simpa [pd] using hl⟩,b3N hk]
theorem a5S{b:Str}{v:Int}(hl:b.length<=640)(hv:intText? b=some v):biD .int h [.str b]=.ok (.int v) h:=by
 simp only[biD,ay hl,hv]
theorem U5(k:Nat)(xs:List D):O0 xs (some (k:Int)) none=xs.drop k:=by
 unfold O0 HT.sIx
 simp only
 rw[az (by omega)]
 show(xs.drop (min k xs.length)).take (xs.length-min k xs.length)=xs.drop k
 by_cases h:k<=xs.length
 · rw[bq h];exact br (by simp)
 · rw[Nat.min_eq_right (by omega),drop_length,List.drop_of_length_le (by omega)];simp
theorem W2(k l:Nat)(xs:List D)(hk:k<=l)(hl:l<=xs.length):O0 xs (some (k:Int)) (some (l:Int))=(xs.drop k).take (l-k):=by
 unfold O0 HT.sIx
 simp only
 rw[az (by omega),az (by omega)]
 show(xs.drop (min k xs.length)).take (min l xs.length-min k xs.length)=_
 rw[bq (show k<=xs.length by omega),bq hl]
theorem N8{lo hi:Option Int}(hw:h[w]? =some (.lst xs)):slD h lo hi (.ref w)=.ok (.ref h.length) (h++[.lst (O0 xs lo hi)]):=by
 have:rdL h w=some xs:=by unfold rdL;rw[hw]
 simp only[slD,this,A4]
theorem a3l(hw:h[w]? =some (.lst xs)):biD .tuple h [.ref w]=.ok (.tup xs) h:=by
 have:rdL h w=some xs:=by unfold rdL;rw[hw]
 simp only[biD,hw,this]
variable{x:Str}{wy:Str}
section
variable{ct:CT}{F:Nat->Option Fn}(W:PF F)
include W
theorem a2q{k:Nat}{H:HD}{a b:Str}{v:Int}(A:HallAt h n H)(hw:h[w]? =some (.lst [.str x,.str a,.str b]))(ha:j0 a=true)(hal:a.length<=100000)(hb:O6 b=some v):
 b6 ct F (k+3) 17 [.ref n,.ref w] h=match due (decide (a∈H.shapes.map (·.1))) true (decide ((60:Int)<=(H.shapes.length:Int))) with
  |some f=>.ok (.str f) h
  |none=>.ok .non (h.set (n+1) (.dict (kd (H.shapes++[(a,.int v)])))):=by
 obtain⟨hv,hbl,_,_⟩:=a1s hb
 have hbn:a1a b=true:=by rw[a1K,hb];rfl
 rw[m8 W.f17 rfl];simp only[L1];rw[gc0];simp_arith[x6 hw,op2,W8,eqS,z8 1 1 rfl hw rfl,z8 2 2 rfl hw rfl,G3 W hal,F5 W (show b.length<=100000 by omega),ha,hbn,A.fld1,a0s A.c1,a3N A.c1,F9,B5 W,U4,a5S hbl hv,Int.cast_ofNat_Int,decide_true,Bool.not_true]
 cases hd:due (decide (a∈H.shapes.map (·.1))) true (decide ((60:Int)<=(H.shapes.length:Int))) with
 |some f=>simp_arith[Option.isNone_some,S6]
 |none=>
  obtain⟨d1,_,d2⟩:=U3 hd;have d2:=of_decide_eq_false d2;simp_arith[Option.isNone_none,S9 A.c1 (of_decide_eq_false d1) (show _<16777216 by omega),S6]
theorem a1h{k:Nat}{H:HD}{a b:Str}(A:HallAt h n H)(hw:h[w]? =some (.lst [.str x,.str a,.str b]))(ha:j0 a=true)(hal:a.length<=100000)(hb:b="on"∨b="off"):
 b6 ct F (k+3) 25 [.ref n,.ref w] h=match due (decide (a∈H.features.map (·.1))) true (decide ((10:Int)<=(H.features.length:Int))) with
  |some f=>.ok (.str f) h
  |none=>.ok .non (h.set (n+7) (.dict (kd (H.features++[(a,.bl (decide (b="on")))])))):=by
 have hin:inD (.str b) [.str "on",.str "off"]=true:=by
  rcases hb with rfl|rfl<;>decide
 rw[m8 W.f25 rfl];simp only[F6];rw[gc0];simp_arith[x6 hw,op2,W8,M4,eqS,z8 1 1 rfl hw rfl,z8 2 2 rfl hw rfl,G3 W hal,ha,A.fld7,a0s A.c7,a3N A.c7,F9,B5 W,U4,hin,y7,all_cons,all_nil,Bool.and_self,and_self,bne_self_eq_false,Int.cast_ofNat_Int,decide_true,Bool.not_true]
 cases hd:due (decide (a∈H.features.map (·.1))) true (decide ((10:Int)<=(H.features.length:Int))) with
 |some f=>simp_arith[Option.isNone_some,S6]
 |none=>
  obtain⟨d1,_,d2⟩:=U3 hd;have d2:=of_decide_eq_false d2;simp_arith[Option.isNone_none,op2,M4,eqS,z8 2 2 rfl hw rfl,A.fld7,S9 A.c7 (of_decide_eq_false d1) (show _<16777216 by omega),S6]
theorem X4{k:Nat}{H:HD}(A:HallAt h n H)(hw:h[w]? =some (.lst (ws.map .str)))(hl:ws.length<=SL):b6 ct F (k+1) 15 [.ref n,.ref w] h=.ok (.bl (ws.all fun x=>decide (x∈H.shapes.map (·.1)))) h:=by
 rw[m8 W.f15 rfl];simp only[L5];simp_arith[];rw[z5 (l:=ws.map D.str) (g:=[(w,.lst (ws.map D.str))]) (h1:=h) ?_ (by simp[gOk,hw]) (fun d=>match d with|.str x=>.bl (decide (x∈H.shapes.map (·.1)))|_=>.non) (fun d=>[some d,some (.ref n)]) ?_ (by simpa using hl)]
 · have e:(ws.map D.str).map (fun d=>match d with|D.str x=>D.bl (decide (x∈H.shapes.map (·.1)))|_=>D.non)=ws.map fun x=>D.bl (decide (x∈H.shapes.map (·.1))):=by
    rw[aK];rfl
   rw[e];simp_arith[a1x];exact gc1 rfl
 · simp_arith[S5,hw]
 · intro x hx;obtain⟨y,hy,rfl⟩:=ak.mp hx;refine⟨rfl,?_⟩
   simp_arith[op2,A.fld1,a0s A.c1]
noncomputable def a1e:List (D×D):=[(.str "none",.int 1),(.str "clear",.int 1),(.str "back",.int 2),(.str "both",.int 4)]
theorem a2v{k:Nat}{a j:Str}{i7:List Str}(hw:h[w]? =some (.lst (.str x::.str a::.str j::.str wy::i7.map .str)))(ha:j0 a=true)(hal:a.length<=100000)(hj:n8 a1e (.str j)=some (.int i7.length))(hy:inD (.str wy) [.str "left",.str "right",.str "either"]=true)
 (hr:i7.all j0=true) (hrl:∀y∈i7,y.length<=100000) (hrs:i7.length<=100000):b6 ct F (k+4) 21 [.ref w] h=.ok (.bl true) h:=by
 rw[m8 W.f21 rfl];simp only[C6]
 have e4:∀xs,O0 xs (some 4) none=xs.drop 4:=U5 4
 have hn:b6 ct F (k+3) 9 [.ref h.length] (h++[.lst (i7.map .str)])=.ok (.bl (i7.all j0)) (h++[.lst (i7.map .str)]):=a0B W b8 (by show _<=16777216;omega) hrl
 have hlen:decide (((i7.length+1+1+1+1:Nat):Int)<4)=false:=bE (by omega)
 unfold a1e at hj;simp_arith[x6 hw,op2,F9,hlen,aa,z8 1 1 rfl hw rfl,z8 2 2 rfl hw rfl,z8 3 3 rfl hw rfl,G3 W hal,ha,D9,Option.isSome_some,hj,hy,y7,all_cons,all_nil,Bool.and_self,and_self,bne_self_eq_false,Bool.not_true,N8 hw,e4,drop_succ_cons,drop_zero,x6 b8,z8 2 2 rfl (b7 (g:=[.lst (i7.map .str)]) hw) rfl,M4,eqS,decide_true,hn,hr];exact gc1 rfl
theorem a1A{k:Nat}{H:HD}{a j:Str}{i7:List Str}(A:HallAt h n H)(hw:h[w]? =some (.lst (.str x::.str a::.str j::.str wy::i7.map .str)))(ha:j0 a=true)(hal:a.length<=100000)(hj:n8 a1e (.str j)=some (.int i7.length))(hy:inD (.str wy) [.str "left",.str "right",.str "either"]=true)
 (hr:i7.all j0=true) (hrl:∀y∈i7,y.length<=100000) (hrs:i7.length<=100000):
 b6 ct F (k+5) 22 [.ref n,.ref w] h=match due (decide (a∈H.letters.map (·.1))) (i7.all fun x=>decide (x∈H.shapes.map (·.1))) (decide ((24:Int)<=(H.letters.length:Int))) with
  |some f=>.ok (.str f) (h++[.lst (i7.map .str)])
  |none=>.ok .non ((h++[Cell.lst (i7.map .str)]).set (n+4) (.dict (kd (H.letters++[(a,D.tup [.str j,.str wy,.tup (i7.map .str)])])))):=by
 rw[m8 W.f22 rfl];simp only[G9];rw[gc0]
 have e4:∀xs,O0 xs (some 4) none=xs.drop 4:=U5 4
 have A1:=A.app [.lst (i7.map .str)];have hw1:=b7 (g:=[.lst (i7.map .str)]) hw;have hs:=X4 (ct:=ct) (k:=k+3) W A1 (b8 (h:=h)) (by show _<=16777216;omega)
 simp_arith[a2v W hw ha hal hj hy hr hrl hrs,Bool.not_true,z8 1 1 rfl hw rfl,N8 hw,e4,drop_succ_cons,drop_zero,op2,A1.fld4,a0s A1.c4,a3N A1.c4,F9,hs,B5 W,U4]
 cases hd:due (decide (a∈H.letters.map (·.1))) (i7.all fun x=>decide (x∈H.shapes.map (·.1))) (decide ((24:Int)<=(H.letters.length:Int))) with
 |some f=>simp_arith[Option.isNone_some,S6]
 |none=>
  obtain⟨d1,_,d2⟩:=U3 hd;have d2:=of_decide_eq_false d2;simp_arith[Option.isNone_none,z8 2 2 rfl hw1 rfl,z8 3 3 rfl hw1 rfl,a3l b8,A1.fld4,S9 A1.c4 (of_decide_eq_false d1) (show _<16777216 by omega),S6]
theorem a2s{k:Nat}{H:HD}{a:Str}{i7:List Str}(A:HallAt h n H)(hw:h[w]? =some (.lst (.str x::.str a::i7.map .str)))(ha:j0 a=true)(hal:a.length<=100000)
 (hr:i7.all j0=true) (hrl:∀y∈i7,y.length<=100000) (hr1:1<=i7.length) (hr2:i7.length<=20):
 b6 ct F (k+5) 24 [.ref n,.ref w] h=match due (decide (a∈H.classes.map (·.1))) (i7.all fun x=>decide (x∈H.shapes.map (·.1))) (decide ((20:Int)<=(H.classes.length:Int))) with
  |some f=>.ok (.str f) (h++[.lst (i7.map .str),.lst (.str a::i7.map .str)])
  |none=>.ok .non ((h++[Cell.lst (i7.map .str),Cell.lst (.str a::i7.map .str)]).set (n+6) (.dict (kd (H.classes++[(a,D.tup (i7.map .str))])))):=by
 rw[m8 W.f24 rfl];simp only[L4];rw[gc0]
 have e1:∀xs,O0 xs (some 1) none=xs.drop 1:=U5 1
 have e2:∀xs,O0 xs (some 2) none=xs.drop 2:=U5 2
 have hw1:=b7 (g:=[.lst (i7.map .str)]) hw;have hw2:=b7 (g:=[.lst (.str a::i7.map .str)]) hw1;have A2:=(A.app [.lst (i7.map .str)]).app [.lst (.str a::i7.map .str)]
 have hq:(h++[Cell.lst (i7.map .str)]++[.lst (.str a::i7.map .str)])[h.length]? =some (.lst (i7.map .str)):=b7 b8
 have hs:=X4 (ct:=ct) (k:=k+3) W A2 hq (by show _<=16777216;omega)
 have hn:b6 ct F (k+4) 9 [.ref (h++[Cell.lst (i7.map .str)]).length] (h++[Cell.lst (i7.map .str)]++[.lst (.str a::i7.map .str)])=.ok (.bl true) (h++[Cell.lst (i7.map .str)]++[.lst (.str a::i7.map .str)]):=by
  have:=a0B (ct:=ct) (n:=k+1) (ws:=a::i7) W (b8 (h:=h++[Cell.lst (i7.map .str)]) (c:=.lst (.str a::i7.map .str))) (by show _<=16777216;simp;omega) (fun y hy=>by
   rcases aH.mp hy with rfl|hy
   · exact hal
   · exact hrl y hy)
  rw[all_cons,ha,hr] at this;exact this
 have l1:decide ((1:Int)<=(i7.length:Int))=true:=bp (by omega)
 have l2:decide ((i7.length:Int)<=20)=true:=bp (by omega)
 simp_arith[N8 hw,e2,drop_succ_cons,drop_zero,x6 b8,aa,op2,F9,l1,l2,Bool.not_true,N8 hw1,e1,hn,z8 1 1 rfl hw2 rfl,A2.fld6,a0s A2.c6,a3N A2.c6,hs,B5 W,U4];rw[show h++[Cell.lst (i7.map D.str),.lst (.str a::i7.map .str)]=h++[Cell.lst (i7.map .str)]++[.lst (.str a::i7.map .str)] by simp]
 cases hd:due (decide (a∈H.classes.map (·.1))) (i7.all fun x=>decide (x∈H.shapes.map (·.1))) (decide ((20:Int)<=(H.classes.length:Int))) with
 |some f=>simp_arith[Option.isNone_some,S6]
 |none=>
  obtain⟨d1,_,d2⟩:=U3 hd;have d2:=of_decide_eq_false d2;simp_arith[Option.isNone_none,a3l hq,A2.fld6,S9 A2.c6 (of_decide_eq_false d1) (show _<16777216 by omega),S6]
end
theorem L0{l:AH}:(h++l)[h.length+i]? =l[i]? :=by
 rw[au (by omega)]
 congr 1;omega
variable{j:Nat}{bef:List Str}{core:List Str}{aft:List Str}{told:List Str}
theorem b0e{l:AH}:(h++l)[h.length]? =l[0]? :=L0 (i:=0)
variable{b:Nat}
theorem b2X{a:Nat}{ys:List D}(h1:g[a]? =some (.lst xs))(h2:g[b]? =some (.lst ys))(hl:xs.length+ys.length<=100000):O5 g (.ref a) (.ref b)=.ok (.ref g.length) (g++[.lst (xs++ys)]):=by
 simp only[O5,h1,h2];rw[ay (by show _<=16777216;omega)]
 rfl
theorem b5A:(true !=false)=true:=rfl
variable{y:Str}
section
variable{ct:CT}{F:Nat->Option Fn}(W:PF F)
include W
theorem a3H{k:Nat}{a b:Str}{i j:Int}(hw:h[w]? =some (.lst [.str a,.str b]))(ha:X0 a=some i)(hb:X0 b=some j):b6 ct F (k+1) 16 [.ref w] h=.ok (.tup [.int i,.int j]) h:=by
 obtain⟨a1,a2⟩:=a1o ha;obtain⟨b1,b2⟩:=a1o hb;rw[m8 W.f16 rfl];simp only[V9];simp_arith[z8 0 0 rfl hw rfl,z8 1 1 rfl hw rfl,a5S a2 a1,a5S b2 b1];exact A6 rfl
theorem a0i{k:Nat}{a sd:Str}{c:Int}(hw:h[w]? =some (.lst (.str x::.str a::.str sd::ws.map .str)))(ha:j0 a=true)(hal:a.length<=100000)(hs:inD (.str sd) [.str "above",.str "below"]=true)(hc:c=ws.length)(hn:ws.all a2E=true)(hwl:∀y∈ws,y.length<=100000)(hl:ws.length<=100000):b6 ct F (k+5) 18 [.ref w,.int c] h=.ok (.bl true) h:=by
 subst hc;rw[m8 W.f18 rfl];simp only[E3]
 have e3:∀xs,O0 xs (some 3) none=xs.drop 3:=U5 3
 have hg:=a2x (ct:=ct) (n:=k) (ws:=ws) W (b8 (h:=h) (c:=.lst (ws.map .str))) (by show _<=16777216;omega) hwl
 rw[hn] at hg
 have hd:decide (((ws.length+1+1+1:Nat):Int)=3+(ws.length:Int))=true:=bp (by omega)
 simp_arith[x6 hw,aa,op2,O5,W8,eqS,hd,Bool.not_true,z8 1 1 rfl hw rfl,z8 2 2 rfl hw rfl,G3 W hal,ha,hs,y7,all_cons,all_nil,Bool.and_self,and_self,b5A,N8 hw,e3,drop_succ_cons,drop_zero,hg];exact gc1 rfl
theorem a2r{k:Nat}{H:HD}{a sd b c:Str}{i j:Int}(A:HallAt h n H)(hw:h[w]? =some (.lst [.str x,.str a,.str sd,.str b,.str c]))(ha:j0 a=true)(hal:a.length<=100000)(hs:inD (.str sd) [.str "above",.str "below"]=true)(hb:X0 b=some i)(hc:X0 c=some j)(hl:H.points.length<=100000):
 ∃h',b6 ct F (k+6) 20 [.ref n,.ref w] h=.ok (S6 (due (decide ((a,sd)∈H.points.map (·.1))) (decide (a∈H.shapes.map (·.1))) false)) h'/\Fr n h h'∧
  HallAt h' n (if(due (decide ((a,sd)∈H.points.map (·.1))) (decide (a∈H.shapes.map (·.1))) false).isNone then{H with points:=H.points++[((a,sd),.tup [.int i,.int j])]} else H):=by
 obtain⟨_,b2⟩:=a1o hb;obtain⟨_,c2⟩:=a1o hc
 have hf:b6 ct F (k+5) 18 [.ref w,.int 2] h=.ok (.bl true) h:=a0i (ws:=[b,c]) W hw ha hal hs rfl (by simp[a4B,hb,hc]) (fun y hy=>by
  rcases aH.mp hy with rfl|hy
  · omega
  · rw[aW] at hy;subst hy;omega) (by simp)
 rw[m8 W.f20 rfl];simp only[L3];rw[gc0];simp_arith[hf,Bool.not_true,z8 1 1 rfl hw rfl,z8 2 2 rfl hw rfl,op2,A.fld3,b7h A.c3,A.fld1,a0s A.c1,B5 W,U4];generalize hd:due (decide ((a,sd)∈H.points.map (·.1))) (decide (a∈H.shapes.map (·.1))) false=du
 cases du with
 |some f=>
  simp_arith[Option.isNone_some,S6];exact⟨h,rfl,Fr.refl n h,A⟩
 |none=>
  obtain⟨d1,_,_⟩:=U3 hd
  have e35:O0 [.str x,.str a,.str sd,.str b,.str c] (some 3) (some 5)=[.str b,.str c]:=W2 3 5 _ (by decide) (by simp)
  have A1:=A.app [.lst [.str b,.str c]];simp_arith[Option.isNone_none,N8 hw,e35,a3H W (b8 (h:=h)) hb hc,A1.fld3,a7p A1.c3 (of_decide_eq_false d1) (show _<16777216 by omega),S6]
  exact⟨_,rfl,(Fr.app n h _).trans (Fr.set (by omega) (by omega)),A1.s3 _⟩
end
variable{text:Str}
section
variable{ct:CT}{F:Nat->Option Fn}
def V0(ct:CT)(F:Nat->Option Fn)(d:Nat)(H:HD)(ws:List Str)(du:Option Str)(H':HD):Prop:=∀(h:AH) (n w:Nat),HallAt h n H->h[w]? =some (.lst (ws.map .str))->∃h',b6 ct F d 13 [.ref n,.ref w] h=.ok (S6 du) h'/\Fr n h h'/\HallAt h' n H'
inductive Reads(ct:CT)(F:Nat->Option Fn)(d:Nat):HD->List Str->HD->Prop
 |nil (H:HD):Reads ct F d H [] H
 |take {H H1 H':HD} {row:Str} {i7:List Str} (hl:row.length<=100000) (hw:G6 row≠[]) (k:V0 ct F d H (G6 row) none H1) (t:Reads ct F d H1 i7 H'):Reads ct F d H (row::i7) H'
def rhB:Ss:=(.cons (.set 4 (.call 1 (.cons (.v 3) .nil))) (.cons (.iff (.cmp .gt (.bi .len (.cons (.v 4) .nil)) (.k (.int (0)))) (.cons (.set 5 (.call 13 (.cons (.v 1) (.cons (.v 4) .nil)))) (.cons (.iff (.notN (.v 5)) (.cons .bad .nil) .nil) .nil)) .nil) .nil))
variable(W:PF F)
include W
theorem b1Y{d:Nat}{R:List Str}{H H':HD}{rows:List Str}(q:Reads ct F (d+1) H rows H'):∀(p:Nat) (h:AH) (e2 e3 e4 e5:Option D),HallAt h n H->h[n+9]? =some (.lst (R.map .str))→
 ∃h',Fr n h h'/\HallAt h' n H'/\∃a2 a3 a4 a5,M5 [(n+9,.lst (R.map .str))] (.tp (.cons (.nm 2) (.cons (.nm 3) .nil))) (exs ct (b6 ct F (d+1)) rhB) (z9 p (rows.map D.str)) [some (.str text),some (.ref n),e2,e3,e4,e5] h=.ok (.nx [some (.str text),some (.ref n),a2,a3,a4,a5]) h':=by
 have step:∀{h:AH} {e2 e3 e4 e5:Option D} {row:Str} {i7:List D} {p:Nat},h[n+9]? =some (.lst (R.map .str))→
  M5 [(n+9,.lst (R.map .str))] (.tp (.cons (.nm 2) (.cons (.nm 3) .nil))) (exs ct (b6 ct F (d+1)) rhB) (.tup [.int p,.str row]::i7) [some (.str text),some (.ref n),e2,e3,e4,e5] h=
  (exs ct (b6 ct F (d+1)) rhB [some (.str text),some (.ref n),some (.int p),some (.str row),e4,e5] h).bind fun o h'=>match o with
   |.nx env''=>M5 [(n+9,.lst (R.map .str))] (.tp (.cons (.nm 2) (.cons (.nm 3) .nil))) (exs ct (b6 ct F (d+1)) rhB) i7 env'' h'
   |.rt d=>.ok (.rt d) h':=fun{h e2 e3 e4 e5 row i7 p} hs=>by
  rw[M5,ay (by simp[gOk,hs])]
  rfl
 induction q with
 |nil H=>
  intro p h e2 e3 e4 e5 A hs;refine⟨h,Fr.refl n h,A,e2,e3,e4,e5,?_⟩
  rw[map_nil,z9,M5,ay (by simp[gOk,hs])]
 | @take H H1 H' row i7 hl hw k t ih=>
  intro p h e2 e3 e4 e5 A hs;obtain⟨h1,k1,k2,k3⟩:=k (h++[.lst ((G6 row).map .str)]) n h.length (A.app _) b8
  have hs1:h1[n+9]? =some (.lst (R.map .str)):=by
   have hs0:=b7 (g:=[Cell.lst ((G6 row).map .str)]) hs;rw[k2.get (n+9) (ac.mp hs0).1 (by omega)]
   exact hs0
  obtain⟨h',f1,A',e2',e3',e4',e5',m⟩:=ih (p+1) h1 (some (.int p)) (some (.str row)) (some (.ref h.length)) (some .non) k3 hs1
  have hp:decide ((0:Int)<(((G6 row).map D.str).length:Int))=true:=bp (by
   cases hq:G6 row with
   |nil=>exact absurd hq hw
   |cons a b=>simp)
  have e:exs ct (b6 ct F (d+1)) rhB [some (.str text),some (.ref n),some (.int p),some (.str row),e4,e5] h=.ok (.nx [some (.str text),some (.ref n),some (.int p),some (.str row),some (.ref h.length),some .non]) h1:=by
   simp only[rhB];simp_arith[a4u W hl,x6 b8,op2,F9,hp,k1,S6,decide_true,Bool.not_true]
  refine⟨h',((Fr.app n h _).trans k2).trans f1,A',e2',e3',e4',e5',?_⟩
  rw[map_cons,z9,step hs,e,i6];exact m
theorem b2l(f:Fr h.length h h'):h'.take h.length=h:=by
 refine ext_getElem? fun i=>?_
 by_cases hi:i<h.length
 · rw[bG hi,f.get i hi (.inl hi)]
 · rw[bg (by simp;omega),bg (by omega)]
theorem a3C{d:Nat}{H':HD}(hin:ct.init 6=32)(ht:text.length<=10000000)(q:Reads ct F (d+1) {} (Txt.split text "\n") H'):
 ∃h',h'.take h.length=h/\HallAt h' h.length H'/\b6 ct F (d+2) 12 [.str text] h=.ok (.ref h.length) h':=by
 rw[m8 W.f12 rfl]
 have hf:N3=⟨1,6,0,(.cons (.set 1 (.mk 6 .nil)) (.cons (.for (.tp (.cons (.nm 2) (.cons (.nm 3) .nil))) (.enum (.mt .split (.v 0) (.cons (.k (.str "\n")) .nil))) rhB) (.cons (.ret (.v 1)) .nil)))⟩:=rfl
 simp only[hf];rw[gc0]
 have A0:HallAt (h++[.obj 6 (a0N h.length),.dict [],.dict [],.dict [],.dict [],.lst [],.dict [],.dict [],.lst []]) h.length {}:=⟨b0e,L0,L0,L0,L0,L0,L0,L0,L0⟩
 have hlen:(h++[Cell.obj 6 (a0N h.length),.dict [],.dict [],.dict [],.dict [],.lst [],.dict [],.dict [],.lst []]).length=h.length+9:=by simp
 have hnew:=a9Z (ct:=ct) (n:=d) (h:=h) W;generalize hg:h++[Cell.obj 6 (a0N h.length),.dict [],.dict [],.dict [],.dict [],.lst [],.dict [],.dict [],.lst []]=g at*
 have A1:=A0.app [.lst ((Txt.split text "\n").map .str)]
 have hs:(g++[Cell.lst ((Txt.split text "\n").map .str)])[h.length+9]? =some (.lst ((Txt.split text "\n").map .str)):=by rw[←hlen];exact b8
 obtain⟨h',f1,A',e2,e3,e4,e5,m⟩:=b1Y (d:=d) (R:=Txt.split text "\n") (text:=text) W q 0 (g++[.lst ((Txt.split text "\n").map .str)]) none none none none A1 hs
 have fr:Fr h.length h h':=by
  refine Fr.trans ?_ f1
  rw[←hg];exact(Fr.app _ h _).trans (Fr.app _ _ _)
 refine⟨h',b2l W fr,A',?_⟩
 have hsp:mtD .split g (.str text) [.str "\n"]=.ok (.ref g.length) (g++[.lst ((Txt.split text "\n").map .str)]):=by
  simp only[mtD];rw[ay ⟨by decide,by show _<=16777216;omega⟩]
  rfl
 have hen:X6 (g++[.lst ((Txt.split text "\n").map .str)]) (.ref g.length)=.ok (z9 0 ((Txt.split text "\n").map .str),[(h.length+9,.lst ((Txt.split text "\n").map .str))]) (g++[.lst ((Txt.split text "\n").map .str)]):=by
  simp only[X6,hlen,hs]
 simp_arith[hin,hnew,mtT,hsp,hen,m]
end
noncomputable def dg(n:Nat):Str:=Str.ofString (toString (n:Int))
def lt(i:Nat):Nat:=97+i
theorem b0K:∀i:Fin 26,(cd abc)[i.val]? =some (lt i.val)/\L9 (lt i.val)=true:=by decide+kernel
def nm(stem:Str)(k:Nat):Str:=(⟨#[lt (7*k%26)]⟩++stem)++dg (k*13%61)
variable{stem:Str}
theorem a1R(h:j0 z=true):1<=z.length/\z.length<=12:=by
 unfold j0 at h;rw[ae,ae] at h;exact⟨aw h.1.1,aw h.1.2⟩
section
variable{ct:CT}{F:Nat->Option Fn}(W:PF F)
include W
section
variable{k:Nat}{i7:List D}
theorem a8q(hw:h[w]? =some (.lst (.str "shape"::i7))):b6 ct F (k+1) 13 [.ref n,.ref w] h=b6 ct F k 17 [.ref n,.ref w] h:=by
 rw[m8 W.f13 rfl];simp only[B6];rw[gc0];simp_arith[z8 0 0 rfl hw rfl,op2,M4,eqS,decide_true,decide_false];generalize b6 ct F k 17 [.ref n,.ref w] h=r
 cases r<;>simp_arith[]
theorem a8r(hw:h[w]? =some (.lst (.str "point"::i7))):b6 ct F (k+1) 13 [.ref n,.ref w] h=b6 ct F k 20 [.ref n,.ref w] h:=by
 rw[m8 W.f13 rfl];simp only[B6];rw[gc0];simp_arith[z8 0 0 rfl hw rfl,op2,M4,eqS,decide_true,decide_false];generalize b6 ct F k 20 [.ref n,.ref w] h=r
 cases r<;>simp_arith[]
theorem a7l(hw:h[w]? =some (.lst (.str "letter"::i7))):b6 ct F (k+1) 13 [.ref n,.ref w] h=b6 ct F k 22 [.ref n,.ref w] h:=by
 rw[m8 W.f13 rfl];simp only[B6];rw[gc0];simp_arith[z8 0 0 rfl hw rfl,op2,M4,eqS,decide_true,decide_false];generalize b6 ct F k 22 [.ref n,.ref w] h=r
 cases r<;>simp_arith[]
theorem a8s(hw:h[w]? =some (.lst (.str "class"::i7))):b6 ct F (k+1) 13 [.ref n,.ref w] h=b6 ct F k 24 [.ref n,.ref w] h:=by
 rw[m8 W.f13 rfl];simp only[B6];rw[gc0];simp_arith[z8 0 0 rfl hw rfl,op2,M4,eqS,decide_true,decide_false];generalize b6 ct F k 24 [.ref n,.ref w] h=r
 cases r<;>simp_arith[]
theorem a5v(hw:h[w]? =some (.lst (.str "feature"::i7))):b6 ct F (k+1) 13 [.ref n,.ref w] h=b6 ct F k 25 [.ref n,.ref w] h:=by
 rw[m8 W.f13 rfl];simp only[B6];rw[gc0];simp_arith[z8 0 0 rfl hw rfl,op2,M4,eqS,decide_true,decide_false];generalize b6 ct F k 25 [.ref n,.ref w] h=r
 cases r<;>simp_arith[]
end
def b7M{α:Type}(o:Option Str)(a b:α):α:=match o with
 |none=>a
 |some _=>b
variable{d:Nat}{H:HD}
theorem a8t{a b:Str}{v:Int}(ha:j0 a=true)(hb:O6 b=some v):V0 ct F (d+9) H [("shape":Str),a,b] (due (decide (a∈H.shapes.map (·.1))) true (decide ((60:Int)<=(H.shapes.length:Int))))
 (b7M (due (decide (a∈H.shapes.map (·.1))) true (decide ((60:Int)<=(H.shapes.length:Int)))) {H with shapes:=H.shapes++[(a,.int v)]} H):=by
 intro h n w A hw
 have:=a2q (ct:=ct) (k:=d+5) W A hw ha (by have:=a1R ha;omega) hb
 rw[a8q W hw,this];generalize due (decide (a∈H.shapes.map (·.1))) true (decide ((60:Int)<=(H.shapes.length:Int)))=du
 cases du with
 |none=>exact⟨_,rfl,Fr.set (by omega) (by omega),A.s1 _⟩
 |some f=>exact⟨_,rfl,Fr.refl n h,A⟩
theorem a5w{a b:Str}(ha:j0 a=true)(hb:b="on"∨b="off"):V0 ct F (d+9) H [("feature":Str),a,b] (due (decide (a∈H.features.map (·.1))) true (decide ((10:Int)<=(H.features.length:Int))))
 (b7M (due (decide (a∈H.features.map (·.1))) true (decide ((10:Int)<=(H.features.length:Int)))) {H with features:=H.features++[(a,.bl (decide (b="on")))]} H):=by
 intro h n w A hw
 have:=a1h (ct:=ct) (k:=d+5) W A hw ha (by have:=a1R ha;omega) hb
 rw[a5v W hw,this];generalize due (decide (a∈H.features.map (·.1))) true (decide ((10:Int)<=(H.features.length:Int)))=du
 cases du with
 |none=>exact⟨_,rfl,Fr.set (by omega) (by omega),A.s7 _⟩
 |some f=>exact⟨_,rfl,Fr.refl n h,A⟩
end
theorem a1w(x y:Str):(x++y).length=x.length+y.length:=by rw[←u5,U8,aq,u5,u5]
theorem a8x{i:Int}(h: -1000000000000<=i/\i<=1000000000000):a1n i=true:=by
 cases i with
 |ofNat n=>
  refine Nat.ble_eq_true_of_le ?_
  have:(n:Int)<=1000000000000:=h.2
  omega
 |negSucc n=>
  refine Nat.ble_eq_true_of_le ?_
  have:=h.1
  rw[Int.negSucc_eq] at this;omega
theorem a2D(h:n<=1000000):a0F (n:Int)=true:=Nat.ble_eq_true_of_le (by omega)
theorem a0J{i j:Int}(hj: -1000000000000<=j/\j<=1000000000000):X1 h (.int i) (.int j)=.ok (.int (i*j)) h:=by
 simp only[X1];rw[ay (by rw[a8x hj,Bool.or_true])]
theorem a5J{i j:Int}(hj:0<j):F8 h (.int i) (.int j)=.ok (.int (i%j)) h:=by
 simp only[F8];rw[ay hj]
theorem b5s{i j:Int}(hj:0<j)(h2:j<1073741824):M6 h (.int i) (.int j)=.ok (.int (i/j)) h:=by
 simp only[M6];rw[ay ⟨hj,h2⟩]
theorem L7{i j:Int}:O5 h (.int i) (.int j)=.ok (.int (i+j)) h:=rfl
theorem W5(hl:x.length+y.length<=100000):O5 h (.str x) (.str y)=.ok (.str (x++y)) h:=by
 simp only[O5];rw[ay (by show _<=16777216;omega)]
theorem P6(b:Nat)(hb:0<b){a:Nat}:F8 h (.int (a:Int)) (.int (b:Int))=.ok (.int ((a%b:Nat):Int)) h:=by
 rw[a5J (by omega)]
 congr 2
theorem a2w(b:Nat)(hb:0<b)(h2:b<1073741824){a:Nat}:M6 h (.int (a:Int)) (.int (b:Int))=.ok (.int ((a/b:Nat):Int)) h:=by
 rw[b5s (by omega) (by omega)]
 congr 2
noncomputable def mx(c j:Int):Int:=(c%2305843009213693951+1)*(j*j+48271)*40692%2147483399
theorem b4v(c j:Int):0<=mx c j:=Int.emod_nonneg _ (by decide)
variable{sep:Str}{ts:List Str}
theorem a3R(h:(ts.map (·.length)).sum+ts.length*sep.length<=1000000):JoinOk sep ts=true:=by
 unfold JoinOk;rw[StrLaws.joinTotal];simp only[Builtin.Str.tooLong,Bool.not_eq_true',decide_eq_false_iff_not]
 have:sizeLine=16777216:=by decide
 omega
theorem a5j:∀ps:List Str,cd (Str.join "" ps)=(ps.map cd).flatten
 |[]=>rfl
 |[x]=>by show cd x=_;simp
 |x::y::r=>by
  show cd (x++Str.ofString ""++Str.join "" (y::r))=_
  rw[U8,U8,a5j (y::r),show cd (Str.ofString "")=[] from rfl,bn];rfl
theorem b5w(n:Nat)(x:Str):cd (C3 n x)=(List.replicate n (cd x)).flatten:=by
  show(C3 n x).cps.toList=_
  unfold C3;rw[foldl_app'];simp[cd]
where
  foldl_app' {x:Array Nat}:∀{n:Nat} {a:Array Nat},((List.replicate n x).foldl (· ++ ·) a).toList=a.toList++(List.replicate n x.toList).flatten
    |0,a=>by simp
    |n+1,a=>by rw[replicate_succ,foldl_cons,foldl_app',replicate_succ,flatten_cons];simp
theorem a7b(ts:List Str):cd (Txt.join "" ts)=(ts.map cd).flatten:=by
 show cd (Builtin.Str.glued "" _)=_
 rw[StrLaws.glued_eq_join];exact a5j ts
theorem b6w{p:Nat}(h:p<=z.length):cd (Txt.slice z none (some (p:Int)))=(cd z).take p:=by
 have e:Txt.slice z none (some (p:Int))=⟨((z.cps.toList.drop (0:Int).toNat).take ((p:Int)-0).toNat).toArray⟩:=beq_iff_eq.mp (PyProof.Rows.slice_closes_to ⟨by omega,by have:=u5 z;show(p:Int)<=((cd z).length:Int);omega⟩)
 rw[e];simp[cd]
theorem b1h{p:Nat}(h:p<=z.length):cd (Txt.slice z (some (p:Int)) none)=(cd z).drop p:=by
 rw[PyProof.Rows.slice_from_eq (b:=z.length) (by omega) (by omega) rfl]
 show((cd z).drop ((p:Int).toNat)).take (((z.length:Int)-p).toNat)=_
 rw[Int.toNat_natCast];exact br (by rw[bF,u5];omega)
variable{c:CF}{env:o6}{f:Nat}{ns:List Int}
section
variable{ct:CT}{F:Nat->Option Fn}
theorem seq{s:S}{T:Ss}{env':o6}(e:ex ct c s env h=.ok (.nx env') h'):exs ct c (.cons s T) env h=exs ct c T env' h':=by rw[J6,e,i6]
theorem a0w{k:Nat}(hF:F f=some z4)(hr:h[n]? =some (.rol (ns.map .int))):∃a,b6 ct F (k+1) f [.ref n,.int (j:Int)] h=.ok (.int a) h:=by
 rw[m8 hF rfl];simp only[z4]
 have rl:rdL h n=some (ns.map .int):=by unfold rdL;rw[hr]
 have le:biD .len h [.ref n]=.ok (.int (ns.length:Int)) h:=by simp only[biD,hr,rl,aa]
 by_cases lt:(j:Int)<(ns.length:Int)
 · have lt':j<ns.length:=by omega
   have ix:ixD h (.ref n) (.int (j:Int))=.ok (.int ns[j]) h:=by
    have:atI (ns.map D.int) (j:Int)=some (.int ns[j]):=by
     show(ixN (ns.map D.int).length (j:Int)).bind (fun j=>(ns.map D.int)[j]?)=_
     have e:ixN (ns.map D.int).length (j:Int)=some j:=by
      unfold ixN;rw[aa,ay (by omega),ay (by omega)]
      simp
     rw[e]
     show(ns.map D.int)[j]? =_
     rw[aj,af lt']
     rfl
    simp only[ixD,hr,this]
   refine⟨ns[j],?_⟩
   simp_arith[le,op2,F9,lt,decide_true,ix];exact A6 rfl
 · refine⟨0,?_⟩
   simp_arith[le,op2,F9,lt,decide_false];exact A6 rfl
theorem J4{k:Nat}{c j:Int}(hF:F f=some l9)(hj:0<=j/\j<=1000):∃M:Nat,b6 ct F (k+1) f [.int c,.int j] h=.ok (.int (M:Int)) h:=by
 obtain⟨M,hM⟩:=Int.eq_ofNat_of_zero_le (b4v c j);refine⟨M,?_⟩
 rw[←hM,m8 hF rfl];simp only[l9]
 have hjj:0<=j*j/\j*j<=1000000:=⟨Int.mul_nonneg hj.1 hj.1,by
  have:=Int.mul_le_mul hj.2 hj.2 hj.1 (by decide)
  omega⟩
 simp_arith[op2,a5J (h:=h) (i:=c) (j:=2305843009213693951) (by decide),O5,a0J (h:=h) (i:=j) (j:=j) (by omega),a0J (h:=h) (i:=c%2305843009213693951+1) (j:=j*j+48271) (by omega),a0J (h:=h) (i:=(c%2305843009213693951+1)*(j*j+48271)) (j:=40692) (by decide),a5J (h:=h) (i:=(c%2305843009213693951+1)*(j*j+48271)*40692) (j:=2147483399) (by decide)]
 exact A6 rfl
end
variable{α:Type}
theorem a3S{a:Option α}:(some a).join=a:=rfl
theorem a7d:abc.length=26:=by decide+kernel
theorem b5K:abc.length<=SL:=by rw[a7d];show 26<=16777216;omega
theorem b4z{a:Nat}(h:lt a=lt b):a=b:=by unfold lt at h;omega
theorem a6A(h:i<26):L9 (lt i)=true:=(b0K ⟨i,h⟩).2
def nmA(f m i:Nat):Str:=C3 (m-i) ⟨#[lt f]⟩
theorem a6f(f m i:Nat):cd (nmA f m i)=List.replicate (m-i) (lt f):=by
 unfold nmA;rw[b5w]
 show(List.replicate _ [lt f]).flatten=_
 simp
noncomputable def nmB(stem:Str)(p f i:Nat):Str:=(Txt.slice stem none (some (p:Int))++⟨#[lt ((f+5*i)%26)]⟩)++Txt.slice stem (some (p:Int)) none
theorem a4f{p:Nat}(h:p<=stem.length):cd (nmB stem p f i)=(cd stem).take p++lt ((f+5*i)%26)::(cd stem).drop p:=by
 unfold nmB;rw[U8,U8,b6w h,b1h h]
 show(cd stem).take p++[lt ((f+5*i)%26)]++(cd stem).drop p=_
 simp
theorem a0H{α β:Type}(f:α->β):∀{l:List α},l.Nodup->(∀a∈l,∀b∈l,f a=f b->a=b)->(l.map f).Nodup
 |[],_,_=>nodup_nil
 |x::r,h,hi=>by
  have h:=bf.mp h;rw[map_cons];refine bf.mpr ⟨fun m=>?_,a0H f h.2 fun a ha b hb=>hi a (.tail _ ha) b (.tail _ hb)⟩
  obtain⟨y,hy,e⟩:=ak.mp m;rw[hi y (.tail _ hy) x (.head _) e] at hy;exact h.1 hy
structure Nms(ns:List Str)(m:Nat):Prop where
 len:ns.length=m
 nd:ns.Nodup
 ok:∀n∈ns,j0 n=true
theorem b8X{m:Nat}(hf:f<26)(hm:m<13):Nms ((List.range m).map (nmA f m)) m:=by
 refine⟨by simp,a0H _ List.nodup_range fun a ha b hb e=>?_,fun n hn=>?_⟩
 · have ha:=aV.mp ha;have hb:=aV.mp hb;have e:=congrArg (fun z=>(cd z).length) e
   simp only[a6f,bu] at e;omega
 · obtain⟨i,hi,rfl⟩:=ak.mp hn;have hi:=aV.mp hi
   have l:(nmA f m i).length=m-i:=by rw[←u5,a6f,bu]
   unfold j0;rw[l,a6f];rw[bp (show 1<=m-i by omega),bp (show m-i<=12 by omega)]
   simp only[Bool.true_and];refine bv.mpr fun c hc=>?_
   rw[(List.mem_replicate.mp hc).2];exact a6A hf
theorem b8W{p m:Nat}(hs:stem.length<=11)(hst:(cd stem).all L9=true)(hp:p<=stem.length)(hm:m<=26):Nms ((List.range m).map (nmB stem p f)) m:=by
 refine⟨by simp,a0H _ List.nodup_range fun a ha b hb e=>?_,fun n hn=>?_⟩
 · have ha:=aV.mp ha;have hb:=aV.mp hb;have e:=congrArg cd e;rw[a4f hp,a4f hp] at e;have e:=List.append_cancel_left e
   injection e with e _
   have e:=b4z e;omega
 · obtain⟨i,hi,rfl⟩:=ak.mp hn
   have lt':((cd stem).take p++lt ((f+5*i)%26)::(cd stem).drop p).length=stem.length+1:=by
    rw[aq,length_cons,aQ,bF,u5];omega
   have l:(nmB stem p f i).length=stem.length+1:=by rw[←u5,a4f hp,lt']
   unfold j0;rw[l,a4f hp,bp (show 1<=stem.length+1 by omega),bp (show stem.length+1<=12 by omega)]
   simp only[Bool.true_and];refine bv.mpr fun c hc=>?_
   rcases aO.mp hc with q|q
   · exact bv.mp hst c (List.mem_of_mem_take q)
   · rcases aH.mp q with q|q
     · rw[q];exact a6A (Nat.mod_lt _ (by decide))
     · exact bv.mp hst c (List.mem_of_mem_drop q)
variable{e:E}
section
variable{ct:CT}{F:Nat->Option Fn}
theorem Y2{m:Nat}(hm:m<=1000000):a5C h (.int 0) (.int (m:Int))=.ok ((List.range m).map fun i=>.int ((0:Int)+(i:Nat)),[]) h:=by
 simp only[a5C];rw[ay ⟨by decide,a2D hm⟩]
 show R.ok (a8I 0 (((m:Int)-0).toNat),[]) h=_
 rw[Int.sub_zero,Int.toNat_natCast];rfl
theorem a2g{fr:List Nat}{a:E}{m:Nat}(f:Nat->D)(ha:ev ct c a env h=.ok (.int (m:Int)) h)(hm:m<=1000000)
 (hx:∀i,i<m->ev ct c e (some (.int (i:Int))::fr.map fun j=>(env[j]?).join) h=.ok (f i) h):ev ct c (.comp (.nm 0) (.rng1 a) 1 fr .yes e) env h=.ok (.ref h.length) (h++[.lst ((List.range m).map f)]):=by
 rw[z5 (l:=(List.range m).map fun i=>.int ((0:Int)+(i:Nat))) (g:=[]) (h1:=h) ?_ rfl (fun d=>match d with|.int i=>f i.toNat|_=>.non) (fun d=>some d::fr.map fun j=>(env[j]?).join) ?_ ?_]
 · congr 3;rw[aK];refine congrArg (fun g=>Cell.lst (List.map g (List.range m))) (funext fun i=>?_)
   simp
 · rw[a4W,ha,i6,Y2 hm]
 · intro x hx';obtain⟨i,hi,rfl⟩:=ak.mp hx';refine⟨rfl,?_⟩
   have z:(0:Int)+(i:Nat)=((i:Nat):Int):=by omega
   rw[z,hx i (aV.mp hi)];simp
 · rw[aa,aM]
   show _<=16777216
   omega
theorem a9R(hi:i<26):ixD h (.str abc) (.int (i:Int))=.ok (.str ⟨#[lt i]⟩) h:=ix_str b5K (b0K ⟨i,hi⟩).1
theorem a8A:a0h.length<=SL:=by rw[show a0h.length=36 by decide+kernel];show 36<=16777216;omega
def a0v(c i:Nat):Nat:=(cd a0h).getD ((c/16224+7*i)%36) 0
theorem a5h(c i:Nat):(cd a0h)[(c/16224+7*i)%36]? =some (a0v c i)/\L9 (a0v c i)=true:=by
 have lt:(c/16224+7*i)%36<(cd a0h).length:=by rw[u5,show a0h.length=36 by decide+kernel];exact Nat.mod_lt _ (by decide)
 unfold a0v;rw[bC,af lt]
 exact⟨rfl,bp (bz lt)⟩
theorem a4L{k c m:Nat}(hF:F f=some u0)(hm:m<=26):∃ns,Nms ns m/\b6 ct F (k+1) f [.int (c:Int),.int (m:Int)] h=.ok (.ref h.length) (h++[.lst (ns.map .str)]):=by
 have d4:M6 h (.int (c:Int)) (.int 4)=.ok (.int ((c/4:Nat):Int)) h:=a2w 4 (by decide) (by decide)
 have m26:∀(a:Nat) (h:AH),F8 h (.int (a:Int)) (.int 26)=.ok (.int ((a%26:Nat):Int)) h:=fun a h=>P6 26 (by decide)
 have m4:F8 h (.int (c:Int)) (.int 4)=.ok (.int ((c%4:Nat):Int)) h:=P6 4 (by decide)
 have d104:M6 h (.int (c:Int)) (.int 104)=.ok (.int ((c/104:Nat):Int)) h:=a2w 104 (by decide) (by decide)
 have m12:F8 h (.int ((c/104:Nat):Int)) (.int 12)=.ok (.int ((c/104%12:Nat):Int)) h:=P6 12 (by decide)
 have d1248:M6 h (.int (c:Int)) (.int 1248)=.ok (.int ((c/1248:Nat):Int)) h:=a2w 1248 (by decide) (by decide)
 have f26:c/4%26<26:=Nat.mod_lt _ (by decide)
 have s12:c/104%12<12:=Nat.mod_lt _ (by decide)
 rw[m8 hF rfl];simp only[u0]
 show∃ns,Nms ns m/\gcR 2 h (J9 (exs ct (b6 ct F k) _ [some (.int (c:Int)),some (.int (m:Int)),none,none,none,none,none] h))=_
 rw[seq (env':=[some (.int (c:Int)),some (.int (m:Int)),some (.str abc),none,none,none,none]) (h':=h) (by simp_arith[])]
 rw[seq (env':=[some (.int (c:Int)),some (.int (m:Int)),some (.str abc),some (.int ((c/4%26:Nat):Int)),none,none,none]) (h':=h) (by simp_arith[op2,d4,m26])]
 generalize hf:c/4%26=f1 at f26
 by_cases hc:((c%4:Nat):Int)=0/\(m:Int)<13
 · obtain⟨h1,h2⟩:=hc
   have q0:M4 h (.int ((c%4:Nat):Int)) (.int 0)=.ok (.bl true) h:=by rw[h1];rfl
   refine⟨_,b8X (m:=m) f26 (by omega),?_⟩
   have cm:ev ct (b6 ct F k) cA [some (.int (c:Int)),some (.int (m:Int)),some (.str abc),some (.int (f1:Int)),none,none,none] h=.ok (.ref h.length) (h++[.lst ((List.range m).map fun i=>.str (nmA f1 m i))]):=by
    unfold cA;refine a2g (fun i=>.str (nmA f1 m i)) (by simp_arith[]) (by omega) fun i hi=>?_
    have sb:a6v h (.int (m:Int)) (.int (i:Int))=.ok (.int ((m-i:Nat):Int)) h:=by
     show R.ok (D.int ((m:Int)-(i:Int))) h=_
     congr 2;omega
    have ml:X1 h (.str ⟨#[lt f1]⟩) (.int ((m-i:Nat):Int))=.ok (.str (nmA f1 m i)) h:=by
     simp only[X1]
     have l1:(⟨#[lt f1]⟩:Str).length*(((m-i:Nat):Int)).toNat<=SL:=by
      rw[Int.toNat_natCast]
      show 1*(m-i)<=16777216
      omega
     rw[ay ⟨a2D (by omega),l1⟩]
     exact congrArg (fun z=>R.ok (D.str (C3 z ⟨#[lt f1]⟩)) h) (Int.toNat_natCast _)
    simp_arith[op2,a9R f26,sb,ml,a3S]
   simp_arith[op2,m4,q0,F9,h2,decide_true,cm]
   have e:((List.range m).map (nmA f1 m)).map D.str=(List.range m).map fun i=>D.str (nmA f1 m i):=by rw[aK];rfl
   rw[e];exact gc2 (by simp) (ai _) (by rw[←e];exact E6 _)
 · have tt:∀T,exs ct (b6 ct F k) (.cons (.iff (.an (.cmp .eq (.bin .mod (.v 0) (.k (.int (4)))) (.k (.int (0)))) (.cmp .lt (.v 1) (.k (.int (13))))) (.cons (.ret cA) .nil) .nil) T) [some (.int (c:Int)),some (.int (m:Int)),some (.str abc),some (.int (f1:Int)),none,none,none] h=exs ct (b6 ct F k) T [some (.int (c:Int)),some (.int (m:Int)),some (.str abc),some (.int (f1:Int)),none,none,none] h:=fun T=>by
    refine seq ?_
    by_cases h1:((c%4:Nat):Int)=0
    · have h2:¬(m:Int)<13:=fun z=>hc ⟨h1,z⟩
      have q0:M4 h (.int ((c%4:Nat):Int)) (.int 0)=.ok (.bl true) h:=by rw[h1];rfl
      simp_arith[op2,m4,q0,F9,h2,decide_false]
    · have q0:M4 h (.int ((c%4:Nat):Int)) (.int 0)=.ok (.bl false) h:=by simp only[M4,eqS,h1,decide_false]
      simp_arith[op2,m4,q0]
   rw[tt];rw[seq (env':=[some (.int (c:Int)),some (.int (m:Int)),some (.str abc),some (.int (f1:Int)),some (.int ((c/104%12:Nat):Int)),none,none]) (h':=h) (by simp_arith[op2,d104,m12])]
   generalize c/104%12=sz at s12
   have a1:((sz:Nat):Int)+1=((sz+1:Nat):Int):=by omega
   rw[seq (env':=[some (.int (c:Int)),some (.int (m:Int)),some (.str abc),some (.int (f1:Int)),some (.int (sz:Int)),some (.int ((c/1248%(sz+1):Nat):Int)),none]) (h':=h) (by simp_arith[op2,d1248,L7,a1,P6 (sz+1) (by omega)])]
   have pl:c/1248%(sz+1)<=sz:=Nat.le_of_lt_succ (Nat.mod_lt _ (by omega))
   generalize c/1248%(sz+1)=p at pl
   have cs:ev ct (b6 ct F k) cS [some (.int (c:Int)),some (.int (m:Int)),some (.str abc),some (.int (f1:Int)),some (.int (sz:Int)),some (.int (p:Int)),none] h=.ok (.ref h.length) (h++[.lst ((List.range sz).map fun i=>.str ⟨#[a0v c i]⟩)]):=by
    unfold cS;refine a2g (fun i=>.str ⟨#[a0v c i]⟩) (by simp_arith[]) (by omega) fun i hi=>?_
    have ad:O5 h (.str abc) (.str "0123456789")=.ok (.str a0h) h:=by
     rw[W5 (by rw[a7d,show(Str.ofString "0123456789").length=10 by decide+kernel];decide)]
     rfl
    have d16:M6 h (.int (c:Int)) (.int 16224)=.ok (.int ((c/16224:Nat):Int)) h:=a2w 16224 (by decide) (by decide)
    have m7:X1 h (.int 7) (.int (i:Int))=.ok (.int ((7*i:Nat):Int)) h:=by rw[a0J (by omega)];congr 2
    have a2:((c/16224:Nat):Int)+((7*i:Nat):Int)=((c/16224+7*i:Nat):Int):=by omega
    have m36:F8 h (.int ((c/16224+7*i:Nat):Int)) (.int 36)=.ok (.int (((c/16224+7*i)%36:Nat):Int)) h:=P6 36 (by decide)
    simp_arith[op2,ad,d16,m7,L7,a2,m36,ix_str a8A (a5h c i).1,a3S]
   have es:((List.range sz).map fun i=>D.str ⟨#[a0v c i]⟩)=((List.range sz).map fun i=>(⟨#[a0v c i]⟩:Str)).map D.str:=by rw[aK];rfl
   rw[es] at cs;generalize hts:(List.range sz).map (fun i=>(⟨#[a0v c i]⟩:Str))=ts at cs
   have tl:ts.length=sz:=by rw[←hts];simp
   have t1:∀t∈ts,t.length=1/\(cd t).all L9=true:=fun t ht=>by
    rw[←hts] at ht;obtain⟨i,_,rfl⟩:=ak.mp ht;exact⟨rfl,by show([a0v c i]:List Nat).all L9=true;rw[all_cons,(a5h c i).2];rfl⟩
   have sm:∀l:List Str,(∀t∈l,t.length=1)->(l.map (·.length)).sum=l.length:=fun l=>by
    induction l with
    |nil=>intro _;rfl
    |cons x r ih=>intro hh;rw[map_cons,List.sum_cons,ih (fun t ht=>hh t (.tail _ ht)),hh x (.head _),length_cons];exact Nat.add_comm 1 _
   have jo:JoinOk "" ts=true:=a3R (by rw[sm ts fun t ht=>(t1 t ht).1,show(Str.ofString "").length=0 from rfl];omega)
   have jn:mtD .join (h++[.lst (ts.map .str)]) (.str "") [.ref h.length]=.ok (.str (Txt.join "" ts)) (h++[.lst (ts.map .str)]):=by
    simp only[mtD,a3D,a0E];rw[ay jo]
   have sl:(Txt.join "" ts).length=sz:=by
    rw[←u5,a7b,List.length_flatten,aK,←tl];exact(congrArg List.sum (bh fun t _=>u5 t)).trans (sm ts fun t ht=>(t1 t ht).1)
   have ss:(cd (Txt.join "" ts)).all L9=true:=by
    rw[a7b];refine bv.mpr fun x hx=>?_
    obtain⟨q,hq,hm⟩:=List.mem_flatten.mp hx;obtain⟨t,ht,rfl⟩:=ak.mp hq;exact bv.mp (t1 t ht).2 x hm
   generalize Txt.join "" ts=stem at jn sl ss;rw[seq (env':=[some (.int (c:Int)),some (.int (m:Int)),some (.str abc),some (.int (f1:Int)),some (.int (sz:Int)),some (.int (p:Int)),some (.str stem)]) (h':=h++[.lst (ts.map .str)]) (by simp_arith[mtT,cs,jn])]
   refine⟨_,b8W (stem:=stem) (p:=p) (f:=f1) (m:=m) (by omega) ss (by omega) hm,?_⟩
   have hg:∃t,h++[Cell.lst (ts.map .str)]=h++t:=⟨_,rfl⟩
   have tk:(h++[Cell.lst (ts.map D.str)]).length=h.length+1:=by simp
   have wS:stem.length<=SL:=by show _<=16777216;omega
   have cm:∀g,ev ct (b6 ct F k) cB [some (.int (c:Int)),some (.int (m:Int)),some (.str abc),some (.int (f1:Int)),some (.int (sz:Int)),some (.int (p:Int)),some (.str stem)] g=.ok (.ref g.length) (g++[.lst ((List.range m).map fun i=>.str (nmB stem p f1 i))]):=fun g=>by
    unfold cB;refine a2g (fun i=>.str (nmB stem p f1 i)) (by simp_arith[]) (by omega) fun i hi=>?_
    have m5:X1 g (.int 5) (.int (i:Int))=.ok (.int ((5*i:Nat):Int)) g:=by rw[a0J (by omega)];congr 2
    have a2:((f1:Nat):Int)+((5*i:Nat):Int)=((f1+5*i:Nat):Int):=by omega
    have l1:=Txt.slice_le stem none (some (p:Int));have l2:=Txt.slice_le stem (some (p:Int)) none
    have x1:(⟨#[lt ((f1+5*i)%26)]⟩:Str).length=1:=rfl
    simp_arith[a3S,slD,ay wS,op2,m5,L7,a2,m26,a9R (h:=g) (i:=(f1+5*i)%26) (Nat.mod_lt _ (by decide)),W5 (h:=g) (x:=Txt.slice stem none (some (p:Int))) (y:=⟨#[lt ((f1+5*i)%26)]⟩) (by omega),W5 (h:=g) (x:=Txt.slice stem none (some (p:Int))++⟨#[lt ((f1+5*i)%26)]⟩) (y:=Txt.slice stem (some (p:Int)) none) (by rw[a1w];omega)]
    rfl
   simp_arith[cm]
   have e:((List.range m).map (nmB stem p f1)).map D.str=(List.range m).map fun i=>D.str (nmB stem p f1 i):=by rw[aK];rfl
   rw[e,aA];exact gc2 (by simp) (by simp) (by rw[←e];exact E6 _)
end
structure Pf(h0 h:AH):Prop where
 len:h0.length<=h.length
 get:∀i,i<h0.length->h[i]? =h0[i]?
theorem Pf.refl(h:AH):Pf h h:=⟨ai _,fun _ _=>rfl⟩
variable{h0:AH}
theorem Pf.app(p:Pf h0 h)(t:AH):Pf h0 (h++t):=⟨by rw[aq];have:=p.len;omega,fun i hi=>by rw[av (aC hi p.len)];exact p.get i hi⟩
theorem Pf.set(p:Pf h0 h){c:Cell}(hn:h0.length<=n):Pf h0 (h.set n c):=⟨by rw[aU];exact p.len,fun i hi=>by rw[List.getElem?_set_ne (by omega)];exact p.get i hi⟩
theorem Pf.trans{a b c:AH}(p:Pf a b)(q:Pf b c):Pf a c:=⟨aY p.len q.len,fun i hi=>(q.get i (aC hi p.len)).trans (p.get i hi)⟩
theorem Pf.take{h0 h:AH}(p:Pf h0 h):h.take h0.length=h0:=by
 refine ext_getElem? fun i=>?_
 by_cases hi:i<h0.length
 · rw[bG hi,p.get i hi]
 · rw[bg (by simp;omega),bg (by omega)]
theorem Pf.at(p:Pf h0 h){c:Cell}(e:h0[i]? =some c):h[i]? =some c:=by
 rw[p.get i (ac.mp e).1];exact e
theorem b4X{k:Nat}{c:Cell}(p:Pf h0 h)(hk:h[k]? =some c)(hl:h0.length<=k)(hc:c.flat=true):gcR 2 h0 (.ok (.ref k) h)=.ok (.ref h0.length) (h0++[c]):=by
 unfold gcR;simp only[hk];simp[hl,hc,p.take]
theorem b7o(p:Pf h0 h)(hd:d.flat=true):gcR 1 h0 (.ok d h)=.ok d h0:=by
 unfold gcR
 simp only
 rw[az (by decide)]
 simp[hd,p.take]
variable{M:Nat}
section
variable{ct:CT}{F:Nat->Option Fn}
theorem N0{g:List (Nat×Cell)}{p:Pat}{body:o6->AH->R Out}(P:Nat->o6->AH->Prop)(gk:∀j env h,P j env h->gOk g h=true):∀(l:List D) (i:Nat) (env:o6) (h:AH),
 (∀j x env h,l[j]? =some x->P (i+j) env h->∃env1 env' h',G0 p x env=some env1/\body env1 h=.ok (.nx env') h'/\P (i+j+1) env' h')->P i env h->∃env' h',M5 g p body l env h=.ok (.nx env') h'/\P (i+l.length) env' h'
 |[],i,env,h,_,q=>⟨env,h,by rw[M5,ay (gk _ _ _ q)],q⟩
 | x::r,i,env,h,st,q=>by
  obtain⟨env1,env',h',b1,b2,q'⟩:=st 0 x env h rfl q
  obtain⟨env2,h2,e2,q2⟩:=N0 P gk r (i+1) env' h' (fun j y env h hj hq=>by
   have:=st (j+1) y env h (by simpa using hj) (by rw[show i+(j+1)=i+1+j by omega];exact hq)
   rw[show i+(j+1)+1=i+1+j+1 by omega] at this
   exact this) q'
  refine⟨env2,h2,?_,by rw[length_cons,show i+(r.length+1)=i+1+r.length by omega];exact q2⟩
  rw[M5,ay (gk _ _ _ q),b1]
  simp only
  rw[b2];exact e2
theorem a4m(e:h[n]? =some (.lst xs))(hl:xs.length<1000000):mtD .append h (.ref n) [d]=.ok .non (h.set n (.lst (xs++[d]))):=by
 simp only[mtD,e];rw[ay (show xs.length<16777216 by omega)]
theorem a1u(e:h[n]? =some (.lst xs)):mtT .append h (.ref n)=true:=by
 simp only[mtT,rdL,e,Option.isSome_some]
theorem a3B{m:Nat}{x:D}(h:((List.range m).map fun i=>D.int ((0:Int)+(i:Nat)))[j]? =some x):j<m/\x=.int (j:Int):=by
 have hj:j<m:=by
  have:=(ac.mp h).1
  simpa using this
 refine⟨hj,?_⟩
 rw[aj,aN hj] at h
 have h:=ax h;rw[←h]
 show D.int (0+(j:Int))=_
 rw[Int.zero_add]
structure Shs(sh:List (Str×Nat)):Prop where
 lo:4<=sh.length
 hi:sh.length<=24
 nd:(sh.map (·.1)).Nodup
 ok:∀p∈sh,j0 p.1=true/\p.2<99999
theorem a2S:∀{l:List D},(∀d∈l,d.flat=true)->D.flats l=true
 |[],_=>rfl
 |d::r,h=>by rw[D.flats,h d (.head _),a2S fun x hx=>h x (.tail _ hx)];rfl
variable(f202:F 202=some l9)(f203:F 203=some u0)
include f202 f203
end
noncomputable def spD(p:Int×Int):D:=.tup [.int p.1,.int p.2]
def a8e(p:Int×Int):Prop:=(-99999<=p.1/\p.1<=99999)/\ -99999<=p.2/\p.2<=99999
structure Mk where
 n:Str
 s:Str
 a:Int×Int
 b:Int×Int
def a8f(s:Str):Prop:=s="above"∨s="below"
variable{sh:List (Str×Nat)}
theorem ix_tup(hd:xs[i]? =some d):ixD h (.tup xs) (.int (i:Nat))=.ok d h:=by
 have hi:=(ac.mp hd).1
 have:atI xs (i:Int)=some d:=by
  show(ixN xs.length (i:Int)).bind (fun j=>xs[j]?)=some d
  have e:ixN xs.length (i:Int)=some i:=by
   unfold ixN;rw[ay (by omega),ay (by omega)]
   simp
  rw[e];exact hd
 simp only[ixD,this]
theorem b3u{a:D}{r:List D}:ixD h (.tup (a::r)) (.int 0)=.ok a h:=ix_tup (i:=0) rfl
variable{β:Type}
structure Pt where
 n:Str
 s:Str
 a:Int×Int
def ptK(p:Pt):Str×Str:=(p.n,p.s)
noncomputable def pk(sh:List (Str×Nat))(x:Nat):Str:=match sh[x%sh.length]? with
 |some p=>p.1
 |none=>""
structure Lt where
 n:Str
 j:Str
 w:Str
 fs:List Str
noncomputable def ltD(l:Lt):D:=.tup [.str l.n,.str l.j,.str l.w,.tup (l.fs.map .str)]
structure LtOk(sh:List (Str×Nat))(l:Lt):Prop where
 nm:j0 l.n=true
 jn:n8 a1e (.str l.j)=some (.int l.fs.length)
 few:1<=l.fs.length/\l.fs.length<=4
 wy:inD (.str l.w) [.str "left",.str "right",.str "either"]=true
 js:l.j="both"∨l.j="back"∨l.j="none"∨l.j="clear"
 ws:l.w="left"∨l.w="right"∨l.w="either"
 fs:∀f∈l.fs,f∈sh.map (·.1)
noncomputable def wyL:List Str:=["left","right","either"]
theorem b6d(i:Nat):∃w,wyL[i%3]? =some w/\inD (.str w) [.str "left",.str "right",.str "either"]=true/\(w="left"∨w="right"∨w="either"):=by
 have:i%3=0∨i%3=1∨i%3=2:=by omega
 rcases this with e|e|e<;>rw[e]
 · exact⟨"left",rfl,by decide,.inl rfl⟩
 · exact⟨"right",rfl,by decide,.inr (.inl rfl)⟩
 · exact⟨"either",rfl,by decide,.inr (.inr rfl)⟩
variable{kvs:List (D×D)}{s:Nat}{ls:List Lt}
section
variable{ct:CT}{F:Nat->Option Fn}
theorem b2z:ev ct c (.dlit kvs) env h=A4 (.dict kvs) h:=by(rw[ev];try rfl)
variable(f202:F 202=some l9)(f203:F 203=some u0)
include f202
include f203
end
structure Cs where
 n:Str
 fs:List Str
structure CsOk(sh:List (Str×Nat))(c:Cs):Prop where
 nm:j0 c.n=true
 few:1<=c.fs.length/\c.fs.length<=20
 fs:∀f∈c.fs,f∈sh.map (·.1)
theorem N6:∀{l:List D} {i j:Nat} {x:D},(z9 i l)[j]? =some x->∃d,l[j]? =some d/\x=.tup [.int ((i+j:Nat):Int),d]
 |[],i,j,x,h=>by simp[z9] at h
 |d::r,i,0,x,h=>by
  rw[z9] at h
  simp at h
  exact⟨d,rfl,h.symm⟩
 |d::r,i,j+1,x,h=>by
  rw[z9] at h;obtain⟨d',h1,h2⟩:=N6 (l:=r) (i:=i+1) (j:=j) (by simpa using h)
  refine⟨d',by simpa using h1,?_⟩
  rw[h2,show i+1+j=i+(j+1) by omega]
theorem a0u:∀(l:List D) (i:Nat),(z9 i l).length=l.length
 |[],_=>rfl
 |d::r,i=>by rw[z9,length_cons,a0u r,length_cons]
theorem a9C(h:j0 z=true):z.length<=12:=(a1R h).2
structure HL where
 sh:List (Str×Nat)
 mr:List Mk
 pt:List Pt
 ls:List Lt
 gp:List Str
 cs:List Cs
 fe:List (Str×Bool)
structure HLok(H:HL):Prop where
 sh:Shs H.sh
 mr:(H.mr.map (·.n)).Sublist (H.sh.map (·.1))
 mko:∀m∈H.mr,a8f m.s/\a8e m.a/\a8e m.b
 pt:(H.pt.map ptK).Nodup
 ptl:H.pt.length<=100
 pto:∀p∈H.pt,p.n∈H.sh.map (·.1)/\a8f p.s/\a8e p.a
 ls:1<=H.ls.length/\H.ls.length<=6
 lsn:(H.ls.map (·.n)).Nodup
 lso:∀l∈H.ls,LtOk H.sh l
 gp:H.gp.Sublist (H.ls.map (·.n))
 cs:0<=H.cs.length/\H.cs.length<=9
 csn:(H.cs.map (·.n)).Nodup
 cso:∀c∈H.cs,CsOk H.sh c
 fe:0<=H.fe.length/\H.fe.length<=3
 fen:Nms (H.fe.map (·.1)) H.fe.length
noncomputable def num(i:Int):Str:=Str.ofString (toString i)
def ln(ws:List Str):Str:=Txt.join " " ws
theorem b0B(ws:List Str):cd (ln ws)=jn 32 (ws.map cd):=by
 show cd (Builtin.Str.glued " " _)=_
 rw[StrLaws.glued_eq_join];exact a1v 32 ws
theorem b7e(h:cd x=jn 32 (ws.map cd)):x=ln ws:=Z9 (h.trans (b0B ws).symm)
def C7(p:Str×Nat):List Str:=["shape",p.1,num p.2]
def a0d(m:Mk):List Str:=["mark",m.n,m.s,num m.a.1,num m.a.2,num m.b.1,num m.b.2]
def a1z(p:Pt):List Str:=["point",p.n,p.s,num p.a.1,num p.a.2]
noncomputable def G7(l:Lt):List Str:="letter"::l.n::l.j::l.w::l.fs
def a8j(n:Str):List Str:=["gap",n]
noncomputable def a0D(c:Cs):List Str:="class"::c.n::c.fs
noncomputable def b4s(b:Bool):Str:=if b then "on" else "off"
def a4v(p:Str×Bool):List Str:=["feature",p.1,b4s p.2]
def J2(H:HL):List (List Str):=H.sh.map C7++H.mr.map a0d++H.pt.map a1z++H.ls.map G7++H.gp.map a8j++H.cs.map a0D++H.fe.map a4v
theorem a6w{i:Int}(h: -99999<=i/\i<=99999):(num i).length<=7:=by
 unfold num;rw[ofString_length];exact int_text_length_le10 (a:=i) (k:=6) (by decide) (by omega)
theorem b3B{i:Int}(hi: -99999<=i/\i<=99999):biD .str h [.int i]=.ok (.str (num i)) h:=by
 simp only[biD];rw[ay]
 · rfl
 · by_cases h0:i.natAbs=0
   · rw[h0];decide
   · exact(Nat.log2_lt h0).mpr (aC (show i.natAbs<2^17 by omega) (Nat.pow_le_pow_right (by decide) (by decide)))
theorem a3q:(Str.ofString " ").length=1:=rfl
theorem a3o(h:∀w∈ws,w.length<=b):(ws.map (·.length)).sum<=ws.length*b:=by
 induction ws with
 |nil=>simp
 |cons x r ih=>
  rw[map_cons,List.sum_cons,length_cons]
  have:=ih fun w hw=>h w (.tail _ hw)
  have:=h x (.head _)
  rw[Nat.add_mul];omega
theorem b4C(h:∀w∈ws,w.length<=b):(ln ws).length<=ws.length*(b+1):=by
 show(Builtin.Str.glued " " ws).length<=_
 rw[StrLaws.glued_eq_join];refine aY (StrLaws.join_length_le _ _) ?_
 have:=a3o h
 rw[a3q,Nat.mul_add];omega
theorem b7g(h:∀w∈ws,w.length<=20)(hl:ws.length<=100):JoinOk " " ws=true:=by
 have:=a3o h
 exact a3R (by rw[a3q];omega)
variable{ys:List Str}{p:Pat}{nb:Nat}
section
variable{ct:CT}{F:Nat->Option Fn}
theorem a6h{a:Nat}{ys:List D}(h1:g[a]? =some (.lst xs))(h2:g[b]? =some (.lst ys))(hl:xs.length+ys.length<=100000):O5 g (.ref a) (.ref b)=.ok (.ref g.length) (g++[.lst (xs++ys)]):=b2X h1 h2 hl
theorem a9J:biD .list h [.tup xs]=.ok (.ref h.length) (h++[.lst xs]):=rfl
theorem b2c(h1:g[n]? =some (.lst (ts.map .str)))(jo:JoinOk sep ts=true):mtD .join g (.str sep) [.ref n]=.ok (.str (Txt.join sep ts)) g:=by
 have:rdL g n=some (ts.map .str):=by unfold rdL;rw[h1]
 simp only[mtD,this,a0E];rw[ay jo]
theorem b0y{a:E}{fr:List Nat}{l:List α}(rp:α->D)(f:α->Str)(envf:α->o6)(ha:ev ct c a env h=.ok (.ref s) h)(hs:h[s]? =some (.lst (l.map rp)))(hl:l.length<=1000)
 (hx:∀x∈l,G0 p (rp x) (u6 nb fr env)=some (envf x)/\∀h,∃t,ev ct c e (envf x) h=.ok (.str (f x)) (h++t)):∃t,ev ct c (.comp p (.seq a) nb fr .yes e) env h=.ok (.ref (h++t).length) (h++t++[.lst ((l.map f).map .str)]):=by
 have key:∀(l':List α) (acc:List D) (h':AH),(∀t,gOk [(s,.lst (l.map rp))] (h'++t)=true)->(∀x∈l',G0 p (rp x) (u6 nb fr env)=some (envf x)/\∀h,∃t,ev ct c e (envf x) h=.ok (.str (f x)) (h++t))->acc.length+l'.length<=SL->∃t,B2 [(s,.lst (l.map rp))] p (tst ct c .yes) (ev ct c e) (u6 nb fr env) (l'.map rp) acc h'=.ok (acc++(l'.map f).map .str) (h'++t):=by
  intro l'
  induction l' with
  |nil=>
   intro acc h' g1 _ _;have g0:=g1 [];rw[bn] at g0;exact⟨[],by rw[map_nil,B2,ay g0];simp⟩
  |cons x r ih=>
   intro acc h' g1 hx' hl';have g0:=g1 [];rw[bn] at g0;obtain⟨b1,b2⟩:=hx' x (.head _);obtain⟨t,b2⟩:=b2 h';rw[length_cons] at hl';obtain⟨u,ih⟩:=ih (acc++[.str (f x)]) (h'++t) (fun u=>by rw[aA];exact g1 _) (fun y hy=>hx' y (.tail _ hy)) (by rw[aq];simp;omega)
   refine⟨t++u,?_⟩
   rw[map_cons,B2,ay g0,b1]
   simp only
   rw[a3m,i6,ay rfl,b2,i6,ay (by omega),ih]
   simp
 obtain⟨t,kt⟩:=key l [] h (fun t=>by simp[gOk,b7 (g:=t) hs]) hx (by show 0+_<=16777216;omega)
 refine⟨t,?_⟩
 rw[a4a (x:=(l.map rp,[(s,.lst (l.map rp))])) (h1:=h) (h2:=h++t) (ds:=(l.map f).map .str) (by rw[a6T,ha,i6];simp only[S5,hs]) (by rw[kt,nil_append])]
end
section
variable{ct:CT}{F:Nat->Option Fn}
def EvL(ct:CT)(c:CF)(e:E)(env:o6)(h:AH)(xs:List Str):Prop:=∃n t,ev ct c e env h=.ok (.ref n) (h++t)/\(h++t)[n]? =some (.lst (xs.map .str))/\(h.length<=n∨t=[])
theorem b2r{a b:E}{xs:List Str}(A:EvL ct c a env h xs)(B:∀t,EvL ct c b env (h++t) ys)(hl:xs.length+ys.length<=100000):EvL ct c (.bin .add a b) env h (xs++ys):=by
 obtain⟨n,t,a1,a2,_⟩:=A;obtain⟨m,u,b1,b2,_⟩:=B t;refine⟨(h++t++u).length,t++u++[.lst ((xs++ys).map .str)],?_,?_,.inl (by simp[aq,Nat.add_assoc])⟩
 · simp_arith[a1,b1,op2,a6h (b7 (g:=u) a2) b2 (by rw[aa,aa];exact hl)]
   simp
 · rw[show h++(t++u++[Cell.lst ((xs++ys).map .str)])=h++t++u++[.lst ((xs++ys).map .str)] by simp]
   exact b8
theorem b2q{es:Es}{xs:List Str}(e:evs ct c es env h=.ok (xs.map .str) h)(hl:xs.length<=1000):EvL ct c (.lst es) env h xs:=by
 refine⟨h.length,[.lst (xs.map .str)],?_,b8,.inl (ai _)⟩
 rw[b0q,e,i6,ay (by rw[aa];show _<=16777216;omega)]
 rfl
theorem b0m{a:E}{xs:List Str}(e:ev ct c a env h=.ok (.tup (xs.map .str)) h):EvL ct c (.bi .list (.cons a .nil)) env h xs:=by
 refine⟨h.length,[.lst (xs.map .str)],?_,b8,.inl (ai _)⟩
 simp_arith[e,a9J]
theorem a4V{xs:List Str}(A:EvL ct c e env h xs)(jo:JoinOk sep xs=true):∃t,ev ct c (.mt .join (.k (.str sep)) (.cons e .nil)) env h=.ok (.str (Txt.join sep xs)) (h++t):=by
 obtain⟨n,t,a1,a2,_⟩:=A;refine⟨t,?_⟩
 simp_arith[mtT,a1,b2c a2 jo]
end
theorem Z8(n:Nat):cd (num (n:Int))=(Nat.toDigits 10 n).map Char.toNat:=W.KIN.signs_num n
theorem a9Y(n:Nat):n≠0->((Nat.toDigits 10 n).map Char.toNat).head?≠some 48:=by
 induction n using Nat.strongRecOn with
 |_ n ih=>
  intro h0
  by_cases h:n<10
  · rw[Nat.toDigits_of_lt_base h,map_cons,List.head?_cons,Nat.toNat_digitChar_of_lt_ten h]
    intro e
    have:=ax e
    omega
  · rw[Nat.toDigits_of_base_le (by decide) (by omega),ao]
    have hn:=ih (n/10) (by omega) (by omega)
    cases hd:Nat.toDigits 10 (n/10) with
    |nil=>exact absurd hd Nat.toDigits_ne_nil
    |cons a r=>rw[hd] at hn;exact hn
theorem a3Y(n:Nat):(cd (num (n:Int))).all M8=true:=by
 rw[Z8];refine bv.mpr fun c hc=>?_
 obtain⟨d,hd,rfl⟩:=ak.mp hc
 have:=Nat.isDigit_of_mem_toDigits (by decide) (by decide) hd
 rw[a3Z];unfold Char.isDigit at this;simp only[ae,bD] at this;exact⟨this.1,this.2⟩
theorem a1L(h:n<=99999):O6 (num (n:Int))=some (n:Int):=by
 have l5:(num (n:Int)).length<=5:=by
  rw[←u5,Z8,aa];exact(Nat.length_toDigits_le_iff (by decide) (by decide)).mpr (by omega)
 have l1:(num (n:Int)).length≠0:=by
  rw[←u5,Z8,aa];exact fun e=>Nat.toDigits_ne_nil (length_eq_zero_iff.mp e)
 unfold O6;rw[ay (a3Y n),az,Z8,W.KIN.val_back];rintro(e|e|⟨e1,e2⟩)
 · exact l1 ((a7I _).mp e)
 · omega
 · rw[Z8] at e1
   by_cases h0:n=0
   · rw[h0] at e2;exact absurd e2 (by decide)
   · exact a9Y n h0 e1
theorem a4g(m:Nat):cd (num (Int.negSucc m))=45::cd (num ((m+1:Nat):Int)):=by
 rw[Z8]
 show(Str.ofString ("-"++Nat.repr (m+1))).cps.toList=_
 rw[Str.ofString_eq_toList];simp[Nat.toList_repr]
theorem D8{i:Int}(h: -99999<=i/\i<=99999):X0 (num i)=some i:=by
 unfold X0
 cases i with
 |ofNat n=>
  have h2:(n:Int)<=99999:=h.2
  rw[az]
  · exact a1L (by omega)
  · intro e
    cases hc:cd (num (Int.ofNat n)) with
    |nil=>rw[hc] at e;cases e
    |cons c r=>
     rw[hc] at e;have e:=ax e
     have:=a3Y n
     rw[show cd (num (n:Int))=c::r from hc,all_cons,e] at this;rw[show M8 45=false from by decide+kernel] at this
     exact Bool.noConfusion this
 |negSucc m=>
  have h1:=h.1;rw[Int.negSucc_eq] at h1
  have t:tl (num (Int.negSucc m))=num ((m+1:Nat):Int):=Z9 (by rw[a7c,a4g];rfl)
  rw[ay (by rw[a4g];rfl),t,a1L (by omega)]
  simp only
  rw[az (by omega)]
  congr 1
structure WOk(w:Str):Prop where
 l:w.length<=20
 p:w.length≠0
 c:∀c∈cd w,c≠32/\c≠10
theorem WOk.num{i:Int}(h: -99999<=i/\i<=99999):WOk (num i):=by
 have fg:∀n:Nat,∀c∈cd (EV.num (n:Int)),c≠32/\c≠10:=fun n c hc=>by
  have:=(a3Z c).mp (bv.mp (a3Y n) c hc)
  omega
 refine⟨by have:=a6w h;omega,?_,?_⟩
 · rw[←u5]
   cases i with
   |ofNat n=>
    show(cd (EV.num (n:Int))).length≠0
    rw[Z8,aa];exact fun e=>Nat.toDigits_ne_nil (length_eq_zero_iff.mp e)
   |negSucc m=>rw[a4g];exact Nat.succ_ne_zero _
 · cases i with
   |ofNat n=>exact fg n
   |negSucc m=>
    rw[a4g];intro c hc
    rcases aH.mp hc with rfl|hc
    · decide
    · exact fg _ c hc
theorem b1j{c:Nat}(h:L9 c=true):c≠32/\c≠10:=by
 unfold L9 at h;have h:=aw h
 have:∀c∈cd a0h,c≠32/\c≠10:=by decide+kernel
 exact this c h
theorem WOk.name{w:Str}(h:j0 w=true):WOk w:=by
 unfold j0 at h;simp only[ae,bD] at h;exact⟨by omega,by omega,fun c hc=>b1j (bv.mp h.2 c hc)⟩
structure Row(ws:List Str):Prop where
 n:ws≠[]
 l:ws.length<=40
 w:∀w∈ws,WOk w
instance (w:Str):Decidable (w.length<=20/\w.length≠0/\∀c∈cd w,c≠32/\c≠10):=inferInstance
theorem WOk.k{w:Str}(h:w.length<=20/\w.length≠0/\∀c∈cd w,c≠32/\c≠10):WOk w:=⟨h.1,h.2.1,h.2.2⟩
theorem Row.nil:∀w∈([]:List Str),WOk w:=fun _ h=>nomatch h
theorem k8{a:Str}{r:List Str}(h:WOk a)(hr:∀w∈r,WOk w):∀w∈a::r,WOk w:=fun w hw=>by
 rcases aH.mp hw with rfl|hw
 · exact h
 · exact hr w hw
section
variable{H:HL}(K:HLok H)
include K
theorem a0j{n:Str}(h:n∈H.sh.map (·.1)):j0 n=true:=by
 obtain⟨p,hp,rfl⟩:=ak.mp h;exact(K.sh.ok p hp).1
theorem b2Z{s:Str}(h:a8f s):WOk s:=by
 rcases h with rfl|rfl<;>exact WOk.k (by decide+kernel)
theorem a6y{m:Mk}(h:m∈H.mr):m.n∈H.sh.map (·.1):=K.mr.subset (ak.mpr ⟨m,h,rfl⟩)
theorem a6Q{f:Str}(h:f∈H.fe.map (·.1)):j0 f=true:=K.fen.ok f h
theorem a2F{p:Str×Nat}(h:p∈H.sh):Row (C7 p):=by
 have k:=K.sh.ok p h;exact⟨cons_ne_nil _ _,Nat.le_of_ble_eq_true rfl,k8 (WOk.k (by decide+kernel)) (k8 (WOk.name k.1) (k8 (WOk.num (by have:=k.2;omega)) Row.nil))⟩
theorem a4G{m:Mk}(h:m∈H.mr):Row (a0d m):=by
 obtain⟨k1,k2,k3⟩:=K.mko m h;exact⟨cons_ne_nil _ _,Nat.le_of_ble_eq_true rfl,k8 (WOk.k (by decide+kernel)) (k8 (WOk.name (a0j K (a6y K h))) (k8 (b2Z K k1) (k8 (WOk.num k2.1) (k8 (WOk.num k2.2) (k8 (WOk.num k3.1) (k8 (WOk.num k3.2) Row.nil))))))⟩
theorem a2G{p:Pt}(h:p∈H.pt):Row (a1z p):=by
 obtain⟨k1,k2,k3⟩:=K.pto p h;exact⟨cons_ne_nil _ _,Nat.le_of_ble_eq_true rfl,k8 (WOk.k (by decide+kernel)) (k8 (WOk.name (a0j K k1)) (k8 (b2Z K k2) (k8 (WOk.num k3.1) (k8 (WOk.num k3.2) Row.nil))))⟩
theorem Y1{l:Lt}(h:l∈H.ls):Row (G7 l):=by
 have k:=K.lso l h;have kl:=k.few;refine⟨cons_ne_nil _ _,by unfold G7;simp only[length_cons];omega,k8 (WOk.k (by decide+kernel)) (k8 (WOk.name k.nm) (k8 ?_ (k8 ?_ fun w hw=>WOk.name (a0j K (k.fs w hw)))))⟩
 · rcases k.js with e|e|e|e<;>rw[e]<;>exact WOk.k (by decide+kernel)
 · rcases k.ws with e|e|e<;>rw[e]<;>exact WOk.k (by decide+kernel)
theorem a6N{n:Str}(h:n∈H.gp):j0 n=true:=by
 obtain⟨l,hl,rfl⟩:=ak.mp (K.gp.subset h);exact(K.lso l hl).nm
theorem a6q{n:Str}(h:n∈H.gp):Row (a8j n):=⟨cons_ne_nil _ _,Nat.le_of_ble_eq_true rfl,k8 (WOk.k (by decide+kernel)) (k8 (WOk.name (a6N K h)) Row.nil)⟩
theorem a2H{c:Cs}(h:c∈H.cs):Row (a0D c):=by
 have k:=K.cso c h;have kl:=k.few;exact⟨cons_ne_nil _ _,by unfold a0D;simp only[length_cons];omega,k8 (WOk.k (by decide+kernel)) (k8 (WOk.name k.nm) fun w hw=>WOk.name (a0j K (k.fs w hw)))⟩
theorem a4H{p:Str×Bool}(h:p∈H.fe):Row (a4v p):=by
 refine⟨cons_ne_nil _ _,Nat.le_of_ble_eq_true rfl,k8 (WOk.k (by decide+kernel)) (k8 (WOk.name (a6Q K (ak.mpr ⟨p,h,rfl⟩))) (k8 ?_ Row.nil))⟩
 cases p.2<;>exact WOk.k (by decide+kernel)
theorem a6n:∀ws∈J2 H,Row ws:=fun ws h=>by
 unfold J2 at h;simp only[aO,ak] at h
 rcases h with(((((⟨x,h,rfl⟩|⟨x,h,rfl⟩)|⟨x,h,rfl⟩)|⟨x,h,rfl⟩)|⟨x,h,rfl⟩)|⟨x,h,rfl⟩)|⟨x,h,rfl⟩
 · exact a2F K h
 · exact a4G K h
 · exact a2G K h
 · exact Y1 K h
 · exact a6q K h
 · exact a2H K h
 · exact a4H K h
theorem a6l{f:α->β}{l:List α}{s:List β}(h:(l.map f).Sublist s):l.length<=s.length:=by
 have:=h.length_le
 rw[aa] at this;exact this
theorem a0l:(J2 H).length<=300/\J2 H≠[]:=by
 have a:=K.sh.hi;have a0:=K.sh.lo;have b:=a6l K K.mr;rw[aa] at b;have c:=K.ptl;have d:=K.ls;have e:=K.gp.length_le;rw[aa] at e;have f:=K.cs;have g:=K.fe
 have l:(J2 H).length=H.sh.length+H.mr.length+H.pt.length+H.ls.length+H.gp.length+H.cs.length+H.fe.length:=by
  unfold J2;simp only[aq,aa]
 exact⟨by omega,fun z=>by rw[z] at l;simp only[length_nil] at l;omega⟩
end
theorem a8H(r:Row ws):G6 (ln ws)=ws:=by
 unfold G6;rw[show Txt.split (ln ws) " "=ws from a1F (c:=32) r.n (fun p hp hc=>((r.w p hp).c 32 hc).1 rfl) (b0B ws)]
 exact List.filter_eq_self.mpr fun w hw=>bp fun e=>(r.w w hw).p ((a7I w).mp e)
theorem a9M{c x:Nat}:∀{ps:List (List Nat)},x∈jn c ps->x=c∨∃p∈ps,x∈p
 |[],h=>nomatch h
 |[p],h=>.inr ⟨p,.head _,h⟩
 |p::q::r,h=>by
  rcases aO.mp (show x∈p++c::jn c (q::r) from h) with h|h
  · exact .inr ⟨p,.head _,h⟩
  · rcases aH.mp h with h|h
    · exact .inl h
    · rcases a9M h with h|⟨y,hy,h⟩
      · exact .inl h
      · exact .inr ⟨y,.tail _ hy,h⟩
theorem a8G(r:Row ws):10∉cd (ln ws):=fun h=>by
 rw[b0B] at h
 rcases a9M h with h|⟨p,hp,h⟩
 · exact absurd h (by decide)
 · obtain⟨w,hw,rfl⟩:=ak.mp hp;exact((r.w w hw).c 10 h).2 rfl
theorem a6p(r:Row ws):(ln ws).length<=840:=by
 have:=b4C (ws:=ws) (b:=20) fun w hw=>(r.w w hw).l
 have l:=r.l
 have:ws.length*21<=40*21:=Nat.mul_le_mul_right 21 l
 omega
def a4P(H:HL):Str:=Txt.join "\n" ((J2 H).map ln)
theorem a7h{H:HL}(K:HLok H):Txt.split (a4P H) "\n"=(J2 H).map ln:=by
 refine a1F (c:=10) (fun e=>(a0l K).2 (List.map_eq_nil_iff.mp e)) (fun p hp=>?_) ?_
 · obtain⟨ws,hw,rfl⟩:=ak.mp hp;exact a8G (a6n K ws hw)
 · show cd (Builtin.Str.glued "\n" _)=_
   rw[StrLaws.glued_eq_join];exact a1v 10 _
theorem a4F{H:HL}(K:HLok H):(((J2 H).map ln).map (·.length)).sum<=300*840:=by
 have:=a3o (ws:=(J2 H).map ln) (b:=840) fun w hw=>by
  obtain⟨ws,hq,rfl⟩:=ak.mp hw;exact a6p (a6n K ws hq)
 rw[aa] at this;have l:=(a0l K).1;exact aY this (Nat.mul_le_mul_right _ l)
theorem b0S{H:HL}(K:HLok H):(a4P H).length<=1000000:=by
 have:=a4F K
 have l:=(a0l K).1
 show(Builtin.Str.glued "\n" _).length<=_
 rw[StrLaws.glued_eq_join];refine aY (StrLaws.join_length_le _ _) ?_
 rw[aa,show(Str.ofString "\n").length=1 from rfl];omega
theorem b3t{H:HL}(K:HLok H):JoinOk "\n" ((J2 H).map ln)=true:=by
 have:=a4F K
 have l:=(a0l K).1;exact a3R (by rw[aa,show(Str.ofString "\n").length=1 from rfl];omega)
theorem k32:cd (Str.ofString " ")=[32]:=rfl
theorem b1b(n w:Str):(("shape ":Str)++n++(" ":Str))++w=ln ["shape",n,w]:=b7e (by
 simp only[U8,k32,show cd (Str.ofString "shape ")=cd (Str.ofString "shape")++[32] from by decide+kernel,map_cons,map_nil,jn,aA,List.cons_append,nil_append])
def TS(T:D)(h0:AH)(env:o6)(h:AH)(xs:List Str):Prop:=∃n e1 e3 e4 e5 e6 e7 e8 e9,env=[some T,e1,some (.ref n),e3,e4,e5,e6,e7,e8,e9]/\Pf h0 h/\h0.length<=n/\h[n]? =some (.lst (xs.map .str))
section
variable{ct:CT}{F:Nat->Option Fn}
theorem b0n{a:E}{fr:List Nat}{l:List α}(rp:α->D)(f:α->Str)(envf:α->o6)(ha:ev ct c a env h=.ok (.ref s) h)(hs:h[s]? =some (.lst (l.map rp)))(hl:l.length<=1000)
 (hx:∀x∈l,G0 p (rp x) (u6 nb fr env)=some (envf x)/\∀h,∃t,ev ct c e (envf x) h=.ok (.str (f x)) (h++t)):EvL ct c (.comp p (.seq a) nb fr .yes e) env h (l.map f):=by
 obtain⟨t,e⟩:=b0y rp f envf ha hs hl hx;exact⟨(h++t).length,t++[.lst ((l.map f).map .str)],by rw[e,aA],by rw[←aA];exact b8,.inl (by simp)⟩
theorem b0o{b:E}{xs:List Str}(e:env[i]? =some (some (.ref n)))(hn:h[n]? =some (.lst (xs.map .str)))(B:EvL ct c b env h ys)(hl:xs.length+ys.length<=1000):EvL ct c (.bin .add (.v i) b) env h (xs++ys):=by
 obtain⟨m,u,b1,b2,_⟩:=B;refine⟨(h++u).length,u++[.lst (xs.map .str++ys.map .str)],?_,by rw[←aA,b8,ao],.inl (by simp)⟩
 simp_arith[e,b1,op2,a6h (b7 (g:=u) hn) b2 (by rw[aa,aa];omega)]
 simp
theorem b2u(A:EvL ct c e env h ws)(r:Row ws):∃t,ev ct c (.mt .join (.k (.str " ")) (.cons e .nil)) env h=.ok (.str (ln ws)) (h++t):=a4V A (b7g (fun w hw=>(r.w w hw).l) (by have:=r.l;omega))
theorem a1O:(Str.ofString "shape ").length=6:=rfl
variable{H:HL}(K:HLok H)
include K
variable(f213:F 213=some f__law_pair_text)
include f213
end
theorem b3a{s:Str}(h:a8f s):inD (.str s) [.str "above",.str "below"]=true:=by rcases h with rfl|rfl<;>decide
theorem Z7{a b c:Bool}(ha:a=false)(hb:b=true)(hc:c=false):due a b c=none:=by subst ha hb hc;rfl
theorem nin[DecidableEq α]{a:α}{l:List α}(h:a∉l):decide (a∈l)=false:=bE h
theorem Y7(h:j0 z=true):z.length<=100000:=by have:=a9C h;omega
theorem a0O(xs:List Str):(xs.map D.str).all y7=true:=by
 rw[all_map];exact bv.mpr fun _ _=>rfl
theorem a6K(x:Str):∀xs:List Str,inD (.str x) (xs.map .str)=decide (x∈xs)
 |[]=>rfl
 |y::r=>by
  have ih:=a6K x r;unfold inD at ih⊢;rw[map_cons,any_cons,ih]
  show(decide (y=x)||decide (x∈r))=_
  by_cases e:y=x
  · subst e;simp
  · rw[bE e,Bool.false_or];exact decide_eq_decide.mpr ⟨fun z=>.tail _ z,fun z=>(aH.mp z).resolve_left fun q=>e q.symm⟩
section
variable{ct:CT}{F:Nat->Option Fn}(W:PF F)
include W
theorem b0J{k:Nat}{i7:List D}{r:R D}(hw:h[w]? =some (.lst (.str x::i7)))(hr:b6 ct F k f [.ref n,.ref w] h=r)(hx:(x,f)∈[(("mark":Str),19),("gap",23)]):b6 ct F (k+1) 13 [.ref n,.ref w] h=r:=by
 rw[←hr,m8 W.f13 rfl];simp only[B6];rw[gc0];simp only[aH,not_mem_nil,or_false,Prod.mk.injEq] at hx
 rcases hx with⟨rfl,rfl⟩|⟨rfl,rfl⟩
 · simp_arith[z8 0 0 rfl hw rfl,op2,M4,eqS,decide_true,decide_false];generalize b6 ct F k 19 [.ref n,.ref w] h=r
   cases r<;>simp_arith[]
 · simp_arith[z8 0 0 rfl hw rfl,op2,M4,eqS,decide_true,decide_false];generalize b6 ct F k 23 [.ref n,.ref w] h=r
   cases r<;>simp_arith[]
theorem HallAt.s5{H:HD}(A:HallAt h n H)(l:List Str):HallAt (h.set (n+5) (.lst (l.map .str))) n {H with gaps:=l}:=
 ⟨b9 (by omega) A.o,b9 (by omega) A.c1,b9 (by omega) A.c2,b9 (by omega) A.c3,b9 (by omega) A.c4,M9 A.c5,b9 (by omega) A.c6,b9 (by omega) A.c7,b9 (by omega) A.c8⟩
variable{d:Nat}{H:HD}
theorem b0a{p:Str×Nat}(hn:j0 p.1=true)(hw:p.2<99999)(h1:p.1∉H.shapes.map (·.1))(hl:H.shapes.length<60):V0 ct F (d+9) H (C7 p) none {H with shapes:=H.shapes++[(p.1,.int (p.2:Int))]}:=by
 have:=a8t (ct:=ct) (d:=d) (H:=H) W hn (a1L (n:=p.2) (by omega))
 rw[Z7 (nin h1) rfl (bE (by omega))] at this
 exact this
theorem b2i{p:Str×Bool}(hn:j0 p.1=true)(h1:p.1∉H.features.map (·.1))(hl:H.features.length<10):V0 ct F (d+9) H (a4v p) none {H with features:=H.features++[(p.1,.bl p.2)]}:=by
 have:=a5w (ct:=ct) (d:=d) (H:=H) (b:=b4s p.2) W hn (by cases p.2;exact .inr rfl;exact .inl rfl)
 rw[Z7 (nin h1) rfl (bE (by omega)),show decide (b4s p.2="on")=p.2 by cases p.2<;>decide+kernel] at this
 exact this
theorem a7Q{l:Lt}(o:LtOk sh l)(hs:∀f∈l.fs,j0 f=true/\f∈H.shapes.map (·.1))(h1:l.n∉H.letters.map (·.1))(hl:H.letters.length<24):V0 ct F (d+9) H (G7 l) none {H with letters:=H.letters++[(l.n,.tup [.str l.j,.str l.w,.tup (l.fs.map .str)])]}:=by
 intro h n w A hw
 have:=a1A (ct:=ct) (k:=d+3) (i7:=l.fs) W A hw o.nm (Y7 o.nm) o.jn o.wy (bv.mpr fun f hf=>(hs f hf).1) (fun y hy=>Y7 (hs y hy).1) (by have:=o.few;omega)
 rw[Z7 (nin h1) (bv.mpr fun f hf=>bp (hs f hf).2) (bE (by omega))] at this
 rw[a7l W hw,this];exact⟨_,rfl,(Fr.app n h _).trans (Fr.set (by omega) (by omega)),(A.app _).s4 _⟩
theorem b0c{c:Cs}(o:CsOk sh c)(hs:∀f∈c.fs,j0 f=true/\f∈H.shapes.map (·.1))(h1:c.n∉H.classes.map (·.1))(hl:H.classes.length<20):V0 ct F (d+9) H (a0D c) none {H with classes:=H.classes++[(c.n,.tup (c.fs.map .str))]}:=by
 intro h n w A hw
 have:=a2s (ct:=ct) (k:=d+3) (i7:=c.fs) W A hw o.nm (Y7 o.nm) (bv.mpr fun f hf=>(hs f hf).1) (fun y hy=>Y7 (hs y hy).1) o.few.1 o.few.2
 rw[Z7 (nin h1) (bv.mpr fun f hf=>bp (hs f hf).2) (bE (by omega))] at this
 rw[a8s W hw,this];exact⟨_,rfl,(Fr.app n h _).trans (Fr.set (by omega) (by omega)),(A.app _).s6 _⟩
theorem b0b{p:Pt}(hn:j0 p.n=true)(hs:a8f p.s)(ha:a8e p.a)(h1:ptK p∉H.points.map (·.1))(h2:p.n∈H.shapes.map (·.1))(hl:H.points.length<=1000):V0 ct F (d+9) H (a1z p) none {H with points:=H.points++[(ptK p,spD p.a)]}:=by
 intro h n w A hw
 have:=a2r (ct:=ct) (k:=d+2) W A hw hn (Y7 hn) (b3a hs) (D8 ha.1) (D8 ha.2) (by omega)
 have h1:(p.n,p.s)∉H.points.map (·.1):=h1
 rw[Z7 (bE h1) (bp h2) rfl] at this;rw[a8r W hw];exact this
theorem b4W{g:Str}(hn:j0 g=true)(h1:g∉H.gaps)(h2:g∈H.letters.map (·.1))(hl:H.gaps.length<=1000):V0 ct F (d+9) H (a8j g) none {H with gaps:=H.gaps++[g]}:=by
 intro h n w A hw
 have hw:h[w]? =some (.lst [.str "gap",.str g]):=hw
 have hg:M3 false h (.str g) (.ref (n+5))=.ok (.bl false) h:=by
  simp only[M3,A.c5];rw[ay (by rw[a0O];rfl),a6K,nin h1]
  rfl
 have e:b6 ct F (d+8) 23 [.ref n,.ref w] h=.ok .non (h.set (n+5) (.lst ((H.gaps++[g]).map .str))):=by
  rw[m8 W.f23 rfl];simp only[Q7];rw[gc0];simp_arith[x6 hw,op2,W8,eqS,z8 1 1 rfl hw rfl,G3 W (Y7 hn),hn,A.fld5,A.fld4,hg,a0s A.c4,bp h2,B5 W,Z7 rfl rfl rfl,S6,Int.cast_ofNat_Int,decide_true,Bool.not_true,a1u A.c5,a4m (d:=.str g) A.c5 (by rw[aa];omega)]
  rw[ao];rfl
 rw[b0J W hw e (.tail _ (.head _))];exact⟨_,rfl,Fr.set (by omega) (by omega),HallAt.s5 W A _⟩
theorem b2h{m:Mk}(hn:j0 m.n=true)(hs:a8f m.s)(ha:a8e m.a)(hb:a8e m.b)(h1:m.n∉H.marks.map (·.1))(h2:m.n∈H.shapes.map (·.1))(hl:H.marks.length<=1000):V0 ct F (d+9) H (a0d m) none {H with marks:=H.marks++[(m.n,.tup [.str m.s,spD m.a,spD m.b])]}:=by
 intro h n w A hw
 have hf:b6 ct F (d+7) 18 [.ref w,.int 4] h=.ok (.bl true) h:=a0i (k:=d+2) (ws:=[num m.a.1,num m.a.2,num m.b.1,num m.b.2]) W hw hn (Y7 hn) (b3a hs) rfl (by simp[a4B,D8 ha.1,D8 ha.2,D8 hb.1,D8 hb.2]) (fun y hy=>by
  have:=(k8 (WOk.num ha.1) (k8 (WOk.num ha.2) (k8 (WOk.num hb.1) (k8 (WOk.num hb.2) Row.nil))) y hy).l
  omega) (by simp)
 have e35:O0 ((a0d m).map .str) (some 3) (some 5)=[.str (num m.a.1),.str (num m.a.2)]:=W2 3 5 ((a0d m).map .str) (by decide) (Nat.le_of_ble_eq_true rfl)
 have e57:O0 ((a0d m).map .str) (some 5) (some 7)=[.str (num m.b.1),.str (num m.b.2)]:=W2 5 7 ((a0d m).map .str) (by decide) (Nat.le_of_ble_eq_true rfl)
 have A2:=(A.app [.lst [.str (num m.a.1),.str (num m.a.2)]]).app [.lst [.str (num m.b.1),.str (num m.b.2)]];have hw1:=b7 (g:=[.lst [.str (num m.a.1),.str (num m.a.2)]]) hw
 have e:b6 ct F (d+8) 19 [.ref n,.ref w] h=.ok .non ((h++[Cell.lst [D.str (num m.a.1),D.str (num m.a.2)]]++[Cell.lst [D.str (num m.b.1),D.str (num m.b.2)]]).set (n+2) (Cell.dict (kd (H.marks++[(m.n,D.tup [.str m.s,spD m.a,spD m.b])])))):=by
  rw[m8 W.f19 rfl];simp only[N2];rw[gc0];simp_arith[hf,Bool.not_true,z8 1 1 rfl hw rfl,z8 2 2 rfl hw rfl,op2,A.fld2,a0s A.c2,A.fld1,a0s A.c1,B5 W,Z7 (nin h1) (bp h2) rfl,S6,decide_true,N8 hw,e35,a3H W (b8 (h:=h)) (D8 ha.1) (D8 ha.2),N8 hw1,e57,a3H W (b8 (h:=h++[Cell.lst [.str (num m.a.1),.str (num m.a.2)]])) (D8 hb.1) (D8 hb.2),A2.fld2,S9 A2.c2 h1 (show _<16777216 by omega)]
  rfl
 rw[b0J W hw e (.head _)];exact⟨_,rfl,((Fr.app n h _).trans (Fr.app n _ _)).trans (Fr.set (by omega) (by omega)),A2.s2 _⟩
end
theorem E5{ct:CT}{F:Nat->Option Fn}{d:Nat}{α:Type}{full:List α}{i7:List Str}{H':HD}(wf:α->List Str)(U:List α->HD)(hR:∀x∈full,Row (wf x))(hst:∀pre x post,full=pre++x::post->V0 ct F d (U pre) (wf x) none (U (pre++[x])))(hT:Reads ct F d (U full) i7 H'):∀(l pre:List α),full=pre++l->Reads ct F d (U pre) (l.map (fun x=>ln (wf x))++i7) H'
 |[],pre,e=>by
  rw[bn] at e;subst e;exact hT
 |x::l,pre,e=>by
  have r:=hR x (by rw[e];exact mem_append_right _ (.head _))
  have b:=a8H r
  have:=a6p r
  refine .take (H1:=U (pre++[x])) (show(ln (wf x)).length<=100000 by omega) (by rw[b];exact r.n) (by rw[b];exact hst pre x l e) (E5 wf U hR hst hT l (pre++[x]) (by rw[e];simp))
theorem J3{f:α->β}{full pre post:List α}{x:α}(h:(full.map f).Nodup)(e:full=pre++x::post):f x∉pre.map f:=fun m=>by
 rw[e,ao,map_cons] at h;exact(List.nodup_append.mp h).2.2 _ m _ (.head _) rfl
theorem G2{full pre post:List α}{x:α}(e:full=pre++x::post):pre.length<full.length/\x∈full:=by
 rw[e];exact⟨by simp only[aq,length_cons];omega,mem_append_right _ (.head _)⟩
noncomputable def hS(H:HL):List (Str×D):=H.sh.map fun p=>(p.1,.int (p.2:Int))
def hM(l:List Mk):List (Str×D):=l.map fun m=>(m.n,.tup [.str m.s,spD m.a,spD m.b])
def hP(l:List Pt):List ((Str×Str)×D):=l.map fun p=>(ptK p,spD p.a)
noncomputable def hL(l:List Lt):List (Str×D):=l.map fun l=>(l.n,.tup [.str l.j,.str l.w,.tup (l.fs.map .str)])
noncomputable def hC(l:List Cs):List (Str×D):=l.map fun c=>(c.n,.tup (c.fs.map .str))
noncomputable def hF(l:List (Str×Bool)):List (Str×D):=l.map fun p=>(p.1,.bl p.2)
def a1j(H:HL):HD:=⟨hS H,hM H.mr,hP H.pt,hL H.ls,H.gp,hC H.cs,hF H.fe,[]⟩
theorem a3Q(k:α->Str)(v:α->β)(l:List α):(l.map fun x=>(k x,v x)).map (·.1)=l.map k:=by rw[aK];rfl
theorem snoc(f:α->β)(l:List α)(x:α):(l++[x]).map f=l.map f++[f x]:=by rw[ao];rfl
theorem a6M{H:HL}(K:HLok H){f:Str}(h:f∈H.sh.map (·.1)):j0 f=true/\f∈(hS H).map (·.1):=⟨a0j K h,by unfold hS;rw[a3Q];exact h⟩
theorem a7r{ct:CT}{F:Nat->Option Fn}(W:PF F){d:Nat}{H:HL}(K:HLok H):Reads ct F (d+9) {} ((J2 H).map ln) (a1j H):=by
 have e:(J2 H).map ln=H.sh.map (fun p=>ln (C7 p))++(H.mr.map (fun p=>ln (a0d p))++(H.pt.map (fun p=>ln (a1z p))++(H.ls.map (fun p=>ln (G7 p))++(H.gp.map (fun p=>ln (a8j p))++(H.cs.map (fun p=>ln (a0D p))++(H.fe.map (fun p=>ln (a4v p))++[])))))):=by
  unfold J2;simp only[ao,aK,aA,bn];rfl
 rw[e];refine E5 C7 (fun l=>{shapes:=l.map fun p=>(p.1,.int (p.2:Int))}) (fun x hx=>a2F K hx) (fun pre x post q=>?_) ?_ H.sh [] rfl
 · obtain⟨q1,q2⟩:=G2 q;have k:=K.sh.ok x q2
   have:=K.sh.hi
   have g:=b0a (ct:=ct) (d:=d) (H:={shapes:=pre.map fun p=>(p.1,.int (p.2:Int))}) (p:=x) W k.1 k.2 (by rw[a3Q];exact J3 (f:=fun p=>p.1) K.sh.nd q) (by rw[aa];omega)
   simp only[snoc];exact g
 refine E5 a0d (fun l=>{shapes:=hS H,marks:=hM l}) (fun x hx=>a4G K hx) (fun pre x post q=>?_) ?_ H.mr [] rfl
 · obtain⟨q1,q2⟩:=G2 q;obtain⟨k1,k2,k3⟩:=K.mko x q2;have hn:=a6M K (a6y K q2);have b:=a6l K K.mr;rw[aa] at b
   have:=K.sh.hi
   have g:=b2h (ct:=ct) (d:=d) (H:={shapes:=hS H,marks:=hM pre}) (m:=x) W hn.1 k1 k2 k3 (by unfold hM;rw[a3Q];exact J3 (f:=fun m:Mk=>m.n) (K.mr.nodup K.sh.nd) q) hn.2 (by unfold hM;rw[aa];omega)
   unfold hM at g⊢;rw[snoc];exact g
 refine E5 a1z (fun l=>{shapes:=hS H,marks:=hM H.mr,points:=hP l}) (fun x hx=>a2G K hx) (fun pre x post q=>?_) ?_ H.pt [] rfl
 · obtain⟨q1,q2⟩:=G2 q;obtain⟨k1,k2,k3⟩:=K.pto x q2;have hn:=a6M K k1
   have:=K.ptl
   have g:=b0b (ct:=ct) (d:=d) (H:={shapes:=hS H,marks:=hM H.mr,points:=hP pre}) (p:=x) W hn.1 k2 k3 (by unfold hP;rw[aK];exact J3 (f:=ptK) K.pt q) hn.2 (by unfold hP;rw[aa];omega)
   unfold hP at g⊢;rw[snoc];exact g
 refine E5 G7 (fun l=>{shapes:=hS H,marks:=hM H.mr,points:=hP H.pt,letters:=hL l}) (fun x hx=>Y1 K hx) (fun pre x post q=>?_) ?_ H.ls [] rfl
 · obtain⟨q1,q2⟩:=G2 q;have k:=K.lso x q2
   have:=K.ls
   have g:=a7Q (ct:=ct) (d:=d) (H:={shapes:=hS H,marks:=hM H.mr,points:=hP H.pt,letters:=hL pre}) (l:=x) W k (fun f hf=>a6M K (k.fs f hf)) (by unfold hL;rw[a3Q];exact J3 (f:=fun m:Lt=>m.n) K.lsn q) (by unfold hL;rw[aa];omega)
   unfold hL at g⊢;rw[snoc];exact g
 refine E5 a8j (fun l=>{shapes:=hS H,marks:=hM H.mr,points:=hP H.pt,letters:=hL H.ls,gaps:=l}) (fun x hx=>a6q K hx) (fun pre x post q=>?_) ?_ H.gp [] rfl
 · obtain⟨q1,q2⟩:=G2 q
   have:=K.gp.length_le
   rw[aa] at this
   have:=K.ls
   have nd:=J3 (f:=id) (by rw[map_id];exact K.gp.nodup K.lsn) q
   rw[map_id] at nd;exact b4W (ct:=ct) (d:=d) (H:={shapes:=hS H,marks:=hM H.mr,points:=hP H.pt,letters:=hL H.ls,gaps:=pre}) (g:=x) W (a6N K q2) nd (by unfold hL;rw[a3Q];exact K.gp.subset q2) (show pre.length<=1000 by omega)
 refine E5 a0D (fun l=>{shapes:=hS H,marks:=hM H.mr,points:=hP H.pt,letters:=hL H.ls,gaps:=H.gp,classes:=hC l}) (fun x hx=>a2H K hx) (fun pre x post q=>?_) ?_ H.cs [] rfl
 · obtain⟨q1,q2⟩:=G2 q;have k:=K.cso x q2
   have:=K.cs
   have g:=b0c (ct:=ct) (d:=d) (H:={shapes:=hS H,marks:=hM H.mr,points:=hP H.pt,letters:=hL H.ls,gaps:=H.gp,classes:=hC pre}) (c:=x) W k (fun f hf=>a6M K (k.fs f hf)) (by unfold hC;rw[a3Q];exact J3 (f:=fun m:Cs=>m.n) K.csn q) (by unfold hC;rw[aa];omega)
   unfold hC at g⊢;rw[snoc];exact g
 refine E5 a4v (fun l=>{shapes:=hS H,marks:=hM H.mr,points:=hP H.pt,letters:=hL H.ls,gaps:=H.gp,classes:=hC H.cs,features:=hF l}) (fun x hx=>a4H K hx) (fun pre x post q=>?_) (.nil _) H.fe [] rfl
 · obtain⟨q1,q2⟩:=G2 q
   have:=K.fe
   have g:=b2i (ct:=ct) (d:=d) (H:={shapes:=hS H,marks:=hM H.mr,points:=hP H.pt,letters:=hL H.ls,gaps:=H.gp,classes:=hC H.cs,features:=hF pre}) (p:=x) W (a6Q K (ak.mpr ⟨x,q2,rfl⟩)) (by unfold hF;rw[a3Q];exact J3 (f:=fun p=>p.1) K.fen.nd q) (by unfold hF;rw[aa];omega)
   unfold hF at g⊢;rw[snoc];exact g
open PySem
def nc(s:Str):Bool:=decide (s≠"clear")
noncomputable def bb(s:Str):Bool:=decide (s="both")||decide (s="back")
noncomputable def a1P(js:List Str)(k:Nat):Str:=((js.drop (k+1)).find? nc).getD "none"
noncomputable def a1Q(js:List Str)(k:Nat):Str:=((js.take k).reverse.find? nc).getD "none"
noncomputable def a9B(js:List Str)(i:Nat):Bool:=nc (js.getD i "clear")
def F7(js:List Str):List Nat:=(List.range js.length).filter (a9B js)
def jnx(x y:Str):Bool:=decide (x="both")&&bb y
def B0(js:List Str):List (Nat×Nat):=((F7 js).zip ((F7 js).drop 1)).filter fun p=>jnx (js.getD p.1 "") (js.getD p.2 "")
theorem a4r {a b:Nat}:∀{L:List Nat},L.Pairwise (· < ·)->((a,b)∈L.zip (L.drop 1)↔a∈L/\b∈L/\a<b/\∀x∈L,¬(a<x/\x<b))
 |[],_=>by simp
 |[x],_=>by
  refine⟨fun h=>absurd h (by simp),fun⟨h1,h2,h3,_⟩=>?_⟩
  rw[aW] at h1 h2;omega
 | x :: y ::t,h=>by
  obtain⟨hx,ht⟩:=List.pairwise_cons.mp h;have ih:=a4r (a:=a) (b:=b) ht;have xy:=hx y (.head _);have yt:=(List.pairwise_cons.mp ht).1
  show(a,b)∈(x,y)::(y::t).zip ((y::t).drop 1)↔_
  rw[aH,ih]
  constructor
  · rintro(e|⟨h1,h2,h3,h4⟩)
    · cases e;refine⟨.head _,.tail _ (.head _),xy,fun z hz=>?_⟩
      rcases aH.mp hz with rfl|hz
      · omega
      · rcases aH.mp hz with rfl|hz
        · omega
        · have:=yt z hz
          omega
    · refine⟨.tail _ h1,.tail _ h2,h3,fun z hz=>?_⟩
      rcases aH.mp hz with rfl|hz
      · have:=hx a h1
        omega
      · exact h4 z hz
  · rintro⟨h1,h2,h3,h4⟩
    have hb:b∈y::t:=by
     rcases aH.mp h2 with rfl|h2
     · rcases aH.mp h1 with rfl|h1
       · omega
       · have:=hx a h1
         omega
     · exact h2
    rcases aH.mp h1 with rfl|h1
    · refine .inl ?_
      rcases aH.mp hb with rfl|hb
      · rfl
      · exact absurd ⟨xy,yt b hb⟩ (h4 y (.tail _ (.head _)))
    · exact .inr ⟨h1,hb,h3,fun z hz=>h4 z (.tail _ hz)⟩
theorem T0{js:List Str}:i∈F7 js↔∃h:i<js.length,nc js[i]=true:=by
 unfold F7;rw[bt,aV];refine⟨fun⟨h,e⟩=>⟨h,?_⟩,fun⟨h,e⟩=>⟨h,?_⟩⟩
 · unfold a9B at e
   rwa [bC,af h] at e
 · unfold a9B;rw[bC,af h]
   exact e
theorem b1l(js:List Str):(F7 js).Pairwise (· < ·):=List.Pairwise.filter _ List.pairwise_lt_range
theorem a1q{js:List Str}{a:Nat}:(a,b)∈B0 js↔∃(ha:a<js.length) (hb:b<js.length),nc js[a]=true/\nc js[b]=true/\a<b/\(∀x (hx:x<js.length),a<x->x<b->nc js[x]=false)/\jnx js[a] js[b]=true:=by
 unfold B0;rw[bt,a4r (b1l js),T0,T0]
 constructor
 · rintro⟨⟨⟨ha,na⟩,⟨hb,nb⟩,lt,no⟩,j⟩;rw[bC,bC,af ha,af hb] at j
   refine⟨ha,hb,na,nb,lt,fun x hx h1 h2=>?_,j⟩
   cases e:nc js[x] with
   |false=>rfl
   |true=>exact absurd ⟨h1,h2⟩ (no x (T0.mpr ⟨hx,e⟩))
 · rintro⟨ha,hb,na,nb,lt,no,j⟩;refine⟨⟨⟨ha,na⟩,⟨hb,nb⟩,lt,fun x hx ⟨h1,h2⟩=>?_⟩,?_⟩
   · obtain⟨h,e⟩:=T0.mp hx;rw[no x h h1 h2] at e;cases e
   · rw[bC,bC,af ha,af hb]
     exact j
theorem b7b{s:Str}(h:bb s=true):nc s=true:=by
 unfold bb at h;rw[Bool.or_eq_true,bD,bD] at h
 rcases h with rfl|rfl<;>decide
theorem a4O{js:List Str}{k:Nat}(hk:k<js.length):(∃b,(k,b)∈B0 js)↔js[k]="both"/\bb (a1P js k)=true:=by
 constructor
 · rintro⟨b,h⟩;obtain⟨ha,hb,na,nb,lt,no,j⟩:=a1q.mp h;unfold jnx at j;rw[ae,bD] at j;refine⟨j.1,?_⟩
   have:(js.drop (k+1)).find? nc=some js[b]:=List.find?_eq_some_iff_getElem.mpr ⟨nb,b-(k+1),by rw[bF];omega,by rw[getElem_drop];congr 1;omega,fun i hi=>by
    rw[getElem_drop,no (k+1+i) (by omega) (by omega) (by omega)]
    rfl⟩
   unfold a1P;rw[this];exact j.2
 · rintro⟨h1,h2⟩;unfold a1P at h2
   cases e:(js.drop (k+1)).find? nc with
   |none=>rw[e] at h2;exact absurd h2 (by decide)
   |some s=>
    rw[e] at h2;obtain⟨ns,i,hi,es,no⟩:=List.find?_eq_some_iff_getElem.mp e
    rw[bF] at hi;rw[getElem_drop] at es;refine⟨k+1+i,a1q.mpr ⟨hk,by omega,by rw[h1];decide,by rw[es];exact ns,by omega,fun x hx l1 l2=>?_,?_⟩⟩
    · have:=no (x-(k+1)) (by omega)
      rw[getElem_drop] at this;simp only[show k+1+(x-(k+1))=x by omega] at this
      simpa using this
    · unfold jnx;rw[h1,es]
      simpa using h2
theorem a5P{js:List Str}{k:Nat}(hk:k<js.length):(∃a,(a,k)∈B0 js)↔a1Q js k="both"/\bb js[k]=true:=by
 constructor
 · rintro⟨a,h⟩;obtain⟨ha,hb,na,nb,lt,no,j⟩:=a1q.mp h;unfold jnx at j;rw[ae,bD] at j;refine⟨?_,j.2⟩
   have:(js.take k).reverse.find? nc=some js[a]:=List.find?_eq_some_iff_getElem.mpr ⟨na,k-1-a,by rw[List.length_reverse,aQ];omega,by
    rw[getElem_reverse,getElem_take];congr 1;rw[aQ]
    omega,fun i hi=>by
    rw[getElem_reverse,getElem_take,no _ (by rw[aQ];omega) (by rw[aQ];omega) (by rw[aQ];omega)]
    rfl⟩
   unfold a1Q;rw[this];exact j.1
 · rintro⟨h1,h2⟩;unfold a1Q at h1
   cases e:(js.take k).reverse.find? nc with
   |none=>rw[e] at h1;exact absurd h1 (by decide)
   |some s=>
    rw[e] at h1
    replace h1:s="both":=h1
    obtain⟨ns,i,hi,es,no⟩:=List.find?_eq_some_iff_getElem.mp e
    rw[List.length_reverse,aQ] at hi;rw[getElem_reverse,getElem_take] at es;simp only[aQ,show min k js.length=k by omega] at es
    refine⟨k-1-i,a1q.mpr ⟨by omega,hk,by rw[es];exact ns,b7b h2,by omega,fun x hx l1 l2=>?_,?_⟩⟩
    · have:=no (k-1-x) (by omega)
      rw[getElem_reverse,getElem_take] at this;simp only[aQ,show min k js.length=k by omega,show k-1-(k-1-x)=x by omega] at this
      simpa using this
    · unfold jnx;rw[es,h1,h2];rfl
theorem b4t{l:List (Str×D)}{k:Str}(e:h[n]? =some (.dict (kd l))):M3 true h (.str k) (.ref n)=.ok (.bl (!decide (k∈l.map (·.1)))) h:=by
 simp only[M3,e,a0r,if_true,a5V];simp
theorem a3u{c:Cell}:(h++[c]).set h.length c'=h++[c']:=by
 rw[List.set_append_right _ _ (ai _),Nat.sub_self];rfl
theorem b2V(hl:xs.length<1000000):mtD .append (h++[.lst xs]) (.ref h.length) [d]=.ok .non (h++[.lst (xs++[d])]):=by
 rw[a4m b8 hl,a3u]
theorem b5I{xs:List α}{d:α}(hd:xs[xs.length-1]? =some d):atI xs (-1)=some d:=by
 have hl:=(ac.mp hd).1
 unfold atI
 have e:ixN xs.length (-1)=some (xs.length-1):=by
  unfold ixN;rw[az (by omega),ay (by omega)]
  congr 1;omega
 rw[e];exact hd
theorem a8n(hd:xs[xs.length-1]? =some d):ixD h (.tup xs) (.int (-1))=.ok d h:=by
 simp only[ixD,b5I hd]
theorem a4b:op2 .eq h (.str x) (.str y)=.ok (.bl (decide (x=y))) h:=rfl
theorem b4u:op2 .ne h (.str x) (.str y)=.ok (.bl (!decide (x=y))) h:=rfl
theorem rd_of{l:List D}(e:h[n]? =some (.lst l)):rdL h n=some l:=by unfold rdL;rw[e]
noncomputable def G1(ls:List Lt)(x:Str):Lt:=(ls.find? fun l=>decide (l.n=x)).getD ⟨x,"","",[]⟩
theorem a9I{x:Str}:∀{ls:List Lt},x∈ls.map (·.n)->G1 ls x∈ls
 |[],h=>absurd h (by simp)
 |l::r,h=>by
  unfold G1;rw[List.find?_cons]
  by_cases e:l.n=x
  · simp[e]
  · simp only[e,decide_false];rw[map_cons] at h;exact .tail _ (a9I ((aH.mp h).resolve_left fun z=>e z.symm))
theorem b0f{x:Str}(f:Lt->D):∀{ls:List Lt},x∈ls.map (·.n)->n8 (kd (ls.map fun l=>(l.n,f l))) (.str x)=some (f (G1 ls x))
 |[],h=>absurd h (by simp)
 | l ::r,h=>by
  by_cases e:l.n=x
  · unfold n8 kd G1;rw[map_cons,map_cons,List.find?_cons,List.find?_cons]
    simp[e]
  · have ih:=b0f f (ls:=r) (by
     rw[map_cons] at h;exact(aH.mp h).resolve_left fun z=>e z.symm)
    have e':¬(D.str l.n=D.str x):=fun z=>e (by injection z)
    unfold n8 kd G1 at ih⊢;rw[map_cons,map_cons,List.find?_cons,List.find?_cons]
    simp only[e',e,decide_false];exact ih
theorem a9Q(f:Lt->D)(e:h[n]? =some (.dict (kd (ls.map fun l=>(l.n,f l)))))(hx:x∈ls.map (·.n)):ixD h (.ref n) (.str x)=.ok (f (G1 ls x)) h:=by
 have k:C8 (.str x) (kd (ls.map fun l=>(l.n,f l)))=true:=a0r _ _
 simp only[ixD,e,k,if_true,b0f f hx]
def j9(ls:List Lt)(row:List Str):List Str:=row.map fun x=>(G1 ls x).j
theorem a8K{k v x:D}:x∈(Y3 kvs k v).map (·.1)↔x∈kvs.map (·.1)∨x=k:=by
 unfold Y3
 by_cases e:(kvs.any fun p=>decide (p.1=k))=true
 · rw[ay e];obtain⟨p,hp,e2⟩:=bw.mp e;have e2:=aw e2
   have:(kvs.map fun p=>if p.1=k then(p.1,v) else p).map (·.1)=kvs.map (·.1):=by
    rw[aK];refine bh fun p _=>?_
    show(if p.1=k then(p.1,v) else p).1=p.1
    split<;>rfl
   rw[this];refine⟨.inl,fun h=>h.elim id fun h=>?_⟩
   rw[h,←e2];exact ak.mpr ⟨p,hp,rfl⟩
 · rw[az e];simp
theorem a2R{x:D}:∀(l kvs:List (D×D)),x∈(l.foldl (fun a p=>Y3 a p.1 p.2) kvs).map (·.1)↔x∈kvs.map (·.1)∨x∈l.map (·.1)
 |[],kvs=>by simp
 |p::r,kvs=>by
  rw[foldl_cons,a2R r,a8K,map_cons,aH,or_assoc]
def dI(l:List Nat):List (D×D):=(l.map fun i:Nat=>(D.int (i:Int),D.bl true)).foldl (fun a p=>Y3 a p.1 p.2) []
theorem a4d{l:List Nat}{x:D}:x∈(dI l).map (·.1)↔∃i∈l,x=.int ((i:Nat):Int):=by
 unfold dI;rw[a2R,aK];simp only[map_nil,not_mem_nil,false_or,ak,Function.comp];exact⟨fun⟨i,h,e⟩=>⟨i,h,e.symm⟩,fun⟨i,h,e⟩=>⟨i,h,e.symm⟩⟩
theorem b3f{k:Nat}{l:List Nat}(e:h[n]? =some (.dict (dI l))):op2 .isin h (.int (k:Int)) (.ref n)=.ok (.bl (decide (k∈l))) h:=by
 have ko:C8 (.int (k:Int)) (dI l)=true:=by
  unfold C8;rw[ae];refine⟨rfl,bv.mpr fun p hp=>?_⟩
  obtain⟨i,_,e⟩:=a4d.mp (ak.mpr ⟨p,hp,rfl⟩);rw[e];rfl
 have gs:(n8 (dI l) (.int (k:Int))).isSome=decide (k∈l):=by
  unfold n8;rw[Option.isSome_map]
  by_cases m:k∈l
  · rw[bp m,List.find?_isSome]
    obtain⟨p,hp,e⟩:=ak.mp (a4d.mpr ⟨k,m,rfl⟩);exact⟨p,hp,bp e⟩
  · rw[bE m]
    cases q:(dI l).find? fun p=>decide (p.1=.int (k:Int)) with
    |none=>rfl
    |some p=>
     have:=aw (List.find?_some (p:=fun p:D×D=>decide (p.1=.int (k:Int))) q)
     obtain⟨i,hi,e⟩:=a4d.mp (ak.mpr ⟨p,List.mem_of_find?_eq_some q,rfl⟩)
     rw[this] at e
     injection e with e
     exact absurd (by rw[Int.ofNat.inj e];exact hi) m
 show M3 false h (.int (k:Int)) (.ref n)=_
 simp only[M3,e,ko,if_true,gs]
 cases decide (k∈l)<;>rfl
theorem a8W:∀l:List Nat,a7u (l.map fun i:Nat=>D.tup [.int (i:Int),.bl true])=some (l.map fun i:Nat=>(D.int (i:Int),D.bl true))
 |[]=>rfl
 |x::r=>by
  rw[map_cons,a7u,ay (show(D9 (D.int (x:Int))).isSome=true from rfl),a8W r];rfl
theorem b2E{l:List Nat}:biD .dict (h++[.lst (l.map fun i:Nat=>D.tup [.int (i:Int),.bl true])]) [.ref h.length]=.ok (.ref (h++[Cell.lst (l.map fun i:Nat=>D.tup [.int (i:Int),.bl true])]).length) (h++[.lst (l.map fun i:Nat=>D.tup [.int (i:Int),.bl true])]++[.dict (dI l)]):=by
 simp only[biD,b8,a3D,a8W,A4];rfl
theorem a6a(js:List Str):z9 0 (js.map .str)=(List.range js.length).map fun i:Nat=>D.tup [.int (i:Int),.str (js.getD i "clear")]:=by
 refine ext_getElem? fun i=>?_
 by_cases hi:i<js.length
 · rw[aj,aN hi]
   have:i<(z9 0 (js.map .str)).length:=by rw[a0u,aa];exact hi
   obtain⟨d,h1,h2⟩:=N6 (af this)
   rw[af this,h2]
   rw[aj,af hi] at h1
   rw[←ax h1,aB,Option.map_some,bC,af hi]
   rfl
 · rw[bg (by rw[a0u,aa];omega),bg (by simp;omega)]
noncomputable def prD(p:Nat×Nat):D:=.tup [.int (p.1:Int),.int (p.2:Int)]
theorem a6i:∀a b:List Nat,Y0 (a.map fun i:Nat=>D.int (i:Int)) (b.map fun i:Nat=>D.int (i:Int))=(a.zip b).map prD
 |[],_=>by simp[Y0]
 |_::_,[]=>by simp[Y0]
 |x::a,y::b=>by
  rw[map_cons,map_cons,Y0,a6i a b];rfl
theorem b7K:O0 xs (some 1) none=xs.drop 1:=by
 unfold O0;rw[HT.a8E,show HT.sIx xs.length 0 (some 1)=min 1 xs.length from HT.a3w _ _ 1]
 cases xs with
 |nil=>rfl
 |cons x r=>
  rw[bq (by simp)]
  exact br (by simp)
theorem b3l(y:Str):inD (.str y) [.str "both",.str "back"]=bb y:=by
 unfold inD bb;simp only[any_cons,List.any_nil,eqF,Bool.or_false]
 by_cases a:y="both"
 · subst a;decide
 · by_cases b:y="back"
   · subst b;decide
   · rw[bE a,bE b,beq_eq_false_iff_ne.mpr (Ne.symm a),beq_eq_false_iff_ne.mpr (Ne.symm b)]
noncomputable def Z3(fs:List Str)(p q:Bool):Str:=if p&&q then fs.getD 2 "" else if q then fs.getD 1 "" else if p then fs.getD (fs.length-1) "" else fs.getD 0 ""
theorem a2c{fs:List Str}(hi:i<fs.length):ixD h (.tup (fs.map .str)) (.int (i:Int))=.ok (.str (fs.getD i "")) h:=ix_tup (by
 rw[aj,af hi,bC,af hi]
 rfl)
variable{r:Nat}{row:List Str}
section
variable{ct:CT}{F:Nat->Option Fn}
theorem a9L{k:Nat}(hF:F 36=some y0):b6 ct F (k+1) 36 [.str x,.str y] h=.ok (.bl (jnx x y)) h:=by
 rw[m8 hF rfl];simp only[y0]
 have:(y7 (.str y)=true/\[D.str "both",.str "back"].all y7=true)=True:=eq_true ⟨rfl,rfl⟩
 unfold jnx
 cases e:decide (x="both") with
 |false=>
  simp_arith[a4b,e];exact A6 rfl
 |true=>
  simp_arith[a4b,e,this,b3l];rw[show(bb y !=false)=(true&&bb y) by cases bb y<;>rfl]
  exact A6 rfl
theorem b0H{k:Nat}{fs:List Str}{p q:Bool}(hF:F 37=some z6)(h1:1<=fs.length)(hq:q=true->fs.length=4):b6 ct F (k+1) 37 [.tup (fs.map .str),.bl p,.bl q] h=.ok (.str (Z3 fs p q)) h:=by
 rw[m8 hF rfl];simp only[z6];have l0:=a2c (i:=0) (h:=h) h1
 have ll:ixD h (.tup (fs.map .str)) (.int (-1))=.ok (.str (fs.getD (fs.length-1) "")) h:=a8n (by
  rw[aa,aj,af (by omega),bC,af (by omega)]
  rfl)
 cases q with
 | false=>cases p with
  |false=>
   simp_arith[show ixD h (.tup (fs.map .str)) (.int 0)=.ok (.str (fs.getD 0 "")) h from l0];exact A6 rfl
  |true=>
   simp_arith[ll];exact A6 rfl
 | true=>
  have h4:=hq rfl;have l1:=a2c (fs:=fs) (i:=1) (h:=h) (by omega)
  have l2:=a2c (fs:=fs) (i:=2) (h:=h) (by omega)
  cases p with
  |false=>
   simp_arith[show ixD h (.tup (fs.map .str)) (.int 1)=.ok (.str (fs.getD 1 "")) h from l1];exact A6 rfl
  |true=>
   simp_arith[show ixD h (.tup (fs.map .str)) (.int 2)=.ok (.str (fs.getD 2 "")) h from l2];exact A6 rfl
theorem a9m{k:Nat}{js:List Str}(f36:F 36=some y0)(hF:F 35=some r8)(hj:h[j]? =some (.lst (js.map .str)))(hl:js.length<=1000):b6 ct F (k+2) 35 [.ref j] h=.ok (.ref h.length) (h++[.lst ((B0 js).map prD)]):=by
 rw[m8 hF rfl];simp only[r8]
 show gcR 2 h (J9 (exs ct (b6 ct F (k+1)) _ [some (.ref j),none] h))=_
 have c1:ev ct (b6 ct F (k+1)) (.comp (.tp (.cons (.nm 0) (.cons (.nm 1) .nil))) (.enum (.v 0)) 2 [] (.cmp .ne (.v 1) (.k (.str "clear"))) (.v 0)) [some (.ref j),none] h=.ok (.ref h.length) (h++[.lst ((F7 js).map fun i:Nat=>D.int (i:Int))]):=by
  rw[D3 (l:=(List.range js.length).map fun i:Nat=>D.tup [.int (i:Int),.str (js.getD i "clear")]) (g:=[(j,.lst (js.map .str))]) (h1:=h) (by simp_arith[X6,hj];rw[a6a]) (by simp only[gOk,all_cons,all_nil,hj];simp) (fun x=>match x with
   |.tup [_,.str s]=>nc s
   |_=>false) (fun x=>match x with
   |.tup [a,_]=>a
   |_=>.non) (fun x=>match x with
   |.tup [a,b]=>[some a,some b]
   |_=>[]) (fun x hx=>by
   obtain⟨i,hi,rfl⟩:=ak.mp hx;refine⟨rfl,?_,fun _=>by simp_arith[]⟩
   simp_arith[b4u];unfold nc;rw[decide_not]) (by rw[aa,aM];show _<=16777216;omega)]
  congr 3;rw[filter_map,aK];rfl
 rw[seq (env':=[some (.ref j),some (.ref h.length)]) (h':=h++[.lst ((F7 js).map fun i:Nat=>D.int (i:Int))]) (by rw[Q9,c1,i6];simp_arith[])]
 have sl:∀i∈F7 js,i<js.length:=fun i hi=>(T0.mp hi).1
 have ln:(F7 js).length<=1000:=by
  have:=bA (a9B js) (List.range js.length)
  rw[aM] at this;unfold F7;omega
 have aS:(h++[Cell.lst ((F7 js).map fun i:Nat=>D.int (i:Int))])[h.length]? =some (.lst ((F7 js).map fun i:Nat=>D.int (i:Int))):=b8
 have j1:=b7 (g:=[Cell.lst ((F7 js).map fun i:Nat=>D.int (i:Int))]) hj
 have P1:Pf h (h++[Cell.lst ((F7 js).map fun i:Nat=>D.int (i:Int))]):=(Pf.refl h).app _
 have pe:B0 js=((F7 js).zip ((F7 js).drop 1)).filter fun p=>jnx (js.getD p.1 "") (js.getD p.2 ""):=rfl
 generalize hs:F7 js=S at aS j1 P1 sl ln pe;generalize hx:h++[Cell.lst (S.map fun i:Nat=>D.int (i:Int))]=x1 at aS j1 P1
 have s1:slD x1 (some 1) none (.ref h.length)=.ok (.ref x1.length) (x1++[.lst ((S.drop 1).map fun i:Nat=>D.int (i:Int))]):=by rw[N8 aS,b7K,map_drop]
 have a2:=b7 (g:=[Cell.lst ((S.drop 1).map fun i:Nat=>D.int (i:Int))]) aS
 have j2:=b7 (g:=[Cell.lst ((S.drop 1).map fun i:Nat=>D.int (i:Int))]) j1
 have b2:(x1++[Cell.lst ((S.drop 1).map fun i:Nat=>D.int (i:Int))])[x1.length]? =some (.lst ((S.drop 1).map fun i:Nat=>D.int (i:Int))):=b8
 have P2:=P1.app [Cell.lst ((S.drop 1).map fun i:Nat=>D.int (i:Int))]
 generalize x1++[Cell.lst ((S.drop 1).map fun i:Nat=>D.int (i:Int))]=x2 at a2 b2 j2 s1 P2
 have zi:a7f x2 (.ref h.length) (.ref x1.length)=.ok ((S.zip (S.drop 1)).map prD,[(h.length,.lst (S.map fun i:Nat=>D.int (i:Int))),(x1.length,.lst ((S.drop 1).map fun i:Nat=>D.int (i:Int)))]) x2:=by
  have e1:a1d x2 h.length=some (S.map fun i:Nat=>D.int (i:Int),.lst (S.map fun i:Nat=>D.int (i:Int))):=by unfold a1d;rw[a2]
  have e2:a1d x2 x1.length=some ((S.drop 1).map fun i:Nat=>D.int (i:Int),.lst ((S.drop 1).map fun i:Nat=>D.int (i:Int))):=by unfold a1d;rw[b2]
  simp only[a7f,e1,e2,a6i]
 have jx:∀i,i<js.length->ixD x2 (.ref j) (.int (i:Int))=.ok (.str (js.getD i "")) x2:=fun i hi=>B4 j2 (by
  rw[aj,af hi,bC,af hi]
  rfl)
 have c2:ev ct (b6 ct F (k+1)) (.comp (.nm 0) (.zip (.v 1) (.sl (.v 1) (.at (.k (.int (1)))) .no)) 1 [0] (.val (.call 36 (.cons (.ix (.v 1) (.ix (.v 0) (.k (.int (0))))) (.cons (.ix (.v 1) (.ix (.v 0) (.k (.int (1))))) .nil)))) (.v 0)) [some (.ref j),some (.ref h.length)] x1=.ok (.ref x2.length) (x2++[.lst ((B0 js).map prD)]):=by
  rw[D3 (l:=(S.zip (S.drop 1)).map prD) (g:=[(h.length,.lst (S.map fun i:Nat=>D.int (i:Int))),(x1.length,.lst ((S.drop 1).map fun i:Nat=>D.int (i:Int)))]) (h1:=x2) (by simp_arith[s1,zi]) (by simp only[gOk,all_cons,all_nil,a2,b2];simp) (fun x=>match x with
   |.tup [.int a,.int b]=>jnx (js.getD a.toNat "") (js.getD b.toNat "")
   |_=>false) (fun x=>x) (fun x=>[some x,some (.ref j)]) (fun x hx=>by
   obtain⟨⟨a,b⟩,hp,rfl⟩:=ak.mp hx;obtain⟨ha,hb⟩:=of_mem_zip hp;have hb:=List.mem_of_mem_drop hb
   have i0:ixD x2 (prD (a,b)) (.int 0)=.ok (.int (a:Int)) x2:=ix_tup (i:=0) rfl
   have i1:ixD x2 (prD (a,b)) (.int 1)=.ok (.int (b:Int)) x2:=ix_tup (i:=1) rfl
   refine⟨rfl,?_,fun _=>by simp_arith[]⟩
   simp_arith[i0,i1,jx a (sl a ha),jx b (sl b hb),a9L f36]
   rfl) (by
    rw[aa,List.length_zip]
    show _<=16777216
    omega)]
  rw[map_id',filter_map,pe];rfl
 rw[J6,a5X,c2,i6,i6]
 show gcR 2 h (.ok (.ref x2.length) (x2++[.lst ((B0 js).map prD)]))=_
 exact b4X (P2.app _) b8 P2.len (a2S fun d hd=>by
  obtain⟨p,_,rfl⟩:=ak.mp hd
  rfl)
theorem b0A{k:Nat}{H:HL}(hF:F 33=some o7)(A:HallAt h n (a1j H))(hr:h[r]? =some (.lst (row.map .str)))(hin:∀x∈row,x∈H.ls.map (·.n)):b6 ct F (k+1) 33 [.ref n,.ref r] h=.ok .non h:=by
 have k4:(hL H.ls).map (·.1)=H.ls.map (·.n):=a3Q _ _ _
 rw[m8 hF rfl];simp only[o7]
 show gcR 1 h (J9 (exs ct (b6 ct F k) _ [some (.ref n),some (.ref r),none,none] h))=_
 obtain⟨env',g',e1,e2,e3,rfl,rfl⟩:=N0 (g:=[(r,.lst (row.map .str))]) (p:=.tp (.cons (.nm 2) (.cons (.nm 3) .nil))) (body:=exs ct (b6 ct F k) (.cons (.iff (.cmp .notin (.v 3) (.fld (.v 0) "letters")) (.cons .bad .nil) .nil) .nil)) (fun j env hh=>∃e2 e3,env=[some (.ref n),some (.ref r),e2,e3]/\hh=h) (fun j env hh hP=>by
  obtain⟨_,_,_,rfl⟩:=hP;simp only[gOk,all_cons,all_nil,hr]
  simp) (z9 0 (row.map .str)) 0 [some (.ref n),some (.ref r),none,none] h (fun j x env hh hx hP=>by
  obtain⟨e2,e3,rfl,rfl⟩:=hP;obtain⟨y,hy,rfl⟩:=N6 hx;rw[aj] at hy
  obtain⟨z,hz,rfl⟩:=Option.map_eq_some_iff.mp hy;have hm:=hin z (aI hz);refine⟨_,[some (.ref n),some (.ref r),some (.int ((0+j:Nat):Int)),some (.str z)],_,rfl,?_,_,_,rfl,rfl⟩
  show exs ct (b6 ct F k) _ [some (.ref n),some (.ref r),some (.int ((0+j:Nat):Int)),some (.str z)] _=_
  have ni:M3 true hh (.str z) (.ref (n+4))=.ok (.bl false) hh:=by
   rw[b4t A.c4,show(a1j H).letters=hL H.ls from rfl,k4,bp hm];rfl
  generalize ((0+j:Nat):Int)=J;simp_arith[A.fld4,op2,ni]) ⟨none,none,rfl,rfl⟩
 simp_arith[X6,hr,e1];exact A6 rfl
end
def jgB(js:List Str)(k:Nat):Bool:=decide (k∈(B0 js).map (·.1))
def jdB(js:List Str)(k:Nat):Bool:=decide (k∈(B0 js).map (·.2))
def Z2(ls:List Lt)(row:List Str)(k:Nat):Str:=Z3 (G1 ls (row.getD k "")).fs (jdB (j9 ls row) k) (jgB (j9 ls row) k)
def n9(ls:List Lt)(row:List Str):List Str:=(List.range row.length).map (Z2 ls row)
theorem b3d{k:Nat}(hk:k<row.length):∃h:k<(j9 ls row).length,(j9 ls row)[k]=(G1 ls (row.getD k "")).j:=by
 refine⟨by unfold j9;rw[aa];exact hk,?_⟩
 unfold j9;rw[List.getElem_map,bC,af hk]
 rfl
theorem a9P{k:Nat}(hk:k<row.length):jgB (j9 ls row) k=(decide ((G1 ls (row.getD k "")).j="both")&&bb (a1P (j9 ls row) k)):=by
 obtain⟨h,e⟩:=b3d (ls:=ls) hk;have J:=a4O h;rw[e] at J;unfold jgB;rw[Bool.eq_iff_iff,bD,ae,bD,←J,ak];exact⟨fun⟨⟨a,b⟩,h,e⟩=>⟨b,by rw[←(show a=k from e)];exact h⟩,fun⟨b,h⟩=>⟨(k,b),h,rfl⟩⟩
theorem b4N{k:Nat}(hk:k<row.length):jdB (j9 ls row) k=(decide (a1Q (j9 ls row) k="both")&&bb (G1 ls (row.getD k "")).j):=by
 obtain⟨h,e⟩:=b3d (ls:=ls) hk;have J:=a5P h;rw[e] at J;unfold jdB;rw[Bool.eq_iff_iff,bD,ae,bD,←J,ak];exact⟨fun⟨⟨a,b⟩,h,e⟩=>⟨a,by rw[←(show b=k from e)];exact h⟩,fun⟨a,h⟩=>⟨(a,k),h,rfl⟩⟩
theorem b3k{l:Lt}(o:LtOk sh l)(h:l.j="both"):l.fs.length=4:=by
 have:=o.jn
 rw[h,show n8 a1e (.str "both")=some (.int 4) by rfl] at this
 injection this with this
 injection this with this
 omega
theorem b7T{l:Lt}(o:LtOk sh l)(h:l.j="back"):l.fs.length=2:=by
 have:=o.jn
 rw[h,show n8 a1e (.str "back")=some (.int 2) by rfl] at this
 injection this with this
 injection this with this
 omega
section
variable{ct:CT}{F:Nat->Option Fn}
theorem b0i{k:Nat}{i:Int}{f:Nat×Nat->Nat}{ps:List (Nat×Nat)}(hi:∀p h,ixD h (prD p) (.int i)=.ok (.int ((f p:Nat):Int)) h)(he:env[3]? =some (some (.ref r)))(hr:h[r]? =some (.lst (ps.map prD)))(hl:ps.length<=100000):ev ct (b6 ct F k) (foD i) env h=.ok (.ref (h.length+1)) (h++[.lst ((ps.map f).map fun i:Nat=>D.tup [.int (i:Int),.bl true])]++[.dict (dI (ps.map f))]):=by
 have l1:(h++[Cell.lst ((ps.map f).map fun i:Nat=>D.tup [.int (i:Int),.bl true])]).length=h.length+1:=by simp
 have cm:ev ct (b6 ct F k) (.comp (.nm 0) (.seq (.v 3)) 1 [] .yes (.tup (.cons (.ix (.v 0) (.k (.int i))) (.cons (.k (.bl true)) .nil)))) env h=.ok (.ref h.length) (h++[.lst ((ps.map f).map fun i:Nat=>D.tup [.int (i:Int),.bl true])]):=by
  rw[z5 (l:=ps.map prD) (g:=[(r,.lst (ps.map prD))]) (h1:=h) (by simp_arith[he,S5,hr]) (by simp only[gOk,all_cons,all_nil,hr];simp) (fun x=>match x with
   |.tup [.int a,.int b]=>.tup [.int ((f (a.toNat,b.toNat):Nat):Int),.bl true]
   |_=>.non) (fun x=>[some x]) (fun x hx=>by
   obtain⟨p,_,rfl⟩:=ak.mp hx;refine⟨rfl,?_⟩
   simp_arith[hi]
   rfl) (by rw[aa];show _<=16777216;omega)]
  congr 3;rw[aK,aK];rfl
 unfold foD;simp_arith[cm,b2E,l1]
theorem a5W{k:Nat}{H:HL}(f33:F 33=some o7)(hF:F 34=some D0)(f35:F 35=some r8)(f36:F 36=some y0)(f37:F 37=some z6)(K:HLok H)(A:HallAt h n (a1j H))(hr:h[r]? =some (.lst (row.map .str)))(hin:∀x∈row,x∈H.ls.map (·.n))(hl:row.length<=63):b6 ct F (k+3) 34 [.ref n,.ref r] h=.ok (.ref h.length) (h++[.lst ((n9 H.ls row).map .str)]):=by
 have c4:h[n+4]? =some (.dict (kd (H.ls.map fun l=>(l.n,.tup [.str l.j,.str l.w,.tup (l.fs.map .str)])))):=A.c4
 have lk:∀{x:AH} {z:Str},x[n+4]? =some (.dict (kd (H.ls.map fun l=>(l.n,.tup [.str l.j,.str l.w,.tup (l.fs.map .str)]))))->z∈row->ixD x (.ref (n+4)) (.str z)=.ok (.tup [.str (G1 H.ls z).j,.str (G1 H.ls z).w,.tup ((G1 H.ls z).fs.map .str)]) x:=fun e hz=>a9Q (fun l=>.tup [.str l.j,.str l.w,.tup (l.fs.map .str)]) e (hin _ hz)
 rw[m8 hF rfl];simp only[D0]
 show gcR 2 h (J9 (exs ct (b6 ct F (k+2)) _ [some (.ref n),some (.ref r),none,none,none,none,none,none] h))=_
 rw[seq (env':=[some (.ref n),some (.ref r),none,none,none,none,none,none]) (h':=h) (by simp_arith[b0A f33 A hr hin])]
 have cj:ev ct (b6 ct F (k+2)) foJ [some (.ref n),some (.ref r),none,none,none,none,none,none] h=.ok (.ref h.length) (h++[.lst ((j9 H.ls row).map .str)]):=by
  unfold foJ
  rw[z5 (l:=row.map .str) (g:=[(r,.lst (row.map .str))]) (h1:=h) (by simp_arith[S5,hr]) (by simp only[gOk,all_cons,all_nil,hr];simp) (fun x=>match x with
   |.str z=>.str (G1 H.ls z).j
   |_=>.non) (fun x=>[some x,some (.ref n)]) (fun x hx=>by
   obtain⟨z,hz,rfl⟩:=ak.mp hx;refine⟨rfl,?_⟩
   simp_arith[A.fld4,lk c4 hz,b3u]) (by rw[aa];show _<=16777216;omega)]
  congr 3;unfold j9;rw[aK,aK];rfl
 have jl:(j9 H.ls row).length=row.length:=by unfold j9;rw[aa]
 have aJ:(h++[Cell.lst ((j9 H.ls row).map .str)])[h.length]? =some (.lst ((j9 H.ls row).map .str)):=b8
 have P1:Pf h (h++[Cell.lst ((j9 H.ls row).map .str)]):=(Pf.refl h).app _
 generalize hx1:h++[Cell.lst ((j9 H.ls row).map .str)]=x1 at cj aJ P1;have pk:=a9m (ct:=ct) (F:=F) (k:=k) f36 f35 aJ (by rw[jl];omega)
 rw[seq (env':=[some (.ref n),some (.ref r),none,some (.ref x1.length),none,none,none,none]) (h':=x1++[.lst ((B0 (j9 H.ls row)).map prD)]) (by simp_arith[cj,pk])]
 have aP:(x1++[Cell.lst ((B0 (j9 H.ls row)).map prD)])[x1.length]? =some (.lst ((B0 (j9 H.ls row)).map prD)):=b8
 replace P1:=P1.app [Cell.lst ((B0 (j9 H.ls row)).map prD)]
 have pl:(B0 (j9 H.ls row)).length<=100000:=by
  have q1:=bA (a9B (j9 H.ls row)) (List.range (j9 H.ls row).length);unfold B0;refine aY (bA _ _) ?_
  rw[List.length_zip];unfold F7;rw[aM] at q1;omega
 generalize x1.length=p at aP;generalize x1++[Cell.lst ((B0 (j9 H.ls row)).map prD)]=x2 at aP P1;have d0:=b0i (ct:=ct) (F:=F) (k:=k+2) (i:=0) (f:=fun p=>p.1) (env:=[some (.ref n),some (.ref r),none,some (.ref p),none,none,none,none]) (h:=x2) (fun p h=>ix_tup (i:=0) rfl) rfl aP pl
 have l2:(x2++[Cell.lst (((B0 (j9 H.ls row)).map fun p=>p.1).map fun i:Nat=>D.tup [.int (i:Int),.bl true])]).length=x2.length+1:=by simp
 have aG:(x2++[Cell.lst (((B0 (j9 H.ls row)).map fun p=>p.1).map fun i:Nat=>D.tup [.int (i:Int),.bl true])]++[Cell.dict (dI ((B0 (j9 H.ls row)).map fun p=>p.1))])[x2.length+1]? =some (.dict (dI ((B0 (j9 H.ls row)).map fun p=>p.1))):=by rw[←l2];exact b8
 replace P1:=(P1.app [Cell.lst (((B0 (j9 H.ls row)).map fun p=>p.1).map fun i:Nat=>D.tup [.int (i:Int),.bl true])]).app [Cell.dict (dI ((B0 (j9 H.ls row)).map fun p=>p.1))]
 replace aP:=b7 (g:=[Cell.dict (dI ((B0 (j9 H.ls row)).map fun p=>p.1))]) (b7 (g:=[Cell.lst (((B0 (j9 H.ls row)).map fun p=>p.1).map fun i:Nat=>D.tup [.int (i:Int),.bl true])]) aP)
 rw[seq (env':=[some (.ref n),some (.ref r),none,some (.ref p),some (.ref (x2.length+1)),none,none,none]) (h':=x2++[.lst (((B0 (j9 H.ls row)).map fun p=>p.1).map fun i:Nat=>D.tup [.int (i:Int),.bl true])]++[.dict (dI ((B0 (j9 H.ls row)).map fun p=>p.1))]) (by rw[Q9,d0,i6];rfl)]
 generalize x2.length+1=g at aG;generalize x2++[Cell.lst (((B0 (j9 H.ls row)).map fun p=>p.1).map fun i:Nat=>D.tup [.int (i:Int),.bl true])]++[Cell.dict (dI ((B0 (j9 H.ls row)).map fun p=>p.1))]=x3 at aG aP P1
 have d1:=b0i (ct:=ct) (F:=F) (k:=k+2) (i:=1) (f:=fun p=>p.2) (env:=[some (.ref n),some (.ref r),none,some (.ref p),some (.ref g),none,none,none]) (h:=x3) (fun p h=>ix_tup (i:=1) rfl) rfl aP pl
 have l3:(x3++[Cell.lst (((B0 (j9 H.ls row)).map fun p=>p.2).map fun i:Nat=>D.tup [.int (i:Int),.bl true])]).length=x3.length+1:=by simp
 have aD:(x3++[Cell.lst (((B0 (j9 H.ls row)).map fun p=>p.2).map fun i:Nat=>D.tup [.int (i:Int),.bl true])]++[Cell.dict (dI ((B0 (j9 H.ls row)).map fun p=>p.2))])[x3.length+1]? =some (.dict (dI ((B0 (j9 H.ls row)).map fun p=>p.2))):=by rw[←l3];exact b8
 replace P1:=(P1.app [Cell.lst (((B0 (j9 H.ls row)).map fun p=>p.2).map fun i:Nat=>D.tup [.int (i:Int),.bl true])]).app [Cell.dict (dI ((B0 (j9 H.ls row)).map fun p=>p.2))]
 replace aG:=b7 (g:=[Cell.dict (dI ((B0 (j9 H.ls row)).map fun p=>p.2))]) (b7 (g:=[Cell.lst (((B0 (j9 H.ls row)).map fun p=>p.2).map fun i:Nat=>D.tup [.int (i:Int),.bl true])]) aG)
 rw[seq (env':=[some (.ref n),some (.ref r),none,some (.ref p),some (.ref g),some (.ref (x3.length+1)),none,none]) (h':=x3++[.lst (((B0 (j9 H.ls row)).map fun p=>p.2).map fun i:Nat=>D.tup [.int (i:Int),.bl true])]++[.dict (dI ((B0 (j9 H.ls row)).map fun p=>p.2))]) (by rw[Q9,d1,i6];rfl)]
 generalize x3.length+1=q at aD;generalize x3++[Cell.lst (((B0 (j9 H.ls row)).map fun p=>p.2).map fun i:Nat=>D.tup [.int (i:Int),.bl true])]++[Cell.dict (dI ((B0 (j9 H.ls row)).map fun p=>p.2))]=x4 at aG aD P1
 rw[seq (env':=[some (.ref n),some (.ref r),none,some (.ref p),some (.ref g),some (.ref q),some (.ref x4.length),none]) (h':=x4++[.lst []]) (by simp_arith[A4])]
 have hA:∀t,HallAt (x4++t) n (a1j H):=fun t=>by
  have:x4=h++x4.drop h.length:=by
   have:=take_append_drop h.length x4
   rw[P1.take] at this;exact this.symm
  rw[this,aA];exact A.app _
 obtain⟨env',g',e1,e2,e7,rfl,rfl⟩:=N0 (g:=[(r,.lst (row.map .str))]) (p:=.tp (.cons (.nm 7) (.cons (.nm 2) .nil))) (body:=exs ct (b6 ct F (k+2)) foB) (fun j env hh=>∃e2 e7,env=[some (.ref n),some (.ref r),e2,some (.ref p),some (.ref g),some (.ref q),some (.ref x4.length),e7]/\hh=x4++[.lst (((List.range j).map (Z2 H.ls row)).map .str)]) (fun j env hh hP=>by
  obtain⟨_,_,_,rfl⟩:=hP;simp only[gOk,all_cons,all_nil,b7 (P1.at hr)]
  simp) (z9 0 (row.map .str)) 0 [some (.ref n),some (.ref r),none,some (.ref p),some (.ref g),some (.ref q),some (.ref x4.length),none] (x4++[.lst []]) (fun j x env hh hx hP=>by
  obtain⟨e2,e7,rfl,rfl⟩:=hP;obtain⟨y,hy,rfl⟩:=N6 hx;rw[aj] at hy
  obtain⟨z,hz,rfl⟩:=Option.map_eq_some_iff.mp hy;have hj:=(ac.mp hz).1
  have hm:=aI hz
  have zg:row.getD j ""=z:=by rw[bC,hz];rfl
  rw[aB];have A1:=hA [.lst (((List.range j).map (Z2 H.ls row)).map .str)];have o:=K.lso _ (a9I (hin z hm));have g1:=b3f (k:=j) (b7 (g:=[.lst (((List.range j).map (Z2 H.ls row)).map .str)]) aG);have q1:=b3f (k:=j) (b7 (g:=[.lst (((List.range j).map (Z2 H.ls row)).map .str)]) aD)
  have fc:Z2 H.ls row j=Z3 (G1 H.ls z).fs (jdB (j9 H.ls row) j) (jgB (j9 H.ls row) j):=by unfold Z2;rw[zg]
  have am:=b0H (ct:=ct) (F:=F) (k:=k+1) (p:=jdB (j9 H.ls row) j) (q:=jgB (j9 H.ls row) j) (h:=x4++[.lst (((List.range j).map (Z2 H.ls row)).map .str)]) f37 o.few.1 (fun e=>by
   rw[a9P hj,zg,ae,bD] at e;exact b3k o e.1)
  have i2:∀h,ixD h (.tup [.str (G1 H.ls z).j,.str (G1 H.ls z).w,.tup ((G1 H.ls z).fs.map .str)]) (.int 2)=.ok (.tup ((G1 H.ls z).fs.map .str)) h:=fun h=>ix_tup (i:=2) rfl
  refine⟨_,[some (.ref n),some (.ref r),some (.str z),some (.ref p),some (.ref g),some (.ref q),some (.ref x4.length),some (.int (j:Int))],_,rfl,?_,_,_,rfl,rfl⟩
  show exs ct (b6 ct F (k+2)) foB [some (.ref n),some (.ref r),some (.str z),some (.ref p),some (.ref g),some (.ref q),some (.ref x4.length),some (.int (j:Int))] _=_
  rw[List.range_succ,ao,ao,map_cons,map_nil,map_cons,map_nil,fc];unfold foB jdB jgB;unfold jdB jgB at am;simp_arith[a1u b8,A1.fld4,lk A1.c4 hm,i2,q1,g1,am,b2V (show(((List.range j).map (Z2 H.ls row)).map D.str).length<1000000 by rw[aa,aa,aM];omega)]) ⟨none,none,rfl,rfl⟩
 rw[a0u,aa,aB] at e1;rw[seq (env':=_) (h':=x4++[.lst (((List.range row.length).map (Z2 H.ls row)).map .str)]) (by simp_arith[X6,b7 (g:=[Cell.lst []]) (P1.at hr),e1];rfl)]
 simp_arith[];exact b4X (P1.app _) b8 P1.len (E6 _)
end
theorem b5J{i j:Int}:op2 .add h (.int i) (.int j)=.ok (.int (i+j)) h:=rfl
theorem le2{i j:Int}:op2 .le h (.int i) (.int j)=.ok (.bl (decide (i<=j))) h:=rfl
theorem lt2{i j:Int}:op2 .lt h (.int i) (.int j)=.ok (.bl (decide (i<j))) h:=rfl
theorem T5{b:Bool}:biD .int h [.bl b]=.ok (.int (if b then 1 else 0)) h:=rfl
theorem bb2:op2 .isin h (.str y) (.tup [.str "both",.str "back"])=.ok (.bl (bb y)) h:=by
 show M3 false h (.str y) (.tup [.str "both",.str "back"])=_
 have:(y7 (.str y)&&[D.str "both",.str "back"].all y7)=true:=rfl
 simp only[M3,this,if_true,b3l]
 cases bb y<;>rfl
def lwL(ls:List Lt):List (D×D):=kd (ls.map fun l=>(l.n,.tup [.str l.j,.tup (l.fs.map .str)]))
section
variable{ct:CT}{F:Nat->Option Fn}
theorem b0j{t:T}{b:Ss}:ex ct c (.whl t b) env h=a1g (tst ct c t) (exs ct c b) a3k env h:=by(rw[ex];try rfl)
theorem a5Y:ex ct c (.pat p e) env h=(ev ct c e env h).bind fun d h1=>(match G0 p d env with
 |some env'=>.ok (.nx env') h1
 |none=>.no):=by(rw[ex];try rfl)
theorem a2M{d:Nat}{a b:D}{st:Int}(hd:h[d]? =some (.dict (lwL ls)))(hr:h[r]? =some (.lst (row.map .str)))(hin:∀x∈row,x∈ls.map (·.n))(hi:i<row.length):
 tst ct c nrT [some (.ref d),some (.ref r),some a,some b,some (.int (i:Int))] h=.ok true h/\exs ct c nrB [some (.ref d),some (.ref r),some a,some (.int st),some (.int (i:Int))] h=(if nc ((j9 ls row).getD i "")=true then .ok (.rt (.str ((j9 ls row).getD i ""))) h else .ok (.nx [some (.ref d),some (.ref r),some a,some (.int st),some (.int ((i:Int)+st))]) h):=by
 have le:biD .len h [.ref r]=.ok (.int (row.length:Int)) h:=by rw[x6 hr,aa]
 have i1:ixD h (.ref r) (.int (i:Int))=.ok (.str row[i]) h:=B4 hr (by rw[aj,af hi];rfl)
 have i2:ixD h (.ref d) (.str row[i])=.ok (.tup [.str (G1 ls row[i]).j,.tup ((G1 ls row[i]).fs.map .str)]) h:=a9Q (fun l=>.tup [.str l.j,.tup (l.fs.map .str)]) hd (hin _ (bz hi))
 have jg:(j9 ls row).getD i ""=(G1 ls row[i]).j:=by
  unfold j9;rw[bC,aj,af hi]
  rfl
 have d1:decide ((0:Int)<=(i:Int))=true:=bp (by omega)
 have d2:decide ((i:Int)<(row.length:Int))=true:=bp (by omega)
 refine⟨?_,?_⟩
 · unfold nrT;simp_arith[le2,d1,le,lt2,d2]
 · rw[jg];unfold nrB nrX nc
   by_cases e:(G1 ls row[i]).j="clear"
   · rw[az (by simp[e])]
     simp_arith[i1,i2,b3u,b4u,bp e,Bool.not_true,b5J]
   · rw[ay (by simp[e])]
     simp_arith[i1,i2,b3u,b4u,bE e,Bool.not_false]
theorem a9x{c:CF}{d r:Nat}{a:D}{ls:List Lt}{row:List Str}{h:AH}(hd:h[d]? =some (.dict (lwL ls)))(hr:h[r]? =some (.lst (row.map .str)))(hin:∀x∈row,x∈ls.map (·.n)):∀(m i fuel:Nat),i+m=row.length->m<fuel→
 a1g (tst ct c nrT) (exs ct c nrB) fuel [some (.ref d),some (.ref r),some a,some (.int 1),some (.int (i:Int))] h=(match((j9 ls row).drop i).find? nc with
  |some s=>.ok (.rt (.str s)) h
  |none=>.ok (.nx [some (.ref d),some (.ref r),some a,some (.int 1),some (.int (row.length:Int))]) h)
 |0,i,0,_,hf=>absurd hf (by omega)
 |m+1,i,0,_,hf=>absurd hf (by omega)
 | 0,i,f+1,e,_=>by
  obtain rfl:i=row.length:=by omega
  have le:biD .len h [.ref r]=.ok (.int (row.length:Int)) h:=by rw[x6 hr,aa]
  have d1:decide ((0:Int)<=(row.length:Int))=true:=bp (by omega)
  have d2:decide ((row.length:Int)<(row.length:Int))=false:=bE (by omega)
  have t:tst ct c nrT [some (.ref d),some (.ref r),some a,some (.int 1),some (.int (row.length:Int))] h=.ok false h:=by
   unfold nrT;simp_arith[le2,d1,le,lt2,d2]
  rw[List.drop_of_length_le (by unfold j9;rw[aa];exact ai _),a1g,t,i6,az (by decide)]
  rfl
 | m+1,i,f+1,e,hf=>by
  have hi:i<row.length:=by omega
  obtain⟨t,b⟩:=a2M (ct:=ct) (c:=c) (a:=a) (b:=.int 1) (st:=1) hd hr hin hi
  have jl:i<(j9 ls row).length:=by unfold j9;rw[aa];exact hi
  have jg:(j9 ls row).getD i ""=(j9 ls row)[i]:=by rw[bC,af jl];rfl
  rw[List.drop_eq_getElem_cons jl,List.find?_cons,a1g,t,i6,ay rfl,b,jg]
  cases q:nc (j9 ls row)[i] with
  |true=>rfl
  |false=>
   rw[az (by decide),i6]
   have a1:(i:Int)+1=((i+1:Nat):Int):=by omega
   simp only[a1];exact a9x hd hr hin m (i+1) f (by omega) (by omega)
theorem a9y{c:CF}{d r:Nat}{a:D}{ls:List Lt}{row:List Str}{h:AH}(hd:h[d]? =some (.dict (lwL ls)))(hr:h[r]? =some (.lst (row.map .str)))(hin:∀x∈row,x∈ls.map (·.n)):∀(i fuel:Nat),i<=row.length->i<fuel→
 a1g (tst ct c nrT) (exs ct c nrB) fuel [some (.ref d),some (.ref r),some a,some (.int (-1)),some (.int ((i:Int)+(-1)))] h=(match((j9 ls row).take i).reverse.find? nc with
  |some s=>.ok (.rt (.str s)) h
  |none=>.ok (.nx [some (.ref d),some (.ref r),some a,some (.int (-1)),some (.int (-1))]) h)
 |i,0,_,hf=>absurd hf (by omega)
 | 0,f+1,_,_=>by
  have d1:decide ((0:Int)<= -1)=false:=rfl
  have t:tst ct c nrT [some (.ref d),some (.ref r),some a,some (.int (-1)),some (.int (-1))] h=.ok false h:=by
   unfold nrT;simp_arith[le2,d1]
  rw[List.take_zero,a1g,show((0:Nat):Int)+(-1)= -1 from rfl,t,i6,az (by decide)]
  rfl
 | i+1,f+1,hl,hf=>by
  have hi:i<row.length:=by omega
  obtain⟨t,b⟩:=a2M (ct:=ct) (c:=c) (a:=a) (b:=.int (-1)) (st:= -1) hd hr hin hi
  have jl:i<(j9 ls row).length:=by unfold j9;rw[aa];exact hi
  have jg:(j9 ls row).getD i ""=(j9 ls row)[i]:=by rw[bC,af jl];rfl
  rw[List.take_succ_eq_append_getElem jl,List.reverse_append,List.reverse_singleton,List.singleton_append,List.find?_cons,a1g,show((i+1:Nat):Int)+(-1)=(i:Int) by omega,t,i6,ay rfl,b,jg]
  cases q:nc (j9 ls row)[i] with
  |true=>rfl
  |false=>
   rw[az (by decide),i6]
   exact a9y hd hr hin i f (by omega) (by omega)
theorem a9z{k d:Nat}(hF:F 216=some y8)(hd:h[d]? =some (.dict (lwL ls)))(hr:h[r]? =some (.lst (row.map .str)))(hin:∀x∈row,x∈ls.map (·.n))(hi:i<row.length)(hl:row.length<=63):b6 ct F (k+1) 216 [.ref d,.ref r,.int (i:Int),.int 1] h=.ok (.str (a1P (j9 ls row) i)) h:=by
 rw[m8 hF rfl];simp only[y8]
 show gcR 1 h (J9 (exs ct (b6 ct F k) _ [some (.ref d),some (.ref r),some (.int (i:Int)),some (.int 1),none] h))=_
 have a1:(i:Int)+1=((i+1:Nat):Int):=by omega
 rw[seq (env':=[some (.ref d),some (.ref r),some (.int (i:Int)),some (.int 1),some (.int ((i+1:Nat):Int))]) (h':=h) (by simp_arith[b5J,a1])]
 have w:=a9x (ct:=ct) (c:=b6 ct F k) (a:=.int (i:Int)) hd hr hin (row.length-(i+1)) (i+1) a3k (by omega) (by show _<1000000;omega)
 unfold a1P;rw[J6,b0j,w]
 cases ((j9 ls row).drop (i+1)).find? nc with
 |some s=>exact A6 rfl
 |none=>
  show gcR 1 h (J9 (exs ct (b6 ct F k) (.cons (.ret (.k (.str "none"))) .nil) [some (.ref d),some (.ref r),some (.int (i:Int)),some (.int 1),some (.int (row.length:Int))] h))=_
  simp_arith[];exact A6 rfl
theorem a9A{k d:Nat}(hF:F 216=some y8)(hd:h[d]? =some (.dict (lwL ls)))(hr:h[r]? =some (.lst (row.map .str)))(hin:∀x∈row,x∈ls.map (·.n))(hi:i<row.length)(hl:row.length<=63):b6 ct F (k+1) 216 [.ref d,.ref r,.int (i:Int),.int (-1)] h=.ok (.str (a1Q (j9 ls row) i)) h:=by
 rw[m8 hF rfl];simp only[y8]
 show gcR 1 h (J9 (exs ct (b6 ct F k) _ [some (.ref d),some (.ref r),some (.int (i:Int)),some (.int (-1)),none] h))=_
 rw[seq (env':=[some (.ref d),some (.ref r),some (.int (i:Int)),some (.int (-1)),some (.int ((i:Int)+(-1)))]) (h':=h) (by simp_arith[b5J])]
 have w:=a9y (ct:=ct) (c:=b6 ct F k) (a:=.int (i:Int)) hd hr hin i a3k (by omega) (by show _<1000000;omega)
 unfold a1Q;rw[J6,b0j,w]
 cases ((j9 ls row).take i).reverse.find? nc with
 |some s=>exact A6 rfl
 |none=>
  show gcR 1 h (J9 (exs ct (b6 ct F k) (.cons (.ret (.k (.str "none"))) .nil) [some (.ref d),some (.ref r),some (.int (i:Int)),some (.int (-1)),some (.int (-1))] h))=_
  simp_arith[];exact A6 rfl
theorem b2m{k d:Nat}(f216:F 216=some y8)(hF:F 217=some B1)(ho:∀l∈ls,LtOk sh l)(hd:h[d]? =some (.dict (lwL ls)))(hr:h[r]? =some (.lst (row.map .str)))(hin:∀x∈row,x∈ls.map (·.n))(hi:i<row.length)(hl:row.length<=63):b6 ct F (k+2) 217 [.ref d,.ref r,.int (i:Int)] h=.ok (.str (Z2 ls row i)) h:=by
 have zg:row.getD i ""=row[i]:=by rw[bC,af hi];rfl
 have hm:row[i]∈row:=bz hi
 have i1:ixD h (.ref r) (.int (i:Int))=.ok (.str row[i]) h:=B4 hr (by rw[aj,af hi];rfl)
 have i2:ixD h (.ref d) (.str row[i])=.ok (.tup [.str (G1 ls row[i]).j,.tup ((G1 ls row[i]).fs.map .str)]) h:=a9Q (fun l=>.tup [.str l.j,.tup (l.fs.map .str)]) hd (hin _ hm)
 have o:=ho _ (a9I (hin _ hm));have jd:=b4N (ls:=ls) hi;have jg:=a9P (ls:=ls) hi;rw[zg] at jd jg;have nR:=a9z (ct:=ct) (F:=F) (k:=k) f216 hd hr hin hi hl;have nL:=a9A (ct:=ct) (F:=F) (k:=k) f216 hd hr hin hi hl;unfold Z2;rw[zg];generalize G1 ls row[i]=l at i2 o jd jg;generalize a1Q (j9 ls row) i=xL at nL jd;generalize a1P (j9 ls row) i=xR at nR jg;generalize jdB (j9 ls row) i=p at jd;generalize jgB (j9 ls row) i=q at jg;rw[m8 hF rfl];simp only[B1]
 show gcR 1 h (J9 (exs ct (b6 ct F (k+1)) _ [some (.ref d),some (.ref r),some (.int (i:Int)),none,none,none,none] h))=_
 rw[seq (env':=[some (.ref d),some (.ref r),some (.int (i:Int)),some (.str l.j),some (.tup (l.fs.map .str)),none,none]) (h':=h) (by
  rw[a5Y];simp_arith[i1,i2]
  rfl)]
 rw[seq (env':=[some (.ref d),some (.ref r),some (.int (i:Int)),some (.str l.j),some (.tup (l.fs.map .str)),some (.bl p),none]) (h':=h) (by
  unfold fcA;rw[jd]
  cases e:decide (xL="both") with
  |true=>simp_arith[nL,a4b,e,bb2,Bool.true_and]
  |false=>simp_arith[nL,a4b,e,Bool.false_and])]
 rw[seq (env':=[some (.ref d),some (.ref r),some (.int (i:Int)),some (.str l.j),some (.tup (l.fs.map .str)),some (.bl p),some (.bl q)]) (h':=h) (by
  unfold fcC;rw[jg]
  cases e:bb xR with
  |true=>simp_arith[nR,bb2,e,a4b,Bool.and_true]
  |false=>simp_arith[nR,bb2,e,Bool.and_false])]
 have l0:=a2c (fs:=l.fs) (i:=0) (h:=h) o.few.1
 by_cases b:l.j="both"
 · have b4:=b3k o b
   have g0:∀{g:AH} {a:List D} {b:Nat} {d:D},a[b]? =some d->ixD (g++[.lst a]) (.ref g.length) (.int (b:Int))=.ok d (g++[.lst a]):=fun e=>B4 b8 e
   have l1:(h++[Cell.lst [.int 0,.int 1]]).length=h.length+1:=by simp
   rw[J6]
   have ret:∀(j:Nat),j<4->ev ct (b6 ct F (k+1)) fcR [some (.ref d),some (.ref r),some (.int (i:Int)),some (.str l.j),some (.tup (l.fs.map .str)),some (.bl p),some (.bl q)] h=ixD (h++[Cell.lst [.int 0,.int 1]]++[Cell.lst [.int 3,.int 2]]++[Cell.lst [.ref h.length,.ref (h.length+1)]]) (.tup (l.fs.map .str)) (.int (j:Int))->gcR 1 h (J9 ((ex ct (b6 ct F (k+1)) (.iff (.cmp .eq (.v 3) (.k (.str "both"))) (.cons (.ret fcR) .nil) .nil) [some (.ref d),some (.ref r),some (.int (i:Int)),some (.str l.j),some (.tup (l.fs.map .str)),some (.bl p),some (.bl q)] h).bind fun o h1=>(match o with
    |.nx env'=>exs ct (b6 ct F (k+1)) (.cons (.ret fcQ) .nil) env' h1
    |.rt d=>.ok (.rt d) h1)))=.ok (.str (l.fs.getD j "")) h:=fun j hj e=>by
    rw[a2c (by omega)] at e
    simp_arith[a4b,bp b,e];exact b7o ((((Pf.refl h).app _).app _).app _) rfl
   have a0:(h++[Cell.lst [.int 0,.int 1]]++[Cell.lst [.int 3,.int 2]]++[Cell.lst [.ref h.length,.ref (h.length+1)]])[h.length]? =some (.lst [.int 0,.int 1]):=b7 (b7 b8)
   have a1:(h++[Cell.lst [.int 0,.int 1]]++[Cell.lst [.int 3,.int 2]]++[Cell.lst [.ref h.length,.ref (h.length+1)]])[h.length+1]? =some (.lst [.int 3,.int 2]):=by rw[←l1];exact b7 b8
   have a2:(h++[Cell.lst [.int 0,.int 1]]++[Cell.lst [.int 3,.int 2]]++[Cell.lst [.ref h.length,.ref (h.length+1)]])[(h++[Cell.lst [.int 0,.int 1]]++[Cell.lst [.int 3,.int 2]]).length]? =some (.lst [.ref h.length,.ref (h.length+1)]):=b8
   generalize hg:h++[Cell.lst [.int 0,.int 1]]++[Cell.lst [.int 3,.int 2]]++[Cell.lst [.ref h.length,.ref (h.length+1)]]=g at a0 a1 a2 ret
   have r0:ixD g (.ref (h++[Cell.lst [.int 0,.int 1]]++[Cell.lst [.int 3,.int 2]]).length) (.int 0)=.ok (.ref h.length) g:=B4 (i:=0) a2 rfl
   have r1:ixD g (.ref (h++[Cell.lst [.int 0,.int 1]]++[Cell.lst [.int 3,.int 2]]).length) (.int 1)=.ok (.ref (h.length+1)) g:=B4 (i:=1) a2 rfl
   have s00:ixD g (.ref h.length) (.int 0)=.ok (.int 0) g:=B4 (i:=0) a0 rfl
   have s01:ixD g (.ref h.length) (.int 1)=.ok (.int 1) g:=B4 (i:=1) a0 rfl
   have s10:ixD g (.ref (h.length+1)) (.int 0)=.ok (.int 3) g:=B4 (i:=0) a1 rfl
   have s11:ixD g (.ref (h.length+1)) (.int 1)=.ok (.int 2) g:=B4 (i:=1) a1 rfl
   cases p with
   |false=>cases q with
    |false=>exact ret 0 (by decide) (by unfold fcR;simp_arith[A4,l1,hg,T5,r0,s00];rfl)
    |true=>exact ret 1 (by decide) (by unfold fcR;simp_arith[A4,l1,hg,T5,r0,s01];rfl)
   | true=>cases q with
    |false=>
     have:Z3 l.fs true false=l.fs.getD 3 "":=by unfold Z3;rw[b4];rfl
     rw[this];exact ret 3 (by decide) (by unfold fcR;simp_arith[A4,l1,hg,T5,r1,s10];rfl)
    |true=>exact ret 2 (by decide) (by unfold fcR;simp_arith[A4,l1,hg,T5,r1,s11];rfl)
 · have q0:q=false:=by rw[jg,bE b];rfl
   subst q0;unfold fcQ
   by_cases c:l.j="back"
   · have b2:=b7T o c
     cases p with
     |false=>
      simp_arith[a4b,bE b,T5,show ixD h (.tup (l.fs.map .str)) (.int 0)=.ok (.str (l.fs.getD 0 "")) h from l0];exact A6 rfl
     |true=>
      have l1:=a2c (fs:=l.fs) (i:=1) (h:=h) (by omega)
      have:Z3 l.fs true false=l.fs.getD 1 "":=by unfold Z3;rw[b2];rfl
      rw[this];simp_arith[a4b,bE b,bp c,T5,show ixD h (.tup (l.fs.map .str)) (.int 1)=.ok (.str (l.fs.getD 1 "")) h from l1];exact A6 rfl
   · have p0:p=false:=by
      rw[jd];unfold bb;rw[bE b,bE c,Bool.or_false,Bool.and_false]
     subst p0;simp_arith[a4b,bE b,T5,show ixD h (.tup (l.fs.map .str)) (.int 0)=.ok (.str (l.fs.getD 0 "")) h from l0];exact A6 rfl
end
theorem a2U:∀l:List Str,a4Z (l.map .str) (l.map .str)=true
 |[]=>rfl
 |x::r=>by
  rw[map_cons,a4Z,a2U r];simp[eqF]
theorem a6U{l:List Str}(h1:h[i]? =some (.lst (l.map .str)))(h2:h[j]? =some (.lst (l.map .str))):op2 .eq h (.ref i) (.ref j)=.ok (.bl true) h/\op2 .ne h (.ref i) (.ref j)=.ok (.bl false) h:=by
 have e1:a4X h (.ref i) (.ref j)=some true:=by
  simp only[a4X,rd_of h1,rd_of h2,a0O,Bool.and_self,if_true,a2U]
 refine⟨?_,?_⟩
 · show M4 h (.ref i) (.ref j)=_
   unfold M4;rw[show eqS (.ref i) (.ref j)=none from rfl];simp only[e1];rfl
 · show W8 h (.ref i) (.ref j)=_
   unfold W8;rw[show eqS (.ref i) (.ref j)=none from rfl];simp only[e1];rfl
theorem a3M{l:List D}(e:h[n]? =some (.lst l)):biD .list h [.ref n]=.ok (.ref h.length) (h++[.lst l]):=by
 simp only[biD,e,rd_of e,A4]
theorem Pf.split{a b:AH}(p:Pf a b):∃t,b=a++t:=⟨b.drop a.length,by
 have:=take_append_drop a.length b
 rw[p.take] at this;exact this.symm⟩
section
variable{ct:CT}{F:Nat->Option Fn}
theorem b4B{k q:Nat}{T:D}(hF:F 218=some A7)(t3:∀h,ixD h T (.int 3)=.ok (.ref q) h)(hq:h[q]? =some (.lst (ls.map ltD)))(nd:(ls.map (·.n)).Nodup)(hl:ls.length<=1000):b6 ct F (k+1) 218 [T] h=.ok (.ref h.length) (h++[.dict (lwL ls)]):=by
 rw[m8 hF rfl];simp only[A7]
 show gcR 2 h (J9 (exs ct (b6 ct F k) _ [some T,none,none,none,none,none] h))=_
 rw[seq (env':=[some T,some (.ref h.length),none,none,none,none]) (h':=h++[.dict []]) (by simp_arith[A4])]
 obtain⟨env',g',e1,e2,e3,e4,e5,rfl,rfl⟩:=N0 (g:=[(q,.lst (ls.map ltD))]) (p:=.tp (.cons (.nm 2) (.cons (.nm 3) (.cons (.nm 4) (.cons (.nm 5) .nil))))) (body:=exs ct (b6 ct F k) loB) (fun j env hh=>∃e2 e3 e4 e5,env=[some T,some (.ref h.length),e2,e3,e4,e5]/\hh=h++[.dict (lwL (ls.take j))]) (fun j env hh hP=>by
  obtain⟨_,_,_,_,_,rfl⟩:=hP;simp only[gOk,all_cons,all_nil,b7 hq]
  simp) (ls.map ltD) 0 [some T,some (.ref h.length),none,none,none,none] (h++[.dict []]) (fun j x env hh hx hP=>by
  obtain⟨e2,e3,e4,e5,rfl,rfl⟩:=hP;rw[aj] at hx
  obtain⟨l,hc,rfl⟩:=Option.map_eq_some_iff.mp hx;have hj:=(ac.mp hc).1
  rw[aB]
  have tk:ls.take (j+1)=ls.take j++[l]:=by rw[List.take_succ,hc];rfl
  have nn:l.n∉((ls.take j).map fun l=>(l.n,D.tup [.str l.j,.tup (l.fs.map .str)])).map (·.1):=by
   rw[a3Q]
   have s:ls=ls.take j++l::ls.drop (j+1):=by
    have:=take_append_drop (j+1) ls
    rw[tk,aA] at this;exact this.symm
   exact J3 (f:=fun l:Lt=>l.n) nd s
  have st:S4 (h++[.dict (lwL (ls.take j))]) (.ref h.length) (.str l.n) (.tup [.str l.j,.tup (l.fs.map .str)])=.ok () (h++[.dict (lwL (ls.take (j+1)))]):=by
   simp only[S4,b8]
   rw[ay ⟨a0r _ _,by
    show(kd _).length<16777216
    unfold kd;rw[aa,aa,aQ]
    omega⟩,a3u]
   unfold lwL;rw[a8L nn,tk,ao];rfl
  refine⟨_,[some T,some (.ref h.length),some (.str l.n),some (.str l.j),some (.str l.w),some (.tup (l.fs.map .str))],_,rfl,?_,_,_,_,_,rfl,rfl⟩
  show exs ct (b6 ct F k) loB [some T,some (.ref h.length),some (.str l.n),some (.str l.j),some (.str l.w),some (.tup (l.fs.map .str))] _=_
  unfold loB;simp_arith[st]) ⟨none,none,none,none,rfl,rfl⟩
 rw[aa,aB,take_length] at e1;rw[seq (env':=_) (h':=h++[.dict (lwL ls)]) (by simp_arith[t3,S5,b7 (g:=[.dict []]) hq,e1];rfl)]
 simp_arith[];refine gc2 b8 (ai _) ?_
 show(lwL ls).all (fun p=>p.1.flat&&p.2.flat)=true
 unfold lwL kd;rw[aK];refine bv.mpr fun p hp=>?_
 obtain⟨l,_,rfl⟩:=ak.mp hp
 show(true&&(true&&(D.flats (l.fs.map .str)&&true)))=true
 rw[E6];rfl
variable(W:PF F)
include W
end
variable{h1:AH}{l:List (D×D)}
section
variable{ct:CT}{F:Nat->Option Fn}
theorem a6S:ex ct c (.setc i e) env h=(evc ct c e env h).bind fun d h1=>.ok (.nx (env.set i (some d))) h1:=by(rw[ex];try rfl)
theorem a6R{i0 cl:Nat}{es:Es}:ex ct c (.tryc i0 f es cl i j) env h=(noex (evs ct c es env h)).bind fun ds h1=>(match c f ds h1 with
 |.ok d h2=>.ok (.nx (env.set i0 (some d))) h2
 |.ex k h2=>if ct.sub k cl=true/\i<env.length then .ok (.nx ((env.set j (some (.ref h2.length))).set i none)) (h2++[.exc k]) else .no
 |.no=>.no):=by(rw[ex];try rfl)
theorem a4Y:∀l l':List Str,a4Z (l.map .str) (l'.map .str)=decide (l=l')
 |[],[]=>rfl
 |[],_::_=>rfl
 |_::_,[]=>rfl
 |x::r,y::r'=>by
  rw[map_cons,map_cons,a4Z,a4Y r r']
  by_cases e:x=y
  · subst e
    by_cases e2:r=r'<;>simp[eqF,e2]
  · simp[eqF,e]
theorem a6x{l l':List Str}(h1:h[i]? =some (.lst (l.map .str)))(h2:h[j]? =some (.lst (l'.map .str))):op2 .ne h (.ref i) (.ref j)=.ok (.bl (!decide (l=l'))) h:=by
 have e1:a4X h (.ref i) (.ref j)=some (decide (l=l')):=by
  simp only[a4X,rd_of h1,rd_of h2,a0O,Bool.and_self,if_true,a4Y]
 show W8 h (.ref i) (.ref j)=_
 unfold W8;rw[show eqS (.ref i) (.ref j)=none from rfl];simp only[e1]
 cases decide (l=l')<;>rfl
theorem a8u{k a:Nat}{l:List Str}(hF:F 219=some D4)(h1:h[a]? =some (.lst (l.map .str)))(h2:h[b]? =some (.lst (l.map .str)))(hl:l.length<=1000):b6 ct F (k+1) 219 [.ref a,.ref b] h=.ok (.bl true) h:=by
 have la:biD .len h [.ref a]=.ok (.int (l.length:Int)) h:=by rw[x6 h1,aa]
 have lb:biD .len h [.ref b]=.ok (.int (l.length:Int)) h:=by rw[x6 h2,aa]
 have ne:op2 .ne h (.int (l.length:Int)) (.int (l.length:Int))=.ok (.bl false) h:=by
  show W8 h (.int (l.length:Int)) (.int (l.length:Int))=_
  simp[W8,eqS]
 have il:a0M ct h (.b "list") (.ref a)=some true:=by simp only[a0M,h1];rfl
 have is:∀(z:Str) g,a0M ct g (.b "str") (.str z)=some true:=fun z g=>rfl
 have cm:ev ct (b6 ct F k) (.comp (.nm 0) (.seq (.v 0)) 1 [] .yes (.isi (.v 0) (.b "str"))) [some (.ref a),some (.ref b)] h=.ok (.ref h.length) (h++[.lst ((l.map D.str).map fun _=>D.bl true)]):=by
  rw[z5 (l:=l.map .str) (g:=[(a,.lst (l.map .str))]) (h1:=h) (by simp_arith[S5,h1]) (by simp only[gOk,all_cons,all_nil,h1];simp) (fun _=>.bl true) (fun x=>[some x]) (fun x hx=>by
   obtain⟨z,_,rfl⟩:=ak.mp hx;refine⟨rfl,?_⟩
   simp_arith[is]) (by rw[aa];show _<=16777216;omega)]
 have al:biD .all (h++[.lst ((l.map D.str).map fun _=>D.bl true)]) [.ref h.length]=.ok (.bl true) (h++[.lst ((l.map D.str).map fun _=>D.bl true)]):=by
  rw[a1x (P:=fun _=>true)]
  congr 2;exact bv.mpr fun _ _=>rfl
 have eq:=(a6U (b7 (g:=[.lst ((l.map D.str).map fun _=>D.bl true)]) h1) (b7 (g:=[.lst ((l.map D.str).map fun _=>D.bl true)]) h2)).1
 rw[m8 hF rfl];simp only[D4];simp_arith[il,Bool.not_true,la,lb,ne,cm,al,eq];exact gc1 rfl
theorem a8C{k:Nat}{c:Cell}(e:h[k]? =some c):(h.set k c').set k c=h:=by
 rw[List.set_set]
 apply ext_getElem?
 intro i
 by_cases q:i=k
 · subst q;rw[List.getElem?_set_self (ac.mp e).1,e]
 · rw[List.getElem?_set_ne (Ne.symm q)]
theorem a1k{a:E}{k:Nat}{fr:List Nat}{t:T}{x:D}(ha:ev ct c a env h=.ok x h1)(hd:a2Z h1 x=some (k,l))(hk:h1[k]? =some (.dict l))(B:D->Bool)(f:D->D)(envf:D->o6)
 (hx:∀x∈K0 l,G0 p x (u6 n fr env)=some (envf x)/\tst ct c t (envf x) (h1.set k (.rod l))=.ok (B x) (h1.set k (.rod l))/\(B x=true->ev ct c e (envf x) (h1.set k (.rod l))=.ok (f x) (h1.set k (.rod l)))) (hl:(K0 l).length<=SL):
 ev ct c (.compI p a n fr t e) env h=.ok (.ref h1.length) (h1++[.lst (((K0 l).filter B).map f)]):=by
 have kl:=(ac.mp hk).1
 have hg:gOk [(k,.rod l)] (h1.set k (.rod l))=true:=by
  simp only[gOk,all_cons,all_nil,List.getElem?_set_self kl]
  simp
 rw[ev,ha,i6,hd]
 simp only
 rw[S1 hg B f envf (K0 l) [] hx (by simpa using hl),nil_append]
 show A4 (.lst _) ((h1.set k (.rod l)).set k (.dict l))=_
 rw[a8C hk];rfl
noncomputable def a0n(x:Str)(l:Lt):Bool:=decide (x∈l.fs)
theorem inS{x:Str}:∀{fs:List Str},inD (.str x) (fs.map .str)=decide (x∈fs)
 |[]=>by simp[inD]
 |y::r=>by
  have:=inS (x:=x) (fs:=r)
  unfold inD at this⊢;rw[map_cons,any_cons,this]
  by_cases e:x=y
  · subst e;simp[eqF,eqS]
  · have:(y==x)=false:=by simp[Ne.symm e]
    simp[eqF,eqS,e,Ne.symm e]
theorem a2n:∀fs:List Str,(fs.map D.str).all y7=true
 |[]=>rfl
 |x::r=>by rw[map_cons,all_cons,a2n r];rfl
theorem b1R{k:Nat}{H:HL}(hF:F 39=some x8)(K:HLok H)(A:HallAt h n (a1j H)):(∀l0,H.ls.filter (a0n x)=[l0]->b6 ct F (k+1) 39 [.ref n,.str x] h=.ok (.str l0.n) h)/\((H.ls.filter (a0n x)).length≠1->∃t,b6 ct F (k+1) 39 [.ref n,.str x] h=.ex 4 (h++t)):=by
 have c4:h[n+4]? =some (.dict (kd (H.ls.map fun l=>(l.n,.tup [.str l.j,.str l.w,.tup (l.fs.map .str)])))):=A.c4
 have ne:H.ls≠[]:=fun z=>by have:=K.ls;rw[z] at this;simp at this
 generalize hL:kd (H.ls.map fun l=>(l.n,D.tup [.str l.j,.str l.w,.tup (l.fs.map .str)]))=L at c4
 have hd:a2Z h (.ref (n+4))=some (n+4,L):=by
  simp only[a2Z,c4];rw[ay];rw[←hL]
  constructor
  · cases q:H.ls with
    |nil=>exact absurd q ne
    |cons a r=>rfl
  · rw[bv];intro p hp;unfold kd at hp;rw[aK] at hp;obtain⟨y,_,rfl⟩:=ak.mp hp;rfl
 have hi:K0 L=H.ls.map fun l=>D.tup [.str l.n,.tup [.str l.j,.str l.w,.tup (l.fs.map .str)]]:=by
  rw[←hL];unfold K0 kd;rw[aK,aK];rfl
 have hc:ev ct (b6 ct F k) (.compI (.tp (.cons (.nm 0) (.cons (.nm 1) .nil))) (.fld (.v 0) "letters") 2 [1] (.cmp .isin (.v 2) (.ix (.v 1) (.k (.int (2))))) (.v 0)) [some (.ref n),some (.str x),none] h=.ok (.ref h.length) (h++[.lst ((H.ls.filter (a0n x)).map fun l=>.str l.n)]):=by
  rw [a1k (x:=.ref (n+4)) (h1:=h) (by simp_arith[A.fld4]) hd c4 (fun d=>match d with
   |.tup [_,.tup [_,_,.tup fs]]=>inD (.str x) fs
   |_=>false) (fun d=>match d with
   |.tup (y::_)=>y
   |_=>.non) (fun d=>match d with
   |.tup [y,z]=>[some y,some z,some (.str x)]
   | _=>[]) (fun d hx=>by
    rw[hi] at hx;obtain⟨l,hl,rfl⟩:=ak.mp hx;refine⟨rfl,?_,fun _=>by simp_arith[]⟩
    have fl:y7 (.str x)=true:=rfl
    have i2:∀g,ixD g (.tup [.str l.j,.str l.w,.tup (l.fs.map .str)]) (.int 2)=.ok (.tup (l.fs.map .str)) g:=fun g=>ix_tup (i:=2) rfl
    have oi:∀g,op2 .isin g (.str x) (.tup (l.fs.map .str))=.ok (.bl (inD (.str x) (l.fs.map .str))) g:=fun g=>by
     simp only[op2,M3,a2n];rw[ay (show(y7 (.str x)&&true)=true from rfl)];simp
    simp only
    simp_arith[i2,oi]) (by rw[hi,aa];have:=K.ls;show _<=16777216;omega),hi]
  congr 3;rw[filter_map,aK]
  have:(H.ls.filter ((fun d=>match d with
   |.tup [_,.tup [_,_,.tup fs]]=>inD (.str x) fs
   |_=>false)∘fun l=>D.tup [.str l.n,.tup [.str l.j,.str l.w,.tup (l.fs.map .str)]]))=H.ls.filter (a0n x):=by
   refine List.filter_congr fun l _=>?_
   show inD (.str x) (l.fs.map .str)=a0n x l
   exact inS
  rw[this];rfl
 generalize H.ls.filter (a0n x)=os at hc
 have g0:(h++[Cell.lst (os.map fun l=>D.str l.n)])[h.length]? =some (.lst (os.map fun l=>D.str l.n)):=b8
 have ln1:biD .len (h++[Cell.lst (os.map fun l=>D.str l.n)]) [.ref h.length]=.ok (.int (os.length:Int)) (h++[Cell.lst (os.map fun l=>D.str l.n)]):=by rw[x6 g0,aa]
 have ne1:∀g,op2 .ne g (.int (os.length:Int)) (.int 1)=.ok (.bl (!decide ((os.length:Int)=1))) g:=fun g=>rfl
 have st:∀d0,b6 ct F (k+1) 39 [.ref n,.str x] h=d0↔gcR 1 h (J9 (exs ct (b6 ct F k) (.cons (.iff (.cmp .ne (.bi .len (.cons (.v 2) .nil)) (.k (.int (1)))) (.cons (.rais 4 (.cons (.k (.str "a shape does not stand for just one letter")) .nil)) .nil) .nil) (.cons (.ret (.ix (.v 2) (.k (.int (0))))) .nil)) [some (.ref n),some (.str x),some (.ref h.length)] (h++[Cell.lst (os.map fun l=>D.str l.n)])))=d0:=fun d0=>by
  rw[m8 hF rfl];simp only[x8]
  show gcR 1 h (J9 (exs ct (b6 ct F k) _ [some (.ref n),some (.str x),none] h))=_↔_
  rw[seq (env':=[some (.ref n),some (.str x),some (.ref h.length)]) (h':=h++[Cell.lst (os.map fun l=>D.str l.n)]) (by simp_arith[hc])]
 refine⟨fun l0 ho=>?_,fun hn=>⟨[Cell.lst (os.map fun l=>D.str l.n)],?_⟩⟩
 · subst ho;rw[st]
   have g1:(h++[Cell.lst [D.str l0.n]])[h.length]? =some (.lst [.str l0.n]):=b8
   have ln2:biD .len (h++[Cell.lst [D.str l0.n]]) [.ref h.length]=.ok (.int 1) (h++[Cell.lst [D.str l0.n]]):=x6 g1
   have ne2:∀g,op2 .ne g (.int 1) (.int 1)=.ok (.bl false) g:=fun g=>rfl
   have ix0:=z8 0 0 rfl g1 (d:=.str l0.n) rfl;simp_arith[ln2,ne2,ix0];exact gc1 (h:=h) (d:=.str l0.n) rfl
 · rw[st]
   have d0:decide ((os.length:Int)=1)=false:=bE (by omega)
   rw[d0] at ne1;simp_arith[ln1,ne1,Bool.not_false,Nat.reduceLeDiff];rfl
def a5I(ls:List Lt)(x:Str):Option Str:=match ls.filter (a0n x) with
 |[l]=>some l.n
 |_=>none
def W7(ls:List Lt):List Str->Option (List Str)
 |[]=>some []
 |x::r=>match a5I ls x with
  |some n=>(W7 ls r).map (n:: ·)
  |none=>none
def W9(ls:List Lt)(made:List Str):Option (List Str):=match W7 ls made with
 |some row=>if n9 ls row=made then some row else none
 |none=>none
theorem a5H{n:Str}(h:a5I ls x=some n):n∈ls.map (·.n)/\∃l,ls.filter (a0n x)=[l]/\l.n=n:=by
 unfold a5I at h
 split at h
 · rename_i l e;cases h
   have:l∈ls.filter (a0n x):=by rw[e];exact aW.mpr rfl
   exact⟨ak.mpr ⟨l,(bt.mp this).1,rfl⟩,l,e,rfl⟩
 · cases h
theorem a9s(h:a5I ls x=none):(ls.filter (a0n x)).length≠1:=by
 unfold a5I at h
 split at h
 · cases h
 · rename_i e;intro q;obtain⟨l,hl⟩:=List.length_eq_one_iff.mp q;exact e l hl
theorem a3A{ls:List Lt}:∀{made row:List Str},W7 ls made=some row->row.length=made.length/\∀x∈row,x∈ls.map (·.n)
 |[],row,h=>by cases h;exact⟨rfl,fun _ z=>nomatch z⟩
 |x::r,row,h=>by
  unfold W7 at h
  split at h
  · rename_i n e;obtain⟨q,h1,rfl⟩:=Option.map_eq_some_iff.mp h;obtain⟨a,b⟩:=a3A h1;refine⟨by rw[length_cons,length_cons,a],fun y hy=>?_⟩
    rcases aH.mp hy with rfl|hy
    · exact(a5H e).1
    · exact b y hy
  · cases h
theorem a8d{k:Nat}{H:HL}{made:List Str}(f39:F 39=some x8)(K:HLok H)(A:HallAt h n (a1j H))(hr:h[r]? =some (.lst (made.map .str)))(hl:made.length<=1000):
 ∀(l acc:List Str),acc.length+l.length<=1000->(∀row,W7 H.ls l=some row->B2 [(r,.lst (made.map .str))] (.nm 0) (tst ct (b6 ct F (k+1)) .yes) (ev ct (b6 ct F (k+1)) (.call 39 (.cons (.v 1) (.cons (.v 0) .nil)))) [none,some (.ref n)] (l.map .str) (acc.map .str) h=.ok ((acc++row).map .str) h)∧
  (W7 H.ls l=none->∃t,B2 [(r,.lst (made.map .str))] (.nm 0) (tst ct (b6 ct F (k+1)) .yes) (ev ct (b6 ct F (k+1)) (.call 39 (.cons (.v 1) (.cons (.v 0) .nil)))) [none,some (.ref n)] (l.map .str) (acc.map .str) h=.ex 4 (h++t)):=by
 have hg:gOk [(r,.lst (made.map .str))] h=true:=by simp only[gOk,all_cons,all_nil,hr];simp
 intro l
 induction l with
 |nil=>
  intro acc _;refine⟨fun row e=>?_,fun e=>by cases e⟩
  cases e;rw[map_nil,B2,ay hg,bn]
 | cons x t ih=>
  intro acc ha;rw[length_cons] at ha;obtain⟨o1,o2⟩:=b1R (ct:=ct) (F:=F) (k:=k) (x:=x) f39 K A
  have go:∀{rr},(ev ct (b6 ct F (k+1)) (.call 39 (.cons (.v 1) (.cons (.v 0) .nil))) [some (.str x),some (.ref n)] h).bind (fun d h2=>if(acc.map D.str).length<SL then B2 [(r,.lst (made.map .str))] (.nm 0) (tst ct (b6 ct F (k+1)) .yes) (ev ct (b6 ct F (k+1)) (.call 39 (.cons (.v 1) (.cons (.v 0) .nil)))) [none,some (.ref n)] (t.map .str) (acc.map .str++[d]) h2 else .no)=rr->B2 [(r,.lst (made.map .str))] (.nm 0) (tst ct (b6 ct F (k+1)) .yes) (ev ct (b6 ct F (k+1)) (.call 39 (.cons (.v 1) (.cons (.v 0) .nil)))) [none,some (.ref n)] ((x::t).map .str) (acc.map .str) h=rr:=fun{rr} e=>by
   rw[←e,map_cons,B2,ay hg];simp only[G0,List.set_cons_zero,a3m,i6,if_true]
  have sz:(acc.map D.str).length<SL:=by rw[aa];show _<16777216;omega
  cases e:a5I H.ls x with
  |none=>
   obtain⟨t',ht⟩:=o2 (a9s e);refine⟨fun row q=>?_,fun _=>⟨t',go ?_⟩⟩
   · unfold W7 at q;rw[e] at q;cases q
   · simp_arith[ht]
  |some nm=>
   obtain⟨_,l0,h0,rfl⟩:=a5H e;have hc:=o1 l0 h0;obtain⟨i1,i2⟩:=ih (acc++[l0.n]) (by rw[aq];simp only[length_cons,length_nil];omega)
   rw[ao,map_cons,map_nil] at i1 i2;refine⟨fun row q=>?_,fun q=>?_⟩
   · unfold W7 at q;rw[e] at q;obtain⟨row',h1,rfl⟩:=Option.map_eq_some_iff.mp q;refine go ?_
     simp_arith[hc,ay sz];rw[i1 row' h1,aA];rfl
   · unfold W7 at q;rw[e] at q;obtain⟨t',ht⟩:=i2 (Option.map_eq_none_iff.mp q);refine⟨t',go ?_⟩
     simp_arith[hc,ay sz];exact ht
theorem b2T{k:Nat}{H:HL}{made:List Str}(f39:F 39=some x8)(hF:F 38=some E7)(f33:F 33=some o7)(f34:F 34=some D0)(f35:F 35=some r8)(f36:F 36=some y0)(f37:F 37=some z6)
 (K:HLok H) (A:HallAt h n (a1j H)) (hr:h[r]? =some (.lst (made.map .str))) (hl:made.length<=63):
 (∀row,W9 H.ls made=some row->b6 ct F (k+4) 38 [.ref n,.ref r] h=.ok (.ref h.length) (h++[.lst (row.map .str)]))/\(W9 H.ls made=none->∃t,b6 ct F (k+4) 38 [.ref n,.ref r] h=.ex 4 (h++t)):=by
 obtain⟨c1,c2⟩:=a8d (ct:=ct) (F:=F) (k:=k+2) f39 K A hr (by omega) made [] (by rw[length_nil];omega)
 rw[map_nil] at c1 c2
 have st:∀{rr},gcR 2 h (J9 (exs ct (b6 ct F (k+3)) (.cons (.setc 2 (.comp (.nm 0) (.seq (.v 1)) 1 [0] .yes (.call 39 (.cons (.v 1) (.cons (.v 0) .nil))))) (.cons (.iff (.cmp .ne (.call 34 (.cons (.v 0) (.cons (.v 2) .nil))) (.bi .list (.cons (.v 1) .nil))) (.cons (.rais 4 (.cons (.k (.str "the letters of these shapes have other faces")) .nil)) .nil) .nil) (.cons (.ret (.v 2)) .nil))) [some (.ref n),some (.ref r),none] h))=rr->b6 ct F (k+4) 38 [.ref n,.ref r] h=rr:=fun e=>by
  rw[m8 hF rfl];exact e
 have sq:S5 h (.ref r)=.ok (made.map .str,[(r,.lst (made.map .str))]) h:=by simp only[S5,hr]
 have ce:u6 1 [0] [some (.ref n),some (.ref r),none]=[none,some (.ref n)]:=rfl
 have bad:∀t,ex ct (b6 ct F (k+3)) (.setc 2 (.comp (.nm 0) (.seq (.v 1)) 1 [0] .yes (.call 39 (.cons (.v 1) (.cons (.v 0) .nil))))) [some (.ref n),some (.ref r),none] h=.ex 4 (h++t)->∃t,b6 ct F (k+4) 38 [.ref n,.ref r] h=.ex 4 (h++t):=fun t e=>⟨t,st (by
  rw[J6,e]
  rfl)⟩
 cases e:W7 H.ls made with
 |none=>
  refine⟨fun row q=>?_,fun _=>?_⟩
  · unfold W9 at q;rw[e] at q;cases q
  · obtain⟨t,ht⟩:=c2 e;refine bad t ?_
    rw[a6S,evc];simp_arith[sq,ce,ht]
 | some row=>
  have hc:=c1 row e;rw[nil_append] at hc;obtain⟨q1,hin⟩:=a3A e
  have s1:ex ct (b6 ct F (k+3)) (.setc 2 (.comp (.nm 0) (.seq (.v 1)) 1 [0] .yes (.call 39 (.cons (.v 1) (.cons (.v 0) .nil))))) [some (.ref n),some (.ref r),none] h=.ok (.nx [some (.ref n),some (.ref r),some (.ref h.length)]) (h++[.lst (row.map .str)]):=by
   rw[a6S,evc];simp_arith[sq,ce,hc,A4]
  have aR:(h++[Cell.lst (row.map D.str)])[h.length]? =some (.lst (row.map .str)):=b8
  have fo:=a5W (ct:=ct) (F:=F) (k:=k) (h:=h++[.lst (row.map .str)]) f33 f34 f35 f36 f37 K (A.app _) aR hin (by omega)
  have P:(h++[Cell.lst (row.map D.str)]++[Cell.lst ((n9 H.ls row).map D.str)])[(h++[Cell.lst (row.map D.str)]).length]? =some (.lst ((n9 H.ls row).map .str)):=b8
  have hr2:=b7 (g:=[Cell.lst ((n9 H.ls row).map .str)]) (b7 (g:=[Cell.lst (row.map .str)]) hr);have lk:=a3M hr2
  have hn:(h++[Cell.lst (row.map D.str)]++[Cell.lst ((n9 H.ls row).map D.str)]++[Cell.lst (made.map D.str)])[(h++[Cell.lst (row.map D.str)]++[Cell.lst ((n9 H.ls row).map D.str)]).length]? =some (.lst (made.map .str)):=b8
  have ne:=a6x (b7 (g:=[Cell.lst (made.map D.str)]) P) hn;generalize (h++[Cell.lst (row.map D.str)]).length=a1 at fo P ne;generalize (h++[Cell.lst (row.map D.str)]++[Cell.lst ((n9 H.ls row).map D.str)]).length=a2 at lk hn ne
  by_cases e2:n9 H.ls row=made
  · rw[bp e2] at ne;refine⟨fun row' q=>?_,fun q=>?_⟩
    · unfold W9 at q;rw[e] at q;simp only[e2,if_true] at q;cases q;refine st ?_
      rw[seq s1];simp_arith[fo,lk,ne,Bool.not_true];have hk:=b7 (g:=[Cell.lst (made.map D.str)]) (b7 (g:=[Cell.lst ((n9 H.ls row).map D.str)]) aR);rw[aA,aA] at hk⊢;exact gc2 hk (ai _) (E6 _)
    · unfold W9 at q;rw[e] at q;simp only[e2,if_true] at q;cases q
  · rw[bE e2] at ne;refine⟨fun row' q=>?_,fun _=>⟨[Cell.lst (row.map D.str)]++([Cell.lst ((n9 H.ls row).map D.str)]++[Cell.lst (made.map D.str)]),st ?_⟩⟩
    · unfold W9 at q;rw[e] at q;simp only[e2,if_false] at q;cases q
    · rw[seq s1,←aA,←aA];simp_arith[fo,lk,ne,Bool.not_false,Nat.reduceLeDiff];rfl
theorem a6j{k:Nat}{H:HL}{made:List Str}(f39:F 39=some x8)(f38:F 38=some E7)(f33:F 33=some o7)(f34:F 34=some D0)(f35:F 35=some r8)(f36:F 36=some y0)(f37:F 37=some z6)(hF:F 207=some D2)
 (s0:ct.sub 4 0=true) (s4:ct.sub 4 4=true) (so:[5,1,3,2].any (ct.sub 4)=false) (K:HLok H) (A:HallAt h n (a1j H)) (hr:h[r]? =some (.lst (made.map .str))) (hl:made.length<=63):
 (∀row,W9 H.ls made=some row->b6 ct F (k+5) 207 [.ref n,.ref r] h=.ok (.tup [.str "row",.ref h.length]) (h++[.lst (row.map .str)]))/\(W9 H.ls made=none->∃t,b6 ct F (k+5) 207 [.ref n,.ref r] h=.ok (.tup [.str "none",.non]) (h++t)):=by
 obtain⟨b1,b2⟩:=b2T (ct:=ct) (F:=F) (k:=k) f39 f38 f33 f34 f35 f36 f37 K A hr hl;refine⟨fun row q=>?_,fun q=>?_⟩
 · have b:=b1 row q;rw[m8 hF rfl];simp only[D2];rw[gc0];simp_arith[a6R,noex,b,decide_true,decide_false,reduceCtorEq]
 · obtain⟨t,b⟩:=b2 q;refine⟨t++[.exc 4],?_⟩
   rw[m8 hF rfl];simp only[D2];rw[gc0,←aA]
   have ge:(h++t++[Cell.exc 4])[(h++t).length]? =some (.exc 4):=b8
   have i1:a0M ct (h++t++[Cell.exc 4]) (.c 4) (.ref (h++t).length)=some true:=by simp only[a0M,ge,s4]
   have i2:a0M ct (h++t++[Cell.exc 4]) (.b "ValueError") (.ref (h++t).length)=some true:=by simp only[a0M,ge,if_true]
   simp_arith[a6R,noex,b,s0,and_self,true_and,i1,i2,ge,so,Bool.not_true,decide_true,decide_false,reduceCtorEq]
end
variable{zs:List Int}{os:List Str}{v1:D}
section
variable{ct:CT}{F:Nat->Option Fn}
theorem b4V{o:Nat}(e:g[o]? =some (.lst xs))(hi:i<=xs.length)(hl:xs.length<1000000):mtD .insert g (.ref o) [.int (i:Int),d]=.ok .non (g.set o (.lst (xs.take i++d::xs.drop i))):=by
 simp only[mtD,e];rw[ay (show(0:Int)<=(i:Int)/\(i:Int)<=(xs.length:Int)/\xs.length<16777216 by omega),Int.toNat_natCast]
theorem b1W(e:h[n]? =some (.lst xs)):mtT .insert h (.ref n)=true:=by
 simp only[mtT,rdL,e,Option.isSome_some]
variable(f201:F 201=some z4)(f202:F 202=some l9)
include f201 f202
theorem a5E{k a o:Nat}{sh:List Str}(hs:g[s]? =some (.rol (zs.map .int)))(hb:g[b]? =some (.lst (sh.map .str)))(ho:g[o]? =some (.lst (os.map .str)))(hj:j<sh.length)(h24:sh.length<=100)(hl:os.length=j):
 ∃i,i<=j/\exs ct (b6 ct F (k+1)) oB [some (.ref s),some v1,some (.int (M:Int)),some (.ref a),some (.ref b),some (.ref o),some (.int (j:Int)),none,none,none,none,none,none] g
  =.ok (.nx [some (.ref s),some v1,some (.int (M:Int)),some (.ref a),some (.ref b),some (.ref o),some (.int (j:Int)),none,none,none,none,none,none]) (g.set o (.lst ((os.take i++sh[j]::os.drop i).map .str))):=by
 obtain⟨z,hz⟩:=a0w (ct:=ct) (k:=k) (j:=1) (h:=g) f201 hs
 have a9:((j:Nat):Int)+9=((j+9:Nat):Int):=by omega
 have a1:((j:Nat):Int)+1=((j+1:Nat):Int):=by omega
 obtain⟨N,hN⟩:=J4 (ct:=ct) (k:=k) (c:=z) (j:=((j+9:Nat):Int)) (h:=g) f202 (by omega)
 have m1:F8 g (.int (N:Int)) (.int ((j+1:Nat):Int))=.ok (.int ((N%(j+1):Nat):Int)) g:=P6 (j+1) (Nat.succ_pos j)
 have hi:N%(j+1)<=j:=Nat.le_of_lt_succ (Nat.mod_lt _ (Nat.succ_pos j))
 have nx:ixD g (.ref b) (.int (j:Int))=.ok (.str sh[j]) g:=B4 hb (by rw[aj,af hj];rfl)
 have io:=b4V (d:=.str sh[j]) ho (i:=N%(j+1)) (by rw[aa];omega) (by rw[aa];omega)
 refine⟨N%(j+1),hi,?_⟩
 unfold oB
 have hz':b6 ct F (k+1) 201 [.ref s,.int 1] g=.ok (.int z) g:=hz
 rw[ao,map_cons,map_take,map_drop];simp_arith[b1W ho,hz',op2,L7,a9,a1,hN,m1,nx,io]
theorem a9p{k a:Nat}{sh:List Str}(hs:h[s]? =some (.rol (zs.map .int)))(hb:h[b]? =some (.lst (sh.map .str)))(h24:sh.length=24):
 ∃(os:List Str) (y6:Option D) (env':o6),os.Perm sh/\env'=[some (.ref s),some v1,some (.int (M:Int)),some (.ref a),some (.ref b),some (.ref h.length),y6,none,none,none,none,none,none]∧
  M5 [] (.nm 6) (exs ct (b6 ct F (k+1)) oB) ((List.range 24).map fun i=>.int ((0:Int)+(i:Nat))) [some (.ref s),some v1,some (.int (M:Int)),some (.ref a),some (.ref b),some (.ref h.length),none,none,none,none,none,none,none] (h++[.lst []])=.ok (.nx env') (h++[.lst (os.map .str)]):=by
 obtain⟨env',g',e1,os,y6,rfl,rfl,q1,q2⟩:=N0 (g:=[]) (p:=.nm 6) (body:=exs ct (b6 ct F (k+1)) oB) (fun j env hh=>∃(os:List Str) (y6:Option D),env=[some (.ref s),some v1,some (.int (M:Int)),some (.ref a),some (.ref b),some (.ref h.length),y6,none,none,none,none,none,none]/\hh=h++[.lst (os.map .str)]/\os.Perm (sh.take j)/\os.length=j) (fun _ _ _ _=>rfl) ((List.range 24).map fun i=>.int ((0:Int)+(i:Nat))) 0 [some (.ref s),some v1,some (.int (M:Int)),some (.ref a),some (.ref b),some (.ref h.length),none,none,none,none,none,none,none] (h++[.lst []]) (fun j x env hg hx hP=>by
  obtain⟨os,y6,rfl,rfl,p1,p2⟩:=hP;obtain⟨hj,rfl⟩:=a3B hx;rw[aB] at p1 p2⊢
  have hj':j<sh.length:=by omega
  obtain⟨i,hi,t⟩:=a5E (ct:=ct) (k:=k) (a:=a) (M:=M) (v1:=v1) f201 f202 (b7 (g:=[.lst (os.map .str)]) hs) (b7 (g:=[.lst (os.map .str)]) hb) b8 hj' (by omega) p2
  rw[a3u] at t;refine⟨_,_,_,rfl,t,_,_,rfl,rfl,?_,?_⟩
  · rw[List.take_succ_eq_append_getElem hj'];refine(List.perm_middle).trans ?_
    rw[take_append_drop];exact(List.Perm.cons _ p1).trans (List.perm_append_singleton _ _).symm
  · rw[aq,length_cons,aQ,bF]
    omega) ⟨[],none,rfl,rfl,List.Perm.refl _,rfl⟩
 refine⟨os,y6,_,?_,rfl,e1⟩
 rw[aa,aM,aB,←h24,take_length] at q1;exact q1
end
variable{L:Nat}{sd:Bool}
section
variable{ct:CT}{F:Nat->Option Fn}
noncomputable def jn7:List Str:=["both","back","both","none","clear","both","both"]
theorem b4L(i:Nat):∃j n,jn7[i%7]? =some j/\n8 jnD (.str j)=some (.int ((n:Nat):Int))/\C8 (.str j) jnD=true/\n8 a1e (.str j)=some (.int ((n:Nat):Int))/\(1<=n/\n<=4)/\(j="both"∨j="back"∨j="none"∨j="clear"):=by
 have:i%7=0∨i%7=1∨i%7=2∨i%7=3∨i%7=4∨i%7=5∨i%7=6:=by omega
 have b:∀j:Str,j="both"->∃n:Nat,n8 jnD (.str j)=some (.int ((n:Nat):Int))/\C8 (.str j) jnD=true/\n8 a1e (.str j)=some (.int ((n:Nat):Int))/\(1<=n/\n<=4):=by
  rintro _ rfl;exact⟨4,by decide,by decide,by decide,by decide⟩
 obtain⟨n,b1,b2,b3,b4⟩:=b _ rfl
 rcases this with e|e|e|e|e|e|e<;>rw[e]
 · exact⟨"both",n,rfl,b1,b2,b3,b4,.inl rfl⟩
 · exact⟨"back",2,rfl,by decide,by decide,by decide,by decide,.inr (.inl rfl)⟩
 · exact⟨"both",n,rfl,b1,b2,b3,b4,.inl rfl⟩
 · exact⟨"none",1,rfl,by decide,by decide,by decide,by decide,.inr (.inr (.inl rfl))⟩
 · exact⟨"clear",1,rfl,by decide,by decide,by decide,by decide,.inr (.inr (.inr rfl))⟩
 · exact⟨"both",n,rfl,b1,b2,b3,b4,.inl rfl⟩
 · exact⟨"both",n,rfl,b1,b2,b3,b4,.inl rfl⟩
variable(f201:F 201=some z4)(f202:F 202=some l9)
include f201 f202
omit f201 f202 in
theorem b1I {k a o t N m F':Nat} {jn:D} {fs:List Str} (hO:g[o]? =some (.lst (os.map .str))) (gF:g[F']? =some (.lst (fs.map .str))) (o24:os.length=24) (fl:fs.length=m) (m4:m<=4) (fm:∀f∈fs,f∈os):
    ∃ (fs':List Str) (q:Nat) (u:AH),fs'.length=m/\(∀f∈fs',f∈os)/\(sd=false->fs'=fs)/\ex ct (b6 ct F (k+1)) (.iff owT owI .nil) [some (.ref s),some (.bl sd),some (.int (M:Int)),some (.ref a),some (.ref b),some (.ref o),some (.int (j:Int)),some (.ref L),some (.int (t:Int)),some (.int (N:Int)),some jn,some (.int (m:Int)),some (.ref F')] g
      =.ok (.nx [some (.ref s),some (.bl sd),some (.int (M:Int)),some (.ref a),some (.ref b),some (.ref o),some (.int (j:Int)),some (.ref L),some (.int (t:Int)),some (.int (N:Int)),some jn,some (.int (m:Int)),some (.ref q)]) (g++u)/\(g++u)[q]? =some (.lst (fs'.map .str)):=by
  have d7:M6 g (.int (N:Int)) (.int 7)=.ok (.int ((N/7:Nat):Int)) g:=a2w 7 (by decide) (by decide)
  have m3:F8 g (.int ((N/7:Nat):Int)) (.int 3)=.ok (.int ((N/7%3:Nat):Int)) g:=P6 3 (by decide)
  unfold owT
  cases sd with
  |false=>exact⟨fs,F',[],fl,fm,fun _=>rfl,by rw[bn];simp_arith[],by rw[bn];exact gF⟩
  | true=>
    by_cases c:((N/7%3:Nat):Int)=0
    · let fs':List Str:=(List.range m).map fun i=>os.getD (N/(i+8)%8) ""
      have hlt:∀i,N/(i+8)%8<os.length:=fun i=>by have:=Nat.mod_lt (N/(i+8)) (show 0<8 by decide);omega
      have hc:ev ct (b6 ct F (k+1)) (.comp (.nm 0) (.rng1 (.v 11)) 1 [9,5] .yes (.ix (.v 2) (.bin .mod (.bin .div (.v 1) (.bin .add (.v 0) (.k (.int (8))))) (.k (.int (8)))))) [some (.ref s),some (.bl true),some (.int (M:Int)),some (.ref a),some (.ref b),some (.ref o),some (.int (j:Int)),some (.ref L),some (.int (t:Int)),some (.int (N:Int)),some jn,some (.int (m:Int)),some (.ref F')] g=.ok (.ref g.length) (g++[.lst (fs'.map .str)]):=by
        rw[z5 (l:=(List.range m).map fun i=>D.int ((0:Int)+(i:Nat))) (g:=[]) (h1:=g) (by simp_arith[Y2 (h:=g) (m:=m) (by omega)]) rfl (fun x=>match x with
          |.int i=>.str (os.getD (N/(i.toNat+8)%8) "")
          |_=>.non) (fun x=>[some x,some (.int (N:Int)),some (.ref o)]) (fun x hx=>by
          obtain⟨i,hi,rfl⟩:=ak.mp hx;rw[Int.zero_add];refine⟨rfl,?_⟩
          have hi:=aV.mp hi
          have a8:((i:Nat):Int)+8=((i+8:Nat):Int):=by omega
          have dv:M6 g (.int (N:Int)) (.int ((i+8:Nat):Int))=.ok (.int ((N/(i+8):Nat):Int)) g:=a2w (i+8) (by omega) (by omega)
          have md:F8 g (.int ((N/(i+8):Nat):Int)) (.int 8)=.ok (.int ((N/(i+8)%8:Nat):Int)) g:=P6 8 (by decide)
          have ix:ixD g (.ref o) (.int ((N/(i+8)%8:Nat):Int))=.ok (.str (os.getD (N/(i+8)%8) "")) g:=B4 hO (by
            rw[aj,af (hlt i),bC,af (hlt i)];rfl)
          simp only[Int.toNat_natCast];simp_arith[op2,L7,a8,dv,md,ix]) (by rw[aa,aM];show _<=16777216;omega)]
        refine congrArg (fun q=>R.ok (D.ref g.length) (g++[Cell.lst q])) ?_
        rw[aK,aK];refine bh fun i _=>?_
        show D.str (os.getD (N/(((0:Int)+(i:Nat)).toNat+8)%8) "")=_
        rw[Int.zero_add,Int.toNat_natCast];rfl
      refine⟨fs',g.length,[.lst (fs'.map .str)],by simp only[fs',aa,aM],fun f hf=>?_,(fun h=>nomatch h),?_,b8⟩
      · obtain⟨i,_,rfl⟩:=ak.mp hf;rw[bC,af (hlt i)]
        exact bz (hlt i)
      · unfold owI;simp_arith[op2,d7,m3,M4,eqS,bp c,hc]
    · refine⟨fs,F',[],fl,fm,fun _=>rfl,?_,by rw[bn];exact gF⟩
      rw[bn];simp_arith[op2,d7,m3,M4,eqS,bE c]
theorem a9n{k a o t:Nat}{ns:List Str}{e9 e10 e11 e12:Option D}(hs:g[s]? =some (.rol (zs.map .int)))(hN:g[a]? =some (.lst (ns.map .str)))(hO:g[o]? =some (.lst (os.map .str)))(hL:g[L]? =some (.lst (ls.map ltD)))
 (hj:j<ns.length) (n6:ns.length<=6) (t4:t<=4*j) (o24:os.length=24) (ol:∀f∈os,f∈sh.map (·.1)) (hn:j0 ns[j]=true) (ll:ls.length<=1000) (p1:Pf h g) (hLh:h.length<=L) (aL:a≠L) (oL:o≠L):
 ∃l m x9 x10 x11 x12 g',LtOk sh l/\l.n=ns[j]/\(sd=false->l.fs=(os.drop t).take m)/\m<=4/\exs ct (b6 ct F (k+1)) owB [some (.ref s),some (.bl sd),some (.int (M:Int)),some (.ref a),some (.ref b),some (.ref o),some (.int (j:Int)),some (.ref L),some (.int (t:Int)),e9,e10,e11,e12] g
  =.ok (.nx [some (.ref s),some (.bl sd),some (.int (M:Int)),some (.ref a),some (.ref b),some (.ref o),some (.int (j:Int)),some (.ref L),some (.int ((t+m:Nat):Int)),x9,x10,x11,x12]) g'/\Pf h g'/\g'[s]? =some (.rol (zs.map .int))/\g'[a]? =some (.lst (ns.map .str))/\g'[o]? =some (.lst (os.map .str))/\g'[L]? =some (.lst ((ls++[l]).map ltD))/\(∀i c,i≠L->g[i]? =some c->g'[i]? =some c):=by
 obtain⟨z,hz⟩:=a0w (ct:=ct) (k:=k) (j:=2) (h:=g) f201 hs
 have hz':b6 ct F (k+1) 201 [.ref s,.int 2] g=.ok (.int z) g:=hz
 have a40:((j:Nat):Int)+40=((j+40:Nat):Int):=by omega
 obtain⟨N,hN'⟩:=J4 (ct:=ct) (k:=k) (c:=z) (j:=((j+40:Nat):Int)) (h:=g) f202 (by omega)
 obtain⟨jn,m,j1,j2,j3,j4,j5,j6⟩:=b4L N;obtain⟨wy,w1,w2,w3⟩:=b6d (N/21)
 have m7:∀h,F8 h (.int (N:Int)) (.int 7)=.ok (.int ((N%7:Nat):Int)) h:=fun h=>P6 7 (by decide)
 have d21:∀h,M6 h (.int (N:Int)) (.int 21)=.ok (.int ((N/21:Nat):Int)) h:=fun h=>a2w 21 (by decide) (by decide)
 have m3:∀(a:Nat) h,F8 h (.int (a:Int)) (.int 3)=.ok (.int ((a%3:Nat):Int)) h:=fun a h=>P6 3 (by decide)
 have je:∀(env:o6) (h:AH),ev ct (b6 ct F (k+1)) b4M env h=.ok (.ref h.length) (h++[.lst (jn7.map .str)]):=fun env h=>by
  unfold b4M jn7;simp_arith[A4]
  exact ay (show 7<=16777216 by decide)
 have we:∀(env:o6) (h:AH),ev ct (b6 ct F (k+1)) wyE env h=.ok (.ref h.length) (h++[.lst (wyL.map .str)]):=fun env h=>by unfold wyE wyL;simp_arith[A4]
 have jx:∀h:AH,ixD (h++[.lst (jn7.map .str)]) (.ref h.length) (.int ((N%7:Nat):Int))=.ok (.str jn) (h++[.lst (jn7.map .str)]):=fun h=>B4 b8 (by rw[aj,j1];rfl)
 have wx:∀h:AH,ixD (h++[.lst (wyL.map .str)]) (.ref h.length) (.int ((N/21%3:Nat):Int))=.ok (.str wy) (h++[.lst (wyL.map .str)]):=fun h=>B4 b8 (by rw[aj,w1];rfl)
 have dx:∀h:AH,ixD (h++[.dict jnD]) (.ref h.length) (.str jn)=.ok (.int ((m:Nat):Int)) (h++[.dict jnD]):=fun h=>by
  simp only[ixD,b8,j3,if_true,j2]
 have tm:((t:Nat):Int)+((m:Nat):Int)=((t+m:Nat):Int):=by omega
 have cut:O0 (os.map .str) (some (t:Int)) (some ((t+m:Nat):Int))=((os.drop t).take m).map .str:=by
  rw[W2 t (t+m) _ (by omega) (by rw[aa];omega),Nat.add_sub_cancel_left,←map_drop,←map_take]
 have fl:((os.drop t).take m).length=m:=by rw[aQ,bF];omega
 have fm:∀f∈(os.drop t).take m,f∈os:=fun f hf=>List.mem_of_mem_drop (List.mem_of_mem_take hf)
 generalize hfs:(os.drop t).take m=fs at cut fl fm
 have l1:(g++[Cell.lst (jn7.map D.str)]++[Cell.dict jnD]).length=g.length+2:=by simp
 have s1:exs ct (b6 ct F (k+1)) owB [some (.ref s),some (.bl sd),some (.int (M:Int)),some (.ref a),some (.ref b),some (.ref o),some (.int (j:Int)),some (.ref L),some (.int (t:Int)),e9,e10,e11,e12] g=exs ct (b6 ct F (k+1)) b1J [some (.ref s),some (.bl sd),some (.int (M:Int)),some (.ref a),some (.ref b),some (.ref o),some (.int (j:Int)),some (.ref L),some (.int (t:Int)),some (.int (N:Int)),some (.str jn),some (.int (m:Int)),e12] (g++[.lst (jn7.map .str)]++[.dict jnD]):=by
  unfold owB;rw[seq (env':=[some (.ref s),some (.bl sd),some (.int (M:Int)),some (.ref a),some (.ref b),some (.ref o),some (.int (j:Int)),some (.ref L),some (.int (t:Int)),some (.int (N:Int)),e10,e11,e12]) (h':=g) (by simp_arith[hz',op2,L7,a40,hN'])]
  rw[seq (env':=[some (.ref s),some (.bl sd),some (.int (M:Int)),some (.ref a),some (.ref b),some (.ref o),some (.int (j:Int)),some (.ref L),some (.int (t:Int)),some (.int (N:Int)),some (.str jn),e11,e12]) (h':=g++[.lst (jn7.map .str)]) (by simp_arith[je,op2,m7,jx])]
  unfold b6Q;rw[seq (env':=[some (.ref s),some (.bl sd),some (.int (M:Int)),some (.ref a),some (.ref b),some (.ref o),some (.int (j:Int)),some (.ref L),some (.int (t:Int)),some (.int (N:Int)),some (.str jn),some (.int (m:Int)),e12]) (h':=g++[.lst (jn7.map .str)]++[.dict jnD]) (by simp_arith[b2z,A4,dx])]
 rw[s1]
 have K2:∀i c,g[i]? =some c->(g++[Cell.lst (jn7.map D.str)]++[Cell.dict jnD])[i]? =some c:=fun i c h=>b7 (b7 h)
 have P2:=(p1.app [Cell.lst (jn7.map D.str)]).app [Cell.dict jnD];generalize g++[Cell.lst (jn7.map D.str)]++[Cell.dict jnD]=g2 at K2 P2;have sl:=N8 (lo:=some (t:Int)) (hi:=some ((t+m:Nat):Int)) (K2 _ _ hO);rw[cut] at sl
 have K3:∀i c,g[i]? =some c->(g2++[Cell.lst (fs.map D.str)])[i]? =some c:=fun i c h=>b7 (K2 i c h)
 have P3:=P2.app [Cell.lst (fs.map D.str)]
 have gF:(g2++[Cell.lst (fs.map D.str)])[g2.length]? =some (.lst (fs.map .str)):=b8
 have s2:exs ct (b6 ct F (k+1)) b1J [some (.ref s),some (.bl sd),some (.int (M:Int)),some (.ref a),some (.ref b),some (.ref o),some (.int (j:Int)),some (.ref L),some (.int (t:Int)),some (.int (N:Int)),some (.str jn),some (.int (m:Int)),e12] g2=exs ct (b6 ct F (k+1)) b4i [some (.ref s),some (.bl sd),some (.int (M:Int)),some (.ref a),some (.ref b),some (.ref o),some (.int (j:Int)),some (.ref L),some (.int (t:Int)),some (.int (N:Int)),some (.str jn),some (.int (m:Int)),some (.ref g2.length)] (g2++[.lst (fs.map .str)]):=by
  unfold b1J;rw[seq (env':=[some (.ref s),some (.bl sd),some (.int (M:Int)),some (.ref a),some (.ref b),some (.ref o),some (.int (j:Int)),some (.ref L),some (.int (t:Int)),some (.int (N:Int)),some (.str jn),some (.int (m:Int)),some (.ref g2.length)]) (h':=g2++[.lst (fs.map .str)]) (by simp_arith[op2,L7,tm,sl])]
 rw[s2];generalize g2++[Cell.lst (fs.map D.str)]=g3 at K3 P3 gF;generalize g2.length=F' at gF;obtain⟨fs',q,u,w1',w2',w3',w4',w5'⟩:=b1I (ct:=ct) (F:=F) (k:=k) (s:=s) (a:=a) (b:=b) (L:=L) (j:=j) (M:=M) (t:=t) (N:=N) (sd:=sd) (jn:=.str jn) (K3 _ _ hO) gF o24 fl j5.2 fm
 have K4:∀i c,g[i]? =some c->(g3++u++[Cell.lst (wyL.map D.str)])[i]? =some c:=fun i c h=>b7 (b7 (K3 i c h))
 have P4:=(P3.app u).app [Cell.lst (wyL.map D.str)];have B3:=b7 (g:=u) (K3 _ _ hL);have A3:=b7 (g:=u) (K3 _ _ hN);refine⟨⟨ns[j],jn,wy,fs'⟩,m,some (.int (N:Int)),some (.str jn),some (.int (m:Int)),some (.ref q),(g3++u++[Cell.lst (wyL.map .str)]).set L (.lst (ls.map ltD++[ltD ⟨ns[j],jn,wy,fs'⟩])),⟨hn,by rw[w1'];exact j4,by rw[w1'];exact j5,w2,j6,w3,fun f hf=>ol f (w2' f hf)⟩,rfl,fun e=>(w3' e).trans hfs.symm,j5.2,?_,P4.set hLh,?_,b9 (Ne.symm aL) (K4 _ _ hN),b9 (Ne.symm oL) (K4 _ _ hO),?_,fun i c hi hc=>b9 (Ne.symm hi) (K4 _ _ hc)⟩
 · unfold b4i;rw[seq w4'];unfold b6P;generalize hg4:g3++u=g4 at*
   have nx:ixD g4 (.ref a) (.int (j:Int))=.ok (.str ns[j]) g4:=B4 A3 (by rw[aj,af hj];rfl)
   have tp:=a3l (b7 (g:=[Cell.lst (wyL.map .str)]) w5');rw[seq (env':=[some (.ref s),some (.bl sd),some (.int (M:Int)),some (.ref a),some (.ref b),some (.ref o),some (.int (j:Int)),some (.ref L),some (.int (t:Int)),some (.int (N:Int)),some (.str jn),some (.int (m:Int)),some (.ref q)]) (h':=(g4++[Cell.lst (wyL.map .str)]).set L (.lst (ls.map ltD++[ltD ⟨ns[j],jn,wy,fs'⟩]))) (by simp_arith[a1u B3,nx,we,op2,d21,m3,wx,tp,a4m (b7 (g:=[.lst (wyL.map .str)]) B3) (by rw[aa];omega),ltD])]
   simp_arith[op2,L7,tm]
 · exact b9 (fun z=>by rw[←z] at hs;rw[hs] at hL;cases hL) (K4 _ _ hs)
 · rw[M9 (K4 _ _ hL),ao];rfl
end
section
variable{ct:CT}{F:Nat->Option Fn}
theorem b4h{k:Nat}(f201:F 201=some z4)(f202:F 202=some l9)(f203:F 203=some u0)(hF:F 204=some A5)(hs:h[s]? =some (.rol (zs.map .int))):
 ∃(sn:List Str) (ls:List Lt) (b L:Nat) (h':AH),Nms sn 24/\(1<=ls.length/\ls.length<=6)/\(ls.map (·.n)).Nodup/\(∀sh:List (Str×Nat),sh.map (·.1)=sn->∀l∈ls,LtOk sh l)/\(sd=false->((ls.map (·.fs)).flatten).Nodup)∧
  b6 ct F (k+2) 204 [.ref s,.bl sd] h=.ok (.tup [.ref b,.ref L]) h'/\Pf h h'/\h'[b]? =some (.lst (sn.map .str))/\h'[L]? =some (.lst (ls.map ltD)):=by
 obtain⟨z0,c0⟩:=a0w (ct:=ct) (k:=k) (j:=0) (h:=h) f201 hs
 have c0':b6 ct F (k+1) 201 [.ref s,.int 0] h=.ok (.int z0) h:=c0
 obtain⟨M,hM⟩:=J4 (ct:=ct) (k:=k) (c:=z0) (j:=3) (h:=h) f202 (by decide)
 have d7:M6 h (.int (M:Int)) (.int 7)=.ok (.int ((M/7:Nat):Int)) h:=a2w 7 (by decide) (by decide)
 have m6:F8 h (.int (M:Int)) (.int 6)=.ok (.int ((M%6:Nat):Int)) h:=P6 6 (by decide)
 have a1:(1:Int)+((M%6:Nat):Int)=((1+M%6:Nat):Int):=by omega
 have l6:M%6<6:=Nat.mod_lt _ (by decide)
 obtain⟨ns,nk,hN⟩:=a4L (ct:=ct) (k:=k) (c:=M/7) (m:=1+M%6) (h:=h) f203 (by omega)
 generalize hm:1+M%6=m at nk hN a1;have hs1:=b7 (g:=[.lst (ns.map .str)]) hs
 have gA:(h++[Cell.lst (ns.map D.str)])[h.length]? =some (.lst (ns.map .str)):=b8
 have P1:Pf h (h++[Cell.lst (ns.map D.str)]):=(Pf.refl h).app _
 have lA:(h++[Cell.lst (ns.map D.str)]).length=h.length+1:=by simp
 rw[m8 hF rfl];simp only[A5];rw[gc0]
 show∃(sn:List Str) (ls:List Lt) (b L:Nat) (h':AH),_/\_/\_/\_/\_/\J9 (exs ct (b6 ct F (k+1)) _ [some (.ref s),some (.bl sd),none,none,none,none,none,none,none,none,none,none,none] h)=_/\_
 rw[seq (env':=[some (.ref s),some (.bl sd),some (.int (M:Int)),none,none,none,none,none,none,none,none,none,none]) (h':=h) (by simp_arith[c0',hM])]
 rw[seq (env':=[some (.ref s),some (.bl sd),some (.int (M:Int)),some (.ref h.length),none,none,none,none,none,none,none,none,none]) (h':=h++[.lst (ns.map .str)]) (by simp_arith[op2,d7,m6,L7,a1,hN])]
 generalize hx1:h++[Cell.lst (ns.map D.str)]=h1 at*
 obtain⟨z1,c1⟩:=a0w (ct:=ct) (k:=k) (j:=1) (h:=h1) f201 hs1
 have c1':b6 ct F (k+1) 201 [.ref s,.int 1] h1=.ok (.int z1) h1:=c1
 obtain⟨M2,hM2⟩:=J4 (ct:=ct) (k:=k) (c:=z1) (j:=4) (h:=h1) f202 (by decide)
 obtain⟨sn,sk,hS⟩:=a4L (ct:=ct) (k:=k) (c:=M2) (m:=24) (h:=h1) f203 (by decide)
 have hS':b6 ct F (k+1) 203 [.int (M2:Int),.int 24] h1=.ok (.ref h1.length) (h1++[.lst (sn.map .str)]):=hS
 have hs2:=b7 (g:=[.lst (sn.map .str)]) hs1;have gA2:=b7 (g:=[.lst (sn.map .str)]) gA
 have gB:(h1++[Cell.lst (sn.map D.str)])[h1.length]? =some (.lst (sn.map .str)):=b8
 have P2:=P1.app [Cell.lst (sn.map D.str)]
 have lB:(h1++[Cell.lst (sn.map D.str)]).length=h1.length+1:=by simp
 rw[seq (env':=[some (.ref s),some (.bl sd),some (.int (M:Int)),some (.ref h.length),some (.ref h1.length),none,none,none,none,none,none,none,none]) (h':=h1++[.lst (sn.map .str)]) (by simp_arith[c1',hM2,hS'])]
 generalize hx2:h1++[Cell.lst (sn.map D.str)]=h2 at*
 rw[seq (env':=[some (.ref s),some (.bl sd),some (.int (M:Int)),some (.ref h.length),some (.ref h1.length),some (.ref h2.length),none,none,none,none,none,none,none]) (h':=h2++[.lst []]) (by simp_arith[A4])]
 obtain⟨os,y6,env',op,rfl,fo⟩:=a9p (ct:=ct) (F:=F) (k:=k) (a:=h.length) (M:=M) (v1:=.bl sd) f201 f202 hs2 gB sk.len;have r24:=Y2 (h:=h2++[.lst []]) (m:=24) (by decide)
 have r24':a5C (h2++[.lst []]) (.int 0) (.int 24)=.ok ((List.range 24).map fun i=>.int ((0:Int)+(i:Nat)),[]) (h2++[.lst []]):=r24
 rw[seq (env':=[some (.ref s),some (.bl sd),some (.int (M:Int)),some (.ref h.length),some (.ref h1.length),some (.ref h2.length),y6,none,none,none,none,none,none]) (h':=h2++[.lst (os.map .str)]) (by simp_arith[r24',fo])]
 have hs3:=b7 (g:=[.lst (os.map .str)]) hs2;have gA3:=b7 (g:=[.lst (os.map .str)]) gA2;have gB3:=b7 (g:=[.lst (os.map .str)]) gB
 have gO:(h2++[Cell.lst (os.map D.str)])[h2.length]? =some (.lst (os.map .str)):=b8
 have P3:=P2.app [Cell.lst (os.map D.str)]
 have lO:(h2++[Cell.lst (os.map D.str)]).length=h2.length+1:=by simp
 generalize hx3:h2++[Cell.lst (os.map D.str)]=h3 at*
 rw[seq (env':=[some (.ref s),some (.bl sd),some (.int (M:Int)),some (.ref h.length),some (.ref h1.length),some (.ref h2.length),y6,some (.ref h3.length),none,none,none,none,none]) (h':=h3++[.lst []]) (by simp_arith[A4])]
 rw[seq (env':=[some (.ref s),some (.bl sd),some (.int (M:Int)),some (.ref h.length),some (.ref h1.length),some (.ref h2.length),y6,some (.ref h3.length),some (.int ((0:Nat):Int)),none,none,none,none]) (h':=h3++[.lst []]) (by simp_arith[];rfl)]
 have hs4:=b7 (g:=[.lst []]) hs3;have gA4:=b7 (g:=[.lst []]) gA3;have gB4:=b7 (g:=[.lst []]) gB3;have gO4:=b7 (g:=[.lst []]) gO
 have gL:(h3++[Cell.lst []])[h3.length]? =some (.lst []):=b8
 have P4:=P3.app [Cell.lst []];generalize h3++[Cell.lst []]=h4 at*
 have len:biD .len h4 [.ref h.length]=.ok (.int (m:Int)) h4:=by rw[x6 gA4,aa,nk.len]
 have o24:os.length=24:=op.length_eq.trans sk.len
 obtain⟨env',g',e1,ls,t,y6',y9,y10,y11,y12,rfl,q1,q2,q3,q4,q5,q6,q7,q8,q9,q10⟩:=N0 (g:=[]) (p:=.nm 6) (body:=exs ct (b6 ct F (k+1)) owB) (fun j env hh=>∃(ls:List Lt) (t:Nat) (y6 y9 y10 y11 y12:Option D),env=[some (.ref s),some (.bl sd),some (.int (M:Int)),some (.ref h.length),some (.ref h1.length),some (.ref h2.length),y6,some (.ref h3.length),some (.int (t:Int)),y9,y10,y11,y12]/\Pf h hh/\hh[s]? =some (.rol (zs.map .int))/\hh[h.length]? =some (.lst (ns.map .str))/\hh[h1.length]? =some (.lst (sn.map .str))/\hh[h2.length]? =some (.lst (os.map .str))/\hh[h3.length]? =some (.lst (ls.map ltD))/\ls.map (·.n)=ns.take j/\(∀sh:List (Str×Nat),sh.map (·.1)=sn->∀l∈ls,LtOk sh l)/\t<=4*j/\(sd=false->(ls.map (·.fs)).flatten=os.take t)) (fun _ _ _ _=>rfl) ((List.range m).map fun i=>.int ((0:Int)+(i:Nat))) 0 [some (.ref s),some (.bl sd),some (.int (M:Int)),some (.ref h.length),some (.ref h1.length),some (.ref h2.length),y6,some (.ref h3.length),some (.int ((0:Nat):Int)),none,none,none,none] h4 (fun j x env hg hx hP=>by
  obtain⟨ls,t,y6,y9,y10,y11,y12,rfl,p1,p2,p3,p4,p5,p6,p7,p8,p9,p10⟩:=hP;obtain⟨hj,rfl⟩:=a3B hx;rw[aB] at p7 p9⊢
  have hj':j<ns.length:=by rw[nk.len];exact hj
  have ll:ls.length<=1000:=by
   have:=congrArg List.length p7
   rw[aa,aQ] at this;omega
  have n6:ns.length<=6:=by rw[nk.len];omega
  have turn:=fun(sh:List (Str×Nat)) (e:sh.map (·.1)=sn)=>a9n (ct:=ct) (sd:=sd) (F:=F) (k:=k) (b:=h1.length) (M:=M) (e9:=y9) (e10:=y10) (e11:=y11) (e12:=y12) (sh:=sh) f201 f202 p2 p3 p5 p6 hj' n6 p9 o24 (fun f hf=>by rw[e];exact op.mem_iff.mp hf) (nk.ok _ (bz hj')) ll p1 (by omega) (by omega) (by omega)
  obtain⟨l,m',x9,x10,x11,x12,g',t1,t2,t3,t4,t5,t6,t7,t8,t9,t10,t11⟩:=turn (sn.map fun x=>(x,0)) (by rw[aK];exact map_id' sn)
  refine⟨_,_,g',rfl,t5,ls++[l],t+m',_,_,_,_,_,rfl,t6,t7,t8,t11 _ _ (by omega) p4,t9,t10,?_,fun sh e y hy=>?_,by omega,?_⟩
  · rw[ao,p7,List.take_succ_eq_append_getElem hj',←t2];rfl
  · rcases aO.mp hy with hy|hy
    · exact p8 sh e y hy
    · rw[aW.mp hy]
      exact⟨t1.nm,t1.jn,t1.few,t1.wy,t1.js,t1.ws,fun f hf=>by
       have:=t1.fs f hf
       rw[aK] at this;rw[e];exact(map_id' sn)▸this⟩
  · intro e;rw[ao,List.flatten_append,p10 e,List.take_add,←t3 e]
    simp) ⟨[],0,_,_,_,_,_,rfl,P4,hs4,gA4,gB4,gO4,gL,rfl,(fun _ _ _ h=>nomatch h),ai _,fun _=>rfl⟩
 rw[aa,aM,aB,←nk.len,take_length] at q7
 have ln:ls.length=m:=by rw[←nk.len,←q7,aa]
 refine⟨sn,ls,h1.length,h3.length,g',sk,by omega,by rw[q7];exact nk.nd,q8,?_,?_,q1,q4,q6⟩
 · intro e;rw[q10 e];exact((op.symm.nodup_iff.mp sk.nd).sublist (List.take_sublist _ _))
 · rw[seq (env':=[some (.ref s),some (.bl sd),some (.int (M:Int)),some (.ref h.length),some (.ref h1.length),some (.ref h2.length),y6',some (.ref h3.length),some (.int (t:Int)),y9,y10,y11,y12]) (h':=g') (by simp_arith[len,Y2 (h:=h4) (m:=m) (by omega),e1])]
   simp_arith[]
end
variable{sn:List Str}
section
variable{ct:CT}{F:Nat->Option Fn}
noncomputable def shW(sn:List Str):List (Str×Nat):=(List.range sn.length).map fun i=>(sn.getD i "",i*7%5)
def Z0(sn:List Str)(ls:List Lt):HL:=⟨shW sn,[],[],ls,[],[],[]⟩
theorem a0k(sn:List Str):(shW sn).map (·.1)=sn:=by
 unfold shW;rw[aK]
 apply ext_getElem?
 intro i;rw[aj]
 by_cases hi:i<sn.length
 · rw[aN hi,af hi]
   show some (sn.getD i "")=_
   rw[bC,af hi]
   rfl
 · rw[bg (by rw[aM];omega),bg (by omega)]
   rfl
theorem a3t(sn:List Str):(shW sn).length=sn.length:=by unfold shW;rw[aa,aM]
theorem b9d(sk:Nms sn 24)(h1:1<=ls.length/\ls.length<=6)(nd:(ls.map (·.n)).Nodup)(lo:∀l∈ls,LtOk (shW sn) l):HLok (Z0 sn ls) where
 sh :=⟨by rw[show(Z0 sn ls).sh=shW sn from rfl,a3t,sk.len];decide,by rw[show(Z0 sn ls).sh=shW sn from rfl,a3t,sk.len];decide,by rw[show(Z0 sn ls).sh=shW sn from rfl,a0k];exact sk.nd,fun p hp=>by
  refine⟨sk.ok p.1 ?_,?_⟩
  · have:p.1∈(shW sn).map (·.1):=ak.mpr ⟨p,hp,rfl⟩
    rw[a0k] at this;exact this
  · obtain⟨i,_,rfl⟩:=ak.mp (show p∈shW sn from hp)
    show i*7%5<99999
    omega⟩
 mr:=List.nil_sublist _
 mko:=fun _ h=>nomatch h
 pt:=nodup_nil
 ptl:=Nat.zero_le _
 pto:=fun _ h=>nomatch h
 ls:=h1
 lsn:=nd
 lso:=lo
 gp:=List.nil_sublist _
 cs:=⟨Nat.zero_le _,Nat.zero_le _⟩
 csn:=nodup_nil
 cso:=fun _ h=>nomatch h
 fe:=⟨Nat.zero_le _,Nat.zero_le _⟩
 fen:=⟨rfl,nodup_nil,fun _ h=>nomatch h⟩
theorem enL:∀{l:List D} {n:Nat},(z9 n l).length=l.length
 |[],_=>rfl
 |x::r,n=>by simp only[z9,length_cons,enL]
theorem a9t{n:Str}(hn:j0 n=true):ev ct c otE [some (.int (i:Int)),some (.str n)] h=.ok (.str (ln (C7 (n,i*7%5)))) h:=by
 have l1:=a9C hn;have l2:=a6w (i:=((i*7%5:Nat):Int)) (by omega)
 have m7:X1 h (.int (i:Int)) (.int 7)=.ok (.int ((i*7:Nat):Int)) h:=by rw[a0J (by decide)];congr 2
 have m5:F8 h (.int ((i*7:Nat):Int)) (.int 5)=.ok (.int ((i*7%5:Nat):Int)) h:=P6 5 (by decide)
 unfold otE;simp_arith[op2,W5 (h:=h) (x:="shape ") (y:=n) (by rw[a1O];omega),W5 (h:=h) (x:=("shape ":Str)++n) (y:=" ") (by rw[a1w,a1O,a3q];omega),m7,m5,b3B (i:=((i*7%5:Nat):Int)) (h:=h) (by omega),W5 (h:=h) (x:=("shape ":Str)++n++(" ":Str)) (y:=num ((i*7%5:Nat):Int)) (by rw[a1w,a1w,a1O,a3q];omega),b1b]
 rfl
theorem a7A(K:HLok (Z0 sn ls)){x:Lt}(hx:x∈ls):∃t,ev ct c (.mt .join (.k (.str " ")) (.cons otL .nil)) [some (.str x.n),some (.str x.j),some (.str x.w),some (.tup (x.fs.map .str))] h=.ok (.str (ln (G7 x))) (h++t):=by
 have r:=Y1 K hx;have l:=r.l;have A:=b2r (b2q (ct:=ct) (c:=c) (es:=(.cons (.k (.str "letter")) (.cons (.v 0) (.cons (.v 1) (.cons (.v 2) .nil))))) (env:=[some (.str x.n),some (.str x.j),some (.str x.w),some (.tup (x.fs.map .str))]) (h:=h) (xs:=["letter",x.n,x.j,x.w]) (by simp_arith[]) (by show 4<=1000;decide)) (fun t=>b0m (a:=.v 3) (xs:=x.fs) (by simp_arith[])) (by unfold G7 at l;simp only[length_cons,length_nil] at l⊢;omega)
 exact b2u (e:=otL) A r
theorem b1H{k a:Nat}(hF:F 205=some C0)(K:HLok (Z0 sn ls))(sk:Nms sn 24)(ha:h[a]? =some (.lst (sn.map .str)))(hb:h[b]? =some (.lst (ls.map ltD))):b6 ct F (k+2) 205 [.ref a,.ref b] h=.ok (.str (a4P (Z0 sn ls))) h:=by
 have lsl:ls.length<=6:=K.ls.2
 have hc:ev ct (b6 ct F (k+1)) otC [some (.ref a),some (.ref b),none] h=.ok (.ref h.length) (h++[.lst (((shW sn).map fun p=>ln (C7 p)).map .str)]):=by
  unfold otC
  rw[z5 (l:=z9 0 (sn.map .str)) (g:=[(a,.lst (sn.map .str))]) (h1:=h) (by simp_arith[X6,ha]) (by simp only[gOk,all_cons,all_nil,ha];simp) (fun d=>match d with
   |.tup [.int i,.str n]=>.str (ln (C7 (n,i.toNat*7%5)))
   |_=>.non) (fun d=>match d with
   |.tup [x,y]=>[some x,some y]
   |_=>[]) (fun d hx=>by
   obtain⟨j,hj⟩:=bo hx
   obtain⟨y,hy,rfl⟩:=N6 hj;rw[aj] at hy
   obtain⟨z,hz,rfl⟩:=Option.map_eq_some_iff.mp hy;refine⟨rfl,?_⟩
   simp only[Int.toNat_natCast];exact a9t (sk.ok z (aI hz))) (by rw[enL,aa,sk.len];decide)]
  congr 3;refine congrArg Cell.lst ?_
  apply ext_getElem?
  intro i;unfold shW;rw[aj,aj,aj,aj]
  by_cases hi:i<sn.length
  · have e:(z9 0 (sn.map .str))[i]? =some (.tup [.int ((0+i:Nat):Int),.str sn[i]]):=by
     have hi':i<(z9 0 (sn.map D.str)).length:=by rw[enL,aa];exact hi
     obtain⟨y,hy,e⟩:=N6 (af hi')
     rw[aj,af hi] at hy
     cases hy;rw[af hi',e]
    rw[e,aN hi]
    show some (D.str (ln (C7 (sn[i],(((0+i:Nat):Int)).toNat*7%5))))=some (D.str (ln (C7 (sn.getD i "",i*7%5))))
    rw[Int.toNat_natCast,aB,bC,af hi]
    rfl
  · rw[bg (by rw[enL,aa];omega),bg (by rw[aM];omega)]
    rfl
 rw[m8 hF rfl];simp only[C0]
 show gcR 1 h (J9 (exs ct (b6 ct F (k+1)) _ [some (.ref a),some (.ref b),none] h))=_
 rw[seq (env':=[some (.ref a),some (.ref b),some (.ref h.length)]) (h':=h++[.lst (((shW sn).map fun p=>ln (C7 p)).map .str)]) (by simp_arith[hc])]
 have g0:(h++[Cell.lst (((shW sn).map fun p=>ln (C7 p)).map D.str)])[h.length]? =some (.lst (((shW sn).map fun p=>ln (C7 p)).map .str)):=b8
 have hb1:=b7 (g:=[Cell.lst (((shW sn).map fun p=>ln (C7 p)).map .str)]) hb
 have P:Pf h (h++[Cell.lst (((shW sn).map fun p=>ln (C7 p)).map .str)]):=(Pf.refl h).app _
 generalize h++[Cell.lst (((shW sn).map fun p=>ln (C7 p)).map D.str)]=h1 at g0 hb1 P
 have B:=b0n (ct:=ct) (c:=b6 ct F (k+1)) (p:=(.tp (.cons (.nm 0) (.cons (.nm 1) (.cons (.nm 2) (.cons (.nm 3) .nil)))))) (nb:=4) (fr:=[]) (env:=[some (.ref a),some (.ref b),some (.ref h.length)]) (e:=(.mt .join (.k (.str " ")) (.cons otL .nil))) (a:=.v 1) (l:=ls) ltD (fun m=>ln (G7 m)) (fun x=>[some (.str x.n),some (.str x.j),some (.str x.w),some (.tup (x.fs.map .str))]) (by simp_arith[]) hb1 (by omega) (fun x hx=>⟨rfl,fun h=>a7A K hx⟩)
 have C:=b0o (ct:=ct) (i:=2) (b:=otD) (env:=[some (.ref a),some (.ref b),some (.ref h.length)]) rfl g0 B (by simp only[aa];rw[a3t,sk.len];omega)
 have e:(J2 (Z0 sn ls)).map ln=((shW sn).map fun p=>ln (C7 p))++ls.map fun p=>ln (G7 p):=by
  unfold J2 Z0;simp only[ao,aK,map_nil,bn];rfl
 rw[←e] at C;obtain⟨n,u,c1,c2,c3⟩:=C;rw[seq (env':=[some (.ref a),some (.ref b),some (.ref n)]) (h':=h1++u) (by simp_arith[c1])]
 have V:EvL ct (b6 ct F (k+1)) (.v 2) [some (.ref a),some (.ref b),some (.ref n)] (h1++u) ((J2 (Z0 sn ls)).map ln):=⟨n,[],by rw[bn];simp_arith[],by rw[bn];exact c2,.inr rfl⟩
 obtain⟨t,z⟩:=a4V V (b3t K);rw[J6,a5X,z,i6,i6]
 show gcR 1 h (.ok (.str (a4P (Z0 sn ls))) (h1++u++t))=_
 exact b7o ((P.app u).app t) rfl
end
section
variable{ct:CT}{F:Nat->Option Fn}
theorem b4A{l:Lt}:ixD h (ltD l) (.int 0)=.ok (.str l.n) h:=ix_tup (i:=0) rfl
theorem b7c{l:Lt}:ixD h (ltD l) (.int 3)=.ok (.tup (l.fs.map .str)) h:=ix_tup (i:=3) rfl
theorem a3p{a:Nat}{xs:List Str}(h1:h[a]? =some (.lst (xs.map .str)))(hi:i<xs.length):ixD h (.ref a) (.int (i:Int))=.ok (.str (xs.getD i "")) h:=B4 h1 (by
 rw[aj,af hi,bC,af hi];rfl)
theorem a8z{a:Nat}{xs:List Str}(h1:h[a]? =some (.lst (xs.map .str)))(hi:i<xs.length):S4 h (.ref a) (.int (i:Int)) (.str y)=.ok () (h.set a (.lst ((xs.set i y).map .str))):=by
 have e:ixN (xs.map D.str).length (i:Int)=some i:=by
  rw[aa];unfold ixN;simp only[Int.toNat_natCast]
  repeat' split
  all_goals first|rfl|omega
 simp only[S4,h1,e,List.map_set]
theorem a9o{a:Nat}(hL:h[L]? =some (.lst (ls.map ltD)))(hr:h[r]? =some (.lst (row.map .str)))(ha:a<row.length)(hl:ls.length<=1000)(e1:env[1]? =some (some (.ref L)))(e2:env[2]? =some (some (.ref r)))(e8:env[8]? =some (some (.int (a:Int)))):
 ev ct c spC env h=.ok (.ref h.length) (h++[.lst ((ls.filter fun l=>decide (l.n=row.getD a "")).map fun l=>.tup (l.fs.map .str))]):=by
 unfold spC
 have eq:∀(x y:Str) g,op2 .eq g (.str x) (.str y)=.ok (.bl (decide (x=y))) g:=fun _ _ _=>rfl
 rw[D3 (l:=ls.map ltD) (g:=[(L,.lst (ls.map ltD))]) (h1:=h) (by simp_arith[e1,S5,hL]) (by simp only[gOk,all_cons,all_nil,hL];simp) (fun d=>match d with
  |.tup (.str x::_)=>decide (x=row.getD a "")
  |_=>false) (fun d=>match d with
  |.tup [_,_,_,z]=>z
  |_=>.non) (fun d=>[some d,some (.int (a:Int)),some (.ref r)]) (fun d hd=>by
   obtain⟨l,_,rfl⟩:=ak.mp hd;refine⟨by simp only[u6,map_cons,map_nil,e8,e2];rfl,?_,fun _=>?_⟩
   · simp_arith[b4A,a3p hr ha,eq];rfl
   · simp_arith[b7c]
     rfl) (by rw[aa];show _<=16777216;omega)]
 rw[filter_map,aK];rfl
theorem a4A{k q:Nat}{made:List Str}{v7 v8 v9 v10:Option D}(f202:F 202=some l9)(hb:h[b]? =some (.lst (sn.map .str)))(hL:h[L]? =some (.lst (ls.map ltD)))(hr:h[r]? =some (.lst (row.map .str)))(hq:h[q]? =some (.lst (made.map .str)))
 (lb:1<=sn.length) (hin:∀x∈row,x∈ls.map (·.n)) (ho:∀l∈ls,LtOk sh l) (lm:made.length=row.length) (l0:1<=row.length) (ll:ls.length<=1000) (hj:j<=1000):
 ∃(made':List Str) (w7 w8 w9 w10:Option D) (t:AH),made'.length=row.length/\exs ct (b6 ct F (k+1)) spB [some (.ref b),some (.ref L),some (.ref r),some (.ref f),some (.int (M:Int)),some (.ref q),some (.int (j:Int)),v7,v8,v9,v10] h=.ok (.nx [some (.ref b),some (.ref L),some (.ref r),some (.ref f),some (.int (M:Int)),some (.ref q),some (.int (j:Int)),w7,w8,w9,w10]) ((h++t).set q (.lst (made'.map .str))):=by
 obtain⟨N,hN⟩:=J4 (ct:=ct) (k:=k) (c:=(M:Int)) (j:=(j:Int)) (h:=h) f202 (by omega)
 have lq:biD .len h [.ref q]=.ok (.int (row.length:Int)) h:=by rw[x6 hq,aa,lm]
 have mq:op2 .mod h (.int (N:Int)) (.int (row.length:Int))=.ok (.int ((N%row.length:Nat):Int)) h:=P6 row.length l0
 have al:N%row.length<row.length:=Nat.mod_lt _ l0
 generalize N%row.length=a at mq al;have oc:=fun(env:o6) e1 e2 e8=>a9o (ct:=ct) (c:=b6 ct F (k+1)) (env:=env) hL hr al ll e1 e2 e8
 have mem:row.getD a ""∈row:=by
  rw[bC,af al]
  exact bz al
 obtain⟨lt,hlt,en⟩:=ak.mp (hin _ mem)
 have hlf:lt∈ls.filter fun l=>decide (l.n=row.getD a ""):=bt.mpr ⟨hlt,bp en⟩
 have sub:∀l∈ls.filter fun l=>decide (l.n=row.getD a ""),l∈ls:=fun l hl=>(bt.mp hl).1
 generalize ls.filter (fun l=>decide (l.n=row.getD a ""))=fl at oc hlf sub
 cases fl with
 |nil=>exact nomatch hlf
 | cons l1 fr=>
  have o1:=ho l1 (sub l1 (.head _))
  have gC:(h++[Cell.lst ((l1::fr).map fun l=>D.tup (l.fs.map .str))])[h.length]? =some (.lst ((l1::fr).map fun l=>D.tup (l.fs.map .str))):=b8
  have ix0:=z8 0 0 rfl gC (d:=.tup (l1.fs.map .str)) rfl;have hb1:=b7 (g:=[Cell.lst ((l1::fr).map fun l=>D.tup (l.fs.map .str))]) hb
  have hq1:=b7 (g:=[Cell.lst ((l1::fr).map fun l=>D.tup (l.fs.map .str))]) hq
  generalize hcl:(l1::fr).map (fun l=>D.tup (l.fs.map .str))=cl at oc gC ix0 hb1 hq1
  generalize hh1:h++[Cell.lst cl]=h1 at oc gC ix0 hb1 hq1
  have d64:op2 .div h1 (.int (N:Int)) (.int 64)=.ok (.int ((N/64:Nat):Int)) h1:=a2w 64 (by decide) (by decide)
  have lb1:biD .len h1 [.ref b]=.ok (.int (sn.length:Int)) h1:=by rw[x6 hb1,aa]
  have mb:op2 .mod h1 (.int ((N/64:Nat):Int)) (.int (sn.length:Int))=.ok (.int ((N/64%sn.length:Nat):Int)) h1:=P6 sn.length lb
  have ib:=a3p hb1 (Nat.mod_lt (N/64) lb)
  have lo1:biD .len h1 [.tup (l1.fs.map .str)]=.ok (.int (l1.fs.length:Int)) h1:=by
   show R.ok (D.int ((l1.fs.map D.str).length:Int)) h1=_
   rw[aa]
  have mo:op2 .mod h1 (.int ((N/64:Nat):Int)) (.int (l1.fs.length:Int))=.ok (.int ((N/64%l1.fs.length:Nat):Int)) h1:=P6 l1.fs.length (by have:=o1.few;omega)
  have io:ixD h1 (.tup (l1.fs.map .str)) (.int ((N/64%l1.fs.length:Nat):Int))=.ok (.str (l1.fs.getD (N/64%l1.fs.length) "")) h1:=a2c (Nat.mod_lt _ (by have:=o1.few;omega))
  generalize sn.getD (N/64%sn.length) ""=y1 at ib;generalize l1.fs.getD (N/64%l1.fs.length) ""=y2 at io
  have gS:(h1++[Cell.lst [D.str y1,D.str y2,D.str y2,D.str "Q",D.str ""]])[h1.length]? =some (.lst ([y1,y2,y2,"Q",""].map .str)):=b8
  have hq2:=b7 (g:=[Cell.lst [D.str y1,D.str y2,D.str y2,D.str "Q",D.str ""]]) hq1
  have m5:N/4096%5<[y1,y2,y2,("Q":Str),""].length:=Nat.mod_lt _ (by decide)
  have iS:=a3p gS m5;generalize [y1,y2,y2,("Q":Str),""].getD (N/4096%5) ""=y at iS;generalize hh2:h1++[Cell.lst [D.str y1,D.str y2,D.str y2,D.str "Q",D.str ""]]=h2 at gS hq2 iS
  have d4:op2 .div h2 (.int (N:Int)) (.int 4096)=.ok (.int ((N/4096:Nat):Int)) h2:=a2w 4096 (by decide) (by decide)
  have m4:op2 .mod h2 (.int ((N/4096:Nat):Int)) (.int 5)=.ok (.int ((N/4096%5:Nat):Int)) h2:=P6 5 (by decide)
  have sx:=a8z (y:=y) hq2 (show a<made.length by omega)
  refine⟨made.set a y,some (.int (N:Int)),some (.int (a:Int)),some (.tup (l1.fs.map .str)),some (.ref h1.length),[Cell.lst cl]++[Cell.lst [D.str y1,D.str y2,D.str y2,D.str "Q",D.str ""]],by rw[aU];exact lm,?_⟩
  rw[←aA,hh1,hh2];unfold spB;rw[seq (env':=[some (.ref b),some (.ref L),some (.ref r),some (.ref f),some (.int (M:Int)),some (.ref q),some (.int (j:Int)),some (.int (N:Int)),v8,v9,v10]) (h':=h) (by simp_arith[hN])]
  rw[seq (env':=[some (.ref b),some (.ref L),some (.ref r),some (.ref f),some (.int (M:Int)),some (.ref q),some (.int (j:Int)),some (.int (N:Int)),some (.int (a:Int)),v9,v10]) (h':=h) (by simp_arith[lq,mq])]
  rw[seq (env':=[some (.ref b),some (.ref L),some (.ref r),some (.ref f),some (.int (M:Int)),some (.ref q),some (.int (j:Int)),some (.int (N:Int)),some (.int (a:Int)),some (.tup (l1.fs.map .str)),v10]) (h':=h1) (by
   rw[Q9,b3g,oc _ rfl rfl rfl];simp_arith[ix0])]
  rw[seq (env':=[some (.ref b),some (.ref L),some (.ref r),some (.ref f),some (.int (M:Int)),some (.ref q),some (.int (j:Int)),some (.int (N:Int)),some (.int (a:Int)),some (.tup (l1.fs.map .str)),some (.ref h1.length)]) (h':=h2) (by
   unfold spL;simp_arith[d64,lb1,mb,ib,lo1,mo,io,A4,hh2])]
  simp_arith[d4,m4,iS,sx]
theorem a7n{k:Nat}{fs:List Str}(f202:F 202=some l9)(hF:F 206=some C2)(hb:h[b]? =some (.lst (sn.map .str)))(hL:h[L]? =some (.lst (ls.map ltD)))(hr:h[r]? =some (.lst (row.map .str)))(hf:h[f]? =some (.lst (fs.map .str)))
 (lb:1<=sn.length) (hin:∀x∈row,x∈ls.map (·.n)) (ho:∀l∈ls,LtOk sh l) (lf:fs.length=row.length) (l0:1<=row.length) (ll:ls.length<=1000):
 ∃made:List Str,made.length=row.length/\b6 ct F (k+2) 206 [.ref b,.ref L,.ref r,.ref f,.int (M:Int)] h=.ok (.ref h.length) (h++[.lst (made.map .str)]):=by
 have lk:=a3M hf
 have g0:(h++[Cell.lst (fs.map D.str)])[h.length]? =some (.lst (fs.map .str)):=b8
 have m4:op2 .mod (h++[Cell.lst (fs.map D.str)]) (.int (M:Int)) (.int 4)=.ok (.int ((M%4:Nat):Int)) (h++[Cell.lst (fs.map D.str)]):=P6 4 (by decide)
 have P0:Pf h (h++[Cell.lst (fs.map D.str)]):=(Pf.refl h).app _
 have rg:=Y2 (h:=h++[Cell.lst (fs.map D.str)]) (m:=M%4) (by omega)
 obtain⟨env',g',e1,made,w6,w7,w8,w9,w10,rfl,lm,P,gm⟩:=N0 (g:=[]) (p:=.nm 6) (body:=exs ct (b6 ct F (k+1)) spB) (fun j env g=>∃(made:List Str) (w6 w7 w8 w9 w10:Option D),env=[some (.ref b),some (.ref L),some (.ref r),some (.ref f),some (.int (M:Int)),some (.ref h.length),w6,w7,w8,w9,w10]/\made.length=row.length/\Pf h g/\g[h.length]? =some (.lst (made.map .str))) (fun _ _ _ _=>rfl) ((List.range (M%4)).map fun i=>.int ((0:Int)+(i:Nat))) 0 [some (.ref b),some (.ref L),some (.ref r),some (.ref f),some (.int (M:Int)),some (.ref h.length),none,none,none,none,none] (h++[Cell.lst (fs.map D.str)]) (fun j x env g hx hP=>by
  obtain⟨made,w6,w7,w8,w9,w10,rfl,lm,P,gm⟩:=hP;obtain⟨hj,rfl⟩:=a3B hx;obtain⟨made',u7,u8,u9,u10,t,lm',st⟩:=a4A (ct:=ct) (F:=F) (k:=k) (f:=f) (M:=M) (j:=j) (v7:=w7) (v8:=w8) (v9:=w9) (v10:=w10) f202 (P.at hb) (P.at hL) (P.at hr) gm lb hin ho lm l0 ll (by omega)
  refine⟨_,_,_,rfl,st,made',_,_,_,_,_,rfl,lm',(P.app t).set (ai _),?_⟩
  exact List.getElem?_set_self (by rw[aq];have:=(ac.mp gm).1;omega)) ⟨fs,none,none,none,none,none,rfl,lf,P0,g0⟩
 refine⟨made,lm,?_⟩
 rw[m8 hF rfl];simp only[C2]
 show gcR 2 h (J9 (exs ct (b6 ct F (k+1)) _ [some (.ref b),some (.ref L),some (.ref r),some (.ref f),some (.int (M:Int)),none,none,none,none,none,none] h))=_
 rw[seq (env':=[some (.ref b),some (.ref L),some (.ref r),some (.ref f),some (.int (M:Int)),some (.ref h.length),none,none,none,none,none]) (h':=h++[Cell.lst (fs.map D.str)]) (by simp_arith[lk])]
 rw[seq (env':=[some (.ref b),some (.ref L),some (.ref r),some (.ref f),some (.int (M:Int)),some (.ref h.length),w6,w7,w8,w9,w10]) (h':=g') (by simp_arith[m4,rg,e1])]
 simp_arith[];exact b4X P gm (ai _) (E6 _)
end
section
variable{ct:CT}{F:Nat->Option Fn}
theorem b2D(hL:h[L]? =some (.lst (ls.map ltD)))(hl:ls.length<=1000)(e0:env[0]? =some (some (.ref L)))(e4:env[4]? =some (some (.str x))):
 ev ct c duC env h=.ok (.ref h.length) (h++[.lst ((ls.filter (a0n x)).map fun l=>.str l.n)]):=by
 unfold duC
 rw [D3 (l:=ls.map ltD) (g:=[(L,.lst (ls.map ltD))]) (h1:=h) (by simp_arith[e0,S5,hL]) (by simp only[gOk,all_cons,all_nil,hL];simp) (fun d=>match d with
  |.tup [_,_,_,.tup fs]=>inD (.str x) fs
  |_=>false) (fun d=>match d with
  |.tup (y::_)=>y
  | _=>.non) (fun d=>[some d,some (.str x)]) (fun d hd=>by
   obtain⟨l,_,rfl⟩:=ak.mp hd
   have oi:∀g,op2 .isin g (.str x) (.tup (l.fs.map .str))=.ok (.bl (inD (.str x) (l.fs.map .str))) g:=fun g=>by
    simp only[op2,M3,a2n];rw[ay (show(y7 (.str x)&&true)=true from rfl)];simp
   refine⟨by simp only[u6,map_cons,map_nil,e4];rfl,?_,fun _=>?_⟩
   · simp_arith[b7c,oi];rfl
   · simp_arith[b4A]
     rfl) (by rw[aa];show _<=16777216;omega)]
 rw[filter_map,aK]
 have:(ls.filter ((fun d=>match d with
  |.tup [_,_,_,.tup fs]=>inD (.str x) fs
  |_=>false)∘ltD))=ls.filter (a0n x):=by
  refine List.filter_congr fun l _=>?_
  show inD (.str x) (l.fs.map .str)=a0n x l
  exact inS
 rw[this];rfl
theorem b0v{d:Nat}{made:List Str}(hL:h[L]? =some (.lst (ls.map ltD)))(hr:h[r]? =some (.lst (made.map .str)))(ll:ls.length<=1000):
 ∀(l acc:List Str) (g:AH) (w4 w5:Option D),Pf h g->g[h.length]? =some (.lst (acc.map .str))->acc.length+l.length<=1000→
  (∀row,W7 ls l=some row->∃w4' w5' g',M5 [(r,.lst (made.map .str))] (.nm 4) (exs ct c duB) (l.map .str) [some (.ref L),some (.ref d),some (.ref r),some (.ref h.length),w4,w5] g=.ok (.nx [some (.ref L),some (.ref d),some (.ref r),some (.ref h.length),w4',w5']) g'/\Pf h g'/\g'[h.length]? =some (.lst ((acc++row).map .str)))∧
  (W7 ls l=none->∃g',M5 [(r,.lst (made.map .str))] (.nm 4) (exs ct c duB) (l.map .str) [some (.ref L),some (.ref d),some (.ref r),some (.ref h.length),w4,w5] g=.ok (.rt .non) g'/\Pf h g'):=by
 intro l
 induction l with
 |nil=>
  intro acc g w4 w5 P gq _
  have hg:gOk [(r,.lst (made.map .str))] g=true:=by simp only[gOk,all_cons,all_nil,P.at hr];simp
  refine⟨fun row e=>?_,fun e=>by cases e⟩
  cases e;refine⟨w4,w5,g,by rw[map_nil,M5,ay hg],P,by rw[bn];exact gq⟩
 | cons x t ih=>
  intro acc g w4 w5 P gq ha;rw[length_cons] at ha
  have hg:gOk [(r,.lst (made.map .str))] g=true:=by simp only[gOk,all_cons,all_nil,P.at hr];simp
  have hc:=b2D (ct:=ct) (c:=c) (x:=x) (env:=[some (.ref L),some (.ref d),some (.ref r),some (.ref h.length),some (.str x),w5]) (P.at hL) ll rfl rfl
  have go:∀{rr},(exs ct c duB [some (.ref L),some (.ref d),some (.ref r),some (.ref h.length),some (.str x),w5] g).bind (fun o h'=>match o with
   |.nx env''=>M5 [(r,.lst (made.map .str))] (.nm 4) (exs ct c duB) (t.map .str) env'' h'
   |.rt d=>.ok (.rt d) h')=rr->M5 [(r,.lst (made.map .str))] (.nm 4) (exs ct c duB) ((x::t).map .str) [some (.ref L),some (.ref d),some (.ref r),some (.ref h.length),w4,w5] g=rr:=fun{rr} e=>by
   rw[←e,map_cons,M5,ay hg];rfl
  cases e:a5I ls x with
  | none=>
   have n1:=a9s e;generalize ls.filter (a0n x)=os at hc n1
   have g0:(g++[Cell.lst (os.map fun l=>D.str l.n)])[g.length]? =some (.lst (os.map fun l=>D.str l.n)):=b8
   have ln1:biD .len (g++[Cell.lst (os.map fun l=>D.str l.n)]) [.ref g.length]=.ok (.int (os.length:Int)) (g++[Cell.lst (os.map fun l=>D.str l.n)]):=by rw[x6 g0,aa]
   have ne1:∀g,op2 .ne g (.int (os.length:Int)) (.int 1)=.ok (.bl true) g:=fun g=>by
    show R.ok (D.bl (!decide ((os.length:Int)=1))) g=_
    rw[bE (by omega)]
    rfl
   refine⟨fun row q=>?_,fun _=>⟨g++[Cell.lst (os.map fun l=>D.str l.n)],go ?_,P.app _⟩⟩
   · unfold W7 at q;rw[e] at q;cases q
   · unfold duB;rw[seq (env':=[some (.ref L),some (.ref d),some (.ref r),some (.ref h.length),some (.str x),some (.ref g.length)]) (h':=g++[Cell.lst (os.map fun l=>D.str l.n)]) (by rw[Q9,hc];rfl)]
     simp_arith[ln1,ne1]
  | some nm=>
   obtain⟨_,l0,h0,rfl⟩:=a5H e;rw[h0,map_cons,map_nil] at hc
   have g0:(g++[Cell.lst [D.str l0.n]])[g.length]? =some (.lst [D.str l0.n]):=b8
   have ln1:biD .len (g++[Cell.lst [D.str l0.n]]) [.ref g.length]=.ok (.int 1) (g++[Cell.lst [D.str l0.n]]):=x6 g0
   have ne1:∀g,op2 .ne g (.int 1) (.int 1)=.ok (.bl false) g:=fun g=>rfl
   have ix0:=z8 0 0 rfl g0 (d:=.str l0.n) rfl;have gq1:=b7 (g:=[Cell.lst [D.str l0.n]]) gq;have ap:=a4m (d:=.str l0.n) gq1 (by rw[aa];omega)
   have mt:=a1u gq1
   have P1:Pf h ((g++[Cell.lst [D.str l0.n]]).set h.length (.lst (acc.map .str++[.str l0.n]))):=(P.app _).set (ai _)
   have gq2:((g++[Cell.lst [D.str l0.n]]).set h.length (.lst (acc.map .str++[.str l0.n])))[h.length]? =some (.lst ((acc++[l0.n]).map .str)):=by
    rw[List.getElem?_set_self (ac.mp gq1).1,ao]
    rfl
   have bd:exs ct c duB [some (.ref L),some (.ref d),some (.ref r),some (.ref h.length),some (.str x),w5] g=.ok (.nx [some (.ref L),some (.ref d),some (.ref r),some (.ref h.length),some (.str x),some (.ref g.length)]) ((g++[Cell.lst [D.str l0.n]]).set h.length (.lst (acc.map .str++[.str l0.n]))):=by
    unfold duB;rw[seq (env':=[some (.ref L),some (.ref d),some (.ref r),some (.ref h.length),some (.str x),some (.ref g.length)]) (h':=g++[Cell.lst [D.str l0.n]]) (by rw[Q9,hc];rfl)]
    simp_arith[ln1,ne1,mt,ix0,ap]
   obtain⟨i1,i2⟩:=ih (acc++[l0.n]) _ (some (.str x)) (some (.ref g.length)) P1 gq2 (by rw[aq];simp only[length_cons,length_nil];omega)
   refine⟨fun row q=>?_,fun q=>?_⟩
   · unfold W7 at q;rw[e] at q;obtain⟨row',h1,rfl⟩:=Option.map_eq_some_iff.mp q;obtain⟨w4',w5',g',a1,a2,a3⟩:=i1 row' h1;refine⟨w4',w5',g',go ?_,a2,by rw[a3,aA];rfl⟩
     rw[bd];exact a1
   · unfold W7 at q;rw[e] at q;obtain⟨g',a1,a2⟩:=i2 (Option.map_eq_none_iff.mp q);refine⟨g',go ?_,a2⟩
     rw[bd];exact a1
theorem a4T{k a q d:Nat}(f216:F 216=some y8)(f217:F 217=some B1)(hd:g[d]? =some (.dict (lwL ls)))(gq:g[q]? =some (.lst (row.map .str)))(ho:∀l∈ls,LtOk sh l)(hin:∀x∈row,x∈ls.map (·.n))(hl:row.length<=63)(ea:env[a]? =some (some (.ref q)))(eb:env[b]? =some (some (.ref d))):
 ev ct (b6 ct F (k+2)) (.comp (.nm 0) (.rng1 (.bi .len (.cons (.v a) .nil))) 1 [a,b] .yes (.call 217 (.cons (.v 2) (.cons (.v 1) (.cons (.v 0) .nil))))) env g=.ok (.ref g.length) (g++[.lst ((n9 ls row).map .str)]):=by
 have lq:biD .len g [.ref q]=.ok (.int (row.length:Int)) g:=by rw[x6 gq,aa]
 rw[z5 (l:=(List.range row.length).map fun i=>D.int ((0:Int)+(i:Nat))) (g:=[]) (h1:=g) (by simp_arith[ea,lq,Y2 (h:=g) (m:=row.length) (by omega)]) rfl (fun x=>match x with
  |.int i=>.str (Z2 ls row i.toNat)
  |_=>.non) (fun x=>[some x,some (.ref q),some (.ref d)]) (fun x hx=>by
   obtain⟨i,hi,rfl⟩:=ak.mp hx;have fk:=b2m (ct:=ct) (F:=F) (k:=k) f216 f217 ho hd gq hin (aV.mp hi) hl;refine⟨by simp only[u6,map_cons,map_nil,ea,eb];rfl,?_⟩
   rw[Int.zero_add];simp_arith[fk,Int.toNat_natCast]) (by rw[aa,aM];show _<=16777216;omega)]
 unfold n9;rw[aK,aK];congr 3;refine congrArg Cell.lst (bh fun i _=>?_)
 show D.str (Z2 ls row ((0:Int)+(i:Nat)).toNat)=D.str (Z2 ls row i)
 rw[Int.zero_add,Int.toNat_natCast]
theorem a7J{k d:Nat}{made:List Str}(f216:F 216=some y8)(f217:F 217=some B1)(hF:F 208=some G5)(hL:h[L]? =some (.lst (ls.map ltD)))(hd:h[d]? =some (.dict (lwL ls)))(hr:h[r]? =some (.lst (made.map .str)))(ho:∀l∈ls,LtOk sh l)(ll:ls.length<=1000)(lm:made.length<=63):
 (∀row,W9 ls made=some row->∃(q:Nat) (h':AH),b6 ct F (k+3) 208 [.ref L,.ref d,.ref r] h=.ok (.ref q) h'/\Pf h h'/\h'[q]? =some (.lst (row.map .str)))/\(W9 ls made=none->∃h',b6 ct F (k+3) 208 [.ref L,.ref d,.ref r] h=.ok .non h'/\Pf h h'):=by
 have P0:Pf h (h++[Cell.lst []]):=(Pf.refl h).app _
 have g0:(h++[Cell.lst []])[h.length]? =some (.lst (([]:List Str).map .str)):=b8
 obtain⟨c1,c2⟩:=b0v (ct:=ct) (c:=b6 ct F (k+2)) (d:=d) hL hr ll made [] (h++[Cell.lst []]) none none P0 g0 (by rw[length_nil];omega)
 have sq:S5 (h++[Cell.lst []]) (.ref r)=.ok (made.map .str,[(r,.lst (made.map .str))]) (h++[Cell.lst []]):=by simp only[S5,P0.at hr]
 have st:∀{rr},J9 (exs ct (b6 ct F (k+2)) (.cons (.for (.nm 4) (.seq (.v 2)) duB) (.cons (.iff (.cmp .ne duF (.v 2)) (.cons (.ret (.k .non)) .nil) .nil) (.cons (.ret (.v 3)) .nil))) [some (.ref L),some (.ref d),some (.ref r),some (.ref h.length),none,none] (h++[.lst []]))=rr->b6 ct F (k+3) 208 [.ref L,.ref d,.ref r] h=rr:=fun e=>by
  rw[m8 hF rfl];simp only[G5];rw[gc0]
  show J9 (exs ct (b6 ct F (k+2)) _ [some (.ref L),some (.ref d),some (.ref r),none,none,none] h)=_
  rw[seq (env':=[some (.ref L),some (.ref d),some (.ref r),some (.ref h.length),none,none]) (h':=h++[.lst []]) (by simp_arith[A4])]
  exact e
 cases e:W7 ls made with
 |none=>
  refine⟨fun row q=>?_,fun _=>?_⟩
  · unfold W9 at q;rw[e] at q;cases q
  · obtain⟨g',a1,a2⟩:=c2 e;refine⟨g',st ?_,a2⟩
    simp_arith[sq,a1]
 |some row=>
  obtain⟨w4,w5,g',a1,P,gq⟩:=c1 row e;rw[nil_append] at gq;obtain⟨q1,hin⟩:=a3A e
  have hf:ev ct (b6 ct F (k+2)) duF [some (.ref L),some (.ref d),some (.ref r),some (.ref h.length),w4,w5] g'=.ok (.ref g'.length) (g'++[.lst ((n9 ls row).map .str)]):=a4T (ct:=ct) (F:=F) (k:=k) f216 f217 (P.at hd) gq ho hin (by omega) rfl rfl
  have ne:=a6x (b8 (h:=g') (c:=.lst ((n9 ls row).map .str))) (b7 (g:=[Cell.lst ((n9 ls row).map D.str)]) (P.at hr))
  by_cases e2:n9 ls row=made
  · rw[bp e2] at ne;refine⟨fun row' q=>?_,fun q=>?_⟩
    · unfold W9 at q;rw[e] at q;simp only[e2,if_true] at q;cases q;refine⟨h.length,g'++[.lst ((n9 ls row).map .str)],st ?_,P.app _,b7 gq⟩
      simp_arith[sq,a1,hf,ne,Bool.not_true]
    · unfold W9 at q;rw[e] at q;simp only[e2,if_true] at q;cases q
  · rw[bE e2] at ne;refine⟨fun row' q=>?_,fun _=>⟨g'++[.lst ((n9 ls row).map .str)],st ?_,P.app _⟩⟩
    · unfold W9 at q;rw[e] at q;simp only[e2,if_false] at q;cases q
    · simp_arith[sq,a1,hf,ne,Bool.not_false]
end
section
variable{ct:CT}{F:Nat->Option Fn}
theorem b2H(ns:List Int):∃zs:List Int,O0 (ns.map .int) (some 3) (some 43)=zs.map .int/\zs.length<=40:=by
 refine⟨(ns.drop (HT.sIx (ns.map D.int).length 0 (some 3))).take (HT.sIx (ns.map D.int).length (ns.map D.int).length (some 43)-HT.sIx (ns.map D.int).length 0 (some 3)),?_,?_⟩
 · unfold O0;rw[map_take,map_drop]
 · rw[show HT.sIx (ns.map D.int).length 0 (some 3)=min 3 (ns.map D.int).length from HT.a3w _ _ 3,show HT.sIx (ns.map D.int).length (ns.map D.int).length (some 43)=min 43 (ns.map D.int).length from HT.a3w _ _ 43,aQ,bF,aa];omega
theorem b3G{k:Nat}(f202:F 202=some l9)(hr:h[s]? =some (.rol (ns.map .int)))(hL:h[L]? =some (.lst (ls.map ltD)))(h1:1<=ls.length)(he0:env[0]? =some (some (.ref s)))(he2:env[3]? =some (some (.ref L))):
 ∃(row:List Str) (r:Nat) (h':AH),(∀x∈row,x∈ls.map (·.n))/\(1<=row.length/\row.length<=63)/\ev ct (b6 ct F (k+1)) rwE env h=.ok (.ref r) h'/\Pf h h'/\h'[r]? =some (.lst (row.map .str)):=by
 obtain⟨ys,y1,y2⟩:=b2H ns
 have sl:slD h (some 3) (some 43) (.ref s)=.ok (.ref h.length) (h++[.lst (ys.map .int)]):=by
  rw[←y1];simp only[slD,rdL,hr];rfl
 have gy:(h++[Cell.lst (ys.map D.int)]++[Cell.lst [D.int 1]])[h.length]? =some (.lst (ys.map .int)):=b7 b8
 have g2:(h++[Cell.lst (ys.map D.int)]++[Cell.lst [D.int 1]])[(h++[Cell.lst (ys.map D.int)]).length]? =some (.lst [D.int 1]):=b8
 have ad:op2 .add (h++[Cell.lst (ys.map D.int)]++[Cell.lst [D.int 1]]) (.ref h.length) (.ref (h++[Cell.lst (ys.map D.int)]).length)=.ok (.ref (h++[Cell.lst (ys.map D.int)]++[Cell.lst [D.int 1]]).length) (h++[Cell.lst (ys.map D.int)]++[Cell.lst [D.int 1]]++[.lst ((ys++[1]).map .int)]):=by
  rw[show∀h a b,op2 .add h a b=O5 h a b from fun _ _ _=>rfl,a6h gy g2 (by rw[aa];simp only[length_cons,length_nil];omega),ao]
  rfl
 have Q:Pf h (h++[Cell.lst (ys.map D.int)]++[Cell.lst [D.int 1]]++[Cell.lst ((ys++[1]).map D.int)]):=(((Pf.refl h).app _).app _).app _
 have gZ:(h++[Cell.lst (ys.map D.int)]++[Cell.lst [D.int 1]]++[Cell.lst ((ys++[1]).map D.int)])[(h++[Cell.lst (ys.map D.int)]++[Cell.lst [D.int 1]]).length]? =some (.lst ((ys++[1]).map .int)):=b8
 have lz:1<=(ys++[1]).length/\(ys++[1]).length<=63:=by rw[aq];simp only[length_cons,length_nil];omega
 have hL1:=Q.at hL;generalize (h++[Cell.lst (ys.map D.int)]++[Cell.lst [D.int 1]]).length=zc at ad gZ;generalize hx:h++[Cell.lst (ys.map D.int)]++[Cell.lst [D.int 1]]++[Cell.lst ((ys++[1]).map D.int)]=x1 at ad gZ Q hL1;generalize ys++[1]=zs at ad gZ lz
 have le:biD .len x1 [.ref L]=.ok (.int (ls.length:Int)) x1:=by rw[x6 hL1,aa]
 have mx:∀(c:Int) (j:Nat),j<=1000->∃M:Nat,b6 ct F (k+1) 202 [.int c,.int (j:Int)] x1=.ok (.int (M:Int)) x1:=fun c j hj=>J4 (ct:=ct) (k:=k) f202 (by omega)
 let Mx:Int->Nat->Nat:=fun c j=>if hj:j<=1000 then Classical.choose (mx c j hj) else 0
 have Mxe:∀(c:Int) (j:Nat),j<=1000->b6 ct F (k+1) 202 [.int c,.int (j:Int)] x1=.ok (.int (Mx c j:Int)) x1:=fun c j hj=>by
  have:=Classical.choose_spec (mx c j hj)
  simp only[Mx,hj,dite_true];exact this
 let nmz:Nat->Str:=fun z=>(ls.getD (z%ls.length) ⟨"","","",[]⟩).n
 have nz:∀z,nmz z∈ls.map (·.n)/\ixD x1 (.ref L) (.int ((z%ls.length:Nat):Int))=.ok (ltD (ls.getD (z%ls.length) ⟨"","","",[]⟩)) x1:=fun z=>by
  have hz:z%ls.length<ls.length:=Nat.mod_lt _ (by omega)
  have g:ls.getD (z%ls.length) ⟨"","","",[]⟩=ls[z%ls.length]:=by rw[bC,af hz];rfl
  refine⟨?_,?_⟩
  · show(ls.getD (z%ls.length) ⟨"","","",[]⟩).n∈_
    rw[g];exact ak.mpr ⟨_,bz hz,rfl⟩
  · rw[g];exact B4 hL1 (by rw[aj,af hz];rfl)
 let nf:D->Str:=fun d=>match d with
  |.tup [.int i,.int c]=>nmz (Mx c i.toNat)
  |_=>""
 refine⟨(z9 0 (zs.map .int)).map nf,x1.length,x1++[.lst (((z9 0 (zs.map .int)).map nf).map .str)],fun x hx=>?_,by rw[aa,enL,aa];exact lz,?_,Q.app _,b8⟩
 · obtain⟨d,hd,rfl⟩:=ak.mp hx;obtain⟨j,hj⟩:=bo hd
   obtain⟨y,hy,rfl⟩:=N6 hj;rw[aj] at hy
   obtain⟨c,hc,rfl⟩:=Option.map_eq_some_iff.mp hy;exact(nz _).1
 · unfold rwE;rw[aK]
   rw[z5 (l:=z9 0 (zs.map .int)) (g:=[(zc,.lst (zs.map .int))]) (h1:=x1) (by simp_arith[he0,sl,A4,ad,X6,gZ]) (by simp only[gOk,all_cons,all_nil,gZ];simp) (fun d=>.str (nf d)) (fun d=>match d with
    |.tup [x,y]=>[some x,some y,some (.ref L)]
    |_=>[]) (fun d hd=>by
    obtain⟨j,hj⟩:=bo hd
    obtain⟨y,hy,rfl⟩:=N6 hj;rw[aj] at hy
    obtain⟨c,hc,rfl⟩:=Option.map_eq_some_iff.mp hy;have jl:=(ac.mp hc).1
    refine⟨by simp only[u6,map_cons,map_nil,he2];rfl,?_⟩
    simp only[aB];have m:=Mxe c j (by omega)
    have md:F8 x1 (.int (Mx c j:Int)) (.int (ls.length:Int))=.ok (.int ((Mx c j%ls.length:Nat):Int)) x1:=P6 ls.length (by omega)
    simp_arith[m,le,op2,md,(nz (Mx c j)).2,b4A]
    rfl) (by rw[enL,aa];show _<=16777216;omega)]
   rfl
theorem b0T{d t:Nat}{s0':D}{H:HL}{hh:AH}{w9 w10 w11 w12 w13:Option D}(f33:F 33=some o7)(f34:F 34=some D0)(f35:F 35=some r8)(f36:F 36=some y0)(f37:F 37=some z6)(f38:F 38=some E7)(f39:F 39=some x8)(f202:F 202=some l9)(f206:F 206=some C2)(f207:F 207=some D2)(f208:F 208=some G5)(f216:F 216=some y8)(f217:F 217=some B1)(f219:F 219=some D4)
 (s0:ct.sub 4 0=true) (s4:ct.sub 4 4=true) (so:[5,1,3,2].any (ct.sub 4)=false) (K:HLok H) (hls:H.ls=ls) (ho:∀l∈ls,LtOk sh l)
 (A:∀{x:AH},Pf hh x->HallAt x n (a1j H)) (hb:hh[b]? =some (.lst (sn.map .str))) (hL:hh[L]? =some (.lst (ls.map ltD))) (ht:hh[t]? =some (.dict (lwL ls))) (hr:hh[r]? =some (.lst (row.map .str))) (hf:hh[f]? =some (.lst ((n9 ls row).map .str)))
 (lb:1<=sn.length) (hin:∀x∈row,x∈ls.map (·.n)) (l0:1<=row.length/\row.length<=63) (ll:ls.length<=1000) (hj:j<=1000):
 ∃(u9 u10 u11 u12 u13:Option D) (h':AH),exs ct (b6 ct F (d+10)) lwB [some s0',some (.int (M:Int)),some (.ref b),some (.ref L),some (.ref n),some (.ref t),some (.ref r),some (.ref f),some (.int (j:Int)),w9,w10,w11,w12,w13] hh=.ok (.nx [some s0',some (.int (M:Int)),some (.ref b),some (.ref L),some (.ref n),some (.ref t),some (.ref r),some (.ref f),some (.int (j:Int)),u9,u10,u11,u12,u13]) h'/\Pf hh h':=by
 obtain⟨N,hN⟩:=J4 (ct:=ct) (k:=d+9) (c:=(M:Int)) (j:=(j:Int)) (h:=hh) f202 (by omega)
 obtain⟨made,lm,sp⟩:=a7n (ct:=ct) (F:=F) (k:=d+8) (M:=N) f202 f206 hb hL hr hf lb hin ho (by unfold n9;rw[aa,aM]) l0.1 ll
 have Q1:Pf hh (hh++[Cell.lst (made.map D.str)]):=(Pf.refl hh).app _
 have gm:(hh++[Cell.lst (made.map D.str)])[hh.length]? =some (.lst (made.map .str)):=b8
 generalize hh++[Cell.lst (made.map D.str)]=h1 at sp Q1 gm;generalize hh.length=mq at sp gm;obtain⟨u1,u2⟩:=a7J (ct:=ct) (F:=F) (k:=d+7) f216 f217 f208 (Q1.at hL) (Q1.at ht) gm ho ll (by omega)
 have fin:∀(dv:D) (h2:AH) (i:Nat) (wd:Str),b6 ct F (d+10) 208 [.ref L,.ref t,.ref mq] h1=.ok dv h2->Pf h1 h2->(if decide (dv=.non)=true then(1:Int) else 0)=(i:Int)->[("row":Str),"none"][i]? =some wd→
  (∀p h3,Pf h2 h3->h3[p]? =some (.lst (made.map .str))->∃fv h4,b6 ct F (d+10) 207 [.ref n,.ref p] h3=.ok (.tup [.str wd,fv]) h4/\Pf h3 h4/\(decide (dv=.non)=false->∀h5,Pf h4 h5->b6 ct F (d+10) 219 [fv,dv] h5=.ok (.bl true) h5))→
  ∃(u9 u10 u11 u12 u13:Option D) (h':AH),exs ct (b6 ct F (d+10)) lwB [some s0',some (.int (M:Int)),some (.ref b),some (.ref L),some (.ref n),some (.ref t),some (.ref r),some (.ref f),some (.int (j:Int)),w9,w10,w11,w12,w13] hh=.ok (.nx [some s0',some (.int (M:Int)),some (.ref b),some (.ref L),some (.ref n),some (.ref t),some (.ref r),some (.ref f),some (.int (j:Int)),u9,u10,u11,u12,u13]) h'/\Pf hh h':=by
  intro dv h2 i wd hdu Q2 hi hw told;have lk:=a3M (Q2.at gm)
  have Q3:Pf h2 (h2++[Cell.lst (made.map D.str)]):=(Pf.refl h2).app _
  have gh:(h2++[Cell.lst (made.map D.str)])[h2.length]? =some (.lst (made.map .str)):=b8
  generalize h2++[Cell.lst (made.map D.str)]=h3 at lk Q3 gh;generalize h2.length=p at lk gh;obtain⟨fv,h4,t1,Q4,tx⟩:=told p h3 Q3 gh;have ne:=(a6U (Q4.at gh) (Q4.at (Q3.at (Q2.at gm)))).2
  have gS:(h4++[Cell.lst [D.str "row",D.str "none"]])[h4.length]? =some (.lst ([("row":Str),"none"].map .str)):=b8
  have iS:ixD (h4++[Cell.lst [D.str "row",D.str "none"]]) (.ref h4.length) (.int (i:Int))=.ok (.str wd) (h4++[Cell.lst [D.str "row",D.str "none"]]):=B4 gS (by rw[aj,hw];rfl)
  have ib:∀g,biD .int g [.bl (decide (dv=.non))]=.ok (.int (i:Int)) g:=fun g=>by rw[T5,hi]
  have nw:∀g,op2 .ne g (.str wd) (.str wd)=.ok (.bl false) g:=fun g=>by
   show R.ok (D.bl (!decide (wd=wd))) g=_
   rw[bp rfl];rfl
  have Q5:Pf h4 (h4++[Cell.lst [D.str "row",D.str "none"]]):=(Pf.refl h4).app _
  have s5:∀env:o6,env[9]? =some (some (.ref mq))->env[10]? =some (some dv)->env[11]? =some (some (.ref p))->env[12]? =some (some (.str wd))->ex ct (b6 ct F (d+10)) (.iff (.orr (.cmp .ne (.v 11) (.v 9)) (.cmp .ne (.v 12) (.ix (.lst (.cons (.k (.str "row")) (.cons (.k (.str "none")) .nil))) (.bi .int (.cons (.isN (.v 10)) .nil))))) (.cons (.ret (.k (.bl false))) .nil) .nil) env h4=.ok (.nx env) (h4++[Cell.lst [D.str "row",D.str "none"]]):=fun env e9 e10 e11 e12=>by
   simp_arith[e9,e10,e11,e12,ne,A4,ib,iS,nw]
  generalize h4++[Cell.lst [D.str "row",D.str "none"]]=h5 at s5 Q5
  have s6:∀env:o6,env[10]? =some (some dv)->env[13]? =some (some fv)->ex ct (b6 ct F (d+10)) (.iff (.an (.notN (.v 10)) (.nt (.val (.call 219 (.cons (.v 13) (.cons (.v 10) .nil)))))) (.cons (.ret (.k (.bl false))) .nil) .nil) env h5=.ok (.nx env) h5:=fun env e10 e13=>by
   cases hd:decide (dv=.non) with
   |true=>simp_arith[e10,e13,hd,Bool.not_true]
   |false=>simp_arith[e10,e13,hd,Bool.not_false,tx hd h5 Q5,Bool.not_true]
  refine⟨some (.ref mq),some dv,some (.ref p),some (.str wd),some fv,h5,?_,Q1.trans (Q2.trans (Q3.trans (Q4.trans Q5)))⟩
  unfold lwB;rw[seq (env':=[some s0',some (.int (M:Int)),some (.ref b),some (.ref L),some (.ref n),some (.ref t),some (.ref r),some (.ref f),some (.int (j:Int)),some (.ref mq),w10,w11,w12,w13]) (h':=h1) (by simp_arith[hN,sp])]
  rw[seq (env':=[some s0',some (.int (M:Int)),some (.ref b),some (.ref L),some (.ref n),some (.ref t),some (.ref r),some (.ref f),some (.int (j:Int)),some (.ref mq),some dv,w11,w12,w13]) (h':=h2) (by simp_arith[hdu])]
  rw[seq (env':=[some s0',some (.int (M:Int)),some (.ref b),some (.ref L),some (.ref n),some (.ref t),some (.ref r),some (.ref f),some (.int (j:Int)),some (.ref mq),some dv,some (.ref p),w12,w13]) (h':=h3) (by simp_arith[lk])]
  rw[seq (env':=[some s0',some (.int (M:Int)),some (.ref b),some (.ref L),some (.ref n),some (.ref t),some (.ref r),some (.ref f),some (.int (j:Int)),some (.ref mq),some dv,some (.ref p),some (.str wd),some fv]) (h':=h4) (by rw[a5Y];simp_arith[t1];rfl)]
  rw[seq (s5 _ rfl rfl rfl rfl)];rw[seq (s6 _ rfl rfl)];simp_arith[]
 cases e:W9 ls made with
 |none=>
  obtain⟨h2,a1,a2⟩:=u2 e;refine fin .non h2 1 "none" a1 a2 rfl rfl fun p h3 Q3 gp=>?_
  obtain⟨_,t2⟩:=a6j (ct:=ct) (F:=F) (k:=d+5) f39 f38 f33 f34 f35 f36 f37 f207 s0 s4 so K (A (Q1.trans (a2.trans Q3))) gp (by omega)
  rw[hls] at t2;obtain⟨t',b1⟩:=t2 e;exact⟨.non,_,b1,(Pf.refl h3).app _,fun z=>absurd z (by decide)⟩
 | some row'=>
  obtain⟨q,h2,a1,a2,a3⟩:=u1 row' e;refine fin (.ref q) h2 0 "row" a1 a2 rfl rfl fun p h3 Q3 gp=>?_
  obtain⟨t2,_⟩:=a6j (ct:=ct) (F:=F) (k:=d+5) f39 f38 f33 f34 f35 f36 f37 f207 s0 s4 so K (A (Q1.trans (a2.trans Q3))) gp (by omega)
  rw[hls] at t2;have b1:=t2 row' e;refine⟨.ref h3.length,_,b1,(Pf.refl h3).app _,fun _ h5 Q5=>?_⟩
  have lr:row'.length<=1000:=by
   unfold W9 at e
   split at e
   · rename_i row0 e0
     split at e
     · cases e
       have:=(a3A e0).1
       omega
     · cases e
   · cases e
  exact a8u (ct:=ct) (F:=F) (k:=d+9) f219 (Q5.at b8) (Q5.at (b7 (Q3.at a3))) lr
variable(W:PF F)
include W
theorem b4F{d:Nat}(f33:F 33=some o7)(f34:F 34=some D0)(f35:F 35=some r8)(f36:F 36=some y0)(f37:F 37=some z6)(f38:F 38=some E7)(f39:F 39=some x8)(f201:F 201=some z4)(f202:F 202=some l9)(f203:F 203=some u0)(f204:F 204=some A5)(f205:F 205=some C0)(f206:F 206=some C2)(f207:F 207=some D2)(f208:F 208=some G5)(f209:F 209=some a4U)(f216:F 216=some y8)(f217:F 217=some B1)(f218:F 218=some A7)(f219:F 219=some D4)
 (s0:ct.sub 4 0=true) (s4:ct.sub 4 4=true) (so:[5,1,3,2].any (ct.sub 4)=false) (hin:ct.init 6=32):∃h',b6 ct F (d+11) 209 [.ref 0] [.rol (ns.map .int)]=.ok (.bl true) h':=by
 generalize hg0:[Cell.rol (ns.map .int)]=g0
 have hr:g0[0]? =some (.rol (ns.map .int)):=by rw[←hg0];rfl
 obtain⟨z,hz⟩:=a0w (ct:=ct) (k:=d+9) (j:=2) (h:=g0) f201 hr
 have hz':b6 ct F (d+10) 201 [.ref 0,.int 2] g0=.ok (.int z) g0:=hz
 obtain⟨M,hM⟩:=J4 (ct:=ct) (k:=d+9) (c:=z) (j:=77) (h:=g0) f202 (by decide)
 have mod3:∀h,op2 .mod h (.int (M:Int)) (.int 3)=.ok (.int ((M%3:Nat):Int)) h:=fun h=>P6 3 (by decide)
 have gt0:∀h,op2 .gt h (.int ((M%3:Nat):Int)) (.int 0)=.ok (.bl (decide ((0:Int)<((M%3:Nat):Int)))) h:=fun h=>rfl
 generalize ((M%3:Nat):Int)=m' at gt0 mod3;generalize decide ((0:Int)<m')=sd at gt0;obtain⟨sn,ls,b,L,g,sk,l6,nd,lo,fn,hO,P0,gB,gL⟩:=b4h (ct:=ct) (k:=d+8) (sd:=sd) f201 f202 f203 f204 hr
 have K:HLok (Z0 sn ls):=b9d sk l6 nd (lo (shW sn) (a0k sn))
 have hT:=b1H (ct:=ct) (k:=d+8) f205 K sk gB gL;obtain⟨h,ht,hA,hR⟩:=a3C (ct:=ct) (d:=d+8) (h:=g) (text:=a4P (Z0 sn ls)) (H':=a1j (Z0 sn ls)) W hin (by have:=b0S K;omega) (by rw[a7h K];exact a7r W K)
 have P1:Pf g h:=⟨by rw[←ht,aQ];omega,fun i hi=>by
  have:(h.take g.length)[i]? =g[i]? :=by rw[ht]
  rw[←this,bG hi]⟩
 have hall:∀{x:AH},Pf h x->HallAt x g.length (a1j (Z0 sn ls)):=fun P=>by
  obtain⟨t,rfl⟩:=P.split;exact hA.app t
 have Q3:Pf h (h++[Cell.lst []]++[Cell.lst []]++[Cell.lst []]):=(((Pf.refl h).app _).app _).app _
 have hlo:=b4B (ct:=ct) (F:=F) (k:=d+9) (T:=.tup [.ref h.length,.ref (h++[Cell.lst []]).length,.ref (h++[Cell.lst []]++[Cell.lst []]).length,.ref L]) (q:=L) f218 (fun x=>ix_tup (i:=3) rfl) (Q3.at (P1.at gL)) nd (by omega)
 have Q4:=Q3.app [Cell.dict (lwL ls)]
 have aT:(h++[Cell.lst []]++[Cell.lst []]++[Cell.lst []]++[Cell.dict (lwL ls)])[(h++[Cell.lst []]++[Cell.lst []]++[Cell.lst []]).length]? =some (.dict (lwL ls)):=b8
 have s4':∀env:o6,env[3]? =some (some (.ref L))->ex ct (b6 ct F (d+10)) (.set 5 (.call 218 (.cons (.tup (.cons (.lst .nil) (.cons (.lst .nil) (.cons (.lst .nil) (.cons (.v 3) .nil))))) .nil))) env h=.ok (.nx (env.set 5 (some (.ref (h++[Cell.lst []]++[Cell.lst []]++[Cell.lst []]).length)))) (h++[Cell.lst []]++[Cell.lst []]++[Cell.lst []]++[Cell.dict (lwL ls)]):=fun env e3=>by
  simp_arith[e3,A4,hlo]
 generalize (h++[Cell.lst []]++[Cell.lst []]++[Cell.lst []]).length=tb at s4' aT;generalize h++[Cell.lst []]++[Cell.lst []]++[Cell.lst []]++[Cell.dict (lwL ls)]=x0 at s4' aT Q4;obtain⟨row,r,x1,r1,r2,r3,Q5,aR⟩:=b3G (ct:=ct) (k:=d+9) (env:=[some (.ref 0),some (.int (M:Int)),some (.ref b),some (.ref L),some (.ref g.length),some (.ref tb),none,none,none,none,none,none,none,none]) f202 (Q4.at (P1.at (P0.at hr))) (Q4.at (P1.at gL)) l6.1 rfl rfl;have hf:=a4T (ct:=ct) (F:=F) (k:=d+8) (a:=6) (b:=5) (env:=[some (.ref 0),some (.int (M:Int)),some (.ref b),some (.ref L),some (.ref g.length),some (.ref tb),some (.ref r),none,none,none,none,none,none,none]) f216 f217 (Q5.at aT) aR (lo (shW sn) (a0k sn)) r1 r2.2 rfl rfl;have Q6:=Q5.app [Cell.lst ((n9 ls row).map D.str)]
 have aF:(x1++[Cell.lst ((n9 ls row).map D.str)])[x1.length]? =some (.lst ((n9 ls row).map .str)):=b8
 have aR2:=b7 (g:=[Cell.lst ((n9 ls row).map D.str)]) aR;generalize x1.length=fc at hf aF;generalize x1++[Cell.lst ((n9 ls row).map D.str)]=x2 at hf aF aR2 Q6
 have Q:Pf h x2:=Q4.trans Q6
 have lsn:1<=sn.length:=by rw[sk.len];decide
 have rg:a5C x2 (.int 0) (.int 3)=.ok ((List.range 3).map fun i=>.int ((0:Int)+(i:Nat)),[]) x2:=Y2 (h:=x2) (m:=3) (by decide)
 obtain⟨env',g',e1,w8,w9,w10,w11,w12,w13,rfl,PP⟩:=N0 (g:=[]) (p:=.nm 8) (body:=exs ct (b6 ct F (d+10)) lwB) (fun j env hh=>∃w8 w9 w10 w11 w12 w13,env=[some (.ref 0),some (.int (M:Int)),some (.ref b),some (.ref L),some (.ref g.length),some (.ref tb),some (.ref r),some (.ref fc),w8,w9,w10,w11,w12,w13]/\Pf x2 hh) (fun _ _ _ _=>rfl) ((List.range 3).map fun i=>.int ((0:Int)+(i:Nat))) 0 [some (.ref 0),some (.int (M:Int)),some (.ref b),some (.ref L),some (.ref g.length),some (.ref tb),some (.ref r),some (.ref fc),none,none,none,none,none,none] x2 (fun j x env hh hx hP=>by
  obtain⟨w8,w9,w10,w11,w12,w13,rfl,P⟩:=hP;obtain⟨hj,rfl⟩:=a3B hx;obtain⟨u9,u10,u11,u12,u13,h',st,P'⟩:=b0T (ct:=ct) (F:=F) (d:=d) (j:=j) (M:=M) (s0':=.ref 0) (w9:=w9) (w10:=w10) (w11:=w11) (w12:=w12) (w13:=w13) f33 f34 f35 f36 f37 f38 f39 f202 f206 f207 f208 f216 f217 f219 s0 s4 so (ls:=ls) K rfl (lo (shW sn) (a0k sn)) (fun p=>hall (Q.trans (P.trans p))) (P.at (Q.at (P1.at gB))) (P.at (Q.at (P1.at gL))) (P.at (Q6.at aT)) (P.at aR2) (P.at aF) lsn r1 r2 (by omega) (by omega)
  exact⟨_,_,_,rfl,st,_,_,_,_,_,_,rfl,P.trans P'⟩) ⟨none,none,none,none,none,none,rfl,Pf.refl x2⟩
 rw[m8 f209 rfl];simp only[a4U];rw[gc0];refine⟨g',?_⟩
 show J9 (exs ct (b6 ct F (d+10)) _ [some (.ref 0),none,none,none,none,none,none,none,none,none,none,none,none,none] g0)=_
 rw[seq (env':=[some (.ref 0),some (.int (M:Int)),none,none,none,none,none,none,none,none,none,none,none,none]) (h':=g0) (by simp_arith[hz',hM])]
 rw[seq (env':=[some (.ref 0),some (.int (M:Int)),some (.ref b),some (.ref L),none,none,none,none,none,none,none,none,none,none]) (h':=g) (by rw[a5Y];simp_arith[mod3,gt0,show b6 ct F (d+10) 204 [.ref 0,.bl sd] g0=_ from hO];rfl)]
 rw[seq (env':=[some (.ref 0),some (.int (M:Int)),some (.ref b),some (.ref L),some (.ref g.length),none,none,none,none,none,none,none,none,none]) (h':=h) (by simp_arith[hT,hR])]
 rw[seq (s4' _ rfl)];rw[seq (env':=[some (.ref 0),some (.int (M:Int)),some (.ref b),some (.ref L),some (.ref g.length),some (.ref tb),some (.ref r),none,none,none,none,none,none,none]) (h':=x1) (by rw[Q9];erw [r3];rfl)]
 rw[seq (env':=[some (.ref 0),some (.int (M:Int)),some (.ref b),some (.ref L),some (.ref g.length),some (.ref tb),some (.ref r),some (.ref fc),none,none,none,none,none,none]) (h':=x2) (by rw[Q9];unfold lwF;rw[hf];rfl)]
 rw[seq (env':=[some (.ref 0),some (.int (M:Int)),some (.ref b),some (.ref L),some (.ref g.length),some (.ref tb),some (.ref r),some (.ref fc),w8,w9,w10,w11,w12,w13]) (h':=g') (by simp_arith[rg,e1])]
 simp_arith[]
end
end EV
namespace K14
open PySem L2 EV
theorem pf:PF F:=⟨rfl,rfl,rfl,rfl,rfl,rfl,rfl,rfl,rfl,rfl,rfl,rfl,rfl,rfl,rfl,rfl,rfl,rfl,rfl,rfl,rfl,rfl,rfl,rfl,rfl,rfl,rfl,rfl,rfl,rfl,rfl,rfl⟩
end K14
theorem a5O:∀ns:List Int,ns.length<=63->∃h',EV.b6 K14.ct K14.F 20 209 [.ref 0] [.rol (ns.map .int)]=.ok (.bl true) h':=fun ns hl=>EV.b4F (d:=9) K14.pf rfl rfl rfl rfl rfl rfl rfl rfl rfl rfl rfl rfl rfl rfl rfl rfl rfl rfl rfl rfl rfl rfl rfl rfl
open PySem PySem.W PyProof.Rows
end
namespace PySem.W.Fast
def tw15841114028514075813:Nat:=0
def tw3094701115853657799:Nat:=0
def tw8717019065884648586:Nat:=0
def tw15250815165864183617:Nat:=0
def tw1647960591809683682:Nat:=0
def tw5588194458432674206:Nat:=0
def tw5577959411253891188:Nat:=0
def tw15592037272859074581:Nat:=0
def tw13160956018194450736:Nat:=0
def tw11500961791798024772:Nat:=0
def tw12049394776693395414:Nat:=0
def tw7586693836618795562:Nat:=0
def tw2202087279664922802:Nat:=0
def tw6709029098579675293:Nat:=0
def tw10654377181405492472:Nat:=0
def tw9840342860782594374:Nat:=0
def tw835821947353785074:Nat:=0
def tw9161490523856799436:Nat:=0
def tw5351950890769337794:Nat:=0
def tw10188337973796604112:Nat:=0
def tw14191745827877185554:Nat:=0
def tw12120419212027415207:Nat:=0
def tw2969480146181677978:Nat:=0
def tw11081772624950168284:Nat:=0
def tw8839083969933755074:Nat:=0
def tw3173216733752770468:Nat:=0
def tw5835942142707902020:Nat:=0
def tw12613123470234294058:Nat:=0
def tw11930311979851757478:Nat:=0
def tw6760056911573607715:Nat:=0
def tw10199354318988768051:Nat:=0
def tw316514102143019080:Nat:=0
def tw15772355805533515408:Nat:=0
def tw3101917741504857134:Nat:=0
def tw13508602156133886167:Nat:=0
def tw16607927582987124570:Nat:=0
def tw6515475055727480913:Nat:=0
def tw6315216371427503177:Nat:=0
def tw2484844197603217540:Nat:=0
def tw4248988804066548162:Nat:=0
def tw7717702957765121957:Nat:=0
def tw4185518321428705831:Nat:=0
def tw16919330064296535691:Nat:=0
def tw4425046354534653865:Nat:=0
def tw7910172739516966087:Nat:=0
def tw2294854397974045510:Nat:=0
def tw5623994078177797194:Nat:=0
def tw12694112234171929671:Nat:=0
def tw11849525312028181438:Nat:=0
def tw1165732905965986049:Nat:=0
def tw15536387163757344236:Nat:=0
def tw9516800180062724845:Nat:=0
def tw11069628954808310989:Nat:=0
def tw16317983856663788926:Nat:=0
def tw15724745641170818534:Nat:=0
def tw8667492640987031791:Nat:=0
def tw11289143093466461953:Nat:=0
def tw305048472116853797:Nat:=0
def tw14064692534454641163:Nat:=0
def tw11843833423457600547:Nat:=0
def tw17004574920194074796:Nat:=0
def tw7492102371377302679:Nat:=0
def tw12018387782679925087:Nat:=0
def tw17338234738716814015:Nat:=0
def tw16131593051203169754:Nat:=0
def tw13887902116395311400:Nat:=0
def tw5310652868755799522:Nat:=0
def tw10393078302967963895:Nat:=0
def tw1948689806639624469:Nat:=0
def tw5011889884212318148:Nat:=0
def tw5426448371682200115:Nat:=0
def tw14566440943485919492:Nat:=0
def tw16118103595353321548:Nat:=0
def tw14712817762504950641:Nat:=0
def tw1354003750591732747:Nat:=0
def tw1176975735165151067:Nat:=0
def tw539595736760451978:Nat:=0
def tw10693841506766600124:Nat:=0
def tw16745343075639119971:Nat:=0
def tw10209164474934016114:Nat:=0
def tw11654023200298843171:Nat:=0
def tw14805814515597417852:Nat:=0
def tw14199714164133228370:Nat:=0
def tw11187973929812520656:Nat:=0
def tw17619882183920601743:Nat:=0
def tw17108046237660401759:Nat:=0
def tw10155365746132046468:Nat:=0
def tw16002967266952078866:Nat:=0
def tw3083371992184736890:Nat:=0
def tw1998032249293215463:Nat:=0
def tw17624731456758155189:Nat:=0
def tw15943592676296772274:Nat:=0
def tw5587826856885255690:Nat:=0
def tw4491058772748593153:Nat:=0
def tw17643754061406199020:Nat:=0
def tw11418939547134857076:Nat:=0
def tw8621336744817483243:Nat:=0
def tw2335157872551914648:Nat:=0
def tw15221209806709932071:Nat:=0
def tw3373145609055282853:Nat:=0
def tw15078095837771203109:Nat:=0
def tw11320351676317602388:Nat:=0
def tw1322031339247656150:Nat:=0
def tw17698735102306075112:Nat:=0
def tw17427895641331663283:Nat:=0
def tw6731276024794131016:Nat:=0
def tw10335527622381539264:Nat:=0
def tw4033379813872489195:Nat:=0
def tw6771182271545134960:Nat:=0
def tw12059592832596718669:Nat:=0
def tw12976177241038019767:Nat:=0
def tw11519117686961666697:Nat:=0
def tw8697654515486363317:Nat:=0
def tw12319047049370110589:Nat:=0
def tw6784790241324674965:Nat:=0
def tw5015507407206683207:Nat:=0
def tw7042659310547366237:Nat:=0
def tw3016012700857477809:Nat:=0
def tw11990459337992974956:Nat:=0
def tw15886500619415505586:Nat:=0
def tw6999941293234460784:Nat:=0
def tw16396790404030501481:Nat:=0
def tw17590088832654516399:Nat:=0
def tw12184380411685104690:Nat:=0
def tw16915470645016011554:Nat:=0
def tw2680141511932349947:Nat:=0
def tw12068798485007620914:Nat:=0
def tw7618804249908900691:Nat:=0
def tw7215932318001415403:Nat:=0
def tw11586196018267737339:Nat:=0
def tw7317234293075219:Nat:=0
def tw9305391788130653963:Nat:=0
def tw16286715671046524454:Nat:=0
def tw10042499479572932358:Nat:=0
def tw4954584648838934644:Nat:=0
def tw729466047920990731:Nat:=0
def tw5674458297940323589:Nat:=0
def tw13350131943787299761:Nat:=0
def tw8789256864460932259:Nat:=0
def tw10700183255674453818:Nat:=0
def tw10052001805573714066:Nat:=0
def tw17837415989878807268:Nat:=0
def tw3345597093286824917:Nat:=0
def tw5680315236850328200:Nat:=0
def tw4153491320931672185:Nat:=0
def tw14501001857826371202:Nat:=0
def tw3092117133297227249:Nat:=0
def tw2450569374399577549:Nat:=0
def tw10241233070082051121:Nat:=0
def tw3857615796733700780:Nat:=0
def tw4843473975253519250:Nat:=0
def tw2927799364441409784:Nat:=0
def tw15213048550514571353:Nat:=0
def tw8174591469460913490:Nat:=0
def tw4188684199736651882:Nat:=0
def tw17969941481158815411:Nat:=0
def tw10390157646234782899:Nat:=0
def tw8131721106225051767:Nat:=0
def tw6623812351622530092:Nat:=0
def tw17960848765466677729:Nat:=0
def tw12514039047250868702:Nat:=0
def tw7328447075739424539:Nat:=0
def tw4842887358765978389:Nat:=0
def tw9455475090630465045:Nat:=0
def tw2947586027576077979:Nat:=0
def tw6793172497655745189:Nat:=0
def tw3822784309164373692:Nat:=0
def tw17093224777342109595:Nat:=0
def tw670427922429333600:Nat:=0
def tw1620389302784492585:Nat:=0
def tw2962324470309885386:Nat:=0
def tw13698048360955963301:Nat:=0
def tw4157206338815638501:Nat:=0
def tw11763852733077360975:Nat:=0
def tw5485572742587201778:Nat:=0
def tw4968929673044707356:Nat:=0
def tw8934421753687110507:Nat:=0
def tw2456577590951144490:Nat:=0
def tw17802128708061929859:Nat:=0
def tw10097012582147076362:Nat:=0
def tw7894344252036594922:Nat:=0
def tw16472409268878238316:Nat:=0
def tw6873971014812347169:Nat:=0
def tw5713610079918043996:Nat:=0
def tw18012574323051992567:Nat:=0
def tw13402640891724300857:Nat:=0
def tw2257529940240947247:Nat:=0
def tw7537285074954141530:Nat:=0
def tw4584130408075211490:Nat:=0
def tw1349388230604553621:Nat:=0
def tw9774394379856643515:Nat:=0
def tw734138898119960010:Nat:=0
def tw3520363519792060846:Nat:=0
def tw10015853644003576960:Nat:=0
def tw16950569574821323974:Nat:=0
def tw10785849952161257653:Nat:=0
def tw5845538515087863352:Nat:=0
def tw4799189423077775474:Nat:=0
def tw17456480263006714056:Nat:=0
def tw1567247161763788871:Nat:=0
def tw14439765378166140033:Nat:=0
def tw5030944203280556702:Nat:=0
def tw234749781942434899:Nat:=0
def tw12300527617525357084:Nat:=0
def tw16550838102048051623:Nat:=0
def tw13056512690104125533:Nat:=0
def tw9897558803702562313:Nat:=0
def tw3664731896753646195:Nat:=0
def tw16970792351503237766:Nat:=0
def tw9563574807059059695:Nat:=0
def tw8903238766108814736:Nat:=0
def tw16925118299729312639:Nat:=0
def tw13829591483307370896:Nat:=0
def tw804092199982636349:Nat:=0
def tw16629561534657121264:Nat:=0
def tw9585978970863474492:Nat:=0
def tw9296360433889664002:Nat:=0
def tw6951939212644042833:Nat:=0
def tw18431155831084640082:Nat:=0
def tw14788362278542820120:Nat:=0
def tw13792483299354683862:Nat:=0
def tw16749348522385944071:Nat:=0
def tw9601000219436670146:Nat:=0
def tw12712400820596877648:Nat:=0
def tw9715166753854553471:Nat:=0
def tw9685044298169568939:Nat:=0
def tw931956834028986255:Nat:=0
def tw8369868683130302868:Nat:=0
def tw7945405709010385892:Nat:=0
def tw7825248364748044718:Nat:=0
def tw7343611390307366373:Nat:=0
def tw7158441374720773216:Nat:=0
def tw6834397320308548248:Nat:=0
def tw6737687440995333003:Nat:=0
def tw671769174312181376:Nat:=0
def tw5661640270340304354:Nat:=0
def tw4636031889025220839:Nat:=0
def tw4589182232624314844:Nat:=0
def tw4340971767527515617:Nat:=0
def tw4268201051430804902:Nat:=0
def tw4227517698962585424:Nat:=0
def tw4211952112222678748:Nat:=0
def tw4038909232737020655:Nat:=0
def tw3904583755211930517:Nat:=0
def tw3808584094389355786:Nat:=0
def tw3471986238504059686:Nat:=0
def tw18221076124747093969:Nat:=0
def tw18042889414512086050:Nat:=0
def tw17882641709403210578:Nat:=0
def tw17857563459279650048:Nat:=0
def tw17334881123488906936:Nat:=0
def tw16803143847538834185:Nat:=0
def tw16655083059833703075:Nat:=0
def tw1611551182742943237:Nat:=0
def tw14678158920106854735:Nat:=0
def tw14398365135244066966:Nat:=0
def tw1385777081429181588:Nat:=0
def tw1267704075650749254:Nat:=0
def tw12434779806091606683:Nat:=0
def tw11786325122171474085:Nat:=0
def tw1173414789623836638:Nat:=0
def tw1147522009701800784:Nat:=0
def tw11300376045408061371:Nat:=0
def tw11188117447681078326:Nat:=0
def tw11118301316682269745:Nat:=0
def tw10412780308102683651:Nat:=0
def tw17925384258215065573:Nat:=0
def tw12438237656833362997:Nat:=0
def tw16932301668260661676:Nat:=0
def tw7942853410682446962:Nat:=0
def tw3103751414666246812:Nat:=0
def tw18182889222666715495:Nat:=0
def tw15862806813707239167:Nat:=0
def tw15790453512448054794:Nat:=0
def tw14734032772098568817:Nat:=0
def tw14722794537435163219:Nat:=0
def tw13949155002146243131:Nat:=0
def tw12694589447371642155:Nat:=0
def tw12532165626772418067:Nat:=0
def tw12487779173672901959:Nat:=0
def tw10497823618577955822:Nat:=0
def tw7088172306134329368:Nat:=0
def tw16504757533647375273:Nat:=0
def tw112567504061534027:Nat:=0
def tw9515242367644423802:Nat:=0
def tw5105673956185107153:Nat:=0
def tw5036445103931068615:Nat:=0
def tw69414778264802052:Nat:=0
def tw9192171586001469603:Nat:=0
def tw897888412878121761:Nat:=0
def tw8605165415444627158:Nat:=0
def tw8454840944936950519:Nat:=0
def tw4026151001005817321:Nat:=0
def tw3241244739717862871:Nat:=0
def tw2873748437651673626:Nat:=0
def tw14949513074056673275:Nat:=0
def tw14245618210516037357:Nat:=0
def tw1391549112126926301:Nat:=0
def tw7317576523658780031:Nat:=0
def tw10846345724684618374:Nat:=0
def tw7470021291188754609:Nat:=0
def tw4626940704210403192:Nat:=0
def tw2852278927748849453:Nat:=0
def tw17878424488110687958:Nat:=0
def tw15632992782082381434:Nat:=0
def tw13517250619966689955:Nat:=0
def tw16266442582153907279:Nat:=0
def tw13952158723898717365:Nat:=0
def tw12325562205625792791:Nat:=0
def tw4361700775904427359:Nat:=0
def tw9497945907656264259:Nat:=0
def tw14864845329073380503:Nat:=0
def tw6511239469406747073:Nat:=0
def tw6252695792229605141:Nat:=0
def tw438459731153329746:Nat:=0
def tw2648174423076098445:Nat:=0
def tw16463793508043411602:Nat:=0
def tw9156678896304099913:Nat:=0
def tw4419873286371483742:Nat:=0
def tw15452572443179084588:Nat:=0
def tw14869557710840242666:Nat:=0
def tw12798869161161681673:Nat:=0
def tw12048056826642495367:Nat:=0
def tw10667965978278278033:Nat:=0
def tw10426125643436316091:Nat:=0
def tw5312734613080425828:Nat:=0
def tw2133357390318303931:Nat:=0
def tw1820406046763328738:Nat:=0
def tw17704188385166749297:Nat:=0
def tw15515405784836723652:Nat:=0
def tw13436231055378572716:Nat:=0
def tw12533650973541477374:Nat:=0
def tw10299302589577801163:Nat:=0
def tw9835382159548102362:Nat:=0
def tw9761588102954696855:Nat:=0
def tw9508736203920968164:Nat:=0
def tw8891557043749499067:Nat:=0
def tw8864380892348041232:Nat:=0
def tw8824595633291508535:Nat:=0
def tw8621301723031713458:Nat:=0
def tw8553059368797141306:Nat:=0
def tw8526028360262338249:Nat:=0
def tw8436589768386056944:Nat:=0
def tw8426798971799828003:Nat:=0
def tw8249347019533418915:Nat:=0
def tw8237626310708396552:Nat:=0
def tw8160871880118814707:Nat:=0
def tw8078195926588453703:Nat:=0
def tw7875376050956498882:Nat:=0
def tw7805864855692585105:Nat:=0
def tw7524379617451308511:Nat:=0
def tw742405457713269000:Nat:=0
def tw7395645310213146516:Nat:=0
def tw7363425622247834253:Nat:=0
def tw7340446101256811000:Nat:=0
def tw7097827964152542560:Nat:=0
def tw7076977106511060911:Nat:=0
def tw6606014719576569030:Nat:=0
def tw644751248652905101:Nat:=0
def tw5916140570258018564:Nat:=0
def tw5759927347364260171:Nat:=0
def tw5738919822854818926:Nat:=0
def tw5681066748535004433:Nat:=0
def tw5613845454599061817:Nat:=0
def tw5609530884314319229:Nat:=0
def tw5587484289544270231:Nat:=0
def tw5552461122284547459:Nat:=0
def tw5427499738942290107:Nat:=0
def tw5425125011635884837:Nat:=0
def tw5388663596951873645:Nat:=0
def tw5353813085845620550:Nat:=0
def tw529536973988259948:Nat:=0
def tw517312751163448032:Nat:=0
def tw4674102799890499726:Nat:=0
def tw4475145619620083286:Nat:=0
def tw4211700434839312001:Nat:=0
def tw3942624392001961204:Nat:=0
def tw3934833063311361131:Nat:=0
def tw3302770140995672700:Nat:=0
def tw317932667124481529:Nat:=0
def tw3133745999044795564:Nat:=0
def tw3121739546393284973:Nat:=0
def tw306725001281121169:Nat:=0
def tw2766794811542550618:Nat:=0
def tw1906743188756502811:Nat:=0
def tw1833547357909804662:Nat:=0
def tw18329075359065952542:Nat:=0
def tw17849293660312457548:Nat:=0
def tw17845374550828520631:Nat:=0
def tw17513604867990543079:Nat:=0
def tw17094580856887593759:Nat:=0
def tw16884622931589843948:Nat:=0
def tw16469568281967520401:Nat:=0
def tw16408362238061914836:Nat:=0
def tw16149030986926176842:Nat:=0
def tw15854262060937163188:Nat:=0
def tw15755044616229629136:Nat:=0
def tw15679247252792206210:Nat:=0
def tw15431134087688302020:Nat:=0
def tw1541540961381408409:Nat:=0
end PySem.W.Fast
open_top head for PySem.Challenge.rw_glyphhall_k14_rows_that_are_none
theorem PySem.Challenge.cw_glyphhall_k14_rows_that_are_none_holds : PySem.Challenge.rw_glyphhall_k14_rows_that_are_none.Holds :=
 head (by
 refine K14.b6e (l:=PySem.Challenge.rw_glyphhall_k14_rows_that_are_none) (n:=63) (k:=46) (x:="_law_script") (CX:=fun w=>L2.CXr PySem.Challenge.rw_glyphhall_k14_rows_that_are_none.prog w) (sp:=K14.spK) rfl (by decide) rfl ⟨rfl,by decide,by decide⟩ (fun w h Y=>PySem.W.kIn_of Y) ?F ?S ?C
 case F=>
  intro w mg fa h KX G hmg
  have T:∃cA,K14.DfE (L2.KOf KX) "law" (K14.top 82)/\∀{h:Heap} {mg:Str->Option Value},(L2.KOf KX).In h->h.Ns mainGlobals mg->EV.Stat PySem.Challenge.rw_glyphhall_k14_rows_that_are_none.prog w ⟨L2.KOf KX,cA,[6],[4]⟩ K14.G K14.ct K14.F mg:=by
   dsimp only[L2.KOf]
   clear hmg
   refine' K14.b1f ?a0 ?a1 ?a2 ?a3 ?a4 ?a5 ?a6 ?a7 ?a8 ?a9 ?a10 ?a11 ?a12 ?a13 ?a14 ?a15 ?a16 ?a17 ?a18 ?a19 ?a20 ?a21 ?a22 ?a23 ?a24 ?a25 ?a26 ?a27 ?a28 ?a29 ?a30 ?a31 ?a32 ?a33 ?a34 ?a35 ?a36 ?a37 ?a38 ?a39 ?a40 ?a41 ?a42 ?a43 ?a44 ?a45 ?a46 ?a47 ?a48 ?a49 ?a50 ?a51 ?a52 ?a53 ?a54 ?a55 ?a56 ?a57 ?a58 ?a59 ?a60 ?a61 ?a62 ?a63 ?a64 ?a65 ?a66 ?a67 ?a68 ?a69 ?a70 ?a71 ?a72 ?a73 ?a74 ?a75 ?a76 ?a77 ?a78 ?a79 ?a80 ?a81 ?a82 ?a83 ?a84 ?a85 ?a86 ?a87 ?a88 ?a89 ?a90 ?a91 ?a92 ?a93 ?a94 ?a95 ?a96 ?a97 ?a98 ?a99 ?a100 ?a101 ?a102 ?a103 ?a104 ?a105 ?a106 ?a107 ?a108 ?a109
   (case a0|a1|a2|a3|a4|a5|a6|a80|a88|a89|a90|a91|a92|a93|a94|a95|a96|a97|a98|a99|a100|a101|a102|a103|a104|a105|a106|a107|a108|a109=>k_is)
   (case a7|a8|a9|a10|a11|a12|a13|a14|a15|a16|a17|a18|a19|a20|a21|a22|a23|a24|a25|a26|a27|a28|a29|a30|a31|a32|a33|a34|a35|a36|a37|a38|a39|a40|a41|a42|a43|a44|a45|a46|a47|a48|a49|a50|a51|a52|a53|a54|a55|a56|a57=>refine' K14.b7s ?x ?y ?z ?u;(case x=>k_is);(case y=>k_is);(case z=>k_is);(case u=>k_is))
   (case a58|a59|a60=>refine' K14.b3C ?e1;(case e1=>k_is))
   (case a61|a62|a63|a64|a65|a66|a67|a68|a69|a70|a71=>refine' K14.b4U ?e1;(case e1=>k_is))
   (case a72|a73|a75=>refine' K14.b0V ?e1 ?e2;(case e1=>k_is);(case e2=>k_is))
   (case a74=>refine' K14.b0U ?e1 ?e2;(case e1=>k_is);(case e2=>k_is))
   (case a76=>refine' K14.b2F ?e1 ?e2 ?e3 ?e4 ?e5 ?e6 ?e7 ?e8;(case e1=>k_is);(case e2=>k_is);(case e3=>decide);(case e4=>rfl);(case e5=>rfl);(case e6=>rfl);(case e7=>rfl);(case e8=>decide))
   (case a77=>refine' K14.b2g ?m1 ?m2 ?m3 ?m4 ?e2 ?e3 ?e4;(case m1=>k_is);(case m2=>k_is);(case m3=>k_is);(case m4=>k_is);(case e2=>k_is);(case e3=>k_is);(case e4=>k_is))
   (case a81|a82|a83|a84|a85|a86|a87=>kernel_rfl)
   (case a79=>refine' K14.b5D ?lC ?lD ?oC ?oD ?n0 ?n2 ?n3 ?n4 ?d0 ?d2 ?d3 ?d4 ?kC;(case oC|oD=>kernel_rfl);(case lC|lD|n0|n2|n3|n4|d0|d2|d3|d4|kC=>k_is))
   (case a78=>refine' ⟨?p1,?p2,?p3,?p4⟩;(case p1=>k_is);(case p2=>k_is);(case p3=>k_is);(case p4=>k_is))
  obtain⟨cA,D,T⟩:=T;obtain⟨fd,h1,h2⟩:=K14.b4Z D (T KX G) KX G hmg;exact⟨fd,h1,fun base _ _=>h2 base⟩
 case S=>
  intro w H a ns hl hO hS;refine K14.b4E a5O ?nl hl hO hS
  (case nl=>kernel_rfl)
 case C=>exact fun w H s e s' z=>K14.b6Z z)
