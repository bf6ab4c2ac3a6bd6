import PyProof.Rows.All
import Wide.All
import OpenK.AllK
import Wide.FinOn
import PyProof.EqAt
import PyProof.EqKinds
import PyProof.TupleCall
import PyProof.ExcInit
import PyProof.ExcClass3
import PyProof.ExcArgsOwn
import PyProof.StationsW
import PyProof.InstStoreFacts
import PyProof.InstLoad
import PyProof.ExcBaseAll.ValueError
import PyProof.RulesAs
import OpenK.KOwn
import PyProof.NsDelKeeps
import PyProof.CompUse
import PyProof.NeKinds
import PyProof.StrOps2
import KE.KDictOf
import PyProof.AttrMissHeap
import PyProof.ListRange
import PyProof.TupleOfGen
import PyProof.CollectStr
import KE.KRevIter
import PyProof.DictItems
import PyProof.AutoListH
import KE.KPairComp
import PyProof.StrLawsTight
import PyProof.StrLawsChain
import PyProof.StrLawsIn
import PyProof.StrLawsIdx
import PyProof.Rows.CatFin
import PyProof.Rows.StrItems
import KE.IntTextLaws
import PyProof.Rows.ReprOcc
import PyProof.FitsInt
import KE.KIntText
import Lean
import PySem.Challenge.RW_glyphhall_k37_ways
set_option Elab.async false
set_option linter.all false
set_option maxRecDepth 100000
set_option maxHeartbeats 0
def aa:=@List.length_map
def ac:=@List.getElem?_eq_some_iff
def ae:=@Bool.and_eq_true
def af:=@List.getElem?_eq_getElem
def aj:=@Nat.le_refl
def ak:=@List.getElem?_map
def am:=@List.mem_map
def ao:=@List.map_append
def aq:=@List.length_append
def au:=@List.getElem?_append_right
def av:=@List.getElem?_append_left
def aw:=@of_decide_eq_true
def ax:=@Option.some.inj
def ay:=@if_pos
def az:=@if_neg
def aA:=@List.append_assoc
def aB:=@Nat.zero_add
def aC:=@Nat.lt_of_lt_of_le
def aD:=@List.mem_cons_of_mem
def aE:=@List.mem_cons
def aF:=@List.mem_of_getElem?
def aG:=@List.map_map
def aH:=@List.length_range
def aI:=@List.getElem?_range
def aJ:=@List.mem_append
def aK:=@List.length_take
def aL:=@List.mem_range
def aM:=@List.mem_singleton
def aN:=@Nat.lt_irrefl
def aO:=@Nat.le_trans
def aP:=@Nat.lt_succ_self
def aQ:=@Nat.le_of_not_lt
def aR:=@List.nodup_cons
def aS:=@List.getElem?_eq_none
def aT:=@List.map_congr_left
def aU:=@List.mem_cons_self
def aV:=@List.append_nil
def aW:=@List.getElem?_of_mem
def aX:=@decide_eq_true
def aY:=@Nat.min_eq_left
def aZ:=@List.take_length
def ba:=@List.take_of_length_le
def bc:=@List.mem_filter
def bf:=@List.length_replicate
def bg:=@List.all_eq_true
def bh:=@Bool.false_ne_true
def bj:=@List.getElem_mem
def bn:=@List.mem_filterMap
def bo:=@List.getD_eq_getElem?_getD
def bp:=@decide_eq_true_eq
def bq:=@decide_eq_false
def br:=@List.length_drop
def bt:=@List.getElem?_take_of_lt
def bu:=@List.getElem?_replicate
open List (getElem_inj mem_append_right size_toArray length_cons map_cons of_mem_zip length_set all_cons any_cons reverse_cons replicate_succ flatten_cons foldl_cons nil_append length_nil map_nil lookup_cons all_map contains_cons not_mem_nil drop_zero length_reverse nodup_append nodup_nil any_eq_true isEmpty_iff length_eq_zero_iff drop_length cons_ne_nil drop_succ_cons cons_append map_id filter_map all_nil map_take map_drop)
noncomputable section
set_option compiler.extract_closed false
namespace L2
open PySem PySem.Spec PyProof.Rows
abbrev Key:=Sum Int Str
noncomputable def a3j:Key->Value->Bool
 |.inl k,v=>Value.isInt k v
 |.inr x,v=>Value.isStrOf x v
noncomputable def b9w(w:World):Key->Int
 |.inl k=>hashInt k
 |.inr x=>hashStr w x
theorem A8:∀{k:Key} {v:Value},a3j k v=true->(∃i t,k=Sum.inl i/\v=Value.int i t)∨(∃x t,k=Sum.inr x/\v=Value.str x t)
 |.inl i,v,h=>by
  obtain⟨t,e⟩:=Value.isInt_shape (k:=i) (v:=v) h;exact .inl ⟨i,t,rfl,e⟩
 |.inr x,v,h=>by
  obtain⟨t,e⟩:=Value.isStrOf_shape (x:=x) (v:=v) h;exact .inr ⟨x,t,rfl,e⟩
theorem a8c(i:Int)(t:Tok):a3j (.inl i) (.int i t)=true:=by simp[a3j,Value.isInt]
theorem a8b(x:Str)(t:Tok):a3j (.inr x) (.str x t)=true:=by simp[a3j,Value.isStrOf]
theorem b5c(a b:Int):decide ((Sum.inl a:Key)=Sum.inl b)=(a==b):=by
 by_cases e:a=b
 · subst e;simp
 · have h:¬(Sum.inl a:Key)=Sum.inl b:=fun q=>e (Sum.inl.inj q)
   rw[bq h];exact(beq_eq_false_iff_ne.mpr e).symm
theorem b4Z(a b:Str):decide ((Sum.inr a:Key)=Sum.inr b)=decide (a=b):=by
 by_cases e:a=b
 · subst e;simp
 · have h:¬(Sum.inr a:Key)=Sum.inr b:=fun q=>e (Sum.inr.inj q)
   rw[bq h,bq e]
theorem b5b(a:Int)(b:Str):decide ((Sum.inl a:Key)=Sum.inr b)=false:=bq (fun q=>nomatch q)
theorem b5a(a:Str)(b:Int):decide ((Sum.inr a:Key)=Sum.inl b)=false:=bq (fun q=>nomatch q)
def v8 (prog:Program) (w:World):PySem.KeyKind prog w Key where
 is:=a3j
 hash:=b9w w
 inj:=fun v a b ha hb=>by
  rcases A8 ha with⟨i,t,rfl,rfl⟩|⟨x,t,rfl,rfl⟩
  · rcases A8 hb with⟨j,u,rfl,e⟩|⟨y,u,rfl,e⟩
    · injection e with e1 _;rw[e1]
    · exact nomatch e
  · rcases A8 hb with⟨j,u,rfl,e⟩|⟨y,u,rfl,e⟩
    · exact nomatch e
    · injection e with e1 _;rw[e1]
 byValue:=fun k v h=>by
  rcases A8 h with⟨i,t,rfl,rfl⟩|⟨x,t,rfl,rfl⟩<;>rfl
 pyHash:=fun hv h=>by
  rcases A8 hv with⟨i,t,rfl,rfl⟩|⟨x,t,rfl,rfl⟩
  · exact wpAny_pyHash_int h
  · exact wpAny_pyHash_str h
 eqBool:=fun hu hv h=>by
  rcases A8 hu with⟨i,t,rfl,rfl⟩|⟨x,t,rfl,rfl⟩
  · rcases A8 hv with⟨j,u,rfl,rfl⟩|⟨y,u,rfl,rfl⟩
    · rw[b5c] at h;exact wpAny_eqBool_int h
    · rw[b5b] at h;exact SeqAt.EqAt.int_str i t y u _ _ _ _ h
  · rcases A8 hv with⟨j,u,rfl,rfl⟩|⟨y,u,rfl,rfl⟩
    · rw[b5a] at h;exact SeqAt.EqAt.str_int x t j u _ _ _ _ h
    · rw[b4Z] at h;exact wpAny_eqBool_str h
 «strs»:=fun k x t v h=>by
  rcases A8 h with⟨i,u,rfl,e⟩|⟨y,u,rfl,e⟩
  · exact nomatch e
  · injection e with e1 _
    subst e1
    cases v<;>rfl
theorem a5f(prog:Program)(w:World)(i:Int)(t:Tok):(v8 prog w).is (.inl i) (.int i t)=true:=a8c i t
theorem a5e(prog:Program)(w:World)(x:Str)(t:Tok):(v8 prog w).is (.inr x) (.str x t)=true:=a8b x t
inductive V where
 |non|bl (b:Bool)|int (i:Int)|str (x:Str)|byt (b:Array UInt8)|flt (b:UInt64)|ref (a:Addr)|ty (n:String)
 deriving DecidableEq
def n9:V->Value->Prop
 |.non,u=>u=Value.none
 |.bl b,u=>u=Value.bool b
 |.int i,u=>∃t,u=Value.int i t
 |.str x,u=>∃t,u=Value.str x t
 |.byt b,u=>∃t,u=Value.bytes b t
 |.flt b,u=>∃t,u=Value.float b t
 |.ref a,u=>u=Value.ref a
 |.ty n,u=>u=Value.type n
abbrev k8:List V->List Value->Prop:=Paired n9
variable{us:List Value}
theorem k8.length{xs:List V}(r:k8 xs us):xs.length=us.length:=Paired.length r
theorem k8.get:∀{xs:List V} {us:List Value} {i:Nat} {x:V},k8 xs us->xs[i]? =some x->∃u,us[i]? =some u/\n9 x u
 |_,_,_,_,.nil,e=>by simp at e
 |_,_,0,_,.cons r _,e=>by simp at e;subst e;exact⟨_,rfl,r⟩
 |_,_,i+1,x,.cons _ t,e=>by
  obtain⟨u,h1,h2⟩:=k8.get (i:=i) (x:=x) t (by simpa using e)
  exact⟨u,by simpa using h1,h2⟩
theorem k8.set{x:V}{u:Value}(r:n9 x u):∀{xs:List V} {us:List Value} (i:Nat),k8 xs us->k8 (xs.set i x) (us.set i u)
 |_,_,_,.nil=>.nil
 |_,_,0,.cons _ t=>.cons r t
 |_,_,i+1,.cons q t=>.cons q (k8.set r i t)
theorem k8.append:∀{xs ys:List V} {us ws:List Value},k8 xs us->k8 ys ws->k8 (xs++ys) (us++ws)
 |_,_,_,_,.nil,s=>s
 |_,_,_,_,.cons r t,s=>.cons r (k8.append t s)
theorem k8.take:∀{xs:List V} {us:List Value} (n:Nat),k8 xs us->k8 (xs.take n) (us.take n)
 |_,_,0,_=>.nil
 |_,_,_+1,.nil=>.nil
 |_,_,n+1,.cons r t=>.cons r (k8.take n t)
theorem k8.drop:∀{xs:List V} {us:List Value} (n:Nat),k8 xs us->k8 (xs.drop n) (us.drop n)
 |_,_,0,r=>r
 |_,_,_+1,.nil=>.nil
 |_,_,n+1,.cons _ t=>k8.drop n t
def U3:Option V->Option Value->Prop
 |some v,some u=>n9 v u
 |none,none=>True
 |_,_=>False
def KV{κ:Type}:List (κ×V)->List (κ×Value)->Prop:=Paired fun(p:κ×V) (q:κ×Value)=>p.1=q.1/\n9 p.2 q.2
noncomputable def kV:Key->V
 |.inl i=>.int i
 |.inr x=>.str x
inductive HO where
 /-- a list -/
 |lst (xs:List V)
 /-- a tuple (never changes) -/
 |tup (xs:List V)
 /-- a dict whose keys are ints and texts; one whose keys are tuples of ints and texts (the empty one is both) -/
 |dK (kvs:List (Key×V))|dT (kvs:List (List Key×V))
 /-- a set of ints: its members, its size -/
 |set (S:Int->Bool) (n:Nat)
 /-- an instance of the class at C, its dict at dx, its attributes -/
 |ins (C dx:Addr) (fs:List (Str×V))
 /-- the dict of the instance at x -/
 |own (x:Addr)
 /-- the dict of an exception -/
 |xd (fs:List (Str×V))
 /-- a bound method, f of x -/
 |met (f x:Addr)
 /-- a range object lo, lo + 1, .. below hi -/
 |rng (lo hi:Int)
 /-- a thing that is known to the object (the script; a dict while a loop walks it): read, never written while it is so -/
 |frz (o:Obj) (u:HO)
 /-- a code object's table -/
 |tbl (ps:Array Value)
 /-- any other thing, by what is true of its one object (a def of one's own: SetO a S n := HO.ext fun h => ..) -/
 |ext (φ:Heap->Prop)
abbrev Hp:=Addr->Option HO
noncomputable def upd(H:Hp)(a:Addr)(o:HO):Hp:=fun b=>if b=a then some o else H b
variable{H:Hp}{a:Addr}{o:HO}
theorem c9:upd H a o a=some o:=by unfold upd;rw[ay rfl]
variable{b:Addr}
theorem g9(h:b≠a):upd H a o b=H b:=by unfold upd;rw[az h]
theorem b7s{u:HO}(h:H a=some o)(h':H b=some u)(d:o≠u):a≠b:=by
 intro e;subst e;rw[h] at h';exact d (ax h')
theorem o0(h:H a=some o)(h':H b=none):a≠b:=by
 intro e;subst e;rw[h] at h';cases h'
def a1m(h:Heap)(a:Addr)(items:Array Value):Prop:=∃o,h.get? a=some o/\o.cls=.type "tuple"/\o.dict=none/\∃n,o.data=.seq items n
theorem a1m.tup{h:Heap}{a:Addr}{items:Array Value}(x:a1m h a items):IsTup h a items:=let⟨o,e,c,_,n⟩:=x;⟨o,e,c,n⟩
theorem a1m.new(h:Heap)(items:Array Value):a1m (h.push {cls:=.type "tuple",data:=.seq items}) h.objs.size items:=⟨_,Heap.get?_push_size _ rfl,rfl,rfl,_,rfl⟩
section
variable(P:Program)(w:World)
def v7(H:Hp)(h:Heap)(a:Addr):HO->Prop
 |.lst xs=>xs.length<=sizeLine/\∃(its:List Value) (n:Nat),k8 xs its/\h.get? a=some {cls:=.type "list",data:=.seq its.toArray n}
 |.tup xs=>xs.length<=sizeLine/\∃its:List Value,k8 xs its/\a1m h a its.toArray
 |.dK kvs=>kvs.length<=sizeLine/\(a==sysModules)=false/\∃vs,KV kvs vs/\h.DictOf (v8 P w) a vs
 |.dT kvs=>kvs.length<=sizeLine/\(a==sysModules)=false/\∃xs:List (List Key×Addr×Value),
  Paired (fun(p:List Key×V) (q:List Key×Addr×Value)=>p.1=q.1/\H q.2.1=some (.tup (p.1.map kV))/\n9 p.2 q.2.2) kvs xs∧
  ∃o es ep,h.get? a=some o/\o.ExactDict/\o.data=.dict es ep/\es.toList=xs.map (entryOfKey (tupleKind (v8 P w)))/\(xs.map (·.1)).Nodup
 |.set S n=>h.SetOf (intKind P w) a S n
 |.ins C dx fs=>H dx=some (.own a)/\fs.length<=1000/\dx≠a/\h.get? a=some (PySem.W.instObj C dx)∧
  ∃mA,h.Ns1 dx mA/\(∀f,U3 (fs.lookup f) (mA f))/\PySem.Within mA (fs.map (·.1))
 |.own _=>∃o,h.get? a=some o
 |.xd fs=>∃mA,h.Ns1 a mA/\∀f,U3 (fs.lookup f) (mA f)
 |.rng lo hi=>∃t u v,h.get? a=some {cls:=.type "range",data:=.fields #[.int lo t,.int hi u,.int 1 v]}
 |.frz o u=>h.get? a=some o/\v7 H h a u
 |.tbl ps=>h.get? a=some {cls:=.none,data:=.fields ps}
 |.met f x=>h.get? a=some (PySem.W.methodObj (.ref f) (.ref x))
 |.ext φ=>φ h/\(∃o,h.get? a=some o)/\∀h1 h2:Heap,φ h1->(∀o,h1.get? a=some o->h2.get? a=some o)->φ h2
def HOk(H:Hp)(h:Heap):Prop:=∀a o,H a=some o->v7 P w H h a o
end
variable{α:Type}
section
variable{P:Program}{w:World}{H':Hp}{h h':Heap}
theorem v7.lt(x:v7 P w H h a o):a<h.objs.size:=by
 cases o with
 |lst xs=>obtain⟨_,_,_,_,e⟩:=x;exact Heap.lt_size e
 |tup xs=>obtain⟨_,_,_,p⟩:=x;exact p.tup.lt
 |dK kvs=>obtain⟨_,_,_,_,o,_,_,e,_⟩:=x;exact Heap.lt_size e
 |dT kvs=>obtain⟨_,_,_,_,o,_,_,e,_⟩:=x;exact Heap.lt_size e
 |set S n=>obtain⟨o,_,_,_,e,_⟩:=x;exact Heap.lt_size e
 |ins C dx fs=>obtain⟨_,_,_,e,_⟩:=x;exact Heap.lt_size e
 |own y=>obtain⟨_,e⟩:=x;exact Heap.lt_size e
 |xd fs=>obtain⟨_,⟨_,_,_,e,_⟩,_⟩:=x;exact Heap.lt_size e
 |rng lo hi=>obtain⟨_,_,_,e⟩:=x;exact Heap.lt_size e
 |frz ob u=>obtain⟨e,_⟩:=x;exact Heap.lt_size e
 |tbl ps=>exact Heap.lt_size (show h.get? a=some _ from x)
 |met f y=>exact Heap.lt_size (show h.get? a=some _ from x)
 |ext φ=>obtain⟨_,⟨_,e⟩,_⟩:=x;exact Heap.lt_size e
theorem Paired.mapP{α β:Type}{F G:α->β->Prop}:∀{l₁:List α} {l₂:List β},Paired F l₁ l₂->(∀a b,F a b->G a b)->Paired G l₁ l₂
 |_,_,.nil,_=>.nil
 |_,_,.cons r t,f=>.cons (f _ _ r) (Paired.mapP t f)
theorem v7.stay(x:v7 P w H h a o)(k:∀b u,(b=a∨H b=some (.own a))->h.get? b=some u->h'.get? b=some u)
 (ho:∀b,H b=some (.own a)->H' b=some (.own a)) (ht:∀b xs,H b=some (.tup xs)->H' b=some (.tup xs)):v7 P w H' h' a o:=by
 induction o with
 |lst xs=>obtain⟨z,its,n,r,e⟩:=x;exact⟨z,its,n,r,k _ _ (.inl rfl) e⟩
 |tup xs=>obtain⟨z,its,r,ob,e,c⟩:=x;exact⟨z,its,r,ob,k _ _ (.inl rfl) e,c⟩
 |dK kvs=>obtain⟨z,y,vs,r,ob,es,ep,e,c⟩:=x;exact⟨z,y,vs,r,ob,es,ep,k _ _ (.inl rfl) e,c⟩
 |dT kvs=>
  obtain⟨z,y,xs,r,ob,es,ep,e,c⟩:=x;exact⟨z,y,xs,Paired.mapP r fun p q z=>⟨z.1,ht _ _ z.2.1,z.2.2⟩,ob,es,ep,k _ _ (.inl rfl) e,c⟩
 |set S n=>obtain⟨ob,es,ep,t,e,c⟩:=x;exact⟨ob,es,ep,t,k _ _ (.inl rfl) e,c⟩
 |ins C dx fs=>
  obtain⟨d,z,ne,e,mA,⟨od,es,ep,e2,c⟩,r⟩:=x;exact⟨ho _ d,z,ne,k _ _ (.inl rfl) e,mA,⟨od,es,ep,k _ _ (.inr d) e2,c⟩,r⟩
 |own y=>obtain⟨ob,e⟩:=x;exact⟨ob,k _ _ (.inl rfl) e⟩
 |xd fs=>obtain⟨mA,⟨od,es,ep,e,c⟩,r⟩:=x;exact⟨mA,⟨od,es,ep,k _ _ (.inl rfl) e,c⟩,r⟩
 |rng lo hi=>obtain⟨t,u,v,e⟩:=x;exact⟨t,u,v,k _ _ (.inl rfl) e⟩
 |frz ob u ih=>obtain⟨e,q⟩:=x;exact⟨k _ _ (.inl rfl) e,ih q⟩
 |tbl ps=>
  have e:h.get? a=some {cls:=.none,data:=.fields ps}:=x
  show h'.get? a=some {cls:=.none,data:=.fields ps}
  exact k a _ (.inl rfl) e
 |met f y=>
  have e:h.get? a=some (PySem.W.methodObj (.ref f) (.ref y)):=x
  show h'.get? a=some (PySem.W.methodObj (.ref f) (.ref y))
  exact k a _ (.inl rfl) e
 |ext φ=>obtain⟨p,⟨o,e⟩,st⟩:=x;exact⟨st _ _ p fun o q=>k _ _ (.inl rfl) q,⟨o,k _ _ (.inl rfl) e⟩,st⟩
theorem HOk.lt(x:HOk P w H h)(e:H a=some o):a<h.objs.size:=(x a o e).lt
theorem HOk.fresh(x:HOk P w H h)(e:h.objs.size<=a):H a=none:=by
 cases q:H a with
 |none=>rfl
 |some u=>exact absurd (aC (x.lt q) e) (aN _)
theorem HOk.kept(x:HOk P w H h)(k:∀b u,h.get? b=some u->h'.get? b=some u):HOk P w H h':=fun a o e=>
 (x a o e).stay (fun b u _ q=>k b u q) (fun _ q=>q) fun _ _ q=>q
theorem HOk.laid(x:HOk P w H h)(k:∀b u,h.get? b=some u->h'.get? b=some u)(hp:h.objs.size<=a)(new:v7 P w (upd H a o) h' a o):HOk P w (upd H a o) h':=fun b u e=>by
 have hn:=x.fresh hp
 by_cases hb:b=a
 · subst hb;rw[c9] at e;cases e;exact new
 · rw[g9 hb] at e;exact(x b u e).stay (fun c v _ q=>k c v q) (fun c q=>by rw[g9 (o0 q hn)];exact q) fun c xs q=>by rw[g9 (o0 q hn)];exact q
end
def Rd(H:Hp)(a:Addr)(u:HO):Prop:=H a=some u∨∃o,H a=some (.frz o u)
variable{P:Program}{w:World}{h:Heap}
theorem Rd.ok{u:HO}(r:Rd H a u)(x:HOk P w H h):v7 P w H h a u:=by
 rcases r with r|⟨o,r⟩
 · exact x a u r
 · obtain⟨_,q⟩:=x a _ r;exact q
def Mut:Option HO->Prop
 |some (.lst _)=>True
 |some (.dK _)=>True
 |some (.dT _)=>True
 |some (.set _ _)=>True
 |some (.ins _ _ _)=>True
 |some (.ext _)=>True
 |_=>False
section
variable{h':Heap}{x e:Addr}{o':HO}
theorem HOk.write(ok:HOk P w H h)(mu:Mut (H x))(he:e=x∨H e=some (.own x))(k:∀b u,b≠e->h.get? b=some u->h'.get? b=some u)(heo:∃u,h'.get? e=some u)
 (new:v7 P w (upd H x o') h' x o'):HOk P w (upd H x o') h':=fun b u q=>by
 have nown:∀c y,H c=some (.own y)->c≠x:=fun c y r z=>by subst z;rw[r] at mu;exact mu
 have ntup:∀c xs,H c=some (.tup xs)->c≠x:=fun c xs r z=>by subst z;rw[r] at mu;exact mu
 by_cases hb:b=x
 · subst hb;rw[c9] at q;cases q;exact new
 · rw [g9 hb] at q
   by_cases hbe:b=e
   · have q':H b=some (.own x):=by
      rcases he with z|z
      · exact absurd (hbe.trans z) hb
      · rw[hbe];exact z
     rw[q] at q';cases q'
     obtain⟨v,hv⟩:=heo;exact⟨v,by rw[hbe];exact hv⟩
   · refine(ok b u q).stay (fun c v hc r=>k c v ?_ r) (fun c r=>by rw[g9 (nown c b r)];exact r) fun c xs r=>by rw[g9 (ntup c xs r)];exact r
     rcases hc with rfl|hc
     · exact hbe
     · rintro rfl
       rcases he with z|z
       · exact nown c b hc z
       · rw[hc] at z;cases z;exact hb rfl
end
structure Un(fs ex:List Addr)(H H':Hp)(h h':Heap):Prop where
 keep:∀b o,h.get? b=some o->H b=none->b∉fs->b∉ex->h'.get? b=some o
 slot:∀b o,h.get? b=some o->H b=none->b∈fs->b∉ex->∃sl,h'.get? b=some {o with slots:=sl}
 free:∀b o,h.get? b=some o->H b=none->b∉ex->H' b=none
 there:∀b o,h.get? b=some o->b∉ex->∃o',h'.get? b=some o'
 tups:∀b xs,H b=some (.tup xs)->H' b=some (.tup xs)
 frzs:∀b o u,H b=some (.frz o u)->H' b=some (.frz o u)
 tbls:∀b ps,H b=some (.tbl ps)->∃more,H' b=some (.tbl (ps++more))
section
variable{fs fs' ex ex':List Addr}{H1 H2:Hp}{h1 h2 h':Heap}{x e:Addr}
theorem Un.any(u:Un fs ex H H1 h h1){ob:Obj}(q:h.get? b=some ob)(n:H b=none)(hx:b∉ex):∃sl,h1.get? b=some {ob with slots:=sl}:=by
 by_cases hb:b∈fs
 · exact u.slot b ob q n hb hx
 · exact⟨ob.slots,u.keep b ob q n hb hx⟩
theorem Un.kept(k:∀b u,h.get? b=some u->h'.get? b=some u):Un fs ex H H h h':=
 ⟨fun b ob q _ _ _=>k b ob q,fun b ob q _ _ _=>⟨ob.slots,k b ob q⟩,fun _ _ _ n _=>n,fun b ob q _=>⟨ob,k b ob q⟩,fun _ _ q=>q,fun _ _ _ q=>q,fun _ ps q=>⟨#[],by rw[q];simp⟩⟩
theorem Un.refl:Un fs ex H H h h:=Un.kept fun _ _ q=>q
theorem Un.laid(k:∀b u,h.get? b=some u->h'.get? b=some u)(hp:h.objs.size<=a)(hn:H a=none):Un fs ex H (upd H a o) h h' where
 keep:=fun b u q _ _ _=>k b u q
 slot:=fun b u q _ _ _=>⟨u.slots,k b u q⟩
 free:=fun b u q n _=>by rw[g9 (Nat.ne_of_lt (aC (Heap.lt_size q) hp))];exact n
 there:=fun b u q _=>⟨u,k b u q⟩
 tups:=fun b xs q=>by rw[g9 (o0 q hn)];exact q
 frzs:=fun b u xs q=>by rw[g9 (o0 q hn)];exact q
 tbls:=fun b ps q=>⟨#[],by rw[g9 (o0 q hn),q];simp⟩
theorem Un.write(mu:Mut (H x))(he:e=x∨H e=some (.own x))(k:∀b u,b≠e->h.get? b=some u->h'.get? b=some u)(heo:∃u,h'.get? e=some u):Un fs ex H (upd H x o) h h':=by
 have hx:∀b,H b=none->b≠x:=fun b n z=>by subst z;rw[n] at mu;exact mu
 have hb:∀b,H b=none->b≠e:=fun b n z=>by
  subst z
  rcases he with r|r
  · exact hx b n r
  · rw[n] at r;cases r
 have hm:∀b u,H b=some u->¬Mut (some u)->b≠x:=fun b u q nm z=>by subst z;rw[q] at mu;exact nm mu
 refine⟨fun b u q n _ _=>k b u (hb b n) q,fun b u q n _ _=>⟨u.slots,k b u (hb b n) q⟩,fun b u q n _=>by rw[g9 (hx b n)];exact n,fun b u q _=>?_,
  fun b xs q=>by rw[g9 (hm b _ q fun z=>z)];exact q,fun b u xs q=>by rw[g9 (hm b _ q fun z=>z)];exact q,fun b ps q=>⟨#[],by rw[g9 (hm b _ q fun z=>z),q];simp⟩⟩
 by_cases hbe:b=e
 · subst hbe;exact heo
 · exact⟨u,k b u hbe q⟩
end
noncomputable def trk(h:Heap)(H:Hp):List Addr:=(List.range h.objs.size).filter fun a=>(H a).isSome
def a4g(h:Heap)(H:Hp):Heap:=PySem.W.hideAll h (trk h H)
theorem a8g(h:Heap)(H:Hp):(a4g h H).objs.size=h.objs.size:=PySem.W.hideAll_size _ _
theorem b0c{o:Obj}(e:h.get? b=some o)(n:H b=none):(a4g h H).get? b=some o:=
 PySem.W.hideAll_get _ e fun hm=>by
  have q:(H b).isSome=true:=(bc.mp hm).2
  rw[n] at q;simp at q
theorem b2o{o:Obj}(e:(a4g h H).get? b=some o):h.get? b=some o/\H b=none:=by
 have e':h.get? b=some o:=PySem.W.of_hideAll (trk h H) e
 refine⟨e',?_⟩
 cases q:H b with
 |none=>rfl
 |some x=>
  have hm:b∈trk h H:=bc.mpr ⟨aL.mpr (Heap.lt_size e'),by simp[q]⟩
  have z:(a4g h H).get? b=none:=PySem.W.hideAll_none (trk h H) hm
  rw[z] at e;cases e
noncomputable def b3q(g h:Heap)(L:Addr):List (Addr×Obj):=(List.range h.objs.size).filterMap fun a=>if a=L∨(g.get? a).isSome=true then none else(h.get? a).map fun o=>(a,o)
variable{g:Heap}{L:Addr}
def i6(g h:Heap)(L d:Addr):List (Addr×Obj):=(b3q g h L).filter fun p=>decide (p.1≠d)
variable{d:Addr}{h':Heap}{m:Str->Option Value}
structure Mod(K:PySem.W.Frag)(mg:Str->Option Value)(base:Heap):Prop where
 kin:K.In base
 glob:base.Ns mainGlobals mg
 blt:∃mb,base.Ns builtinsNs mb/\∀x:Str,x≠"__name__"->mb x=bootBuiltins x
 nolimit:base.NoLimit
structure Cx where
 prog:Program
 w:World
 K:PySem.W.Frag
 mg:Str->Option Value
 base:Heap
 A:Around
 N:List Str
 s₀:Shared
 H₀:Hp
 env:Env
 outer:List Env
 stack:List Env
 ex:List Addr
 fn:Str->Bool
 calm:Bool
 pn:List (Addr×Obj)
 xe:Value->Shared->Prop
noncomputable def frs(l:List Env):List Addr:=l.filterMap (·.frame)
abbrev Cx.fs(X:Cx):List Addr:=frs X.outer
def Vis(sc:Scope)(x:Str):Prop:=sc.names.lookup x=some .local∨sc.names.lookup x=some .cell∨sc.names.lookup x=some .free
def Loc(sc:Scope)(x:Str):Prop:=sc.names.lookup x=some .local∨sc.names.lookup x=some .cell
def b8T(env:Env)(h:Heap)(m:Str->Option Value)(x:Str)(u:Value):Prop:=
 (env.kindOf x=some .local/\m x=some u)∨((env.kindOf x=some .cell∨env.kindOf x=some .free)/\∃c,env.cells.lookup x=some c/\h.IsCell c (some u))
structure Cx.Ok(X:Cx):Prop where
 mod:Mod X.K X.mg X.base
 kind:X.env.scope.kind=.function
 glob:X.env.globals=mainGlobals
 blt:X.env.builtins=builtinsNs
 above:X.s₀.heap.objs.size<=X.env.locals
 inj:∀x y c,X.env.cells.lookup x=some c->X.env.cells.lookup y=some c->x=y
 has:∀x,(X.env.kindOf x=some .cell∨X.env.kindOf x=some .free)->∃c,X.env.cells.lookup x=some c
 cab:∀x c,X.fn x=true->X.env.cells.lookup x=some c->X.s₀.heap.objs.size<=c
 hd:X.calm=true->X.A.handled=none
 frames:X.A.frames=some X.stack
 stk:X.stack=X.outer∨(X.stack=X.env::X.outer/\X.env.frame=some X.env.locals)
 exf:∀b∈X.ex,b≠X.env.locals/\∀x c,X.env.cells.lookup x=some c->c≠b
 bs:∀b o,X.base.get? b=some o->X.s₀.heap.get? b=some o/\X.H₀ b=none
 bsz:X.base.objs.size<=X.s₀.heap.objs.size
 noex:∀b o,X.base.get? b=some o->b∉X.ex
 exfs:∀b∈X.ex,b∉X.fs
 funs:X.s₀.heap.FunFrames X.base X.outer
 frf:∀b∈X.fs,X.H₀ b=none
structure Inv(X:Cx)(pins:List (Addr×Obj))(σ:List (Option V))(H:Hp)(s:Shared):Prop where
 ok:X.Ok
 os:s.os=X.s₀.os
 bare:AllBare s.gens
 base:Un X.fs X.ex X.H₀ H X.s₀.heap s.heap
 loc:∃m,s.heap.Ns X.env.locals m/\∀(i:Nat) (x:Str) (v:V),X.N[i]? =some x->σ[i]? =some (some v)->Vis X.env.scope x->∃u,n9 v u/\b8T X.env s.heap m x u
 cell:∀x c,X.env.cells.lookup x=some c->∃v,s.heap.IsCell c v
 free:H X.env.locals=none
 freeC:∀x c,X.env.cells.lookup x=some c->H c=none
 pin:∀p∈X.pn++pins,s.heap.get? p.1=some p.2/\H p.1=none/\p.1≠X.env.locals/\p.1∉X.fs/\∀v,p.2.data≠.cell v
 hok:HOk X.prog X.w H s.heap
 len:σ.length=X.N.length
variable{g':Array GenState}{ch:List Addr}{it:Addr}{N:List Str}{i:Nat}{j:Nat}{x:Str}{M:Model}{A:Around}{v:V}{u:Value}{s':Shared}
section
variable{X:Cx}{pins:List (Addr×Obj)}{σ:List (Option V)}{H':Hp}{s:Shared}
theorem Cx.Ok.nofr(ok:X.Ok){o:Obj}(e:X.base.get? b=some o):b∉X.fs:=fun hb=>by
 have:=(ok.funs.mem hb).1
 rw[e] at this;cases this
theorem Inv.bs(I:Inv X pins σ H s):∀b o,X.base.get? b=some o->s.heap.get? b=some o/\H b=none:=fun b o e=>
 ⟨I.base.keep b o (I.ok.bs b o e).1 (I.ok.bs b o e).2 (I.ok.nofr e) (I.ok.noex b o e),I.base.free b o (I.ok.bs b o e).1 (I.ok.bs b o e).2 (I.ok.noex b o e)⟩
theorem Inv.bk(I:Inv X pins σ H s):∀b o,X.base.get? b=some o->s.heap.get? b=some o:=fun b o e=>(I.bs b o e).1
theorem Inv.mod(I:Inv X pins σ H s):Mod X.K X.mg X.base:=I.ok.mod
theorem Inv.kIn(I:Inv X pins σ H s):X.K.In s.heap:=I.ok.mod.kin.keeps I.bk
theorem Inv.lt(I:Inv X pins σ H s):X.env.locals<s.heap.objs.size:=let⟨_,hn,_⟩:=I.loc;hn.lt
theorem Inv.sz(I:Inv X pins σ H s):X.s₀.heap.objs.size<=s.heap.objs.size:=aO I.ok.above (Nat.le_of_lt I.lt)
theorem Inv.nofs(I:Inv X pins σ H s)(h:s.heap.objs.size<=a):a∉X.fs:=fun hb=>by
 obtain⟨_,o,ho,_⟩:=I.ok.funs.mem hb;exact absurd (aC (Heap.lt_size ho) (aO I.sz h)) (aN _)
theorem Inv.cne(I:Inv X pins σ H s):∀x c,X.env.cells.lookup x=some c->c≠X.env.locals:=fun x c e z=>by
 obtain⟨v,o,ho,hd⟩:=I.cell x c e;obtain⟨m,⟨o',es,ep,ho',hd',_⟩,_⟩:=I.loc;rw[z,ho'] at ho;cases ho;rw[hd'] at hd;cases hd
theorem Inv.funs(I:Inv X pins σ H s):s.heap.FunFrames X.base X.outer:=by
 have all:∀(l:List Env),(∀b∈frs l,b∈X.fs)->X.s₀.heap.FunFrames X.base l->s.heap.FunFrames X.base l:=by
  intro l
  induction l with
  |nil=>intro _ _;trivial
  |cons env r ih=>
   intro hs hl;obtain⟨hk,⟨L,o,hf,hn,ho,hd⟩,hr⟩:=hl
   have hL:L∈X.fs:=hs L (by unfold frs;rw[List.filterMap_cons,hf];exact aU)
   obtain⟨sl,e⟩:=I.base.slot L o ho (I.ok.frf L hL) hL fun z=>I.ok.exfs L z hL
   exact⟨hk,⟨L,_,hf,hn,e,hd⟩,ih (fun b hb=>hs b (by unfold frs;rw[List.filterMap_cons,hf];exact aD _ hb)) hr⟩
 exact all X.outer (fun _ hb=>hb) I.ok.funs
theorem Inv.stack(I:Inv X pins σ H s):s.heap.FunFrames X.base X.stack:=by
 rcases I.ok.stk with e|⟨e,hf⟩
 · rw[e];exact I.funs
 · rw[e];obtain⟨m,hn,_⟩:=I.loc;refine .cons (by rw[I.ok.kind];decide) hf hn ?_ I.funs
   exact Heap.get?_none_of_le (aO I.ok.bsz I.ok.above)
theorem Inv.stkSub(I:Inv X pins σ H s):∀b∈frs X.stack,b∈X.env.locals::X.fs:=fun b hb=>by
 rcases I.ok.stk with e|⟨e,hf⟩
 · rw[e] at hb;exact aD _ hb
 · rw[e] at hb;unfold frs at hb;rw[List.filterMap_cons,hf] at hb;exact hb
theorem Inv.stkFree(I:Inv X pins σ H s):∀b∈frs X.stack,H b=none:=fun b hb=>by
 rcases aE.mp (I.stkSub b hb) with e|hb
 · rw[e];exact I.free
 · obtain⟨_,o,ho,_⟩:=I.ok.funs.mem hb;exact I.base.free b o ho (I.ok.frf b hb) fun z=>I.ok.exfs b z hb
theorem Inv.step{t':Nat}{d':Drawn}(I:Inv X pins σ H s)
 (hch:∀b∈ch,(b∈X.ex∨X.s₀.heap.objs.size<=b)/\b≠X.env.locals/\(∀x c,X.env.cells.lookup x=some c->c≠b)/\∀p∈X.pn++pins,p.1≠b)
 (keep:∀b o,b≠X.env.locals->b∉X.fs->b∉ch->s.heap.get? b=some o->H b=none->h'.get? b=some o)
 (slot:∀b o,b≠X.env.locals->b∈X.fs->b∉ch->s.heap.get? b=some o->H b=none->∃sl,h'.get? b=some {o with slots:=sl}) (free:∀b o,b∉ch->s.heap.get? b=some o->H b=none->H' b=none)
 (there:∀b o,b∉ch->s.heap.get? b=some o->∃o',h'.get? b=some o')
 (tups:∀b xs,H b=some (.tup xs)->H' b=some (.tup xs)) (frzs:∀b o u,H b=some (.frz o u)->H' b=some (.frz o u)) (tbls:∀b ps,H b=some (.tbl ps)->∃more,H' b=some (.tbl (ps++more)))
 (ns:∀m,s.heap.Ns X.env.locals m->h'.Ns X.env.locals m) (hok:HOk X.prog X.w H' h') (hg:AllBare g'):
 Inv X pins σ H' {s with heap:=h',gens:=g',drawn:=d',toks:=t'}:=by
 have neL:∀b o,X.s₀.heap.get? b=some o->b≠X.env.locals:=fun b o e=>Nat.ne_of_lt (aC (Heap.lt_size e) I.ok.above)
 have neC:∀b o,X.s₀.heap.get? b=some o->b∉X.ex->b∉ch:=fun b o e hx hb=>by
  rcases(hch b hb).1 with z|z
  · exact hx z
  · exact absurd (aC (Heap.lt_size e) z) (aN _)
 have cellK:∀x c,X.env.cells.lookup x=some c->∀v,s.heap.IsCell c v->h'.IsCell c v:=fun x c e v ⟨o,ho,hd⟩=>by
  have nch:c∉ch:=fun z=>(hch c z).2.2.1 x c e rfl
  by_cases hc:c∈X.fs
  · obtain⟨sl,q⟩:=slot c o (I.cne x c e) hc nch ho (I.freeC x c e);exact⟨_,q,hd⟩
  · exact⟨o,keep c o (I.cne x c e) hc nch ho (I.freeC x c e),hd⟩
 refine⟨I.ok,I.os,hg,⟨fun b o e n hb hx=>?_,fun b o e n hb hx=>?_,fun b o e n hx=>?_,fun b o e hx=>?_,fun b xs e=>tups b xs (I.base.tups b xs e),fun b o xs e=>frzs b o xs (I.base.frzs b o xs e),fun b ps e=>?_⟩,?_,fun x c e=>?_,?_,fun x c e=>?_,fun p hp=>?_,hok,I.len⟩
 · exact keep b o (neL b o e) hb (neC b o e hx) (I.base.keep b o e n hb hx) (I.base.free b o e n hx)
 · obtain⟨sl,e1⟩:=I.base.slot b o e n hb hx;obtain⟨sl',e2⟩:=slot b _ (neL b o e) hb (neC b o e hx) e1 (I.base.free b o e n hx);exact⟨sl',e2⟩
 · obtain⟨o',e1⟩:=I.base.there b o e hx;exact free b o' (neC b o e hx) e1 (I.base.free b o e n hx)
 · obtain⟨o',e1⟩:=I.base.there b o e hx;exact there b o' (neC b o e hx) e1
 · obtain⟨m1,e1⟩:=I.base.tbls b ps e;obtain⟨m2,e2⟩:=tbls b _ e1;exact⟨m1++m2,by rw[e2,Array.append_assoc]⟩
 · obtain⟨m,hn,hl⟩:=I.loc;refine⟨m,ns m hn,fun i x v e1 e2 e3=>?_⟩
   obtain⟨u,r,l⟩:=hl i x v e1 e2 e3;refine⟨u,r,?_⟩
   rcases l with l|⟨k,c,e,z⟩
   · exact .inl l
   · exact .inr ⟨k,c,e,cellK x c e _ z⟩
 · obtain⟨v,z⟩:=I.cell x c e;exact⟨v,cellK x c e v z⟩
 · obtain⟨m,⟨o,_,_,ho,_⟩,_⟩:=I.loc;exact free _ o (fun z=>(hch _ z).2.1 rfl) ho I.free
 · obtain⟨v,o,ho,hd⟩:=I.cell x c e;exact free c o (fun z=>(hch c z).2.2.1 x c e rfl) ho (I.freeC x c e)
 · obtain⟨e,n,ne,nf,d⟩:=I.pin p hp
   have nch:p.1∉ch:=fun z=>(hch p.1 z).2.2.2 p hp rfl
   exact⟨keep p.1 p.2 ne nf nch e n,free p.1 p.2 nch e n,ne,nf,d⟩
theorem Inv.un{t':Nat}(I:Inv X pins σ H s)(u:Un X.fs [] H H' s.heap h')(hok:HOk X.prog X.w H' h'):Inv X pins σ H' {s with heap:=h',toks:=t'}:=by
 obtain⟨m,⟨o,es,ep,ho,r⟩,_⟩:=id I.loc;obtain⟨sl,hL⟩:=u.any ho I.free (by simp)
 exact I.step (g':=s.gens) (d':=s.drawn) (ch:=[]) (fun _ z=>nomatch z) (fun b o _ hb _ e n=>u.keep b o e n hb (by simp)) (fun b o _ hb _ e n=>u.slot b o e n hb (by simp)) (fun b o _ e n=>u.free b o e n (by simp)) (fun b o _ e=>u.there b o e (by simp)) u.tups u.frzs u.tbls (fun m' hm=>by
  obtain⟨o',es',ep',ho',r'⟩:=hm;rw[ho] at ho';cases ho'
  exact⟨_,es',ep',hL,r'⟩) hok I.bare
theorem Inv.call{t':Nat}{d':Drawn}(I:Inv X pins σ H s)(u:Un (frs X.stack) ch H H' s.heap h')(hok:HOk X.prog X.w H' h')(hg:AllBare g')
 (hch:∀b∈ch,(b∈X.ex∨X.s₀.heap.objs.size<=b)/\b≠X.env.locals/\(∀x c,X.env.cells.lookup x=some c->c≠b)/\∀p∈X.pn++pins,p.1≠b):
 Inv X pins σ H' {s with heap:=h',gens:=g',drawn:=d',toks:=t'}:=by
 obtain⟨m,⟨o,es,ep,ho,r⟩,_⟩:=id I.loc;obtain⟨sl,hL⟩:=u.any ho I.free fun z=>(hch _ z).2.1 rfl
 exact I.step (ch:=ch) hch (fun b o hL hb hc e n=>u.keep b o e n (fun z=>(aE.mp (I.stkSub b z)).elim hL hb) hc) (fun b o _ _ hc e n=>u.any e n hc) (fun b o hc e n=>u.free b o e n hc) (fun b o hc e=>u.there b o e hc) u.tups u.frzs u.tbls (fun m' hm=>by
  obtain⟨o',es',ep',ho',r'⟩:=hm;rw[ho] at ho';cases ho'
  exact⟨_,es',ep',hL,r'⟩) hok hg
theorem Inv.turned{t':Nat}(I:Inv X pins σ H s)(k:∀b o,b≠it->s.heap.get? b=some o->h'.get? b=some o)(hn:H it=none)(hL:it≠X.env.locals)
 (h1:it∈X.ex∨X.s₀.heap.objs.size<=it) (h2:∀x c,X.env.cells.lookup x=some c->c≠it) (h3:∀p∈X.pn++pins,p.1≠it):Inv X pins σ H {s with heap:=h',toks:=t'}:=by
 have nit:∀b u,H b=some u->b≠it:=fun b u e z=>by rw[z,hn] at e;cases e
 refine I.step (g':=s.gens) (d':=s.drawn) (ch:=[it]) (fun b hb=>?_) (fun b o _ _ hc e _=>k b o (fun z=>hc (by simp[z])) e) (fun b o _ _ hc e _=>⟨o.slots,k b o (fun z=>hc (by simp[z])) e⟩) (fun _ _ _ _ n=>n)
  (fun b o hc e=>⟨o,k b o (fun z=>hc (by simp[z])) e⟩) (fun _ _ e=>e) (fun _ _ _ e=>e) (fun b ps e=>⟨#[],by rw[e];simp⟩) (fun m hm=>?_) (fun b u e=>?_) I.bare
 · have e:b=it:=by simpa using hb
   subst e;exact⟨h1,hL,h2,h3⟩
 · obtain⟨o,es,ep,ho,r⟩:=hm;exact⟨o,es,ep,k _ o (Ne.symm hL) ho,r⟩
 · refine(I.hok b u e).stay (fun c v hc q=>k c v ?_ q) (fun _ q=>q) fun _ _ q=>q
   rcases hc with z|z
   · rw[z];exact nit b u e
   · exact nit c _ z
theorem Inv.tok(I:Inv X pins σ H s)(t:Nat):Inv X pins σ H {s with toks:=t}:=I.un (h':=s.heap) (t':=t) Un.refl I.hok
theorem Inv.kept{t':Nat}(I:Inv X pins σ H s)(k:∀b u,s.heap.get? b=some u->h'.get? b=some u):Inv X pins σ H {s with heap:=h',toks:=t'}:=I.un (Un.kept k) (I.hok.kept k)
theorem Inv.laid{t':Nat}(I:Inv X pins σ H s)(k:∀b u,s.heap.get? b=some u->h'.get? b=some u)(hp:s.heap.objs.size<=a)(new:v7 X.prog X.w (upd H a o) h' a o):
 Inv X pins σ (upd H a o) {s with heap:=h',toks:=t'}:=I.un (Un.laid k hp (I.hok.fresh hp)) (I.hok.laid k hp new)
theorem Inv.write{x e:Addr}{t':Nat}(I:Inv X pins σ H s)(mu:Mut (H x))(he:e=x∨H e=some (.own x))(k:∀b u,b≠e->s.heap.get? b=some u->h'.get? b=some u)(heo:∃u,h'.get? e=some u)
 (new:v7 X.prog X.w (upd H x o) h' x o):Inv X pins σ (upd H x o) {s with heap:=h',toks:=t'}:=I.un (Un.write mu he k heo) (I.hok.write mu he k heo new)
theorem Inv.weak{σ':List (Option V)}(I:Inv X pins σ H s)(hl:σ'.length=σ.length)(w:∀(i:Nat) v,σ'[i]? =some (some v)->σ[i]? =some (some v)):Inv X pins σ' H s:=
 ⟨I.ok,I.os,I.bare,I.base,let⟨m,hn,hl'⟩:=I.loc;⟨m,hn,fun i x v e1 e2 e3=>hl' i x v e1 (w i v e2) e3⟩,I.cell,I.free,I.freeC,I.pin,I.hok,hl.trans I.len⟩
theorem Inv.pins_of{pins':List (Addr×Obj)}(I:Inv X pins σ H s)(h:∀p∈pins',s.heap.get? p.1=some p.2/\H p.1=none/\p.1≠X.env.locals/\p.1∉X.fs/\∀v,p.2.data≠.cell v):Inv X pins' σ H s:=
 ⟨I.ok,I.os,I.bare,I.base,I.loc,I.cell,I.free,I.freeC,fun p hp=>(aJ.mp hp).elim (fun z=>I.pin p (List.mem_append_left _ z)) (h p),I.hok,I.len⟩
theorem a2g(hN:N.Nodup)(a:N[i]? =some x)(b:N[j]? =some x):i=j:=by
 obtain⟨h1,e1⟩:=ac.mp a
 obtain⟨h2,e2⟩:=ac.mp b
 exact(getElem_inj hN).mp (e1.trans e2.symm)
theorem a0Z{E:Value->Shared->Prop}{Q:Unit->Shared->Prop}(I:Inv X pins σ H s)(hN:X.N.Nodup)(hi:X.N[i]? =some x)(hx:Loc X.env.scope x)(r:n9 v u)
 (h:∀s',Inv X pins (σ.set i (some v)) H s'->(∃a,Heap.SameBut a s.heap s'.heap/\(a=X.env.locals∨X.env.cells.lookup x=some a))->Q () s') (hf:X.fn x=true∨X.env.scope.names.lookup x=some .local:=by first|exact .inl rfl|exact .inr rfl|assumption):wpAny M A (storeName X.env x u) Q E s:=by
 obtain⟨m,hn,hl⟩:=id I.loc
 have hcls:(X.env.scope.kind==.class||(X.env.scope.kind==.module&&X.env.locals !=X.env.globals))=false:=by rw[I.ok.kind];rfl
 have hiσ:i<σ.length:=by rw[I.len];exact(ac.mp hi).1
 have cne:=I.cne
 have tracked:∀{a:Addr} {h':Heap},(∃o,s.heap.get? a=some o/\H a=none)->Heap.SameBut a s.heap h'->HOk X.prog X.w H h':=fun{a h'} ha hs b ob e=>by
  obtain⟨_,_,hfree⟩:=ha;refine(I.hok b ob e).stay (fun c w' hc q=>(hs.2 c ?_).trans q) (fun _ q=>q) fun _ _ q=>q
  rintro rfl
  rcases hc with rfl|hc
  · rw[hfree] at e;cases e
  · rw[hfree] at hc;cases hc
 rcases hx with hk|hk
 · refine wpAny_storeName_local hk hn (fun h' hn' hs=>?_) hcls
   obtain⟨oL,_,_,hoL,_⟩:=id hn;refine h _ ⟨I.ok,I.os,I.bare,⟨fun b o e n hb hx=>?_,fun b o e n hb hx=>?_,I.base.free,fun b o e hx=>?_,I.base.tups,I.base.frzs,I.base.tbls⟩,⟨_,hn',fun j y v' e1 e2 e3=>?_⟩,fun y c e=>?_,I.free,I.freeC,fun p hp=>?_,tracked ⟨oL,hoL,I.free⟩ hs,by simpa using I.len⟩ ⟨_,hs,.inl rfl⟩
   · exact(hs.2 b (Nat.ne_of_lt (aC (Heap.lt_size e) I.ok.above))).trans (I.base.keep b o e n hb hx)
   · obtain⟨sl,e1⟩:=I.base.slot b o e n hb hx;exact⟨sl,(hs.2 b (Nat.ne_of_lt (aC (Heap.lt_size e) I.ok.above))).trans e1⟩
   · obtain⟨o',e1⟩:=I.base.there b o e hx;exact⟨o',(hs.2 b (Nat.ne_of_lt (aC (Heap.lt_size e) I.ok.above))).trans e1⟩
   · by_cases hj:j=i
     · subst hj;rw[hi] at e1;cases e1
       rw[List.getElem?_set_self hiσ] at e2
       cases e2;exact⟨u,r,.inl ⟨hk,by simp⟩⟩
     · rw[List.getElem?_set_ne (Ne.symm hj)] at e2
       obtain⟨u',r',q⟩:=hl j y v' e1 e2 e3;refine⟨u',r',?_⟩
       rcases q with⟨k,e⟩|⟨k,c,e,z⟩
       · refine .inl ⟨k,?_⟩
         have:y≠x:=fun e=>hj (a2g hN e1 (e▸hi))
         simp[this,e]
       · exact .inr ⟨k,c,e,z.sameBut hs (cne y c e)⟩
   · obtain⟨w',z⟩:=I.cell y c e;exact⟨w',z.sameBut hs (cne y c e)⟩
   · obtain⟨e,n,ne,nf,d⟩:=I.pin p hp;exact⟨(hs.2 p.1 ne).trans e,n,ne,nf,d⟩
 · have hfn:X.fn x=true:=by
    rcases hf with z|z
    · exact z
    · rw[z] at hk;cases hk
   obtain⟨c,hc⟩:=I.ok.has x (.inl hk);obtain⟨w',z⟩:=I.cell x c hc;refine wpAny_storeName_cell I.ok.kind hk hc z (fun h' hc' hs=>?_)
   obtain⟨oc,hoc,hocd⟩:=id z;refine h {s with heap:=h'} ⟨I.ok,I.os,I.bare,⟨fun b o e n hb hx=>?_,fun b o e n hb hx=>?_,I.base.free,fun b o e hx=>?_,I.base.tups,I.base.frzs,I.base.tbls⟩,⟨m,hn.sameBut hs (Ne.symm (cne x c hc)),fun j y v' e1 e2 e3=>?_⟩,fun y c' e=>?_,I.free,I.freeC,fun p hp=>?_,tracked ⟨oc,hoc,I.freeC x c hc⟩ hs,by simpa using I.len⟩ ⟨c,hs,.inr hc⟩
   · exact(hs.2 b (Nat.ne_of_lt (aC (Heap.lt_size e) (I.ok.cab x c hfn hc)))).trans (I.base.keep b o e n hb hx)
   · obtain⟨sl,e1⟩:=I.base.slot b o e n hb hx;exact⟨sl,(hs.2 b (Nat.ne_of_lt (aC (Heap.lt_size e) (I.ok.cab x c hfn hc)))).trans e1⟩
   · obtain⟨o',e1⟩:=I.base.there b o e hx;exact⟨o',(hs.2 b (Nat.ne_of_lt (aC (Heap.lt_size e) (I.ok.cab x c hfn hc)))).trans e1⟩
   · by_cases hj:j=i
     · subst hj;rw[hi] at e1;cases e1
       rw[List.getElem?_set_self hiσ] at e2
       cases e2;exact⟨u,r,.inr ⟨.inl hk,c,hc,hc'⟩⟩
     · rw[List.getElem?_set_ne (Ne.symm hj)] at e2
       obtain⟨u',r',q⟩:=hl j y v' e1 e2 e3;refine⟨u',r',?_⟩
       rcases q with q|⟨k,c',e,z'⟩
       · exact .inl q
       · refine .inr ⟨k,c',e,z'.sameBut hs ?_⟩
         rintro rfl;exact hj (a2g hN e1 (I.ok.inj _ _ _ e hc▸hi))
   · by_cases hcc:c'=c
     · subst hcc;exact⟨_,hc'⟩
     · obtain⟨w2,z2⟩:=I.cell y c' e;exact⟨w2,z2.sameBut hs hcc⟩
   · obtain⟨e,n,ne,nf,d⟩:=I.pin p hp;refine⟨(hs.2 p.1 ?_).trans e,n,ne,nf,d⟩
     intro q;rw[q,hoc] at e
     have q':oc=p.2:=ax e
     exact d w' (by rw[←q'];exact hocd)
theorem a4Q{E:Value->Shared->Prop}{Q:Unit->Shared->Prop}(I:Inv X pins σ H s)(hN:X.N.Nodup)(hi:X.N[i]? =some x)(hx:Loc X.env.scope x)(r:n9 v u)
 (h:∀s',Inv X pins (σ.set i (some v)) H s'->Q () s') (hf:X.fn x=true∨X.env.scope.names.lookup x=some .local:=by first|exact .inl rfl|exact .inr rfl|assumption):wpAny M A (storeName X.env x u) Q E s:=
 a0Z I hN hi hx r (fun s' I' _=>h s' I') hf
theorem Inv.call'(I:Inv X pins σ H s)(ho:s'.os=s.os)(u:Un (frs X.stack) ch H H' s.heap s'.heap)(hok:HOk X.prog X.w H' s'.heap)(hg:AllBare s'.gens)
 (hch:∀b∈ch,(b∈X.ex∨X.s₀.heap.objs.size<=b)/\b≠X.env.locals/\(∀x c,X.env.cells.lookup x=some c->c≠b)/\∀p∈X.pn++pins,p.1≠b):Inv X pins σ H' s':=by
 obtain⟨h',g',d',t',o'⟩:=s'
 have e:o'=s.os:=ho
 subst e;exact I.call (g':=g') (t':=t') (d':=d') u hok hg hch
end
abbrev XK:=Value->Option Addr->Hp->Prop
abbrev St:=List (Option V)
abbrev VK:=V->Hp->Prop
abbrev TE:=St->Hp->VK->Prop
abbrev TT:=St->Hp->(Bool->Hp->Prop)->Prop
abbrev TA:=St->Hp->(List V->Hp->Prop)->Prop
structure Ends where
 nx:St->Hp->Prop
 rt:VK
 bk:St->Hp->Prop:=fun _ _=>False
 ct:St->Hp->Prop:=fun _ _=>False
abbrev TS:=Ends->St->Hp->Prop
def EP(X:Cx)(pins:List (Addr×Obj))(σ:St)(Q:VK)(u:Value)(s':Shared):Prop:=∃v H',Inv X pins σ H' s'/\n9 v u/\Q v H'
def TP(X:Cx)(pins:List (Addr×Obj))(σ:St)(Q:Bool->Hp->Prop)(b:Bool)(s':Shared):Prop:=∃H',Inv X pins σ H' s'/\Q b H'
def AP(X:Cx)(pins:List (Addr×Obj))(σ:St)(Q:List V->Hp->Prop)(us:List Value)(s':Shared):Prop:=∃vs H',Inv X pins σ H' s'/\k8 vs us/\Q vs H'
def SP(X:Cx)(pins:List (Addr×Obj))(D:Ends)(f:Flow)(s':Shared):Prop:=
 match f with
 |.next=>∃σ' H',Inv X pins σ' H' s'/\D.nx σ' H'
 |.brk=>∃σ' H',Inv X pins σ' H' s'/\D.bk σ' H'
 |.cont=>∃σ' H',Inv X pins σ' H' s'/\D.ct σ' H'
 |.ret u=>∃v σ' H',Inv X pins σ' H' s'/\n9 v u/\D.rt v H'
def PE(X:Cx)(e:Expr)(t:TE):Prop:=
 ∀(pins:List (Addr×Obj)) (s:Shared) (σ:St) (H:Hp) (Q:VK),Inv X pins σ H s->t σ H Q->wpAny (model X.prog X.w) X.A (eval e X.env) (EP X pins σ Q) X.xe s
def PT(X:Cx)(e:Expr)(t:TT):Prop:=
 ∀(pins:List (Addr×Obj)) (s:Shared) (σ:St) (H:Hp) (Q:Bool->Hp->Prop),Inv X pins σ H s->t σ H Q->wpAny (model X.prog X.w) X.A (isTrue e X.env (eval e X.env)) (TP X pins σ Q) X.xe s
def PW(X:Cx)(e:Expr)(t:TT):Prop:=
 ∀(whole:Sem Value) (pins:List (Addr×Obj)) (s:Shared) (σ:St) (H:Hp) (Q:Bool->Hp->Prop),Inv X pins σ H s->t σ H Q->wpAny (model X.prog X.w) X.A (isTrue e X.env whole) (TP X pins σ Q) X.xe s
variable{X:Cx}{e:Expr}
theorem PW.pt{t:TT}(h:PW X e t):PT X e t:=h _
def PA(X:Cx)(es:List Expr)(t:TA):Prop:=
 ∀(pos:Pos) (pins:List (Addr×Obj)) (s:Shared) (σ:St) (H:Hp) (Q:List V->Hp->Prop),Inv X pins σ H s->t σ H Q->wpAny (model X.prog X.w) X.A (spliced (backTo pos (starEach es X.env))) (AP X pins σ Q) X.xe s
def PS(X:Cx)(st:Stmt)(t:TS):Prop:=
 ∀(pins:List (Addr×Obj)) (s:Shared) (σ:St) (H:Hp) (D:Ends),Inv X pins σ H s->t D σ H->wpAny (model X.prog X.w) X.A (exec st X.env) (SP X pins D) X.xe s
def PSs(X:Cx)(st:List Stmt)(t:TS):Prop:=
 ∀(pins:List (Addr×Obj)) (s:Shared) (σ:St) (H:Hp) (D:Ends),Inv X pins σ H s->t D σ H->wpAny (model X.prog X.w) X.A (execs st X.env) (SP X pins D) X.xe s
variable{s:Shared}
theorem thn{t:Sem α}{Q Q':α->Shared->Prop}{E:Value->Shared->Prop}(h:wpAny M A t Q E s)(hQ:∀a s,Q a s->Q' a s):wpAny M A t Q' E s:=wpAny_mono h hQ fun _ _ x=>x
variable{pins:List (Addr×Obj)}{σ:St}{pos:Pos}{Q:Value->Shared->Prop}{op:CmpOp}{c:Expr}
section
theorem bin{a b:Expr}{ta tb:TE}(ha:PE X a ta)(hb:PE X b tb){R:V->V->Hp->Prop}(I:Inv X pins σ H s)(h:ta σ H fun x H1=>tb σ H1 fun y H2=>R x y H2)
 {Q :α->Shared->Prop} {f:Value->Value->Sem α}
    (hf:∀v u s2 x y H2,Inv X pins σ H2 s2->n9 x v->n9 y u->R x y H2->wpAny (model X.prog X.w) X.A (f v u) Q X.xe s2):
    wpAny (model X.prog X.w) X.A (eval a X.env) (fun v s₁=>wpAny (model X.prog X.w) X.A (eval b X.env) (fun u s₂=>wpAny (model X.prog X.w) X.A (f v u) Q X.xe s₂) X.xe s₁) X.xe s:=by
  refine thn (ha pins s σ H _ I h) fun v s1 ⟨x,H1,I1,r1,q1⟩=>?_
  refine thn (hb pins s1 σ H1 _ I1 q1) fun u s2 ⟨y,H2,I2,r2,q2⟩=>?_
  exact hf v u s2 x y H2 I2 r1 r2 q2
noncomputable def b3T(i:Nat):TE:=fun σ H Q=>∃v,σ[i]? =some (some v)/\Q v H
def tC(v:V):TE:=fun _ H Q=>Q v H
theorem a5X(hN:X.N[i]? =some x)(hv:Vis X.env.scope x)(hd:(x==("__debug__":Str))=false:=by decide)(hcd:(x==("__classdict__":Str))=false:=by decide):PE X (.Name x pos) (b3T i):=by
 intro pins s σ H Q I h;obtain⟨v,e,h⟩:=h;obtain⟨m,hn,hl⟩:=I.loc;obtain⟨u,r,l⟩:=hl i x v hN e hv
 have fin:EP X pins σ Q u s:=⟨v,H,I,r,h⟩
 rcases l with⟨hk,hm⟩|⟨hk,c,hc,hcell⟩
 · exact wpAny_Name (wpAny_loadName_local I.ok.kind hk hn hm fin) hd
 · rcases hk with hk|hk
   · exact wpAny_Name (wpAny_loadName_cell I.ok.kind hk hc hcell fin) hd
   · exact wpAny_Name (wpAny_loadName_free I.ok.kind hk hc hcell fin hcd) hd
theorem a9u{i j pos}:PE X (.Constant (.int i) j pos) (tC (.int i)):=fun _ _ _ H _ I h=>wpAny_Constant_int ⟨.int i,H,I.tok _,⟨_,rfl⟩,h⟩
theorem b7h{b j pos}:PE X (.Constant (.bool b) j pos) (tC (.bl b)):=fun _ _ _ H _ I h=>Constant_bool ⟨.bl b,H,I,rfl,h⟩
theorem b4B{j pos}:PE X (.Constant .none j pos) (tC .non):=fun _ _ _ H _ I h=>Constant_none ⟨.non,H,I,rfl,h⟩
theorem a5Y{x j pos}:PE X (.Constant (.str x) j pos) (tC (.str x)):=fun _ _ _ H _ I h=>Calls.Constant_str ⟨.str x,H,I.tok _,⟨_,rfl⟩,h⟩
def Gl(X:Cx)(x:Str):Prop:=X.env.kindOf x=some .globalImplicit
theorem V0{E:Value->Shared->Prop}(I:Inv X pins σ H s)(hg:Gl X x)(hm:X.mg x=some u)(h:Q u s)
 (hd:(x==("__debug__":Str))=false:=by decide):wpAny (model X.prog X.w) X.A (eval (.Name x pos) X.env) Q E s:=
 Calls.Name_function_global I.ok.kind hg (Calls.loadGlobal_global (by rw[I.ok.glob];exact I.mod.glob.keeps I.bk) hm h) hd
theorem X1{E:Value->Shared->Prop}(I:Inv X pins σ H s)(hg:Gl X x)(hm:X.mg x=none)(hv:bootBuiltins x=some u)(h:Q u s)
 (hn:x≠"__name__":=by decide) (hd:(x==("__debug__":Str))=false:=by decide):wpAny (model X.prog X.w) X.A (eval (.Name x pos) X.env) Q E s:=by
 obtain⟨mb,h1,h2⟩:=I.mod.blt;exact Calls.Name_function_global I.ok.kind hg (Calls.loadGlobal_builtin (by rw[I.ok.glob];exact I.mod.glob.keeps I.bk) hm (by rw[I.ok.blt];exact h1.keeps I.bk) ((h2 x hn).trans hv) h) hd
theorem a0J(hg:Gl X x)(hm:X.mg x=some u)(r:n9 v u)(hd:(x==("__debug__":Str))=false:=by decide):PE X (.Name x pos) (tC v):=
 fun _ _ _ H _ I h=>V0 I hg hm ⟨v,H,I,r,h⟩ hd
theorem b2e(hg:Gl X x)(hm:X.mg x=none)(hv:bootBuiltins x=some u)(r:n9 v u)(hn:x≠"__name__":=by decide)(hd:(x==("__debug__":Str))=false:=by decide):PE X (.Name x pos) (tC v):=
 fun _ _ _ H _ I h=>X1 I hg hm hv ⟨v,H,I,r,h⟩ hn hd
variable{a b:Expr}{ta tb:TE}
def PC(X:Cx)(op:CmpOp)(a b:Expr)(t:TE):Prop:=
 ∀(pins:List (Addr×Obj)) (s:Shared) (σ:St) (H:Hp) (Q:VK),Inv X pins σ H s->t σ H Q→
  wpAny (model X.prog X.w) X.A (eval a X.env) (fun v s₁=>wpAny (model X.prog X.w) X.A (eval b X.env) (fun u s₂=>wpAny (model X.prog X.w) X.A (compareOp op v u) (EP X pins σ Q) X.xe s₂) X.xe s₁) X.xe s
theorem a5c(b:Expr)(h:op≠.In)(h2:op≠.NotIn):behindInMarks op b=false:=by
 have e1:(op==CmpOp.In)=false:=by cases op<;>first|rfl|exact absurd rfl h
 have e2:(op==CmpOp.NotIn)=false:=by cases op<;>first|rfl|exact absurd rfl h2
 cases b<;>simp[behindInMarks,e1,e2]
noncomputable def b9d(ta:TE):TE:=fun σ H Q=>ta σ H fun x H1=>Q (.bl (decide (x=.non))) H1
noncomputable def b6F(ta:TE):TE:=fun σ H Q=>ta σ H fun x H1=>Q (.bl (!decide (x=.non))) H1
theorem n9.none_iff{x:V}{v:Value}(r:n9 x v):(v==Value.none)=decide (x=.non):=by
 cases x with
 |non=>cases r;rfl
 |bl _=>cases r;rfl
 |int _=>obtain⟨t,rfl⟩:=r;rfl
 |str _=>obtain⟨t,rfl⟩:=r;rfl
 |byt _=>obtain⟨t,rfl⟩:=r;rfl
 |flt _=>obtain⟨t,rfl⟩:=r;rfl
 |ref _=>cases r;rfl
 |ty _=>cases r;rfl
theorem a9z{j pos'}(ha:PE X a ta):PC X .Is a (.Constant .none j pos') (b9d ta):=by
 intro pins s σ H Q I h;refine thn (ha pins s σ H _ I h) fun v s1 ⟨x,H1,I1,r1,q1⟩=>?_
 exact Constant_none (is_none_gen ⟨.bl _,H1,I1,by rw[r1.none_iff];rfl,q1⟩)
theorem a6O{j pos'}(ha:PE X a ta):PC X .IsNot a (.Constant .none j pos') (b6F ta):=by
 intro pins s σ H Q I h;refine thn (ha pins s σ H _ I h) fun v s1 ⟨x,H1,I1,r1,q1⟩=>?_
 exact Constant_none (isnot_none_gen ⟨.bl _,H1,I1,by rw[r1.none_iff];rfl,q1⟩)
noncomputable def tB(t:TE):TT:=fun σ H Q=>t σ H fun x H1=>∃c,x=.bl c/\Q c H1
theorem a9x{t:TE}(h:PC X op a b t)(h1:behindInMarks op b=false:=by first|exact a5c _ (by decide) (by decide)|rfl):PE X (.Compare a [op] [b] pos) t:=fun pins s σ H Q I hw=>wpAny_Compare1 (h pins s σ H Q I hw) h1
theorem a9h{t:TE}(h:PC X op a b t)(h1:behindInMarks op b=false:=by first|exact a5c _ (by decide) (by decide)|rfl):PT X (.Compare a [op] [b] pos) (tB t):=by
 intro pins s σ H Q I hw;refine wpAny_isTrue_Compare1 (thn (h pins s σ H _ I hw) fun v s1 h1=>thn h1 fun u s2 h2=>thn h2 fun c s3 ⟨x,H1,I1,r1,q1⟩=>?_) h1
 obtain⟨d,rfl,q⟩:=q1;cases r1;exact wpAny_truthy_bool ⟨H1,I1,q⟩
variable{tA tB':TT}{i6:List Expr}
noncomputable def b9i(t u:TT):TT:=fun σ H Q=>t σ H fun c H1=>if c=true then u σ H1 Q else Q false H1
noncomputable def tOr(t u:TT):TT:=fun σ H Q=>t σ H fun c H1=>if c=true then Q true H1 else u σ H1 Q
noncomputable def b9b(t:TT):TT:=fun σ H Q=>t σ H fun c H1=>Q (!c) H1
theorem b1Q(ha:PT X a tA):PW X (.BoolOp .And [a] pos) tA:=by
 intro wh pins s σ H Q I h;refine isTrue_and (thn (ha pins s σ H Q I h) fun c s1 e=>?_)
 cases c with
 |true=>exact isTrue_and_nil e
 |false=>exact e
theorem b4h(ha:PT X a tA):PW X (.BoolOp .Or [a] pos) tA:=by
 intro wh pins s σ H Q I h;refine isTrue_or (thn (ha pins s σ H Q I h) fun c s1 e=>?_)
 cases c with
 |false=>exact isTrue_or_nil e
 |true=>exact e
theorem b4i(ha:PT X a tA)(hb:PW X (.BoolOp .And (b::i6) pos) tB'):PW X (.BoolOp .And (a::b::i6) pos) (b9i tA tB'):=by
 intro wh pins s σ H Q I h;refine isTrue_and (thn (ha pins s σ H _ I h) fun c s1 ⟨H1,I1,q1⟩=>?_)
 cases c with
 |true=>exact hb wh pins s1 σ H1 Q I1 q1
 |false=>exact⟨H1,I1,q1⟩
theorem b7c(ha:PT X a tA)(hb:PW X (.BoolOp .Or (b::i6) pos) tB'):PW X (.BoolOp .Or (a::b::i6) pos) (tOr tA tB'):=by
 intro wh pins s σ H Q I h;refine isTrue_or (thn (ha pins s σ H _ I h) fun c s1 ⟨H1,I1,q1⟩=>?_)
 cases c with
 |true=>exact⟨H1,I1,q1⟩
 |false=>exact hb wh pins s1 σ H1 Q I1 q1
theorem b4k(ha:PT X a tA):PT X (.UnaryOp .Not a pos) (b9b tA):=by
 intro pins s σ H Q I h;exact isTrue_not (ha pins s σ H (fun c H1=>Q (!c) H1) I h)
noncomputable def b6N(ta tb:TE):TE:=fun σ H Q=>ta σ H fun x H1=>∃c,x=.bl c/\if c=true then tb σ H1 Q else Q (.bl false) H1
noncomputable def b9a(ta tb:TE):TE:=fun σ H Q=>ta σ H fun x H1=>∃c,x=.bl c/\if c=true then Q (.bl true) H1 else tb σ H1 Q
noncomputable def b6E(ta:TE):TE:=fun σ H Q=>ta σ H fun x H1=>∃c,x=.bl c/\Q (.bl (!c)) H1
theorem b4z{op}{t:TE}(h:PE X a t):PE X (.BoolOp op [a] pos) t:=fun pins s σ H Q I hw=>BoolOp_one (h pins s σ H Q I hw)
theorem b4F(ha:PE X a ta)(hb:PE X (.BoolOp .And (b::i6) pos) tb):PE X (.BoolOp .And (a::b::i6) pos) (b6N ta tb):=by
 intro pins s σ H Q I h;refine BoolOp_and (thn (ha pins s σ H _ I h) fun v s1 ⟨x,H1,I1,r1,q1⟩=>?_)
 obtain⟨c,rfl,q1⟩:=q1;cases r1;refine wpAny_truthy_bool ?_
 cases c with
 |true=>exact hb pins s1 σ H1 Q I1 q1
 |false=>exact⟨.bl false,H1,I1,rfl,q1⟩
theorem b7f(ha:PE X a ta)(hb:PE X (.BoolOp .Or (b::i6) pos) tb):PE X (.BoolOp .Or (a::b::i6) pos) (b9a ta tb):=by
 intro pins s σ H Q I h;refine BoolOp_or (thn (ha pins s σ H _ I h) fun v s1 ⟨x,H1,I1,r1,q1⟩=>?_)
 obtain⟨c,rfl,q1⟩:=q1;cases r1;refine wpAny_truthy_bool ?_
 cases c with
 |false=>exact hb pins s1 σ H1 Q I1 q1
 |true=>exact⟨.bl true,H1,I1,rfl,q1⟩
theorem b4A(ha:PE X a ta):PE X (.UnaryOp .Not a pos) (b6E ta):=by
 intro pins s σ H Q I h;refine UnaryOp_ (thn (ha pins s σ H _ I h) fun v s1 ⟨x,H1,I1,r1,q1⟩=>?_)
 obtain⟨c,rfl,q1⟩:=q1;cases r1;exact not_of (wpAny_truthy_bool ⟨.bl (!c),H1,I1,rfl,q1⟩)
noncomputable def tIf(t:TT)(ta tb:TE):TE:=fun σ H Q=>t σ H fun c H1=>if c=true then ta σ H1 Q else tb σ H1 Q
theorem a9v(hc:PT X c tA)(ha:PE X a ta)(hb:PE X b tb):PE X (.IfExp c a b pos) (tIf tA ta tb):=by
 intro pins s σ H Q I h;refine wpAny_IfExp (thn (hc pins s σ H _ I h) fun d s1 ⟨H1,I1,q1⟩=>?_)
 cases d with
 |true=>exact ha pins s1 σ H1 Q I1 q1
 |false=>exact hb pins s1 σ H1 Q I1 q1
end
def SqL(K:PySem.W.Frag)(H:Hp)(a:Addr)(xs:List V):Prop:=
 Rd H a (.lst xs)∨
  ∃(o:Obj) (its:Array Value) (n:Nat),K.lookup a=some o/\o.cls=.type "list"/\o.dict=none/\o.data=.seq its n/\its.size<=sizeLine/\k8 xs its.toList
def SqT(K:PySem.W.Frag)(H:Hp)(a:Addr)(xs:List V):Prop:=
 Rd H a (.tup xs)∨
  ∃(o:Obj) (its:Array Value) (n:Nat),K.lookup a=some o/\o.cls=.type "tuple"/\o.data=.seq its n/\its.size<=sizeLine/\k8 xs its.toList
noncomputable def b9O:Value->Option V
 |.none=>some .non
 |.bool b=>some (.bl b)
 |.int i _=>some (.int i)
 |.str x _=>some (.str x)
 |.bytes b _=>some (.byt b)
 |.float b _=>some (.flt b)
 |.ref a=>some (.ref a)
 |.type n=>some (.ty n)
 |_=>none
theorem n9.abs{x:V}(r:n9 x u):b9O u=some x:=by
 cases x with
 |non=>cases r;rfl
 |bl _=>cases r;rfl
 |int _=>obtain⟨t,rfl⟩:=r;rfl
 |str _=>obtain⟨t,rfl⟩:=r;rfl
 |byt _=>obtain⟨t,rfl⟩:=r;rfl
 |flt _=>obtain⟨t,rfl⟩:=r;rfl
 |ref _=>cases r;rfl
 |ty _=>cases r;rfl
variable{y:V}
theorem n9.inj{x:V}(r:n9 x u)(q:n9 y u):x=y:=ax (r.abs.symm.trans q.abs)
theorem k8.inj:∀{xs ys:List V} {us:List Value},k8 xs us->k8 ys us->xs=ys
 |_,_,_,.nil,.nil=>rfl
 |_,_,_,.cons r t,.cons r' t'=>by rw[r.inj r',k8.inj t t']
variable{K:PySem.W.Frag}
section
variable{xs ys:List V}
theorem Inv.list(I:Inv X pins σ H s)(h:SqL X.K H a xs):∃its:List Value,k8 xs its/\PlainL s.heap a its.toArray/\xs.length<=sizeLine:=by
 rcases h with h|⟨o,its,n,hk,hc,hd,hs,hz,r⟩
 · obtain⟨z,its,n,r,e⟩:=h.ok I.hok;exact⟨its,r,⟨_,n,e,rfl,rfl,rfl⟩,z⟩
 · refine⟨its.toList,r,⟨o,n,I.kIn a o hk,hc,hd,by simpa using hs⟩,?_⟩
   have e:=r.length;simp only[Array.length_toList] at e;omega
theorem Inv.tuple(I:Inv X pins σ H s)(h:SqT X.K H a xs):∃its:List Value,k8 xs its/\IsTup s.heap a its.toArray/\xs.length<=sizeLine:=by
 rcases h with h|⟨o,its,n,hk,hc,hs,hz,r⟩
 · obtain⟨z,its,r,p⟩:=h.ok I.hok;exact⟨its,r,p.tup,z⟩
 · refine⟨its.toList,r,⟨o,I.kIn a o hk,hc,n,by simpa using hs⟩,?_⟩
   have e:=r.length;simp only[Array.length_toList] at e;omega
theorem Inv.list_inj(I:Inv X pins σ H s)(h:SqL X.K H a xs)(h':SqL X.K H a ys):xs=ys:=by
 obtain⟨its,r,⟨o,n,e,_,_,d⟩,_⟩:=I.list h;obtain⟨its',r',⟨o',n',e',_,_,d'⟩,_⟩:=I.list h';rw[e] at e';cases e'
 rw[d] at d'
 injection d' with d1 _
 have:its=its':=by simpa using congrArg Array.toList d1
 subst this;exact r.inj r'
theorem Inv.tuple_inj(I:Inv X pins σ H s)(h:SqT X.K H a xs)(h':SqT X.K H a ys):xs=ys:=by
 obtain⟨its,r,⟨o,e,_,n,d⟩,_⟩:=I.tuple h;obtain⟨its',r',⟨o',e',_,n',d'⟩,_⟩:=I.tuple h';rw[e] at e';cases e'
 rw[d] at d'
 injection d' with d1 _
 have:its=its':=by simpa using congrArg Array.toList d1
 subst this;exact r.inj r'
end
abbrev Cx.wish(X:Cx)(E:Value->Shared->Prop):Cx:={X with xe:=E}
abbrev Cx.nox(X:Cx):Cx:=X.wish fun _ _=>False
theorem Cx.Ok.wish(ok:X.Ok)(E:Value->Shared->Prop):(X.wish E).Ok:=
 ⟨ok.mod,ok.kind,ok.glob,ok.blt,ok.above,ok.inj,ok.has,ok.cab,ok.hd,ok.frames,ok.stk,ok.exf,ok.bs,ok.bsz,ok.noex,ok.exfs,ok.funs,ok.frf⟩
theorem Cx.Ok.unwish{E:Value->Shared->Prop}(ok:(X.wish E).Ok):X.Ok:=
 ⟨ok.mod,ok.kind,ok.glob,ok.blt,ok.above,ok.inj,ok.has,ok.cab,ok.hd,ok.frames,ok.stk,ok.exf,ok.bs,ok.bsz,ok.noex,ok.exfs,ok.funs,ok.frf⟩
section
variable{E:Value->Shared->Prop}
theorem Inv.wish(I:Inv X pins σ H s)(E:Value->Shared->Prop):Inv (X.wish E) pins σ H s:=⟨I.ok.wish E,I.os,I.bare,I.base,I.loc,I.cell,I.free,I.freeC,I.pin,I.hok,I.len⟩
theorem Inv.unwish(I:Inv (X.wish E) pins σ H s):Inv X pins σ H s:=⟨I.ok.unwish,I.os,I.bare,I.base,I.loc,I.cell,I.free,I.freeC,I.pin,I.hok,I.len⟩
theorem SP.unwish{D:Ends}{f:Flow}(h:SP (X.wish E) pins D f s'):SP X pins D f s':=by
 cases f with
 |next=>obtain⟨σ',H',I,q⟩:=h;exact⟨σ',H',I.unwish,q⟩
 |brk=>obtain⟨σ',H',I,q⟩:=h;exact⟨σ',H',I.unwish,q⟩
 |cont=>obtain⟨σ',H',I,q⟩:=h;exact⟨σ',H',I.unwish,q⟩
 |ret u=>obtain⟨v,σ',H',I,r,q⟩:=h;exact⟨v,σ',H',I.unwish,r,q⟩
theorem PSs.nox{st:List Stmt}{t:TS}(h:PSs X.nox st t):PSs X st t:=fun pins s σ H D I hw=>
 wpAny_mono (h pins s σ H D (I.wish _) hw) (fun _ _ q=>q.unwish) fun _ _ z=>False.elim z
end
variable{tc:TT}
section
variable{st:Stmt}{i6:List Stmt}{t u:TS}{te:TE}
def b6G:TS:=fun D σ H=>D.nx σ H
noncomputable def b8X(t u:TS):TS:=fun D σ H=>t {D with nx:=u D} σ H
theorem b1R:PSs X [] b6G:=fun _ _ σ H _ I h=>wpAny_execs_nil ⟨σ,H,I,h⟩
theorem a4Y(h1:PS X st t)(h2:PSs X i6 u):PSs X (st::i6) (b8X t u):=by
 intro pins s σ H D I h;refine wpAny_execs_cons (thn (h1 pins s σ H {D with nx:=u D} I h) fun f s1 q=>?_)
 cases f with
 |next=>
  obtain⟨σ',H',I',q⟩:=q;exact h2 pins s1 σ' H' D I' q
 |ret v=>exact q
 |brk=>exact q
 |cont=>exact q
theorem a6L(h1:PS X st t):PSs X [st] t:=by
 intro pins s σ H D I h;refine wpAny_execs_cons (thn (h1 pins s σ H D I h) fun f s1 q=>?_)
 cases f with
 |next=>exact wpAny_execs_nil q
 |ret v=>exact q
 |brk=>exact q
 |cont=>exact q
theorem Inv.quiet(I:Inv X pins σ H s):interactive X.env=false:=by simp[interactive,I.ok.kind]
noncomputable def b6J(te:TE):TS:=fun D σ H=>te σ H fun _ H1=>D.nx σ H1
theorem a6M(he:PE X e te)(hs:swapsWith e none pos.line X.env=pure false:=by rfl):PS X (.Expr e pos) (b6J te):=by
 intro pins s σ H D I h;exact wpAny_Expr_any (thn (he pins s σ H _ I h) fun v s1 ⟨x,H1,I1,r1,q1⟩=>⟨σ,H1,I1,q1⟩) I.quiet hs
noncomputable def b8Z(te:TE):TS:=fun D σ H=>te σ H D.rt
theorem b4m(he:PE X e te):PS X (.Return (some e) pos) (b8Z te):=by
 intro pins s σ H D I h;exact wpAny_Return_some (thn (he pins s σ H _ I h) fun v s1 ⟨x,H1,I1,r1,q1⟩=>⟨x,σ,H1,I1,r1,q1⟩)
noncomputable def b9e(c:TT)(t u:TS):TS:=fun D σ H=>c σ H fun b H1=>if b=true then t D σ H1 else u D σ H1
theorem b7d{a b:List Stmt}(hc:PT X c tc)(ha:PSs X a t)(hb:PSs X b u):PS X (.If c a b pos) (b9e tc t u):=by
 intro pins s σ H D I h;refine wpAny_If (thn (hc pins s σ H _ I h) fun d s1 ⟨H1,I1,q1⟩=>?_)
 cases d with
 |true=>exact ha pins s1 σ H1 D I1 q1
 |false=>exact hb pins s1 σ H1 D I1 q1
end
abbrev TG:=V->St->Hp->(St->Hp->Prop)->Prop
abbrev TGs:=List V->St->Hp->(St->Hp->Prop)->Prop
def PG(X:Cx)(target:Expr)(t:TG):Prop:=
 ∀(pins:List (Addr×Obj)) (s:Shared) (σ:St) (H:Hp) (v:V) (u:Value) (Q:St->Hp->Prop),Inv X pins σ H s->n9 v u->t v σ H Q→
  wpAny (model X.prog X.w) X.A (assign target X.env u) (fun _ s'=>∃σ' H',Inv X pins σ' H' s'/\Q σ' H') X.xe s
def PGs(X:Cx)(ts:List Expr)(t:TGs):Prop:=
 ∀(pins:List (Addr×Obj)) (s:Shared) (σ:St) (H:Hp) (vs:List V) (us:List Value) (Q:St->Hp->Prop),Inv X pins σ H s->k8 vs us->t vs σ H Q→
  wpAny (model X.prog X.w) X.A (assignInOrder ((assignEach ts X.env).map (·.2)) us) (fun _ s'=>∃σ' H',Inv X pins σ' H' s'/\Q σ' H') X.xe s
abbrev b6r:=V->V->V->Hp->(Hp->Prop)->Prop
def b6s(X:Cx)(t:b6r):Prop:=
 ∀(pins:List (Addr×Obj)) (s:Shared) (σ:St) (H:Hp) (o i v:V) (ov iv u:Value) (Q:Hp->Prop),Inv X pins σ H s->n9 o ov->n9 i iv->n9 v u->t o i v H Q→
  wpAny (model X.prog X.w) X.A (setItem ov iv u) (fun _ s'=>∃H',Inv X pins σ H' s'/\Q H') X.xe s
variable{es:List Expr}{n:Nat}{to:TE}{ti:TE}{tg:Expr}{te:TE}{pos':Pos}{ta:TA}
section
noncomputable def a7j(i:Nat):TG:=fun v σ H Q=>Q (σ.set i (some v)) H
theorem b2a(hN:X.N.Nodup)(hi:X.N[i]? =some x)(hx:Loc X.env.scope x)(hf:X.fn x=true∨X.env.scope.names.lookup x=some .local:=by first|exact .inl rfl|exact .inr rfl|assumption):PG X (.Name x pos) (a7j i):=by
 intro pins s σ H v u Q I r h;exact wpAny_assign_Name (a4Q I hN hi hx r (fun s' I'=>⟨_,H,I',h⟩) hf)
def b9D:TGs:=fun vs σ H Q=>vs=[]/\Q σ H
noncomputable def b7M(t:TG)(u:TGs):TGs:=fun vs σ H Q=>∃v r,vs=v::r/\t v σ H fun σ' H'=>u r σ' H' Q
theorem b1Z:PGs X [] b9D:=by
 intro pins s σ H vs us Q I r h;obtain⟨e,h⟩:=h;subst e;cases r;exact assignInOrder_nil ⟨σ,H,I,h⟩
theorem a9r{t:TG}{u:TGs}(h1:PG X e t)(h2:PGs X es u)
 (hs:(assignEach (e::es) X.env).map (·.2)=assign e X.env::(assignEach es X.env).map (·.2):=by rfl):PGs X (e::es) (b7M t u):=by
 intro pins s σ H vs us Q I r h;obtain⟨v,vr,e1,h⟩:=h;subst e1
 cases r with
 |cons r rr=>
  rw[hs];refine assignInOrder_cons (thn (h1 pins s σ H _ _ _ I r h) fun _ s1 ⟨σ1,H1,I1,q1⟩=>?_)
  exact h2 pins s1 σ1 H1 _ _ Q I1 rr q1
noncomputable def b9B(K:PySem.W.Frag)(n:Nat)(t:TGs):TG:=fun v σ H Q=>∃a xs,v=.ref a/\SqT K H a xs/\xs.length=n/\t xs σ H Q
theorem b4v{k:Nat}{t:TGs}(hc:X.calm=true)(h:PGs X es t)
 (hn:(assignEach es X.env).length=n:=by rfl) (hst:(assignEach es X.env).findIdx? (·.1)=none:=by rfl):PG X (.Tuple es k pos) (b9B X.K n t):=by
 intro pins s σ H v u Q I r hw;obtain⟨a,xs,e1,hq,hl,hw⟩:=hw;subst e1;cases r;obtain⟨its,rv,ht,hz⟩:=I.tuple hq;refine assign_Tuple_tuple (I.ok.hd hc) ht (by simp[hn,←hl,rv.length]) hst fun h' hx=>?_
 have I1:Inv X pins σ H {s with heap:=h'}:=I.kept (t':=s.toks) fun b o e=>hx b o (Nat.ne_of_lt (Heap.lt_size e)) e
 exact h pins _ σ H xs _ Q I1 (by simpa using rv) hw
noncomputable def b7L(to ti:TE)(t:b6r):TG:=fun v σ H Q=>to σ H fun o H1=>ti σ H1 fun i H2=>t o i v H2 fun H3=>Q σ H3
theorem b4w{o i:Expr}{t:b6r}(ho:PE X o to)(hi:PE X i ti)(hs:b6s X t)
 (ha:∀v,assign (.Subscript o i pos) X.env v=(do
  let ov←holding [v] (eval o X.env)
  let iv←holding [v,ov] (eval i X.env)
  standAt pos
  holding [v,ov,iv] (setItem ov iv v)
  release [v,ov,iv] []):=by intro _;rfl):PG X (.Subscript o i pos) (b7L to ti t):=by
 intro pins s σ H v u Q I r h;rw[ha];refine wpAny_bind (wpAny_holding (thn (ho pins s σ H _ I h) fun ov s1 ⟨x,H1,I1,r1,q1⟩=>?_))
 refine wpAny_bind (wpAny_holding (thn (hi pins s1 σ H1 _ I1 q1) fun iv s2 ⟨y,H2,I2,r2,q2⟩=>?_))
 refine wpAny_bind (wpAny_standAt (wpAny_bind (wpAny_holding (thn (hs pins s2 σ H2 x y v ov iv u _ I2 r1 r2 r q2) fun _ s3 ⟨H3,I3,q3⟩=>?_))))
 exact wpAny_release ⟨σ,H3,I3,q3⟩
noncomputable def b1z(te:TE)(g:TG):TS:=fun D σ H=>te σ H fun x H1=>g x σ H1 D.nx
theorem b4p{g:TG}(he:PE X e te)(hg:PG X tg g)(hs:swapsWithSole [tg] e pos.line X.env=pure false:=by rfl)(hw:swappedStores [tg] e X.env=pure none:=by rfl)
 (h1:(assignEach [tg] X.env).map (·.2)=[assign tg X.env]:=by rfl):PS X (.Assign [tg] e pos) (b1z te g):=by
 intro pins s σ H D I h;refine wpAny_Assign_stores (thn (he pins s σ H _ I h) fun v s1 ⟨x,H1,I1,r1,q1⟩=>?_) hs hw
 rw[h1];exact thn (hg pins s1 σ H1 x v _ I1 r1 q1) fun _ s2 q=>q
theorem a5W(hN:X.N.Nodup)(hi:X.N[i]? =some x)(hx:Loc X.env.scope x)(he:PE X e te)(hs:swapsWith e (some (.Name x pos')) pos.line X.env=pure false:=by rfl)(hf:X.fn x=true∨X.env.scope.names.lookup x=some .local:=by first|exact .inl rfl|exact .inr rfl|assumption):
 PS X (.Assign [.Name x pos'] e pos) (b1z te (a7j i)):=by
 intro pins s σ H D I h;refine wpAny_Assign_Name (thn (he pins s σ H _ I h) fun v s1 ⟨y,H1,I1,r1,q1⟩=>?_) hs
 exact a4Q I1 hN hi hx r1 (fun s2 I2=>⟨_,H1,I2,q1⟩) hf
end
variable{body:List Stmt}{tb:TS}
structure It where
 go:Nat->Hp->Prop
 yld:Nat->Hp->V->Hp->Prop
 stop:Nat->Hp->Prop
def a1n(X:Cx)(pins:List (Addr×Obj))(H:Hp)(b:Addr):Prop:=
 H b=none/\b≠X.env.locals/\b∉X.fs/\(b∈X.ex∨X.s₀.heap.objs.size<=b)/\(∀x c,X.env.cells.lookup x=some c->c≠b)/\∀p∈X.pn++pins,p.1≠b
variable{H':Hp}
theorem Inv.fpOk(I:Inv X pins σ H s)(hb:s.heap.objs.size<=b)(hn:H' b=none):a1n X pins H' b:=by
 refine⟨hn,Nat.ne_of_gt (aC I.lt hb),I.nofs hb,.inr (aO I.sz hb),fun x c e z=>?_,fun p hp z=>?_⟩
 · obtain⟨v,q⟩:=I.cell x c e;exact absurd (aC q.lt (by rw[z];exact hb)) (aN _)
 · exact absurd (aC (Heap.lt_size (I.pin p hp).1) (by rw[z];exact hb)) (aN _)
structure Turn(P:Program)(w:World)(K:PySem.W.Frag)(tg:Expr)(J:It)(fp:List Addr)(it:Addr)(tn:Nat->Heap->Prop):Prop where
 mem:it∈fp
 obj:∀i h,tn i h->∀b∈fp,∃o,h.get? b=some o/\∀v,o.data≠.cell v
 keep:∀i h h',tn i h->(∀b∈fp,∀o,h.get? b=some o->h'.get? b=some o)->tn i h'
 item:∀(X:Cx),X.prog=P->X.w=w->X.K=K->X.calm=true->∀(i:Nat) (pins:List (Addr×Obj)) (s:Shared) (σ:St) (H:Hp) (E:Value->Shared->Prop),Inv X pins σ H s->(∀b∈fp,a1n X pins H b)->tn i s.heap->J.go i H→
  wpAny (model P w) X.A (pyNext (.ref it)) (fun r s1=>∃u,r=some u∧
   wpAny (model P w) X.A (letOwnedTupleGo tg (.ref it) u) (fun _ s2=>∃x H',Inv X pins σ H' s2/\n9 x u/\J.yld i H x H'/\tn (i+1) s2.heap/\∀b∈fp,H' b=none) E s1) E s
 done:∀(X:Cx),X.prog=P->X.w=w->X.K=K->X.calm=true->∀(i:Nat) (pins:List (Addr×Obj)) (s:Shared) (σ:St) (H:Hp) (E:Value->Shared->Prop),Inv X pins σ H s->(∀b∈fp,a1n X pins H b)->tn i s.heap->J.stop i H→
  wpAny (model P w) X.A (pyNext (.ref it)) (fun r s1=>r=none/\Inv X pins σ H s1) E s
 self:∀(A:Around) (i:Nat) (s:Shared) (Q:Value->Shared->Prop) (E:Value->Shared->Prop),tn i s.heap->Q (.ref it) s->wpAny (model P w) A (pyIter (.ref it)) Q E s
abbrev TI:=St->Hp->(It->Hp->Prop)->Prop
def PIE(X:Cx)(pins:List (Addr×Obj))(σ:St)(tg:Expr)(R:It->Hp->Prop)(itv:Value)(s2:Shared):Prop:=
 ∃(it:Addr) (fp:List Addr) (tn:Nat->Heap->Prop) (J:It) (H':Hp),itv=.ref it/\Inv X pins σ H' s2/\Turn X.prog X.w X.K tg J fp it tn/\tn 0 s2.heap/\(∀b∈fp,a1n X pins H' b)/\R J H'
def PI(X:Cx)(tg iter:Expr)(wi:TI):Prop:=
 ∀(pins:List (Addr×Obj)) (s:Shared) (σ:St) (H:Hp) (R:It->Hp->Prop),Inv X pins σ H s->wi σ H R→
  wpAny (model X.prog X.w) X.A (eval iter X.env) (fun v s1=>wpAny (model X.prog X.w) X.A (pyIter v) (PIE X pins σ tg R) X.xe s1) X.xe s
theorem a7h{E:Value->Shared->Prop}{o:Obj}{n:String}{vs:Array Value}{Q:Unit->Shared->Prop}(ho:s.heap.get? it=some o)(hc:o.cls=.type n)(hd:o.data=.fields vs)
   (hn:["enumerate","zip","dict_itemiterator","dict_reverseitemiterator","odict_iterator","itertools.zip_longest","itertools.pairwise"].contains n=false) (hQ:Q () s):wpAny M A (letOwnedTupleGo tg (.ref it) u) Q E s:=by
 unfold letOwnedTupleGo
 cases tg <;>first
   |exact wpAny_pure hQ
   |(cases u<;>first
       |exact wpAny_pure hQ
       | (refine wpAny_bind (wpAny_load ho ?_)
          rw[hc,hd]
          show wpAny M A (if(["enumerate","zip","dict_itemiterator","dict_reverseitemiterator","odict_iterator","itertools.zip_longest","itertools.pairwise"].contains n&&vs[0]? ==some (rawInt _))=true then _ else _) Q E s
          rw[az (by intro h;rw[hn,Bool.false_and] at h;cases h)]
          exact wpAny_pure hQ))
noncomputable def Itl(K:PySem.W.Frag)(a:Addr):It:=
 ⟨fun i H=>∃xs x,SqL K H a xs/\xs[i]? =some x,fun i H x H'=>H'=H/\∀xs,SqL K H a xs->xs[i]? =some x,fun i H=>∃xs,SqL K H a xs/\xs.length<=i⟩
noncomputable def Itt(K:PySem.W.Frag)(a:Addr):It:=
 ⟨fun i H=>∃xs x,SqT K H a xs/\xs[i]? =some x,fun i H x H'=>H'=H/\∀xs,SqT K H a xs->xs[i]? =some x,fun i H=>∃xs,SqT K H a xs/\xs.length<=i⟩
noncomputable def Itr(lo:Int)(n:Nat):It:=⟨fun i _=>i<n,fun i H x H'=>H'=H/\x=.int (lo+i),fun i _=>n<=i⟩
theorem a7B(a it:Addr):Turn P w K tg (Itl K a) [it] it (fun i h=>h.IsListIter it a i) where
 mem:=by simp
 obj:=fun i h st b hb=>by
  have e:b=it:=by simpa using hb
  subst e;obtain⟨o,e,c,d⟩:=st;exact⟨o,e,fun v z=>by rw[d] at z;cases z⟩
 keep:=fun i h h' st k=>st.at fun o e=>k it (by simp) o e
 item:=by
  intro X hP hw hK hc i pins s σ H E I hf st hg;subst hP hw hK;obtain⟨xs,x,hq,hx⟩:=hg;obtain⟨its,rv,p,hz⟩:=I.list hq;obtain⟨u,hu,ru⟩:=rv.get hx;obtain⟨f0,f1,f2,f3,f4,f5⟩:=hf it (by simp)
  refine wpAny_pyNext_list_item st p.isList (x:=u) (by simpa using hu) fun h' st' sb=>?_
  have I1:Inv X pins σ H {s with heap:=h'}:=I.turned (t':=s.toks) (fun b o hb e=>(sb.2 b hb).trans e) f0 f1 f3 f4 f5
  obtain⟨o,e,c,d⟩:=id st';exact⟨u,rfl,a7h (s:={s with heap:=h'}) e c d (by decide) ⟨x,H,I1,ru,⟨rfl,fun ys hy=>by rw[I.list_inj hy hq];exact hx⟩,st',fun b hb=>(hf b hb).1⟩⟩
 done:=by
  intro X hP hw hK hc i pins s σ H E I hf st hg;subst hP hw hK;obtain⟨xs,hq,hx⟩:=hg;obtain⟨its,rv,p,hz⟩:=I.list hq;obtain⟨f0,f1,f2,f3,f4,f5⟩:=hf it (by simp)
  have hl:=rv.length;exact wpAny_pyNext_list_end (I.ok.hd hc) st p.isList (by simp;omega) fun h' eb=>⟨rfl,I.turned (t':=s.toks) (fun b o hb e=>eb b o hb e) f0 f1 f3 f4 f5⟩
 self:=fun _ _ _ _ _ st h=>wpAny_pyIter_listiter st h
theorem a5K(a it:Addr):Turn P w K tg (Itt K a) [it] it (fun i h=>h.IsTupleIter it a i) where
 mem:=by simp
 obj:=fun i h st b hb=>by
  have e:b=it:=by simpa using hb
  subst e;obtain⟨o,e,c,d⟩:=st;exact⟨o,e,fun v z=>by rw[d] at z;cases z⟩
 keep:=fun i h h' st k=>st.at fun o e=>k it (by simp) o e
 item:=by
  intro X hP hw hK hc i pins s σ H E I hf st hg;subst hP hw hK;obtain⟨xs,x,hq,hx⟩:=hg;obtain⟨its,rv,p,hz⟩:=I.tuple hq;obtain⟨u,hu,ru⟩:=rv.get hx;obtain⟨f0,f1,f2,f3,f4,f5⟩:=hf it (by simp)
  refine wpAny_pyNext_tuple_item st (show s.heap.IsTuple a its.toArray from p) (x:=u) (by simpa using hu) fun h' st' sb=>?_
  have I1:Inv X pins σ H {s with heap:=h'}:=I.turned (t':=s.toks) (fun b o hb e=>(sb.2 b hb).trans e) f0 f1 f3 f4 f5
  obtain⟨o,e,c,d⟩:=id st';exact⟨u,rfl,a7h (s:={s with heap:=h'}) e c d (by decide) ⟨x,H,I1,ru,⟨rfl,fun ys hy=>by rw[I.tuple_inj hy hq];exact hx⟩,st',fun b hb=>(hf b hb).1⟩⟩
 done:=by
  intro X hP hw hK hc i pins s σ H E I hf st hg;subst hP hw hK;obtain⟨xs,hq,hx⟩:=hg;obtain⟨its,rv,p,hz⟩:=I.tuple hq;obtain⟨f0,f1,f2,f3,f4,f5⟩:=hf it (by simp)
  have hl:=rv.length;exact wpAny_pyNext_tuple_end (I.ok.hd hc) st (show s.heap.IsTuple a its.toArray from p) (by simp;omega) fun h' eb=>⟨rfl,I.turned (t':=s.toks) (fun b o hb e=>eb b o hb e) f0 f1 f3 f4 f5⟩
 self:=fun _ _ _ _ _ st h=>wpAny_pyIter_tupleiter st h
theorem a5L(it:Addr)(lo:Int)(n:Nat):Turn P w K tg (Itr lo n) [it] it (fun i h=>IsRangeIter h it (lo+(i:Nat)*1) ((n:Int)-(i:Nat)) 1) where
 mem:=by simp
 obj:=fun i h st b hb=>by
  have e:b=it:=by simpa using hb
  subst e
  exact⟨_,st,fun v z=>by
   have z':Data.fields _=Data.cell v:=z
   cases z'⟩
 keep:=fun i h h' st k=>k it (by simp) _ st
 item:=by
  intro X hP hw hK hc i pins s σ H E I hf st hg;subst hP hw hK;obtain⟨f0,f1,f2,f3,f4,f5⟩:=hf it (by simp)
  have W:=Walks.range (prog:=X.prog) (w:=X.w) (I.ok.hd hc) it lo 1 n;refine W.item i s _ _ hg st fun v h' tk hv st' kk=>?_
  obtain⟨t,rfl⟩:=hv
  have I1:Inv X pins σ H {s with heap:=h',toks:=tk}:=I.turned (fun b o hb e=>kk b o (by simpa using hb) e) f0 f1 f3 f4 f5
  refine⟨_,rfl,a7h (s:={s with heap:=h',toks:=tk}) (n:="range_iterator") st' rfl rfl (by decide) ⟨.int (lo+i),H,I1,⟨t,?_⟩,⟨rfl,rfl⟩,st',fun b hb=>(hf b hb).1⟩⟩
  rw[Int.mul_one]
 done:=by
  intro X hP hw hK hc i pins s σ H E I hf st hg;subst hP hw hK;obtain⟨f0,f1,f2,f3,f4,f5⟩:=hf it (by simp)
  exact wpAny_pyNext_range_end (I.ok.hd hc) st (by have:n<=i:=hg;omega) fun h' eb=>⟨rfl,I.turned (t':=s.toks) (fun b o hb e=>eb b o hb e) f0 f1 f3 f4 f5⟩
 self:=fun _ _ _ _ _ st h=>wpAny_pyIter_rangeiter st h
variable{lo:Int}{p:Pos}{fp:List Addr}{iter:Expr}
section
def b7z(K:PySem.W.Frag)(tl:TE):TI:=fun σ H R=>tl σ H fun x H1=>∃a,x=.ref a/\(∃xs,SqL K H1 a xs)/\R (Itl K a) H1
def b9z(K:PySem.W.Frag)(tl:TE):TI:=fun σ H R=>tl σ H fun x H1=>∃a,x=.ref a/\(∃xs,SqT K H1 a xs)/\R (Itt K a) H1
theorem a6N{l:Expr}{tl:TE}(hl:PE X l tl):PI X tg l (b7z X.K tl):=by
 intro pins s σ H R I h;refine thn (hl pins s σ H _ I h) fun v s1 ⟨x,H1,I1,r1,q1⟩=>?_
 obtain⟨a,e,⟨xs,hq⟩,q⟩:=q1;subst e;cases r1;obtain⟨its,rv,p,hz⟩:=I1.list hq;refine wpAny_pyIter_list p.isList ?_
 refine⟨s1.heap.objs.size,[s1.heap.objs.size],_,_,H1,rfl,I1.kept (t':=s1.toks) fun b o e=>Heap.get?_push_of_some _ e,a7B a _,⟨_,Heap.get?_push_size _ rfl,rfl,rfl⟩,fun b hb=>?_,q⟩
 have e:b=s1.heap.objs.size:=by simpa using hb
 subst e;exact I1.fpOk (aj _) (I1.hok.fresh (aj _))
theorem b4t{l:Expr}{tl:TE}(hl:PE X l tl):PI X tg l (b9z X.K tl):=by
 intro pins s σ H R I h;refine thn (hl pins s σ H _ I h) fun v s1 ⟨x,H1,I1,r1,q1⟩=>?_
 obtain⟨a,e,⟨xs,hq⟩,q⟩:=q1;subst e;cases r1;obtain⟨its,rv,p,hz⟩:=I1.tuple hq;refine wpAny_pyIter_tuple (show s1.heap.IsTuple a its.toArray from p) ?_
 refine⟨s1.heap.objs.size,[s1.heap.objs.size],_,_,H1,rfl,I1.kept (t':=s1.toks) fun b o e=>Heap.get?_push_of_some _ e,a5K a _,⟨_,Heap.get?_push_size _ rfl,rfl,rfl⟩,fun b hb=>?_,q⟩
 have e:b=s1.heap.objs.size:=by simpa using hb
 subst e;exact I1.fpOk (aj _) (I1.hok.fresh (aj _))
theorem a9d{R:It->Hp->Prop}{E:Value->Shared->Prop}{hi:Int}{t u v:Tok}{tk:Nat}(I:Inv X pins σ H s)(h1: -(2^62)<=lo)(h2:lo<2^62)(h3: -(2^62)<=hi)(h4:hi<2^62)
 (q:R (Itr lo (hi-lo).toNat) H):wpAny (model X.prog X.w) X.A (pyIter (.ref s.heap.objs.size)) (PIE X pins σ tg R) E {s with heap:=s.heap.push {cls:=.type "range",data:=.fields #[.int lo t,.int hi u,.int 1 v]},toks:=tk}:=by
 refine wpAny_pyIter_range (IsRange.new ..) (small_one h1 h2 h3 h4) ?_
 have I1:Inv X pins σ H {s with heap:=s.heap.push {cls:=.type "range",data:=.fields #[.int lo t,.int hi u,.int 1 v]},toks:=tk}:=I.kept fun b o e=>Heap.get?_push_of_some _ e
 refine⟨(s.heap.push {cls:=.type "range",data:=.fields #[.int lo t,.int hi u,.int 1 v]}).objs.size,[(s.heap.push {cls:=.type "range",data:=.fields #[.int lo t,.int hi u,.int 1 v]}).objs.size],_,_,H,rfl,
  I1.kept (t':=tk) fun b o e=>Heap.get?_push_of_some _ e,a5L _ lo (hi-lo).toNat,?_,fun b hb=>?_,q⟩
 · have e1:lo+((0:Nat):Int)*1=lo:=by simp
   have e2:(((hi-lo).toNat:Nat):Int)-((0:Nat):Int)=Builtin.Range.rangeSize lo hi 1:=by rw[rangeSize_one];split<;>omega
   show IsRangeIter _ _ (lo+((0:Nat):Int)*1) ((((hi-lo).toNat:Nat):Int)-((0:Nat):Int)) 1
   rw[e1,e2];exact Heap.get?_push_size _ rfl
 · have e:b=(s.heap.push {cls:=.type "range",data:=.fields #[.int lo t,.int hi u,.int 1 v]}).objs.size:=by simpa using hb
   subst e;exact I1.fpOk (aj _) (I1.hok.fresh (aj _))
def b7y(ta:TA):TI:=fun σ H R=>ta σ H fun vs H1=>∃j:Int,vs=[.int j]/\ -(2^62)<=j/\j<2^62/\R (Itr 0 j.toNat) H1
theorem a7Q{a:Expr}(hg:Gl X "range")(hm:X.mg "range"=none)(ha:PA X [a] ta)(hs:starEach [a] X.env=[(false,eval a X.env)]:=by rfl):PI X tg (.Call (.Name "range" p) [a] [] pos) (b7y ta):=by
 intro pins s σ H R I h;refine Call_ (X1 I hg hm boot_range (PyProof.Rows.callWith_type1 (thn (ha pos pins s σ H _ I h) fun us s1 ⟨vs,H1,I1,r1,q1⟩=>?_) hs rfl))
 obtain⟨j,e,q1,q2,q⟩:=q1;subst e
 cases r1 with
 |cons r rr=>
  cases rr;obtain⟨t,rfl⟩:=r;exact call_range_1 (a9d I1 (by omega) (by omega) q1 q2 (by simpa using q))
noncomputable def b9f(wi:TI)(g:TG)(tb:TS):TS:=fun D σ H=>wi σ H fun J H1=>∃W:Nat->Nat->St->Hp->Prop,(∃m,W 0 m σ H1)/\∀i m σ H,W i m σ H→
 (J.stop i H/\D.nx σ H)∨(J.go i H/\∃N:St->Hp->Prop,(∀σ' H',N σ' H'->∃m',m'<m/\W (i+1) m' σ' H')/\∀x H',J.yld i H x H'->g x σ H' fun σ2 H2=>tb {D with nx:=N,ct:=N,bk:=D.nx} σ2 H2)
noncomputable def a2b(fp:List Addr)(h:Heap):List (Addr×Obj):=fp.filterMap fun b=>(h.get? b).map fun o=>(b,o)
theorem U9{o:Obj}(hb:b∈fp)(e:h.get? b=some o):(b,o)∈a2b fp h:=bn.mpr ⟨b,hb,by rw[e];rfl⟩
theorem a7U{p:Addr×Obj}(hp:p∈a2b fp h):p.1∈fp/\h.get? p.1=some p.2:=by
 obtain⟨b,hb,e⟩:=bn.mp hp
 cases q:h.get? b with
 |none=>rw[q] at e;cases e
 |some o=>
  rw[q] at e
  have e':(b,o)=p:=ax e
  subst e';exact⟨hb,q⟩
theorem Inv.pinned(I:Inv X pins σ H s)(hf:∀b∈fp,a1n X pins H b)(ho:∀b∈fp,∃o,s.heap.get? b=some o/\∀v,o.data≠.cell v):Inv X (pins++a2b fp s.heap) σ H s:=
 I.pins_of fun p hp=>(aJ.mp hp).elim (fun z=>I.pin p (mem_append_right _ z)) fun z=>by
  obtain⟨hb,e⟩:=a7U z;obtain⟨f0,f1,f2,_⟩:=hf p.1 hb;obtain⟨o,e',d⟩:=ho p.1 hb;rw[e] at e';cases e'
  exact⟨e,f0,f1,f2,d⟩
theorem Inv.unpinned{pl:List (Addr×Obj)}(I:Inv X (pins++pl) σ H s):Inv X pins σ H s:=I.pins_of fun p hp=>I.pin p (mem_append_right _ (List.mem_append_left _ hp))
theorem b4n{wi:TI}{g:TG}(hp:PassesOwn (model X.prog X.w) X.A X.env X.xe)(hc:X.calm=true)(hi:PI X tg iter wi)(hg:PG X tg g)(hb:PSs X body tb)
 (hs:∀x,foldedSetIterable iter X.env x=pure x:=by intro _;rfl):PS X (.For tg iter body [] pos) (b9f wi g tb):=by
 intro pins s σ H D I h;refine wpAny_For (thn (hi pins s σ H _ I h) fun v s1 h1=>thn h1 fun itv s2 h2=>?_) hs
 obtain⟨it,fp,tn,J,H2,e,I2,T,st2,f2,W,⟨m0,w0⟩,turn⟩:=h2;subst e
 -- what stays true of the iterator's objects through the loop
 have stat:∀{H':Hp},(∀b∈fp,H' b=none)->∀b∈fp,a1n X pins H' b:=fun hn b hb=>⟨hn b hb,(f2 b hb).2⟩
 refine codeAny_forLoop_any (fun n s'=>∃i σ' H',Inv X pins σ' H' s'/\tn i s'.heap/\(∀b∈fp,H' b=none)/\W i n σ' H') ?_ m0 ⟨0,σ,H2,I2,st2,fun b hb=>(f2 b hb).1,w0⟩
 rintro n s3 ⟨i,σ3,H3,I3,st3,fr3,w3⟩
 rcases turn i n σ3 H3 w3 with⟨stop,qn⟩|⟨go,N,hN,step⟩
 · refine wpAny_passesOwn hp (thn (T.done X rfl rfl rfl hc i pins s3 σ3 H3 X.xe I3 (stat fr3) st3 stop) fun r s4 ⟨hr,I4⟩=>?_)
   subst hr;exact wpAny_execs_nil ⟨σ3,H3,I4,qn⟩
 · refine wpAny_passesOwn hp (thn (T.item X rfl rfl rfl hc i pins s3 σ3 H3 X.xe I3 (stat fr3) st3 go) fun r s4 ⟨u,hr,h4⟩=>?_)
   subst hr;refine wpAny_passesOwn hp (thn h4 fun _ s5 ⟨x,H5,I5,r5,y5,st5,fr5⟩=>?_)
   have I5':=I5.pinned (stat fr5) (T.obj _ _ st5)
   refine wpAny_passesOwn hp (thn (hg _ s5 σ3 H5 x u _ I5' r5 (step x H5 y5)) fun _ s6 ⟨σ6,H6,I6,q6⟩=>?_)
   refine wpAny_passesOwn hp (thn (hb _ s6 σ6 H6 _ I6 q6) fun f s7 q7=>?_)
   have again:∀{σ7:St} {H7:Hp},Inv X (pins++a2b fp s5.heap) σ7 H7 s7->N σ7 H7->∃m,m<n/\∃i σ' H',Inv X pins σ' H' s7/\tn i s7.heap/\(∀b∈fp,H' b=none)/\W i m σ' H':=fun{σ7 H7} I7 n7=>by
    obtain⟨m',hm,w7⟩:=hN σ7 H7 n7;refine⟨m',hm,i+1,σ7,H7,I7.unpinned,T.keep _ _ _ st5 fun b hb o e=>(I7.pin (b,o) (mem_append_right _ (mem_append_right _ (U9 hb e)))).1,fun b hb=>?_,w7⟩
    obtain⟨o,e,d⟩:=T.obj _ _ st5 b hb;exact(I7.pin (b,o) (mem_append_right _ (mem_append_right _ (U9 hb e)))).2.1
   cases f with
   |next=>obtain⟨σ7,H7,I7,n7⟩:=q7;exact again I7 n7
   |cont=>obtain⟨σ7,H7,I7,n7⟩:=q7;exact again I7 n7
   |brk=>obtain⟨σ7,H7,I7,q7⟩:=q7;exact⟨σ7,H7,I7.unpinned,q7⟩
   |ret v=>obtain⟨x7,σ7,H7,I7,r7,q7⟩:=q7;exact⟨x7,σ7,H7,I7.unpinned,r7,q7⟩
end
abbrev R2:=V->V->Hp->VK->Prop
def OpR(X:Cx)(f:Value->Value->Sem Value)(r:R2):Prop:=
 ∀(pins:List (Addr×Obj)) (s:Shared) (σ:St) (H:Hp) (x y:V) (v u:Value) (Q:VK),Inv X pins σ H s->n9 x v->n9 y u->r x y H Q→
  wpAny (model X.prog X.w) X.A (f v u) (EP X pins σ Q) X.xe s
def UnR(X:Cx)(f:Value->Sem Value)(r:V->Hp->VK->Prop):Prop:=
 ∀(pins:List (Addr×Obj)) (s:Shared) (σ:St) (H:Hp) (x:V) (v:Value) (Q:VK),Inv X pins σ H s->n9 x v->r x H Q→
  wpAny (model X.prog X.w) X.A (f v) (EP X pins σ Q) X.xe s
def E9(X:Cx)(f:Value)(r:List V->Hp->VK->Prop):Prop:=
 ∀(pins:List (Addr×Obj)) (s:Shared) (σ:St) (H:Hp) (xs:List V) (us:List Value) (Q:VK),Inv X pins σ H s->k8 xs us->r xs H Q→
  wpAny (model X.prog X.w) X.A (call f us) (EP X pins σ Q) X.xe s
def b9Y(X:Cx)(r:V->Hp->(Bool->Hp->Prop)->Prop):Prop:=
 ∀(pins:List (Addr×Obj)) (s:Shared) (σ:St) (H:Hp) (x:V) (v:Value) (Q:Bool->Hp->Prop),Inv X pins σ H s->n9 x v->r x H Q→
  wpAny (model X.prog X.w) X.A (truthy v) (TP X pins σ Q) X.xe s
noncomputable def tOp(r:R2)(ta tb:TE):TE:=fun σ H Q=>ta σ H fun x H1=>tb σ H1 fun y H2=>r x y H2 Q
def tUn(r:V->Hp->VK->Prop)(ta:TE):TE:=fun σ H Q=>ta σ H fun x H1=>r x H1 Q
def rI(C:Int->Int->Prop)(g:Int->Int->V):R2:=fun x y H Q=>∃i j,x=.int i/\y=.int j/\C i j/\Q (g i j) H
noncomputable def rI0(g:Int->Int->V):R2:=fun x y H Q=>∃i j,x=.int i/\y=.int j/\Q (g i j) H
def rU(g:Int->V):V->Hp->VK->Prop:=fun x H Q=>∃i,x=.int i/\Q (g i) H
variable{f:Value->Value->Sem Value}
section
variable{a b:Expr}{ta tb tc:TE}
theorem b5U(ha:PE X a ta)(hb:PE X b tb){R:V->V->Hp->Prop}(I:Inv X pins σ H s)
 (h:ta σ H fun x H1=>tb σ H1 fun y H2=>R x y H2)
 (hf:∀v u s2 x y H2,Inv X pins σ H2 s2->n9 x v->n9 y u->R x y H2->wpAny (model X.prog X.w) X.A (f v u) Q X.xe s2):
 wpAny (model X.prog X.w) X.A (eval a X.env) (fun v s₁=>wpAny (model X.prog X.w) X.A (eval b X.env) (fun u s₂=>wpAny (model X.prog X.w) X.A (f v u) Q X.xe s₂) X.xe s₁) X.xe s:=by
 refine thn (ha pins s σ H _ I h) fun v s1 ⟨x,H1,I1,r1,q1⟩=>?_
 refine thn (hb pins s1 σ H1 _ I1 q1) fun u s2 ⟨y,H2,I2,r2,q2⟩=>?_
 exact hf v u s2 x y H2 I2 r1 r2 q2
theorem b7g{op:Operator}{r:R2}(ho:OpR X (binaryOp op) r)(ha:PE X a ta)(hb:PE X b tb):PE X (.BinOp a op b pos) (tOp r ta tb):=by
 intro pins s σ H Q I h;exact wpAny_BinOp (b5U ha hb I h fun v u s2 x y H2 I2 rx ry q=>ho pins s2 σ H2 x y v u Q I2 rx ry q)
theorem b7e{op:UnaryOp}{r:V->Hp->VK->Prop}(ho:UnR X (unaryOp op) r)(ha:PE X a ta):PE X (.UnaryOp op a pos) (tUn r ta):=by
 intro pins s σ H Q I h;exact UnaryOp_ (thn (ha pins s σ H _ I h) fun v s1 ⟨x,H1,I1,r1,q1⟩=>ho pins s1 σ H1 x v Q I1 r1 q1)
theorem opI{C:Int->Int->Prop}{g:Int->Int->Int}
 (rule:∀(i j:Int) (t u:Tok) (s:Shared) (Q:Value->Shared->Prop) (E:Value->Shared->Prop),C i j->Q (.int (g i j) s.toks) {s with toks:=s.toks+1}->wpAny (model X.prog X.w) X.A (f (.int i t) (.int j u)) Q E s):
 OpR X f (rI C fun i j=>.int (g i j)):=by
 intro pins s σ H x y v u Q I rx ry h;obtain⟨i,j,rfl,rfl,hc,q⟩:=h;obtain⟨t,rfl⟩:=rx;obtain⟨t',rfl⟩:=ry;exact rule i j t t' s _ _ hc ⟨.int (g i j),H,I.tok _,⟨_,rfl⟩,q⟩
theorem b7q{g:Int->Int->Int}
 (rule:∀(i j:Int) (t u:Tok) (s:Shared) (Q:Value->Shared->Prop) (E:Value->Shared->Prop),Q (.int (g i j) s.toks) {s with toks:=s.toks+1}->wpAny (model X.prog X.w) X.A (f (.int i t) (.int j u)) Q E s):
 OpR X f (rI0 fun i j=>.int (g i j)):=by
 intro pins s σ H x y v u Q I rx ry h;obtain⟨i,j,rfl,rfl,q⟩:=h;obtain⟨t,rfl⟩:=rx;obtain⟨t',rfl⟩:=ry;exact rule i j t t' s _ _ ⟨.int (g i j),H,I.tok _,⟨_,rfl⟩,q⟩
theorem b2m{g:Int->Int->Bool}
 (rule:∀(i j:Int) (t u:Tok) (s:Shared) (Q:Value->Shared->Prop) (E:Value->Shared->Prop),Q (.bool (g i j)) s->wpAny (model X.prog X.w) X.A (f (.int i t) (.int j u)) Q E s):
 OpR X f (rI0 fun i j=>.bl (g i j)):=by
 intro pins s σ H x y v u Q I rx ry h;obtain⟨i,j,rfl,rfl,q⟩:=h;obtain⟨t,rfl⟩:=rx;obtain⟨t',rfl⟩:=ry;exact rule i j t t' s _ _ ⟨.bl (g i j),H,I,rfl,q⟩
def c0u(i j:Int):Prop:=0<j/\j<1073741824
def b6t(i j:Int):Prop:=(-(2^64)<i/\i<2^64)∨(-(2^64)<j/\j<2^64)
theorem b6t.ok{i j:Int}(h:b6t i j):IntMulOk i j:=by
 rcases h with⟨h1,h2⟩|⟨h1,h2⟩
 · exact .of_left (intBits_le_64 h1 h2)
 · exact .of_right (intBits_le_64 h1 h2)
theorem b4O:OpR X (binaryOp .Add) (rI0 fun i j=>.int (i+j)):=b7q fun _ _ _ _ _ _ _ q=>add_int q
theorem b4G:OpR X (binaryOp .Sub) (rI0 fun i j=>.int (i-j)):=b7q fun _ _ _ _ _ _ _ q=>sub_int q
theorem b4J:OpR X (binaryOp .Mult) (rI b6t fun i j=>.int (i*j)):=opI fun _ _ _ _ _ _ _ hc q=>mul_int q hc.ok
theorem b2l:OpR X (binaryOp .FloorDiv) (rI c0u fun i j=>.int (i/j)):=opI fun i j _ _ _ _ _ hc q=>by
 have h1:(0:Int)<j:=hc.1
 have h2:j<1073741824:=hc.2
 exact floordiv_int (by omega) (by rw[Int.fdiv_eq_ediv_of_nonneg i (by omega)];exact q) (.inl (PyProof.noPylong_small (by omega)))
theorem b4K:OpR X (binaryOp .Mod) (rI (fun _ j=>0<j) fun i j=>.int (i%j)):=opI fun i j _ _ _ _ _ hc q=>by
 have h1:(0:Int)<j:=hc
 exact mod_int' (by omega) (by rw[Int.fmod_eq_emod_of_nonneg i (by omega)];exact q)
theorem unI{f:Value->Sem Value}{g:Int->Int}
 (rule:∀(i:Int) (t:Tok) (s:Shared) (Q:Value->Shared->Prop) (E:Value->Shared->Prop),Q (.int (g i) s.toks) {s with toks:=s.toks+1}->wpAny (model X.prog X.w) X.A (f (.int i t)) Q E s):
 UnR X f (rU fun i=>.int (g i)):=by
 intro pins s σ H x v Q I rx h;obtain⟨i,rfl,q⟩:=h;obtain⟨t,rfl⟩:=rx;exact rule i t s _ _ ⟨.int (g i),H,I.tok _,⟨_,rfl⟩,q⟩
theorem b3H:UnR X (unaryOp .USub) (rU fun i=>.int (-i)):=unI fun _ _ _ _ _ q=>neg_int q
end
noncomputable def scal:V->V->Bool
 |.non,.non=>true|.non,.int _=>true|.int _,.non=>true|.non,.bl _=>true|.bl _,.non=>true|.non,.str _=>true|.str _,.non=>true
 |.int _,.int _=>true|.bl _,.bl _=>true|.str _,.str _=>true|.byt _,.byt _=>true
 |.int _,.str _=>true|.str _,.int _=>true|.bl _,.str _=>true|.str _,.bl _=>true
 |_,_=>false
def rEq:R2:=fun x y H Q=>scal x y=true/\Q (.bl (decide (x=y))) H
def rNe:R2:=fun x y H Q=>scal x y=true/\Q (.bl (!decide (x=y))) H
theorem a7r{i j:Int}:decide (V.int i=V.int j)=(i==j):=by
 rw[Bool.eq_iff_iff];simp
theorem b0M{i j:Bool}:decide (V.bl i=V.bl j)=(i==j):=by
 rw[Bool.eq_iff_iff];simp
theorem a7q{i j:Str}:decide (V.str i=V.str j)=(i==j):=by
 rw[Bool.eq_iff_iff];simp
theorem a7s{i j:Array UInt8}:decide (V.byt i=V.byt j)=(i.toList==j.toList):=by
 rw[Bool.eq_iff_iff];cases i;cases j;simp
variable{op':CmpOp}{its:List Value}
section
variable{a b:Expr}{ta tb tc:TE}
theorem o7{Q:VK}{k k':Bool}(I:Inv X pins σ H s)(q:Q (.bl k) H)(e:k=k'):EP X pins σ Q (.bool k') s:=by
 subst e;exact⟨.bl k,H,I,rfl,q⟩
theorem b7p:OpR X (compareOp .Eq) rEq:=by
 intro pins s σ H x y v u Q I rx ry h;obtain⟨hs,q⟩:=h
 cases x with
 |non=>
  cases rx
  cases y with
  |non=>cases ry;exact PySem.EqNone.eq_none_none (o7 I q (by simp))
  |bl j=>cases ry;exact PySem.EqNone.eq_none_bool (o7 I q (by simp))
  |int j=>obtain⟨t',rfl⟩:=ry;exact PySem.EqNone.eq_none_int (o7 I q (by simp))
  |str j=>obtain⟨t',rfl⟩:=ry;exact PySem.EqNone.eq_none_str (o7 I q (by simp))
  |_=>exact absurd (show false=true from hs) bh
 |bl i=>
  cases rx
  cases y with
  |non=>cases ry;exact PySem.EqNone.eq_bool_none (o7 I q (by simp))
  |bl j=>cases ry;exact eq_bool (o7 I q b0M)
  |str j=>obtain⟨t',rfl⟩:=ry;exact PySem.EqMixed.eq_bool_str (o7 I q (by simp))
  |_=>exact absurd (show false=true from hs) bh
 |int i=>
  obtain⟨t,rfl⟩:=rx
  cases y with
  |non=>cases ry;exact PySem.EqNone.eq_int_none (o7 I q (by simp))
  |int j=>obtain⟨t',rfl⟩:=ry;exact eq_int (o7 I q a7r)
  |str j=>obtain⟨t',rfl⟩:=ry;exact PySem.EqMixed.eq_int_str (o7 I q (by simp))
  |_=>exact absurd (show false=true from hs) bh
 |str i=>
  obtain⟨t,rfl⟩:=rx
  cases y with
  |non=>cases ry;exact PySem.EqNone.eq_str_none (o7 I q (by simp))
  |bl j=>cases ry;exact PySem.EqMixed.eq_str_bool (o7 I q (by simp))
  |int j=>obtain⟨t',rfl⟩:=ry;exact PySem.EqMixed.eq_str_int (o7 I q (by simp))
  |str j=>obtain⟨t',rfl⟩:=ry;exact eq_str (o7 I q a7q)
  |_=>exact absurd (show false=true from hs) bh
 |byt i=>
  obtain⟨t,rfl⟩:=rx
  cases y with
  |byt j=>obtain⟨t',rfl⟩:=ry;exact PySem.W.eq_bytes (o7 I q a7s)
  |_=>exact absurd (show false=true from hs) bh
 |_=>cases y<;>exact absurd (show false=true from hs) bh
theorem b7k:OpR X (compareOp .NotEq) rNe:=by
 intro pins s σ H x y v u Q I rx ry h;obtain⟨hs,q⟩:=h
 cases x with
 |non=>
  cases rx
  cases y with
  |non=>cases ry;exact PySem.EqNone.ne_none_none (o7 I q (by simp))
  |bl j=>cases ry;exact PySem.EqNone.ne_none_bool (o7 I q (by simp))
  |int j=>obtain⟨t',rfl⟩:=ry;exact PySem.EqNone.ne_none_int (o7 I q (by simp))
  |str j=>obtain⟨t',rfl⟩:=ry;exact PySem.EqNone.ne_none_str (o7 I q (by simp))
  |_=>exact absurd (show false=true from hs) bh
 |bl i=>
  cases rx
  cases y with
  |non=>cases ry;exact PySem.EqNone.ne_bool_none (o7 I q (by simp))
  |bl j=>cases ry;exact ne_bool (o7 I q (congrArg not b0M))
  |str j=>obtain⟨t',rfl⟩:=ry;exact PySem.EqMixed.ne_bool_str (o7 I q (by simp))
  |_=>exact absurd (show false=true from hs) bh
 |int i=>
  obtain⟨t,rfl⟩:=rx
  cases y with
  |non=>cases ry;exact PySem.EqNone.ne_int_none (o7 I q (by simp))
  |int j=>obtain⟨t',rfl⟩:=ry;exact ne_int (o7 I q (congrArg not a7r))
  |str j=>obtain⟨t',rfl⟩:=ry;exact PySem.EqMixed.ne_int_str (o7 I q (by simp))
  |_=>exact absurd (show false=true from hs) bh
 |str i=>
  obtain⟨t,rfl⟩:=rx
  cases y with
  |non=>cases ry;exact PySem.EqNone.ne_str_none (o7 I q (by simp))
  |bl j=>cases ry;exact PySem.EqMixed.ne_str_bool (o7 I q (by simp))
  |int j=>obtain⟨t',rfl⟩:=ry;exact PySem.EqMixed.ne_str_int (o7 I q (by simp))
  |str j=>obtain⟨t',rfl⟩:=ry;exact ne_str (o7 I q (congrArg not a7q))
  |_=>exact absurd (show false=true from hs) bh
 |byt i=>
  obtain⟨t,rfl⟩:=rx
  cases y with
  |byt j=>obtain⟨t',rfl⟩:=ry;exact PySem.W.ne_bytes (o7 I q (congrArg not a7s))
  |_=>exact absurd (show false=true from hs) bh
 |_=>cases y<;>exact absurd (show false=true from hs) bh
theorem b7l:OpR X (compareOp .Lt) (rI0 fun i j=>.bl (decide (i<j))):=b2m fun _ _ _ _ _ _ _ q=>lt_int q
theorem b7m:OpR X (compareOp .LtE) (rI0 fun i j=>.bl (decide (i<=j))):=b2m fun _ _ _ _ _ _ _ q=>le_int q
theorem b7n:OpR X (compareOp .Gt) (rI0 fun i j=>.bl (decide (j<i))):=b2m fun _ _ _ _ _ _ _ q=>gt_int q
theorem b7o:OpR X (compareOp .GtE) (rI0 fun i j=>.bl (decide (j<=i))):=b2m fun _ _ _ _ _ _ _ q=>ge_int q
theorem a7S:OpR X (compareOp .In) (fun x y H Q=>∃i j,x=.str i/\y=.str j/\Q (.bl (!(Builtin.Str.occurrences j i 0 j.length 1).isEmpty)) H):=by
 intro pins s σ H x y v u Q I rx ry h;obtain⟨i,j,rfl,rfl,q⟩:=h;obtain⟨t,rfl⟩:=rx;obtain⟨t',rfl⟩:=ry;exact in_str (o7 I q rfl)
theorem OpR.or{r r':R2}(h:OpR X f r)(h':OpR X f r'):OpR X f (fun x y H Q=>r x y H Q∨r' x y H Q):=by
 intro pins s σ H x y v u Q I rx ry q
 rcases q with q|q
 · exact h pins s σ H x y v u Q I rx ry q
 · exact h' pins s σ H x y v u Q I rx ry q
theorem a3Q{r:R2}(ho:OpR X (compareOp op) r)(ha:PE X a ta)(hb:PE X b tb)(hm:behindInMarks op b=false):PE X (.Compare a [op] [b] pos) (tOp r ta tb):=by
 intro pins s σ H Q I h;exact wpAny_Compare1 (b5U ha hb I h fun v u s2 x y H2 I2 rx ry q=>ho pins s2 σ H2 x y v u Q I2 rx ry q) hm
noncomputable def a8H(t:TE):TT:=fun σ H Q=>t σ H fun x H'=>∃k,x=.bl k/\Q k H'
theorem a3P{r:R2}(ho:OpR X (compareOp op) r)(ha:PE X a ta)(hb:PE X b tb)(hm:behindInMarks op b=false):PT X (.Compare a [op] [b] pos) (a8H (tOp r ta tb)):=by
 intro pins s σ H Q I h
 refine wpAny_isTrue_Compare1 (thn (ha pins s σ H _ I h) fun v s1 ⟨x,H1,I1,r1,q1⟩=>thn (hb pins s1 σ H1 _ I1 q1) fun u s2 ⟨y,H2,I2,r2,q2⟩=>
  thn (ho pins s2 σ H2 x y v u _ I2 r1 r2 q2) fun c s3 ⟨z,H3,I3,r3,k,e,q3⟩=>?_) hm
 subst e;cases r3;exact wpAny_truthy_bool ⟨H3,I3,q3⟩
noncomputable def a5O(r r':R2)(ta tb tc:TE):TE:=fun σ H Q=>ta σ H fun x H1=>tb σ H1 fun y H2=>r x y H2 fun z H3=>∃k,z=.bl k∧
 (if k=true then tc σ H3 fun w' H4=>r' y w' H4 Q else Q (.bl false) H3)
theorem a9y{r r':R2}(ho:OpR X (compareOp op) r)(ho':OpR X (compareOp op') r')(ha:PE X a ta)(hb:PE X b tb)(hc:PE X c tc)
 (hm:lastMarks [op,op'] [b,c]=false:=by with_unfolding_all rfl):PE X (.Compare a [op,op'] [b,c] pos) (a5O r r' ta tb tc):=by
 intro pins s σ H Q I h
 refine Compare_chain (thn (ha pins s σ H _ I h) fun v s1 ⟨x,H1,I1,r1,q1⟩=>chain_link (thn (hb pins s1 σ H1 _ I1 q1) fun u s2 ⟨y,H2,I2,r2,q2⟩=>
  thn (ho pins s2 σ H2 x y v u _ I2 r1 r2 q2) fun d s3 ⟨z,H3,I3,r3,k,e,q3⟩=>?_)) hm
 subst e;cases r3;refine wpAny_truthy_bool ?_
 cases k with
 |false=>exact ite_ff ⟨.bl false,H3,I3,rfl,q3⟩
 |true=>exact ite_tt (chain_last (thn (hc pins s3 σ H3 _ I3 q3) fun w' s4 ⟨z',H4,I4,r4,q4⟩=>ho' pins s4 σ H4 y z' u w' Q I4 r2 r4 q4))
theorem a9i{r r':R2}(ho:OpR X (compareOp op) r)(ho':OpR X (compareOp op') r')(ha:PE X a ta)(hb:PE X b tb)(hc:PE X c tc)
 (hm:lastMarks [op,op'] [b,c]=false:=by with_unfolding_all rfl):PT X (.Compare a [op,op'] [b,c] pos) (a8H (a5O r r' ta tb tc)):=by
 intro pins s σ H Q I h
 refine isTrue_chain (thn (ha pins s σ H _ I h) fun v s1 ⟨x,H1,I1,r1,q1⟩=>test_link (thn (hb pins s1 σ H1 _ I1 q1) fun u s2 ⟨y,H2,I2,r2,q2⟩=>
  thn (ho pins s2 σ H2 x y v u _ I2 r1 r2 q2) fun d s3 ⟨z,H3,I3,r3,k,e,q3⟩=>?_)) hm
 subst e;cases r3;refine wpAny_truthy_bool ?_
 cases k with
 |false=>
  obtain⟨k',e',q'⟩:=q3;cases e';exact ite_ff ⟨H3,I3,q'⟩
 |true=>
  refine ite_tt (test_last (thn (hc pins s3 σ H3 _ I3 q3) fun w' s4 ⟨z',H4,I4,r4,q4⟩=>thn (ho' pins s4 σ H4 y z' u w' _ I4 r2 r4 q4) fun d' s5 ⟨z2,H5,I5,r5,k2,e2,q5⟩=>?_))
  subst e2;cases r5;exact wpAny_truthy_bool ⟨H5,I5,q5⟩
def b8R(K:PySem.W.Frag)(x:V)(H:Hp)(k:Bool):Prop:=
 match x with
 |.non=>k=false
 |.bl b=>k=b
 |.int i=>k=(i !=0)
 |.str y=>y.length<=sizeLine/\k=((y.length:Int) !=0)
 |.byt y=>y.size<=sizeLine/\k=((y.size:Int) !=0)
 |.ref p=>(∃xs,SqL K H p xs/\k=!xs.isEmpty)∨(∃xs,SqT K H p xs/\k=!xs.isEmpty)∨∃kvs,H p=some (.dK kvs)/\k=!kvs.isEmpty
 |_=>False
theorem a6k{κ:Type}{kvs:List (κ×V)}{vs:List (κ×Value)}(r:KV kvs vs):(!vs.isEmpty)=!kvs.isEmpty:=by
 cases r<;>rfl
theorem a2v{xs:List V}(r:k8 xs its):(!its.toArray.isEmpty)=!xs.isEmpty:=by
 cases r<;>simp
theorem a0t:(sizeLine:Nat)<2^63:=by rw[sizeLine_eq];decide
theorem b3Q:b9Y X (fun x H Q=>∃k,b8R X.K x H k/\Q k H):=by
 intro pins s σ H x v Q I rx h;obtain⟨k,e,q⟩:=h;have hl:=a0t
 have hs:sizeLine=16777216:=sizeLine_eq
 cases x with
 |non=>
  cases rx
  have e':k=false:=e
  subst e';exact truthy_none ⟨H,I,q⟩
 |bl b=>
  cases rx
  have e':k=b:=e
  subst e';exact wpAny_truthy_bool ⟨H,I,q⟩
 |int i=>
  obtain⟨t,rfl⟩:=rx
  have e':k=(i !=0):=e
  subst e';exact PySem.P.truthy_int ⟨H,I,q⟩
 |str y=>
  obtain⟨t,rfl⟩:=rx;obtain⟨hy,e'⟩:y.length<=sizeLine/\k=((y.length:Int) !=0):=e;subst e';exact PySem.P.truthy_str (by omega) ⟨H,I.tok _,q⟩
 |byt y=>
  obtain⟨t,rfl⟩:=rx;obtain⟨hy,e'⟩:y.size<=sizeLine/\k=((y.size:Int) !=0):=e;subst e';exact PySem.W.truthy_bytes (by omega) ⟨H,I.tok _,q⟩
 |ref p=>
  cases rx
  have e':(∃xs,SqL X.K H p xs/\k=!xs.isEmpty)∨(∃xs,SqT X.K H p xs/\k=!xs.isEmpty)∨∃kvs,H p=some (.dK kvs)/\k=!kvs.isEmpty:=e
  rcases e' with⟨xs,hx,e'⟩|⟨xs,hx,e'⟩|⟨kvs,hx,e'⟩
  · subst e';obtain⟨its,r,pl,hz⟩:=I.list hx;have hlen:=r.length;exact wpAny_truthy_list pl.isList (by simp only[size_toArray];omega) ⟨H,I.tok _,by rw[a2v r];exact q⟩
  · subst e';obtain⟨its,r,pl,hz⟩:=I.tuple hx;have hlen:=r.length;exact truthy_tuple pl (by simp only[size_toArray];omega) ⟨H,I.tok _,by rw[a2v r];exact q⟩
  · subst e';obtain⟨hz,hS,vs,r,m⟩:kvs.length<=sizeLine/\(p==sysModules)=false/\∃vs,KV kvs vs/\s.heap.DictOf (v8 X.prog X.w) p vs:=I.hok p _ hx
    have hlen:kvs.length=vs.length:=Paired.length r
    exact wpAny_truthy_dict hS m (by omega) ⟨H,I.tok _,by rw[a6k r];exact q⟩
 |_=>exact(show False from e).elim
theorem a9f(ha:PE X a ta)(he:∀whole,isTrue a X.env whole=(do let v←whole;standAt a.pos;holding [v] (truthy v))):
 PT X a (fun σ H Q=>ta σ H fun x H'=>∃k,b8R X.K x H' k/\Q k H'):=by
 intro pins s σ H Q I h;exact isTrue_plain (thn (ha pins s σ H _ I h) fun v s1 ⟨x,H1,I1,r1,q1⟩=>b3Q pins s1 σ H1 x v Q I1 r1 q1) (he _)
theorem a6a:OpR X (binaryOp .Add) (fun x y H Q=>∃i j,x=.str i/\y=.str j/\i.length+j.length<=sizeLine/\Q (.str (i++j)) H):=by
 intro pins s σ H x y v u Q I rx ry h;obtain⟨i,j,rfl,rfl,hz,q⟩:=h;obtain⟨t,rfl⟩:=rx;obtain⟨t',rfl⟩:=ry;exact add_str (fun t' tk=>⟨.str (i++j),H,I.tok _,⟨_,rfl⟩,q⟩) hz
theorem S9{x:V}(r:k8 [x] us):∃u,us=[u]/\n9 x u:=by
 cases r with
 |cons r1 r2=>cases r2;exact⟨_,rfl,r1⟩
theorem a2V{x:V}(r:k8 [x,y] us):∃u w',us=[u,w']/\n9 x u/\n9 y w':=by
 cases r with
 |cons r1 r2=>
  cases r2 with
  |cons r3 r4=>cases r4;exact⟨_,_,rfl,r1,r3⟩
theorem a3w:E9 X (.type "int") (fun xs H Q=>(∃i,xs=[.int i]/\Q (.int i) H)∨∃k,xs=[.bl k]/\Q (.int (if k then 1 else 0)) H):=by
 intro pins s σ H xs us Q I r h
 rcases h with⟨i,rfl,q⟩|⟨k,rfl,q⟩
 · obtain⟨u,rfl,t,rfl⟩:=S9 r;exact call_int_int ⟨.int i,H,I,⟨_,rfl⟩,q⟩
 · obtain⟨u,rfl,r1⟩:=S9 r;cases r1;exact call_int_bool ⟨.int (if k then 1 else 0),H,I.tok _,⟨_,rfl⟩,q⟩
theorem a4x:E9 X (.type "str") (fun xs H Q=>∃i,xs=[.int i]/\i.natAbs.log2<1920/\Q (.str (toString i)) H):=by
 intro pins s σ H xs us Q I r h;obtain⟨i,rfl,hz,q⟩:=h;obtain⟨u,rfl,t,rfl⟩:=S9 r;exact PySem.P.str_of_int hz ⟨.str _,H,I.tok _,⟨_,rfl⟩,q⟩
end
structure ObjM(h:Heap)(x dx C:Addr)(mA:Str->Option Value):Prop where
 obj:h.get? x=some (PySem.W.instObj C dx)
 ns:h.Ns1 dx mA
 ne:dx≠x
variable{dx:Addr}{mA:Str->Option Value}
theorem a7Z(n:h.Ns1 dx mA):∃od,h.get? dx=some od/\∀name,PySem.W.lookIn name od=some (mA name):=by
 obtain⟨o,es,ep,ho,hd,hk,_,hm⟩:=n;refine⟨o,ho,fun name=>?_⟩
 have e:=hm name;unfold nsFind findBy at e;rw[←Array.find?_toList] at e
 unfold PySem.W.lookIn;rw[hd]
 dsimp only
 split
 · rename_i y q;rw[q] at e;exact congrArg some e
 · rename_i q;rw[q] at e
   have a:es.toList.any (·.refKey)=false:=by
    rw[List.any_eq_false];intro y hy;obtain⟨z,t,hkey⟩:=hk y (Array.mem_toList_iff.mp hy);simp[DictEntry.refKey,hkey]
   have a':¬es.toList.any (·.refKey)=true:=by rw[a];exact bh
   rw[az a'];exact congrArg some e
variable{C:Addr}
theorem ObjM.look{x:Addr}(I:ObjM h x dx C mA):∃od,PySem.W.InstAt h x (PySem.W.instObj C dx) C (some od)/\∀name,PySem.W.lookIn name od=some (mA name):=
 let⟨od,ho,hl⟩:=a7Z I.ns
 ⟨od,⟨I.obj,rfl,rfl,ho⟩,hl⟩
variable{expr:Bool}{kw:List (Str×Value)}
section
variable{prog:Program}{E:Value->Shared->Prop}{x f:Addr}{name:Str}{v:Value}
theorem b2K(X:K.In s.heap)(I:ObjM s.heap x dx C mA)(hg:PySem.W.plainGet K C name=true)(hh:PySem.W.hasDictIn K C=true)
 (ha:PySem.W.findIn K (.ref C) name=some none) (hv:mA name=some v) (hv':PySem.W.handedIn v=true) (h:Q v {s with toks:=s.toks+1}):
 wpAny (model prog w) A (getAttr (.ref x) name expr) Q E s:=by
 obtain⟨od,J,hl⟩:=I.look;exact PySem.W.get_value X J (PySem.W.plainGet_of hg).1 (PySem.W.findObj_own hh ha rfl (by rw[hl,hv])) hv' h
theorem b1J{ns:List Str}{Q:Unit->Shared->Prop}(X:K.In s.heap)(I:ObjM s.heap x dx C mA)
 (hs:PySem.W.findIn K (.ref C) "__setattr__"=some (some (.builtin "object.__setattr__"))) (hp:PySem.W.plainOver K C=true) (ht:PySem.W.takerIn K C name=some none) (hh:PySem.W.hasDictIn K C=true)
 (hw:PySem.Within mA ns) (hsz:ns.length<=sizeLine)
 (h:∀h',ObjM h' x dx C (fun y=>if y=name then some v else mA y)->Heap.SameBut dx s.heap h'->Q () {s with heap:=h',toks:=s.toks+2}):
 wpAny (model prog w) A (setAttr (.ref x) name v) Q E s:=by
 obtain⟨od,J,hl⟩:=I.look;refine PySem.W.set_plain X J hs (PySem.W.osa_open (s:={s with toks:=s.toks+1}) (r:=none) X J hp ht fun b=>?_)
 obtain⟨cd,hc,hd'⟩:=PySem.W.any_some hh
 have hx:s.heap.get? x=some ⟨.ref C,some dx,.plain,#[]⟩:=I.obj
 refine wpAny_bind (wpAny_pure (wpAny_bind (wpAny_bind (wpAny_loadPart hx (wpAny_bind (PySem.W.Looks.here (s:={s with toks:=s.toks+1}) (PySem.W.looks_clsIn X hc) ?_))))))
 rw[hd'];refine wpAny_pure (a:=some dx) (wpAny_bind (wpAny_pure (wpAny_bind ?_)))
 refine wpAny_nsSet1 (s:={s with toks:=s.toks+1}) I.ns fun h' hn2 hs2=>?_
 obtain⟨oD,esD,epD,hoD,hdD,hcD⟩:=hn2.count (PySem.Within.cons name v hw);refine wpAny_bind (wpAny_lookBehind hoD (by rw[hdD];exact pastItsLine_dict (aO hcD (by rw[length_cons];omega))) ?_)
 exact wpAny_pure (h _ ⟨(hs2.2 _ (Ne.symm I.ne)).trans I.obj,hn2,I.ne⟩ hs2)
theorem a9J{R:Result->Shared->Prop}{vs:List Value}(X:K.In s.heap)(hm:PySem.W.makesIn K C=true)
 (hi:PySem.W.findIn K (.ref C) "__init__"=some (some (.ref f))) (hf:PySem.W.typeIn K (.ref f)=some (.type "function"))
 (h:codeAny (model prog w) (A.under (.builtin "type.__call__" ⟨.ref C::vs,kw⟩)) (.call (.ref f) ⟨.ref (s.heap.objs.size+1)::vs,kw⟩) (PySem.W.InitBack (s.heap.objs.size+1) R)
  {s with heap:=(s.heap.push PySem.W.emptyDict).push (PySem.W.instObj C s.heap.objs.size)}):
 codeAny (model prog w) A (.call (.ref C) ⟨vs,kw⟩) R s:=by
 obtain⟨hh,g,d,t,os⟩:=s;exact PySem.W.make_core (PySem.W.makes_of X hm) (PySem.W.looks_findIn X hi) (fun self=>PySem.W.bind_fn X self hf) (.inl rfl) h
end
noncomputable def U5(f:Str)(v:V):List (Str×V)->List (Str×V)
 |[]=>[(f,v)]
 |(g,x)::r=>if g=f then(g,v)::r else(g,x)::U5 f v r
theorem a1u(f g:Str)(v:V):∀fs:List (Str×V),(U5 f v fs).lookup g=if g=f then some v else fs.lookup g
 |[]=>by
  show List.lookup g [(f,v)]=_
  by_cases h:g=f
  · have hb:(g==f)=true:=beq_iff_eq.mpr h
    simp only[List.lookup,hb,ay h]
  · have hb:(g==f)=false:=beq_eq_false_iff_ne.mpr h
    simp only[List.lookup,hb,az h]
 | (k,x)::r=>by
  have ih:=a1u f g v r;rw[show U5 f v ((k,x)::r)=(if k=f then(k,v)::r else(k,x)::U5 f v r) from rfl]
  by_cases hk:k=f
  · rw[ay hk]
    by_cases h:g=k
    · have hb:(g==k)=true:=beq_iff_eq.mpr h
      simp only[List.lookup,hb,ay (h.trans hk)]
    · have hb:(g==k)=false:=beq_eq_false_iff_ne.mpr h
      simp only[List.lookup,hb,az (fun e:g=f=>h (e.trans hk.symm))]
  · rw[az hk]
    by_cases h:g=k
    · have hb:(g==k)=true:=beq_iff_eq.mpr h
      simp only[List.lookup,hb,az (fun e:g=f=>hk (h.symm.trans e))]
    · have hb:(g==k)=false:=beq_eq_false_iff_ne.mpr h
      simp only[List.lookup,hb];exact ih
theorem a1d(f:Str)(v:V):∀fs:List (Str×V),f∈(U5 f v fs).map (·.1)/\∀g,g∈fs.map (·.1)->g∈(U5 f v fs).map (·.1)
 |[]=>⟨by simp[U5],fun g h=>by simp at h⟩
 | (k,x)::r=>by
  obtain⟨i1,i2⟩:=a1d f v r;rw[show U5 f v ((k,x)::r)=(if k=f then(k,v)::r else(k,x)::U5 f v r) from rfl]
  by_cases hk:k=f
  · rw[ay hk];subst hk;exact⟨by simp,fun g h=>by simpa using h⟩
  · rw[az hk];refine⟨?_,fun g h=>?_⟩
    · rw[map_cons];exact aD _ i1
    · rw[map_cons] at h⊢
      rcases aE.mp h with e|e
      · exact aE.mpr (.inl e)
      · exact aD _ (i2 g e)
theorem a1v(f:Str)(v:V):∀fs:List (Str×V),(U5 f v fs).length<=fs.length+1
 |[]=>by simp[U5]
 |(k,x)::r=>by
  have ih:=a1v f v r;rw[show U5 f v ((k,x)::r)=(if k=f then(k,v)::r else(k,x)::U5 f v r) from rfl]
  by_cases hk:k=f
  · rw[ay hk,length_cons,length_cons];omega
  · rw[az hk,length_cons,length_cons];omega
theorem U3.some_of{o:Option Value}(r:U3 (some v) o):∃u,o=some u/\n9 v u:=by
 cases o with
 |none=>exact(show False from r).elim
 |some u=>exact⟨u,rfl,r⟩
theorem U3.none_of{o:Option Value}(r:U3 none o):o=none:=by
 cases o with
 |none=>rfl
 |some u=>exact(show False from r).elim
theorem a3l(r:n9 v u):PySem.W.handedIn u=true:=by
 cases v with
 |non=>cases (show u=Value.none from r);rfl
 |bl b=>cases (show u=Value.bool b from r);rfl
 |int i=>obtain⟨t,e⟩:=(show∃t,u=Value.int i t from r);cases e;rfl
 |str x=>obtain⟨t,e⟩:=(show∃t,u=Value.str x t from r);cases e;rfl
 |byt b=>obtain⟨t,e⟩:=(show∃t,u=Value.bytes b t from r);cases e;rfl
 |flt b=>obtain⟨t,e⟩:=(show∃t,u=Value.float b t from r);cases e;rfl
 |ref a=>cases (show u=Value.ref a from r);rfl
 |ty n=>cases (show u=Value.type n from r);rfl
section
variable{fs fs':List (Str×V)}
theorem a4f(hok:HOk P w H h)(e:H a=some (.ins C dx fs)):∃mA,ObjM h a dx C mA/\(∀f,U3 (fs.lookup f) (mA f))/\PySem.Within mA (fs.map (·.1))/\fs.length<=1000/\H dx=some (.own a):=by
 obtain⟨d,z,ne,ob,mA,n,r,q⟩:=(show v7 P w H h a (.ins C dx fs) from hok a _ e);exact⟨mA,⟨ob,n,ne⟩,r,q,z,d⟩
end
structure Cls(K:PySem.W.Frag)(C:Addr):Prop where
 pg:PySem.W.plainGet K C Str.empty=true
 hd:PySem.W.hasDictIn K C=true
 po:PySem.W.plainOver K C=true
 sa:PySem.W.findIn K (.ref C) "__setattr__"=some (some (.builtin "object.__setattr__"))
theorem Cls.get(c:Cls K C)(f:Str):PySem.W.plainGet K C f=true:=c.pg
def Z0(K:PySem.W.Frag)(C:Addr)(f:Str):Prop:=PySem.W.findIn K (.ref C) f=some none
theorem Z0.taker{f:Str}(n:Z0 K C f):PySem.W.takerIn K C f=some none:=by
 unfold PySem.W.takerIn;rw[show PySem.W.findIn K (.ref C) f=some none from n];rfl
variable{prog:Program}{env:Env}
section
variable{fs:List (Str×V)}{f:Str}{E:Value->Shared->Prop}
theorem a6m{b:Bool}(I:Inv X pins σ H s)(e:H a=some (.ins C dx fs))(c:Cls X.K C)(n:Z0 X.K C f)(l:fs.lookup f=some v)
 (h:∀u s',Inv X pins σ H s'->n9 v u->Q u s'):wpAny (model X.prog X.w) A (getAttr (.ref a) f b) Q E s:=by
 obtain⟨mA,O,r,_,_,_⟩:=a4f I.hok e;obtain⟨u,hu,ru⟩:=U3.some_of (v:=v) (o:=mA f) (by rw[←l];exact r f)
 exact b2K I.kIn O (c.get f) c.hd n hu (a3l ru) (h u _ (I.tok _) ru)
theorem a5U{Q:Unit->Shared->Prop}(I:Inv X pins σ H s)(e:H a=some (.ins C dx fs))(c:Cls X.K C)(n:Z0 X.K C f)(hl:fs.length<1000)(ry:n9 y u)
 (h:∀s',Inv X pins σ (upd H a (.ins C dx (U5 f y fs))) s'->Q () s'):wpAny (model X.prog X.w) A (setAttr (.ref a) f u) Q E s:=by
 obtain⟨mA,O,r,wi,_,ho⟩:=a4f I.hok e
 have hz:(fs.map (·.1)).length<=sizeLine:=by rw[aa,sizeLine_eq];omega
 refine b1J I.kIn O c.sa c.po n.taker c.hd wi hz fun h' O' sb=>h _ ?_
 have hd:∃o,h'.get? dx=some o:=let⟨o,_,_,e',_⟩:=O'.ns;⟨o,e'⟩
 refine I.write (x:=a) (e:=dx) (by rw[e];exact True.intro) (.inr ho) (fun b q hb z=>(sb.2 b hb).trans z) hd ?_
 refine⟨by rw[g9 O.ne];exact ho,?_,O.ne,O'.obj,_,O'.ns,fun g=>?_,fun g hg=>?_⟩
 · have:=a1v f y fs;omega
 · show U3 ((U5 f y fs).lookup g) (if g=f then some u else mA g)
   rw[a1u]
   by_cases q:g=f
   · rw[ay q,ay q];exact ry
   · rw[az q,az q];exact r g
 · by_cases q:g=f
   · rw[q];exact(a1d f y fs).1
   · refine(a1d f y fs).2 g (wi g fun z=>hg ?_)
     show(if g=f then some u else mA g)=none
     rw[az q];exact z
theorem Inv.made(I:Inv X pins σ H s):Inv X pins σ (upd (upd H s.heap.objs.size (.own (s.heap.objs.size+1))) (s.heap.objs.size+1) (.ins C s.heap.objs.size []))
 {s with heap:=(s.heap.push PySem.W.emptyDict).push (PySem.W.instObj C s.heap.objs.size)}:=by
 have e1:(s.heap.push PySem.W.emptyDict).get? s.heap.objs.size=some PySem.W.emptyDict:=Heap.get?_push_size s.heap rfl
 have e2:((s.heap.push PySem.W.emptyDict).push (PySem.W.instObj C s.heap.objs.size)).get? (s.heap.objs.size+1)=some (PySem.W.instObj C s.heap.objs.size):=by
  have:=Heap.get?_push_size (s.heap.push PySem.W.emptyDict) (o:=PySem.W.instObj C s.heap.objs.size) rfl
  rwa [Heap.size_push] at this
 have e3:(s.heap.push PySem.W.emptyDict).Ns s.heap.objs.size (fun _=>none):=⟨PySem.W.emptyDict,#[],_,e1,rfl,(fun e he=>absurd he (by simp)),fun _=>rfl⟩
 have I1:=I.laid (a:=s.heap.objs.size) (o:=.own (s.heap.objs.size+1)) (h':=s.heap.push PySem.W.emptyDict) (t':=s.toks) (fun b u q=>Heap.get?_push_of_some _ q) (aj _) ⟨_,e1⟩
 refine I1.laid (a:=s.heap.objs.size+1) (o:=.ins C s.heap.objs.size []) (t':=s.toks) (fun b u q=>Heap.get?_push_of_some _ q) (Nat.le_of_eq (Heap.size_push _ _)) ?_
 have ne:s.heap.objs.size≠s.heap.objs.size+1:=Nat.ne_of_lt (aP _)
 refine⟨by rw[g9 ne,c9],Nat.zero_le _,ne,e2,fun _=>none,(Heap.Ns1.of_empty e3).at fun o q=>Heap.get?_push_of_some _ q,fun _=>True.intro,fun y hy=>absurd rfl hy⟩
theorem a7w{f:Str}{s:Shared}(hb:attributeBase e f env (eval e env)=eval e env)
 (h:wpAny (model prog w) A (eval e env) (fun o s₁=>wpAny (model prog w) A (getAttr o f true) Q E s₁) E s):wpAny (model prog w) A (eval (.Attribute e f pos) env) Q E s:=
 Attribute_any_ h (by rw[arm_eval_Attribute,hb])
end
noncomputable def b9g(K:PySem.W.Frag)(ta:TE)(f:Str):TE:=fun σ H Q=>ta σ H fun x H1=>∃a C dx fs v,x=.ref a/\H1 a=some (.ins C dx fs)/\Cls K C/\Z0 K C f/\fs.lookup f=some v/\Q v H1
def b9k(K:PySem.W.Frag)(ta tv:TE)(f:Str):TS:=fun D σ H=>tv σ H fun y H1=>ta σ H1 fun x H2=>∃a C dx fs,x=.ref a/\H2 a=some (.ins C dx fs)/\Cls K C/\Z0 K C f/\fs.length<1000∧
 D.nx σ (upd H2 a (.ins C dx (U5 f y fs)))
section
variable{o value:Expr}{f:Str}{tpos:Pos}{ta tv:TE}
theorem b4D(he:PE X e ta)(hb:attributeBase e f X.env (eval e X.env)=eval e X.env):PE X (.Attribute e f pos) (b9g X.K ta f):=by
 intro pins s σ H Q I h;refine a7w hb (thn (he pins s σ H _ I h) fun u s1 ⟨x,H1,I1,rx,a,C,dx,fs,v,ex,ea,c,n,l,q⟩=>?_)
 subst ex;obtain rfl:u=Value.ref a:=rx;exact a6m I1 ea c n l fun u' s2 I2 ru=>⟨v,H1,I2,ru,q⟩
theorem b4o(ha:PE X o ta)(hv:PE X value tv)(hs:swapsWith value (some (.Attribute o f pos')) pos.line X.env=pure false):PS X (.Assign [.Attribute o f pos'] value pos) (b9k X.K ta tv f):=by
 intro pins s σ H D I h;refine plainObj_wpAny_Assign_Attribute (thn (hv pins s σ H _ I h) fun u s1 ⟨y,H1,I1,ry,q⟩=>thn (ha pins s1 σ H1 _ I1 q) fun ov s2 ⟨x,H2,I2,rx,a,C,dx,fs,ex,ea,c,n,l,q2⟩=>?_) hs
 subst ex;obtain rfl:ov=Value.ref a:=rx;exact a5U I2 ea c n l ry fun s3 I3=>⟨σ,_,I3,q2⟩
end
section
variable{E:Value->Shared->Prop}{c:Value}{b:Bool}
inductive TyOf(K:PySem.W.Frag)(H:Hp):V->Value->Prop where
 |non:TyOf K H .non (.type "NoneType")
 |bl (x:Bool):TyOf K H (.bl x) (.type "bool")
 |int (i:Int):TyOf K H (.int i) (.type "int")
 |str (x:Str):TyOf K H (.str x) (.type "str")
 |flt (x:UInt64):TyOf K H (.flt x) (.type "float")
 |lst {a:Addr} {xs:List V} (e:H a=some (.lst xs)):TyOf K H (.ref a) (.type "list")
 |frz {a:Addr} {o:Obj} {xs:List V} (e:H a=some (.frz o (.lst xs))):TyOf K H (.ref a) (.type "list")
 |tup {a:Addr} {xs:List V} (e:H a=some (.tup xs)):TyOf K H (.ref a) (.type "tuple")
 |dK {a:Addr} {kvs:List (Key×V)} (e:H a=some (.dK kvs)):TyOf K H (.ref a) (.type "dict")
 |dT {a:Addr} {kvs:List (List Key×V)} (e:H a=some (.dT kvs)):TyOf K H (.ref a) (.type "dict")
 |ins {a C dx:Addr} {fs:List (Str×V)} (e:H a=some (.ins C dx fs)) (cl:Cls K C) (ha:PySem.W.findIn K (.ref C) "__class__"=some (some (.builtin "object.__class__")))
  (hn:PySem.W.specialIn K (.builtin "object.__class__") "__get__"=some (some (.builtin "getset_descriptor.__get__"))) (htk:PySem.W.takesIn K (.builtin "object.__class__")=some true)
  (hm:PySem.W.mroIn K C (.type "object")=some true):TyOf K H (.ref a) (.ref C)
theorem a8d{x:V}{t:Value}(I:Inv X pins σ H s)(rx:n9 x u)(ty:TyOf X.K H x t)(e:PySem.W.kitOne X.K t c=some b)(h:∀tk,Q (.bool b) {s with toks:=tk}):
 wpAny (model X.prog X.w) A (call (.builtin "isinstance") [u,c]) Q E s:=by
 cases ty with
 |non=>cases (show u=Value.none from rx);exact PySem.W.kia_one PySem.W.kitx_none I.kIn True.intro e (fun z=>nomatch z) h
 |bl y=>cases (show u=Value.bool y from rx);exact PySem.W.kia_one PySem.W.kitx_bool I.kIn True.intro e (fun z=>nomatch z) h
 |int i=>obtain⟨t,q⟩:=(show∃t,u=Value.int i t from rx);cases q;exact PySem.W.kia_one PySem.W.kitx_int I.kIn True.intro e (fun z=>nomatch z) h
 |str y=>obtain⟨t,q⟩:=(show∃t,u=Value.str y t from rx);cases q;exact PySem.W.kia_one PySem.W.kitx_str I.kIn True.intro e (fun z=>nomatch z) h
 |flt y=>obtain⟨t,q⟩:=(show∃t,u=Value.float y t from rx);cases q;exact PySem.W.kia_one PySem.W.kitx_float I.kIn True.intro e (fun z=>nomatch z) h
 | @lst a xs ea=>
  cases (show u=Value.ref a from rx)
  obtain⟨_,_,n,_,h1⟩:=(show v7 X.prog X.w H s.heap a (.lst xs) from I.hok a _ ea);exact PySem.W.kia_one PySem.W.kitx_list I.kIn ⟨_,h1,rfl⟩ e (fun z=>nomatch z) h
 | @frz a ob xs ea=>
  cases (show u=Value.ref a from rx)
  obtain⟨_,_,_,n,_,h1⟩:=(show v7 X.prog X.w H s.heap a (.frz ob (.lst xs)) from I.hok a _ ea);exact PySem.W.kia_one PySem.W.kitx_list I.kIn ⟨_,h1,rfl⟩ e (fun z=>nomatch z) h
 | @tup a xs ea=>
  cases (show u=Value.ref a from rx)
  obtain⟨_,_,_,p⟩:=(show v7 X.prog X.w H s.heap a (.tup xs) from I.hok a _ ea);obtain⟨o,h1,h2,_⟩:=p;exact PySem.W.kia_one PySem.W.kitx_tuple I.kIn ⟨o,h1,h2⟩ e (fun z=>nomatch z) h
 | @dK a kvs ea=>
  cases (show u=Value.ref a from rx)
  obtain⟨_,_,vs,_,p⟩:=(show v7 X.prog X.w H s.heap a (.dK kvs) from I.hok a _ ea);obtain⟨o,es,ep,h1,h2,_⟩:=p;exact PySem.W.kia_one PySem.W.kitx_dict I.kIn ⟨o,h1,h2.1⟩ e (fun z=>nomatch z) h
 | @dT a kvs ea=>
  cases (show u=Value.ref a from rx)
  obtain⟨_,_,xs,_,o,es,ep,h1,h2,_⟩:=(show v7 X.prog X.w H s.heap a (.dT kvs) from I.hok a _ ea);exact PySem.W.kia_one PySem.W.kitx_dict I.kIn ⟨o,h1,h2.1⟩ e (fun z=>nomatch z) h
 | @ins a C dx fs ea cl ha hn htk hm=>
  cases (show u=Value.ref a from rx)
  obtain⟨mA,O,_⟩:=a4f I.hok ea;obtain⟨od,J,_⟩:=O.look;exact PySem.W.kia_one (PySem.W.kitx_own (cl.get _) cl.hd ha hn htk hm) I.kIn J e (fun z=>nomatch z) h
end
structure Room(k:Nat)(A:Around):Prop where
 hd:A.handled=none
 dp:A.depth+3*k+5<recursionLimit
 un:A.units+16*k+200<cLine
theorem Room.mono{k:Nat}(r:Room k A)(h:j<=k):Room j A:=⟨r.hd,by have:=r.dp;omega,by have:=r.un;omega⟩
theorem Room.deeper{k:Nat}(r:Room (k+1) A)(env:Env):Room k (A.deeper env):=
 ⟨r.hd,by have:=r.dp;show A.depth+1+3*k+5<_;omega,by have:=r.un;show A.units+3+16*k+200<_;omega⟩
theorem a6g:(A.under (.builtin "type.__call__" ⟨.ref C::us,kw⟩)).depth=A.depth+1:=by
 first|rfl|simp[Around.under,Code.weight,Code.isCreation,Code.isGuard,Code.isCaller,Code.frames,Code.isFrame,guardIds]
theorem a6f:(A.under (.builtin "type.__call__" ⟨.ref C::us,kw⟩)).units=A.units+1:=by
 first|rfl|simp[Around.under,Code.cUnits,Code.frames,Code.isFrame]
theorem Room.make{k:Nat}(r:Room (k+1) A)(C:Addr)(us:List Value)(kw:List (Str×Value)):Room k (A.under (.builtin "type.__call__" ⟨.ref C::us,kw⟩)):=
 ⟨r.hd,by have:=r.dp;rw[a6g];omega,by have:=r.un;rw[a6f];omega⟩
theorem Room.depth{k:Nat}(r:Room k A):A.depth<recursionLimit:=by have:=r.dp;omega
theorem Room.units{k:Nat}(r:Room k A):A.units+64<cLine:=by have:=r.un;omega
def b3V:TA:=fun _ H Q=>Q [] H
noncomputable def a8I(ta:TE)(tr:TA):TA:=fun σ H Q=>ta σ H fun x H1=>tr σ H1 fun xs H2=>Q (x::xs) H2
section
variable{t:TA}
theorem a1c:PA X [] b3V:=fun _ _ _ _ H Q I h=>Calls.spliced_nil ⟨[],H,I,.nil,h⟩
theorem L9(ha:PE X e te)(hr:PA X es t)(hs:starEach (e::es) X.env=(false,eval e X.env)::starEach es X.env:=by rfl):PA X (e::es) (a8I te t):=by
 intro pos pins s σ H Q I h;rw[hs]
 show wpAny _ _ (spliced ((false,eval e X.env)::backTo pos (starEach es X.env))) _ _ s
 refine Calls.spliced_cons (thn (ha pins s σ H _ I h) fun u s1 ⟨x,H1,I1,r1,q1⟩=>?_)
 exact thn (hr pos pins s1 σ H1 _ I1 q1) fun us s2 ⟨xs,H2,I2,r2,q2⟩=>⟨x::xs,H2,I2,.cons r1 r2,q2⟩
def b8V(t:TA):TE:=fun σ H Q=>t σ H fun xs H1=>xs.length<=sizeLine/\∀p,H1 p=none->Q (.ref p) (upd H1 p (.tup xs))
def b9c(t:TA):TE:=fun σ H Q=>t σ H fun xs H1=>xs.length<=sizeLine/\∀p,H1 p=none->Q (.ref p) (upd H1 p (.lst xs))
theorem b4x{x1}(h:PA X es t):PE X (.Tuple es x1 pos) (b8V t):=by
 intro pins s σ H Q I hq;refine wpAny_Tuple_spliced (thn (h pos pins s σ H _ I hq) fun us s1 ⟨xs,H1,I1,r,z,q⟩=>⟨by rw[←r.length];exact z,?_⟩)
 have hf:H1 s1.heap.objs.size=none:=I1.hok.fresh (aj _)
 refine⟨.ref s1.heap.objs.size,upd H1 s1.heap.objs.size (.tup xs),I1.laid (t':=s1.toks) (fun b u e=>Heap.get?_push_of_some _ e) (aj _) ?_,rfl,q _ hf⟩
 exact⟨z,us,r,⟨_,Heap.get?_push_size _ rfl,rfl,rfl,_,rfl⟩⟩
theorem b4C(h:PA X es t):PE X (.List es pos) (b9c t):=by
 intro pins s σ H Q I hq;refine wpAny_List_spliced (thn (h pos pins s σ H _ I hq) fun us s1 ⟨xs,H1,I1,r,z,q⟩=>⟨by rw[←r.length];exact z,?_⟩)
 have hf:H1 s1.heap.objs.size=none:=I1.hok.fresh (aj _)
 refine⟨.ref s1.heap.objs.size,upd H1 s1.heap.objs.size (.lst xs),I1.laid (t':=s1.toks) (fun b u e=>Heap.get?_push_of_some _ e) (aj _) ?_,rfl,q _ hf⟩
 exact⟨z,us,0,r,Heap.get?_push_size _ rfl⟩
end
abbrev Sp:=List V->Hp->VK->XK->Prop
abbrev CXT:=List Env->Hp->Shared->XK->Value->Shared->Prop
structure Env0(P:Program)(w:World)(K:PySem.W.Frag)(mg:Str->Option Value)(base:Heap)(A:Around)(outer:List Env)(s:Shared)(H:Hp):Prop where
 frames:A.frames=some outer
 mod:Mod K mg base
 bs:∀b o,base.get? b=some o->s.heap.get? b=some o/\H b=none
 bsz:base.objs.size<=s.heap.objs.size
 funs:s.heap.FunFrames base outer
 frf:∀b∈frs outer,H b=none
 hok:HOk P w H s.heap
 bare:AllBare s.gens
def CE(outer:List Env)(P:Program)(w:World)(H:Hp)(s:Shared)(Q:VK)(u:Value)(s':Shared):Prop:=
 ∃v H',s'.os=s.os/\AllBare s'.gens/\Un (frs outer) [] H H' s.heap s'.heap/\HOk P w H' s'.heap/\n9 v u/\Q v H'
def CR(CX:CXT)(outer:List Env)(P:Program)(w:World)(H:Hp)(s:Shared)(Q:VK)(E:XK)(r:Result)(s':Shared):Prop:=
 match r with
 |.ok (.ret u)=>CE outer P w H s Q u s'
 |.ok _=>False
 |.error e=>CX outer H s E e s'
structure FnOk(P:Program)(w:World)(K:PySem.W.Frag)(mg:Str->Option Value)(base:Heap)(CX:CXT)(k:Nat)(f:Addr)(fd:FuncData)(ps:List Str)(sp:Sp):Prop where
 len:∀vs H Q E,sp vs H Q E->vs.length=ps.length
 run:∀(A:Around) (outer:List Env) (s:Shared) (H:Hp) (args:Args) (us:List Value) (vs:List V) (Q:VK) (E:XK),Room k A->Env0 P w K mg base A outer s H->BindsTo s fd args (ps.zip us)->k8 vs us->sp vs H Q E→
  codeAny (model P w) A (.call (.ref f) args) (CR CX outer P w H s Q E) s
variable{mg:Str->Option Value}{base:Heap}{CX:CXT}{fd:FuncData}{ps:List Str}{sp:Sp}{outer:List Env}
theorem Env0.make(e:Env0 P w K mg base A outer s H)(C:Addr)(us:List Value)(kw:List (Str×Value)):
 Env0 P w K mg base (A.under (.builtin "type.__call__" ⟨.ref C::us,kw⟩)) outer s H:=⟨by first|exact e.frames|(simpa [Around.under,Code.envs,Code.isFrame,pushEnvs] using e.frames),e.mod,e.bs,e.bsz,e.funs,e.frf,e.hok,e.bare⟩
section
theorem Inv.env0(I:Inv X pins σ H s):Env0 X.prog X.w X.K X.mg X.base X.A X.stack s H:=
 ⟨I.ok.frames,I.ok.mod,I.bs,aO I.ok.bsz I.sz,I.stack,I.stkFree,I.hok,I.bare⟩
theorem Inv.after{Q:VK}(I:Inv X pins σ H s)(h:CE X.stack X.prog X.w H s Q u s'):EP X pins σ Q u s':=by
 obtain⟨v,H',os,bare,un,hok,r,q⟩:=h;obtain⟨hh,g,d,t,os'⟩:=s';obtain rfl:os'=s.os:=os;exact⟨v,H',I.call (h':=hh) (g':=g) (d':=d) (t':=t) (ch:=[]) un hok bare (fun b z=>absurd z (by simp)),r,q⟩
end
noncomputable def b6L(sp:Sp)(dvs:List V)(E:XK)(t:TA):TE:=fun σ H Q=>t σ H fun vs H1=>sp (vs++dvs) H1 Q E
def b6H(C:Addr)(sp:Sp)(dvs:List V)(E:XK)(t:TA):TE:=fun σ H Q=>t σ H fun vs H1=>∀x dx,H1 x=none->H1 dx=none->dx≠x→
 sp (.ref x::(vs++dvs)) (upd (upd H1 dx (.own x)) x (.ins C dx [])) (fun v H2=>v=.non/\Q (.ref x) H2) E
def J4(K:PySem.W.Frag)(fd:FuncData)(ps:List Str)(ds:List Value):Prop:=
 ∀(s:Shared) (us:List Value),K.In s.heap->(us++ds).length=ps.length->BindsTo s fd ⟨us,[]⟩ (ps.zip (us++ds))
theorem J4.all(h:∀us:List Value,us.length=ps.length->bindArgs fd ⟨us,[]⟩=pure (ps.zip us)):J4 K fd ps []:=fun s us _ hl=>by
 rw[aV] at hl⊢;exact .of_eq (h us hl)
def V7(CX:CXT)(X:Cx)(E:XK):Prop:=∀(pins:List (Addr×Obj)) (σ:St) (H:Hp) (s:Shared) (e:Value) (s':Shared),Inv X pins σ H s->CX X.stack H s E e s'->X.xe e s'
section
variable{k:Nat}{f:Addr}{dvs:List V}{ds:List Value}{E:XK}{m:Str}{apos:Pos}{o:Expr}{ta:TE}{t:TA}
theorem b4b{Q:VK}{vs:List V}(F:FnOk X.prog X.w X.K X.mg X.base CX k f fd ps sp)(hr:Room k X.A)(hb:J4 X.K fd ps ds)(hd:k8 dvs ds)(hx:V7 CX X E)
 (I:Inv X pins σ H s) (r:k8 vs us) (h:sp (vs++dvs) H Q E):wpAny (model X.prog X.w) X.A (call (.ref f) us) (EP X pins σ Q) X.xe s:=by
 have r2:k8 (vs++dvs) (us++ds):=r.append hd
 have hl:(us++ds).length=ps.length:=by rw[←r2.length];exact F.len _ _ _ _ h
 refine wpAny_call (codeAny_mono (F.run X.A X.stack s H ⟨us,[]⟩ (us++ds) (vs++dvs) Q E hr I.env0 (hb s us I.kIn hl) r2 h) fun r s' hq=>?_)
 cases r with
 |error e=>exact hx pins σ H s e s' I hq
 |ok fl=>
  cases fl with
  |ret u=>exact I.after hq
  |next=>exact False.elim hq
  |brk=>exact False.elim hq
  |cont=>exact False.elim hq
theorem b2d(F:FnOk X.prog X.w X.K X.mg X.base CX k f fd ps sp)(hr:Room k X.A)(hg:Gl X x)(hm:X.mg x=some (.ref f))(hk:PySem.W.keepIn X.K (.ref f)=true)(hb:J4 X.K fd ps ds)(hd:k8 dvs ds)(hx:V7 CX X E)
 (ha:PA X (e::es) t) (hdb:(x==("__debug__":Str))=false:=by decide) (he:starEach (e::es) X.env=(false,eval e X.env)::starEach es X.env:=by rfl) (hpl:(backTo pos (starEach es X.env)).any (·.1)=false:=by rfl):
 PE X (.Call (.Name x p) (e::es) [] pos) (b6L sp dvs E t):=by
 intro pins s σ H Q I h;refine wpAny_Call_Name_kw (V0 I hg hm ?_ hdb)
 refine PySem.W.callWith_K (h₀:=X.base) I.ok.mod.kin hk (thn (ha pos pins s σ H _ I h) fun us s1 ⟨vs,H1,I1,r,q⟩=>⟨I1.kIn,?_⟩) he hpl
 exact b4b F hr hb hd hx I1 r q
structure Mk(K:PySem.W.Frag)(C f:Addr):Prop where
 makes:PySem.W.makesIn K C=true
 init:PySem.W.findIn K (.ref C) "__init__"=some (some (.ref f))
 fn:PySem.W.isFn K (.ref f)=true
 kp:PySem.W.keepIn K (.ref C)=true
theorem a8Q{Q:VK}{vs:List V}(M:Mk X.K C f)(F:FnOk X.prog X.w X.K X.mg X.base CX k f fd ps sp)(hr:Room (k+1) X.A)(hb:J4 X.K fd ps ds)(hd:k8 dvs ds)
 (hx:V7 CX X E) (I:Inv X pins σ H s) (r:k8 vs us)
 (h:∀x dx,H x=none->H dx=none->dx≠x->sp (.ref x::(vs++dvs)) (upd (upd H dx (.own x)) x (.ins C dx [])) (fun v H2=>v=.non/\Q (.ref x) H2) E):
 wpAny (model X.prog X.w) X.A (call (.ref C) us) (EP X pins σ Q) X.xe s:=by
 have hq:=h (s.heap.objs.size+1) s.heap.objs.size (I.hok.fresh (Nat.le_succ _)) (I.hok.fresh (aj _)) (Nat.ne_of_lt (aP _));have I2:=Inv.made (C:=C) I
 have r2:k8 (V.ref (s.heap.objs.size+1)::(vs++dvs)) (Value.ref (s.heap.objs.size+1)::(us++ds)):=.cons rfl (r.append hd)
 have hl:(Value.ref (s.heap.objs.size+1)::us++ds).length=ps.length:=by
  have e:=r2.length;rw[F.len _ _ _ _ hq] at e;exact e.symm
 refine wpAny_call (a9J (f:=f) I.kIn M.makes M.init (beq_iff_eq.mp M.fn) (codeAny_mono (F.run _ X.stack _ _ ⟨Value.ref (s.heap.objs.size+1)::us,[]⟩ (Value.ref (s.heap.objs.size+1)::(us++ds)) _ _ E (hr.make C us [])
  (I2.env0.make C us []) (hb _ (Value.ref (s.heap.objs.size+1)::us) I2.kIn hl) r2 hq) fun r s' hq'=>?_))
 cases r with
 |error e=>exact hx pins σ _ _ e s' I2 hq'
 | ok fl=>
  cases fl with
  |ret u=>
   obtain⟨v,H',I3,rv,ev,q3⟩:=I2.after hq';subst ev;exact⟨rv,⟨V.ref (s.heap.objs.size+1),H',I3,rfl,q3⟩⟩
  |next=>exact False.elim hq'
  |brk=>exact False.elim hq'
  |cont=>exact False.elim hq'
theorem a9t(M:Mk X.K C f)(F:FnOk X.prog X.w X.K X.mg X.base CX k f fd ps sp)(hr:Room (k+1) X.A)(hg:Gl X x)(hm:X.mg x=some (.ref C))(hb:J4 X.K fd ps ds)(hd:k8 dvs ds)(hx:V7 CX X E)
 (hdb:(x==("__debug__":Str))=false:=by decide):PE X (.Call (.Name x p) [] [] pos) (b6H C sp dvs E b3V):=by
 intro pins s σ H Q I h;refine wpAny_Call_Name_kw (V0 I hg hm ?_ hdb)
 exact PySem.W.callWith_K0 I.kIn M.kp (a8Q (us:=[]) M F hr hb hd hx I .nil h)
end
structure FnScope(N P:List Str)(sc:Scope):Prop where
 kind:sc.kind=.function
 co:sc.isCoroutine=false
 gen:sc.isGenerator=false
 nd:N.Nodup
 pre:N.take P.length=P
 par:∀x∈P,sc.names.lookup x=some .local∨sc.names.lookup x=some .cell
 nofree:∀y∈sc.names,y.2≠.free
theorem a3y{kindOf:Str->Option NameKind}{x:Str}:∀{binds:List (Str×Value)} {m:Str->Option Value},(∀v,(x,v)∉binds)->bindL kindOf binds m x=m x
 |[],_,_=>rfl
 | (n,v)::r,m,h=>by
  unfold bindL;rw[a3y fun w hw=>h w (aD _ hw)]
  split
  · have:x≠n:=by rintro rfl;exact h v aU
    simp[this]
  · rfl
theorem a3A{kindOf:Str->Option NameKind}{x:Str}:∀{binds:List (Str×Value)} {m:Str->Option Value},(∀v,(x,v)∉binds)->bindC kindOf binds m x=m x
 |[],_,_=>rfl
 | (n,v)::r,m,h=>by
  unfold bindC;rw[a3A fun w hw=>h w (aD _ hw)]
  split
  · rfl
  · have:x≠n:=by rintro rfl;exact h v aU
    simp[this]
theorem a3z{kindOf:Str->Option NameKind}{x:Str}{v:Value}:∀{P:List Str} {vs:List Value} {i:Nat} {m:Str->Option Value},P.Nodup->P[i]? =some x->vs[i]? =some v->kindOf x=some .local→
 bindL kindOf (P.zip vs) m x=some v
 |[],_,_,_,_,h,_,_=>by simp at h
 |_::_,[],_,_,_,_,h,_=>by simp at h
 |p::P,w::vs,0,m,nd,h1,h2,hk=>by
  simp at h1 h2;subst h1;subst h2
  show bindL kindOf ((p,w)::P.zip vs) m p=_
  unfold bindL;rw[a3y fun v hv=>(aR.mp nd).1 (of_mem_zip hv).1,ay hk]
  simp
 |p::P,w::vs,i+1,m,nd,h1,h2,hk=>by
  show bindL kindOf ((p,w)::P.zip vs) m x=_
  unfold bindL;exact a3z (i:=i) (aR.mp nd).2 (by simpa using h1) (by simpa using h2) hk
theorem a3B{kindOf:Str->Option NameKind}{x:Str}{v:Value}:∀{P:List Str} {vs:List Value} {i:Nat} {m:Str->Option Value},P.Nodup->P[i]? =some x->vs[i]? =some v->kindOf x≠some .local→
 bindC kindOf (P.zip vs) m x=some v
 |[],_,_,_,_,h,_,_=>by simp at h
 |_::_,[],_,_,_,_,h,_=>by simp at h
 |p::P,w::vs,0,m,nd,h1,h2,hk=>by
  simp at h1 h2;subst h1;subst h2
  show bindC kindOf ((p,w)::P.zip vs) m p=_
  unfold bindC;rw[a3A fun v hv=>(aR.mp nd).1 (of_mem_zip hv).1,az hk]
  simp
 |p::P,w::vs,i+1,m,nd,h1,h2,hk=>by
  show bindC kindOf ((p,w)::P.zip vs) m x=_
  unfold bindC;exact a3B (i:=i) (aR.mp nd).2 (by simpa using h1) (by simpa using h2) hk
noncomputable def a0f(N:List Str)(vs:List V):St:=vs.map some++List.replicate (N.length-vs.length) none
noncomputable def a1k(CX:CXT)(P:Program)(w:World)(K:PySem.W.Frag)(mg:Str->Option Value)(base:Heap)(N:List Str)(qual:Str)(scope:Scope)(f:Addr)(cd:Value)(A:Around)(outer:List Env)(s:Shared)(H:Hp)(E:XK):Cx where
 prog:=P
 w:=w
 K:=K
 mg:=mg
 base:=base
 A:=A.deeper (envOfC qual scope s.heap.objs.size f cd)
 N:=N
 s₀:=s
 H₀:=H
 env:=envOfC qual scope s.heap.objs.size f cd
 outer:=outer
 stack:=envOfC qual scope s.heap.objs.size f cd::outer
 ex:=[]
 calm:=true
 fn:=fun _=>true
 pn:=[]
 xe:=fun e s'=>wpAny (model P w) (A.deeper (envOfC qual scope s.heap.objs.size f cd)) (leaving (envOfC qual scope s.heap.objs.size f cd) e) (fun _ s''=>CX outer H s E e s'') (fun e' s''=>CX outer H s E e' s'') s'
variable{sc:Scope}
theorem a5A(h:sc.names.lookup x=some .cell):∃c,(cellsFrom n sc.names []).lookup x=some c:=by
 have q:=PySem.W.cellsFrom_some sc.names n [] (.inl h);exact Option.isSome_iff_exists.mp q
variable{qual:Str}{scope:Scope}
theorem a8e{f:Addr}{cd:Value}{s1:Shared}{E:XK}{vs:List V}
 (S:FnScope N ps scope) (hd:A.handled=none) (e0:Env0 P w K mg base A outer s H) (hl:vs.length=ps.length) (r:k8 vs us)
 (x:InCallC s s.heap.objs.size (bindL (envOfC qual scope s.heap.objs.size f cd).kindOf (ps.zip us) fun _=>none) (cellsFrom (s.heap.objs.size+1) scope.names []) (bindC (envOfC qual scope s.heap.objs.size f cd).kindOf (ps.zip us) fun _=>none) s1):
 Inv (a1k CX P w K mg base N qual scope f cd A outer s H E) [] (a0f N vs) H s1:=by
 have hpl:ps.length<=N.length:=by have:=congrArg List.length S.pre;rw[aK] at this;omega
 obtain⟨h1,tk,rfl,hk⟩:=x.done
 have noA:∀b:Addr,b∉(a1k CX P w K mg base N qual scope f cd A outer s H E).ex:=fun b z=>absurd (show b∈([]:List Addr) from z) (by simp)
 refine⟨⟨e0.mod,S.kind,rfl,rfl,aj _,fun y z c h1 h2=>?_,fun y hy=>?_,fun y c _ h=>?_,fun _=>hd,Around.frames_deeper e0.frames,.inr ⟨rfl,rfl⟩,fun b z=>absurd z (noA b),e0.bs,e0.bsz,fun b _ _=>noA b,fun b z=>absurd z (noA b),e0.funs,e0.frf⟩,
  rfl,e0.bare,Un.kept hk,⟨_,x.toInCall.ns,fun i y v h1 h2 h3=>?_⟩,fun y c h=>⟨_,x.cell y c h⟩,e0.hok.fresh (aj _),fun y c h=>?_,fun p hp=>absurd (show p∈([]:List (Addr×Obj)) from hp) (by simp),e0.hok.kept hk,?_⟩
 · exact name_of_addr x.apart (PySem.mem_of_lookup h1) (PySem.mem_of_lookup h2)
 · have hy:scope.names.lookup y=some .cell∨scope.names.lookup y=some .free:=hy
   rcases hy with hy|hy
   · exact a5A hy
   · exact absurd rfl (S.nofree _ (PySem.mem_of_lookup hy))
 · exact Nat.le_of_lt (x.above y c (PySem.mem_of_lookup h))
 · have hi:i<vs.length:=by
    unfold a0f at h2
    by_cases hi:i<vs.length
    · exact hi
    · rw[au (by simpa using hi)] at h2
      rw[bu] at h2
      split at h2<;>cases h2
   have ha:vs[i]? =some v:=by
    unfold a0f at h2;rw[av (by simpa using hi),ak] at h2
    cases e:vs[i]? with
    |none=>rw[e] at h2;cases h2
    |some a=>rw[e] at h2;cases h2;rfl
   obtain⟨u,hu,rv⟩:=r.get ha
   have hp:ps[i]? =some y:=by
    rw[←S.pre,bt (by omega)];exact h1
   have ndP:ps.Nodup:=by rw[←S.pre];exact S.nd.sublist (List.take_sublist _ _)
   refine⟨u,rv,?_⟩
   rcases S.par y (aF hp) with k|k
   · exact .inl ⟨k,a3z ndP hp hu k⟩
   · obtain⟨c,e⟩:=a5A (n:=s.heap.objs.size+1) k;refine .inr ⟨.inl k,c,e,?_⟩
     have q:=x.cell y c e;rw[a3B ndP hp hu (by show scope.names.lookup y≠_;rw[k];decide)] at q
     exact q
 · exact e0.hok.fresh (Nat.le_of_lt (x.above y c (PySem.mem_of_lookup h)))
 · unfold a0f
   show _=N.length
   rw[aq,aa,bf];omega
variable{doc:Value}{pm:Value}{cdv:Value}{ct:Value}{oc:Value}{an:Option Addr}{od:Option Addr}{osl:Array (Option Value)}
theorem b3A{k:Nat}{f:Addr}{name:Str}{params:Arguments}{dV kV:Value}
 (lk:K.lookup f=some ⟨oc,od,.func (PySem.W.fnOf name qual params body scope dV kV doc pm an cdv ct),osl⟩) (hcd:PySem.W.codeIn K cdv qual=true) (S:FnScope N ps scope)
    (len:∀vs H Q E,sp vs H Q E->vs.length=ps.length)
    (hbody:∀(A:Around) (outer:List Env) (s:Shared) (H:Hp) (vs:List V) (Q:VK) (E:XK),Room k (A.deeper (envOfC qual scope s.heap.objs.size f cdv))->sp vs H Q E→
      ∃t,PSs (a1k CX P w K mg base N qual scope f cdv A outer s H E) body t/\t {nx:=fun _ H'=>Q .non H',rt:=Q} (a0f N vs) H):
    FnOk P w K mg base CX (k+1) f (PySem.W.fnOf name qual params body scope dV kV doc pm an cdv ct) ps sp:=by
  refine⟨len,fun A outer s H args us vs Q E hr e0 hb r hsp=>?_⟩
  have hl:=len _ _ _ _ hsp
  have KX:K.In s.heap:=e0.mod.kin.keeps fun b o e=>(e0.bs b o e).1
  have lim:s.heap.NoLimit:=e0.mod.nolimit.keeps fun b o e=>(e0.bs b o e).1
  have hkind:∀y∈ps.zip us,scope.names.lookup y.1=some .local∨(scope.names.lookup y.1=some .cell/\((cellsFrom (s.heap.objs.size+1) scope.names []).lookup y.1).isSome=true):=fun⟨n,v⟩ hy=>by
    rcases S.par n (of_mem_zip hy).1 with q|q
    · exact .inl q
    · exact .inr ⟨q,PySem.W.cellsFrom_some _ _ _ (.inl q)⟩
  refine codeAny_call_function hr.depth (KX _ _ lk) rfl S.co S.gen rfl (PySem.W.codeRec_of KX hcd) (hb _ _ _ _ ?_)
  refine wpAny_newFunctionEnv_cells S.kind hkind fun env he s1 x=>?_
  subst he;refine⟨lim.keeps x.toInCall.keep,codeAny_func ?_⟩
  obtain⟨t,ht,hq⟩:=hbody A outer s H vs Q E (hr.deeper _) hsp
  have I:Inv (a1k CX P w K mg base N qual scope f cdv A outer s H E) [] (a0f N vs) H s1:=a8e S hr.hd e0 hl r x
  refine wpAny_mono (ht [] s1 (a0f N vs) H _ I hq) (fun fl s' hs=>?_) fun e s' hs=>hs
  have fin:∀{σ':St} {H':Hp} {v:V} {u:Value},Inv (a1k CX P w K mg base N qual scope f cdv A outer s H E) [] σ' H' s'->n9 v u->Q v H'->CE outer P w H s Q u s':=
    fun{σ' H' v u} J rv q=>⟨v,H',J.os,J.bare,J.base,J.hok,rv,q⟩
  cases fl with
  | ret u=>
    obtain⟨v,σ',H',J,rv,q⟩:=hs;exact fin J rv q
  | next=>
    obtain⟨σ',H',J,q⟩:=hs;exact fin (v:=V.non) (u:=Value.none) J rfl q
  | brk=>
    obtain⟨_,_,_,q⟩:=hs;exact False.elim q
  | cont=>
    obtain⟨_,_,_,q⟩:=hs;exact False.elim q
section
variable{t:TA}{id T:String}{r:List V->Hp->VK->Prop}
def tCB(r:List V->Hp->VK->Prop)(t:TA):TE:=fun σ H Q=>t σ H fun vs H1=>r vs H1 Q
theorem T3(hc:E9 X (.builtin id) r)(hg:Gl X x)(hm:X.mg x=none)(hv:bootBuiltins x=some (.builtin id))(ha:PA X (e::es) t)(hn:x≠"__name__":=by decide)(hdb:(x==("__debug__":Str))=false:=by decide)
 (he:starEach (e::es) X.env=(false,eval e X.env)::starEach es X.env:=by rfl) (hpl:(backTo pos (starEach es X.env)).any (·.1)=false:=by rfl):PE X (.Call (.Name x p) (e::es) [] pos) (tCB r t):=by
 intro pins s σ H Q I h;refine wpAny_Call_Name_kw (X1 I hg hm hv ?_ hn hdb)
 exact PyProof.Rows.callWith_builtin1 (thn (ha pos pins s σ H _ I h) fun us s1 ⟨vs,H1,I1,r1,q1⟩=>hc pins s1 σ H1 vs us Q I1 r1 q1) he hpl
theorem T2(hc:E9 X (.type T) r)(hg:Gl X x)(hm:X.mg x=none)(hv:bootBuiltins x=some (.type T))(ha:PA X (e::es) t)(hn:x≠"__name__":=by decide)(hdb:(x==("__debug__":Str))=false:=by decide)
 (he:starEach (e::es) X.env=(false,eval e X.env)::starEach es X.env:=by rfl) (hpl:(backTo pos (starEach es X.env)).any (·.1)=false:=by rfl):PE X (.Call (.Name x p) (e::es) [] pos) (tCB r t):=by
 intro pins s σ H Q I h;refine wpAny_Call_Name_kw (X1 I hg hm hv ?_ hn hdb)
 exact PyProof.Rows.callWith_type1 (thn (ha pos pins s σ H _ I h) fun us s1 ⟨vs,H1,I1,r1,q1⟩=>hc pins s1 σ H1 vs us Q I1 r1 q1) he hpl
end
end L2
namespace HT
open PySem PyProof.Rows
variable{b:Addr}{items:Array Value}{Q:Value->Shared->Prop}{sl:Addr}{vl:Value}{vu:Value}{lo:Option Int}{hi:Option Int}
section
variable{prog:Program}{w:World}{A:Around}{E:Value->Shared->Prop}{s:Shared}
noncomputable def sIx(n d:Nat):Option Int->Nat
 |none=>d
 |some v=>if v<0 then(v+(n:Int)).toNat else min v.toNat n
theorem a8P(n d:Nat):sIx n d none=d:=rfl
theorem b1K(n d k:Nat):sIx n d (some (k:Int))=min k n:=by
 show(if(k:Int)<0 then((k:Int)+(n:Int)).toNat else min (k:Int).toNat n)=min k n
 rw[az (by omega),Int.toNat_natCast]
end
end HT
namespace L2
open PySem PySem.Spec PyProof.Rows
abbrev TO:=St->Hp->(Option Int->Hp->Prop)->Prop
def PO(X:Cx)(e:Option Expr)(t:TO):Prop:=
 ∀(pins:List (Addr×Obj)) (s:Shared) (σ:St) (H:Hp) (Q:Option Int->Hp->Prop),Inv X pins σ H s->t σ H Q→
  wpAny (model X.prog X.w) X.A (evalPart e X.env) (fun u s'=>∃o H',Inv X pins σ H' s'/\IsPart u o/\Q o H') X.xe s
def b1y:TO:=fun _ H Q=>Q none H
noncomputable def b6D(t:TE):TO:=fun σ H Q=>t σ H fun x H1=>∃i,x=.int i/\Q (some i) H1
variable{ns:List Int}{r:V->Option Int->Option Int->Hp->VK->Prop}{us:List Value}
section
variable{X:Cx}{e:Expr}{te:TE}{lo hi:Option Expr}{tl th:TO}{pos p2:Pos}
theorem b1V:PO X none b1y:=by
 intro pins s σ H Q I h;rw[evalPart_none];exact wpAny_pure ⟨none,H,I,.none,h⟩
theorem b1U(h:PE X e te):PO X (some e) (b6D te):=by
 intro pins s σ H Q I hw;rw[evalPart_some];refine thn (h pins s σ H _ I hw) fun u s1 ⟨x,H1,I1,r1,q1⟩=>?_
 obtain⟨i,rfl,q⟩:=q1;obtain⟨t,rfl⟩:=r1;exact⟨some i,H1,I1,.int i t,q⟩
def SlR(X:Cx)(r:V->Option Int->Option Int->Hp->VK->Prop):Prop:=
 ∀(pins:List (Addr×Obj)) (s:Shared) (σ:St) (H:Hp) (x:V) (v vl vu:Value) (lo hi:Option Int) (sl:Addr) (Q:VK),Inv X pins σ H s->n9 x v->s.heap.IsSliceOf sl vl vu .none->IsPart vl lo->IsPart vu hi->r x lo hi H Q→
  ∃T id,typeLookup (.type T) "__getitem__"=pure (some (.builtin id))/\s.TypeIs v T/\wpAny (model X.prog X.w) X.A (getItem v (.ref sl)) (EP X pins σ Q) X.xe s
def tSl(r:V->Option Int->Option Int->Hp->VK->Prop)(te:TE)(tl th:TO):TE:=fun σ H Q=>te σ H fun x H1=>tl σ H1 fun l H2=>th σ H2 fun u H3=>r x l u H3 Q
theorem a9s(hr:SlR X r)(he:PE X e te)(hl:PO X lo tl)(hu:PO X hi th):PE X (.Subscript e (.Slice lo hi none p2) pos) (tSl r te tl th):=by
 intro pins s σ H Q I h;refine Subscript_ (thn (he pins s σ H _ I h) fun v s1 ⟨x,H1,I1,r1,q1⟩=>?_)
 refine wpAny_Slice (thn (hl pins s1 σ H1 _ I1 q1) fun vl s2 ⟨l,H2,I2,pl,q2⟩=>thn (hu pins s2 σ H2 _ I2 q2) fun vu s3 ⟨u,H3,I3,pu,q3⟩=>?_)
 rw[evalPart_none];refine wpAny_pure ?_
 have I4:Inv X pins σ H3 {s3 with heap:=s3.heap.push {cls:=.type "slice",data:=.fields #[vl,vu,.none]}}:=I3.kept (t':=s3.toks) fun b ob q=>Heap.get?_push_of_some _ q
 obtain⟨T,id,hT,ht,hg⟩:=hr pins {s3 with heap:=s3.heap.push {cls:=.type "slice",data:=.fields #[vl,vu,.none]}} σ H3 x v vl vu l u s3.heap.objs.size Q I4 r1 (Heap.IsSliceOf.new ..) pl pu q3
 show wpAny (model X.prog X.w) X.A (subscriptTail e (.Slice lo hi none p2) v (.ref s3.heap.objs.size)) (EP X pins σ Q) X.xe {s3 with heap:=s3.heap.push {cls:=.type "slice",data:=.fields #[vl,vu,.none]}}
 exact tail_any (ops:=[.ref s3.heap.objs.size,v]) ht hT hg (by with_unfolding_all rfl)
def a8p(xs:List V)(lo hi:Option Int):List V:=(xs.drop (HT.sIx xs.length 0 lo)).take (HT.sIx xs.length xs.length hi-HT.sIx xs.length 0 lo)
theorem a5w(xs:List V)(lo hi:Option Int):(a8p xs lo hi).length<=xs.length:=by
 unfold a8p;rw[aK,br];omega
end
noncomputable def ixN(n:Nat)(i:Int):Option Nat:=if 0<=i then(if i<n then some i.toNat else none) else if-(n:Int)<=i then some (i+n).toNat else none
def atI{α:Type}(xs:List α)(i:Int):Option α:=(ixN xs.length i).bind fun j=>xs[j]?
variable{n:Nat}{j:Nat}
theorem a6Y{i:Int}(h:ixN n i=some j):seqIndex? i n=some j/\j<n/\ -(n:Int)<=i/\i<n:=by
 unfold ixN at h
 by_cases h0:0<=i
 · rw[ay h0] at h
   by_cases h1:i<n
   · rw[ay h1] at h
     have e:i.toNat=j:=ax h
     exact⟨by rw[seqIndex_of h0 h1,e],by omega,by omega,h1⟩
   · rw[az h1] at h;cases h
 · rw[az h0] at h
   by_cases h1: -(n:Int)<=i
   · rw[ay h1] at h
     have e:(i+n).toNat=j:=ax h
     exact⟨by rw[seqIndex_neg (by omega) h1,e],by omega,h1,by omega⟩
   · rw[az h1] at h;cases h
variable{α:Type}
theorem a4B{xs:List α}{i:Int}{v:α}(h:atI xs i=some v):∃j,seqIndex? i xs.length=some j/\xs[j]? =some v/\j<xs.length/\ -(xs.length:Int)<=i/\i<xs.length:=by
 unfold atI at h
 cases e:ixN xs.length i with
 |none=>rw[e] at h;cases h
 |some j=>
  rw[e] at h;obtain⟨h1,h2,h3,h4⟩:=a6Y e;exact⟨j,h1,h,h2,h3,h4⟩
def a1P(b:Expr):Prop:=∀o i,subscripted b false o i=operate [o,i] (getItem o i)
def IxR(X:Cx)(r:R2):Prop:=
 ∀(value slice:Expr) (pins:List (Addr×Obj)) (s:Shared) (σ:St) (H:Hp) (x y:V) (v u:Value) (Q:VK),Inv X pins σ H s->n9 x v->n9 y u->r x y H Q→
  subscripted slice false v u=operate [v,u] (getItem v u)->wpAny (model X.prog X.w) X.A (subscriptTail value slice v u) (EP X pins σ Q) X.xe s
def MtR(X:Cx)(id:String)(r:V->List V->Hp->VK->Prop):Prop:=
 ∀(pins:List (Addr×Obj)) (s:Shared) (σ:St) (H:Hp) (x:V) (xs:List V) (v:Value) (us:List Value) (Q:VK),Inv X pins σ H s->n9 x v->k8 xs us->r x xs H Q→
  wpAny (model X.prog X.w) X.A (call (.builtin id) (v::us)) (EP X pins σ Q) X.xe s
variable{id:String}{pins:List (Addr×Obj)}{σ:St}{H:Hp}{s:Shared}{ys:List V}{its:List Value}{its':List Value}{A:Around}{y:V}{u:Value}
section
variable{X:Cx}{a b:Expr}{ta tb:TE}{pos:Pos}
theorem b3v{r:R2}(hr:IxR X r)(ha:PE X a ta)(hb:PE X b tb)(hs:a1P b):PE X (.Subscript a b pos) (tOp r ta tb):=by
 intro pins s σ H Q I h;exact Subscript_ (b5U ha hb I h fun v u s2 x y H2 I2 rx ry q=>hr a b pins s2 σ H2 x y v u Q I2 rx ry q (hs _ _))
noncomputable def b9q(K:PySem.W.Frag):R2:=fun x y H Q=>∃p xs i v,x=.ref p/\y=.int i/\SqL K H p xs/\atI xs i=some v/\Q v H
noncomputable def b9o(K:PySem.W.Frag):R2:=fun x y H Q=>∃p xs i v,x=.ref p/\y=.int i/\SqT K H p xs/\atI xs i=some v/\Q v H
noncomputable def b9p:R2:=fun x y H Q=>∃z i c,x=.str z/\y=.int i/\z.length<=sizeLine/\atI z.cps.toList i=some c/\Q (.str ⟨#[c]⟩) H
theorem a6X:IxR X (b9q X.K):=by
 intro value slice pins s σ H x y v u Q I rx ry h hs;obtain⟨p,xs,i,z,rfl,rfl,hq,he,q⟩:=h;cases rx;obtain⟨t,rfl⟩:=ry;obtain⟨its,r,pl,hz⟩:=I.list hq;obtain⟨j,h1,h2,h3,h4,h5⟩:=a4B he;obtain⟨w,ew,rw'⟩:=r.get h2;have hl:=r.length;have hn:=a0t
 have fin:EP X pins σ Q w s:=⟨z,H,I,rw',q⟩
 by_cases h0:0<=i
 · have hj:i.toNat=j:=by
    rw[seqIndex_of h0 h5] at h1;exact ax h1
   exact item_listR pl.isList h0 (by omega) (by rw[hj];simpa using ew) fin hs
 · have hj:(i+(its.toArray.size:Int)).toNat=j:=by
    rw[seqIndex_neg (by omega) h4] at h1
    rw[size_toArray,←hl];exact ax h1
   exact subscriptTail_builtinR (x:=w) pl.isList.typeIs slot_list_getitem.lookup
    (wpAny_getItem_list_neg (Q:=fun r s'=>r=w/\EP X pins σ Q r s') pl.isList (by omega) (by rw[size_toArray]<;>omega) (by omega) (by rw[hj];simpa using ew) ⟨rfl,fin⟩) hs
theorem ix_tup:IxR X (b9o X.K):=by
 intro value slice pins s σ H x y v u Q I rx ry h hs;obtain⟨p,xs,i,z,rfl,rfl,hq,he,q⟩:=h;cases rx;obtain⟨t,rfl⟩:=ry;obtain⟨its,r,pl,hz⟩:=I.tuple hq;obtain⟨j,h1,h2,h3,h4,h5⟩:=a4B he;obtain⟨w,ew,rw'⟩:=r.get h2;have hl:=r.length;have hn:=a0t
 have fin:EP X pins σ Q w s:=⟨z,H,I,rw',q⟩
 exact subscriptTail_builtinR (x:=w) pl.typeIs slot_tuple_getitem.lookup
  (getItem_tuple (j:=j) (Q:=fun r s'=>r=w/\EP X pins σ Q r s') pl (by omega) (by omega) (by rw[size_toArray,←hl];exact h1) (by simpa using ew) ⟨rfl,fin⟩) hs
theorem ix_str:IxR X b9p:=by
 intro value slice pins s σ H x y v u Q I rx ry h hs;obtain⟨z,i,c,rfl,rfl,hz,he,q⟩:=h;obtain⟨t,rfl⟩:=rx;obtain⟨t',rfl⟩:=ry;obtain⟨j,h1,h2,h3,h4,h5⟩:=a4B he
 have hl:z.cps.toList.length=z.length:=by simp[Str.length]
 rw[hl] at h1 h4 h5;have hn:=a0t
 exact tail_any (typeIs_str s z t) slot_str_getitem.lookup (getItem_str (c:=c) (by
  have e1:decide (i< -(2^63:Int))=false:=bq (by omega)
  have e2:decide (i≥2^63)=false:=bq (by omega)
  rw[e1,e2,Bool.or_false]) (by rw[h1];simpa using h2) ⟨.str ⟨#[c]⟩,H,I.tok _,⟨_,rfl⟩,q⟩) hs
theorem a6e(its:List Value)(n j:Nat)(u:Value):Obj.mapSeq (·.setIfInBounds j u) {cls:=.type "list",data:=.seq its.toArray n}={cls:=.type "list",data:=.seq (its.set j u).toArray n}:=by
 simp[Obj.mapSeq]
theorem Inv.lst{pins:List (Addr×Obj)}{σ:St}{H:Hp}{s:Shared}{p:Addr}{xs:List V}(I:Inv X pins σ H s)(h:H p=some (.lst xs)):
 ∃(its:List Value) (n:Nat),k8 xs its/\s.heap.get? p=some {cls:=.type "list",data:=.seq its.toArray n}/\xs.length<=sizeLine:=by
 obtain⟨z,its,n,r,e⟩:=I.hok p _ h;exact⟨its,n,r,e,z⟩
theorem Inv.lstUpd{p:Addr}{xs:List V}{n':Nat}{f:Obj->Obj}(I:Inv X pins σ H s)(h:H p=some (.lst xs))
 (ho:s.heap.get? p=some {cls:=.type "list",data:=.seq its.toArray n}) (hf:f {cls:=.type "list",data:=.seq its.toArray n}={cls:=.type "list",data:=.seq its'.toArray n'}) (r:k8 ys its') (hz:ys.length<=sizeLine) (t:Nat):
 Inv X pins σ (upd H p (.lst ys)) {s with heap:=s.heap.update p f,toks:=t}:=by
 have e:(s.heap.update p f).get? p=some {cls:=.type "list",data:=.seq its'.toArray n'}:=by
  rw[Heap.get?_update_self f ho (by rw[hf]<;>rfl),hf]
 refine I.write (x:=p) (e:=p) (by rw[h];trivial) (.inl rfl) (fun b u hb q=>(Heap.get?_update_other _ _ (Ne.symm hb)).trans q) ⟨_,e⟩ ?_
 exact⟨hz,its',n',r,e⟩
def b6Y:V->V->V->Hp->(Hp->Prop)->Prop:=fun o i v H Q=>∃p xs k j,o=.ref p/\i=.int k/\H p=some (.lst xs)/\ixN xs.length k=some j/\Q (upd H p (.lst (xs.set j v)))
theorem a8N:b6s X b6Y:=by
 intro pins s σ H o i v ov iv u Q I ro ri rv h;obtain⟨p,xs,k,j,rfl,rfl,hp,hj,q⟩:=h;cases ro;obtain⟨t,rfl⟩:=ri;obtain⟨its,n,r,ho,hz⟩:=I.lst hp;obtain⟨h1,h2,h3,h4⟩:=a6Y hj;have hl:=r.length;have hn:=a0t
 have I':Inv X pins σ (upd H p (.lst (xs.set j v))) {s with heap:=s.heap.update p (Obj.mapSeq (·.setIfInBounds j u))}:=
  I.lstUpd hp ho (a6e its n j u) (r.set rv j) (by rw[length_set];exact hz) s.toks
 by_cases h0:0<=k
 · have hk:k.toNat=j:=by
    rw[seqIndex_of h0 h4] at h1;exact ax h1
   exact PySem.W.ki_setAt ho h0 (by omega) (by rw[size_toArray,←hl];exact h4) (by rw[hk];exact⟨_,I',q⟩)
 · have hk:(k+(its.toArray.size:Int)).toNat=j:=by
    rw[seqIndex_neg (by omega) h3] at h1
    rw[size_toArray,←hl];exact ax h1
   exact PySem.W.ki_setBack ho (by omega) (by rw[size_toArray,←hl];exact h3) (by omega) (by rw[hk];exact⟨_,I',q⟩)
theorem a3J(lo hi:Option Int)(n:Nat):(sliceBounds lo hi none n).1=((HT.sIx n 0 lo:Nat):Int)/\(sliceBounds lo hi none n).2.1=((HT.sIx n n hi:Nat):Int)/\(sliceBounds lo hi none n).2.2=1:=by
 refine⟨?_,?_,rfl⟩
 · cases lo with
   |none=>simp[sliceBounds,HT.sIx]
   |some i=>
    simp only[sliceBounds,HT.sIx,Option.getD_none,show(1:Int)>0 by decide,if_true]
    by_cases h:i<0
    · simp only[h,if_true]<;>omega
    · simp only[h,if_false]<;>omega
 · cases hi with
   |none=>simp[sliceBounds,HT.sIx]
   |some i=>
    simp only[sliceBounds,HT.sIx,Option.getD_none,show(1:Int)>0 by decide,if_true]
    by_cases h:i<0
    · simp only[h,if_true]<;>omega
    · simp only[h,if_false]<;>omega
theorem a2N(its:List Value)(lo hi:Option Int):slicePick its.toArray lo hi none=((its.drop (HT.sIx its.length 0 lo)).take (HT.sIx its.length its.length hi-HT.sIx its.length 0 lo)).toArray:=by
 obtain⟨h1,h2,h3⟩:=a3J lo hi its.toArray.size;unfold slicePick;rw[h1,h2,h3];simp only[sliceRange_one,pick_run,size_toArray]<;>rfl
def b9m(K:PySem.W.Frag):V->Option Int->Option Int->Hp->VK->Prop:=fun x lo hi H Q=>∃a xs,x=.ref a/\SqL K H a xs/\∀p,H p=none->Q (.ref p) (upd H p (.lst (a8p xs lo hi)))
theorem b1D:SlR X (b9m X.K):=by
 intro pins s σ H x v vl vu lo hi sl Q I rx hs pl pu h;obtain⟨a,xs,rfl,hx,q⟩:=h;cases rx;obtain⟨its,r,ht,hz⟩:=I.list hx;have hlen:=r.length;refine⟨"list",_,slot_list_getitem.lookup,ht.isList.typeIs,?_⟩
 refine wpAny_getItem_list_slice ht.isList hs pl pu .none (by simp) ?_ (by rw[size_toArray]<;>omega)
 rw[a2N,←hlen];refine⟨.ref s.heap.objs.size,_,I.laid (t':=s.toks) (o:=.lst (a8p xs lo hi)) (fun b ob q=>Heap.get?_push_of_some _ q) (aj _) ?_,rfl,q _ (I.hok.fresh (aj _))⟩
 exact⟨aO (a5w xs lo hi) hz,_,0,(r.drop (HT.sIx xs.length 0 lo)).take (HT.sIx xs.length xs.length hi-HT.sIx xs.length 0 lo),Heap.get?_push_size _ rfl⟩
noncomputable def L8:V->Bool
 |.non=>true
 |.bl _=>true
 |.int _=>true
 |.str _=>true
 |_=>false
noncomputable def eqV:V->V->Bool
 |.non,.non=>true
 |.bl a,.bl b=>a==b
 |.bl a,.int b=>(if a then 1 else 0)==b
 |.int a,.bl b=>a==(if b then 1 else 0)
 |.int a,.int b=>a==b
 |.str a,.str b=>a==b
 |_,_=>false
theorem b0I{x:V}{v:Value}(ry:n9 y u)(rx:n9 x v)(fy:L8 y=true)(fx:L8 x=true):SeqAt.EqAt A s u v (eqV y x):=by
 cases y with
 |non=>
  cases ry
  cases x with
  |non=>cases rx;exact SeqAt.EqAt.same _
  |bl b=>cases rx;exact SeqAt.EqAt.none_bool b
  |int b=>obtain⟨t,rfl⟩:=rx;exact SeqAt.EqAt.none_int b t
  |str b=>obtain⟨t,rfl⟩:=rx;exact SeqAt.EqAt.none_str b t
  |_=>exact absurd (show false=true from fx) bh
 |bl a=>
  cases ry
  cases x with
  |non=>cases rx;exact SeqAt.EqAt.bool_none a
  |bl b=>cases rx;exact SeqAt.EqAt.bool_bool a b
  |int b=>obtain⟨t,rfl⟩:=rx;exact SeqAt.EqAt.bool_int a b t
  |str b=>obtain⟨t,rfl⟩:=rx;exact SeqAt.EqAt.bool_str a b t
  |_=>exact absurd (show false=true from fx) bh
 |int a=>
  obtain⟨t',rfl⟩:=ry
  cases x with
  |non=>cases rx;exact SeqAt.EqAt.int_none a t'
  |bl b=>cases rx;exact SeqAt.EqAt.int_bool a t' b
  |int b=>obtain⟨t,rfl⟩:=rx;exact SeqAt.EqAt.int_int a t' b t
  |str b=>obtain⟨t,rfl⟩:=rx;exact SeqAt.EqAt.int_str a t' b t
  |_=>exact absurd (show false=true from fx) bh
 |str a=>
  obtain⟨t',rfl⟩:=ry
  cases x with
  |non=>cases rx;exact SeqAt.EqAt.str_none a t'
  |bl b=>cases rx;exact SeqAt.EqAt.str_bool a t' b
  |int b=>obtain⟨t,rfl⟩:=rx;exact SeqAt.EqAt.str_int a t' b t
  |str b=>obtain⟨t,rfl⟩:=rx;exact SeqAt.EqAt.str_str a t' b t
  |_=>exact absurd (show false=true from fx) bh
 |_=>exact absurd (show false=true from fy) bh
def eqU(x:V)(u:Value):Bool:=match u with
 |.none=>eqV .non x
 |.bool b=>eqV (.bl b) x
 |.int i _=>eqV (.int i) x
 |.str z _=>eqV (.str z) x
 |_=>false
theorem b0F{x:V}(r:n9 y u)(f:L8 y=true):eqU x u=eqV y x:=by
 cases y with
 |non=>cases r;rfl
 |bl b=>cases r;rfl
 |int i=>obtain⟨t,rfl⟩:=r;rfl
 |str z=>obtain⟨t,rfl⟩:=r;rfl
 |_=>exact absurd (show false=true from f) bh
theorem a0U{x:V}:∀{xs:List V} {us:List Value},k8 xs us->xs.all L8=true->us.any (eqU x)=xs.any fun y=>eqV y x
 |_,_,.nil,_=>rfl
 |y::xs,u::us,.cons r t,f=>by
  rw[all_cons,ae] at f;rw[any_cons,any_cons,b0F r f.1,a0U t f.2]
theorem W9{A:Around}{s:Shared}{x:V}{v:Value}(rx:n9 x v)(fx:L8 x=true):∀{xs:List V} {us:List Value},k8 xs us->xs.all L8=true->∀u∈us,SeqAt.EqAt A s u v (eqU x u)
 |_,_,.nil,_=>fun u hu=>by cases hu
 |y::xs,u::us,.cons r t,f=>fun u' hu=>by
  rw[all_cons,ae] at f
  rcases aE.mp hu with rfl|hu
  · rw[b0F r f.1];exact b0I r rx f.1 fx
  · exact W9 rx fx t f.2 u' hu
def inV(x:V)(xs:List V):Bool:=xs.any fun y=>eqV y x
def rIn(K:PySem.W.Frag)(neg:Bool):R2:=fun x y H Q=>∃p xs,y=.ref p/\(SqL K H p xs∨SqT K H p xs)/\L8 x=true/\xs.all L8=true/\Q (.bl (if neg then !inV x xs else inV x xs)) H
theorem Z2:OpR X (compareOp .In) (rIn X.K false):=by
 intro pins s σ H x y v u Q I rx ry h;obtain⟨p,xs,rfl,hq,fx,fs,q⟩:=h;cases ry
 rcases hq with hq|hq
 · obtain⟨its,r,pl,hz⟩:=I.list hq;refine SeqAt.in_listAt (eqU x) pl.isList (fun w hw=>W9 rx fx r fs w (by simpa using hw)) ⟨.bl _,H,I,rfl,?_⟩
   rw[show its.toArray.any (eqU x)=its.any (eqU x) by simp,a0U r fs]
   exact q
 · obtain⟨its,r,pl,hz⟩:=I.tuple hq;refine SeqAt.in_tupleAt (eqU x) pl (fun w hw=>W9 rx fx r fs w (by simpa using hw)) ⟨.bl _,H,I,rfl,?_⟩
   rw[show its.toArray.any (eqU x)=its.any (eqU x) by simp,a0U r fs]
   exact q
theorem M0:OpR X (compareOp .NotIn) (rIn X.K true):=by
 intro pins s σ H x y v u Q I rx ry h;obtain⟨p,xs,rfl,hq,fx,fs,q⟩:=h;cases ry
 rcases hq with hq|hq
 · obtain⟨its,r,pl,hz⟩:=I.list hq;refine SeqAt.notIn_listAt (eqU x) pl.isList (fun w hw=>W9 rx fx r fs w (by simpa using hw)) ⟨.bl _,H,I,rfl,?_⟩
   rw[show its.toArray.any (eqU x)=its.any (eqU x) by simp,a0U r fs]
   exact q
 · obtain⟨its,r,pl,hz⟩:=I.tuple hq;refine SeqAt.notIn_tupleAt (eqU x) pl (fun w hw=>W9 rx fx r fs w (by simpa using hw)) ⟨.bl _,H,I,rfl,?_⟩
   rw[show its.toArray.any (eqU x)=its.any (eqU x) by simp,a0U r fs]
   exact q
theorem a3S:OpR X (compareOp .NotIn) (fun x y H Q=>∃i j,x=.str i/\y=.str j/\Q (.bl (!(!(Builtin.Str.occurrences j i 0 j.length 1).isEmpty))) H):=by
 intro pins s σ H x y v u Q I rx ry h;obtain⟨i,j,rfl,rfl,q⟩:=h;obtain⟨t,rfl⟩:=rx;obtain⟨t',rfl⟩:=ry;exact notIn_str ⟨.bl _,H,I,rfl,q⟩
theorem a0T:E9 X (.builtin "len") (fun xs H Q=>∃p ys,xs=[.ref p]/\(SqL X.K H p ys∨SqT X.K H p ys)/\Q (.int ys.length) H):=by
 intro pins s σ H xs us Q I r h;obtain⟨p,ys,rfl,hq,q⟩:=h;obtain⟨u,rfl,rx⟩:=S9 r;cases rx;have hn:=a0t
 rcases hq with hq|hq
 · obtain⟨its,r',pl,hz⟩:=I.list hq;have hlen:=r'.length;exact Calls.call_len_list pl.isList (by simp only[size_toArray]<;>omega) ⟨.int ys.length,H,I.tok _,⟨s.toks+1,by rw[size_toArray,hlen]⟩,q⟩
 · obtain⟨its,r',pl,hz⟩:=I.tuple hq;have hlen:=r'.length;exact len_tuple pl (by simp only[size_toArray]<;>omega) ⟨.int ys.length,H,I.tok _,⟨s.toks+1,by rw[size_toArray,hlen]⟩,q⟩
theorem a4y:E9 X (.builtin "len") (fun xs H Q=>∃z,xs=[.str z]/\z.length<=sizeLine/\Q (.int z.length) H):=by
 intro pins s σ H xs us Q I r h;obtain⟨z,rfl,hz,q⟩:=h;obtain⟨u,rfl,t,rfl⟩:=S9 r;have hn:=a0t;exact len_str (by omega) ⟨.int z.length,H,I.tok _,⟨_,rfl⟩,q⟩
theorem a0S:E9 X (.type "list") (fun xs H Q=>∃p ys,xs=[.ref p]/\(SqL X.K H p ys∨SqT X.K H p ys)/\∀l,H l=none->Q (.ref l) (upd H l (.lst ys))):=by
 intro pins s σ H xs us Q I r h;obtain⟨p,ys,rfl,hq,q⟩:=h;obtain⟨u,rfl,rx⟩:=S9 r;cases rx
 have fin:∀(its:List Value),k8 ys its->ys.length<=sizeLine->∀(h':Heap) (c':Nat),(∀b o',s.heap.get? b=some o'->h'.get? b=some o')→
  h'.get? s.heap.objs.size=some {cls:=.type "list",dict:=none,data:=.seq its.toArray c',slots:= #[]}->EP X pins σ Q (.ref s.heap.objs.size) {s with heap:=h'}:=fun its r' hz h' c' kp e=>
  ⟨.ref s.heap.objs.size,_,I.laid (t':=s.toks) kp (aj _) (show v7 X.prog X.w _ h' _ (.lst ys) from⟨hz,its,c',r',e⟩),rfl,q _ (I.hok.fresh (aj _))⟩
 rcases hq with hq|hq
 · obtain⟨its,r',pl,hz⟩:=I.list hq;have hlen:=r'.length;obtain⟨o,ho,hc,n,hd⟩:=pl.isList;exact call_list_seq p (.inl rfl) ho hc hd (fun h' c' kp e=>fin its r' hz h' c' kp e) (by simp only[size_toArray]<;>omega)
 · obtain⟨its,r',pl,hz⟩:=I.tuple hq;have hlen:=r'.length;obtain⟨o,ho,hc,n,hd⟩:=pl;exact call_list_seq p (.inr rfl) ho hc hd (fun h' c' kp e=>fin its r' hz h' c' kp e) (by simp only[size_toArray]<;>omega)
theorem a0n:E9 X (.type "tuple") (fun xs H Q=>∃p ys,xs=[.ref p]/\((SqL X.K H p ys/\∀l,H l=none->Q (.ref l) (upd H l (.tup ys)))∨(SqT X.K H p ys/\Q (.ref p) H))):=by
 intro pins s σ H xs us Q I r h;obtain⟨p,ys,rfl,h⟩:=h;obtain⟨u,rfl,rx⟩:=S9 r;cases rx
 rcases h with⟨hq,q⟩|⟨hq,q⟩
 · obtain⟨its,r',pl,hz⟩:=I.list hq;have hlen:=r'.length;refine call_tuple_list pl.isList (fun h' kp=>?_) (by simp only[size_toArray]<;>omega)
   have I1:Inv X pins σ H {s with heap:=h'}:=I.kept (t':=s.toks) kp
   have I2:Inv X pins σ (upd H h'.objs.size (.tup ys)) {s with heap:=h'.push {cls:=.type "tuple",data:=.seq its.toArray}}:=
    I1.laid (t':=s.toks) (fun b o e=>Heap.get?_push_of_some _ e) (aj _) (show v7 X.prog X.w _ _ _ (.tup ys) from⟨hz,its,r',a1m.new _ _⟩)
   exact⟨.ref h'.objs.size,_,I2,rfl,q _ (I1.hok.fresh (aj _))⟩
 · obtain⟨its,r',pl,hz⟩:=I.tuple hq;exact call_tuple_same pl ⟨.ref p,H,I,rfl,q⟩
def tyV(K:PySem.W.Frag)(T:String)(x:V)(H:Hp):Prop:=match x with
 |.str _=>T="str"
 |.int _=>T="int"
 |.ref p=>(T="list"/\∃xs,SqL K H p xs)∨(T="tuple"/\∃o,K.lookup p=some o/\o.cls=.type "tuple"/\o.dict=none)∨
  (T="dict"/\((∃kvs,H p=some (.dK kvs))∨∃kvs,H p=some (.dT kvs)))∨(T="set"/\∃S n,H p=some (.set S n))
 |_=>False
theorem b3I{T:String}{x:V}{v:Value}(I:Inv X pins σ H s)(r:n9 x v)(ty:tyV X.K T x H):
 s.TypeIs v T/\∀a,v=.ref a->∃ob,s.heap.get? a=some ob/\ob.dict=none:=by
 cases x with
 |str z=>
  obtain⟨t,rfl⟩:=r
  cases (show T="str" from ty)
  exact⟨typeIs_str s z t,fun _ e=>nomatch e⟩
 |int i=>
  obtain⟨t,rfl⟩:=r
  cases (show T="int" from ty)
  exact⟨typeIs_int s i t,fun _ e=>nomatch e⟩
 |ref p=>
  cases r
  rcases ty with⟨rfl,xs,hq⟩|⟨rfl,o,hk,hc,hd⟩|⟨rfl,hk⟩|⟨rfl,S,n,hk⟩
  · obtain⟨its,_,pl,_⟩:=I.list hq;refine⟨pl.isList.typeIs,fun a e=>?_⟩
    cases e;obtain⟨o,n,e,c,hd,_⟩:=pl;exact⟨o,e,hd⟩
  · refine⟨⟨o,I.kIn p o hk,hc⟩,fun a e=>?_⟩
    cases e;exact⟨o,I.kIn _ o hk,hd⟩
  · have z:∃o,s.heap.get? p=some o/\o.ExactDict:=by
     rcases hk with⟨kvs,hk⟩|⟨kvs,hk⟩
     · obtain⟨_,_,_,_,o,_,_,e,ex,_⟩:=I.hok p _ hk;exact⟨o,e,ex⟩
     · obtain⟨_,_,_,_,o,_,_,e,ex,_⟩:=I.hok p _ hk;exact⟨o,e,ex⟩
    obtain⟨o,e,ex⟩:=z;refine⟨⟨o,e,ex.1⟩,fun a e2=>?_⟩
    cases e2;exact⟨o,e,ex.2.1⟩
  · obtain⟨o,_,_,_,e,ex,_⟩:=I.hok p _ hk;refine⟨⟨o,e,ex.1⟩,fun a e2=>?_⟩
    cases e2;exact⟨o,e,ex.2.1⟩
 |_=>exact False.elim ty
def tBM(K:PySem.W.Frag)(T:String)(r:V->List V->Hp->VK->Prop)(to:TE)(t:TA):TE:=fun σ H Q=>to σ H fun x H1=>tyV K T x H1/\t σ H1 fun xs H2=>r x xs H2 Q
variable{o e:Expr}{es:List Expr}{to:TE}{t:TA}{name:Str}{apos cpos:Pos}{T:String}{r:V->List V->Hp->VK->Prop}
theorem a5a(pa:PlainAttrs T)(slot:Slot T name id)(hty:typeOf (.builtin id)=pure (.type "method_descriptor"))(hm:MtR X id r)(ho:PE X o to)(ha:PA X (e::es) t)
 (hbase:attributeBase o name X.env (eval o X.env)=eval o X.env:=by rfl)
 (hfew:((backTo cpos (starEach (e::es) X.env)).all (fun x=>!x.1)&&(backToKw cpos (keywordEach [] X.env)).all (fun x=>x.1.isSome)
  &&decide ((e::es).length+([]:List Keyword).length+(if([]:List Keyword).isEmpty then 0 else 1)<30))=true:=by rfl)
 (hline:(apos.endLine==cpos.line)=true:=by rfl) (hs:starEach (e::es) X.env=(false,eval e X.env)::starEach es X.env:=by rfl) (hplain:(backTo cpos (starEach es X.env)).any (·.1)=false:=by rfl):
 PE X (.Call (.Attribute o name apos) (e::es) [] cpos) (tBM X.K T r to t):=by
 intro pins s σ H Q I h;refine wpAny_Call_method_late hbase hfew hline rfl (thn (ho pins s σ H _ I h) fun v s1 ⟨x,H1,I1,r1,ty,q1⟩=>?_)
 obtain⟨h1,h2⟩:=b3I I1 r1 ty;refine⟨T,id,pa,slot,hty,h1,h2,?_⟩
 have hA:=ha cpos pins s1 σ H1 _ I1 q1;rw[hs] at hA⊢;refine Calls.callWith_builtin (by show(false||(backTo cpos (starEach es X.env)).any (·.1))=false;rw[hplain]<;>rfl) (Calls.evalArgs_plain ?_)
 exact thn hA fun us s2 ⟨vs,H2,I2,r2,q2⟩=>hm pins s2 σ H2 x vs v us Q I2 r1 r2 q2
end
def MtM(X:Cx)(id:String)(r:V->List V->Hp->VK->Prop):Prop:=
 ∀(pins:List (Addr×Obj)) (s:Shared) (σ:St) (H:Hp) (x:V) (xs:List V) (v:Value) (us:List Value) (Q:VK),Inv X pins σ H s->n9 x v->k8 xs us->r x xs H Q→
  wpAny (model X.prog X.w) X.A (call (.builtin id) (v::us)) (EP X pins σ Q) X.xe s
theorem k8.one:∀{x:V} {us:List Value},k8 [x] us->∃u,us=[u]/\n9 x u
 |_,_,.cons r .nil=>⟨_,rfl,r⟩
theorem k8.reverse{xs:List V}(h:k8 xs us):k8 xs.reverse us.reverse:=by
 induction h with
 |nil=>exact .nil
 |cons r t ih=>rw[reverse_cons,reverse_cons];exact k8.append ih (.cons r .nil)
theorem k8.rep{xs:List V}{us:List Value}(h:k8 xs us):∀k:Nat,k8 (List.replicate k xs).flatten (List.replicate k us).flatten
 |0=>.nil
 |k+1=>by
  rw[replicate_succ,replicate_succ,flatten_cons,flatten_cons];exact k8.append h (k8.rep h k)
theorem a3m(its:List Value):∀(k:Nat) (acc:List Value),
 List.foldl (fun x1 x2=>x1++x2) acc.toArray (List.replicate k its.toArray)=(acc++(List.replicate k its).flatten).toArray
 |0,acc=>by simp
 | k+1,acc=>by
  have e:acc.toArray++its.toArray=(acc++its).toArray:=by simp
  have e2:(acc++its)++(List.replicate k its).flatten=acc++(List.replicate (k+1) its).flatten:=by
   rw[replicate_succ,flatten_cons,aA]
  rw[←e2,←a3m its k (acc++its),←e,replicate_succ,foldl_cons]
section
variable{X:Cx}{l b:Addr}{xs zs:List V}
theorem Inv.lset{f:Array Value->Array Value}{t':Nat}(I:Inv X pins σ H s)(hH:H l=some (.lst xs))
 (e:s.heap.get? l=some {cls:=.type "list",data:=.seq its.toArray n}) (hf:f its.toArray=its'.toArray) (hv:k8 ys its') (hz:ys.length<=sizeLine):
 Inv X pins σ (upd H l (.lst ys)) {s with heap:=s.heap.update l (Obj.mapSeq f),toks:=t'}:=by
 have q:=PySem.IsL.update e f;rw[hf] at q;refine I.write (x:=l) (e:=l) (by rw[hH];exact trivial) (.inl rfl) (fun b' u hb hu=>(Heap.get?_update_other s.heap (Obj.mapSeq f) (Ne.symm hb)).trans hu) ⟨_,q⟩ ?_
 exact⟨hz,its',_,hv,q⟩
theorem Inv.lnew{t':Nat}(I:Inv X pins σ H s)(hv:k8 ys its)(hz:ys.length<=sizeLine):
 Inv X pins σ (upd H s.heap.objs.size (.lst ys)) {s with heap:=s.heap.push {cls:=.type "list",data:=.seq its.toArray},toks:=t'}:=
 I.laid (fun _ _ q=>Heap.get?_push_of_some _ q) (aj _) ⟨hz,its,0,hv,Heap.get?_push_size _ rfl⟩
theorem Inv.fresh(I:Inv X pins σ H s):H s.heap.objs.size=none:=I.hok.fresh (aj _)
theorem Inv.lstM(I:Inv X pins σ H s)(hH:H l=some (.lst xs)):xs.length<=sizeLine/\∃(its:List Value) (n:Nat),k8 xs its/\xs.length=its.length/\s.heap.get? l=some {cls:=.type "list",data:=.seq its.toArray n}:=by
 obtain⟨z,its,n,r,e⟩:=I.hok l _ hH;exact⟨z,its,n,r,r.length,e⟩
theorem a9D(h:n<=sizeLine):Builtin.List.listTooLong n=false:=by
 unfold Builtin.List.listTooLong;exact bq (by omega)
end
section
variable{X:Cx}
def b1P:V->List V->Hp->VK->Prop:=fun x vs H Q=>∃l xs y,x=.ref l/\vs=[y]/\H l=some (.lst xs)/\xs.length<sizeLine/\Q .non (upd H l (.lst (xs++[y])))
theorem a3h:MtM X "list.append" b1P:=by
 intro pins s σ H x vs v us Q I rx rv h;obtain⟨l,xs,y,rfl,rfl,hH,hz,q⟩:=h;cases rx;obtain⟨u,rfl,ru⟩:=rv.one;obtain⟨z,its,n,r,hl,e⟩:=I.lstM hH;refine call_meets F.slot_list_append ⟨_,e,rfl⟩ F.entry_list_append (F.args_list_append_2 _ _) (PySem.list_append l its.toArray n u (by rw[size_toArray];omega)) ⟨e,?_⟩
 refine⟨.non,_,I.lset (its':=its++[u]) hH e (by simp) (r.append (.cons ru .nil)) ?_,rfl,q⟩
 rw[aq,List.length_singleton];omega
def b9t:R2:=fun x y H Q=>∃l b xs zs,x=.ref l/\y=.ref b/\H l=some (.lst xs)/\H b=some (.lst zs)/\xs.length+zs.length<=sizeLine/\∀p,H p=none->Q (.ref p) (upd H p (.lst (xs++zs)))
theorem b4N:OpR X (binaryOp .Add) b9t:=by
 intro pins s σ H x y v u Q I rx ry h;obtain⟨l,b,xs,zs,rfl,rfl,hH,hB,hz,q⟩:=h;cases rx;cases ry;obtain⟨z,its,n,r,hl,e⟩:=I.lstM hH;obtain⟨z2,its2,n2,r2,hl2,e2⟩:=I.lstM hB;refine PySem.P.add_list e e2 ?_ (by rw[size_toArray,size_toArray];omega)
 have ea:its.toArray++its2.toArray=(its++its2).toArray:=by simp
 rw[ea];exact⟨.ref _,_,I.lnew (t':=s.toks) (r.append r2) (by rw[aq];omega),rfl,q _ I.fresh⟩
def b9n:R2:=fun x y H Q=>∃l k xs,x=.ref l/\y=.int k/\H l=some (.lst xs)/\ -(2^63)<=k/\k<2^63/\xs.length*k.toNat<=sizeLine∧
 ∀p,H p=none->Q (.ref p) (upd H p (.lst (List.replicate k.toNat xs).flatten))
theorem b2x(xs:List α)(k:Nat):(List.replicate k xs).flatten.length=k*xs.length:=by
 induction k with
 |zero=>simp
 |succ k ih=>rw[replicate_succ,flatten_cons,aq,ih,Nat.succ_mul,Nat.add_comm]
theorem b4H:OpR X (binaryOp .Mult) b9n:=by
 intro pins s σ H x y v u Q I rx ry h;obtain⟨l,k,xs,rfl,rfl,hH,h1,h2,hz,q⟩:=h;cases rx;obtain⟨t,rfl⟩:=ry;obtain⟨z,its,n,r,hl,e⟩:=I.lstM hH
 have hlen:its.toArray.size*k.toNat<=sizeLine:=by rw[size_toArray,←hl];exact hz
 have hcap:¬its.toArray.size*k.toNat>(2^63-1)/8:=by
  have:(sizeLine:Nat)<=(2^63-1)/8:=by decide
  omega
 have hfit:¬(!Builtin.List.listFitsIndex k)=true:=by
  rw[fitsIndex_both h1 h2];exact bh
 have hlong:¬Builtin.List.listTooLong (its.toArray.size*k.toNat)=true:=by
  rw[a9D hlen];exact bh
 have hnew:List.foldl (fun x1 x2=>x1++x2) #[] (List.replicate (if its.toArray.isEmpty=true then 0 else k.toNat) its.toArray)=(List.replicate k.toNat its).flatten.toArray:=by
  have f0:∀m:Nat,List.foldl (fun x1 x2=>x1++x2) #[] (List.replicate m its.toArray)=(List.replicate m its).flatten.toArray:=fun m=>by
   have:=a3m its m []
   rw[nil_append] at this;exact this
  rw[f0]
  cases its with
  |nil=>simp
  |cons a r'=>rw[az (by simp)]
 refine wpAny_binaryOp_repeat_ref (T:="list") (U:="int") (by decide) ⟨_,e,rfl⟩ (fun s'=>typeIs_int s' k t) noFill_list_mul F.fills_int_mul F.slot_int_rmul repeat_list F.slot_int_index.lookup
  (call_meets F.slot_int_rmul (typeIs_int s k t) F.entry_int_rmul (F.args_int_rmul_2 _ _) (int___rmul___int_list k t l its.toArray n)
   ⟨e,rfl,⟨_,e,rfl⟩,call_meets F.slot_list_mul ⟨_,e,rfl⟩ F.entry_list_mul (F.args_list_mul_2 _ _) (AutoListH.list___mul___list_int_3 l its.toArray n k t hfit hcap hlong) ⟨e,?_⟩⟩)
 rw[hnew];exact⟨.ref _,_,I.lnew (t':=s.toks) (r.rep k.toNat) (by rw[b2x,Nat.mul_comm];exact hz),rfl,q _ I.fresh⟩
end
variable{b:Addr}{vl:Value}{vu:Value}
section
variable{κ:Type}[DecidableEq κ]
noncomputable def T0(kvs:List (κ×V))(k:κ):Option V:=(kvs.find? fun kv=>decide (kv.1=k)).map (·.2)
noncomputable def L1(kvs:List (κ×V))(k:κ)(v:V):List (κ×V):=
 if(kvs.any fun kv=>decide (kv.1=k))=true then kvs.map (fun kv=>if kv.1=k then(kv.1,v) else kv) else kvs++[(k,v)]
theorem W2{p:κ×V}{r:List (κ×V)}{k:κ}(e:p.1=k):T0 (p::r) k=some p.2:=by simp[T0,List.find?_cons,e]
theorem W3{p:κ×V}{r:List (κ×V)}{k:κ}(e:¬p.1=k):T0 (p::r) k=T0 r k:=by simp[T0,List.find?_cons,e]
theorem a4M(k:κ):∀kvs:List (κ×V),(kvs.any fun kv=>decide (kv.1=k))=(T0 kvs k).isSome
 |[]=>rfl
 |p::r=>by
  rw[any_cons]
  by_cases e:p.1=k
  · simp only[W2 e,aX e,Bool.true_or,Option.isSome_some]
  · rw[W3 e,bq e,Bool.false_or];exact a4M k r
theorem X0(kvs:List (κ×V))(k:κ)(v:V):(L1 kvs k v).length<=kvs.length+1:=by
 unfold L1
 split
 · rw[aa];omega
 · rw[aq,length_cons,length_nil];omega
theorem U3.isSome_eq{o:Option V}{u:Option Value}(r:U3 o u):o.isSome=u.isSome:=by
 cases o with
 |none=>cases u with
  |none=>rfl
  |some _=>exact(show False from r).elim
 |some _=>cases u with
  |none=>exact(show False from r).elim
  |some _=>rfl
theorem KV.val{kvs:List (κ×V)}{vs:List (κ×Value)}(r:KV kvs vs)(k:κ):U3 (T0 kvs k) (valueAt vs k):=by
 unfold KV at r
 induction r with
 |nil=>exact True.intro
 | @cons p q ps qs h t ih=>
  obtain⟨h1,h2⟩:=h
  by_cases e:p.1=k
  · have e':q.1=k:=h1.symm.trans e
    have b:valueAt (q::qs) k=some q.2:=by simp[valueAt,List.find?_cons,e']
    rw[W2 e,b];exact h2
  · have e':¬q.1=k:=fun z=>e (h1.trans z)
    have b:valueAt (q::qs) k=valueAt qs k:=by simp[valueAt,List.find?_cons,e']
    rw[W3 e,b];exact ih
theorem KV.any{kvs:List (κ×V)}{vs:List (κ×Value)}(r:KV kvs vs)(k:κ):(kvs.any fun kv=>decide (kv.1=k))=vs.any fun kv=>decide (kv.1=k):=by
 unfold KV at r
 induction r with
 |nil=>rfl
 |cons h t ih=>rw[any_cons,any_cons,ih,h.1]
theorem KV.repl{kvs:List (κ×V)}{vs:List (κ×Value)}(r:KV kvs vs)(k:κ)(ry:n9 y u):
 KV (kvs.map fun kv=>if kv.1=k then(kv.1,y) else kv) (vs.map fun kv=>if kv.1=k then(kv.1,u) else kv):=by
 unfold KV at r⊢
 induction r with
 |nil=>exact .nil
 | @cons p q ps qs h t ih=>
  rw[map_cons,map_cons];refine .cons ?_ ih
  obtain⟨h1,h2⟩:=h
  by_cases e:p.1=k
  · rw[ay e,ay (h1.symm.trans e)];exact⟨h1,ry⟩
  · rw[az e,az (fun z=>e (h1.trans z))];exact⟨h1,h2⟩
theorem KV.put{kvs:List (κ×V)}{vs:List (κ×Value)}(r:KV kvs vs)(k:κ)(ry:n9 y u):KV (L1 kvs k y) (stored vs k u):=by
 unfold L1 stored;rw[r.any k]
 by_cases e:(vs.any fun kv=>decide (kv.1=k))=true
 · rw[ay e,ay e];exact r.repl k ry
 · rw[az e,az e];exact Paired.snoc r ⟨rfl,ry⟩
theorem KV.length{kvs:List (κ×V)}{vs:List (κ×Value)}(r:KV kvs vs):kvs.length=vs.length:=Paired.length r
end
variable{P:Program}{w:World}
theorem a0i{k:Key}(r:n9 (kV k) u):(v8 P w).is k u=true:=by
 cases k with
 |inl i=>obtain⟨t,e⟩:=(show∃t,u=Value.int i t from r);subst e;exact a5f P w i t
 |inr x=>obtain⟨t,e⟩:=(show∃t,u=Value.str x t from r);subst e;exact a5e P w x t
theorem a3k{P:Program}{w:World}:∀{ks:List Key} {us:List Value},k8 (ks.map kV) us->ItemsAre (v8 P w) ks us
 |[],_,r=>by rw[map_nil] at r;cases r;exact .nil
 |k::ks,_,r=>by
  rw[map_cons] at r
  cases r with
  |cons h t=>exact .cons (a0i h) (a3k t)
abbrev KT(H:Hp):List (List Key×V)->List (List Key×Addr×Value)->Prop:=Paired fun p q=>p.1=q.1/\H q.2.1=some (.tup (p.1.map kV))/\n9 p.2 q.2.2
variable{kvs:List (List Key×V)}{xs:List (List Key×Addr×Value)}
theorem KT.val(r:KT H kvs xs)(k:List Key):U3 (T0 kvs k) ((atKey xs k).map (·.2)):=by
 induction r with
 |nil=>exact True.intro
 | @cons p q ps qs h t ih=>
  obtain⟨h1,_,h2⟩:=h
  by_cases e:p.1=k
  · have e':q.1=k:=h1.symm.trans e
    have b:atKey (q::qs) k=some q.2:=by simp[atKey,List.find?_cons,e']
    rw[W2 e,b];exact h2
  · have e':¬q.1=k:=fun z=>e (h1.trans z)
    have b:atKey (q::qs) k=atKey qs k:=by simp[atKey,List.find?_cons,e']
    rw[W3 e,b];exact ih
theorem KT.repl(r:KT H kvs xs)(k:List Key)(ry:n9 y u):
 KT H (kvs.map fun kv=>if kv.1=k then(kv.1,y) else kv) (xs.map (putAt k u)):=by
 induction r with
 |nil=>exact .nil
 | @cons p q ps qs h t ih=>
  rw[map_cons,map_cons];refine .cons ?_ ih
  obtain⟨h1,h2,h3⟩:=h;unfold putAt
  by_cases e:p.1=k
  · rw[ay e,ay (h1.symm.trans e)];exact⟨h1,h2,ry⟩
  · rw[az e,az (fun z=>e (h1.trans z))];exact⟨h1,h2,h3⟩
theorem KT.put(r:KT H kvs xs)(k:List Key)(hb:H b=some (.tup (k.map kV)))(ry:n9 y u):
 KT H (L1 kvs k y) (storedH xs k b u):=by
 have e:(kvs.any fun kv=>decide (kv.1=k))=(atKey xs k).isSome:=by
  rw[a4M,(r.val k).isSome_eq,Option.isSome_map]
 unfold L1 storedH;rw[e]
 by_cases q:(atKey xs k).isSome=true
 · rw[ay q,ay q];exact r.repl k ry
 · rw[az q,az q];exact Paired.snoc r ⟨rfl,hb,ry⟩
variable{H':Hp}
theorem KT.keeps(r:KT H kvs xs)(ht:∀b ys,H b=some (.tup ys)->H' b=some (.tup ys)):KT H' kvs xs:=
 Paired.mapP r fun _ _ z=>⟨z.1,ht _ _ z.2.1,z.2.2⟩
section
variable{h:Heap}{a:Addr}
theorem rd_of{u:HO}(ok:HOk P w H h)(e:Rd H a u):v7 P w H h a u:=e.ok ok
theorem a3r{kvs:List (Key×V)}(ok:HOk P w H h)(e:Rd H a (.dK kvs)):kvs.length<=sizeLine/\(a==sysModules)=false/\∃vs,KV kvs vs/\h.DictOf (v8 P w) a vs:=
 show v7 P w H h a (.dK kvs) from rd_of ok e
theorem b3C{kvs:List (Key×V)}(ok:HOk P w H h)(e:H a=some (.dK kvs)):kvs.length<=sizeLine/\(a==sysModules)=false/\∃vs,KV kvs vs/\h.DictOf (v8 P w) a vs:=a3r ok (.inl e)
theorem a2u{ks:List Key}(ok:HOk P w H h)(e:H a=some (.tup (ks.map kV))):(tupleKind (v8 P w)).is h ks a:=by
 obtain⟨_,its,r,o,h1,h2,_,n,h3⟩:=(show v7 P w H h a (.tup (ks.map kV)) from ok a _ e);exact⟨o,its.toArray,n,h1,h2,h3,by simpa using a3k r⟩
theorem a5t(ok:HOk P w H h)(e:Rd H a (.dT kvs)):kvs.length<=sizeLine/\(a==sysModules)=false∧
 ∃xs,KT H kvs xs/\h.DictOfH (tupleKind (v8 P w)) a xs:=by
 obtain⟨z,y,xs,r,o,es,ep,h1,h2,h3,h4,h5⟩:=(show v7 P w H h a (.dT kvs) from rd_of ok e);refine⟨z,y,xs,r,o,es,ep,h1,h2,h3,h4,fun x hx=>?_,h5⟩
 have all:∀{l:List (List Key×V)} {m:List (List Key×Addr×Value)},KT H l m->∀x∈m,(tupleKind (v8 P w)).is h x.1 x.2.1:=by
  intro l m q
  induction q with
  |nil=>intro x hx;exact nomatch hx
  | @cons p q ps qs hq t ih=>
   intro x hx
   rcases aE.mp hx with e|hx
   · subst e;exact a2u ok (by rw[←hq.1];exact hq.2.1)
   · exact ih x hx
 exact all r x hx
theorem b8f(ok:HOk P w H h)(e:H a=some (.dT kvs)):kvs.length<=sizeLine/\(a==sysModules)=false∧
 ∃xs,KT H kvs xs/\h.DictOfH (tupleKind (v8 P w)) a xs:=a5t ok (.inl e)
end
def b1h(H:Hp)(a:Addr)(y:V)(r:Option V):Prop:=
 (∃kvs k,Rd H a (.dK kvs)/\y=kV k/\r=T0 kvs k)∨∃kvs k b,Rd H a (.dT kvs)/\y=.ref b/\H b=some (.tup (k.map kV))/\r=T0 kvs k
def c0t(H:Hp)(a:Addr)(y v:V)(H':Hp):Prop:=
 (∃kvs k,H a=some (.dK kvs)/\y=kV k/\kvs.length<sizeLine/\H'=upd H a (.dK (L1 kvs k v)))∨
 ∃kvs k b,H a=some (.dT kvs)/\y=.ref b/\H b=some (.tup (k.map kV))/\kvs.length<sizeLine/\H'=upd H a (.dT (L1 kvs k v))
variable{a:Addr}{v:V}{Q:Value->Shared->Prop}{h':Heap}{vs:List (Key×Value)}
section
variable{X:Cx}{r:Value}{o:Option V}{E:Value->Shared->Prop}
theorem Inv.big(I:Inv X pins σ H s):sysModules<s.heap.objs.size:=by
 have h:mainGlobals<s.heap.objs.size:=(I.mod.glob.keeps I.bk).lt
 exact Nat.lt_trans (by decide) h
theorem a8o(hu:A.units+1<cLine)(I:Inv X pins σ H s)(g:b1h H a y (some v))(ry:n9 y u)(h:∀w' s',Inv X pins σ H s'->n9 v w'->Q w' s'):
 wpAny (model X.prog X.w) A (getItem (.ref a) u) Q E s:=by
 rcases g with⟨kvs,k,e,ey,l⟩|⟨kvs,k,b,e,ey,eb,l⟩
 · subst ey;obtain⟨z,hd,vs,rel,dd⟩:=a3r I.hok e;obtain⟨w',hw,rw'⟩:=U3.some_of (v:=v) (o:=valueAt vs k) (by rw[l];exact rel.val k)
   exact wpAny_getItem_of (a0i ry) dd.mapOf hw (h w' _ (I.tok _) rw')
 · subst ey
   cases (show u=Value.ref b from ry)
   obtain⟨z,hd,xs,rel,dd⟩:=a5t I.hok e;obtain⟨w',hw,rw'⟩:=U3.some_of (v:=v) (o:=(atKey xs k).map (·.2)) (by rw[l];exact rel.val k)
   obtain⟨p,hp,hp2⟩:=Option.map_eq_some_iff.mp hw;refine wpAny_getItem_heap (tupleKind_room_in1 hu) (a2u I.hok eb) dd hp ?_
   rw[hp2];exact h w' _ (I.tok _) rw'
theorem b9L(hu:A.units+1<cLine)(I:Inv X pins σ H s)(g:b1h H a y o)(ry:n9 y u)(h:∀s',Inv X pins σ H s'->Q (.bool o.isSome) s'):
 wpAny (model X.prog X.w) A (compareOp .In u (.ref a)) Q E s:=by
 rcases g with⟨kvs,k,e,ey,l⟩|⟨kvs,k,b,e,ey,eb,l⟩
 · subst ey;obtain⟨z,hd,vs,rel,dd⟩:=a3r I.hok e;refine wpAny_in_of (a0i ry) hd dd.mapOf ?_
   rw[←(rel.val k).isSome_eq,←l];exact h _ (I.tok _)
 · subst ey
   cases (show u=Value.ref b from ry)
   obtain⟨z,hd,xs,rel,dd⟩:=a5t I.hok e;refine wpAny_in_heap (tupleKind_room_in1 hu) (a2u I.hok eb) hd dd ?_
   have q:=(rel.val k).isSome_eq;rw[Option.isSome_map] at q;rw[←q,←l];exact h _ (I.tok _)
theorem b3e(hu:A.units+1<cLine)(I:Inv X pins σ H s)(g:b1h H a y o)(ry:n9 y u)(h:∀s',Inv X pins σ H s'->Q (.bool (!o.isSome)) s'):
 wpAny (model X.prog X.w) A (compareOp .NotIn u (.ref a)) Q E s:=by
 rcases g with⟨kvs,k,e,ey,l⟩|⟨kvs,k,b,e,ey,eb,l⟩
 · subst ey;obtain⟨z,hd,vs,rel,dd⟩:=a3r I.hok e;refine wpAny_notIn_of (a0i ry) hd dd.mapOf ?_
   rw[←(rel.val k).isSome_eq,←l];exact h _ (I.tok _)
 · subst ey
   cases (show u=Value.ref b from ry)
   obtain⟨z,hd,xs,rel,dd⟩:=a5t I.hok e;refine wpAny_notIn_heap (tupleKind_room_in1 hu) (a2u I.hok eb) hd dd ?_
   have q:=(rel.val k).isSome_eq;rw[Option.isSome_map] at q;rw[←q,←l];exact h _ (I.tok _)
theorem a4t{t':Nat}{ob:HO}(I:Inv X pins σ H s)(mu:Mut (H a))(hs:Heap.SameBut a s.heap h')(he:∃q,h'.get? a=some q)(new:v7 X.prog X.w (upd H a ob) h' a ob):
 Inv X pins σ (upd H a ob) {s with heap:=h',toks:=t'}:=
 I.write (x:=a) (e:=a) mu (.inl rfl) (fun b q hb z=>(hs.2 b hb).trans z) he new
theorem a6s{kvs:List (Key×V)}(z:kvs.length<=sizeLine)(hd:(a==sysModules)=false)(rel:KV kvs vs)(dd:h'.DictOf (v8 P w) a vs):
 v7 P w H' h' a (.dK kvs):=⟨z,hd,vs,rel,dd⟩
theorem a3t{Q:Unit->Shared->Prop}(hu:A.units+1<cLine)(I:Inv X pins σ H s)(g:c0t H a y v H')(ry:n9 y u)(rv:n9 v r)(h:∀s',Inv X pins σ H' s'->Q () s'):
 wpAny (model X.prog X.w) A (setItem (.ref a) u r) Q E s:=by
 rcases g with⟨kvs,k,e,ey,l,eH⟩|⟨kvs,k,b,e,ey,eb,l,eH⟩
 · subst ey eH;obtain⟨z,hd,vs,rel,dd⟩:=b3C I.hok e
   have hz:vs.length<=sizeLine:=by rw[←rel.length];exact z
   have hl:(L1 kvs k v).length<=sizeLine:=by have:=X0 kvs k v;omega
   refine wpAny_setItem_pairs (hsz:=hz) (a0i ry) dd fun h' dd' hs=>h _ ?_
   have he:∃q,h'.get? a=some q:=let⟨q,_,_,hq,_⟩:=dd';⟨q,hq⟩
   exact a4t I (by rw[e];exact True.intro) hs he (a6s hl hd (rel.put k rv) dd')
 · subst ey eH
   cases (show u=Value.ref b from ry)
   obtain⟨z,hd,xs,rel,dd⟩:=b8f I.hok e
   have hz:xs.length<=sizeLine:=by rw[←Paired.length rel];exact z
   have hl:(L1 kvs k v).length<=sizeLine:=by have:=X0 kvs k v;omega
   refine wpAny_setItem_heap (hsz:=hz) (tupleKind_room_in1 hu) (a2u I.hok eb) dd fun h' dd' hs=>h _ ?_
   obtain⟨q,es,ep,hq,h2,h3,h4,_,h5⟩:=dd';refine a4t I (by rw[e];exact True.intro) hs ⟨q,hq⟩ ⟨hl,hd,_,(rel.put k eb rv).keeps fun c ys ec=>?_,q,es,ep,hq,h2,h3,h4,h5⟩
   rw[g9 (b7s ec e (fun z=>nomatch z))]
   exact ec
end
section
variable{X:Cx}{kvs:List (Key×V)}{k:Key}{E:Value->Shared->Prop}
theorem b8g(I:Inv X pins σ H s)(e:Rd H a (.dK kvs))(h:∀t s',Inv X pins σ H s'->Q (.int kvs.length t) s'):wpAny (model X.prog X.w) A (call (.builtin "len") [.ref a]) Q E s:=by
 obtain⟨z,hd,vs,rel,dd⟩:=a3r I.hok e;refine call_len_dict hd dd (by rw[←rel.length];rw[sizeLine_eq] at z;omega) ?_
 rw[←rel.length];exact h _ _ (I.tok _)
end
variable{prog:Program}{env:Env}{pos:Pos}{X:Cx}
theorem a5v{o:Option V}(I:Inv X pins σ H s)(g:b1h H a y o):s.TypeIs (.ref a) "dict":=by
 rcases g with⟨kvs,k,e,_,_⟩|⟨kvs,k,b,e,_,_,_⟩
 · obtain⟨_,_,vs,_,dd⟩:=a3r I.hok e;exact dd.typeIs
 · obtain⟨_,_,xs,_,dd⟩:=a5t I.hok e;exact dd.typeIs
theorem a5u(h:Heap)(hb:sysModules<h.objs.size):v7 P w H (h.push {cls:=.type "dict",data:=.dict #[]}) h.objs.size (.dK []):=
 ⟨Nat.zero_le _,beq_eq_false_iff_ne.mpr (Ne.symm (Nat.ne_of_lt hb)),[],.nil,Heap.DictOf.new h⟩
def b3W:TE:=fun _ H Q=>∀p,H p=none->Q (.ref p) (upd H p (.dK []))
section
theorem a9w:PE X (.Dict [] [] pos) b3W:=fun pins s σ H Q I h=>
 wpAny_Dict_empty ⟨.ref s.heap.objs.size,_,I.laid (a:=s.heap.objs.size) (o:=.dK []) (t':=s.toks) (fun _ _ q=>Heap.get?_push_of_some _ q) (aj _) (a5u s.heap I.big),rfl,h _ (I.hok.fresh (aj _))⟩
end
def a3E:List (TE×TE)->St->Hp->(List (V×V)->Hp->Prop)->Prop
 |[],_,H,Q=>Q [] H
 |(tk,tv)::r,σ,H,Q=>tk σ H fun x H1=>tv σ H1 fun y H2=>a3E r σ H2 fun ps H3=>Q ((x,y)::ps) H3
abbrev VV:List (V×V)->List (Value×Value)->Prop:=Paired fun p q=>n9 p.1 q.1/\n9 p.2 q.2
def PPs(X:Cx)(pos:Pos)(keys:List (Option Expr))(values:List Expr)(trs:List (TE×TE)):Prop:=
 ∀(pins:List (Addr×Obj)) (s:Shared) (σ:St) (H:Hp) (Q:List (V×V)->Hp->Prop),Inv X pins σ H s->a3E trs σ H Q→
  wpAny (model X.prog X.w) X.A (evalPairs (pairTrees keys values X.env pos)) (fun vs s'=>∃ps H',Inv X pins σ H' s'/\VV ps vs/\Q ps H') X.xe s
theorem b1T:PPs X pos [] [] []:=fun pins s σ H Q I h=>pairTrees_nil_walk ⟨[],H,I,.nil,h⟩
variable{trs:List (TE×TE)}
theorem a9p{k v:Expr}{ks:List (Option Expr)}{vs:List Expr}{tk tv:TE}(hk:PE X k tk)(hv:PE X v tv)(hr:PPs X pos ks vs trs):
 PPs X pos (some k::ks) (v::vs) ((tk,tv)::trs):=fun pins s σ H Q I h=>
 pairTrees_cons_walk (thn (hk pins s σ H _ I h) fun u s1 ⟨x,H1,I1,rx,q1⟩=>thn (hv pins s1 σ H1 _ I1 q1) fun w2 s2 ⟨y,H2,I2,ry,q2⟩=>
  thn (hr pins s2 σ H2 _ I2 q2) fun ws s3 ⟨ps,H3,I3,rel,q3⟩=>⟨(x,y)::ps,H3,I3,.cons ⟨rx,ry⟩ rel,q3⟩)
def U8(kvs more:List (Key×V)):List (Key×V):=more.foldl (fun acc kv=>L1 acc kv.1 kv.2) kvs
theorem KV.merge:∀{more:List (Key×V)} {rs:List (Key×Value)} {kvs:List (Key×V)} {vs:List (Key×Value)},KV more rs->KV kvs vs->KV (U8 kvs more) (merged vs rs):=by
 intro more rs kvs vs r;unfold KV at r
 induction r generalizing kvs vs with
 |nil=>intro q;exact q
 | @cons p q ps qs h t ih=>
  intro r0
  have e:KV (L1 kvs p.1 p.2) (stored vs q.1 q.2):=by
   have:=r0.put p.1 h.2
   rw[←h.1];exact this
  exact ih e
theorem Q8:∀(more kvs:List (Key×V)),(U8 kvs more).length<=kvs.length+more.length
 |[],kvs=>by show kvs.length<=kvs.length+0;omega
 |p::r,kvs=>by
  have h1:=Q8 r (L1 kvs p.1 p.2);have h2:=X0 kvs p.1 p.2
  show(U8 (L1 kvs p.1 p.2) r).length<=_
  rw[length_cons];omega
theorem a2B{P:Program}{w:World}:∀{kvs:List (Key×V)} {ws:List (Value×Value)},VV (kvs.map fun kv=>(kV kv.1,kv.2)) ws->∃rs,Carries (v8 P w) ws rs/\KV kvs rs
 |[],_,r=>by rw[map_nil] at r;cases r;exact⟨[],True.intro,.nil⟩
 | p::kvs,_,r=>by
  rw[map_cons] at r
  cases r with
  | @cons a b as bs h t=>
   obtain⟨rs,c,q⟩:=a2B (P:=P) (w:=w) t;obtain⟨b1,b2⟩:=b;exact⟨(p.1,b2)::rs,⟨a0i h.1,rfl,c⟩,.cons ⟨rfl,h.2⟩ q⟩
def b6K(trs:List (TE×TE)):TE:=fun σ H Q=>∀p,H p=none->a3E trs σ (upd H p (.dK [])) fun ps H2=>H2 p=some (.dK [])/\∃kvs:List (Key×V),ps=kvs.map (fun kv=>(kV kv.1,kv.2))/\kvs.length<=15/\Q (.ref p) (upd H2 p (.dK (U8 [] kvs)))
theorem b2c{keys:List (Option Expr)}{values:List Expr}(h:PPs X pos keys values trs)(hall:keys.all (·.isSome)=true)(hl:keys.length=values.length)(h0:keys≠[])
 (h15:keys.length<=15):PE X (.Dict keys values pos) (b6K trs):=by
 intro pins s σ H Q I q;have hn:=I.hok.fresh (aj s.heap.objs.size);have I1:=I.laid (a:=s.heap.objs.size) (o:=.dK []) (h':=s.heap.push {cls:=.type "dict",data:=.dict #[]}) (t':=s.toks) (fun _ _ q=>Heap.get?_push_of_some _ q) (aj _) (a5u s.heap I.big)
 refine wpAny_Dict_walk (knd:=v8 X.prog X.w) hall hl h0 h15 (thn (h pins _ σ _ _ I1 (q _ hn)) fun ws s2 ⟨ps,H2,I2,rel,e,kvs,ep,lk,q2⟩=>?_)
 subst ep;obtain⟨rs,c,rk⟩:=a2B (P:=X.prog) (w:=X.w) rel;obtain⟨z,hd,vs0,r0,dd⟩:=b3C I2.hok e;cases r0;refine⟨rs,c,dd,fun h' dd' hs=>⟨.ref s.heap.objs.size,_,?_,rfl,q2⟩⟩
 have hz:(U8 [] kvs).length<=sizeLine:=by
  have h1:=Q8 kvs [];rw[length_nil] at h1;rw[sizeLine_eq];omega
 have he:∃q,h'.get? s.heap.objs.size=some q:=let⟨q,_,_,hq,_⟩:=dd';⟨q,hq⟩
 exact a4t I2 (by rw[e];exact True.intro) hs he (a6s hz hd (rk.merge .nil) dd')
end L2
namespace Att
open PySem PySem.W PySem.Calls PyProof.Rows
variable{P:Params}{h:Heap}
theorem a1A:∀(ns:List Int) (vs:List Value),WellAll P h vs (ns.map WData.int)->IntsAre vs ns:=by
 intro ns
 induction ns with
 |nil=>
  intro vs w;rw[map_nil] at w;cases w;exact .nil
 | cons n ns ih=>
  intro vs w;rw[map_cons] at w
  cases w with
  |cons a b=>
   cases a;exact .cons _ _ (ih _ b)
variable{l:OpenLaw}{n:Nat}
theorem a7I(hn:l.most=some n){args:List WData}{vals:List Value}
 (hpre:l.row.toRowW.claim.pre args=true) (hwl:WellAll P h vals args):
 ∃a vs ns,vals=[Value.ref a]/\args=[WData.list (ns.map WData.int)]/\h.get? a=some {cls:=.type "list",data:=.seq vs.toArray}/\IntsAre vs ns/\ns.length<=n:=by
 have hsh:WShape.hasAll [] args [.list .int]=true:=(pre_splitW hpre).1
 have hc:l.pre.holds [] {args:=args}=true:=(pre_splitW hpre).2
 obtain⟨d,r,rfl,h1,h2⟩:=hasAllW_cons hsh;obtain rfl:=hasAllW_nil h2;obtain⟨xs,rfl,h3⟩:=hasW_list h1;obtain⟨ns,rfl⟩:=items_int h3
 have hlen:ns.length<=n:=by
  unfold OpenLaw.pre at hc
  have h4:(WTm.not (.lt (.lit (.int (n:Int))) (.len (.arg 0)))).holds [] {args:=[.list (ns.map .int)]}=true:=by
   have h4:=(holds_andW hc).1;rw[hn] at h4;exact h4
  have h5:=condW_of h4 (w_not (w_lt w_lit (w_len_list (w_arg rfl))));rw[aa] at h5;refine aQ fun q=>?_
  have q':(n:Int)<((ns.length:Nat):Int):=by omega
  first
   |(rw[aX q'] at h5;exact absurd h5 (by decide))
   |(simp at h5;omega)
 cases hwl with
 |cons w1 w2=>
  cases w2
  cases w1 with
  |list ho hall=>exact⟨_,_,ns,rfl,rfl,ho,a1A ns _ hall,hlen⟩
theorem a7O(l:OpenLaw)(args:List WData):l.row.toRowW.claim.post args (.bool true) args=true:=
 postW_of (r:=l.row.toRowW) (X:=(true==true))
  (show WShape.has [] (.bool true) .bool=true by first|rfl|decide|simp[WShape.has,WShape.arms,WShape.armsAll])
  (show(WTm.eq .res (.lit (.bool true))).value [] {args:=args,res:=some (.bool true),after:=args}=some (.bool (true==true)) from w_eq_bool (w_res rfl) w_lit) rfl
variable{q:Program}{loose:List Str}{XP:(Str->Option Value)->Heap->Prop}{YP:World->Heap->Prop}{d:DefRec}
theorem a5H
 (hn:l.most=some n) (hdf:d.params.defaults=[])
 (call:∀(w:World) (s₀ s₁:Shared) (mg mb:Str->Option Value) (fa:Addr) (o:Obj) (pm cd doc:Value) (a:Addr) (vs:List Value) (ns:List Int),
  Ground q loose [] XP w s₀ mg mb s₁.heap->YP w s₁.heap→
  s₁.heap.get? fa=some o->o.data=.func (docDef d.name d.params d.body d.scope pm cd doc)->s₁.heap.CodeRec cd d.name->mg d.name=some (.ref fa)→
  s₁.heap.get? a=some {cls:=.type "list",data:=.seq vs.toArray}->IntsAre vs ns->ns.length<=n->s₁.gens= #[]→
  codeAny (model l.prog w) callerA (.call (.ref fa) ⟨[.ref a],[]⟩) (fun r s'=>r=.ok (.ret (.bool true))/\OldK s₁.heap s'.heap/\s'.os=s₁.os/\AllBare s'.gens) s₁):
 WalkO q loose XP YP l.row.toRowW d [] (fun f vs=>PySem.call f vs):=by
 intro w s₀ s₁ mg mb G Y fa o pm cd doc dV kV ho hd hcd hD hmg hg args vals as hpre hlay hrd hwl hlo;obtain rfl:dV=.none:=Dflts.none hD hdf;obtain rfl:kV=.none:=Dflts.noKw hD;obtain⟨a,vs,ns,rfl,rfl,hobj,hints,hlen⟩:=a7I hn hpre hwl;refine enter_call (codeAny_mono (call w s₀ s₁ mg mb fa o pm cd doc a vs ns G Y ho (fd_plain hd) hcd hmg hobj hints hlen hg) fun r s' hq=>?_)
 obtain⟨rfl,h2,h3,h4⟩:=hq;exact⟨.inl ⟨.bool true,.bool true,[],rfl,fun _=>rfl,.bool true,a7O l _,fun _=>⟨List.Pairwise.nil,fun _ hm=>(nomatch hm)⟩⟩,h2,h3,h4⟩
variable{f:Addr}{C:Addr}{x:Addr}{ox:Obj}{es:List DictEntry}{v:Value}{L:Addr}{o:Obj}{m:Str->Option Value}
end Att
namespace L2
open PySem PySem.Spec PyProof.Rows
theorem a2U:∀{vs:List Value} {ns:List Int},IntsAre vs ns->k8 (ns.map V.int) vs
 |_,_,.nil=>.nil
 |_,_,.cons n t h=>.cons ⟨t,rfl⟩ (a2U h)
def b1f(H:Hp):Prop:=∀b,H b=none∨∃o xs,H b=some (.frz o (.lst xs))
variable{P:Program}{w:World}{K:PySem.W.Frag}{mg:Str->Option Value}{CX:CXT}{a:Addr}{fd:FuncData}{x:Str}{sp:Sp}{ns:List Int}
theorem a9S{mb:Str->Option Value}{k:Nat}{fa:Addr}{s₁:Shared}{vs:List Value}
 (KX:K.In s₁.heap) (hns:s₁.heap.Ns mainGlobals mg) (hb:s₁.heap.Ns builtinsNs mb) (hbb:∀x:Str,x≠"__name__"->mb x=bootBuiltins x) (hlim:s₁.heap.NoLimit) (hg:s₁.gens= #[])
 (ha:s₁.heap.get? a=some {cls:=.type "list",data:=.seq vs.toArray}) (hi:IntsAre vs ns) (hl:ns.length<=sizeLine) (hr:Room k callerA)
 (F:∀base:Heap,K.In base->base.Ns mainGlobals mg->FnOk P w K mg base CX k fa fd [x] sp) (hbind:∀(s:Shared) (u:Value),BindsTo s fd ⟨[u],[]⟩ [(x,u)])
 (hsp:∀H:Hp,b1f H->SqL K H a (ns.map V.int)->sp [.ref a] H (fun v _=>v=.bl true) fun _ _ _=>False)
 (hCX:∀H e s',CX [] H s₁ (fun _ _ _=>False) e s'->False):
 codeAny (model P w) callerA (.call (.ref fa) ⟨[.ref a],[]⟩) (fun r s'=>r=.ok (.ret (.bool true))/\OldK s₁.heap s'.heap/\s'.os=s₁.os/\AllBare s'.gens) s₁:=by
 have rv:=a2U hi;have lenV:=hi.length
 -- from an abstract heap in which nothing but the script may be tracked
 have core:∀H:Hp,b1f H->SqL K H a (ns.map V.int)->HOk P w H s₁.heap->(∀b,H b≠none->b=a)->(H a≠none->K.lookup a=none)→
  codeAny (model P w) callerA (.call (.ref fa) ⟨[.ref a],[]⟩) (fun r s'=>r=.ok (.ret (.bool true))/\OldK s₁.heap s'.heap/\s'.os=s₁.os/\AllBare s'.gens) s₁:=by
  intro H hO hS hok hA hK
  have base_of:∀{b:Addr} {o:Obj},s₁.heap.get? b=some o->H b=none->(a4g s₁.heap H).get? b=some o:=fun e n=>b0c e n
  have noA:∀{b:Addr} {o:Obj} {es:Array DictEntry} {ep:Nat},s₁.heap.get? b=some o->o.data=.dict es ep->H b=none:=fun{b o es ep} e d=>by
   cases q:H b with
   |none=>rfl
   |some u=>
    have e':b=a:=hA b (by rw[q];simp)
    subst e';rw[ha] at e;cases e
    have d':Data.seq vs.toArray _=Data.dict es ep:=d
    cases d'
  have nsK:∀{b:Addr} {m:Str->Option Value},s₁.heap.Ns b m->(a4g s₁.heap H).Ns b m:=fun{b m} ⟨o,es,ep,e,d,r⟩=>⟨o,es,ep,base_of e (noA e d),d,r⟩
  have hKb:K.In (a4g s₁.heap H):=fun b o e=>base_of (KX b o e) (by
   cases q:H b with
   |none=>rfl
   |some u=>
    have e':b=a:=hA b (by rw[q];simp)
    subst e';rw[hK (by rw[q];simp)] at e;cases e)
  have hM:Mod K mg (a4g s₁.heap H):=⟨hKb,nsK hns,⟨mb,nsK hb,hbb⟩,let⟨mc,h1,h2⟩:=hlim;⟨mc,nsK h1,h2⟩⟩
  have e0:Env0 P w K mg (a4g s₁.heap H) callerA [] s₁ H:=⟨rfl,hM,fun b o e=>b2o e,Nat.le_of_eq (a8g _ _),trivial,fun b hb=>absurd (show b∈([]:List Addr) from hb) (by simp),hok,.of_eq hg⟩
  refine codeAny_mono ((F _ hKb (nsK hns)).run callerA [] s₁ H ⟨[.ref a],[]⟩ [.ref a] [.ref a] _ _ hr e0 (hbind s₁ (.ref a)) (.cons rfl .nil) (hsp H hO hS)) fun r s' h=>?_
  cases r with
  |error e=>exact(hCX H e s' h).elim
  | ok fl=>
   cases fl with
   |next=>exact False.elim h
   |brk=>exact False.elim h
   |cont=>exact False.elim h
   | ret u=>
    obtain⟨v,H',os,bare,un,hok',r',q⟩:=h
    have q':v=.bl true:=q
    subst q';obtain rfl:u=Value.bool true:=r';refine⟨rfl,OldK.of_keep fun b o e=>?_,os,bare⟩
    cases q:H b with
    |none=>exact un.keep b o e q (by intro z;exact absurd (show b∈([]:List Addr) from z) (by simp)) (by simp)
    |some u=>
     rcases hO b with z|⟨ob,xs,z⟩
     · rw[q] at z;cases z
     · have z2:=un.frzs b ob _ z;obtain⟨e1,_⟩:=hok b _ z;obtain⟨e2,_⟩:=hok' b _ z2;rw[e] at e1;cases e1
       exact e2
 cases hk:K.lookup a with
 |some o=>
  -- the script is one of the module's own objects
  have e:=KX a o hk;rw[ha] at e;cases e;refine core (fun _=>none) (fun _=>.inl rfl) (.inr ⟨_,vs.toArray,_,hk,rfl,rfl,rfl,by rw[size_toArray,lenV];exact hl,by simpa using rv⟩) (fun b u z=>by have z':(none:Option HO)=some u:=z;cases z') (fun b z=>absurd rfl z) fun z=>absurd rfl z
 |none=>
  refine core (fun b=>if b=a then some (.frz {cls:=.type "list",data:=.seq vs.toArray} (.lst (ns.map V.int))) else none) (fun b=>?_) (.inl (.inr ⟨{cls:=.type "list",data:=.seq vs.toArray},ay rfl⟩)) (fun b u z=>?_) (fun b z=>?_) fun _=>hk
  · by_cases hb:b=a
    · exact .inr ⟨_,_,ay hb⟩
    · exact .inl (az hb)
  · by_cases hb:b=a
    · have z':=(ay hb).symm.trans z
      cases z';subst hb;exact⟨ha,by rw[aa];exact hl,vs,_,rv,ha⟩
    · have z':=(az hb).symm.trans z
      cases z'
  · by_cases hb:b=a
    · exact hb
    · exact absurd (az hb) z
abbrev KOf{K:PySem.W.Frag}{h:Heap}(_:K.In h):PySem.W.Frag:=K
variable{n:Nat}{q:Program}{loose:List Str}{XP:(Str->Option Value)->Heap->Prop}{YP:World->Heap->Prop}
theorem b1m{l:PySem.W.OpenLaw}{k:Nat}{d:DefRec}{K:Params->PySem.W.Frag}{CX:World->CXT}{sp:World->Sp}
 (hn:l.most=some n) (hn2:n<=sizeLine) (hdf:d.params.defaults=[]) (hr:Room k callerA)
 (hY:∀(w:World) (h:Heap),YP w h->(K w.params).In h)
 (F:∀(w:World) (mg:Str->Option Value) (fa:Addr) (h:Heap),(K w.params).In h->h.Ns mainGlobals mg->mg d.name=some (.ref fa)→
  ∃fd:FuncData,(∀(s:Shared) (u:Value),BindsTo s fd ⟨[u],[]⟩ [(x,u)])∧
   ∀base:Heap,(K w.params).In base->base.Ns mainGlobals mg->FnOk l.prog w (K w.params) mg base (CX w) k fa fd [x] (sp w))
 (hsp:∀(w:World) (H:Hp) (a:Addr) (ns:List Int),ns.length<=n->b1f H->SqL (K w.params) H a (ns.map V.int)->sp w [.ref a] H (fun v _=>v=.bl true) fun _ _ _=>False)
 (hCX:∀(w:World) (H:Hp) (s:Shared) (e:Value) (s':Shared),CX w [] H s (fun _ _ _=>False) e s'->False):
 PySem.W.WalkO q loose XP YP l.row.toRowW d [] (fun f vs=>PySem.call f vs):=by
 refine Att.a5H hn hdf fun w s₀ s₁ mg mb fa o pm cd doc a vs ns G Y ho hd hcd hmg hobj hints hlen hg=>?_
 have KX:=hY w _ Y;obtain⟨fd,hb,hF⟩:=F w mg fa _ KX G.T.g hmg;exact a9S KX G.T.g G.T.b G.T.builtins G.T.nolimit hg hobj hints (aO hlen hn2) hr hF hb (fun H hO hS=>hsp w H a ns hlen hO hS) fun H e s'=>hCX w H s₁ e s'
noncomputable def a7e(s:Stmt)(j:Nat):Stmt:=match s with
 |.ClassDef _ _ _ body _ _ _ _ _ _ _=>body.getD j (.Pass ⟨0,0,0,0⟩)
 |_=>.Pass ⟨0,0,0,0⟩
noncomputable def M6(s:Stmt):Arguments:=match s with
 |.FunctionDef _ a _ _ _ _ _ _ _ _=>a
 |_=>{posonlyargs:=[],args:=[],vararg:=none,kwonlyargs:=[],kw_defaults:=[],kwarg:=none,defaults:=[]}
noncomputable def F9(s:Stmt):List Stmt:=match s with
 |.FunctionDef _ _ b _ _ _ _ _ _ _=>b
 |_=>[]
noncomputable def o4(s:Stmt):Scope:=match s with
 |.FunctionDef _ _ _ _ _ _ sc _ _ _=>sc
 |_=>{kind:=.function,names:=[],isGenerator:=false,isCoroutine:=false}
abbrev CX0:CXT:=fun _ _ _ _ _ _=>False
abbrev E0:XK:=fun _ _ _=>False
variable{X:Cx}
theorem b7i:V7 CX0 X E0:=fun _ _ _ _ _ _ _ h=>h.elim
structure Fun(K:PySem.W.Frag)(x qual:Str)(st:Stmt)(f:Addr)(fd:FuncData):Prop where
 ex:∃(oc:Value) (od:Option Addr) (kV doc pm:Value) (an:Option Addr) (cdv ct:Value) (osl:Array (Option Value)),
  fd=PySem.W.fnOf x qual (M6 st) (F9 st) (o4 st) .none kV doc pm an cdv ct/\K.lookup f=some ⟨oc,od,.func fd,osl⟩/\PySem.W.codeIn K cdv qual=true
 kp:PySem.W.keepIn K (.ref f)=true
variable{qual:Str}{st:Stmt}{N:List Str}{ps:List Str}{oc:Value}{od:Option Addr}{an:Option Addr}{osl:Array (Option Value)}{doc:Value}{pm:Value}{cdv:Value}{ct:Value}
section
variable{base:Heap}
theorem Fun.ok{f:Addr}{k:Nat}(F:Fun K x qual st f fd)(S:FnScope N ps (o4 st))(len:∀vs H Q E,sp vs H Q E->vs.length=ps.length)
 (hbody:∀(cdv:Value) (A:Around) (outer:List Env) (s:Shared) (H:Hp) (vs:List V) (Q:VK) (E:XK),Room k (A.deeper (envOfC qual (o4 st) s.heap.objs.size f cdv))->sp vs H Q E→
  ∃t,PSs (a1k CX0 P w K mg base N qual (o4 st) f cdv A outer s H E).nox (F9 st) t/\t {nx:=fun _ H'=>Q .non H',rt:=Q} (a0f N vs) H):FnOk P w K mg base CX0 (k+1) f fd ps sp:=by
 obtain⟨oc,od,kV,doc,pm,an,cdv,ct,osl,rfl,lk,hcd⟩:=F.ex;refine b3A lk hcd S len fun A outer s H vs Q E hr hsp=>?_
 obtain⟨t,h,q⟩:=hbody cdv A outer s H vs Q E hr hsp;exact⟨t,h.nox,q⟩
theorem Fun.binds{f:Addr}(F:Fun K x qual st f fd)
 (h:∀(kV doc pm:Value) (an:Option Addr) (cdv ct:Value) (us:List Value),us.length=ps.length->bindArgs (PySem.W.fnOf x qual (M6 st) (F9 st) (o4 st) .none kV doc pm an cdv ct) ⟨us,[]⟩=pure (ps.zip us)):J4 K fd ps []:=by
 obtain⟨oc,od,kV,doc,pm,an,cdv,ct,osl,rfl,lk,hcd⟩:=F.ex;exact .all (h kV doc pm an cdv ct)
theorem a6o{f:Addr}{kV:Value}(l:K.lookup f=some ⟨oc,od,.func (PySem.W.fnOf x qual (M6 st) (F9 st) (o4 st) .none kV doc pm an cdv ct),osl⟩)
 (c:PySem.W.codeIn K cdv qual=true) (k:PySem.W.keepIn K (.ref f)=true):Fun K x qual st f (PySem.W.fnOf x qual (M6 st) (F9 st) (o4 st) .none kV doc pm an cdv ct):=⟨⟨oc,od,kV,doc,pm,an,cdv,ct,osl,rfl,l,c⟩,k⟩
end
variable{A:Around}{pos:Pos}
section
theorem pv(i:Nat)(hN:X.N[i]? =some x:=by rfl)(hv:Vis X.env.scope x:=by first|exact Or.inl rfl|exact Or.inr (Or.inl rfl)|exact Or.inr (Or.inr rfl))(hd:(x==("__debug__":Str))=false:=by decide)
 (hcd:(x==("__classdict__":Str))=false:=by decide):PE X (.Name x pos) (b3T i):=a5X hN hv hd hcd
end
theorem b5e{A B:Prop}(h:B):if false=true then A else B:=by
 rw[az bh];exact h
theorem b5d{A B:Prop}(h:A):if true=true then A else B:=by
 rw[ay rfl];exact h
def b8S(H H':Hp):Prop:=∀b o,H b=some o->H' b=some o
variable{H:Hp}{H':Hp}
noncomputable def G3(cells:List (Str×Addr)):List (Str×NameKind)->List (Str×Addr)->List (Str×Addr)
 |[],acc=>acc
 |(n,k)::r,acc=>if k=NameKind.free then(match cells.lookup n with|some c=>G3 cells r ((n,c)::acc)|none=>G3 cells r acc) else G3 cells r acc
theorem T6{cells:List (Str×Addr)}{x:Str}{c:Addr}:∀{l:List (Str×NameKind)} {acc:List (Str×Addr)},(x,c)∈G3 cells l acc->(x,c)∈acc∨((x,NameKind.free)∈l/\cells.lookup x=some c)
 |[],_,h=>.inl h
 | (n, k)::r,acc,h=>by
  unfold G3 at h
  by_cases hk:k=NameKind.free
  · rw [ay hk] at h
    cases e:cells.lookup n with
    |none=>
     rw[e] at h
     rcases T6 h with q|⟨q,z⟩
     · exact .inl q
     · exact .inr ⟨aD _ q,z⟩
    |some d=>
     rw[e] at h
     rcases T6 h with q|⟨q,z⟩
     · rcases aE.mp q with q|q
       · cases q;exact .inr ⟨by rw[hk];exact aU,e⟩
       · exact .inl q
     · exact .inr ⟨aD _ q,z⟩
  · rw[az hk] at h
    rcases T6 h with q|⟨q,z⟩
    · exact .inl q
    · exact .inr ⟨aD _ q,z⟩
theorem a0c{cells:List (Str×Addr)}{p:Str×Addr}:∀{l:List (Str×NameKind)} {acc:List (Str×Addr)},p∈acc->p∈G3 cells l acc
 |[],_,h=>h
 | (n,k)::r,acc,h=>by
  unfold G3
  by_cases hk:k=NameKind.free
  · rw[ay hk]
    cases e:cells.lookup n with
    |none=>exact a0c h
    |some d=>exact a0c (aD _ h)
  · rw[az hk];exact a0c h
theorem a0P{cells:List (Str×Addr)}{x:Str}{c:Addr}(hc:cells.lookup x=some c):∀{l:List (Str×NameKind)} {acc:List (Str×Addr)},(x,NameKind.free)∈l->(x,c)∈G3 cells l acc
 | (n,k)::r,acc,h=>by
  unfold G3
  rcases aE.mp h with q|q
  · cases q;rw[ay rfl,hc];exact a0c aU
  · by_cases hk:k=NameKind.free
    · rw[ay hk]
      cases e:cells.lookup n with
      |none=>exact a0P hc q
      |some d=>exact a0P hc q
    · rw[az hk];exact a0P hc q
theorem a2O{cl:List (Str×Addr)}{c:Addr}:(∀d,(x,d)∈cl->d=c)->(x,c)∈cl->cl.lookup x=some c:=by
 induction cl with
 |nil=>intro _ h;cases h
 |cons p r ih=>
  intro ha h;obtain⟨n,d⟩:=p;rw[lookup_cons]
  by_cases e:x=n
  · subst e;rw[beq_self_eq_true];rw[ha d aU]
  · rw[show(x==n)=false from beq_eq_false_iff_ne.mpr e];refine ih (fun d' hd'=>ha d' (aD _ hd')) ?_
    rcases aE.mp h with q|q
    · cases q;exact absurd rfl e
    · exact q
variable{cells:List (Str×Addr)}{l:List (Str×NameKind)}
theorem a0M{c:Addr}(hl:(x,NameKind.free)∈l)(hc:cells.lookup x=some c):(G3 cells l []).lookup x=some c:=
 a2O (fun d hd=>by
  rcases T6 hd with q|⟨_,z⟩
  · cases q
  · rw[hc] at z;exact(ax z).symm) (a0P hc hl)
theorem M8{c:Addr}(h:(G3 cells l []).lookup x=some c):cells.lookup x=some c:=by
 rcases T6 (PySem.mem_of_lookup h) with q|⟨_,z⟩
 · cases q
 · exact z
theorem a0u{env:Env}{f:Str×NameKind->List (Str×Addr)->Sem (ForInStep (List (Str×Addr)))}
 (hf:∀n k r,f (n,k) r=if(k==NameKind.free)=true then(cellOf env n>>=fun a=>pure (ForInStep.yield ((n,a)::r))) else pure (ForInStep.yield r)):
 ∀(l:List (Str×NameKind)) (acc:List (Str×Addr)),(∀y∈l,y.2=NameKind.free->∃c,env.cells.lookup y.1=some c)->(forIn l acc f:Sem (List (Str×Addr)))=pure (G3 env.cells l acc)
 |[],acc,_=>rfl
 | (n,k)::r,acc,h=>by
  rw[List.forIn_cons,hf];unfold G3
  by_cases hk:k=NameKind.free
  · subst hk;obtain⟨c,hc⟩:=h (n,.free) aU rfl
    have hc':env.cells.lookup n=some c:=hc
    have e1:cellOf env n=pure c:=by unfold cellOf;rw[hc']
    rw[ay (beq_self_eq_true _),ay rfl,e1,hc'];simp only[pure_bind];exact a0u hf r _ fun y hy=>h y (aD _ hy)
  · have hb:¬(k==NameKind.free)=true:=fun z=>hk (by simpa using z)
    rw[az hb,az hk];simp only[pure_bind];exact a0u hf r _ fun y hy=>h y (aD _ hy)
variable{scope:Scope}{env:Env}
theorem a0m(h:∀y∈scope.names,y.2=NameKind.free->∃c,env.cells.lookup y.1=some c):closureFor scope env=pure (G3 env.cells scope.names []):=by
 unfold closureFor
 dsimp only
 rw[a0u (env:=env) (fun n k r=>by rfl) scope.names [] h]
 rfl
theorem a1q{k:NameKind}(h:(relabel scope env).names.lookup x=some k):(x,k)∈scope.names∨((x,NameKind.free)∈scope.names/\k=.cell):=by
 obtain⟨⟨n,k'⟩,hm,e⟩:=am.mp (PySem.mem_of_lookup h)
 dsimp only at e
 split at e
 · rename_i hc;cases e
   have hk:k'=NameKind.free:=by simp only[ae,beq_iff_eq] at hc;exact hc.1.1
   exact .inr ⟨hk▸hm,rfl⟩
 · cases e;exact .inl hm
theorem a0H{env:Env}:∀{names:List (Str×NameKind)} {x:Str},names.lookup x=some .free→
 (names.map fun(n,k)=>if(k==NameKind.free&&env.scope.kind==.function&&env.kindOf n==some .cell) then(n,NameKind.cell) else(n,k)).lookup x=some .cell∨
 (names.map fun(n,k)=>if(k==NameKind.free&&env.scope.kind==.function&&env.kindOf n==some .cell) then(n,NameKind.cell) else(n,k)).lookup x=some .free
 |[],_,h=>by simp at h
 | (n,k)::r,x,h=>by
  have ih:= @a0H env r x;rw[map_cons]
  cases hx:x==n with
  |true=>
   simp only[lookup_cons,hx] at h;cases h
   by_cases hc:(NameKind.free==NameKind.free&&env.scope.kind==.function&&env.kindOf n==some .cell)=true
   · refine .inl ?_;simp only[ay hc,lookup_cons,hx]
   · refine .inr ?_;simp only[az hc,lookup_cons,hx]
  |false=>
   simp only[lookup_cons,hx] at h
   by_cases hc:(k==NameKind.free&&env.scope.kind==.function&&env.kindOf n==some .cell)=true
   · simp only[ay hc,lookup_cons,hx];exact ih h
   · simp only[az hc,lookup_cons,hx];exact ih h
structure CompScope(sc scope:Scope)(own frees:List Str):Prop where
 kind:scope.kind=.function
 nocell:∀y∈scope.names,y.2≠.cell
 locs:∀y∈scope.names,y.2=.local->scope.names.lookup y.1=some .local
 out:∀y∈scope.names,y.2=.free->sc.names.lookup y.1=some .cell
 nd:(own++frees).Nodup
 ownL:∀x∈own,scope.names.lookup x=some .local
 fr:∀x∈frees,scope.names.lookup x=some .free
def p0(X:Cx)(own frees:List Str)(scope:Scope)(C:Addr)(s₀:Shared)(H₀:Hp)(ex:List Addr):Cx:=
 { prog:=X.prog,w:=X.w,K:=X.K,mg:=X.mg,base:=X.base,A:=X.A,N:=own++frees,s₀:=s₀,H₀:=H₀,env:=compEnvC scope (G3 X.env.cells scope.names []) C X.env,
   outer:=X.stack,stack:=X.stack,ex:=ex,fn:=fun _=>false,calm:=X.calm,pn:=[],xe:=fun _ _=>False}
noncomputable def C1(own:List Str)(js:List Nat)(σ:St):St:=own.map (fun _=>none)++js.map (fun j=>(σ[j]?).join)
def Wk(σ σ':St):Prop:=σ.length=σ'.length/\∀(i:Nat) (v:V),σ[i]? =some (some v)->σ'[i]? =some (some v)
variable{σ:St}{i:Nat}{v:V}
def a5I(X:Cx)(ifs:List Expr)(t:TT):Prop:=
 ∀(pins:List (Addr×Obj)) (s:Shared) (σ:St) (H:Hp) (Q:Bool->Hp->Prop),Inv X pins σ H s->t σ H Q→
  wpAny (model X.prog X.w) X.A (forIn ifs true fun c r=>if r=true then do let ok←isTrue c X.env (eval c X.env);pure (ForInStep.yield ok) else pure (ForInStep.yield r)) (TP X pins σ Q) X.xe s
theorem b1X:a5I X [] (fun _ H Q=>Q true H):=fun _ _ _ H _ I h=>wpAny_tests_nil ⟨H,I,h⟩
variable{c:Expr}
theorem b1W{t:TT}(h:PT X c t):a5I X [c] t:=fun pins s σ H Q I q=>wpAny_tests_one (h pins s σ H Q I q)
variable{iter:Expr}
section
variable{prog:Program}{R:Result->Shared->Prop}{s:Shared}
theorem a4u{elt target:Expr}{ifs:List Expr}{it acc:Value}(I:Nat->Shared->Prop)
 (turn:∀n s,I n s->wpAny (model prog w) A (pyNext it) (fun r s₁=>match r with
  |none=>R (.ok .next) s₁
  | some v=>wpAny (model prog w) A (letOwnedTupleGo target it v) (fun _ s₁'=>wpAny (model prog w) A (assign target env v) (fun _ s₂=>
   wpAny (model prog w) A (forIn ifs true fun c r=>if r=true then do let ok←isTrue c env (eval c env);pure (ForInStep.yield ok) else pure (ForInStep.yield r)) (fun ok s₃=>
    if ok=true then wpAny (model prog w) A (eval elt env) (fun x s₄=>
     wpAny (model prog w) A (call (.builtin "list.append") [acc,x]) (fun _ s₅=>∃m,m<n/\I m s₅) (fun _ _=>False) s₄) (fun _ _=>False) s₃
    else∃m,m<n/\I m s₃) (fun _ _=>False) s₂) (fun _ _=>False) s₁') (fun _ _=>False) s₁) (fun _ _=>False) s)
 (n:Nat) (h:I n s):codeAny (model prog w) A (.compLoop (.ListComp elt [⟨target,iter,ifs,0⟩] scope pos) 0 it acc env) R s:=by
 have no:∀{α:Type} {t:Sem α} {Q:α->Shared->Prop} {E:Value->Shared->Prop} {s:Shared},wpAny (model prog w) A t Q (fun _ _=>False) s->wpAny (model prog w) A t Q E s:=
  fun h=>wpAny_mono h (fun _ _ q=>q) fun _ _ z=>z.elim
 refine codeAny_loop rfl I (fun n s hI=>?_) n h
 show wpAny _ A ((compTurn (.ListComp elt [⟨target,iter,ifs,0⟩] scope pos) 0 it acc env).onRaise (fun x=>do noteFrame x env;theTreesLotGoes x)) _ _ s
 refine wpAny_noted ?_
 rw[compTurn_list];refine wpAny_bind (wpAny_standAt (wpAny_bind (no (wpAny_mono (turn n s hI) (fun r s₁ h₁=>?_) fun _ _ h'=>h'))))
 cases r with
 |none=>exact wpAny_pure h₁
 | some v=>
  refine wpAny_bind (no (wpAny_mono h₁ (fun _ s₁' h₁'=>?_) fun _ _ h'=>h'))
  refine wpAny_bind (no (wpAny_mono h₁' (fun _ s₂ h₂=>wpAny_bind (no (wpAny_mono h₂ (fun ok s₃ h₃=>?_) fun _ _ h'=>h'))) fun _ _ h'=>h'))
  cases ok with
  |false=>exact wpAny_pure ⟨rfl,h₃⟩
  |true=>
   exact wpAny_bind (wpAny_bind (no (wpAny_mono h₃ (fun x s₄ h₄=>wpAny_bind (no (wpAny_mono h₄ (fun _ s₅ h₅=>wpAny_pure (wpAny_pure ⟨rfl,h₅⟩)) fun _ _ h'=>h'))) fun _ _ h'=>h')))
end
variable{h:Heap}{h':Heap}
theorem HOk.sameBut(ok:HOk P w H h)(hn:H a=none)(hs:Heap.SameBut a h h'):HOk P w H h':=fun b ob e=>by
 refine(ok b ob e).stay (fun c w' hc q=>(hs.2 c ?_).trans q) (fun _ q=>q) fun _ _ q=>q
 rintro rfl
 rcases hc with rfl|hc
 · rw[hn] at e;cases e
 · rw[hn] at hc;cases hc
def a6A(own:List Str)(js:List Nat)(wi:TI)(g:TG)(tc:TT)(te:TE):TE:=fun σ H Q=>wi σ H fun J H1=>∀D,H1 D=none→
 ∃ W:Nat->Nat->List V->Hp->Prop,(∃m,W 0 m [] (upd H1 D (.lst [])))/\∀i m ys H2,W i m ys H2→
  (J.stop i H2/\Q (.ref D) H2)∨(J.go i H2/\∀x H3,J.yld i H2 x H3->g x (C1 own js σ) H3 fun σ4 H4=>Wk (C1 own js σ) σ4/\tc σ4 H4 fun b H5=>
   if b=true then te σ4 H5 fun y H6=>H6 D=some (.lst ys)/\ys.length<sizeLine/\∃m',m'<m/\W (i+1) m' (ys++[y]) (upd H6 D (.lst (ys++[y])))
   else∃m',m'<m/\W (i+1) m' ys H5)
variable{pins:List (Addr×Obj)}{s:Shared}{C:Addr}{fp:List Addr}{s':Shared}{m:Str->Option Value}
section
variable{elt tg:Expr}{ifs:List Expr}{own frees:List Str}{js:List Nat}{wi:TI}{g:TG}{tc:TT}{te:TE}
theorem b3h(I:Inv X pins σ H s)(S:CompScope X.env.scope scope own frees)(hC:s.heap.objs.size<=C)
 (hf:∀b∈fp,a1n X pins H b) (ho:∀b∈fp,∃o,s.heap.get? b=some o):(p0 X own frees scope C s H fp).Ok:=by
 have cellX:∀x c,(G3 X.env.cells scope.names []).lookup x=some c->X.env.cells.lookup x=some c:=fun x c e=>M8 e
 refine⟨I.ok.mod,S.kind,I.ok.glob,I.ok.blt,hC,fun x y c h1 h2=>I.ok.inj x y c (cellX x c h1) (cellX y c h2),fun x hx=>?_,fun x c h=>(bh h).elim,I.ok.hd,I.ok.frames,.inl rfl,fun b hb=>⟨?_,fun x c e=>(hf b hb).2.2.2.2.1 x c (cellX x c e)⟩,
  I.bs,aO I.ok.bsz I.sz,fun b o e hb=>?_,fun b hb hm=>?_,I.stack,I.stkFree⟩
 · have hx':(relabel scope X.env).names.lookup x=some .cell∨(relabel scope X.env).names.lookup x=some .free:=hx
   have hm:(x,NameKind.free)∈scope.names:=by
    rcases hx' with q|q
    · rcases a1q q with z|z
      · exact absurd rfl (S.nocell _ z)
      · exact z.1
    · rcases a1q q with z|z
      · exact z
      · exact z.1
   obtain⟨c,hc⟩:=I.ok.has x (.inl (S.out _ hm rfl));exact⟨c,a0M hm hc⟩
 · intro e;obtain⟨o,q⟩:=ho b hb
   have e':b=C:=e
   have:=Heap.lt_size q
   rw[e'] at this;exact absurd (aC this hC) (aN _)
 · rcases(hf b hb).2.2.2.1 with z|z
   · exact I.ok.noex b o e z
   · exact absurd (aC (aC (Heap.lt_size e) I.ok.bsz) z) (aN _)
 · rcases aE.mp (I.stkSub b hm) with z|z
   · exact(hf b hb).2.1 z
   · exact(hf b hb).2.2.1 z
theorem b0P (I:Inv X pins σ H s) (S:CompScope X.env.scope scope own frees) (hj:frees.map some=js.map (X.N[·]?)) (hC:s.heap.objs.size<=C)
 (hf:∀b∈fp,a1n X pins H b) (ho:∀b∈fp,∃o,s.heap.get? b=some o) (os:s'.os=s.os) (bare:AllBare s'.gens) (k:∀b o,s.heap.get? b=some o->s'.heap.get? b=some o) (un:Un (frs X.stack) fp H H' s.heap s'.heap)
 (hn:s'.heap.Ns C m) (hCn:H' C=none) (hok:HOk X.prog X.w H' s'.heap) (hcl:∀x c,X.env.cells.lookup x=some c->H' c=none):
 Inv (p0 X own frees scope C s H fp) [] (C1 own js σ) H' s':=by
 have hlen:frees.length=js.length:=by have:=congrArg List.length hj;simpa using this
 refine⟨b3h I S hC hf ho,os,bare,un,⟨m,hn,fun i x v h1 h2 h3=>?_⟩,fun x c e=>?_,hCn,fun x c e=>hcl x c (M8 e),fun p hp=>absurd (show p∈([]:List (Addr×Obj)) from hp) (by simp),hok,?_⟩
 · have h1':(own++frees)[i]? =some x:=h1
   unfold C1 at h2
   by_cases hi:i<own.length
   · rw[av (by simpa using hi),ak] at h2
     cases q:own[i]? with
     |none=>rw[q] at h2;cases h2
     |some z=>rw[q] at h2;cases h2
   · have hi':own.length<=i:=aQ hi
     rw[au hi'] at h1'
     rw[au (by simpa using hi'),aa,ak] at h2
     cases q:js[i-own.length]? with
     |none=>rw[q] at h2;cases h2
     | some j=>
      rw[q] at h2
      have h2':(σ[j]?).join=some v:=ax h2
      have hσ:σ[j]? =some (some v):=by
       cases z:σ[j]? with
       |none=>rw[z] at h2';cases h2'
       |some w'=>rw[z] at h2';exact congrArg some h2'
      have hX:X.N[j]? =some x:=by
       have e:=congrArg (fun l=>l[i-own.length]?) hj
       rw[ak,ak,h1',q] at e
       exact(ax e).symm
      have hm:(x,NameKind.free)∈scope.names:=PySem.mem_of_lookup (S.fr x (aF h1'))
      have ho':=S.out _ hm rfl
      obtain⟨m0,hn0,hl0⟩:=I.loc;obtain⟨u,ru,l⟩:=hl0 j x v hX hσ (.inr (.inl ho'));refine⟨u,ru,?_⟩
      rcases l with⟨q1,_⟩|⟨_,c,e,z⟩
      · have q1':X.env.scope.names.lookup x=some .local:=q1
        rw[ho'] at q1';cases q1'
      · refine .inr ⟨a0H (S.fr x (aF h1')),c,a0M hm e,?_⟩
        obtain⟨o,eo,d⟩:=z;exact⟨o,k c o eo,d⟩
 · obtain⟨v,o,eo,d⟩:=I.cell x c (M8 e);exact⟨v,o,k c o eo,d⟩
 · show(C1 own js σ).length=(own++frees).length
   unfold C1;rw[aq,aa,aa,aq,hlen]
end
variable{Q:Value->Shared->Prop}
section
def b9l:V->Option Int->Option Int->Hp->VK->Prop:=fun x lo hi H Q=>∃z,x=.str z/\z.length<=sizeLine/\Q (.str (Txt.slice z lo hi)) H
theorem b3Z:SlR X b9l:=by
 intro pins s σ H x v vl vu lo hi sl Q I rx hs pl pu h;obtain⟨z,rfl,hz,q⟩:=h;obtain⟨t,rfl⟩:=rx
 have fin:∀(t':Tok) (k:Nat),EP X pins σ Q (.str (Txt.slice z lo hi) t') {s with toks:=k}:=fun t' k=>⟨.str _,H,I.tok _,⟨_,rfl⟩,q⟩
 refine⟨"str",_,PySem.F.slot_str_getitem.lookup,typeIs_str _ _ _,?_⟩
 obtain⟨o,e1,e2,e3⟩:=hs
 cases pl with
 |none=>
  cases pu with
  |none=>exact wpAny_getItem_str_slice (l:=none) (u:=none) (st:=none) ⟨o,e1,e2,e3⟩ rfl (post_val_or_str ⟨aO (Txt.slice_le z _ _) hz,fun t' k=>fin t' k⟩)
  |int j uj=>exact wpAny_getItem_str_slice (l:=none) (u:=some (j,uj)) (st:=none) ⟨o,e1,e2,e3⟩ rfl (post_val_or_str ⟨aO (Txt.slice_le z _ _) hz,fun t' k=>fin t' k⟩)
 |int i ui=>
  cases pu with
  |none=>exact wpAny_getItem_str_slice (l:=some (i,ui)) (u:=none) (st:=none) ⟨o,e1,e2,e3⟩ rfl (post_val_or_str ⟨aO (Txt.slice_le z _ _) hz,fun t' k=>fin t' k⟩)
  |int j uj=>exact wpAny_getItem_str_slice (l:=some (i,ui)) (u:=some (j,uj)) (st:=none) ⟨o,e1,e2,e3⟩ rfl (post_val_or_str ⟨aO (Txt.slice_le z _ _) hz,fun t' k=>fin t' k⟩)
theorem a2T:∀l:List (Str×Tok),k8 ((l.map (·.1)).map V.str) (strValues l)
 |[]=>.nil
 |(x,t)::r=>.cons ⟨t,rfl⟩ (a2T r)
theorem a2W:∀{xs:List Str} {us:List Value},k8 (xs.map V.str) us->∃l:List (Str×Tok),us=strValues l/\l.map (·.1)=xs
 |[],us,r=>by
  rw[map_nil] at r;cases r;exact⟨[],rfl,rfl⟩
 | x::xs,us,r=>by
  rw[map_cons] at r
  cases r with
  |cons r1 r2=>
   obtain⟨t,rfl⟩:=r1;obtain⟨l,rfl,rfl⟩:=a2W r2;exact⟨(x,t)::l,rfl,rfl⟩
def b4g:V->List V->Hp->VK->Prop:=fun x vs H Q=>∃z y,x=.str z/\vs=[.str y]/\0<y.length/\z.length+2<=sizeLine/\∀p,H p=none->Q (.ref p) (upd H p (.lst ((Txt.split z y).map V.str)))
theorem a9H:MtR X "str.split" b4g:=by
 intro pins s σ H x vs v us Q I rx rv h;obtain⟨z,y,rfl,rfl,hy0,hz,q⟩:=h;obtain⟨t,rfl⟩:=rx;obtain⟨u,rfl,tu,rfl⟩:=rv.one
 have hy:(y.length==0)=false:=by
  rw[beq_eq_false_iff_ne];omega
 have fin:∀(l:List (Str×Tok)) (k:Nat),l.map (·.1)=Txt.split z y->EP X pins σ Q (.ref s.heap.objs.size) {s with toks:=k,heap:=s.heap.push {cls:=.type "list",data:=.seq (strValues l).toArray}}:=fun l k e=>by
  refine⟨.ref s.heap.objs.size,upd H s.heap.objs.size (.lst ((Txt.split z y).map V.str)),?_,rfl,q _ (I.hok.fresh (aj _))⟩
  refine I.laid (t':=k) (fun b o e=>Heap.get?_push_of_some _ e) (aj _) ⟨?_,strValues l,0,?_,Heap.get?_push_size _ rfl⟩
  · rw[aa];exact aO (split_le z y) hz
  · rw[←e];exact a2T l
 cases h1:(decide (z.length<y.length)||decide (Builtin.Str.strKind z<Builtin.Str.strKind y))
 · cases hf:(Builtin.Str.occurrences z y 0 z.length (z.length+1)).isEmpty
   · have es:Txt.split z y=Builtin.Str.partsBetween z (Builtin.Str.occurrences z y 0 z.length (z.length+1)) y.length:=(az (ne_true_of_eq_false h1)).trans (az (ne_true_of_eq_false hf))
     refine call_meets PySem.F.slot_str_split (typeIs_str _ _ _) PySem.F.entry_str_split (PySem.F.args_str_split_2 _ _) (meets_str_split_sep z y t tu h1 hy hf (by omega) (by rw[←es];exact aO (split_le z y) hz)) ?_
     show wants _ _ _ {s with toks:=_,heap:=s.heap.push {cls:=.type "list",data:=.seq (strsFrom s.toks (Builtin.Str.partsBetween z (Builtin.Str.occurrences z y 0 z.length (z.length+1)) y.length)).toArray}}
     rw[strsFrom_eq];exact fin (numbered s.toks _) _ ((numbered_texts _ _).trans es.symm)
   · exact call_meets PySem.F.slot_str_split (typeIs_str _ _ _) PySem.F.entry_str_split (PySem.F.args_str_split_2 _ _) (meets_str_split_not_found z y t tu h1 hy hf)
      (fin [(z,t)] s.toks ((az (ne_true_of_eq_false h1)).trans (ay hf)).symm)
 · exact call_meets PySem.F.slot_str_split (typeIs_str _ _ _) PySem.F.entry_str_split (PySem.F.args_str_split_2 _ _) (meets_str_split_cannot_occur z y t tu h1)
    (fin [(z,t)] s.toks (ay h1).symm)
def b1N:V->List V->Hp->VK->Prop:=fun x vs H Q=>∃z y,x=.str z/\vs=[.str y]/\Q (.bl (Txt.startswith z y)) H
theorem a7V:MtR X "str.startswith" b1N:=by
 intro pins s σ H x vs v us Q I rx rv h;obtain⟨z,y,rfl,rfl,q⟩:=h;obtain⟨t,rfl⟩:=rx;obtain⟨u,rfl,tu,rfl⟩:=rv.one;exact call_gives PySem.F.slot_str_startswith (typeIs_str _ _ _) PySem.F.entry_str_startswith (PySem.F.args_str_startswith_2 _ _) (gives_str_startswith z y t tu) ⟨.bl _,H,I,rfl,q⟩
def b7a(K:PySem.W.Frag):V->List V->Hp->VK->Prop:=fun x vs H Q=>∃z p ts,x=.str z/\vs=[.ref p]/\SqL K H p (ts.map V.str)/\JoinOk z ts=true/\Q (.str (Txt.join z ts)) H
theorem b2s:MtR X "str.join" (b7a X.K):=by
 intro pins s σ H x vs v us Q I rx rv h;obtain⟨z,p,ts,rfl,rfl,hp,hok,q⟩:=h;obtain⟨t,rfl⟩:=rx;obtain⟨u,rfl,ru⟩:=rv.one;cases ru;obtain⟨its,r,pl,hz⟩:=I.list hp;obtain⟨l,rfl,e⟩:=a2W r;exact SC.join pl.isList e hok fun t' k=>⟨.str _,H,I.tok _,⟨_,rfl⟩,q⟩
theorem a5E:∀{bs:List Bool} {us:List Value},k8 (bs.map V.bl) us->us=bs.map Value.bool
 |[],us,r=>by
  rw[map_nil] at r;cases r;rfl
 | b::bs,us,r=>by
  rw[map_cons] at r
  cases r with
  |cons r1 r2=>
   cases r1;rw[a5E r2];rfl
theorem a7M(bs:List Bool)(p:Bool->Bool):(List.range bs.length).all (fun i=>p (bs.getD i true))=bs.all p:=by
 induction bs with
 |nil=>rfl
 |cons b r ih=>
  rw[length_cons,List.range_succ_eq_map,all_cons,all_map,all_cons,←ih];rfl
theorem a7L(bs:List Bool)(p:Bool->Bool):(List.range bs.length).any (fun i=>p (bs.getD i true))=bs.any p:=by
 induction bs with
 |nil=>rfl
 |cons b r ih=>
  rw[length_cons,List.range_succ_eq_map,any_cons,List.any_map,any_cons,←ih];rfl
theorem a3x{p:Addr}{bs:List Bool}(hc:X.calm=true)(I:Inv X pins σ H s)(hp:SqL X.K H p (bs.map V.bl)){E:Value->Shared->Prop}{f:(Nat->Bool)->Bool}
 (hq:∀s',Inv X pins σ H s'->Q (.bool (f fun i=>bs.getD i true)) s'):
 wpAny (model X.prog X.w) X.A.in1 (pyIter (.ref p)) (fun it s₂=>∃I fp wr n P St tr,it=.ref I/\Walks X.prog X.w X.A.in1 I fp wr n P St/\St 0 s₂.heap/\TruthOf X.prog X.w X.A.in1 P tr/\n=bs.length∧
  ∀h' tk,(∀b o,b∉wr->s₂.heap.get? b=some o->h'.get? b=some o)->Q (.bool (f tr)) {s₂ with heap:=h',toks:=tk}) E s:=by
 obtain⟨its,r,pl,hz⟩:=I.list hp;have e:=a5E r;subst e
 have hne:p≠s.heap.objs.size:=by
  obtain⟨o,n,e,_⟩:=pl;exact Nat.ne_of_lt (Heap.lt_size e)
 refine wpAny_pyIter_list pl.isList ⟨s.heap.objs.size,_,_,_,_,_,fun i=>bs.getD i true,rfl,Walks.list (A:=X.A.in1) (I.ok.hd hc) s.heap.objs.size p hne (bs.map Value.bool).toArray,⟨⟨_,Heap.get?_push_size _ rfl,rfl,rfl⟩,?_⟩,?_,?_,?_⟩
 · exact pl.isList.at fun o e=>Heap.get?_push_of_some _ e
 · intro i v s' Q' E' hP hQ
   have hP':(bs.map Value.bool).toArray[i]? =some v:=hP
   rw[List.getElem?_toArray,ak] at hP'
   cases q:bs[i]? with
   |none=>rw[q] at hP';cases hP'
   |some b=>
    rw[q] at hP';cases hP'
    have:bs.getD i true=b:=by rw[bo,q];rfl
    have hQ':Q' b s':=this▸hQ
    exact wpAny_truthy_bool hQ'
 · simp
 · intro h' tk k
   exact hq _ (I.kept fun b o e=>k b o (by
    have:=Nat.ne_of_lt (Heap.lt_size e)
    simpa using this) (Heap.get?_push_of_some _ e))
theorem b0U(hc:X.calm=true):E9 X (.builtin "all") (fun xs H Q=>∃(p:Addr) (bs:List Bool),xs=[.ref p]/\SqL X.K H p (bs.map V.bl)/\Q (.bl (bs.all id)) H):=by
 intro pins s σ H xs us Q I r h;obtain⟨p,bs,rfl,hp,q⟩:=h;obtain⟨u,rfl,ru⟩:=S9 r;cases ru;refine call_all_walk (thn (a3x (f:=fun tr=>(List.range bs.length).all tr) (Q:=EP X pins σ Q) hc I hp fun s' I'=>⟨.bl (bs.all id),H,I',?_,q⟩) fun it s2 ⟨i,fp,wr,n,P,St,tr,e1,e2,e3,e4,e5,e6⟩=>⟨i,fp,wr,n,P,St,tr,e1,e2,e3,e4,?_⟩)
 · show Value.bool _=Value.bool _
   exact congrArg Value.bool (a7M bs id)
 · subst e5;exact e6
theorem b0T(hc:X.calm=true):E9 X (.builtin "any") (fun xs H Q=>∃(p:Addr) (bs:List Bool),xs=[.ref p]/\SqL X.K H p (bs.map V.bl)/\Q (.bl (bs.any id)) H):=by
 intro pins s σ H xs us Q I r h;obtain⟨p,bs,rfl,hp,q⟩:=h;obtain⟨u,rfl,ru⟩:=S9 r;cases ru;refine call_any_walk (thn (a3x (f:=fun tr=>(List.range bs.length).any tr) (Q:=EP X pins σ Q) hc I hp fun s' I'=>⟨.bl (bs.any id),H,I',?_,q⟩) fun it s2 ⟨i,fp,wr,n,P,St,tr,e1,e2,e3,e4,e5,e6⟩=>⟨i,fp,wr,n,P,St,tr,e1,e2,e3,e4,?_⟩)
 · show Value.bool _=Value.bool _
   exact congrArg Value.bool (a7L bs id)
 · subst e5;exact e6
theorem a4z:E9 X (.type "int") (fun xs H Q=>∃z n,xs=[.str z]/\z.length<=640/\PySem.intText? z=some n/\Q (.int n) H):=by
 intro pins s σ H xs us Q I r h;obtain⟨z,n,rfl,hz,hn,q⟩:=h;obtain⟨u,rfl,t,rfl⟩:=S9 r;exact PySem.W.KIN.call_text hn hz ⟨.int n,H,I.tok _,⟨_,rfl⟩,q⟩
end
variable{o:HO}
section
theorem Inv.turnedF{t':Nat}(I:Inv X pins σ H s)(hf:∀b∈fp,a1n X pins H b)(k:∀b u,b∉fp->s.heap.get? b=some u->h'.get? b=some u):Inv X pins σ H {s with heap:=h',toks:=t'}:=by
 have nit:∀b u,H b=some u->b∉fp:=fun b u e z=>by rw[(hf b z).1] at e;cases e
 refine I.step (g':=s.gens) (d':=s.drawn) (ch:=fp) (fun b hb=>⟨(hf b hb).2.2.2.1,(hf b hb).2.1,(hf b hb).2.2.2.2.1,(hf b hb).2.2.2.2.2⟩) (fun b o _ _ hc e _=>k b o hc e) (fun b o _ _ hc e _=>⟨o.slots,k b o hc e⟩) (fun _ _ _ _ n=>n)
  (fun b o hc e=>⟨o,k b o hc e⟩) (fun _ _ e=>e) (fun _ _ _ e=>e) (fun b ps e=>⟨#[],by rw[e];simp⟩) (fun m hm=>?_) (fun b u e=>?_) I.bare
 · obtain⟨o,es,ep,ho,r⟩:=hm;exact⟨o,es,ep,k _ o (fun z=>(hf _ z).2.1 rfl) ho,r⟩
 · refine(I.hok b u e).stay (fun c v hc q=>k c v ?_ q) (fun _ q=>q) fun _ _ q=>q
   rcases hc with z|z
   · rw[z];exact nit b u e
   · exact nit c _ z
theorem Inv.turnedN{t':Nat}{T:Addr}(I:Inv X pins σ H s)(hf:∀b∈fp,a1n X pins H b)(k:∀b u,b∉fp->s.heap.get? b=some u->h'.get? b=some u)(hT:s.heap.objs.size<=T)(new:v7 X.prog X.w (upd H T o) h' T o):
 Inv X pins σ (upd H T o) {s with heap:=h',toks:=t'}:=by
 have hn:H T=none:=I.hok.fresh hT
 have nit:∀b u,H b=some u->b∉fp:=fun b u e z=>by rw[(hf b z).1] at e;cases e
 have ne:∀b u,s.heap.get? b=some u->b≠T:=fun b u e=>Nat.ne_of_lt (aC (Heap.lt_size e) hT)
 have up:∀b u,H b=some u->upd H T o b=some u:=fun b u e=>by rw[g9 (o0 e hn)];exact e
 refine I.step (g':=s.gens) (d':=s.drawn) (ch:=fp) (fun b hb=>⟨(hf b hb).2.2.2.1,(hf b hb).2.1,(hf b hb).2.2.2.2.1,(hf b hb).2.2.2.2.2⟩) (fun b u _ _ hc e _=>k b u hc e) (fun b u _ _ hc e _=>⟨u.slots,k b u hc e⟩) (fun b u _ e n=>by rw[g9 (ne b u e)];exact n)
  (fun b u hc e=>⟨u,k b u hc e⟩) (fun b xs e=>up b _ e) (fun b u xs e=>up b _ e) (fun b ps e=>⟨#[],by rw[up b _ e];simp⟩) (fun m hm=>?_) (fun b u e=>?_) I.bare
 · obtain⟨u,es,ep,ho,r⟩:=hm;exact⟨u,es,ep,k _ u (fun z=>(hf _ z).2.1 rfl) ho,r⟩
 · by_cases hb:b=T
   · subst hb;rw[c9] at e;cases e;exact new
   · rw[g9 hb] at e;refine(I.hok b u e).stay (fun c v hc q=>k c v ?_ q) (fun c q=>up c _ q) fun c xs q=>up c _ q
     rcases hc with z|z
     · rw[z];exact nit b u e
     · exact nit c _ z
end
noncomputable def Its(x:Str):It:=⟨fun i _=>i<x.cps.size,fun i H v H'=>H'=H/\∃c,x.cps[i]? =some c/\v=.str ⟨#[c]⟩,fun i _=>i=x.cps.size⟩
variable{tg:Expr}
theorem a4N{K:PySem.W.Frag}{ty:String}(x:Str)(t:Tok)(it:Addr)(hty:["enumerate","zip","dict_itemiterator","dict_reverseitemiterator","odict_iterator","itertools.zip_longest","itertools.pairwise"].contains ty=false)
 (W:∀A:Around,A.handled=none->Walks P w A it [it] [it] x.cps.size (SignAt x) (fun i h=>h.IsStrIter it ty x t i))
 (Sf:∀(A:Around) (i:Nat) (s:Shared) (Q:Value->Shared->Prop) (E:Value->Shared->Prop),s.heap.IsStrIter it ty x t i->Q (.ref it) s->wpAny (model P w) A (pyIter (.ref it)) Q E s):Turn P w K tg (Its x) [it] it (fun i h=>h.IsStrIter it ty x t i) where
 mem:=by simp
 obj:=fun i h st b hb=>by
  have e:b=it:=by simpa using hb
  subst e;obtain⟨o,e,c,d⟩:=st;exact⟨o,e,fun v z=>by rw[d] at z;cases z⟩
 keep:=fun i h h' st k=>let⟨o,e,r⟩:=st;⟨o,k it (by simp) o e,r⟩
 item:=by
  intro X hP hw hK hc i pins s σ H E I hf st hg;subst hP hw hK;refine(W X.A (I.ok.hd hc)).item i s _ _ hg st fun v h' tk hv st' kk=>?_
  obtain⟨c,u,hcx,rfl⟩:=hv
  have I1:Inv X pins σ H {s with heap:=h',toks:=tk}:=I.turnedF hf fun b o hb e=>kk b o hb e
  obtain⟨o,e,hcl,d⟩:=id st';exact⟨_,rfl,a7h (s:={s with heap:=h',toks:=tk}) e hcl d hty ⟨.str ⟨#[c]⟩,H,I1,⟨u,rfl⟩,⟨rfl,c,hcx,rfl⟩,st',fun b hb=>(hf b hb).1⟩⟩
 done:=by
  intro X hP hw hK hc i pins s σ H E I hf st hg;subst hP hw hK
  have hg':i=x.cps.size:=hg
  subst hg';exact(W X.A (I.ok.hd hc)).done s _ _ st fun h' tk k=>⟨rfl,I.turnedF (t':=tk) hf fun b o hb e=>k b o hb e⟩
 self:=fun A i s Q E st h=>Sf A i s Q E st h
variable{tb:TS}
section
def b9A(tl:TE):TI:=fun σ H R=>tl σ H fun x H1=>∃z,x=.str z/\R (Its z) H1
theorem b4u{l:Expr}{tl:TE}(hl:PE X l tl):PI X tg l (b9A tl):=by
 intro pins s σ H R I h;refine thn (hl pins s σ H _ I h) fun v s1 ⟨x,H1,I1,r1,z,e,q⟩=>?_
 subst e;obtain⟨t,rfl⟩:=r1
 have fp:∀b∈[s1.heap.objs.size],a1n X pins H1 b:=fun b hb=>by
  have e:b=s1.heap.objs.size:=by simpa using hb
  subst e;exact I1.fpOk (aj _) (I1.hok.fresh (aj _))
 cases ha:z.cps.all (· <128)
 · exact wpAny_pyIter_wide ha ⟨s1.heap.objs.size,[s1.heap.objs.size],_,_,H1,rfl,I1.kept (t':=s1.toks) fun b o e=>Heap.get?_push_of_some _ e,a4N (ty:="str_iterator") z t _ (by decide) (fun A hA=>Walks.strWide hA _ z t) (fun A i s Q E st h=>wpAny_pyIter_striter_wide st h),
    ⟨_,Heap.get?_push_size _ rfl,rfl,rfl⟩,fp,q⟩
 · exact wpAny_pyIter_ascii ha ⟨s1.heap.objs.size,[s1.heap.objs.size],_,_,H1,rfl,I1.kept (t':=s1.toks) fun b o e=>Heap.get?_push_of_some _ e,a4N (ty:="str_ascii_iterator") z t _ (by decide) (fun A hA=>Walks.strAscii hA _ z t) (fun A i s Q E st h=>wpAny_pyIter_striter_ascii st h),
    ⟨_,Heap.get?_push_size _ rfl,rfl,rfl⟩,fp,q⟩
end
def Ite(K:PySem.W.Frag)(l:Addr):It:=⟨fun i H=>∃xs x,SqL K H l xs/\xs[i]? =some x,fun i H v H'=>∃T x,H T=none/\v=.ref T/\(∀xs,SqL K H l xs->xs[i]? =some x)/\H'=upd H T (.tup [.int i,x]),fun i H=>∃xs,SqL K H l xs/\xs.length<=i⟩
variable{elts:List Expr}
theorem a7C{k:Nat}(e it l:Addr)(hei:e≠it):
 Turn P w K (.Tuple elts k pos) (Ite K l) [e,it] e (fun i h=>(∃old,IsEnum h e it i old)/\h.IsListIter it l i) where
 mem:=by simp
 obj :=fun i h st b hb=>by
  obtain⟨⟨old,he⟩,o,e1,c,d⟩:=st
  rcases aE.mp hb with z|z
  · subst z
    exact⟨_,he,fun v z=>by
     have z':Data.fields _=Data.cell v:=z
     cases z'⟩
  · have z':b=it:=by simpa using z
    subst z';exact⟨o,e1,fun v z=>by rw[d] at z;cases z⟩
 keep:=fun i h h' st k=>by
  obtain⟨⟨old,he⟩,hit⟩:=st;exact⟨⟨old,k e (by simp) _ he⟩,hit.at fun o x=>k it (by simp) o x⟩
 item:=by
  intro X hP hw hK hc i pins s σ H E I hf st hg;subst hP hw hK;obtain⟨⟨old,he⟩,hit⟩:=st;obtain⟨xs,x,hq,hx⟩:=hg;obtain⟨its,rv,p,hz⟩:=I.list hq;obtain⟨u,hu,ru⟩:=rv.get hx
  have helt:e<s.heap.objs.size:=Heap.lt_size he
  refine wpAny_pyNext_enum_item he hit p.isList (x:=u) (by simpa using hu) hei fun h' ho hit' hT hsz hk=>?_
  refine⟨_,rfl,wpAny_letOwnedTupleGo_enum ho fun h2 he2 hs2=>?_⟩
  have kk:∀b o,b∉[e,it]->s.heap.get? b=some o->h2.get? b=some o:=fun b o hb q=>by
   have h1:b≠e:=fun z=>hb (by simp[z])
   have h2':b≠it:=fun z=>hb (by simp[z])
   exact(hs2.2 b h1).trans (hk b o h1 h2' q)
  have hT2:h2.get? s.heap.objs.size=some {cls:=.type "tuple",data:=.seq #[.int i s.toks,u]}:=(hs2.2 _ (Nat.ne_of_gt helt)).trans hT
  have I1:Inv X pins σ (upd H s.heap.objs.size (.tup [.int i,x])) {s with heap:=h2,toks:=s.toks+1}:=
   I.turnedN (fp:=[e,it]) hf kk (aj _) ⟨by show 2<=sizeLine;decide,[.int i s.toks,u],.cons ⟨_,rfl⟩ (.cons ru .nil),_,hT2,rfl,rfl,_,rfl⟩
  refine⟨.ref s.heap.objs.size,_,I1,rfl,⟨s.heap.objs.size,x,I.hok.fresh (aj _),rfl,fun ys hy=>by rw[I.list_inj hy hq];exact hx,rfl⟩,⟨⟨_,by simpa using he2⟩,hit'.at fun o x=>(hs2.2 it (Ne.symm hei)).trans x⟩,fun b hb=>?_⟩
  have hbs:b<s.heap.objs.size:=by
   rcases aE.mp hb with z|z
   · rw[z];exact helt
   · have z':b=it:=by simpa using z
     rw[z'];obtain⟨o,e1,_⟩:=hit;exact Heap.lt_size e1
  rw[g9 (Nat.ne_of_lt hbs)];exact(hf b hb).1
 done:=by
  intro X hP hw hK hc i pins s σ H E I hf st hg;subst hP hw hK;obtain⟨⟨old,he⟩,hit⟩:=st;obtain⟨xs,hq,hx⟩:=hg;obtain⟨its,rv,p,hz⟩:=I.list hq;have hl:=rv.length;exact wpAny_pyNext_enum_end (I.ok.hd hc) he hit p.isList (by simp;omega) fun h' eb=>⟨rfl,I.turnedF (t':=s.toks) hf fun b o hb q=>eb b o (fun z=>hb (by simp[z])) q⟩
 self:=fun A i s Q E st h=>by
  obtain⟨⟨old,he⟩,_⟩:=st;exact wpAny_pyIter_enum he h
variable{ta:TA}{p:Pos}
section
variable{k:Nat}{tpos:Pos}
def b7A(K:PySem.W.Frag)(ta:TA):TI:=fun σ H R=>ta σ H fun vs H1=>∃l xs,vs=[.ref l]/\SqL K H1 l xs/\R (Ite K l) H1
theorem b1Y{a:Expr}(hg:Gl X "enumerate")(hm:X.mg "enumerate"=none)(ha:PA X [a] ta)(hs:starEach [a] X.env=[(false,eval a X.env)]:=by rfl):
 PI X (.Tuple elts k tpos) (.Call (.Name "enumerate" p) [a] [] pos) (b7A X.K ta):=by
 intro pins s σ H R I h;refine Call_ (X1 I hg hm boot_enumerate (PyProof.Rows.callWith_type1 (thn (ha pos pins s σ H _ I h) fun us s1 ⟨vs,H1,I1,r1,q1⟩=>?_) hs rfl))
 obtain⟨l,xs,e,hq,q⟩:=q1;subst e;obtain⟨u,rfl,ru⟩:=S9 r1;cases ru;obtain⟨its,rv,pl,hz⟩:=I1.list hq;refine call_enumerate_list pl.isList fun h' he hit hsz hk=>?_
 have I2:Inv X pins σ H1 {s1 with heap:=h'}:=I1.kept (t':=s1.toks) hk
 refine wpAny_pyIter_enum he ⟨s1.heap.objs.size+1,[s1.heap.objs.size+1,s1.heap.objs.size],_,_,H1,rfl,I2,a7C (s1.heap.objs.size+1) s1.heap.objs.size l (Nat.ne_of_gt (aP _)),⟨⟨_,he⟩,hit⟩,fun b hb=>?_,q⟩
 have hb':s1.heap.objs.size<=b:=by
  rcases aE.mp hb with z|z
  · rw[z];exact Nat.le_succ _
  · have z':b=s1.heap.objs.size:=by simpa using z
    rw[z'];exact aj _
 exact I1.fpOk hb' (I1.hok.fresh hb')
end
end L2
namespace L2X
open PySem
open Sem (wp)
inductive OwnT(h:Heap)(bmB:List Value)(ns:List Str):List Value->Prop
 |base:OwnT h bmB ns bmB
 |own {K:Addr} {kc:Value} {kd:Option Addr} {cd:ClassData} {sl:Array (Option Value)} {mK:Str->Option Value} {up:List Value}:
  h.get? K=some {cls:=kc,dict:=kd,data:=.cls cd,slots:=sl}->h.Ns cd.ns mK->(∀n∈ns,mK n=none)->OwnT h bmB ns up->OwnT h bmB ns (.ref K::up)
variable{h:Heap}{h':Heap}{a:Addr}
theorem b1g{m:Str->Option Value}(k:∀b o,h.get? b=some o->h'.get? b=some o):h.Ns a m->h'.Ns a m
 |⟨o,es,ep,e,r⟩=>⟨o,es,ep,k _ _ e,r⟩
variable{bmB:List Value}{up:List Value}{ns:List Str}
theorem OwnT.tail(T:OwnT h bmB ns up)(hn:("__init__":Str)∈ns):OwnTail h bmB up:=by
 induction T with
 |base=>exact .base
 |own a b c _ ih=>exact .own a b (c _ hn) ih
theorem OwnT.has{X:String}{b:Bool}(T:OwnT h bmB ns up)(hb:bmB.contains (.type X)=b):up.contains (.type X)=b:=by
 induction T with
 |base=>exact hb
 |own _ _ _ _ ih=>rw[contains_cons,ih];rfl
theorem OwnT.refuse{self:Value}{what:Str}(T:OwnT h bmB ns up)(hb:refuseLoop self what bmB=pure ()):refuseLoop self what up=pure ():=by
 induction T with
 |base=>exact hb
 |own _ _ _ _ ih=>rw[refuseLoop_ref];exact ih
structure ECl(h:Heap)(C N:Addr)(mN:Str->Option Value)(bm:List Value)(nid:String):Prop where
 obj:∃nm q bs sn sub ab col dd k0 k1 k2 k3 k5,h.get? C=some (excClassObj nm q C N bs bm true sn sub ab col dd k0 k1 k2 k3 k5 nid)
 names:h.Ns N mN
variable{N:Addr}{mN:Str->Option Value}{bm:List Value}{nid:String}
abbrev a0Q(C t:Addr):Obj:={cls:=.ref C,data:=.fields #[.ref t,.none,.none,.none,.bool false,.none]}
abbrev a0X(vs:List Value):Obj:={cls:=.type "tuple",data:=.seq vs.toArray}
variable{y:Option Value}
section
variable{M:Model}{A:Around}{E:Value->Shared->Prop}{g:Array GenState}{d:Drawn}{t:Nat}{os:OsState}{C:Addr}{B:String}{n:Str}
theorem b8w{Q:Option Value->Shared->Prop}(hn:n∈ns)(T:OwnT h bmB ns up)(hb:lookupAlong bmB n=pure y)(hq:Q y ⟨h,g,d,t,os⟩):wpAny M A (lookupAlong up n) Q E ⟨h,g,d,t,os⟩:=by
 induction T with
 |base=>rw[hb];exact wpAny_pure hq
 |own a b c _ ih=>
  rw[lookupAlong_cons];refine wpAny_bind (wpAny_classOwn_cls a b ?_)
  rw[c n hn];exact ih
theorem a1w{Q:Option Value->Shared->Prop}(c:ECl h C N mN bm nid)(hn:n∈ns)(T:OwnT h bmB ns bm)(hm:mroOf (.type B)=pure bmB)(hB:typeLookup (.type B) n=pure y){z:Option Value}(hz:(match mN n with|some v=>some v|none=>y)=z)
 (hq:Q z ⟨h,g,d,t,os⟩):wpAny M A (typeLookup (.ref C) n) Q E ⟨h,g,d,t,os⟩:=by
 obtain⟨⟨a1,a2,a3,a4,a5,a6,a7,a8,b0,b1,b2,b3,b5,e⟩,hN⟩:=c
 have hb:lookupAlong bmB n=pure y:=by rw[typeLookup_eq,hm] at hB;exact hB
 subst hz;rw[typeLookup_eq];refine wpAny_bind (wpAny_mroOf_exc e ?_)
 rw[lookupAlong_cons];refine wpAny_bind (wpAny_classOwn_exc e hN ?_)
 cases q:mN n with
 |none=>rw[q] at hq;exact b8w hn T hb hq
 |some v=>rw[q] at hq;exact wpAny_pure hq
end
variable{fI:Addr}{oI:Obj}{sa:String}{owner:String}{x:Addr}{o:Obj}{mA:Str->Option Value}{v:Value}{ks:List Str}{Q:Unit->Shared->Prop}
section
variable{prog:Program}{w:World}{A:Around}{E:Value->Shared->Prop}{g:Array GenState}{d:Drawn}{t:Nat}{os:OsState}{C:Addr}{B iid:String}
theorem a7Y(F:ExcBaseFacts B nid iid bmB)(c:ECl h C N mN bm nid)(T:OwnTail h bmB bm){vs:List Value}{Q:Fin->Shared->Prop}(hi:mN "__init__"=some (.ref fI))(ho:h.get? fI=some oI)(hoc:oI.cls=.type "function")(hz:vs.length<=sizeLine)
 (k:wpAny (model prog w) A (call (.ref fI) (.ref (h.objs.size+1)::vs)) (fun r s'=>r=.none/\Q (.done (.ret (.ref (h.objs.size+1)))) s') E ⟨(h.push (a0X vs)).push (a0Q C h.objs.size),g,d,t,os⟩):
 wpAny (model prog w) A (Builtin.«type.__call__» ⟨.ref C::vs,[]⟩) Q E ⟨h,g,d,t,os⟩:=by
 obtain⟨⟨a1,a2,a3,a4,a5,a6,a7,a8,b0,b1,b2,b3,b5,e⟩,hN⟩:=c
 repeat (first
  |with_reducible refine wpAny_loadPart_at e ?_
  |with_reducible refine wpAny_madeBy_exc e ?_
  |wp_step)
 refine codeAny_call_builtin_code (Code.quiet_builtin _ F.quiet) (wpAny_check_new_subT F T e (codeAny_exc_new_subT F T e ?_ hz))
 generalize hh:(h.push (a0X vs)).push (a0Q C h.objs.size)=h2 at k⊢
 have up:∀b o,h.get? b=some o->h2.get? b=some o:=fun b o q=>hh▸Heap.get?_push_of_some _ (Heap.get?_push_of_some _ q)
 have hx:h2.get? (h.objs.size+1)=some (a0Q C h.objs.size):=by rw[←hh];heap_get
 have e2:=up _ _ e
 have self:(Value.ref C::bm).contains (.ref C)=true:=by simp
 show wpAny _ _ _ _ _ _
 unfold isInstance
 repeat (first
  |with_reducible refine wpAny_loadPart_at hx ?_
  |(with_reducible refine wpAny_isSubtype_exc e2 ?_;rw[self])
  |wp_step)
 show wpAny _ _ (typeLookup (.ref C) _) _ _ _
 refine wpAny_typeLookup_tail e2 (b1g up hN) (T.keeps up) F.mroIs F.init.lookup ?_
 rw[hi];refine wpAny_holding (wpAny_bind ?_)
 unfold bindSpecial;refine wpAny_bind (wpAny_typeOf (T:="function") ⟨_,up _ _ ho,hoc⟩ ?_)
 rw[ay (by decide)]
 refine wpAny_pure (wpAny_bind (wpAny_mono k (fun r s' z=>?_) fun _ _ z=>z))
 obtain⟨rfl,z⟩:=z
 wp_walk
 exact z
theorem made(F:ExcBaseFacts B nid iid bmB)(c:ECl h C N mN bm nid)(T:OwnTail h bmB bm){vs:List Value}{Q:Value->Shared->Prop}(hi:mN "__init__"=some (.ref fI))(ho:h.get? fI=some oI)(hoc:oI.cls=.type "function")(hz:vs.length<=sizeLine)
 (k:wpAny (model prog w) (A.under (.builtin "type.__call__" ⟨.ref C::vs,[]⟩)) (call (.ref fI) (.ref (h.objs.size+1)::vs)) (fun r s'=>r=.none/\Q (.ref (h.objs.size+1)) s') E ⟨(h.push (a0X vs)).push (a0Q C h.objs.size),g,d,t,os⟩):
 wpAny (model prog w) A (call (.ref C) vs) Q E ⟨h,g,d,t,os⟩:=by
 have c':=c
 obtain⟨⟨a1,a2,a3,a4,a5,a6,a7,a8,b0,b1,b2,b3,b5,e⟩,hN⟩:=c';have x1:=tc_lookup;have x2:=tc_bind (.ref C)
 have x3:(⟨h,g,d,t,os⟩:Shared).TypeIs (.ref C) "type":=⟨_,e,rfl⟩
 refine wpAny_call (codeAny_of_tree ?_)
 show wpAny _ _ (callAny (.ref C) _) _ _ _
 repeat (any_goals (first
  |assumption
  |with_reducible refine wpAny_loadPart_at e ?_
  |wp_step))
 exact⟨rfl,codeAny_call_builtin_at (Code.quiet_builtin _ (by decide+kernel)) entry_typeCall (wpAny_check_type_call_sub e (a7Y F c T hi ho hoc hz k))⟩
theorem a8t(F:ExcBaseFacts B nid iid bmB)(c:ECl h C N mN bm nid)(T:OwnTail h bmB bm){vs:List Value}{e t0:Addr}{Q:Value->Shared->Prop}(he:h.get? e=some (a0Q C t0))(hz:vs.length<=sizeLine)
 (k:∀h',(∀b o,b≠e->h.get? b=some o->h'.get? b=some o)->h'.get? e=some (a0Q C h.objs.size)->h'.get? h.objs.size=some (a0X vs)->h'.objs.size=h.objs.size+1->Q .none ⟨h',g,d,t,os⟩):
 wpAny (model prog w) A (call (.builtin iid) (.ref e::vs)) Q E ⟨h,g,d,t,os⟩:=by
 obtain⟨⟨a1,a2,a3,a4,a5,a6,a7,a8,b0,b1,b2,b3,b5,eC⟩,hN⟩:=c
 have ne:e≠h.objs.size:=Nat.ne_of_lt (Heap.lt_size he)
 refine wpAny_call (codeAny_call_builtin F.init.plain F.initEntry (wpAny_check_init_subT F T eC he rfl ?_))
 wp_walk
 refine k _ (fun b o hb q=>?_) ?_ ?_ ?_
 · rw[Heap.get?_update_other _ _ (Ne.symm hb)];exact Heap.get?_push_of_some _ q
 · rw[Heap.get?_update_self _ (Heap.get?_push_of_some _ he) rfl];rfl
 · rw[Heap.get?_update_other _ _ ne];exact Heap.get?_push_at rfl rfl
 · simp[Heap.update,Heap.push]
abbrev b1e(h:Heap)(g:Array GenState)(d:Drawn)(os:OsState)(x:Addr)(o:Obj)(mA:Str->Option Value)(name:Str)(v:Value)(W:Shared->Prop):Prop:=
 ∀h' tk dx,dx≠x->(o.dict=some dx∨(o.dict=none/\dx=h.objs.size))->h'.get? x=some {o with dict:=some dx}->h'.Ns1 dx (fun y=>if y=name then some v else mA y)→
  (∀b q,b≠x->b≠dx->h.get? b=some q->h'.get? b=some q)->W ⟨h',g,d,tk,os⟩
theorem a2w(SF:StoreFacts B bmB sa owner)(c:ECl h C N mN bm nid)(T:OwnT h bmB ns bm){name:Str}{tk:Tok}{Q:Fin->Shared->Prop}(h2:name∈ns)(m2:mN name=none)
 (hB:typeLookup (.type B) name=pure none) (hx:h.get? x=some o) (hc:o.cls=.ref C) (hnc:∀q,o.data≠.cls q) (hw:Within mA ks) (hk:ks.length<=1000)
 (hd:(o.dict=none/\∀f,mA f=none)∨∃dx,o.dict=some dx/\dx≠x/\h.Ns1 dx mA) (k:b1e h g d os x o mA name v fun s'=>Q (.done (.ret .none)) s'):
 wpAny (model prog w) A (Builtin.«object.__setattr__» ⟨[.ref x,.str name tk,v],[]⟩) Q E ⟨h,g,d,t,os⟩:=by
 have c':=c
 obtain⟨⟨a1,a2,a3,a4,a5,a6,a7,a8,b0,b1,b2,b3,b5,eC⟩,hN⟩:=c'
 have pas:refuseLoop (.ref x) "__setattr__" bm=pure ():=T.refuse (SF.passes (.ref x))
 have line:sizeLine=16777216:=sizeLine_eq
 unfold Builtin.«object.__setattr__»
 repeat (first
  |rw[refuse_eq]
  |(rw[refuseLoop_ref,pas])
  |(with_reducible refine wpAny_loadPart_at hx ?_;rw[hc])
  |with_reducible refine wpAny_mroOf_exc eC ?_
  |with_reducible refine a1w c h2 T SF.mro hB (z:=none) (by rw[m2]) ?_
  |wp_step)
 rcases hd with⟨hd,hm⟩|⟨dx,hd,ne,hs⟩
 · rw[hd,az (by simp[typeHasDict])]
   split
   · rename_i z;cases z
   split
   · rename_i q z;exact absurd z (hnc q)
   have nx:x≠h.objs.size:=Nat.ne_of_lt (Heap.lt_size hx)
   have hx1:=Heap.get?_push_of_some {cls:=.type "dict",data:=.dict #[]} hx
   refine wpAny_bind (wpAny_alloc' (wpAny_bind (wpAny_update' hx1 (wpAny_pure ?_))))
   generalize hq:(h.push {cls:=.type "dict",data:=.dict #[]}).update x _=h2
   have at1:h2.get? h.objs.size=some {cls:=.type "dict",data:=.dict #[]}:=by rw[←hq];exact(Heap.get?_update_ne _ _ _ _ nx.symm).trans (Heap.get?_push_at rfl rfl)
   have at2:h2.get? x=some {o with dict:=some h.objs.size}:=by
    rw[←hq];refine Heap.get?_update_self _ hx1 ?_
    have fr:=(Heap.get?_some_iff.mp hx).2
    obtain⟨q1,q2,q3,q4⟩:=o
    cases q3<;>first|rfl|exact fr
   have at3:∀b q,b≠x->h.get? b=some q->h2.get? b=some q:=fun b q hb z=>by rw[←hq];exact(Heap.get?_update_ne _ _ _ _ hb).trans (Heap.get?_push_of_some _ z)
   have nul:h2.Ns h.objs.size (fun _=>none):=⟨_,#[],_,at1,rfl,fun _ z=>absurd z (by simp),fun _=>rfl⟩
   show wpAny _ _ (Builtin.ObjectAttr.storeInDict h.objs.size (.str name tk) name v) _ _ _
   unfold Builtin.ObjectAttr.storeInDict Builtin.ObjectAttr.newKeyGuard;refine wpAny_bind (wpAny_pure (wpAny_bind (wpAny_nsSet1 (Heap.Ns1.of_empty nul) fun h3 n3 s3=>?_)))
   obtain⟨od,es,ep,z1,z2,z3⟩:=n3.count (Within.cons name v Within.nil);refine wpAny_bind (wpAny_lookBehind z1 (by rw[z2];exact pastItsLine_dict (aO z3 (by simp only[length_cons,length_nil];omega))) ?_)
   wp_walk
   refine k h3 _ h.objs.size nx.symm (.inr ⟨hd,rfl⟩) ((s3.2 x nx).trans at2) ?_ fun b q hb hb' z=>(s3.2 b hb').trans (at3 b q hb z)
   obtain⟨p1,p2,p3,p4,p5,p6,p7,p8⟩:=n3;exact⟨p1,p2,p3,p4,p5,p6,p7,fun y=>by rw[p8 y];by_cases z:y=name<;>simp[z,hm]⟩
 · rw[hd];refine wpAny_pure ?_
   show wpAny _ _ (Builtin.ObjectAttr.storeInDict dx (.str name tk) name v) _ _ _
   unfold Builtin.ObjectAttr.storeInDict Builtin.ObjectAttr.newKeyGuard;refine wpAny_bind (wpAny_pure (wpAny_bind (wpAny_nsSet1 hs fun h3 n3 s3=>?_)))
   obtain⟨od,es,ep,z1,z2,z3⟩:=n3.count (Within.cons name v hw);refine wpAny_bind (wpAny_lookBehind z1 (by rw[z2];exact pastItsLine_dict (aO z3 (by simp only[length_cons];omega))) ?_)
   wp_walk
   refine k h3 _ dx ne (.inl hd) ?_ n3 fun b q _ hb z=>(s3.2 b hb).trans z
   rw[s3.2 x ne.symm,hx];obtain⟨q1,q2,q3,q4⟩:=o;cases hd;rfl
theorem a8j(SF:StoreFacts B bmB sa owner)(c:ECl h C N mN bm nid)(T:OwnT h bmB ns bm){name:Str}(h1:("__setattr__":Str)∈ns)(h2:name∈ns)(m1:mN "__setattr__"=none)(m2:mN name=none)
 (hB:typeLookup (.type B) name=pure none) (hx:h.get? x=some o) (hc:o.cls=.ref C) (hnc:∀q,o.data≠.cls q) (hw:Within mA ks) (hk:ks.length<=1000)
 (hd:(o.dict=none/\∀f,mA f=none)∨∃dx,o.dict=some dx/\dx≠x/\h.Ns1 dx mA) (k:b1e h g d os x o mA name v (Q ())):
 wpAny (model prog w) A (setAttr (.ref x) name v) Q E ⟨h,g,d,t,os⟩:=by
 have c':=c
 obtain⟨⟨a1,a2,a3,a4,a5,a6,a7,a8,b0,b1,b2,b3,b5,eC⟩,hN⟩:=c';have x1:=SF.slot.bind (.ref x)
 have own:(Value.ref C::bm).contains (.type owner)=true:=by rw[contains_cons,T.has SF.hasOwner,Bool.or_true]
 unfold setAttr callSpecial? specialOf
 repeat (any_goals (first
  |assumption
  |(with_reducible refine wpAny_loadPart_at hx ?_;rw[hc])
  |with_reducible refine a1w c h1 T SF.mro SF.slot.lookup (z:=some (.builtin sa)) (by rw[m1]) ?_
  |wp_step))
 refine codeAny_call_builtin SF.slot.plain SF.entry ?_
 have ok:=SF.args (.ref x) (.str name t) v;simp only[checkBuiltinCall,SF.kind,SF.split];refine wpAny_bind ?_
 unfold isInstance
 repeat (first
  |(with_reducible refine wpAny_loadPart_at hx ?_;rw[hc])
  |(with_reducible refine wpAny_isSubtype_exc eC ?_;rw[own])
  |wp_step)
 have chk:(match Manifest.signature? sa with|some sig=>Bind.checkArgs sa sig {pos:=[Value.ref x]++[Value.str name t,v]}|_=>pure ())=(pure ():Sem Unit):=by
  cases q:Manifest.signature? sa with
  |none=>rfl
  |some sig=>
   simp only[argsOk,q] at ok;exact ok
 refine wpAny_of_eq chk ?_
 exact a2w SF c T h2 m2 hB hx hc hnc hw hk hd fun h' tk dx y1 y2 y3 y4 y5=>wpAny_pure (wpAny_pure (k h' tk dx y1 y2 y3 y4 y5))
theorem b0y(FB:ExcAttrBase B bmB)(c:ECl h C N mN bm nid)(T:OwnT h bmB ns bm){dx:Addr}{name:Str}{expr:Bool}{Q:Value->Shared->Prop}(h1:("__getattribute__":Str)∈ns)(h2:name∈ns)(h3:("__getattr__":Str)∈ns)
 (m1:mN "__getattribute__"=none) (m2:mN name=none) (m3:mN "__getattr__"=none) (hB:typeLookup (.type B) name=pure none) (hx:h.get? x=some o) (hc:o.cls=.ref C) (hnc:∀q,o.data≠.cls q) (hd:o.dict=some dx) (hs:h.Ns1 dx mA) (hv:mA name=some v) (hh:handedOut v=pure v)
 (k:Q v ⟨h,g,d,t+1,os⟩):wpAny (model prog w) A (getAttr (.ref x) name expr) Q E ⟨h,g,d,t,os⟩:=by
 have c':=c
 obtain⟨⟨a1,a2,a3,a4,a5,a6,a7,a8,b0,b1,b2,b3,b5,eC⟩,hN⟩:=c';have x1:=FB.ga.bind (.ref x)
 have nb:(Value.builtin "BaseException.__getattribute__"==Value.builtin "object.__getattribute__")=false:=by decide+kernel
 have y1:(onTheHeap (Value.ref C)&&Value.builtin "BaseException.__getattribute__"==Value.builtin "object.__getattribute__")=false:=by rw[nb];rfl
 have y0:(expr&&onTheHeap (Value.builtin "BaseException.__getattribute__"))=false:=by cases expr<;>rfl
 unfold getAttr getAttrBy
 repeat (any_goals (first
  |assumption
  |(with_reducible refine wpAny_loadPart_at hx ?_;rw[hc])
  |with_reducible refine a1w c h1 T FB.mro FB.ga.lookup (z:=some (.builtin "BaseException.__getattribute__")) (by rw[m1]) ?_
  |with_reducible refine a1w c h3 T FB.mro FB.noGetattr (z:=none) (by rw[m3]) ?_
  |wp_step))
 refine codeAny_call_builtin FB.ga.plain F.entry_bexc_ga ?_
 have kd:builtinKind "BaseException.__getattribute__"=some .slot:=by decide+kernel
 have sp:splitId "BaseException.__getattribute__"=some ("BaseException","__getattribute__"):=by decide+kernel
 have own:(Value.ref C::bm).contains (.type "BaseException")=true:=by rw[contains_cons,T.has FB.hasBase,Bool.or_true]
 have ok:=F.args_bexc_ga (.ref x) (.str name t);simp only[checkBuiltinCall,kd,sp];refine wpAny_bind ?_
 unfold isInstance
 repeat (first
  |(with_reducible refine wpAny_loadPart_at hx ?_;rw[hc])
  |(with_reducible refine wpAny_isSubtype_exc eC ?_;rw[own])
  |wp_step)
 repeat (first
  |with_reducible refine a1w c h2 T FB.mro hB (z:=none) (by rw[m2]) ?_
  |(with_reducible refine wpAny_loadPart_at hx ?_;rw[hc])
  |wp_step)
 split
 · rename_i q z;exact absurd z (hnc q)
 unfold instanceDict
 repeat (first
  |(with_reducible refine wpAny_loadPart_at hx ?_;rw[hc])
  |with_reducible refine wpAny_loadPart_at eC ?_
  |wp_step)
 rw[hd]
 repeat (first
  |(with_reducible refine wpAny_nsGet hs.ns ?_;rw[hv])
  |wp_step)
 exact k
end
abbrev fr(l:List Env):List Addr:=l.filterMap (·.frame)
def Trc(h:Heap)(e C:Addr)(dx:Option Addr)(T:Addr)(fl:Value):Prop:=
 ∃oe vs oT ts,h.get? e=some oe/\oe.cls=.ref C/\oe.dict=dx/\oe.data=.fields vs/\vs[1]? =some (.ref T)/\T≠e/\h.get? T=some oT/\oT.data=.fields ts/\ts[3]? =some fl
structure Kp(l:List Env)(ch:List Addr)(h h':Heap):Prop where
 same:∀b o,b∉fr l->b∉ch->h.get? b=some o->h'.get? b=some o
 slot:∀b o,b∉ch->h.get? b=some o->∃sl,h'.get? b=some {o with slots:=sl}
variable{l:List Env}{ch:List Addr}
theorem Kp.trans{h1 h2:Heap}(x:Kp l ch h h1)(y:Kp l ch h1 h2):Kp l ch h h2:=
 ⟨fun b o n m e=>y.same b o n m (x.same b o n m e),fun b o m e=>by
  obtain⟨sl,e1⟩:=x.slot b o m e;obtain⟨sl',e2⟩:=y.slot b _ m e1;exact⟨sl',e2⟩⟩
theorem Kp.mono{ch':List Addr}(x:Kp l ch h h')(s:∀b∈ch,b∈ch'):Kp l ch' h h':=
 ⟨fun b o n m e=>x.same b o n (fun z=>m (s b z)) e,fun b o m e=>x.slot b o (fun z=>m (s b z)) e⟩
theorem Kp.upd(f:Obj->Obj):Kp l [a] h (h.update a f):=
 ⟨fun b o _ m e=>(Heap.get?_update_other _ _ (fun z=>m (by simp[z]))).trans e,fun b o m e=>⟨o.slots,(Heap.get?_update_other _ _ (fun z=>m (by simp[z]))).trans e⟩⟩
theorem Kp.frames{base:Heap}(x:Kp l ch h h')(nc:∀b∈ch,b∉fr l)(F:h.FunFrames base l):h'.FunFrames base l:=by
 have go:∀m:List Env,(∀b∈fr m,b∈fr l)->h.FunFrames base m->h'.FunFrames base m:=by
  intro m
  induction m with
  |nil=>exact fun _ _=>trivial
  |cons env r ih=>
   rintro hs ⟨hk,⟨L,o,hf,hn,ho,hd⟩,hr⟩
   have hL:L∈fr (env::r):=bn.mpr ⟨env,aU,hf⟩
   obtain⟨sl,e⟩:=x.slot L o (fun z=>nc L z (hs L hL)) ho
   refine⟨hk,⟨L,_,hf,hn,e,hd⟩,ih (fun b hb=>hs b ?_) hr⟩
   obtain⟨en,he,hfe⟩:=bn.mp hb;exact bn.mpr ⟨en,aD _ he,hfe⟩
 exact go l (fun _ h=>h) F
variable{oe:Obj}{vs:Array Value}
section
variable{M:Model}{A:Around}{E:Value->Shared->Prop}{s:Shared}{base:Heap}{env:Env}{outer:List Env}{L e C:Addr}{dx:Option Addr}
theorem a3f(hl:s.heap.FunFrames base (env::outer))(he:s.heap.get? e=some oe)(hd:oe.data=.fields vs):e∉fr (env::outer):=fun z=>by
 obtain⟨_,o,ho,hn⟩:=hl.mem z;rw[he] at ho;cases ho;exact hn vs hd
theorem b0J{head:Value}{nx:Bool}(hfr:A.frames=some (env::outer))(hl:s.heap.FunFrames base (env::outer))(hf:env.frame=some L)(he:s.heap.get? e=some oe)(hd:oe.data=.fields vs)(hz:1<vs.size)(hc:oe.cls=.ref C)(hx:oe.dict=dx)
 (k:∀h' T,Kp (env::outer) [e] s.heap h'->s.heap.objs.size<=T->Trc h' e C dx T (rawInt L)->Q () {s with heap:=h'}):
 wpAny M A (do let a←frameOf env;let pl←entryPlaceOf L nx;let b←EntryCells.newEntry head a .none (rawInt L) .none pl;setField (.ref e) 1 b) Q E s:=by
 have ne:=a3f hl he hd;refine wpAny_bind (wpAny_frameOf_fun hfr hl hf fun h1 s1=>wpAny_bind (wpAny_entryPlaceOf fun pl ip=>?_))
 unfold EntryCells.newEntry newFields;refine wpAny_bind (wpAny_newObj_type ?_ (ip.sizeOk5 _ _ _ _ _))
 have e1:h1.get? e=some oe:=(s1.2.1 e ne).trans he
 generalize hT:({cls:=.type "traceback",dict:=none,data:=.fields ([head,.ref L,.none,rawInt L,.none]++(if pl.isEmpty then List.replicate 6 Value.none else pl)).toArray}:Obj)=oT
 have dT:oT.data=.fields ([head,.ref L,.none,rawInt L,.none]++(if pl.isEmpty then List.replicate 6 Value.none else pl)).toArray:=by rw[←hT]
 have fT:oT.isFreed=false:=by rw[←hT];rfl
 have e2:=Heap.get?_push_of_some oT e1
 have nT:h1.objs.size≠e:=Nat.ne_of_gt (Heap.lt_size e1)
 refine wpAny_setField e2 hd hz (k _ h1.objs.size ?_ (Nat.le_of_eq s1.1.symm) ?_)
 · refine⟨fun b o n m q=>?_,fun b o m q=>?_⟩
   · rw[Heap.get?_update_other _ _ (fun z=>m (by simp[z]))]
     exact Heap.get?_push_of_some _ ((s1.2.1 b n).trans q)
   · obtain⟨sl,q1⟩:=s1.2.2 b o q;refine⟨sl,?_⟩
     rw[Heap.get?_update_other _ _ (fun z=>m (by simp[z]))]
     exact Heap.get?_push_of_some _ q1
 · have d3:=Obj.data_mapFields hd (·.setIfInBounds 1 (Value.ref h1.objs.size))
   refine⟨_,_,oT,_,Heap.get?_update_self _ e2 (Obj.isFreed_of_fields d3),?_,?_,d3,by simp[hz],nT,?_,dT,?_⟩
   · rw[Obj.cls_mapFields];exact hc
   · obtain⟨q1,q2,q3,q4⟩:=oe;cases hd;exact hx
   · rw[Heap.get?_update_other _ _ (Ne.symm nT)]
     exact Heap.get?_push_size _ fT
   · first|(simp;done)|(rcases ip with rfl|⟨_,_,_,_,_,_,_,rfl⟩<;>simp)
theorem a9T{T:Addr}{fl:Value}(t:Trc s.heap e C dx T fl)(k:∀h',(∀b o,b≠T->s.heap.get? b=some o->h'.get? b=some o)->(∃oT vs,s.heap.get? T=some oT/\oT.data=.fields vs)->Trc h' e C dx T .none->Q () {s with heap:=h'}):
 wpAny M A (setFlight (.ref e) none) Q E s:=by
 obtain⟨oe,vs,oT,ts,he,hc,hx,hd,h1,nT,hT,dT,h3⟩:=t
 have z3:3<ts.size:=(Array.getElem?_eq_some_iff.mp h3).1
 unfold setFlight;refine wpAny_bind (wpAny_field he hd h1 ?_)
 rw[ay (show(Value.ref T !=Value.none)=true from by simp)]
 have d4:=Obj.data_mapFields dT (·.setIfInBounds 3 ((none:Option Addr).elim Value.none fun f=>rawInt f))
 refine wpAny_setField hT dT z3 (k _ (fun b o hb q=>(Heap.get?_update_other _ _ (Ne.symm hb)).trans q) ⟨oT,ts,hT,dT⟩ ⟨oe,vs,_,_,(Heap.get?_update_other _ _ nT).trans he,hc,hx,hd,h1,nT,Heap.get?_update_self _ hT (Obj.isFreed_of_fields d4),d4,by simp[z3]⟩)
theorem b4W(hfr:A.frames=some (env::outer))(hl:s.heap.FunFrames base (env::outer))(hf:env.frame=some L)(he:s.heap.get? e=some oe)(hd:oe.data=.fields vs)(h1:vs[1]? =some .none)(hc:oe.cls=.ref C)(hx:oe.dict=dx)
 (k:∀h' T,Kp (env::outer) [e] s.heap h'->s.heap.objs.size<=T->Trc h' e C dx T .none->Q () {s with heap:=h'}):wpAny M A (leaving env (.ref e)) Q E s:=by
 unfold leaving noteFrame;simp only[hf];refine wpAny_bind (wpAny_bind (wpAny_field he hd h1 ?_))
 rw[az (by decide)]
 refine b0J hfr hl hf he hd (Array.getElem?_eq_some_iff.mp h1).1 hc hx fun h2 T k2 nT t2=>?_
 refine a9T t2 fun h3 k3 _ t3=>k h3 T ⟨fun b o n m q=>k3 b o ?_ (k2.same b o n m q),fun b o m q=>?_⟩ nT t3
 · exact fun z=>absurd (aC (Heap.lt_size q) nT) (by rw[z];exact aN _)
 · obtain⟨sl,q2⟩:=k2.slot b o m q;exact⟨sl,k3 b _ (fun z=>absurd (aC (Heap.lt_size q) nT) (by rw[z];exact aN _)) q2⟩
theorem b3x{T:Addr}(hfr:A.frames=some (env::outer))(hl:s.heap.FunFrames base (env::outer))(hf:env.frame=some L)(t:Trc s.heap e C dx T .none)
 (k:∀h' T',Kp (env::outer) [e,T] s.heap h'->s.heap.objs.size<=T'->Trc h' e C dx T' .none->Q () {s with heap:=h'}):
 wpAny M A (noteFrame (.ref e) env) (fun _ s'=>wpAny M A (setFlight (.ref e) none) Q E s') E s:=by
 obtain⟨oe,vs,oT,ts,he,hc,hx,hd,h1,nT,hT,dT,h3⟩:=t
 have z3:3<ts.size:=(Array.getElem?_eq_some_iff.mp h3).1
 have nfT:=a3f hl hT dT;unfold noteFrame;simp only[hf];refine wpAny_bind (wpAny_field he hd h1 ?_)
 rw[ay (show(Value.ref T !=Value.none)=true from by simp)]
 refine wpAny_bind (wpAny_field hT dT h3 ?_)
 rw[az (show¬((Value.none==rawInt L)=true) from by simp[rawInt])]
 refine wpAny_bind (wpAny_setField hT dT z3 ?_)
 generalize hu:s.heap.update T (Obj.mapFields (·.setIfInBounds 3 Value.none))=h2
 have k2:Kp (env::outer) [T] s.heap h2:=hu▸Kp.upd _
 have sz:h2.objs.size=s.heap.objs.size:=by rw[←hu];simp
 have e2:h2.get? e=some oe:=by rw[←hu];exact(Heap.get?_update_other _ _ nT).trans he
 have inT:∀b∈[T],b=T:=fun b hb=>by simpa using hb
 have inE:∀b∈[e],b=e:=fun b hb=>by simpa using hb
 have f2:h2.FunFrames base (env::outer):=k2.frames (fun b hb=>(inT b hb)▸nfT) hl
 refine b0J (s:={s with heap:=h2}) hfr f2 hf e2 hd (Array.getElem?_eq_some_iff.mp h1).1 hc hx fun h4 T' k4 nT' t4=>?_
 have k24:Kp (env::outer) [e,T] s.heap h4:=(k2.mono fun b hb=>by simp[inT b hb]).trans (k4.mono fun b hb=>by simp[inE b hb])
 have nT2:s.heap.objs.size<=T':=by have:=nT';rw[sz] at this;exact this
 refine a9T (s:={s with heap:=h4}) t4 fun h5 k5 _ t5=>k h5 T' ⟨fun b o n m q=>k5 b o ?_ (k24.same b o n m q),fun b o m q=>?_⟩ nT2 t5
 · exact fun z=>absurd (aC (Heap.lt_size q) nT2) (by rw[z];exact aN _)
 · obtain⟨sl,q2⟩:=k24.slot b o m q;exact⟨sl,k5 b _ (fun z=>absurd (aC (Heap.lt_size q) nT2) (by rw[z];exact aN _)) q2⟩
end
section
variable{prog:Program}{w:World}{A:Around}{E:Value->Shared->Prop}{s:Shared}{env:Env}{e C D:Addr}
theorem b4S{g:Array GenState}{d:Drawn}{tk:Nat}{os:OsState}{ND:Addr}{mD:Str->Option Value}{bmD:List Value}{nid':String}{Q:Bool->Shared->Prop}(c:ECl h C N mN bm nid)(cD:ECl h D ND mD bmD nid')(he:h.get? e=some oe)(hc:oe.cls=.ref C)
 (hb:bmD.contains (.type "BaseException")=true) (hm:(Value.ref C::bm).contains (.ref D)=true) (k:Q true ⟨h,g,d,tk,os⟩):wpAny (model prog w) A (excMatches (.ref e) (.ref D)) Q E ⟨h,g,d,tk,os⟩:=by
 obtain⟨⟨a1,a2,a3,a4,a5,a6,a7,a8,b0,b1,b2,b3,b5,eC⟩,hN⟩:=c;obtain⟨⟨c1,c2,c3,c4,c5,c6,c7,c8,d0,d1,d2,d3,d5,eD⟩,hND⟩:=cD;have x1:=tc_notTuple
 have base:(Value.ref D::bmD).contains (.type "BaseException")=true:=by rw[contains_cons,hb,Bool.or_true]
 unfold excMatches
 repeat (first
  |(with_reducible refine wpAny_loadPart_at he ?_;rw[hc])
  |with_reducible refine wpAny_loadPart_at eD ?_
  |(with_reducible refine wpAny_isSubtype_exc eD ?_;rw[base])
  |(with_reducible refine wpAny_isSubtype_exc eC ?_;rw[hm])
  |wp_step)
 exact k
theorem b5Q{t:Expr}{n:Str}{b₀:Stmt}{suite:List Stmt}{pos:Pos}{i6:List ExceptHandler}{Q:Flow->Shared->Prop}
 (h:wpAny (model prog w) (A.mark (some (.ref e))) (eval t env) (fun c s1=>wpAny (model prog w) (A.mark (some (.ref e))) (excMatches (.ref e) c) (fun b s2=>b=true∧
  wpAny (model prog w) (A.mark (some (.ref e))) (setFlight (.ref e) none) (fun _ s3=>wpAny (model prog w) (A.mark (some (.ref e))) (storeName env n (.ref e)) (fun _ s4=>
   wpAny (model prog w) (A.mark (some (.ref e))) (execs (b₀::suite) env) (fun f s5=>wpAny (model prog w) A (do bindName env n .none;unbindBehindTheSuite env n pos) (fun _ s6=>Q f s6) E s5) (fun _ _=>False) s4) (fun _ _=>False) s3) (fun _ _=>False) s2) (fun _ _=>False) s1) (fun _ _=>False) s):
 wpAny (model prog w) A (handleBy (.ref e) env (.ExceptHandler (some t) (some n) (b₀::suite) pos::i6)) Q E s:=by
 have no:∀{A':Around} {α:Type} {m:Sem α} {P:α->Shared->Prop} {E':Value->Shared->Prop} {s:Shared},wpAny (model prog w) A' m P (fun _ _=>False) s->wpAny (model prog w) A' m P E' s:=
  fun z=>wpAny_mono z (fun _ _ q=>q) fun _ _ q=>q.elim
 refine wpAny_handleBy_cons (codeAny_handlers_test (no (wpAny_mono h (fun c s1 h1=>no (wpAny_mono h1 (fun b s2 h2=>?_) fun _ _ q=>q)) fun _ _ q=>q))) (by intro q;cases q)
 obtain⟨rfl,h2⟩:=h2;exact codeAny_handlers_suite_as (no (wpAny_mono h2 (fun _ s3 h3=>no (wpAny_mono h3 (fun _ s4 h4=>no (wpAny_mono h4 (fun f s5 h5=>h5) fun _ _ q=>q)) fun _ _ q=>q)) fun _ _ q=>q))
end
end L2X
namespace L2
open PySem PySem.Spec PyProof.Rows L2X
abbrev vbm:List Value:=[.type "ValueError",.type "Exception",.type "BaseException",.type "object"]
noncomputable def xns:List Str:=["__init__","__setattr__","__getattribute__","__getattr__","__class__","place","word"]
structure XC(K:PySem.W.Frag)(C N D ND fI:Addr):Prop where
 lC:∃nm q bs sn sub ab col dd k0 k1 k2 k3 k5,K.lookup C=some (excClassObj nm q C N bs (.ref D::vbm) true sn sub ab col dd k0 k1 k2 k3 k5 "ValueError.__new__")
 lD:∃nm q bs sn sub ab col dd k0 k1 k2 k3 k5,K.lookup D=some (excClassObj nm q D ND bs vbm true sn sub ab col dd k0 k1 k2 k3 k5 "ValueError.__new__")
 oC:PySem.W.nsOkIn K N=true
 oD:PySem.W.nsOkIn K ND=true
 ini:PySem.W.nsIn K N "__init__"=some (some (.ref fI))
 nC:∀f∈xns.drop 1,PySem.W.nsIn K N f=some none
 nD:∀f∈xns,PySem.W.nsIn K ND f=some none
 fn:PySem.W.isFn K (.ref fI)=true
 kC:PySem.W.keepIn K (.ref C)=true
 rd:PySem.W.readsIn K D (.type "type")=true
 sp:PySem.W.specialIn K (.ref D) "__getattribute__"=some (some (.builtin "type.__getattribute__"))
 fi:PySem.W.findCls K (.ref D) (.type "type") "__init__"=some (.val (.builtin "ValueError.__init__"))
variable{K:PySem.W.Frag}{h:Heap}{m:Str->Option Value}
theorem a6c{N:Addr}{n:Str}{v:Value}(X:K.In h)(G:h.Ns N m)(e:PySem.W.nsIn K N n=some (some v)):m n=some v:=by
 obtain⟨o,es,ep,ho,hd,_,hf⟩:=G;unfold PySem.W.nsIn at e
 split at e
 · rename_i q
   have:=X _ _ q
   rw[ho] at this;cases this;cases hd
   split at e
   · rename_i y hy;cases e;rw[←hf];unfold nsFind findBy;rw[←Array.find?_toList,hy]
     rfl
   · split at e<;>cases e
 · cases e
section
variable{C N D ND fI:Addr}
theorem XC.nsC(x:XC K C N D ND fI)(X:K.In h):h.Ns N (h.nsMap N):=.of_isNs (PySem.W.isNs_of_in X x.oC)
theorem XC.nsD(x:XC K C N D ND fI)(X:K.In h):h.Ns ND (h.nsMap ND):=.of_isNs (PySem.W.isNs_of_in X x.oD)
theorem XC.clC(x:XC K C N D ND fI)(X:K.In h):ECl h C N (h.nsMap N) (.ref D::vbm) "ValueError.__new__":=by
 obtain⟨a1,a2,a3,a4,a5,a6,a7,a8,b0,b1,b2,b3,b5,e⟩:=x.lC;exact⟨⟨a1,a2,a3,a4,a5,a6,a7,a8,b0,b1,b2,b3,b5,X _ _ e⟩,x.nsC X⟩
theorem XC.clD(x:XC K C N D ND fI)(X:K.In h):ECl h D ND (h.nsMap ND) vbm "ValueError.__new__":=by
 obtain⟨a1,a2,a3,a4,a5,a6,a7,a8,b0,b1,b2,b3,b5,e⟩:=x.lD;exact⟨⟨a1,a2,a3,a4,a5,a6,a7,a8,b0,b1,b2,b3,b5,X _ _ e⟩,x.nsD X⟩
theorem XC.tl(x:XC K C N D ND fI)(X:K.In h):OwnT h vbm xns (.ref D::vbm):=by
 obtain⟨a1,a2,a3,a4,a5,a6,a7,a8,b0,b1,b2,b3,b5,e⟩:=x.lD;exact .own (X _ _ e) (x.nsD X) (fun f hf=>PySem.W.ns_none_of X (x.nsD X) (x.nD f hf)) .base
theorem XC.mi(x:XC K C N D ND fI)(X:K.In h):h.nsMap N "__init__"=some (.ref fI):=a6c X (x.nsC X) x.ini
theorem XC.mn(x:XC K C N D ND fI)(X:K.In h):∀f∈xns.drop 1,h.nsMap N f=none:=fun f hf=>PySem.W.ns_none_of X (x.nsC X) (x.nC f hf)
end
noncomputable def exO(a C:Addr)(dxo:Option Addr)(t:Addr):HO:=.ext fun h=>h.get? a=some {cls:=.ref C,dict:=dxo,data:=.fields #[.ref t,.none,.none,.none,.bool false,.none]}
variable{P:Program}{w:World}{H:Hp}{a:Addr}{C:Addr}{dxo:Option Addr}
theorem a6r{t:Addr}(e:h.get? a=some {cls:=.ref C,dict:=dxo,data:=.fields #[.ref t,.none,.none,.none,.bool false,.none]}):v7 P w H h a (exO a C dxo t):=
 ⟨e,⟨_,e⟩,fun _ _ q k=>k _ q⟩
theorem a4n{t:Addr}(ok:HOk P w H h)(e:H a=some (exO a C dxo t)):h.get? a=some {cls:=.ref C,dict:=dxo,data:=.fields #[.ref t,.none,.none,.none,.bool false,.none]}:=(ok a _ e).1
def b6O:HO->Prop
 |.tup _=>False
 |.frz _ _=>False
 |.tbl _=>False
 |.own _=>False
 |_=>True
section
variable{X:Cx}{pins:List (Addr×Obj)}{σ:St}{H':Hp}{s:Shared}{h':Heap}
theorem Inv.poke{t':Nat}(I:Inv X pins σ H s)(W:List Addr)(hW:∀b∈W,(∃o,H b=some o/\b6O o)∨s.heap.objs.size<=b)(k:∀b u,b∉W->s.heap.get? b=some u->h'.get? b=some u)(th:∀b∈W,∃u,h'.get? b=some u)
 (hH:∀b,b∉W->H' b=H b) (new:∀b∈W,∀o,H' b=some o->v7 X.prog X.w H' h' b o):Inv X pins σ H' {s with heap:=h',toks:=t'}:=by
 have out:∀b u,s.heap.get? b=some u->H b=none->b∉W:=fun b u e n z=>by
  rcases hW b z with⟨o,q,_⟩|q
  · rw[n] at q;cases q
  · exact absurd (aC (Heap.lt_size e) q) (aN _)
 have hard:∀b o,H b=some o->¬b6O o->b∉W:=fun b o e n z=>by
  rcases hW b z with⟨o',q,so⟩|q
  · rw[e] at q;cases q;exact n so
  · have:=I.hok.fresh q;rw[e] at this;cases this
 refine I.un (H':=H') (h':=h') ⟨fun b u e n _ _=>k b u (out b u e n) e,fun b u e n _ _=>⟨u.slots,k b u (out b u e n) e⟩,fun b u e n _=>by rw[hH b (out b u e n)];exact n,fun b u e _=>?_,
  fun b xs e=>by rw[hH b (hard b _ e fun z=>z)];exact e,fun b u xs e=>by rw[hH b (hard b _ e fun z=>z)];exact e,fun b ps e=>⟨#[],by rw[hH b (hard b _ e fun z=>z),e];simp⟩⟩ (fun b o e=>?_)
 · by_cases hb:b∈W
   · exact th b hb
   · exact⟨u,k b u hb e⟩
 · by_cases hb:b∈W
   · exact new b hb o e
   · rw[hH b hb] at e;refine(I.hok b o e).stay (fun c v hc q=>k c v ?_ q) (fun c q=>by rw[hH c (hard c _ q fun z=>z)];exact q) fun c xs q=>by rw[hH c (hard c _ q fun z=>z)];exact q
     rcases hc with z|z
     · rw[z];exact hb
     · exact hard c _ z fun z=>z
end
variable{b:Addr}
theorem in1(h:b∈[a]):b=a:=by simpa using h
theorem in2{c:Addr}(h:b∈[a,c]):b=a∨b=c:=by simpa using h
variable{dx:Addr}
theorem b6u{fs:List (Str×V)}(ok:HOk P w H h)(e:H dx=some (.xd fs)):∃mA,h.Ns1 dx mA/\(∀f,U3 (fs.lookup f) (mA f))/\PySem.Within mA (fs.map (·.1)):=by
 obtain⟨mA,n,r⟩:=ok dx _ e;refine⟨mA,n,r,fun f hf=>?_⟩
 have rf:=r f
 cases q:fs.lookup f with
 |none=>
  rw[q] at rf;exact absurd (U3.none_of rf) hf
 |some v=>exact am.mpr ⟨(f,v),PySem.mem_of_lookup q,rfl⟩
variable{pins:List (Addr×Obj)}{σ:St}{s:Shared}{us:List Value}
section
variable{X:Cx}{CX:CXT}{k:Nat}{N D ND fI:Addr}{fd:FuncData}{ps:List Str}{sp:Sp}{E:XK}{x:Str}{p pos apos pos':Pos}{e:Expr}{es:List Expr}{t:TA}{ta tv:TE}{o value:Expr}{f:Str}
def b9h(n0:Nat)(C:Addr)(sp:Sp)(E:XK)(t:TA):TE:=fun σ H Q=>t σ H fun vs H1=>vs.length<=1000/\∀a tt,H1 a=none->n0<=a->sp (.ref a::vs) (upd H1 a (exO a C none tt)) (fun v H2=>v=.non/\Q (.ref a) H2) E
theorem b1L{Q:VK}{vs:List V}(xc:XC X.K C N D ND fI)(F:FnOk X.prog X.w X.K X.mg X.base CX k fI fd ps sp)(hr:Room (k+1) X.A)(hb:J4 X.K fd ps [])(hx:V7 CX X E)(I:Inv X pins σ H s)(r:k8 vs us)(hz:vs.length<=1000)
 (h:∀a tt,H a=none->X.s₀.heap.objs.size<=a->sp (.ref a::vs) (upd H a (exO a C none tt)) (fun v H2=>v=.non/\Q (.ref a) H2) E):wpAny (model X.prog X.w) X.A (call (.ref C) us) (EP X pins σ Q) X.xe s:=by
 have hq:=h (s.heap.objs.size+1) s.heap.objs.size (I.hok.fresh (Nat.le_succ _)) (aO I.sz (Nat.le_succ _));obtain⟨hp,g,d,tk,os⟩:=s
 obtain⟨oI,lI,cI⟩:∃oI,X.K.lookup fI=some oI/\oI.cls=.type "function":=by
  have q:=beq_iff_eq.mp xc.fn;unfold PySem.W.typeIn at q;obtain⟨o,e1,e2⟩:=Option.map_eq_some_iff.mp q;exact⟨o,e1,e2⟩
 have line:sizeLine=16777216:=sizeLine_eq
 have ln:=r.length
 have KI:X.K.In hp:=I.kIn
 refine made PySem.F.excBase_ValueError (xc.clC KI) ((xc.tl KI).tail (by simp[xns])) (xc.mi KI) (KI _ _ lI) cI (by omega) ?_
 have at2:((hp.push (a0X us)).push (a0Q C hp.objs.size)).get? (hp.objs.size+1)=some (a0Q C hp.objs.size):=by heap_get
 have I2:Inv X pins σ (upd H (hp.objs.size+1) (exO (hp.objs.size+1) C none hp.objs.size)) ⟨(hp.push (a0X us)).push (a0Q C hp.objs.size),g,d,tk,os⟩:=
  I.laid (t':=tk) (fun b u q=>Heap.get?_push_of_some _ (Heap.get?_push_of_some _ q)) (Nat.le_succ _) (a6r at2)
 have r2:k8 (V.ref (hp.objs.size+1)::vs) (Value.ref (hp.objs.size+1)::us):=.cons rfl r
 have hl:(Value.ref (hp.objs.size+1)::us++[]).length=ps.length:=by
  rw[aV];have z:=r2.length;rw[F.len _ _ _ _ hq] at z;exact z.symm
 refine wpAny_call (codeAny_mono (F.run _ X.stack _ _ ⟨Value.ref (hp.objs.size+1)::us,[]⟩ (Value.ref (hp.objs.size+1)::us) _ _ E (hr.make C us []) (I2.env0.make C us []) (by simpa using hb _ (Value.ref (hp.objs.size+1)::us) I2.kIn hl) r2 hq) fun r s' hq'=>?_)
 cases r with
 |error e=>exact hx pins σ _ _ e s' I2 hq'
 | ok fl=>
  cases fl with
  |ret u=>
   obtain⟨v,H',I3,rv,ev,q3⟩:=I2.after hq';subst ev;exact⟨rv,⟨V.ref (hp.objs.size+1),H',I3,rfl,q3⟩⟩
  |next=>exact False.elim hq'
  |brk=>exact False.elim hq'
  |cont=>exact False.elim hq'
theorem b4E(xc:XC X.K C N D ND fI)(F:FnOk X.prog X.w X.K X.mg X.base CX k fI fd ps sp)(hr:Room (k+1) X.A)(hg:Gl X x)(hm:X.mg x=some (.ref C))(hb:J4 X.K fd ps [])(hx:V7 CX X E)(ha:PA X (e::es) t)
 (hdb:(x==("__debug__":Str))=false:=by decide) (he:starEach (e::es) X.env=(false,eval e X.env)::starEach es X.env:=by rfl) (hpl:(backTo pos (starEach es X.env)).any (·.1)=false:=by rfl):
 PE X (.Call (.Name x p) (e::es) [] pos) (b9h X.s₀.heap.objs.size C sp E t):=by
 intro pins s σ H Q I h;refine wpAny_Call_Name_kw (V0 I hg hm ?_ hdb)
 exact PySem.W.callWith_K (h₀:=X.base) I.ok.mod.kin xc.kC (thn (ha pos pins s σ H _ I h) fun us s1 ⟨vs,H1,I1,r,hz,q⟩=>⟨I1.kIn,b1L xc F hr hb hx I1 r hz q⟩) he hpl
def b6M(C:Addr)(t:TA):TE:=fun σ H Q=>t σ H fun vs H1=>∃a tt v,vs=[.ref a,v]/\H1 a=some (exO a C none tt)/\∀t',Q .non (upd H1 a (exO a C none t'))
theorem b2f{pl:Sem Bool}(xc:XC X.K C N D ND fI)(hg:Gl X x)(hm:X.mg x=some (.ref D))(ha:PA X (e::es) t)(hdb:(x==("__debug__":Str))=false:=by decide)
 (ht:eval (.Call (.Attribute (.Name x p) "__init__" apos) (e::es) [] pos) X.env=(do
  let ov←eval (.Name x p) X.env
  standAt apos.atName
  let(f,first)←holding [ov] (getMethod ov "__init__" pl)
  callWith pos f first (backTo pos (starEach (e::es) X.env)) (backToKw pos (keywordEach [] X.env))):=by rfl)
 (hs:starEach (e::es) X.env=(false,eval e X.env)::starEach es X.env:=by rfl) (hpl:(backTo pos (starEach es X.env)).any (·.1)=false:=by rfl):
 PE X (.Call (.Attribute (.Name x p) "__init__" apos) (e::es) [] pos) (b6M C t):=by
 intro pins s σ H Q I h;refine PySem.W.methodCall_KW (pl:=pl) (V0 I hg hm ?_ hdb) ht
 refine PySem.W.method_cls I.kIn xc.sp (PySem.W.cls_value I.kIn xc.rd xc.fi rfl ?_)
 have hA:=ha pos pins {s with toks:=s.toks+1} σ H _ (I.tok _) h
 rw[hs] at hA⊢;refine Calls.callWith_builtin (by show(false||(backTo pos (starEach es X.env)).any (·.1))=false;rw[hpl]<;>rfl) (Calls.evalArgs_plain ?_)
 refine thn hA fun us s2 ⟨vs,H2,I2,r2,a,tt,v,ev,hH,q⟩=>?_
 subst ev;obtain⟨u1,u2,rfl,ru1,ru2⟩:=a2V r2;cases ru1;obtain⟨hp,g,d,tk,os⟩:=s2
 have KI:X.K.In hp:=I2.kIn
 have line:sizeLine=16777216:=sizeLine_eq
 refine a8t (vs:=[u2]) PySem.F.excBase_ValueError (xc.clC KI) ((xc.tl KI).tail (by simp[xns])) (a4n I2.hok hH) (by show 1<=sizeLine;omega) fun h' k1 k2 k3 k4=>?_
 refine⟨.non,_,I2.poke (t':=tk) [a] (fun b hb=>.inl (by rw[in1 hb];exact⟨_,hH,trivial⟩)) (fun b u hb z=>k1 b u (fun q=>hb (by simp[q])) z) (fun b hb=>⟨_,in1 hb▸k2⟩) (fun b hb=>g9 fun q=>hb (by simp[q])) (fun b hb o z=>?_),rfl,q hp.objs.size⟩
 have e:=in1 hb;subst e;rw[c9] at z;cases z;exact a6r k2
def b4a(C:Addr)(ta tv:TE)(f:Str):TS:=fun D σ H=>tv σ H fun y H1=>ta σ H1 fun x H2=>∃a tt,x=.ref a/\H2 a=some (exO a C none tt)/\∀dx,H2 dx=none->dx≠a->D.nx σ (upd (upd H2 dx (.xd [(f,y)])) a (exO a C (some dx) tt))
theorem a9l(xc:XC X.K C N D ND fI)(hf:f∈xns.drop 1)(hB:typeLookup (.type "ValueError") f=pure none)(ha:PE X o ta)(hv:PE X value tv)(hs:swapsWith value (some (.Attribute o f pos')) pos.line X.env=pure false):
 PS X (.Assign [.Attribute o f pos'] value pos) (b4a C ta tv f):=by
 intro pins s σ H D' I h;refine plainObj_wpAny_Assign_Attribute (thn (hv pins s σ H _ I h) fun u s1 ⟨y,H1,I1,ry,q⟩=>thn (ha pins s1 σ H1 _ I1 q) fun ov s2 ⟨x,H2,I2,rx,a,tt,ex,ea,q2⟩=>?_) hs
 subst ex;obtain rfl:ov=Value.ref a:=rx;obtain⟨hp,g,d,tk,os⟩:=s2
 have KI:X.K.In hp:=I2.kIn
 have e0:=a4n I2.hok ea
 have hf':f∈xns:=List.mem_of_mem_drop hf
 refine a8j PySem.F.store_ValueError (xc.clC KI) (xc.tl KI) (mA:=fun _=>none) (ks:=[]) (by simp[xns]) hf' (xc.mn KI _ (by simp[xns])) (xc.mn KI _ hf) hB e0 rfl (fun q z=>by cases z) PySem.Within.nil (by simp) (.inl ⟨rfl,fun _=>rfl⟩) fun h' tk' dx ne hd g1 g2 g3=>?_
 have hdx:dx=hp.objs.size:=by
  rcases hd with z|⟨_,z⟩
  · cases z
  · exact z
 have fdx:H2 dx=none:=I2.hok.fresh (Nat.le_of_eq hdx.symm)
 refine⟨σ,_,I2.poke (t':=tk') [a,dx] (fun b hb=>?_) (fun b u hb z=>g3 b u (fun q=>hb (by simp[q])) (fun q=>hb (by simp[q])) z) (fun b hb=>?_) (fun b hb=>?_) (fun b hb o' z=>?_),q2 dx fdx ne⟩
 · rcases in2 hb with q|q
   · exact .inl (by rw[q];exact⟨_,ea,trivial⟩)
   · exact .inr (by rw[q,hdx];exact aj _)
 · rcases in2 hb with q|q
   · exact⟨_,q▸g1⟩
   · obtain⟨od,es,ep,z,_⟩:=g2;exact⟨od,q▸z⟩
 · rw[g9 fun q=>hb (by simp[q]),g9 fun q=>hb (by simp[q])]
 · rcases in2 hb with q|q
   · subst q;rw[c9] at z;cases z;exact a6r g1
   · subst q;rw[g9 ne,c9] at z;cases z;refine⟨_,g2,fun n=>?_⟩
     show U3 (List.lookup n [(f,y)]) (if n=f then some u else none)
     by_cases hn:n=f
     · rw[ay hn,hn,lookup_cons,beq_self_eq_true];exact ry
     · rw[az hn,lookup_cons,show(n==f)=false from beq_eq_false_iff_ne.mpr hn];exact True.intro
end
noncomputable def a0l(H:Hp)(a:Addr):Hp:=fun b=>if b=a then none else H b
theorem J1(h:b≠a):a0l H a b=H b:=by unfold a0l;rw[az h]
theorem a2y:a0l H a a=none:=by unfold a0l;rw[ay rfl]
def CXr(P:Program)(w:World):CXT:=fun outer H s E e s'=>∃a C dx T H',e=.ref a/\s'.os=s.os/\AllBare s'.gens/\Un (frs outer) [] H H' s.heap s'.heap/\HOk P w H' s'.heap/\Trc s'.heap a C (some dx) T .none∧
 s.heap.objs.size<=a/\s.heap.objs.size<=T/\H' a=none/\H' T=none/\E (.ref C) (some dx) H'
section
variable{M:Model}{A:Around}{Ex:Value->Shared->Prop}{env:Env}
theorem b4f{x:Sem Value}{Q:Flow->Shared->Prop}(hh:A.handled=none)
 (h:wpAny M A x (fun v s1=>∃a dxo tt N mN bm nid,v=.ref a/\ECl s1.heap C N mN bm nid/\bm.contains (.type "BaseException")=true/\s1.heap.get? a=some {cls:=.ref C,dict:=dxo,data:=.fields #[.ref tt,.none,.none,.none,.bool false,.none]}/\Ex (.ref a) s1) Ex s):wpAny M A (raiseStmt env (some x) none) Q Ex s:=by
 unfold raiseStmt;refine wpAny_bind (wpAny_mono h (fun v s1 h1=>?_) fun _ _ z=>z)
 obtain⟨a,dxo,tt,N,mN,bm,nid,rfl,⟨⟨a1,a2,a3,a4,a5,a6,a7,a8,b0,b1,b2,b3,b5,eC⟩,_⟩,hb,he,hE⟩:=h1
 have base:(Value.ref C::bm).contains (.type "BaseException")=true:=by rw[contains_cons,hb,Bool.or_true]
 obtain⟨hp,g,d,tk,os⟩:=s1
 repeat (first
  |with_reducible refine wpAny_loadPart_at he ?_
  |with_reducible refine wpAny_loadPart_at eC ?_
  |(with_reducible refine wpAny_isSubtype_exc eC ?_;rw[base])
  |wp_step)
 exact wpAny_raiseNew_none hh hE
end
section
variable{X:Cx}{N D ND fI:Addr}{e:Expr}{te:TE}{pos:Pos}
def b3U(te:TE)(R:Addr->Hp->Prop):TS:=fun _ σ H=>te σ H fun v H1=>∃a,v=.ref a/\R a H1
theorem a9k{R:Addr->Hp->Prop}(xc:XC X.K C N D ND fI)(hc:X.calm=true)(he:PE X e te)(hR:∀pins σ H s a,Inv X pins σ H s->R a H->(∃dxo tt,H a=some (exO a C dxo tt))/\X.xe (.ref a) s):PS X (.Raise (some e) none pos) (b3U te R):=by
 intro pins s σ H D' I h;rw[arm_exec_Raise];refine wpAny_bind (wpAny_standAt (b4f (C:=C) (I.ok.hd hc) (wpAny_bind (thn (he pins s σ H _ I h) fun v s1 ⟨x,H1,I1,r1,a,ea,q⟩=>wpAny_bind (wpAny_standAt (wpAny_pure ?_))))))
 subst ea;obtain rfl:v=Value.ref a:=r1;obtain⟨⟨dxo,tt,hH⟩,hx⟩:=hR pins σ H1 s1 a I1 q;exact⟨a,_,_,_,_,_,_,rfl,xc.clC I1.kIn,rfl,a4n I1.hok hH,hx⟩
end
noncomputable def exC(a C dx:Addr):HO:=.ext fun h=>∃vs sl,h.get? a=some {cls:=.ref C,dict:=some dx,data:=.fields vs,slots:=sl}
theorem b5w{vs:Array Value}{sl:Array (Option Value)}(e:h.get? a=some {cls:=.ref C,dict:=some dx,data:=.fields vs,slots:=sl}):v7 P w H h a (exC a C dx):=
 ⟨⟨vs,sl,e⟩,⟨_,e⟩,fun _ _ ⟨vs,sl,q⟩ k=>⟨vs,sl,k _ q⟩⟩
theorem b0A(ok:HOk P w H h)(e:H a=some (exC a C dx)):∃vs sl,h.get? a=some {cls:=.ref C,dict:=some dx,data:=.fields vs,slots:=sl}:=(ok a _ e).1
abbrev Cx.marked(X:Cx)(a:Addr):Cx:={X with A:=X.A.mark (some (.ref a)),calm:=false,xe:=fun _ _=>False}
variable{o:HO}{i:Nat}{h':Heap}
section
variable{X:Cx}
theorem Inv.marked(I:Inv X pins σ H s)(a:Addr):Inv (X.marked a) pins σ H s:=
 ⟨⟨I.ok.mod,I.ok.kind,I.ok.glob,I.ok.blt,I.ok.above,I.ok.inj,I.ok.has,I.ok.cab,fun h=>(bh h).elim,I.ok.frames,I.ok.stk,I.ok.exf,I.ok.bs,I.ok.bsz,I.ok.noex,I.ok.exfs,I.ok.funs,I.ok.frf⟩,
  I.os,I.bare,I.base,I.loc,I.cell,I.free,I.freeC,I.pin,I.hok,I.len⟩
theorem Inv.unmarked(ok:X.Ok)(I:Inv (X.marked a) pins σ H s):Inv X pins σ H s:=⟨ok,I.os,I.bare,I.base,I.loc,I.cell,I.free,I.freeC,I.pin,I.hok,I.len⟩
theorem Inv.track(I:Inv X pins σ H s)(hn:H a=none)(hs:X.s₀.heap.objs.size<=a)(hL:a≠X.env.locals)(hc:∀x c,X.env.cells.lookup x=some c->c≠a)(hp:∀p∈X.pn++pins,p.1≠a)(ok:v7 X.prog X.w (upd H a o) s.heap a o):Inv X pins σ (upd H a o) s:=by
 have nin:∀b u,X.s₀.heap.get? b=some u->b≠a:=fun b u e z=>absurd (aC (Heap.lt_size e) (by rw[z];exact hs)) (aN _)
 have up:∀b u,H b=some u->upd H a o b=some u:=fun b u e=>by rw[g9 (o0 e hn)];exact e
 refine⟨I.ok,I.os,I.bare,⟨I.base.keep,I.base.slot,fun b u e n hx=>by rw[g9 (nin b u e)];exact I.base.free b u e n hx,I.base.there,fun b xs e=>up b _ (I.base.tups b xs e),fun b u v e=>up b _ (I.base.frzs b u v e),fun b ps e=>?_⟩,
  I.loc,I.cell,by rw[g9 (Ne.symm hL)];exact I.free,fun x c e=>by rw[g9 (hc x c e)];exact I.freeC x c e,fun p h=>?_,fun b u e=>?_,I.len⟩
 · obtain⟨m,q⟩:=I.base.tbls b ps e;exact⟨m,up b _ q⟩
 · obtain⟨e1,e2,e3,e4,e5⟩:=I.pin p h;exact⟨e1,by rw[g9 (hp p h)];exact e2,e3,e4,e5⟩
 · by_cases hb:b=a
   · subst hb;rw[c9] at e;cases e;exact ok
   · rw[g9 hb] at e;exact(I.hok b u e).stay (fun c v _ q=>q) (fun c q=>up c _ q) fun c xs q=>up c _ q
theorem Inv.goes{n:Str}{v:Option Value}{t':Nat}(I:Inv X pins σ H s)(hN:X.N.Nodup)(hi:X.N[i]? =some n)(hk:X.env.scope.names.lookup n=some .local)
 (hl:∀(j:Nat) (y:Str) (w:V),X.N[j]? =some y->σ[j]? =some (some w)->Vis X.env.scope y->∃u,n9 w u/\b8T X.env s.heap m y u)
    (hn:h'.Ns X.env.locals (fun x=>if x=n then v else m x)) (hs:Heap.SameBut X.env.locals s.heap h'):Inv X pins (σ.set i none) H {s with heap:=h',toks:=t'}:=by
  have neL:∀b u,X.s₀.heap.get? b=some u->b≠X.env.locals:=fun b u e=>Nat.ne_of_lt (aC (Heap.lt_size e) I.ok.above)
  refine⟨I.ok,I.os,I.bare,⟨fun b o e n hb hx=>(hs.2 b (neL b o e)).trans (I.base.keep b o e n hb hx),fun b o e n hb hx=>?_,I.base.free,fun b o e hx=>?_,I.base.tups,I.base.frzs,I.base.tbls⟩,
    ⟨_,hn,fun j y w e1 e2 e3=>?_⟩,fun y c e=>?_,I.free,I.freeC,fun p hp=>?_,I.hok.sameBut I.free hs,by rw[length_set];exact I.len⟩
  · obtain⟨sl,q⟩:=I.base.slot b o e n hb hx;exact⟨sl,(hs.2 b (neL b o e)).trans q⟩
  · obtain⟨o',q⟩:=I.base.there b o e hx;exact⟨o',(hs.2 b (neL b o e)).trans q⟩
  · have ne:i≠j:=fun z=>by
      subst z
      have hiσ:i<σ.length:=by rw[I.len];exact(ac.mp hi).1
      rw[List.getElem?_set_self hiσ] at e2
      cases e2
    rw[List.getElem?_set_ne ne] at e2
    obtain⟨u,r,q⟩:=hl j y w e1 e2 e3;refine⟨u,r,?_⟩
    rcases q with⟨k,e⟩|⟨k,c,e,z⟩
    · have:y≠n:=fun z=>ne (a2g hN hi (z▸e1))
      exact .inl ⟨k,by simp[this,e]⟩
    · exact .inr ⟨k,c,e,z.sameBut hs (I.cne y c e)⟩
  · obtain⟨w',z⟩:=I.cell y c e;exact⟨w',z.sameBut hs (I.cne y c e)⟩
  · obtain⟨e,n,ne,nf,d⟩:=I.pin p hp;exact⟨(hs.2 p.1 ne).trans e,n,ne,nf,d⟩
end
section
variable{X:Cx}{k:Nat}{D f:Addr}{fd:FuncData}{ps:List Str}{sp:Sp}{x n hx:Str}{p ep cp hp0 hpos pos:Pos}{e:Expr}{es:List Expr}{t:TA}{b₀:Stmt}{suite:List Stmt}{ts:TS}
def b8W(K:PySem.W.Frag)(n0 i:Nat)(D:Addr)(sp:Sp)(t:TA)(ts:TS):TS:=fun Dn σ H=>t σ H fun vs H1=>sp vs H1 (fun _ H2=>Dn.nx σ H2) (fun cls dxo H2=>∃C N ND fI dx,cls=.ref C/\dxo=some dx/\XC K C N D ND fI∧
 ∀a,H2 a=none->n0<=a->ts {nx:=fun σ3 H3=>Dn.nx (σ3.set i none) H3,rt:=fun _ _=>False} (σ.set i (some (.ref a))) (upd H2 a (exC a C dx)))
theorem b4l(F:FnOk X.prog X.w X.K X.mg X.base (CXr X.prog X.w) k f fd ps sp)(hr:Room k X.A)(hg:Gl X x)(hm:X.mg x=some (.ref f))(hkp:PySem.W.keepIn X.K (.ref f)=true)(hb:J4 X.K fd ps [])(ha:PA X.nox (e::es) t)
 (hgD:Gl X hx) (hmD:X.mg hx=some (.ref D)) (hst:X.stack=X.env::X.outer) (hfr:X.env.frame=some X.env.locals) (hN:X.N.Nodup) (hi:X.N[i]? =some n) (hl:X.env.scope.names.lookup n=some .local) (hsu:∀a,PSs (X.marked a) (b₀::suite) ts)
 (hsw:swapsWith (.Call (.Name x p) (e::es) [] cp) none ep.line X.env=pure false:=by rfl) (hdb:(x==("__debug__":Str))=false:=by decide) (hdb2:(hx==("__debug__":Str))=false:=by decide)
 (he:starEach (e::es) X.env=(false,eval e X.env)::starEach es X.env:=by rfl) (hpl:(backTo cp (starEach es X.env)).any (·.1)=false:=by rfl):
 PS X (.Try [.Expr (.Call (.Name x p) (e::es) [] cp) ep] [.ExceptHandler (some (.Name hx hp0)) (some n) (b₀::suite) hpos] [] [] pos) (b8W X.K X.s₀.heap.objs.size i D sp t ts):=by
 intro pins s σ H Dn I h;refine wpAny_Try_except (wpAny_execs_cons (wpAny_Expr_any ?_ I.quiet hsw))
 refine wpAny_Call_Name_kw (V0 I hg hm ?_ hdb)
 refine PySem.W.callWith_K (h₀:=X.base) I.ok.mod.kin hkp (wpAny_mono (ha cp pins s σ H _ (I.wish _) h) (fun us s1 ⟨vs,H1,I0,r,q⟩=>⟨I0.kIn,?_⟩) (fun _ _ z=>z.elim)) he hpl
 have I1:Inv X pins σ H1 s1:=I0.unwish
 have hln:(us++[]).length=ps.length:=by rw[aV,←r.length];exact F.len _ _ _ _ q
 refine wpAny_call (codeAny_mono (F.run X.A X.stack s1 H1 ⟨us,[]⟩ us vs _ _ hr I1.env0 (by simpa using hb s1 us I1.kIn hln) r q) fun res s2 hq=>?_)
 cases res with
 | ok fl=>
  cases fl with
  |ret u=>
   obtain⟨v,H2,I2,_,q2⟩:=I1.after hq;exact wpAny_execs_nil (wpAny_execs_nil ⟨σ,H2,I2,q2⟩)
  |next=>exact False.elim hq
  |brk=>exact False.elim hq
  |cont=>exact False.elim hq
 | error ev=>
  obtain⟨a,C,dx,T,H2,rfl,os,bare,un,hok,trc,sa,sT,na,nT,C',N,ND,fI,dx',ec,ed,xc,qs⟩:=hq;cases ec;cases ed
  have I2:Inv X pins σ H2 s2:=I1.call' (ch:=[]) os un hok bare fun b z=>absurd z (by simp)
  have big:∀b,s1.heap.objs.size<=b->X.s₀.heap.objs.size<=b/\b≠X.env.locals/\(∀y c,X.env.cells.lookup y=some c->c≠b)/\∀p∈X.pn++pins,p.1≠b:=fun b hb=>
   ⟨aO I1.sz hb,Nat.ne_of_gt (aC I1.lt hb),fun y c e z=>by
    obtain⟨v,q⟩:=I1.cell y c e;exact absurd (aC q.lt (by rw[z];exact hb)) (aN _),fun p hp z=>absurd (aC (Heap.lt_size (I1.pin p hp).1) (by rw[z];exact hb)) (aN _)⟩
  have frm:X.A.frames=some (X.env::X.outer):=by rw[←hst];exact I2.ok.frames
  have fun2:s2.heap.FunFrames X.base (X.env::X.outer):=by rw[←hst];exact I2.stack
  refine b3x frm fun2 hfr trc fun h3 T' kp sT' trc3=>?_
  have nfr:∀b o,H2 b=some o->b∉fr (X.env::X.outer):=fun b o e z=>by
   have:=I2.stkFree b (by rw[hst];exact z)
   rw[e] at this;cases this
  have nch:∀b o,H2 b=some o->b∉[a,T]:=fun b o e z=>by
   rcases in2 z with q|q
   · rw[q,na] at e;cases e
   · rw[q,nT] at e;cases e
  have ok3:HOk X.prog X.w H2 h3:=fun b o e=>(I2.hok b o e).stay (fun c v hc z=>by
   rcases hc with y|y
   · rw[y] at z⊢;exact kp.same b v (nfr b o e) (nch b o e) z
   · exact kp.same c v (nfr c _ y) (nch c _ y) z) (fun _ z=>z) fun _ _ z=>z
  have I3:Inv X pins σ H2 {s2 with heap:=h3}:=I2.call' (s':={s2 with heap:=h3}) (ch:=[a,T]) rfl
   ⟨fun b o e n hb hc=>kp.same b o (by rw[←hst];exact hb) hc e,fun b o e n hb hc=>kp.slot b o hc e,fun b o e n _=>n,fun b o e hc=>by obtain⟨sl,z⟩:=kp.slot b o hc e;exact⟨_,z⟩,fun _ _ z=>z,fun _ _ _ z=>z,fun b ps z=>⟨#[],by rw[z];simp⟩⟩ ok3 I2.bare
   fun b hb=>by
    have hb':s1.heap.objs.size<=b:=by rcases in2 hb with q|q<;>rw[q]<;>assumption
    obtain⟨x1,x2,x3,x4⟩:=big b hb';exact⟨.inr x1,x2,x3,x4⟩
  obtain⟨x1,x2,x3,x4⟩:=big a sa;refine b5Q (V0 (I3.marked a) hgD hmD ?_ hdb2)
  obtain⟨oe,ws,oT,ts',he3,hc3,hx3,hd3,rest3⟩:=id trc3;refine b4S (h:=h3) (xc.clC I3.kIn) (xc.clD I3.kIn) he3 hc3 rfl (by simp) ⟨rfl,?_⟩
  refine a9T (s:={s2 with heap:=h3}) trc3 fun h4 k4 _ trc4=>?_
  have fT':∀b∈[T'],a1n X pins H2 b:=fun b hb=>by
   rw[in1 hb];exact I2.fpOk sT' (I2.hok.fresh sT')
  have I4:Inv X pins σ H2 {s2 with heap:=h4}:=I3.turnedF (t':=s2.toks) fT' fun b u hb z=>k4 b u (fun q=>hb (by simp[q])) z
  refine a0Z (i:=i) (v:=.ref a) I4 hN hi (.inl hl) rfl (fun s5 I5 ⟨b,sb,eb⟩=>?_) (.inr hl)
  have hba:a≠b:=fun z=>by
   rcases eb with q|q
   · exact x2 (z.trans q)
   · rw[show X.env.scope.names.lookup n=some .local from hl] at*
     exact x3 n b q z.symm
  obtain⟨oe,ws,oT,ts',he4,hc4,hx4,hd4,_⟩:=id trc4
  have he5:s5.heap.get? a=some oe:=(sb.2 a hba).trans he4
  have I6:Inv X pins (σ.set i (some (.ref a))) (upd H2 a (exC a C dx)) s5:=I5.track na x1 x2 x3 x4 (by
   obtain⟨q1,q2,q3,q4⟩:=oe;cases hc4;cases hx4;cases hd4;exact b5w he5)
  refine thn (hsu a pins s5 _ _ _ (I6.marked a) (qs a na x1)) fun fl s6 q6=>?_
  cases fl with
  |next=>
   obtain⟨σ6,H6,I7,q7⟩:=q6
   have I8:Inv X pins σ6 H6 s6:=Inv.unmarked I.ok I7
   obtain⟨m,hm6,hl6⟩:=id I8.loc;exact wpAny_nameGoes_keeps hl hm6 (by rw[I8.ok.kind];rfl) fun h' v hn' hs'=>⟨_,H6,I8.goes hN hi hl hl6 hn' hs',q7⟩
  |ret v=>obtain⟨_,_,_,_,_,z⟩:=q6;exact z.elim
  |brk=>obtain⟨_,_,_,z⟩:=q6;exact z.elim
  |cont=>obtain⟨_,_,_,z⟩:=q6;exact z.elim
end
end L2
namespace L2X
open PySem
open Sem (wp)
theorem a8x:typeLookup (.type "ValueError") "__class__"=pure (some (.builtin "object.__class__")):=by rw[typeLookup_type,builtinLookup_eq_fast];kernel_rfl
theorem b2p:typeOf (.builtin "object.__class__")=pure (.type "getset_descriptor"):=by kernel_rfl
theorem a6y:ExcAttrBase "ValueError" [.type "ValueError",.type "Exception",.type "BaseException",.type "object"] where
 ga:=.of (owner:="BaseException") (n:="__getattribute__") (by rw[typeLookup_type,builtinLookup_eq_fast];kernel_rfl) (by decide+kernel) (by decide+kernel) (by decide+kernel)
  (by first|exact .inl (by decide+kernel)|exact .inr (by decide+kernel)) (by rw[isSubtype_type];kernel_rfl)
 lkArgs:=by rw[typeLookup_type,builtinLookup_eq_fast];kernel_rfl
 sub:=by rw[isSubtype_type];kernel_rfl
 mro:=by kernel_rfl
 noGetattr:=by rw[typeLookup_type,builtinLookup_eq_fast];kernel_rfl
 hasBase:=by decide+kernel
variable{x:Addr}{o:Obj}
section
variable{prog:Program}{w:World}{A:Around}{E:Value->Shared->Prop}{h:Heap}{g:Array GenState}{d:Drawn}{t:Nat}{os:OsState}{C N:Addr}{mN:Str->Option Value}{bm bmB:List Value}{nid:String}{ns:List Str}
theorem a8k(FB:ExcAttrBase "ValueError" bmB)(c:ECl h C N mN bm nid)(T:OwnT h bmB ns bm){Q:Option Value->Shared->Prop}(h1:("__getattribute__":Str)∈ns)(h2:("__class__":Str)∈ns)(h3:("__getattr__":Str)∈ns)
 (m1:mN "__getattribute__"=none) (m2:mN "__class__"=none) (m3:mN "__getattr__"=none) (hx:h.get? x=some o) (hc:o.cls=.ref C)
 (kg:∀(A':Around) (t':Nat) (R:Result->Shared->Prop),R (.ok (.ret (.ref C))) ⟨h,g,d,t',os⟩->codeAny (model prog w) A' (.call (.builtin "getset_descriptor.__get__") ⟨[.builtin "object.__class__",.ref x,.ref C],[]⟩) R ⟨h,g,d,t',os⟩)
 (k:Q (some (.ref C)) ⟨h,g,d,t+1,os⟩):wpAny (model prog w) A (getAttr? (.ref x) "__class__") Q E ⟨h,g,d,t,os⟩:=by
 have c':=c
 obtain⟨⟨a1,a2,a3,a4,a5,a6,a7,a8,b0,b1,b2,b3,b5,eC⟩,hN⟩:=c';have x1:=FB.ga.bind (.ref x)
 have nb:(Value.builtin "BaseException.__getattribute__"==Value.builtin "object.__getattribute__")=false:=by decide+kernel
 have y1:(onTheHeap (Value.ref C)&&Value.builtin "BaseException.__getattribute__"==Value.builtin "object.__getattribute__")=false:=by rw[nb];rfl
 unfold getAttr? getAttrBy? getAttrBy
 repeat (any_goals (first
  |assumption
  |(with_reducible refine wpAny_loadPart_at hx ?_;rw[hc])
  |with_reducible refine a1w c h1 T FB.mro FB.ga.lookup (z:=some (.builtin "BaseException.__getattribute__")) (by rw[m1]) ?_
  |with_reducible refine a1w c h3 T FB.mro FB.noGetattr (z:=none) (by rw[m3]) ?_
  |wp_step))
 refine codeAny_call_builtin FB.ga.plain F.entry_bexc_ga ?_
 have kd:builtinKind "BaseException.__getattribute__"=some .slot:=by decide+kernel
 have sp:splitId "BaseException.__getattribute__"=some ("BaseException","__getattribute__"):=by decide+kernel
 have own:(Value.ref C::bm).contains (.type "BaseException")=true:=by rw[contains_cons,T.has FB.hasBase,Bool.or_true]
 have ok:=F.args_bexc_ga (.ref x) (.str "__class__" t);simp only[checkBuiltinCall,kd,sp];refine wpAny_bind ?_
 unfold isInstance
 repeat (first
  |(with_reducible refine wpAny_loadPart_at hx ?_;rw[hc])
  |(with_reducible refine wpAny_isSubtype_exc eC ?_;rw[own])
  |wp_step)
 have f5:=b2p;have f6:=F.slot_gs_get.lookup;have f7:=F.slot_gs_set.lookup
 repeat (any_goals (first
  |assumption
  |with_reducible refine a1w c h2 T FB.mro a8x (z:=some (.builtin "object.__class__")) (by rw[m2]) ?_
  |(with_reducible refine wpAny_loadPart_at hx ?_;rw[hc])
  |wp_step))
 refine kg _ _ _ (wpAny_pure ?_)
 show wpAny _ _ (handedOut (.ref C)) _ _ _
 exact PySem.W.handed_on rfl (wpAny_pure k)
end
end L2X
namespace L2
open PySem PySem.Spec PyProof.Rows L2X
variable{a:Addr}
section
variable{K:PySem.W.Frag}{C N D ND fI:Addr}
theorem a2r(xc:XC K C N D ND fI)(hm:PySem.W.mroIn K C (.type "object")=some true){dx:Addr}:PySem.W.KitX K (.ref a) (.ref C) (fun h=>∃vs sl od,h.get? a=some {cls:=.ref C,dict:=some dx,data:=.fields vs,slots:=sl}/\h.get? dx=some od) where
 ty:=fun M h X ⟨vs,sl,od,e,ed⟩=>by
  have I:PySem.W.InstAt h a {cls:=.ref C,dict:=some dx,data:=.fields vs,slots:=sl} C (some od):=⟨e,rfl,rfl,ed⟩
  exact I.type
 it:=fun M h X _=>by
  obtain⟨a1,a2,a3,a4,a5,a6,a7,a8,b0,b1,b2,b3,b5,e⟩:=xc.lC;intro A' Q' E' s' k q;unfold isType loadHead;exact wpAny_bind (wpAny_loadPart (k _ _ (X _ _ e)) (wpAny_pure q))
 ne:=fun h tp dd its n sl X htp=>by
  obtain⟨a1,a2,a3,a4,a5,a6,a7,a8,b0,b1,b2,b3,b5,e⟩:=xc.lC;refine Bool.eq_false_iff.mpr fun q=>?_
  have e':C=tp:=Value.ref.inj (beq_iff_eq.mp q)
  subst e';have z:=congrArg Obj.cls (ax ((X _ _ e).symm.trans htp));exact absurd (Value.type.inj z) (by decide)
 ca:=fun{prog w A E Q s} X ⟨vs,sl,od,e,ed⟩ k=>by
  have I:PySem.W.InstAt s.heap a {cls:=.ref C,dict:=some dx,data:=.fields vs,slots:=sl} C (some od):=⟨e,rfl,rfl,ed⟩
  obtain⟨hp,g,d,tk,os⟩:=s
  exact a8k a6y (xc.clC X) (xc.tl X) (by simp[xns]) (by simp[xns]) (by simp[xns]) (xc.mn X _ (by simp[xns])) (xc.mn X _ (by simp[xns])) (xc.mn X _ (by simp[xns])) e rfl
   (fun A' t' R q=>PySem.W.class_get (s:=⟨hp,g,d,t',os⟩) X I hm q) k
end
variable{pins:List (Addr×Obj)}{σ:St}{H:Hp}{s:Shared}{dx:Addr}{e:Expr}{pos:Pos}
section
variable{X:Cx}{C N D ND fI:Addr}
theorem a4o{fs:List (Str×V)}(I:Inv X pins σ H s)(ha:H a=some (exC a C dx))(hd:H dx=some (.xd fs)):
 ∃vs sl od,s.heap.get? a=some {cls:=.ref C,dict:=some dx,data:=.fields vs,slots:=sl}/\s.heap.get? dx=some od:=by
 obtain⟨vs,sl,e⟩:=b0A I.hok ha;obtain⟨mA,⟨od,es,ep,z,_⟩,_⟩:=I.hok dx _ hd;exact⟨vs,sl,od,e,z⟩
def b9s(K:PySem.W.Frag)(C:Addr):List V->Hp->VK->Prop:=fun xs H Q=>∃a dx fs c b,xs=[.ref a,c]/\H a=some (exC a C dx)/\H dx=some (.xd fs)∧
 ((∃B,c=.ref B/\PySem.W.kitOne K (.ref C) (.ref B)=some b)∨(∃T,c=.ty T/\PySem.W.kitOne K (.ref C) (.type T)=some b)∨
  ∃(tp:Addr) (ds:List Addr),c=.ref tp/\H tp=some (.tup (ds.map V.ref))/\PySem.W.kitAny K (.ref C) (ds.map Value.ref)=some b)/\Q (.bl b) H
theorem a3c:∀{ds:List Addr} {us:List Value},k8 (ds.map V.ref) us->us=ds.map Value.ref
 |[],us,r=>by
  rw[map_nil] at r;cases r;rfl
 | b::bs,us,r=>by
  rw[map_cons] at r
  cases r with
  |cons r1 r2=>
   cases r1;rw[a3c r2];rfl
theorem b0S(xc:XC X.K C N D ND fI)(hm:PySem.W.mroIn X.K C (.type "object")=some true):E9 X (.builtin "isinstance") (b9s X.K C):=by
 intro pins s σ H xs us Q I r h;obtain⟨a,dx,fs,c,b,rfl,ha,hd,hc,q⟩:=h;obtain⟨u1,u2,rfl,ru1,ru2⟩:=a2V r;cases ru1
 have fin:∀tk,EP X pins σ Q (.bool b) {s with toks:=tk}:=fun tk=>⟨.bl b,H,I.tok _,rfl,q⟩
 rcases hc with⟨B,rfl,e⟩|⟨T,rfl,e⟩|⟨tp,ds,rfl,ht,e⟩
 · cases ru2;exact PySem.W.kia_one (a2r xc hm (a:=a) (dx:=dx)) I.kIn (a4o I ha hd) e (fun z=>nomatch z) fin
 · cases ru2;exact PySem.W.kia_one (a2r xc hm (a:=a) (dx:=dx)) I.kIn (a4o I ha hd) e (fun z=>nomatch z) fin
 · cases ru2;obtain⟨_,its,rv,o,e1,e2,_,n,e3⟩:=I.hok tp _ ht;rw[a3c rv] at e3;obtain⟨q1,q2,q3,q4⟩:=o;cases e2;cases e3;exact PySem.W.kia_tup (a2r xc hm (a:=a) (dx:=dx)) I.kIn (a4o I ha hd) e1 e (fun z=>nomatch z) fin
def b6I(C:Addr)(ta:TE)(f:Str):TE:=fun σ H Q=>ta σ H fun x H1=>∃a dx fs v,x=.ref a/\H1 a=some (exC a C dx)/\H1 dx=some (.xd fs)/\fs.lookup f=some v/\Q v H1
theorem b2b{f:Str}{ta:TE}(xc:XC X.K C N D ND fI)(hf:f∈xns.drop 1)(hB:typeLookup (.type "ValueError") f=pure none)(he:PE X e ta)(hb:attributeBase e f X.env (eval e X.env)=eval e X.env):PE X (.Attribute e f pos) (b6I C ta f):=by
 intro pins s σ H Q I h;refine a7w hb (thn (he pins s σ H _ I h) fun u s1 ⟨x,H1,I1,rx,a,dx,fs,v,ex,ea,ed,lf,q⟩=>?_)
 subst ex;obtain rfl:u=Value.ref a:=rx;obtain⟨vs,sl,e1⟩:=b0A I1.hok ea;obtain⟨mA,n1,rel,_⟩:=b6u I1.hok ed;obtain⟨w',hw,rw'⟩:=U3.some_of (v:=v) (o:=mA f) (by rw[←lf];exact rel f)
 have KI:=I1.kIn
 have hf':f∈xns:=List.mem_of_mem_drop hf
 obtain⟨hp,g,d,tk,os⟩:=s1;exact b0y a6y (xc.clC KI) (xc.tl KI) (by simp[xns]) hf' (by simp[xns]) (xc.mn KI _ (by simp[xns])) (xc.mn KI _ hf) (xc.mn KI _ (by simp[xns])) hB e1 rfl (fun q z=>by cases z) rfl n1 hw (PySem.W.handedOut_of (a3l rw')) ⟨v,H1,I1.tok _,rw',q⟩
def b9r(K:PySem.W.Frag):List V->Hp->VK->Prop:=fun xs H Q=>∃x T t b,xs=[x,.ty T]/\TyOf K H x t/\PySem.W.kitOne K t (.type T)=some b/\Q (.bl b) H
theorem a5D:E9 X (.builtin "isinstance") (b9r X.K):=by
 intro pins s σ H xs us Q I r h;obtain⟨x,T,t,b,rfl,ty,e,q⟩:=h;obtain⟨u1,u2,rfl,ru1,ru2⟩:=a2V r;cases ru2;exact a8d I ru1 ty e fun tk=>⟨.bl b,H,I.tok _,rfl,q⟩
end
open PySem PySem.Spec PyProof.Rows
def b6B:TT:=fun _ H Q=>Q true H
variable{X:Cx}
theorem b4r:a5I X [] b6B:=b1X
noncomputable def b5O(sc scope:Scope)(own frees:List Str):Bool:=
 decide (scope.kind=.function)&&scope.names.all (fun y=>decide (y.2≠.cell))&&scope.names.all (fun y=>decide (y.2=.local->scope.names.lookup y.1=some .local))&&
 scope.names.all (fun y=>decide (y.2=.free->sc.names.lookup y.1=some .cell))&&decide ((own++frees).Nodup)&&own.all (fun x=>decide (scope.names.lookup x=some .local))&&frees.all (fun x=>decide (scope.names.lookup x=some .free))
variable{sc:Scope}{scope:Scope}
theorem b8h{own frees:List Str}(h:b5O sc scope own frees=true):CompScope sc scope own frees:=by
 unfold b5O at h;simp only[ae,bp,bg] at h;obtain⟨⟨⟨⟨⟨⟨a,b⟩,c⟩,d⟩,e⟩,f⟩,g⟩:=h;exact⟨a,b,c,d,e,f,g⟩
variable{i:Nat}{x:Str}{pos':Pos}
section
variable{elt iter tg:Expr}{ifs:List Expr}{own frees:List Str}{js:List Nat}{wi:TI}{g:TG}{tc:TT}{te:TE}
theorem a3v{Q:VK}{RR:Value->Addr->Result->Shared->Prop}(hcalm:X.calm=true)(hi:PI X tg iter wi)(S:CompScope X.env.scope scope own frees)(hj:frees.map some=js.map (X.N[·]?))
 (hg:∀C s₀ H₀ ex,PG (p0 X own frees scope C s₀ H₀ ex) tg g) (hc:∀C s₀ H₀ ex,a5I (p0 X own frees scope C s₀ H₀ ex) ifs tc) (he:∀C s₀ H₀ ex,PE (p0 X own frees scope C s₀ H₀ ex) elt te)
 (I:Inv X pins σ H s) (h:a6A own js wi g tc te σ H Q)
 (fin:∀D C s5 H4 m5,Inv X pins σ H4 s5->s5.heap.Ns C m5->H4 C=none->X.s₀.heap.objs.size<=C->C≠X.env.locals->(∀x c,X.env.cells.lookup x=some c->c≠C)->(∀p∈X.pn++pins,p.1≠C)->Q (.ref D) H4->RR (.ref D) C (.ok .next) s5):
 wpAny (model X.prog X.w) X.A (eval iter X.env) (fun v s1=>wpAny (model X.prog X.w) X.A (pyIter v) (fun it s2=>wpAny (model X.prog X.w) X.A (newList []) (fun acc s3=>
  wpAny (model X.prog X.w) X.A (newFunctionEnv scope X.env.globals (G3 X.env.cells scope.names []) [] X.env.qual none .none (some X.env)) (fun cenv s4=>
   codeAny (model X.prog X.w) X.A (.compStart (.ListComp elt [⟨tg,iter,ifs,0⟩] scope pos) 0 it acc {cenv with scope:=relabel scope X.env}) (RR acc cenv.locals) s4) X.xe s3) X.xe s2) X.xe s1) X.xe s:=by
 refine thn (hi pins s σ H _ I h) fun v s1 h1=>thn h1 fun itv s2 h2=>?_
 obtain⟨it,fp,tn,J,H2,e,I2,T,st2,f2,R2⟩:=h2;subst e
 have hD:H2 s2.heap.objs.size=none:=I2.hok.fresh (aj _)
 obtain⟨W,⟨m0,w0⟩,turn⟩:=R2 s2.heap.objs.size hD
 have hcells:∀x c,X.env.cells.lookup x=some c->c<s2.heap.objs.size:=fun x c e=>by obtain⟨v,z⟩:=I2.cell x c e;exact z.lt
 refine wpAny_newObj_type (wpAny_newFunctionEnv S.nocell (by intro y hy;simp at hy) (fun h₁ hns₁ hsb₁=>?_) S.kind)
 dsimp only at hns₁ hsb₁⊢
 generalize hHH:s2.heap.push {cls:=.type "list",dict:=none,data:=.seq ([]:List Value).toArray}=HH at hns₁ hsb₁⊢
 have hC:HH.objs.size=s2.heap.objs.size+1:=by rw[←hHH,Heap.size_push]
 have hCle:s2.heap.objs.size<=HH.objs.size:=by rw[hC];exact Nat.le_succ _
 have hDC:s2.heap.objs.size≠HH.objs.size:=by rw[hC];exact Nat.ne_of_lt (aP _)
 have neC:∀b,b<s2.heap.objs.size->b≠HH.objs.size:=fun b hb=>by rw[hC];exact Nat.ne_of_lt (Nat.lt_succ_of_lt hb)
 have old:∀b o,s2.heap.get? b=some o->h₁.get? b=some o:=fun b o e=>hsb₁.extBut b o (neC b (Heap.lt_size e)) (Heap.get?_push_of_some _ (hHH▸Heap.get?_push_of_some _ e))
 have accAt:h₁.get? s2.heap.objs.size=some {cls:=.type "list",dict:=none,data:=.seq ([]:List Value).toArray}:=hsb₁.extBut _ _ hDC (Heap.get?_push_of_some _ (hHH▸Heap.get?_push_size _ rfl))
 have hfo:∀b∈fp,∃o,s2.heap.get? b=some o:=fun b hb=>let⟨o,e,_⟩:=T.obj _ _ st2 b hb;⟨o,e⟩
 have hnD:∀b,b<s2.heap.objs.size->upd H2 s2.heap.objs.size (.lst []) b=H2 b:=fun b hb=>g9 (Nat.ne_of_lt hb)
 have hok1:HOk X.prog X.w (upd H2 s2.heap.objs.size (.lst [])) h₁:=I2.hok.laid old (aj _) ⟨Nat.zero_le _,[],0,.nil,accAt⟩
 have I3:∀s3:Shared,s3={s2 with heap:=h₁,toks:=s2.toks+([]:List (Str×Value)).length}->Inv (p0 X own frees scope HH.objs.size s2 H2 fp) [] (C1 own js σ) (upd H2 s2.heap.objs.size (.lst [])) s3:=by
  rintro s3 rfl;refine b0P I2 S hj hCle f2 hfo rfl I2.bare old (Un.laid old (aj _) hD) hns₁ ?_ hok1 (fun x c e=>?_)
  · rw[g9 (Ne.symm hDC)];exact I2.hok.fresh hCle
  · rw[hnD c (hcells x c e)];exact I2.freeC x c e
 -- what stays true of the iterator's objects
 have stat:∀{H':Hp},(∀b∈fp,H' b=none)->∀b∈fp,a1n (p0 X own frees scope HH.objs.size s2 H2 fp) [] H' b:=fun{H'} hn b hb=>by
  obtain⟨o,q⟩:=hfo b hb;refine⟨hn b hb,neC b (Heap.lt_size q),fun hm=>?_,.inl hb,fun x c e=>(f2 b hb).2.2.2.2.1 x c (M8 e),fun p hp=>absurd (show p∈([]:List (Addr×Obj)) from hp) (by simp)⟩
  rcases aE.mp (I2.stkSub b hm) with z|z
  · exact(f2 b hb).2.1 z
  · exact(f2 b hb).2.2.1 z
 have loop:∀s3:Shared,s3={s2 with heap:=h₁,toks:=s2.toks+([]:List (Str×Value)).length}→
  codeAny (model X.prog X.w) X.A (.compLoop (.ListComp elt [⟨tg,iter,ifs,0⟩] scope pos) 0 (.ref it) (.ref s2.heap.objs.size) (compEnvC scope (G3 X.env.cells scope.names []) HH.objs.size X.env))
   (RR (.ref s2.heap.objs.size) HH.objs.size) s3:=by
  intro s3 hs3
  refine a4u (fun n s'=>∃i ys H',Inv (p0 X own frees scope HH.objs.size s2 H2 fp) [] (C1 own js σ) H' s'/\tn i s'.heap/\(∀b∈fp,H' b=none)/\W i n ys H') ?_ m0
   ⟨0,[],_,I3 s3 hs3,T.keep _ _ _ st2 (fun b hb o e=>by rw[hs3];exact old b o e),fun b hb=>by obtain⟨o,q⟩:=hfo b hb;rw[hnD b (Heap.lt_size q)];exact(f2 b hb).1,w0⟩
  rintro n s4 ⟨i,ys,H4,I4,st4,fr4,w4⟩
  rcases turn i n ys H4 w4 with⟨stop,qn⟩|⟨go,step⟩
  · refine thn (T.done (p0 X own frees scope HH.objs.size s2 H2 fp) rfl rfl rfl hcalm i [] s4 (C1 own js σ) H4 _ I4 (stat fr4) st4 stop) fun r s5 ⟨hr,I5⟩=>?_
    subst hr;obtain⟨m5,hn5,_⟩:=I5.loc
    have ub:Un (frs X.stack) fp H2 H4 s2.heap s5.heap:=I5.base
    refine fin _ _ s5 H4 m5 (I2.call' (ch:=fp) I5.os ub I5.hok I5.bare fun b hb=>⟨(f2 b hb).2.2.2.1,(f2 b hb).2.1,(f2 b hb).2.2.2.2.1,(f2 b hb).2.2.2.2.2⟩) hn5 I5.free (aO I2.sz hCle) ?_ ?_ ?_ qn
    · exact Ne.symm (neC _ I2.lt)
    · exact fun x c e=>neC c (hcells x c e)
    · exact fun p hp=>neC _ (Heap.lt_size (I2.pin p hp).1)
  · refine thn (T.item (p0 X own frees scope HH.objs.size s2 H2 fp) rfl rfl rfl hcalm i [] s4 (C1 own js σ) H4 _ I4 (stat fr4) st4 go) fun r s5 ⟨u,hr,h5⟩=>?_
    subst hr;refine thn h5 fun _ s6 ⟨x,H6,I6,r6,y6,st6,fr6⟩=>?_
    have I6':=I6.pinned (stat fr6) (T.obj _ _ st6)
    refine thn (hg _ _ _ _ _ s6 _ H6 x u _ I6' r6 (step x H6 y6)) fun _ s7 ⟨σ7,H7,I7,wk7,q7⟩=>?_
    refine thn (hc _ _ _ _ _ s7 σ7 H7 _ I7 q7) fun b s8 ⟨H8,I8,q8⟩=>?_
    have again:∀{s9:Shared} {H9:Hp} {zs:List V},Inv (p0 X own frees scope HH.objs.size s2 H2 fp) ([]++a2b fp s6.heap) σ7 H9 s9->(∃m',m'<n/\W (i+1) m' zs H9)→
     ∃m,m<n/\∃i ys H',Inv (p0 X own frees scope HH.objs.size s2 H2 fp) [] (C1 own js σ) H' s9/\tn i s9.heap/\(∀b∈fp,H' b=none)/\W i m ys H':=fun{s9 H9 zs} I9 ⟨m',hm,w9⟩=>by
     refine⟨m',hm,i+1,zs,H9,(I9.weak wk7.1 wk7.2).unpinned,T.keep _ _ _ st6 fun b hb o e=>(I9.pin (b,o) (mem_append_right _ (mem_append_right _ (U9 hb e)))).1,fun b hb=>?_,w9⟩
     obtain⟨o,e,d⟩:=T.obj _ _ st6 b hb;exact(I9.pin (b,o) (mem_append_right _ (mem_append_right _ (U9 hb e)))).2.1
    cases b with
    |false=>
     rw[az bh] at q8⊢;exact again I8 q8
    | true=>
     rw[ay rfl] at q8⊢;refine thn (he _ _ _ _ _ s8 σ7 H8 _ I8 q8) fun y s9 ⟨v9,H9,I9,r9,hD9,hz9,q9⟩=>?_
     refine thn (a3h (X:=p0 X own frees scope HH.objs.size s2 H2 fp) _ s9 σ7 H9 (.ref s2.heap.objs.size) [v9] (.ref s2.heap.objs.size) [y] (fun _ H'=>∃m',m'<n/\W (i+1) m' (ys++[v9]) H') I9 rfl (.cons r9 .nil)
      ⟨_,ys,v9,rfl,rfl,hD9,hz9,q9⟩) fun _ s10 ⟨_,H10,I10,_,q10⟩=>?_
     exact again I10 q10
 exact codeAny_compStart_list (loop _ rfl) (T.self _ 0 _ _ _ (T.keep _ _ _ st2 fun b hb o e=>old b o e) (loop _ rfl))
theorem a4Z(hcalm:X.calm=true)(hi:PI X tg iter wi)(S:CompScope X.env.scope scope own frees)(hj:frees.map some=js.map (X.N[·]?))
 (hg:∀C s₀ H₀ ex,PG (p0 X own frees scope C s₀ H₀ ex) tg g) (hc:∀C s₀ H₀ ex,a5I (p0 X own frees scope C s₀ H₀ ex) ifs tc) (he:∀C s₀ H₀ ex,PE (p0 X own frees scope C s₀ H₀ ex) elt te)
 (hs:∀x,foldedSetIterable iter X.env x=pure x):PE X (.ListComp elt [⟨tg,iter,ifs,0⟩] scope pos) (a6A own js wi g tc te):=by
 intro pins s σ H Q I h;rw[eval_ListComp]
 have hcl:closureFor scope X.env=pure (G3 X.env.cells scope.names []):=a0m fun y hy e=>I.ok.has y.1 (.inl (S.out y hy e))
 refine wpAny_comprehension_free (use:=none) rfl hs hcl S.kind S.locs (a3v hcalm hi S hj hg hc he I h fun D C s5 H4 m5 I5 hn5 c1 c2 c3 c4 c5 q=>?_)
 exact⟨m5,hn5,fun h' hs'=>⟨.ref D,H4,I5.turned (t':=s5.toks) (fun b o hb e=>(hs'.2 b hb).trans e) c1 (Ne.symm (Ne.symm c3)) (.inr c2) c4 c5,rfl,q⟩⟩
theorem b1S{spos:Pos}(hcalm:X.calm=true)(hi:PI X tg iter wi)(S:CompScope X.env.scope scope own frees)(hj:frees.map some=js.map (X.N[·]?))
 (hg:∀C s₀ H₀ ex,PG (p0 X own frees scope C s₀ H₀ ex) tg g) (hc:∀C s₀ H₀ ex,a5I (p0 X own frees scope C s₀ H₀ ex) ifs tc) (he:∀C s₀ H₀ ex,PE (p0 X own frees scope C s₀ H₀ ex) elt te)
 (hs:∀x,foldedSetIterable iter X.env x=pure x) (hN:X.N.Nodup) (hix:X.N[i]? =some x) (hx:Loc X.env.scope x) (hf:X.fn x=true∨X.env.scope.names.lookup x=some .local):
 PS X (.Assign [.Name x pos'] (.ListComp elt [⟨tg,iter,ifs,0⟩] scope pos) spos) (b1z (a6A own js wi g tc te) (a7j i)):=by
 obtain⟨b,hb⟩:∃b,swapsWith (.ListComp elt [⟨tg,iter,ifs,0⟩] scope pos) (some (.Name x pos')) spos.line X.env=pure b:=⟨_,rfl⟩
 cases b with
 |false=>exact a5W hN hix hx (a4Z hcalm hi S hj hg hc he hs) hb hf
 | true=>
  intro pins s σ H Dn I h;rw[exec_Assign_Name_used _ _ _ _ hb]
  have hcl:closureFor scope X.env=pure (G3 X.env.cells scope.names []):=a0m fun y hy e=>I.ok.has y.1 (.inl (S.out y hy e))
  refine wpAny_bind (wpAny_standAt (wpAny_bind ?_))
  show wpAny _ X.A (do let _←comprehension (.ListComp elt [⟨tg,iter,ifs,0⟩] scope pos) scope X.env _ (newList []) false (eval iter X.env) (some (assign (.Name x pos') X.env))) _ _ s
  refine wpAny_bind (wpAny_mono (wpAny_comprehension_free (use:=some (assign (.Name x pos') X.env)) (Q:=fun _ s'=>SP X pins Dn .next s') rfl hs hcl S.kind S.locs
   (a3v hcalm hi S hj hg hc he I h fun D C s5 H4 m5 I5 hn5 c1 c2 c3 c4 c5 q=>?_)) (fun _ s' hq=>wpAny_pure (wpAny_pure hq)) fun _ _ e=>e)
  show wpAny _ X.A (assign (.Name x pos') X.env (.ref D)) _ _ s5
  refine wpAny_assign_Name (a0Z (v:=.ref D) I5 hN hix hx rfl (fun s6 I6 ⟨a,sb,ea⟩=>?_) hf)
  have hCa:C≠a:=fun z=>by
   rcases ea with y|y
   · exact c3 (z.trans y)
   · exact c4 x a y z.symm
  exact⟨m5,hn5.sameBut sb hCa,fun h' hs'=>⟨_,H4,I6.turned (t':=s6.toks) (fun b o hb e=>(hs'.2 b hb).trans e) c1 c3 (.inr c2) c4 c5,q⟩⟩
end
def Itz(K:PySem.W.Frag)(l1 l2:Addr):It:=⟨fun i H=>∃xs ys x y,SqL K H l1 xs/\SqL K H l2 ys/\xs[i]? =some x/\ys[i]? =some y,
 fun i H v H'=>∃T x y,H T=none/\v=.ref T/\(∀xs,SqL K H l1 xs->xs[i]? =some x)/\(∀ys,SqL K H l2 ys->ys[i]? =some y)/\H'=upd H T (.tup [x,y]),
 fun i H=>∃xs ys,SqL K H l1 xs/\SqL K H l2 ys/\(xs.length<=i∨ys.length<=i)⟩
variable{P:Program}{w:World}{K:PySem.W.Frag}{elts:List Expr}
theorem a8z{k:Nat}(z TI TO i1 i2 l1 l2:Addr)(D:ZipApart z TI TO i1 i2 l1 l2):
 Turn P w K (.Tuple elts k pos) (Itz K l1 l2) [z,TI,TO,i1,i2] z (fun i h=>IsZip h z TI TO .none/\IsPair h TI (.ref i1) (.ref i2)/\(∃a b,IsPair h TO a b)/\h.IsListIter i1 l1 i/\h.IsListIter i2 l2 i) where
 mem:=by simp
 obj:=fun i h st b hb=>by
  obtain⟨hz,hTI,⟨a,c,hTO⟩,⟨o1,e1,c1,d1⟩,⟨o2,e2,c2,d2⟩⟩:=st;simp only[aE,not_mem_nil,or_false] at hb
  rcases hb with rfl|rfl|rfl|rfl|rfl
  · exact⟨_,hz,fun v q=>by have q':Data.fields _=Data.cell v:=q;cases q'⟩
  · exact⟨_,hTI,fun v q=>by have q':Data.seq _ _=Data.cell v:=q;cases q'⟩
  · exact⟨_,hTO,fun v q=>by have q':Data.seq _ _=Data.cell v:=q;cases q'⟩
  · exact⟨o1,e1,fun v q=>by rw[d1] at q;cases q⟩
  · exact⟨o2,e2,fun v q=>by rw[d2] at q;cases q⟩
 keep:=fun i h h' st k=>by
  obtain⟨hz,hTI,⟨a,c,hTO⟩,h1,h2⟩:=st;exact⟨k z (by simp) _ hz,k TI (by simp) _ hTI,⟨a,c,k TO (by simp) _ hTO⟩,h1.at fun o x=>k i1 (by simp) o x,h2.at fun o x=>k i2 (by simp) o x⟩
 item:=by
  intro X hP hw hK hc i pins s σ H E I hf st hg;subst hP hw hK;obtain⟨hz,hTI,⟨a,c,hTO⟩,h1,h2⟩:=st;obtain⟨xs,ys,x,y,hq1,hq2,hx,hy⟩:=hg;obtain⟨its,rv,p,hz1⟩:=I.list hq1;obtain⟨its',rv',p',hz2⟩:=I.list hq2;obtain⟨u,hu,ru⟩:=rv.get hx;obtain⟨u',hu',ru'⟩:=rv'.get hy
  have hzlt:z<s.heap.objs.size:=Heap.lt_size hz
  refine wpAny_pyNext_zip_item D hz hTI hTO h1 h2 p.isList p'.isList (x:=u) (y:=u') (by simpa using hu) (by simpa using hu') fun h' a1 a2 a3 a4 a5 a6 hk=>?_
  refine⟨_,rfl,wpAny_letOwnedTupleGo_zip a1 fun h3 hz3 hs3=>?_⟩
  have kk:∀b o,b∉[z,TI,TO,i1,i2]->s.heap.get? b=some o->h3.get? b=some o:=fun b o hb q=>by
   have n1:b≠z:=fun w=>hb (by simp[w])
   exact(hs3.2 b n1).trans (hk b o n1 (fun w=>hb (by simp[w])) (fun w=>hb (by simp[w])) (fun w=>hb (by simp[w])) q)
  have hT3:h3.get? s.heap.objs.size=some {cls:=.type "tuple",data:=.seq #[u,u']}:=(hs3.2 _ (Nat.ne_of_gt hzlt)).trans a5
  have I1:Inv X pins σ (upd H s.heap.objs.size (.tup [x,y])) {s with heap:=h3,toks:=s.toks}:=
   I.turnedN (fp:=[z,TI,TO,i1,i2]) hf kk (aj _) ⟨by show 2<=sizeLine;decide,[u,u'],.cons ru (.cons ru' .nil),_,hT3,rfl,rfl,_,rfl⟩
  refine⟨.ref s.heap.objs.size,_,I1,rfl,⟨s.heap.objs.size,x,y,I.hok.fresh (aj _),rfl,fun zs hy=>by rw[I.list_inj hy hq1];exact hx,fun zs hy'=>by rw[I.list_inj hy' hq2];exact hy,rfl⟩,
   ⟨hz3,(hs3.2 _ D.TIz).trans (hk _ _ D.TIz D.TITO D.TIi1 D.TIi2 hTI),⟨_,_,(hs3.2 _ D.TOz).trans a2⟩,a3.at fun o x=>(hs3.2 _ D.i1z).trans x,a4.at fun o x=>(hs3.2 _ D.i2z).trans x⟩,fun b hb=>?_⟩
  have hbs:b<s.heap.objs.size:=by
   obtain⟨o1,e1,_⟩:=h1;obtain⟨o2,e2,_⟩:=h2;simp only[aE,not_mem_nil,or_false] at hb
   rcases hb with rfl|rfl|rfl|rfl|rfl
   · exact hzlt
   · exact Heap.lt_size hTI
   · exact Heap.lt_size hTO
   · exact Heap.lt_size e1
   · exact Heap.lt_size e2
  rw[g9 (Nat.ne_of_lt hbs)];exact(hf b hb).1
 done:=by
  intro X hP hw hK hc i pins s σ H E I hf st hg;subst hP hw hK;obtain⟨hz,hTI,⟨a,c,hTO⟩,h1,h2⟩:=st;obtain⟨xs,ys,hq1,hq2,hx⟩:=hg;obtain⟨its,rv,p,hz1⟩:=I.list hq1;obtain⟨its',rv',p',hz2⟩:=I.list hq2;have hl:=rv.length
  have hl':=rv'.length
  refine wpAny_pyNext_zip_end (I.ok.hd hc) D hz hTI hTO h1 h2 p.isList p'.isList ?_ fun h' eb=>⟨rfl,I.turnedF (t':=s.toks) hf fun b o hb q=>eb b o (fun z=>hb (by simp[z])) (fun z=>hb (by simp[z])) (fun z=>hb (by simp[z])) (fun z=>hb (by simp[z])) q⟩
  rcases hx with hx|hx
  · exact .inl (by simp;omega)
  · exact .inr (by simp;omega)
 self:=fun A i s Q E st h=>wpAny_pyIter_zip st.1 h
variable{ta:TA}{p:Pos}
section
variable{k:Nat}{tpos:Pos}
def b9y(K:PySem.W.Frag)(ta:TA):TI:=fun σ H R=>ta σ H fun vs H1=>∃l1 l2 xs ys,vs=[.ref l1,.ref l2]/\SqL K H1 l1 xs/\SqL K H1 l2 ys/\R (Itz K l1 l2) H1
theorem b4s{a b:Expr}(hg:Gl X "zip")(hm:X.mg "zip"=none)(ha:PA X [a,b] ta)(hs:starEach [a,b] X.env=(false,eval a X.env)::starEach [b] X.env)(hp:(backTo pos (starEach [b] X.env)).any (·.1)=false):
 PI X (.Tuple elts k tpos) (.Call (.Name "zip" p) [a,b] [] pos) (b9y X.K ta):=by
 intro pins s σ H R I h;refine Call_ (X1 I hg hm boot_zip (PyProof.Rows.callWith_type1 (thn (ha pos pins s σ H _ I h) fun us s1 ⟨vs,H1,I1,r1,q1⟩=>?_) hs hp))
 obtain⟨l1,l2,xs,ys,e,hq1,hq2,q⟩:=q1;subst e;obtain⟨u,u',rfl,ru,ru'⟩:=a2V r1;cases ru;cases ru';obtain⟨its,rv,pl,hz⟩:=I1.list hq1;obtain⟨its',rv',pl',hz'⟩:=I1.list hq2;refine call_zip_2 pl.isList pl'.isList fun h' a1 a2 a3 a4 a5 a6 hk=>?_
 have I2:Inv X pins σ H1 {s1 with heap:=h'}:=I1.kept (t':=s1.toks) hk
 have lt1:l1<s1.heap.objs.size:=by obtain⟨o,e,_⟩:=pl.isList;exact Heap.lt_size e
 have lt2:l2<s1.heap.objs.size:=by obtain⟨o,e,_⟩:=pl'.isList;exact Heap.lt_size e
 refine wpAny_pyIter_zip a1 ⟨s1.heap.objs.size+4,[s1.heap.objs.size+4,s1.heap.objs.size+2,s1.heap.objs.size+3,s1.heap.objs.size,s1.heap.objs.size+1],_,_,H1,rfl,I2,a8z _ _ _ _ _ l1 l2 (zipApart_new lt1 lt2),⟨a1,a2,⟨_,_,a3⟩,a4,a5⟩,fun b hb=>?_,q⟩
 have hb':s1.heap.objs.size<=b:=by
  simp only[aE,not_mem_nil,or_false] at hb
  rcases hb with rfl|rfl|rfl|rfl|rfl
  · exact Nat.le_add_right _ _
  · exact Nat.le_add_right _ _
  · exact Nat.le_add_right _ _
  · exact aj _
  · exact Nat.le_add_right _ _
 exact I1.fpOk hb' (I1.hok.fresh hb')
end
noncomputable def C9(n:Nat)(x:Str):Str:=⟨(List.replicate n x.cps).foldl (· ++ ·) #[]⟩
theorem a3n(x:Array Nat):∀(n:Nat) (a:Array Nat),((List.replicate n x).foldl (· ++ ·) a).toList=a.toList++(List.replicate n x.toList).flatten
 |0,a=>by simp
 |n+1,a=>by rw[replicate_succ,foldl_cons,a3n x n,replicate_succ,flatten_cons];simp
theorem a4P(n:Nat)(x:Str):(C9 n x).cps.toList=(List.replicate n x.cps.toList).flatten:=by
 unfold C9;rw[a3n];simp
theorem a1T(n:Nat)(x:Str):(C9 n x).length=x.length*n:=by
 show(C9 n x).cps.size=x.cps.size*n
 rw[←Array.length_toList,a4P];simp[List.length_flatten,Nat.mul_comm]
theorem a5Q(x:Str):C9 1 x=x:=by
 unfold C9;simp
theorem a5R(n:Nat)(x:Str)(h:x.length=0):C9 n x=x:=by
 have h1:(C9 n x).cps.size=0:=by
  have:=a1T n x
  rw[h,Nat.zero_mul] at this;exact this
 have h2:x.cps.size=0:=h
 have e1:=Array.eq_empty_of_size_eq_zero h1;have e2:=Array.eq_empty_of_size_eq_zero h2;cases x
 simp only at e2
 subst e2;generalize hq:C9 n ⟨#[]⟩=q at e1;cases q
 simp only at e1
 rw[e1]
variable{A:Around}{ys:List V}{us:List Value}
section
def b6Z:R2:=fun x y H Q=>∃t k,x=.str t/\y=.int k/\ -(2^63)<=k/\k<2^63/\t.length*k.toNat<=sizeLine/\Q (.str (C9 k.toNat t)) H
theorem b2k:OpR X (binaryOp .Mult) b6Z:=by
 intro pins s σ H x y v u Q I rx ry h;obtain⟨t,k,rfl,rfl,h1,h2,h3,q⟩:=h;obtain⟨a,rfl⟩:=rx;obtain⟨b,rfl⟩:=ry;refine P.mul_str ?_ ?_ ?_ ?_
 · rw[bq (by omega),bq (by omega)];rfl
 · intro h4 h5 h6
   have hk:0<k:=by omega
   have h8:(t.length:Int)*k<=2^62:=by
    have h9:((t.length*k.toNat:Nat):Int)<=((sizeLine:Nat):Int):=Int.ofNat_le.mpr h3
    rw[Int.natCast_mul,Int.toNat_of_nonneg (by omega),sizeLine_eq] at h9
    exact Int.le_trans h9 (by decide)
   have h7:(t.length:Int)<=(2^63-1)/k:=by
    rw[Int.le_ediv_iff_mul_le hk];omega
   omega
 · intro h4 h5;simp only[Builtin.Str.tooLong,decide_eq_false_iff_not];omega
 · by_cases c1:k<1
   · rw[ay c1]
     have:k.toNat=0:=by omega
     rw[this] at q;exact⟨Nat.zero_le _,.str _,H,I.tok _,⟨_,rfl⟩,q⟩
   · rw [az c1]
     by_cases c2:(k==1||t.length==0)=true
     · rw [ay c2]
       have e:C9 k.toNat t=t:=by
        rw[Bool.or_eq_true] at c2
        rcases c2 with c|c
        · have:k=1:=by simpa using c
          subst this;exact a5Q t
        · exact a5R _ _ (by simpa using c)
       rw[e] at q;exact⟨.str _,H,I,⟨_,rfl⟩,q⟩
     · rw[az c2];refine⟨?_,.str _,H,I.tok _,⟨_,rfl⟩,q⟩
       show(C9 k.toNat t).length<=sizeLine
       rw[a1T];exact h3
def a0x:List V->List V->Bool
 |[],[]=>true
 |x::xs,y::ys=>eqV x y&&a0x xs ys
 |_,_=>false
def a0k(xs ys:List V)(j:Nat):Bool:=match xs[j]?,ys[j]? with
 |some x,some y=>eqV x y
 |_,_=>false
theorem a2I:∀(xs ys:List V),xs.length=ys.length->(List.range xs.length).all (a0k xs ys)=a0x xs ys
 |[],[],_=>rfl
 |[],_::_,h=>by simp at h
 |_::_,[],h=>by simp at h
 | x::xs,y::ys,h=>by
  rw[length_cons,List.range_succ_eq_map,all_cons,all_map];have ih:=a2I xs ys (by simpa using h)
  have e:a0k (x::xs) (y::ys)∘Nat.succ=a0k xs ys:=by
   funext j
   simp[a0k]
  rw[e,ih];simp[a0k,a0x]
theorem a2x:∀{xs ys:List V},xs.length≠ys.length->a0x xs ys=false
 |[],[],h=>absurd rfl h
 |[],_::_,h=>rfl
 |_::_,[],h=>rfl
 |x::xs,y::ys,h=>by
  rw[a0x,a2x (fun e=>h (by simp[e])),Bool.and_false]
theorem a6P{xs:List V}{vs:List Value}(r:k8 xs us)(r':k8 ys vs)(f:xs.all L8=true)(f':ys.all L8=true)(j:Nat)(h1:j<us.toArray.size)(h2:j<vs.toArray.size):SeqAt.EqAt A s us.toArray[j] vs.toArray[j] (a0k xs ys j):=by
 have l1:=r.length;have l2:=r'.length
 have j1:j<xs.length:=by simp at h1;omega
 have j2:j<ys.length:=by simp at h2;omega
 obtain⟨u,hu,ru⟩:=r.get (af j1)
 obtain⟨v,hv,rv⟩:=r'.get (af j2)
 have e1:us.toArray[j]=u:=by
  have:=(ac.mp hu).2
  simpa using this
 have e2:vs.toArray[j]=v:=by
  have:=(ac.mp hv).2
  simpa using this
 rw[e1,e2]
 have e3:a0k xs ys j=eqV xs[j] ys[j]:=by
  unfold a0k;rw[af j1,af j2]
 rw[e3];exact b0I ru rv (bg.mp f _ (bj j1)) (bg.mp f' _ (bj j2))
def b7b(K:PySem.W.Frag)(neg:Bool):R2:=fun x y H Q=>∃a b xs ys,x=.ref a/\y=.ref b/\SqL K H a xs/\SqL K H b ys/\xs.all L8=true/\ys.all L8=true/\Q (.bl (a0x xs ys !=neg)) H
theorem b4I(hu:X.A.units<cLine):OpR X (compareOp .NotEq) (b7b X.K true):=by
 intro pins s σ H x y v u Q I rx ry h;obtain⟨a,b,xs,ys,rfl,rfl,q1,q2,f1,f2,q⟩:=h;cases rx;cases ry;obtain⟨its,r,pl,hz⟩:=I.list q1;obtain⟨its',r',pl',hz'⟩:=I.list q2;have l1:=r.length;have l2:=r'.length
 by_cases hl:xs.length=ys.length
 · refine SeqAt.RcNeAt.lists (e:=a0k xs ys) pl.isList pl'.isList (by simp;omega) hu (fun j h1 h2=>a6P r r' f1 f2 j h1 h2) X.prog X.w _ _ ⟨.bl _,H,I,rfl,?_⟩
   have e:its.toArray.size=xs.length:=by simp;omega
   rw[e,a2I xs ys hl];rw[show(a0x xs ys !=true)=!a0x xs ys by cases a0x xs ys<;>rfl] at q
   exact q
 · refine SeqAt.RcNeAt.lists_lengths pl.isList pl'.isList (by simp;omega) hu X.prog X.w _ _ ⟨.bl _,H,I,rfl,?_⟩
   rw[a2x hl] at q;exact q
theorem b4M(hu:X.A.units<cLine):OpR X (compareOp .Eq) (b7b X.K false):=by
 intro pins s σ H x y v u Q I rx ry h;obtain⟨a,b,xs,ys,rfl,rfl,q1,q2,f1,f2,q⟩:=h;cases rx;cases ry;obtain⟨its,r,pl,hz⟩:=I.list q1;obtain⟨its',r',pl',hz'⟩:=I.list q2;have l1:=r.length;have l2:=r'.length
 by_cases hl:xs.length=ys.length
 · refine SeqAt.RcAt.lists (e:=a0k xs ys) pl.isList pl'.isList (by simp;omega) hu (fun j h1 h2=>a6P r r' f1 f2 j h1 h2) X.prog X.w _ _ ⟨.bl _,H,I,rfl,?_⟩
   have e:its.toArray.size=xs.length:=by simp;omega
   rw[e,a2I xs ys hl];rw[show(a0x xs ys !=false)=a0x xs ys by cases a0x xs ys<;>rfl] at q
   exact q
 · refine SeqAt.RcAt.lists_lengths pl.isList pl'.isList (by simp;omega) hu X.prog X.w _ _ ⟨.bl _,H,I,rfl,?_⟩
   rw[a2x hl] at q;exact q
end
end L2
namespace PySem
open Sem (wp)
theorem a4a:typeLookup (.type "list") "keys"=pure none:=by rw[typeLookup_type,builtinLookup_eq_fast];kernel_rfl
variable{A:Around}{s:Shared}{xs:Array Value}
theorem a7X{prog:Program}{w:World}{E:Value->Shared->Prop}{a:Addr}{o:Obj}{k:Nat}{Q:Option Value->Shared->Prop}
 (hx:s.heap.get? a=some o) (hc:o.cls=.type "list") (hdat:o.data=.seq xs k) (hd:o.dict=none) (hA:A.handled=none)
 (h:∀h' tk,(∀b ob,s.heap.get? b=some ob->h'.get? b=some ob)->Q none {s with heap:=h',toks:=tk}):wpAny (model prog w) A (getAttr? (.ref a) "keys") Q E s:=by
 obtain⟨c,dct,dat,sl⟩:=o
 simp only at hc hdat hd
 subst hc hdat hd;obtain⟨hp,g,d,tk,os⟩:=s
 have hT:∀tk',(⟨hp,g,d,tk',os⟩:Shared).TypeIs (.ref a) "list":=fun _=>⟨_,hx,rfl⟩
 have f1:=sub_AttributeError;have f3:=F.slot_list_getattribute.lookup;have f4:=F.slot_list_getattribute.bind (.ref a);have f5:=am_list_getattr_none;unfold getAttr? getAttrBy? getAttrBy
 repeat (any_goals (first|assumption|exact hT _|((with_reducible show wpAny _ _ (call (Value.builtin "list.__getattribute__") _ _) _ _ _);refine call_meets F.slot_list_getattribute (hT _) am_entry_list_getattribute (F.args_list_getattribute_2 _ _) (meets_getattribute_miss_list a xs k sl "keys" _ a4a (by decide) (by decide)) ⟨hx,hA,fun h' tk' e hx'=>?_⟩)|wp_step))
 obtain⟨t2,u2,he⟩:=hx'.there
 show wpAny _ _ (getattributeRaised _ _ _ _ _ _ _) _ _ _
 unfold getattributeRaised
 repeat (any_goals (first|assumption|wp_step))
 exact h _ _ hx'.keeps
open PyProof.Rows
theorem G4:plainId "dict.update.loop"=true:=by decide+kernel
theorem Y2:entryFor table "dict.update.loop"=some Builtin.«dict.update.loop»:=entryFor_of_tree (by kernel_rfl)
variable{a:Value}{b:Value}{l:Addr}{items:Array Value}{Q:Value->Shared->Prop}
section
variable{prog:Program}{w:World}{K:Type}[DecidableEq K]{knd:KeyKind prog w K}
theorem a5Z{E:Value->Shared->Prop}{t:Addr}{Q:List Value->Shared->Prop}(ht:IsTup s.heap t #[a,b])(h:Q [a,b] s):wpAny (model prog w) A (Builtin.Dict.pairItems (.ref t)) Q E s:=by
 obtain⟨o,ho,hc,n,hd⟩:=ht;obtain⟨hp,g,d,tk,os⟩:=s
 have hT:(⟨hp,g,d,tk,os⟩:Shared).TypeIs (.ref t) "tuple":=⟨_,ho,hc⟩
 unfold Builtin.Dict.pairItems
 repeat (any_goals (first|assumption|wp_step))
 rw[hd];exact wpAny_pure (wpAny_pure h)
theorem a8y{d it:Addr}{ps:List (K×Value)}(n1:d≠it)(n2:d≠l)(n3:it≠l)(hsz:items.size=ps.length)(k:Nat):∀(i:Nat) (kvs:List (K×Value)),ps.length-i=k->i<=ps.length->MeetsIn prog w (Builtin.«dict.update.loop» ⟨[.ref d,.ref it,rawInt i,.none],[]⟩)
 (fun A R s=>A.handled=none/\s.heap.IsListIter it l i/\s.heap.IsList l items/\s.heap.DictOf knd d kvs/\kvs.length+(ps.length-i)<=sizeLine∧
  (∀(j:Nat) (p:K×Value),ps[j]? =some p->∃t kv,items[j]? =some (.ref t)/\t≠d/\t≠it/\IsTup s.heap t #[kv,p.2]/\knd.is p.1 kv=true)∧
  ∀h' tk,h'.DictOf knd d (merged kvs (ps.drop i))->(∀b o,b≠d->b≠it->s.heap.get? b=some o->h'.get? b=some o)->R (.ok (.ret .none)) {s with heap:=h',toks:=tk}):=by
 induction k with
 |zero=>
  intro i kvs hk hi A R s h;obtain⟨hA,hit,hl,hd,hz,hq,h⟩:=h
  have hx:items[i]? =none:=by rw[Array.getElem?_eq_none];omega
  have hdr:ps.drop i=[]:=List.drop_eq_nil_of_le (by omega)
  rw[hdr] at h;unfold Builtin.«dict.update.loop»;refine wpAny_bind (wpAny_pyNext_list_end hA hit hl hx fun h' eb=>?_)
  refine wpAny_bind ?_
  unfold Builtin.Dict.addKeywords;refine wpAny_pure (wpAny_pure (h h' s.toks ?_ fun b o n1 n2 e=>eb b o n2 e))
  exact hd.extBut eb n1
 | succ k ih=>
  intro i kvs hk hi A R s h;obtain⟨hA,hit,hl,hd,hz,hq,h⟩:=h
  have hlt:i<ps.length:=by omega
  obtain⟨t,kv,e1,e2,e3,e4,e5⟩:=hq i ps[i] (af hlt)
  have hdr:ps.drop i=ps[i]::ps.drop (i+1):=List.drop_eq_getElem_cons hlt
  unfold Builtin.«dict.update.loop»;refine wpAny_bind (wpAny_pyNext_list_item hit hl e1 fun h1 st sb=>?_)
  have k1:∀b o,b≠it->s.heap.get? b=some o->h1.get? b=some o:=fun b o n e=>(sb.2 b n).trans e
  refine wpAny_bind (wpAny_holding (wpAny_bind (wpAny_tryCatch (a5Z (show IsTup h1 t #[kv,ps[i].2] from let⟨o,ho,r⟩:=e4;⟨o,k1 t o e3 ho,r⟩) ?_))))
  refine wpAny_holding (wpAny_dictSet_pairs (hsz:=by omega) e5 (hd.sameBut sb n1) fun h2 dd sb2=>?_)
  have k2:∀b o,b≠d->b≠it->s.heap.get? b=some o->h2.get? b=some o:=fun b o n n' e=>(sb2.2 b n).trans (k1 b o n' e)
  refine wpAny_pure ⟨plainId_quiet G4 _,codeAny_builtin Y2 (by
   rw[Around.under_plainId G4 _,show((i:Nat):Int)+1=((i+1:Nat):Int) by omega]
   refine ih (i+1) (stored kvs ps[i].1 ps[i].2) (by omega) (by omega) A R _ ⟨hA,?_,?_,dd,?_,fun j p hj=>?_,fun h' tk d1 d2=>?_⟩
   · obtain⟨o,ho,r⟩:=st;exact⟨o,(sb2.2 it n1.symm).trans ho,r⟩
   · obtain⟨o,ho,r⟩:=hl;exact⟨o,k2 l o n2.symm n3.symm ho,r⟩
   · have:=stored_length_le kvs ps[i].1 ps[i].2
     omega
   · obtain⟨t,kv,q1,q2,q3,⟨o,ho,r⟩,q5⟩:=hq j p hj;exact⟨t,kv,q1,q2,q3,⟨o,k2 t o q2 q3 ho,r⟩,q5⟩
   · refine h h' tk ?_ fun b o n n' e=>d2 b o n n' (k2 b o n n' e)
     rw[hdr];exact d1)⟩
theorem a1B{E:Value->Shared->Prop}{ol:Obj}{n:Nat}{ps:List (K×Value)}(hA:A.handled=none)(hx:s.heap.get? l=some ol)(hc:ol.cls=.type "list")(hdat:ol.data=.seq items n)(hd:ol.dict=none)(hsz:items.size=ps.length)(hz:ps.length<=sizeLine)
 (hq:∀(j:Nat) (p:K×Value),ps[j]? =some p->∃t kv,items[j]? =some (.ref t)/\IsTup s.heap t #[kv,p.2]/\knd.is p.1 kv=true)
 (h:∀h' tk,h'.DictOf knd s.heap.objs.size (merged [] ps)->(∀b o,s.heap.get? b=some o->h'.get? b=some o)->Q (.ref s.heap.objs.size) {s with heap:=h',toks:=tk}):
 wpAny (model prog w) A (call (.type "dict") [.ref l]) Q E s:=by
 refine callType_codes (Q₁:=fun obj s₁=>obj=.ref s.heap.objs.size/\s₁={s with heap:=s.heap.push {cls:=.type "dict",data:=.dict #[]}}) F.kt_called_dict (F.kt_typeCall_dict_1 _) F.entry_dict_init (kt_code_dict_new _ ⟨rfl,rfl⟩) ?_
 rintro obj s₁ ⟨rfl,rfl⟩
 have hnew:(s.heap.push {cls:=.type "dict",data:=.dict #[]}).DictOf knd s.heap.objs.size []:=Heap.DictOf.new s.heap
 have hx1:(s.heap.push {cls:=.type "dict",data:=.dict #[]}).get? l=some ol:=Heap.get?_push_of_some _ hx
 have ty:Shared.TypeIs {s with heap:=s.heap.push {cls:=.type "dict",data:=.dict #[]}} (.ref l) "list":=⟨_,hx1,hc⟩
 have nl:s.heap.objs.size≠l:=fun e=>absurd (Heap.lt_size hx) (by rw[e];exact aN _)
 refine⟨hnew.typeIs,F.args_dict_init_2 _ _,?_⟩
 unfold Builtin.«dict.__init__»;refine wpAny_bind ?_
 unfold Builtin.Dict.selfAndRest;refine wpAny_bind (wpAny_notOrdered_dict hnew.typeIs ?_)
 show wpAny _ _ (pure (s.heap.objs.size,[Value.ref l])) _ _ _
 refine wpAny_pure ?_
 show wpAny _ _ (Builtin.Dict.updateFrom "dict.__init__" s.heap.objs.size (.ref l) [] .none) _ _ _
 unfold Builtin.Dict.updateFrom;refine wpAny_bind (wpAny_typeOf ty ?_)
 rw[ay (by decide)]
 refine wpAny_bind (a7X hx1 hc hdat hd ?_ fun h1 tk1 k1=>?_)
 · exact hA
 · rw [ay (show(none:Option Value).isNone=true from rfl)]
   have hx2:h1.get? l=some ol:=k1 l _ hx1
   have hd2:h1.DictOf knd s.heap.objs.size []:=hnew.keep k1
   have lt1:s.heap.objs.size<h1.objs.size:=by
    obtain⟨o,_,_,ho,_⟩:=hd2;exact Heap.lt_size ho
   refine wpAny_bind (wpAny_rule (wpAny_bind (wpAny_pyIter_list (items:=items) ⟨ol,hx2,hc,n,hdat⟩ ?_)))
   refine wpAny_pure ⟨plainId_quiet G4 _,codeAny_builtin Y2 (by
    rw[Around.under_plainId G4 _];refine a8y (knd:=knd) (d:=s.heap.objs.size) (it:=h1.objs.size) (l:=l) (ps:=ps) (Nat.ne_of_lt lt1) nl (fun e=>absurd (Heap.lt_size hx2) (by rw[←e];exact aN _)) hsz _ 0 [] rfl (Nat.zero_le _) A.in1 _ _ ⟨hA,⟨_,Heap.get?_push_size _ rfl,rfl,rfl⟩,⟨ol,Heap.get?_push_of_some _ hx2,hc,n,hdat⟩,hd2.push _,by simpa using hz,fun j p hj=>?_,fun h' tk d1 d2=>⟨rfl,?_⟩⟩
    · obtain⟨t,kv,q1,⟨o,ho,r⟩,q3⟩:=hq j p hj;have ho1:=k1 t o (Heap.get?_push_of_some _ ho)
      exact⟨t,kv,q1,fun e=>absurd (Heap.lt_size ho) (by rw[e];exact aN _),fun e=>absurd (Heap.lt_size ho1) (by rw[e];exact aN _),⟨o,Heap.get?_push_of_some _ ho1,r⟩,q3⟩
    · refine h h' tk (by rwa [drop_zero] at d1) fun b o e=>d2 b o (fun z=>absurd (Heap.lt_size e) (by rw[z];exact aN _)) (fun z=>?_) (Heap.get?_push_of_some _ (k1 b o (Heap.get?_push_of_some _ e)))
      have:=Heap.lt_size (k1 b o (Heap.get?_push_of_some _ e))
      rw[z] at this;exact absurd this (aN _))⟩
end
end PySem
namespace L2
open PySem PySem.Spec PyProof.Rows
def PrT(H:Hp):List V->List (Key×V)->Prop:=Paired fun y p=>∃t,y=.ref t/\H t=some (.tup [kV p.1,p.2])
section
variable{X:Cx}
theorem a9n{pins:List (Addr×Obj)}{σ:St}{H:Hp}{s:Shared}(I:Inv X pins σ H s):∀{ys:List V} {kvs:List (Key×V)} {its:List Value},PrT H ys kvs->k8 ys its->∃ps:List (Key×Value),KV kvs ps/\ps.length=its.length/\∀(j:Nat) (p:Key×Value),ps[j]? =some p->∃t kv,its[j]? =some (.ref t)/\IsTup s.heap t #[kv,p.2]/\(v8 X.prog X.w).is p.1 kv=true
 |_,_,_,.nil,.nil=>⟨[],.nil,rfl,fun j p h=>by simp at h⟩
 | _,_,_,.cons h t,.cons r q=>by
  obtain⟨ps,k1,k2,k3⟩:=a9n I t q;obtain⟨a,rfl,ha⟩:=h;cases r;obtain⟨_,its,rv,pa⟩:=I.hok a _ ha;obtain⟨u,w,rfl,ru,rw'⟩:=a2V rv;refine⟨(_,w)::ps,.cons ⟨rfl,rw'⟩ k1,by rw[length_cons,length_cons,k2],fun j p hj=>?_⟩
  cases j with
  |zero=>
   cases hj;exact⟨a,u,rfl,pa.tup,a0i ru⟩
  |succ j=>exact k3 j p hj
theorem a4A(hc:X.calm=true):E9 X (.type "dict") (fun xs H Q=>∃p ys kvs,xs=[.ref p]/\SqL X.K H p ys/\PrT H ys kvs/\∀d,H d=none->Q (.ref d) (upd H d (.dK (U8 [] kvs)))):=by
 intro pins s σ H xs us Q I r h;obtain⟨p,ys,kvs,rfl,hq,pr,q⟩:=h;obtain⟨u,rfl,rx⟩:=S9 r;cases rx;obtain⟨its,rv,pl,hz⟩:=I.list hq;obtain⟨o,n,e,c,hd,dat⟩:=pl;obtain⟨ps,k1,k2,k3⟩:=a9n I pr rv;have l1:=rv.length;have l2:=Paired.length pr;refine a1B (knd:=v8 X.prog X.w) (items:=its.toArray) (ps:=ps) (I.ok.hd hc) e c dat hd (by simp[k2]) (by omega) (fun j p hj=>?_) fun h' tk dd kp=>?_
 · obtain⟨t,kv,q1,q2,q3⟩:=k3 j p hj;exact⟨t,kv,by simpa using q1,q2,q3⟩
 · have hl:=Q8 kvs [];rw[length_nil] at hl;exact⟨.ref s.heap.objs.size,_,I.laid (t':=tk) (fun b o e=>kp b o e) (aj _) (a6s (by omega) (beq_eq_false_iff_ne.mpr (Nat.ne_of_gt I.big)) (k1.merge .nil) dd),rfl,q _ (I.hok.fresh (aj _))⟩
end
end L2
namespace PySem
open Sem (wp)
variable{l:Addr}{items:Array Value}{Q:Value->Shared->Prop}
section
variable{prog:Program}{w:World}{A:Around}{E:Value->Shared->Prop}{s:Shared}
theorem b2u:typeLookup (.type "list_reverseiterator") "__len__"=pure none:=by rw[typeLookup_type,builtinLookup_eq_fast];kernel_rfl
theorem a9O:typeLookup (.type "list_reverseiterator") "__length_hint__"=pure (some (.builtin "list_reverseiterator.__length_hint__")):=by rw[typeLookup_type,builtinLookup_eq_fast];kernel_rfl
theorem a8Y{r:Addr}(hT:s.TypeIs (.ref r) "list_reverseiterator"){Q:Bool->Shared->Prop}(h:Q false s):wpAny (model prog w) A (Builtin.List.listLengthHint (.ref r)) Q E s:=by
 unfold Builtin.List.listLengthHint;refine wpAny_bind (wpAny_specialOf hT b2u ?_)
 show wpAny _ A (specialOf (Value.ref r) (Str.ofString "__length_hint__")>>=_) _ _ _
 refine wpAny_bind (wpAny_specialOf hT a9O ?_)
 generalize hid:("list_reverseiterator.__length_hint__":String)=id0
 wp_delta
 rw[show splitId id0=some ("list_reverseiterator","__length_hint__") from by subst hid;decide+kernel]
 subst hid;refine wpAny_bind (wpAny_isInstance (T:="list_reverseiterator") (b:=true) hT (by rw[isSubtype_type];kernel_rfl) ?_)
 refine wpAny_ite_split (fun hab=>absurd hab (by decide)) (fun _=>?_)
 refine wpAny_ite_split (fun _=>?_) (fun hab=>absurd (by decide+kernel) hab)
 refine wpAny_ite_split (fun hab=>absurd hab (by decide)) (fun _=>?_)
 exact wpAny_pure h
theorem a8X{R:Result->Shared->Prop}{S I:Addr}(hh:A.handled=none)(nSI:S≠I)(nS:l≠S)(nI:l≠I)(hn:items.size<=sizeLine)(res:Value){h0:Heap}
 (done:∀(g:Heap) (acc:Array Value) (c:Nat),(∀b o,b≠S->b≠I->h0.get? b=some o->g.get? b=some o)->g.get? S=some {cls:=.type "list",dict:=none,data:=.seq acc c,slots:= #[]}->acc.toList=items.toList.reverse->R (.ok (.ret res)) {s with heap:=g}):
 ∀(k i:Nat) (h:Heap) (c:Nat) (acc:Array Value),items.size-i=k->i<=items.size->h.IsRevIter I l ((items.size:Int)-1-(i:Int))->h.IsList l items->(∀b o,b≠S->b≠I->h0.get? b=some o->h.get? b=some o)→
  h.get? S=some {cls:=.type "list",dict:=none,data:=.seq acc c,slots:= #[]}->acc.toList=items.toList.reverse.take i->codeAny (model prog w) A (.builtin "list.extend.loop" ⟨[.ref S,.ref I,res],[]⟩) R {s with heap:=h}:=by
 intro k
 induction k with
 |zero=>
  intro i h c acc hk hi st hl kp hS ha
  have e:(items.size:Int)-1-(i:Int)= -1:=by omega
  rw[e] at st;refine codeAny_builtin F.entry_extend_loop ?_
  rw[Around.under_plainId F.plain_extend_loop _]
  show wpAny _ A.in1 (pyNext (.ref I)>>=_) _ _ _
  refine wpAny_bind (wpAny_pyNext_rev_end (s:={s with heap:=h}) (A:=A.in1) hh st fun g eb=>wpAny_pure (done g acc c (fun b o b1 b2 e=>eb b o b2 (kp b o b1 b2 e)) (eb S _ nSI hS) ?_))
  rw[ha];exact ba (by rw[length_reverse,Array.length_toList];omega)
 | succ k ih=>
  intro i h c acc hk hi st hl kp hS ha
  have li:i<items.size:=by omega
  have e:(items.size:Int)-1-(i:Int)=((items.size-1-i:Nat):Int):=by omega
  have hx:items[items.size-1-i]? =some (items[items.size-1-i]'(by omega)):=Array.getElem?_eq_getElem (by omega)
  have zs:acc.size=i:=by rw[←Array.length_toList,ha,aK,length_reverse,Array.length_toList];omega
  rw[e] at st;refine codeAny_builtin F.entry_extend_loop ?_
  rw[Around.under_plainId F.plain_extend_loop _]
  show wpAny _ A.in1 (pyNext (.ref I)>>=_) _ _ _
  refine wpAny_bind (wpAny_pyNext_rev_item (s:={s with heap:=h}) st hl hx fun g st2 k2=>?_)
  have e2:((items.size-1-i:Nat):Int)-1=(items.size:Int)-1-((i+1:Nat):Int):=by omega
  rw[e2] at st2;generalize items[items.size-1-i]'(by omega)=x at hx⊢
  have kk:∀b o,b≠I->h.get? b=some o->g.get? b=some o:=fun b o hb e=>(k2.2 b hb).trans e
  have hS2:=kk S _ nSI hS
  have up:∀b o,b≠S->g.get? b=some o->(g.update S (Obj.mapSeq (·.push x))).get? b=some o:=fun b o hb e=>(Heap.get?_update_other _ _ (Ne.symm hb)).trans e
  show wpAny _ A.in1 (updateSeq S (·.push x)>>=_) _ _ _
  refine wpAny_bind (wpAny_updateSeq hS2 rfl (wpAny_pure ⟨plainId_quiet F.plain_extend_loop _,?_⟩) (by rw[zs];omega) (by show(acc.push x).size<=sizeLine+1;rw[Array.size_push,zs];omega))
  refine ih (i+1) _ _ (acc.push x) (by omega) li (st2.at fun o e=>up I o (Ne.symm nSI) e) (hl.at fun o e=>up l o nS (kk l o nI e)) (fun b o b1 b2 e=>up b o b1 (kk b o b2 (kp b o b1 b2 e))) (Heap.get?_update_self _ hS2 rfl) ?_
  have lr:i<items.toList.reverse.length:=by rw[length_reverse,Array.length_toList];exact li
  rw[Array.toList_push,ha,List.take_succ_eq_append_getElem lr];congr 2
  have:items.toList.reverse[i]? =some x:=by
   rw[List.getElem?_reverse (by rw[Array.length_toList];exact li),Array.length_toList,Array.getElem?_toList]
   exact hx
  exact(ax ((af lr).symm.trans this)).symm
theorem b1M{R:Result->Shared->Prop}{I S:Addr}{c0:Nat}(hh:A.handled=none)(hv:s.heap.IsRevIter I l ((items.size:Int)-1))(hl:s.heap.IsList l items)(nSI:S≠I)(nS:l≠S)(nI:l≠I)(res:Value)(hS:s.heap.get? S=some {cls:=.type "list",data:=.seq #[] c0})(hn:items.size<=sizeLine)
 (done:∀(g:Heap) (acc:Array Value) (c:Nat),(∀b o,b≠S->b≠I->s.heap.get? b=some o->g.get? b=some o)->g.get? S=some {cls:=.type "list",dict:=none,data:=.seq acc c,slots:= #[]}->acc.toList=items.toList.reverse->R (.ok (.ret res)) {s with heap:=g}):
 wpAny (model prog w) A.in1 (Builtin.List.listExtendWith (.ref S) (.ref I) res) (fun fin s'=>match fin with|.done f=>R (.ok f) s'|.again c'=>c'.quiet=true/\codeAny (model prog w) A c' R s') (fun e s'=>R (.error e) s') s:=by
 unfold Builtin.List.listExtendWith;refine wpAny_bind (wpAny_typeOf (T:="list_reverseiterator") hv.typeIs ?_)
 have n1:Builtin.List.listSameRef (.ref S) (.ref I)=false:=by simp[Builtin.List.listSameRef,nSI]
 have n2:(Value.type "list_reverseiterator"==Value.type "list")=false:=by decide
 have n3:(Value.type "list_reverseiterator"==Value.type "tuple")=false:=by decide
 simp only[n1,n2,n3,Bool.or_false,Bool.false_eq_true,if_false];refine wpAny_bind (wpAny_pyIter_revIter hv ?_)
 refine wpAny_bind (wpAny_holding (a8Y hv.typeIs ?_))
 refine wpAny_ite_split (fun hab=>absurd hab (by decide+kernel)) fun _=>wpAny_pure ⟨plainId_quiet F.plain_extend_loop _,?_⟩
 exact a8X (s:=s) (h0:=s.heap) hh nSI nS nI hn res done items.size 0 s.heap c0 #[] (Nat.sub_zero _) (Nat.zero_le _) (by rw[Int.ofNat_zero,Int.sub_zero];exact hv) hl (fun _ _ _ _ e=>e) hS rfl
theorem a8Z{I:Addr}(hh:A.handled=none)(hv:s.heap.IsRevIter I l ((items.size:Int)-1))(hl:s.heap.IsList l items)(nI:l≠I)(hn:items.size<=sizeLine)
 (done:∀(g:Heap) (acc:Array Value) (c:Nat),(∀b o,b≠I->s.heap.get? b=some o->g.get? b=some o)->g.get? s.heap.objs.size=some {cls:=.type "list",dict:=none,data:=.seq acc c,slots:= #[]}->acc.toList=items.toList.reverse->Q (.ref s.heap.objs.size) {s with heap:=g}):
 wpAny (model prog w) A (call (.type "list") [.ref I]) Q E s:=by
 refine callType_codes (Q₁:=fun o s1=>o=.ref s.heap.objs.size/\s1={s with heap:=s.heap.push {cls:=.type "list",data:=.seq #[]}}) F.called_list (F.typeCall_list_1 _) F.entry_list_init (code_list_new _ ⟨rfl,rfl⟩) fun o s1 x=>?_
 obtain⟨rfl,rfl⟩:=x
 have hS:(s.heap.push {cls:=.type "list",data:=.seq #[]}).get? s.heap.objs.size=some {cls:=.type "list",data:=.seq #[]}:=Heap.get?_push_size _ rfl
 have lr:I<s.heap.objs.size:=let⟨_,ho,_⟩:=hv;Heap.lt_size ho
 have ld:l<s.heap.objs.size:=let⟨_,ho,_⟩:=hl;Heap.lt_size ho
 refine⟨⟨_,hS,rfl⟩,F.args_list_init_2 _ _,?_⟩
 show wpAny _ _ (do let old←Builtin.List.listItems (.ref s.heap.objs.size);Builtin.List.listUpdate (.ref s.heap.objs.size) (fun _=> #[]);letGo old.toList.reverse;Builtin.List.listExtendWith (.ref s.heap.objs.size) (.ref I) .none) _ _ _
 refine wpAny_bind ?_
 unfold Builtin.List.listItems;refine wpAny_bind (wpAny_seqItems hS rfl (wpAny_pure ?_))
 show wpAny _ _ (updateSeq s.heap.objs.size (fun _=> #[])>>=fun _=>letGo (#[]:Array Value).toList.reverse>>=fun _=>Builtin.List.listExtendWith (.ref s.heap.objs.size) (.ref I) .none) _ _ _
 refine wpAny_bind (wpAny_updateSeq hS rfl (wpAny_bind (wpAny_letGo ?_)))
 have hS2:=Heap.get?_update_self (Obj.mapSeq (fun _=>(#[]:Array Value))) hS rfl
 have up:∀b o,b≠s.heap.objs.size->s.heap.get? b=some o->((s.heap.push {cls:=.type "list",data:=.seq #[]}).update s.heap.objs.size (Obj.mapSeq (fun _=>(#[]:Array Value)))).get? b=some o:=fun b o hb e=>(Heap.get?_update_other _ _ (Ne.symm hb)).trans (Heap.get?_push_of_some _ e)
 refine b1M (A:=A.in1) hh (hv.at fun o e=>up I o (Nat.ne_of_lt lr) e) (hl.at fun o e=>up l o (Nat.ne_of_lt ld) e) (Nat.ne_of_gt lr) (Nat.ne_of_lt ld) nI .none hS2 hn fun g acc c kp hS3 ha=>⟨rfl,?_⟩
 exact done g acc c (fun b o hb e=>kp b o (Nat.ne_of_lt (Heap.lt_size e)) hb (up b o (Nat.ne_of_lt (Heap.lt_size e)) e)) hS3 ha
end
end PySem
namespace L2
open PySem PySem.Spec PyProof.Rows
section
variable{X:Cx}{o:Expr}{to:TE}{p p2 pos pos2:Pos}
def b8Y(to:TE):TE:=fun σ H Q=>to σ H fun x H1=>∃l xs,x=.ref l/\H1 l=some (.lst xs)/\∀p,H1 p=none->Q (.ref p) (upd H1 p (.lst xs.reverse))
theorem b4y(hg:Gl X "list")(hm:X.mg "list"=none)(hg2:Gl X "reversed")(hm2:X.mg "reversed"=none)(hc:X.calm=true)(ho:PE X o to)(hp:starEach [o] X.env=[(false,eval o X.env)]):
 PE X (.Call (.Name "list" p) [.Call (.Name "reversed" p2) [o] [] pos2] [] pos) (b8Y to):=by
 intro pins s σ H Q I h;refine Call_ (X1 I hg hm boot_list (PyProof.Rows.callWith_type1 ?_ rfl rfl))
 show wpAny _ _ (spliced [(false,eval (.Call (.Name "reversed" p2) [o] [] pos2) X.env)]) _ _ s
 refine Calls.spliced_cons (Call_ (X1 I hg2 hm2 boot_reversed (PyProof.Rows.callWith_type1 ?_ (by rw[hp];rfl) rfl)))
 rw[hp];refine Calls.spliced_cons (thn (ho pins s σ H _ I h) fun v s1 ⟨x,H1,I1,r1,l,xs,ex,hd,q1⟩=>Calls.spliced_nil ?_)
 subst ex;cases r1;obtain⟨z,its,n,vs,e1⟩:=I1.hok l _ hd
 have zl:its.length=xs.length:=(k8.length vs).symm
 have il:s1.heap.IsList l its.toArray:=⟨_,e1,rfl,n,rfl⟩
 have ll:l<s1.heap.objs.size:=Heap.lt_size e1
 refine call_reversed_list il (Calls.spliced_nil ?_)
 refine a8Z (I:=s1.heap.objs.size) (l:=l) (items:=its.toArray) (I1.ok.hd hc) ⟨_,Heap.get?_push_size _ rfl,rfl,rfl⟩ (il.at fun o e=>Heap.get?_push_of_some _ e) (Nat.ne_of_lt ll) (by rw[size_toArray,zl];exact z) fun g acc c kp hS ha=>?_
 have kp1:∀b u,s1.heap.get? b=some u->g.get? b=some u:=fun b u e=>kp b u (Nat.ne_of_lt (Heap.lt_size e)) (Heap.get?_push_of_some _ e)
 have gs:s1.heap.objs.size<=(s1.heap.push (revObj l ((its.toArray.size:Int)-1))).objs.size:=by rw[Heap.size_push];exact Nat.le_succ _
 generalize (s1.heap.push (revObj l ((its.toArray.size:Int)-1))).objs.size=S at hS gs⊢;refine⟨.ref S,_,I1.laid (t':=s1.toks) kp1 gs (show v7 X.prog X.w _ _ _ (.lst xs.reverse) from⟨by rw[length_reverse];exact z,its.reverse,c,k8.reverse vs,?_⟩),rfl,q1 S (I1.hok.fresh gs)⟩
 rw[show its.reverse.toArray=acc by apply Array.ext';rw[ha]]
 exact hS
end
section
variable{X:Cx}
def b1O:V->List V->Hp->VK->Prop:=fun x vs H Q=>∃l xs i y,x=.ref l/\vs=[.int i,y]/\H l=some (.lst xs)/\0<=i/\i<=xs.length/\xs.length<sizeLine/\Q .non (upd H l (.lst (xs.take i.toNat++y::xs.drop i.toNat)))
theorem a7W:MtM X "list.insert" b1O:=by
 intro pins s σ H x vs v us Q I rx rv h;obtain⟨l,xs,i,y,rfl,rfl,hH,h1,h2,hz,q⟩:=h;cases rx;obtain⟨u1,u2,rfl,r1,r2⟩:=L2.a2V rv;obtain⟨t,rfl⟩:=r1;obtain⟨z,its,n,r,hl,e⟩:=I.lstM hH
 have hs:sizeLine<2^62:=by rw[sizeLine_eq];decide
 have hf:Builtin.List.listFitsIndex i=true:=fitsIndex_both (by omega) (by omega)
 refine call_meets F.slot_list_insert ⟨_,e,rfl⟩ F.entry_list_insert (F.args_list_insert_3 _ _ _)
  (AutoListH.list_insert_list_int_val_1 l its.toArray n i t u2 (by rw[hf];decide) (by rw[size_toArray];omega)) ⟨e,?_⟩
 refine⟨.non,_,I.lset (its':=its.take i.toNat++u2::its.drop i.toNat) hH e ?_ ((k8.take _ r).append (.cons r2 (k8.drop _ r))) ?_,rfl,q⟩
 · show(its.toArray.extract 0 (if i<0 then(i+((its.toArray.size:Nat):Int)).toNat else min i.toNat its.toArray.size)).push u2++its.toArray.extract (if i<0 then(i+((its.toArray.size:Nat):Int)).toNat else min i.toNat its.toArray.size)=_
   rw[az (by omega),aY (by rw[size_toArray];omega)]
   apply Array.ext'
   simp;exact ba (by simp)
 · rw[aq,length_cons,aK,br];omega
end
variable{u:Value}{vs:List (Key×Value)}{P:Program}{w:World}{h:Heap}{a:Addr}{K:PySem.W.Frag}{elts:List Expr}{pos:Pos}{it:Addr}{d:Addr}{e:Expr}{st:Stmt}
end L2
namespace EV
open PySem L2
inductive D where
 |non|bl (b:Bool)|int (i:Int)|str (x:Str)|tup (l:List D)|ref (n:Nat)
 deriving Inhabited
mutual
def D.dec:(a b:D)->Decidable (a=b)
  | .non,b=>match b with
    |.non=>Decidable.isTrue rfl
    |.bl _=>Decidable.isFalse (fun h=>nomatch h)|.int _=>Decidable.isFalse (fun h=>nomatch h)|.str _=>Decidable.isFalse (fun h=>nomatch h)|.tup _=>Decidable.isFalse (fun h=>nomatch h)|.ref _=>Decidable.isFalse (fun h=>nomatch h)
  | .bl x,b=>match b with
    |.bl y=>if h:x=y then Decidable.isTrue (by rw[h]) else Decidable.isFalse (fun e=>h (by injection e))
    |.non=>Decidable.isFalse (fun h=>nomatch h)|.int _=>Decidable.isFalse (fun h=>nomatch h)|.str _=>Decidable.isFalse (fun h=>nomatch h)|.tup _=>Decidable.isFalse (fun h=>nomatch h)|.ref _=>Decidable.isFalse (fun h=>nomatch h)
  | .int x,b=>match b with
    |.int y=>if h:x=y then Decidable.isTrue (by rw[h]) else Decidable.isFalse (fun e=>h (by injection e))
    |.non=>Decidable.isFalse (fun h=>nomatch h)|.bl _=>Decidable.isFalse (fun h=>nomatch h)|.str _=>Decidable.isFalse (fun h=>nomatch h)|.tup _=>Decidable.isFalse (fun h=>nomatch h)|.ref _=>Decidable.isFalse (fun h=>nomatch h)
  | .str x,b=>match b with
    |.str y=>if h:x=y then Decidable.isTrue (by rw[h]) else Decidable.isFalse (fun e=>h (by injection e))
    |.non=>Decidable.isFalse (fun h=>nomatch h)|.bl _=>Decidable.isFalse (fun h=>nomatch h)|.int _=>Decidable.isFalse (fun h=>nomatch h)|.tup _=>Decidable.isFalse (fun h=>nomatch h)|.ref _=>Decidable.isFalse (fun h=>nomatch h)
  | .tup x,b=>match b with
    | .tup y=>match D.decs x y with
      |.isTrue h=>Decidable.isTrue (by rw[h])
      |.isFalse h=>Decidable.isFalse (fun e=>h (by injection e))
    |.non=>Decidable.isFalse (fun h=>nomatch h)|.bl _=>Decidable.isFalse (fun h=>nomatch h)|.int _=>Decidable.isFalse (fun h=>nomatch h)|.str _=>Decidable.isFalse (fun h=>nomatch h)|.ref _=>Decidable.isFalse (fun h=>nomatch h)
  | .ref x,b=>match b with
    |.ref y=>if h:x=y then Decidable.isTrue (by rw[h]) else Decidable.isFalse (fun e=>h (by injection e))
    |.non=>Decidable.isFalse (fun h=>nomatch h)|.bl _=>Decidable.isFalse (fun h=>nomatch h)|.int _=>Decidable.isFalse (fun h=>nomatch h)|.str _=>Decidable.isFalse (fun h=>nomatch h)|.tup _=>Decidable.isFalse (fun h=>nomatch h)
def D.decs:(a b:List D)->Decidable (a=b)
  | [],b=>match b with
    |[]=>Decidable.isTrue rfl
    |_::_=>Decidable.isFalse (fun h=>nomatch h)
  | x ::xs,b=>match b with
    |[]=>Decidable.isFalse (fun h=>nomatch h)
    | y ::ys=>match D.dec x y with
      | .isTrue h1=>match D.decs xs ys with
        |.isTrue h2=>Decidable.isTrue (by rw[h1,h2])
        |.isFalse h2=>Decidable.isFalse (fun e=>h2 (by injection e))
      |.isFalse h1=>Decidable.isFalse (fun e=>h1 (by injection e))
end
instance:DecidableEq D:=D.dec
inductive Cell where
 |lst (l:List D)|rol (l:List D)|dict (l:List (D×D))|obj (c:Nat) (fs:List (Str×D))|exc (c:Nat) (fs:List (Str×D))
 deriving DecidableEq
abbrev AH:=List Cell
inductive R(α:Type)where
 |ok (a:α) (h:AH)|ex (c:Nat) (fs:List (Str×D)) (h:AH)|no
def R.bind{α β:Type}(r:R α)(k:α->AH->R β):R β:=match r with
 |.ok a h=>k a h
 |.ex c fs h=>.ex c fs h
 |.no=>.no
@[simp] theorem d9 {α β:Type} (a:α) (h:AH) (k:α->AH->R β):(R.ok a h).bind k=k a h:=rfl
@[simp] theorem b3o {α β:Type} (c:Nat) (fs:List (Str×D)) (h:AH) (k:α->AH->R β):(R.ex c fs h).bind k=.ex c fs h:=rfl
@[simp] theorem b3n {α β:Type} (k:α->AH->R β):(R.no).bind k=.no:=rfl
mutual
def D.flat:D->Bool
  |.tup l=>D.flats l
  |.ref _=>false
  |_=>true
def D.flats:List D->Bool
  |[]=>true
  |d::r=>d.flat&&D.flats r
end
abbrev SL:Nat:=16777216
noncomputable def z5(c:Cell)(h:AH):R D:=.ok (.ref h.length) (h++[c])
noncomputable def rdL(h:AH)(n:Nat):Option (List D):=match h[n]? with
 |some (.lst l)=>some l
 |some (.rol l)=>some l
 |_=>none
noncomputable def a1G:Int->Bool
 |.ofNat n=>Nat.ble n 18446744073709551615
 |.negSucc n=>Nat.ble n 18446744073709551614
noncomputable def a1a:Int->Bool
 |.ofNat n=>Nat.ble n 16777216
 |.negSucc n=>Nat.ble n 16777216
theorem a1V:∀{i:Int},a1G i=true-> -(2^64)<i/\i<2^64
 |.ofNat n,h=>by
  have h:=Nat.le_of_ble_eq_true h
  show-(2^64)<(n:Int)/\(n:Int)<2^64
  omega
 |.negSucc n,h=>by
  have h:=Nat.le_of_ble_eq_true h;rw[Int.negSucc_eq];omega
theorem M9:∀{i:Int},a1a i=true-> -(2^62)<=i/\i<2^62
 |.ofNat n,h=>by
  have h:=Nat.le_of_ble_eq_true h
  show-(2^62)<=(n:Int)/\(n:Int)<2^62
  omega
 |.negSucc n,h=>by
  have h:=Nat.le_of_ble_eq_true h;rw[Int.negSucc_eq];omega
def O2(h:AH):D->D->R D
 |.int i,.int j=>.ok (.int (i+j)) h
 |.str x,.str y=>if x.length+y.length<=SL then .ok (.str (x++y)) h else .no
 |.ref a,.ref b=>match h[a]?,h[b]? with
  |some (.lst xs),some (.lst ys)=>if xs.length+ys.length<=SL then z5 (.lst (xs++ys)) h else .no
  |_,_=>.no
 |_,_=>.no
noncomputable def a5b(h:AH):D->D->R D
 |.int i,.int j=>.ok (.int (i-j)) h
 |_,_=>.no
def T4(h:AH):D->D->R D
 |.int i,.int j=>if(a1G i||a1G j)=true then .ok (.int (i*j)) h else .no
 |.ref a,.int k=>match h[a]? with
  |some (.lst xs)=>if a1a k=true/\xs.length*k.toNat<=SL then z5 (.lst (List.replicate k.toNat xs).flatten) h else .no
  |_=>.no
 |.str x,.int k=>if a1a k=true/\x.length*k.toNat<=SL then .ok (.str (C9 k.toNat x)) h else .no
 |_,_=>.no
noncomputable def D7(h:AH):D->D->R D
 |.int i,.int j=>if 0<j/\j<1073741824 then .ok (.int (i/j)) h else .no
 |_,_=>.no
noncomputable def y9(h:AH):D->D->R D
 |.int i,.int j=>if 0<j then .ok (.int (i%j)) h else .no
 |_,_=>.no
noncomputable def eqS:D->D->Option Bool
 |.non,.non=>some true|.non,.int _=>some false|.int _,.non=>some false|.non,.bl _=>some false|.bl _,.non=>some false|.non,.str _=>some false|.str _,.non=>some false
 |.int i,.int j=>some (decide (i=j))|.bl i,.bl j=>some (decide (i=j))|.str i,.str j=>some (decide (i=j))
 |.int _,.str _=>some false|.str _,.int _=>some false|.bl _,.str _=>some false|.str _,.bl _=>some false
 |_,_=>none
noncomputable def F5(p:Int->Int->Bool)(h:AH):D->D->R D
 |.int i,.int j=>.ok (.bl (p i j)) h
 |_,_=>.no
noncomputable def a3U(i j:Str):Bool:=!(Builtin.Str.occurrences j i 0 j.length 1).isEmpty
noncomputable def v5:D->Bool
 |.non=>true|.bl _=>true|.int _=>true|.str _=>true
 |_=>false
noncomputable def eqF:D->D->Bool
 |.non,.non=>true
 |.bl a,.bl b=>a==b
 |.bl a,.int b=>(if a then 1 else 0)==b
 |.int a,.bl b=>a==(if b then 1 else 0)
 |.int a,.int b=>a==b
 |.str a,.str b=>a==b
 |_,_=>false
def inD(x:D)(xs:List D):Bool:=xs.any fun y=>eqF y x
def a8l:List D->List D->Bool
 |[],[]=>true
 |x::xs,y::ys=>eqF x y&&a8l xs ys
 |_,_=>false
def a5r(h:AH):D->D->Option Bool
 |.ref i,.ref j=>match rdL h i,rdL h j with
  |some xs,some ys=>if xs.all v5&&ys.all v5 then some (a8l xs ys) else none
  |_,_=>none
 |_,_=>none
def J8(h:AH)(a b:D):R D:=match eqS a b with
 |some c=>.ok (.bl c) h
 |none=>match a5r h a b with
  |some c=>.ok (.bl (c !=false)) h
  |none=>.no
def a1z(h:AH)(a b:D):R D:=match eqS a b with
 |some c=>.ok (.bl (!c)) h
 |none=>match a5r h a b with
  |some c=>.ok (.bl (c !=true)) h
  |none=>.no
noncomputable def K0:D->Option Key
 |.int i=>some (.inl i)
 |.str x=>some (.inr x)
 |_=>none
def D8:List D->Option (List Key)
 |[]=>some []
 |d::r=>match K0 d,D8 r with
  |some k,some ks=>some (k::ks)
  |_,_=>none
def K5:D->Option Bool
 |.int _=>some false
 |.str _=>some false
 |.tup l=>if(D8 l).isSome then some true else none
 |_=>none
def G8(k:D)(kvs:List (D×D)):Bool:=(K5 k).isSome&&kvs.all fun p=>K5 p.1==K5 k
noncomputable def o9(kvs:List (D×D))(k:D):Option D:=(kvs.find? fun p=>decide (p.1=k)).map (·.2)
noncomputable def a0I(kvs:List (D×D))(k v:D):List (D×D):=if(kvs.any fun p=>decide (p.1=k))=true then kvs.map (fun p=>if p.1=k then(p.1,v) else p) else kvs++[(k,v)]
def U6(neg:Bool)(h:AH):D->D->R D
 |.str i,.str j=>.ok (.bl (a3U i j !=neg)) h
 |x,.tup xs=>if v5 x&&xs.all v5 then .ok (.bl (inD x xs !=neg)) h else .no
 |x,.ref n=>match h[n]? with
  |some (.lst xs)=>if v5 x&&xs.all v5 then .ok (.bl (inD x xs !=neg)) h else .no
  |some (.rol xs)=>if v5 x&&xs.all v5 then .ok (.bl (inD x xs !=neg)) h else .no
  |some (.dict kvs)=>if G8 x kvs then .ok (.bl ((o9 kvs x).isSome !=neg)) h else .no
  |_=>.no
 |_,_=>.no
inductive B where
 |add|sub|mul|div|mod|eq|ne|lt|le|gt|ge|isin|notin
 deriving DecidableEq
def op2(o:B)(h:AH)(a b:D):R D:=match o with
 |.add=>O2 h a b|.sub=>a5b h a b|.mul=>T4 h a b|.div=>D7 h a b|.mod=>y9 h a b
 |.eq=>J8 h a b|.ne=>a1z h a b
 |.lt=>F5 (fun i j=>decide (i<j)) h a b|.le=>F5 (fun i j=>decide (i<=j)) h a b|.gt=>F5 (fun i j=>decide (j<i)) h a b|.ge=>F5 (fun i j=>decide (j<=i)) h a b
 |.isin=>U6 false h a b|.notin=>U6 true h a b
def ixD (h:AH):D->D->R D
 |.tup xs,.int i=>match atI xs i with
  |some d=>.ok d h
  |none=>.no
 |.str x,.int i=>if x.length<=SL then(match atI x.cps.toList i with
  |some c=>.ok (.str ⟨#[c]⟩) h
  |none=>.no) else .no
 | .ref n,k=>match h[n]? with
  | some (.lst xs)=>(match k with
   |.int i=>(match atI xs i with
    |some d=>.ok d h
    |none=>.no)
   |_=>.no)
  | some (.rol xs)=>(match k with
   |.int i=>(match atI xs i with
    |some d=>.ok d h
    |none=>.no)
   |_=>.no)
  |some (.dict kvs)=>if G8 k kvs then(match o9 kvs k with
   |some d=>.ok d h
   |none=>.no) else .no
  |_=>.no
 |_,_=>.no
def U2(xs:List D)(lo hi:Option Int):List D:=(xs.drop (HT.sIx xs.length 0 lo)).take (HT.sIx xs.length xs.length hi-HT.sIx xs.length 0 lo)
def slD(h:AH)(lo hi:Option Int):D->R D
 |.str x=>if x.length<=SL then .ok (.str (Txt.slice x lo hi)) h else .no
 |.ref n=>match rdL h n with
  |some xs=>z5 (.lst (U2 xs lo hi)) h
  |none=>.no
 |_=>.no
noncomputable def T8(h:AH)(f:Str):D->R D
 | .ref n=>match h[n]? with
  |some (.obj _ fs)=>(match fs.lookup f with
   |some d=>.ok d h
   |none=>.no)
  |some (.exc _ fs)=>if f="place"∨f="word" then(match fs.lookup f with
   |some d=>.ok d h
   |none=>.no) else .no
  |_=>.no
 |_=>.no
inductive Bi where
 |len|str|int|list|tuple|all|any|dict
 deriving DecidableEq
noncomputable def a5G:List D->Option (List Bool)
 |[]=>some []
 |.bl b::r=>(a5G r).map (b:: ·)
 |_::_=>none
noncomputable def a1S:List D->Option (List Str)
 |[]=>some []
 |.str x::r=>(a1S r).map (x:: ·)
 |_::_=>none
def a7N:List D->Option (List (D×D))
 |[]=>some []
 |.tup [k,v]::r=>if(K0 k).isSome then(a7N r).map ((k,v):: ·) else none
 |_::_=>none
def biD (b:Bi) (h:AH):List D->R D
 | [.str x]=>match b with
  |.len=>if x.length<=SL then .ok (.int x.length) h else .no
  |.int=>if x.length<=640 then(match PySem.intText? x with
   |some n=>.ok (.int n) h
   |none=>.no) else .no
  |_=>.no
 |[.tup xs]=>match b with
  |.len=>.ok (.int xs.length) h
  |.list=>z5 (.lst xs) h
  |.tuple=>.ok (.tup xs) h
  |_=>.no
 |[.int i]=>match b with
  |.str=>if i.natAbs.log2<1920 then .ok (.str (toString i)) h else .no
  |.int=>.ok (.int i) h
  |_=>.no
 |[.bl k]=>match b with
  |.int=>.ok (.int (if k then 1 else 0)) h
  |_=>.no
 | [.ref n]=>match h[n]? with
  |some (.dict kvs)=>(match b with
   |.len=>if G8 (.int 0) kvs then .ok (.int kvs.length) h else .no
   |_=>.no)
  | _=>match rdL h n with
   | some xs=>(match b with
    |.len=>.ok (.int xs.length) h
    |.list=>z5 (.lst xs) h
    |.tuple=>.ok (.tup xs) h
    |.all=>(match a5G xs with
     |some bs=>.ok (.bl (bs.all id)) h
     |none=>.no)
    |.any=>(match a5G xs with
     |some bs=>.ok (.bl (bs.any id)) h
     |none=>.no)
    |.dict=>(match a7N xs with
     |some kvs=>z5 (.dict (kvs.foldl (fun a p=>a0I a p.1 p.2) [])) h
     |none=>.no)
    |_=>.no)
   |none=>.no
 |_=>.no
inductive Mt where
 |append|split|join|starts|insert
 deriving DecidableEq
def mtD (b:Mt) (h:AH):D->List D->R D
 |.ref n,[d]=>match b,h[n]? with
  |.append,some (.lst xs)=>if xs.length<SL then .ok .non (h.set n (.lst (xs++[d]))) else .no
  |_,_=>.no
 |.ref n,[.int i,d]=>match b,h[n]? with
  |.insert,some (.lst xs)=>if 0<=i/\i<=xs.length/\xs.length<SL then .ok .non (h.set n (.lst (xs.take i.toNat++d::xs.drop i.toNat))) else .no
  |_,_=>.no
 |.str x,[.str y]=>match b with
  |.split=>if 0<y.length/\x.length+2<=SL then z5 (.lst ((Txt.split x y).map D.str)) h else .no
  |.starts=>.ok (.bl (Txt.startswith x y)) h
  |_=>.no
 | .str x,[.ref n]=>match b with
  | .join=>(match rdL h n with
   |some xs=>(match a1S xs with
    |some ts=>if JoinOk x ts=true then .ok (.str (Txt.join x ts)) h else .no
    |none=>.no)
   |none=>.no)
  |_=>.no
 |_,_=>.no
def mtT(b:Mt)(h:AH):D->Bool
 |.str _=>match b with
  |.split=>true|.join=>true|.starts=>true
  |_=>false
 |.ref n=>match b with
  |.append=>(rdL h n).isSome
  |.insert=>(rdL h n).isSome
  |_=>false
 |_=>false
def a1p (h:AH) (o i v:D):R Unit:=match o with
 | .ref n=>match h[n]? with
  | some (.lst xs)=>(match i with
   |.int k=>(match ixN xs.length k with
    |some j=>.ok () (h.set n (.lst (xs.set j v)))
    |none=>.no)
   |_=>.no)
  |some (.dict kvs)=>if G8 i kvs=true/\kvs.length<SL then .ok () (h.set n (.dict (a0I kvs i v))) else .no
  |_=>.no
 |_=>.no
noncomputable def a3d(f:Str)(v:D):List (Str×D)->List (Str×D)
 |[]=>[(f,v)]
 |(g,x)::r=>if g=f then(g,v)::r else(g,x)::a3d f v r
def a3K(h:AH)(o:D)(f:Str)(v:D):R Unit:=match o with
 |.ref n=>match h[n]? with
  |some (.obj c fs)=>if fs.length<1000 then .ok () (h.set n (.obj c (a3d f v fs))) else .no
  |_=>.no
 |_=>.no
theorem D.ind{P:D->Prop}{Q:List D->Prop}(h0:P .non)(h1:∀b,P (.bl b))(h2:∀i,P (.int i))(h3:∀x,P (.str x))(h4:∀l,Q l->P (.tup l))(h5:∀n,P (.ref n))(q0:Q [])(q1:∀d r,P d->Q r->Q (d::r)):
 (∀d,P d)/\∀l,Q l:=
 ⟨fun d=>D.rec (motive_1:=P) (motive_2:=Q) h0 h1 h2 h3 h4 h5 q0 q1 d,fun l=>by
  induction l with
  |nil=>exact q0
  |cons d r ih=>exact q1 d r (D.rec (motive_1:=P) (motive_2:=Q) h0 h1 h2 h3 h4 h5 q0 q1 d) ih⟩
mutual
def Rp(m:List Addr)(H:Hp):D->V->Prop
  |.non,v=>v=.non
  |.bl b,v=>v=.bl b
  |.int i,v=>v=.int i
  |.str x,v=>v=.str x
  |.tup l,v=>∃a vs,v=.ref a/\H a=some (.tup vs)/\Rps m H l vs
  |.ref n,v=>∃a,v=.ref a/\m[n]? =some a
def Rps(m:List Addr)(H:Hp):List D->List V->Prop
  |[],vs=>vs=[]
  |d::r,vs=>∃v t,vs=v::t/\Rp m H d v/\Rps m H r t
end
def Im:HO->Prop
 |.tup _=>True
 |.xd _=>True
 |_=>False
abbrev KIm(H H':Hp):Prop:=∀b o,Im o->H b=some o->H' b=some o
structure Keep(m m':List Addr)(H H':Hp):Prop where
 im:∀b o,Im o->H b=some o->H' b=some o
 out:∀b o,b∉m->H b=some o->H' b=some o
 fr:∀a,a∈m'->a∈m∨H a=none
theorem Keep.refl(m:List Addr)(H:Hp):Keep m m H H:=⟨fun _ _ _ h=>h,fun _ _ _ h=>h,fun _ h=>.inl h⟩
variable{m:List Addr}{m1:List Addr}{H:Hp}{H1:Hp}
theorem Keep.trans{m2:List Addr}{H2:Hp}(a:Keep m m1 H H1)(b:Keep m1 m2 H1 H2):Keep m m2 H H2:=by
 refine⟨fun c o i h=>b.im c o i (a.im c o i h),fun c o n h=>b.out c o (fun z=>?_) (a.out c o n h),fun c h=>?_⟩
 · rcases a.fr c z with q|q
   · exact n q
   · rw[h] at q;cases q
 · rcases b.fr c h with q|q
   · exact a.fr c q
   · by_cases hc:c∈m
     · exact .inl hc
     · cases e:H c with
       |none=>exact .inr rfl
       |some o=>rw[a.out c o hc e] at q;cases q
theorem Keep.new{p:Addr}{o:HO}(hp:H p=none):Keep m m H (upd H p o):=
 ⟨fun b ob _ h=>by rw[g9 (o0 h hp)];exact h,fun b ob _ h=>by rw[g9 (o0 h hp)];exact h,fun _ h=>.inl h⟩
theorem Keep.newc{p:Addr}{o:HO}(hp:H p=none):Keep m (m++[p]) H (upd H p o):=
 ⟨fun b ob _ h=>by rw[g9 (o0 h hp)];exact h,fun b ob _ h=>by rw[g9 (o0 h hp)];exact h,fun a h=>by
  rcases aJ.mp h with q|q
  · exact .inl q
  · simp at q;subst q;exact .inr hp⟩
variable{o':HO}
theorem Keep.put{p:Addr}{o:HO}{k:Nat}(hm:m[k]? =some p)(hp:H p=some o)(ni:¬Im o):Keep m m H (upd H p o'):=by
 refine⟨fun b ob i h=>?_,fun b ob n h=>?_,fun _ h=>.inl h⟩
 · have:b≠p:=fun e=>by rw[e,hp] at h;cases h;exact ni i
   rw[g9 this];exact h
 · have:b≠p:=fun e=>n (by rw[e];exact aF hm)
   rw[g9 this];exact h
theorem Keep.tup{m m':List Addr}{H H':Hp}(k:Keep m m' H H'){a:Addr}{vs:List V}(h:H a=some (.tup vs)):H' a=some (.tup vs):=k.im a _ trivial h
abbrev Pre(m m':List Addr):Prop:=∃t,m'=m++t
theorem Pre.refl(m:List Addr):Pre m m:=⟨[],by simp⟩
theorem Pre.trans{a b c:List Addr}(h:Pre a b)(k:Pre b c):Pre a c:=by
 obtain⟨t,rfl⟩:=h;obtain⟨u,rfl⟩:=k;exact⟨t++u,by simp⟩
theorem Pre.snoc(m:List Addr)(p:Addr):Pre m (m++[p]):=⟨[p],rfl⟩
variable{m':List Addr}{n:Nat}{a:Addr}
theorem Pre.get(h:Pre m m')(e:m[n]? =some a):m'[n]? =some a:=by
 obtain⟨t,rfl⟩:=h;rw[av (ac.mp e).1];exact e
variable{H':Hp}
theorem a1I(p:Pre m m')(k:KIm H H'):(∀d v,Rp m H d v->Rp m' H' d v)/\∀l vs,Rps m H l vs->Rps m' H' l vs:=by
 refine D.ind (P:=fun d=>∀v,Rp m H d v->Rp m' H' d v) (Q:=fun l=>∀vs,Rps m H l vs->Rps m' H' l vs) ?_ ?_ ?_ ?_ ?_ ?_ ?_ ?_
 · intro v h;exact h
 · intro b v h;exact h
 · intro b v h;exact h
 · intro b v h;exact h
 · rintro l ih v ⟨a,vs,rfl,e,q⟩;exact⟨a,vs,rfl,k _ _ trivial e,ih vs q⟩
 · rintro n v ⟨a,rfl,e⟩;exact⟨a,rfl,p.get e⟩
 · intro vs h;exact h
 · rintro d r ih ihs vs ⟨v,t,rfl,q1,q2⟩;exact⟨v,t,rfl,ih v q1,ihs t q2⟩
variable{d:D}{v:V}
theorem Rp.mono(h:Rp m H d v)(p:Pre m m')(k:Keep m m' H H'):Rp m' H' d v:=(a1I p k.im).1 d v h
theorem Rp.mono'(h:Rp m H d v)(p:Pre m m')(k:KIm H H'):Rp m' H' d v:=(a1I p k).1 d v h
variable{l:List D}{vs:List V}
theorem Rps.mono(h:Rps m H l vs)(p:Pre m m')(k:Keep m m' H H'):Rps m' H' l vs:=(a1I p k.im).2 l vs h
theorem Rps.mono'(h:Rps m H l vs)(p:Pre m m')(k:KIm H H'):Rps m' H' l vs:=(a1I p k).2 l vs h
theorem a3N:(∀d v,D.flat d=true->Rp m H d v->Rp m' H d v)/\∀l vs,D.flats l=true->Rps m H l vs->Rps m' H l vs:=by
 refine D.ind (P:=fun d=>∀v,D.flat d=true->Rp m H d v->Rp m' H d v) (Q:=fun l=>∀vs,D.flats l=true->Rps m H l vs->Rps m' H l vs) ?_ ?_ ?_ ?_ ?_ ?_ ?_ ?_
 · intro v _ h;exact h
 · intro b v _ h;exact h
 · intro b v _ h;exact h
 · intro b v _ h;exact h
 · rintro l ih v f ⟨a,vs,rfl,e,q⟩;exact⟨a,vs,rfl,e,ih vs f q⟩
 · intro n v f;exact absurd f (by simp[D.flat])
 · intro vs _ h;exact h
 · rintro d r ih ihs vs f ⟨v,t,rfl,q1,q2⟩;rw[D.flats,ae] at f;exact⟨v,t,rfl,ih v f.1 q1,ihs t f.2 q2⟩
section
theorem Rps.len:∀{l:List D} {vs:List V},Rps m H l vs->vs.length=l.length
 |[],vs,h=>by rw[show vs=[] from h];rfl
 |d::r,vs,⟨v,t,e,_,q⟩=>by rw[e,length_cons,length_cons,Rps.len q]
theorem Rps.get:∀{l:List D} {vs:List V} {i:Nat} {d:D},Rps m H l vs->l[i]? =some d->∃v,vs[i]? =some v/\Rp m H d v
 |d'::r,vs,0,d,⟨v,t,e,q,_⟩,h=>by
  simp at h;subst h;exact⟨v,by rw[e];rfl,q⟩
 |d'::r,vs,i+1,d,⟨v,t,e,_,q⟩,h=>by
  obtain⟨w,h1,h2⟩:=Rps.get (i:=i) q (by simpa using h)
  exact⟨w,by rw[e];simpa using h1,h2⟩
 |[],_,_,_,_,h=>by simp at h
theorem Rps.app:∀{l l':List D} {vs vs':List V},Rps m H l vs->Rps m H l' vs'->Rps m H (l++l') (vs++vs')
 |[],_,vs,_,h,k=>by rw[show vs=[] from h];exact k
 |d::r,_,vs,_,⟨v,t,e,q1,q2⟩,k=>by subst e;exact⟨v,_,rfl,q1,Rps.app q2 k⟩
theorem Rps.snoc(h:Rps m H l vs)(q:Rp m H d v):Rps m H (l++[d]) (vs++[v]):=h.app ⟨v,[],rfl,q,rfl⟩
theorem Rps.drop:∀{l:List D} {vs:List V} (n:Nat),Rps m H l vs->Rps m H (l.drop n) (vs.drop n)
 |[],vs,n,h=>by rw[show vs=[] from h];simp[Rps]
 |d::r,vs,0,h=>h
 |d::r,vs,n+1,⟨v,t,e,_,q⟩=>by subst e;exact Rps.drop n q
theorem Rps.take:∀{l:List D} {vs:List V} (n:Nat),Rps m H l vs->Rps m H (l.take n) (vs.take n)
 |[],vs,n,h=>by rw[show vs=[] from h];simp[Rps]
 |d::r,vs,0,h=>by simp[Rps]
 |d::r,vs,n+1,⟨v,t,e,q1,q⟩=>by subst e;exact⟨v,_,rfl,q1,Rps.take n q⟩
theorem Rps.set:∀{l:List D} {vs:List V} {d:D} {v:V} (n:Nat),Rps m H l vs->Rp m H d v->Rps m H (l.set n d) (vs.set n v)
 |[],vs,_,_,n,h,_=>by rw[show vs=[] from h];simp[Rps]
 |d::r,vs,_,_,0,⟨v,t,e,q1,q⟩,k=>by subst e;exact⟨_,t,rfl,k,q⟩
 |d::r,vs,_,_,n+1,⟨v,t,e,q1,q⟩,k=>by subst e;exact⟨v,_,rfl,q1,Rps.set n q k⟩
theorem Rps.rep{l:List D}{vs:List V}(h:Rps m H l vs):∀k:Nat,Rps m H (List.replicate k l).flatten (List.replicate k vs).flatten
 |0=>rfl
 |k+1=>by
  rw[replicate_succ,replicate_succ,flatten_cons,flatten_cons];exact h.app (Rps.rep h k)
theorem Rps.strs:∀{ts:List Str},Rps m H (ts.map D.str) (ts.map V.str)
 |[]=>rfl
 |x::r=>⟨_,_,rfl,rfl,Rps.strs⟩
theorem Rps.cut(h:Rps m H l vs)(lo hi:Option Int):Rps m H (U2 l lo hi) (a8p vs lo hi):=by
 unfold U2 a8p;rw[h.len];exact(h.drop _).take _
theorem Rps.at{i:Int}(h:Rps m H l vs)(e:atI l i=some d):∃v,atI vs i=some v/\Rp m H d v:=by
 unfold atI at e⊢;rw[h.len]
 cases q:ixN l.length i with
 |none=>rw[q] at e;cases e
 |some j=>rw[q] at e;exact h.get e
theorem a4T:∀{l:List D} {ts:List Str} {vs:List V},a1S l=some ts->Rps m H l vs->vs=ts.map V.str
 |[],ts,vs,e,h=>by cases e;exact h
 |d::r,ts,vs,e,⟨v,t,ev,q1,q2⟩=>by
  subst ev
  cases d<;>simp only[a1S] at e<;>try cases e
  rename_i x
  cases q:a1S r with
  |none=>rw[q] at e;cases e
  |some us=>rw[q] at e;cases e;rw[a4T q q2,show v=V.str x from q1];rfl
theorem a3L:∀{l:List D} {ts:List Bool} {vs:List V},a5G l=some ts->Rps m H l vs->vs=ts.map V.bl
 |[],ts,vs,e,h=>by cases e;exact h
 |d::r,ts,vs,e,⟨v,t,ev,q1,q2⟩=>by
  subst ev
  cases d<;>simp only[a5G] at e<;>try cases e
  rename_i x
  cases q:a5G r with
  |none=>rw[q] at e;cases e
  |some us=>rw[q] at e;cases e;rw[a3L q q2,show v=V.bl x from q1];rfl
end
structure Gm where
 K:PySem.W.Frag
 cA:Nat->Addr
 ob:List Nat
 xs:List Nat
def Fl(m:List Addr)(H:Hp):List (Str×D)->List (Str×V)->Prop:=Paired fun p q=>p.1=q.1/\Rp m H p.2 q.2
def DK(m:List Addr)(H:Hp):List (D×D)->List (Key×V)->Prop:=Paired fun p q=>K0 p.1=some q.1/\Rp m H p.2 q.2
def DT(m:List Addr)(H:Hp):List (D×D)->List (List Key×V)->Prop:=Paired fun p q=>(∃l,p.1=.tup l/\D8 l=some q.1)/\Rp m H p.2 q.2
def D1(Γ:Gm)(m:List Addr)(H:Hp)(a:Addr):Cell->Prop
 |.lst l=>∃vs,H a=some (.lst vs)/\Rps m H l vs
 |.rol l=>∃vs,SqL Γ.K H a vs/\Rps m H l vs/\∃o,H a=some (.frz o (.lst vs))
 |.dict l=>(∃kvs,H a=some (.dK kvs)/\DK m H l kvs)∨∃kvs,H a=some (.dT kvs)/\DT m H l kvs
 |.obj c fs=>∃dx gs,H a=some (.ins (Γ.cA c) dx gs)/\Fl m H fs gs/\c∈Γ.ob
 |.exc c fs=>∃dx gs,H a=some (exC a (Γ.cA c) dx)/\H dx=some (.xd gs)/\Fl m H fs gs/\c∈Γ.xs
variable{Γ:Gm}
theorem D1.there{c:Cell}(h:D1 Γ m H a c):∃o,H a=some o/\¬Im o:=by
 cases c with
 |lst l=>obtain⟨vs,e,_⟩:=h;exact⟨_,e,fun z=>z⟩
 |rol l=>obtain⟨vs,_,_,o,e⟩:=h;exact⟨_,e,fun z=>z⟩
 |dict l=>
  rcases h with⟨kvs,e,_⟩|⟨kvs,e,_⟩
  · exact⟨_,e,fun z=>z⟩
  · exact⟨_,e,fun z=>z⟩
 |obj c fs=>obtain⟨dx,gs,e,_⟩:=h;exact⟨_,e,fun z=>z⟩
 |exc c fs=>obtain⟨dx,gs,e,_⟩:=h;exact⟨_,e,fun z=>z⟩
theorem Fl.mono{fs:List (Str×D)}{gs:List (Str×V)}(h:Fl m H fs gs)(p:Pre m m')(k:KIm H H'):Fl m' H' fs gs:=Paired.mapP h fun _ _ z=>⟨z.1,z.2.mono' p k⟩
variable{gs:List (Key×V)}
theorem DK.mono{fs:List (D×D)}(h:DK m H fs gs)(p:Pre m m')(k:KIm H H'):DK m' H' fs gs:=Paired.mapP h fun _ _ z=>⟨z.1,z.2.mono' p k⟩
theorem DT.mono{fs:List (D×D)}{gs:List (List Key×V)}(h:DT m H fs gs)(p:Pre m m')(k:KIm H H'):DT m' H' fs gs:=Paired.mapP h fun _ _ z=>⟨z.1,z.2.mono' p k⟩
theorem D1.mono'{c:Cell}(h:D1 Γ m H a c)(p:Pre m m')(k:KIm H H')(e:H' a=H a):D1 Γ m' H' a c:=by
 cases c with
 |lst l=>obtain⟨vs,q,r⟩:=h;exact⟨vs,e.trans q,r.mono' p k⟩
 |rol l=>obtain⟨vs,s,r,o,q⟩:=h;exact⟨vs,.inl (.inr ⟨o,e.trans q⟩),r.mono' p k,o,e.trans q⟩
 |dict l=>
  rcases h with⟨kvs,q,r⟩|⟨kvs,q,r⟩
  · exact .inl ⟨kvs,e.trans q,r.mono p k⟩
  · exact .inr ⟨kvs,e.trans q,r.mono p k⟩
 |obj c fs=>obtain⟨dx,gs,q,r,z⟩:=h;exact⟨dx,gs,e.trans q,r.mono p k,z⟩
 |exc c fs=>obtain⟨dx,gs,q,x,r,z⟩:=h;exact⟨dx,gs,e.trans q,k _ _ trivial x,r.mono p k,z⟩
theorem D1.mono{c:Cell}(h:D1 Γ m H a c)(p:Pre m m')(k:Keep m m' H H')(e:H' a=H a):D1 Γ m' H' a c:=h.mono' p k.im e
structure Sim(Γ:Gm)(ah:AH)(m:List Addr)(H:Hp):Prop where
 len:m.length=ah.length
 nd:m.Nodup
 cell:∀(n:Nat) (a:Addr) (c:Cell),m[n]? =some a->ah[n]? =some c->D1 Γ m H a c
section
variable{ah:AH}
theorem Sim.at(s:Sim Γ ah m H){c:Cell}(h:m[n]? =some a)(e:ah[n]? =some c):D1 Γ m H a c:=s.cell n a c h e
theorem Sim.has(s:Sim Γ ah m H)(h:m[n]? =some a):∃c,ah[n]? =some c:=by
 have h:=(ac.mp h).1
 rw[s.len] at h;exact⟨ah[n],af h⟩
theorem Sim.fresh(s:Sim Γ ah m H){p:Addr}(hp:H p=none):p∉m:=fun hm=>by
 obtain⟨n,hn⟩:=aW hm
 obtain⟨c,hc⟩:=s.has hn;obtain⟨o,e,_⟩:=(s.at hn hc).there;rw[hp] at e;cases e
theorem Sim.keep(s:Sim Γ ah m H)(k:Keep m m H H')(e:∀(n:Nat) (a:Addr),m[n]? =some a->H' a=H a):Sim Γ ah m H':=
 ⟨s.len,s.nd,fun n a c h q=>(s.at h q).mono (Pre.refl m) k (e n a h)⟩
theorem Sim.same(s:Sim Γ ah m H)(k:b8S H H'):Sim Γ ah m H':=
 s.keep ⟨fun b o _ h=>k b o h,fun b o _ h=>k b o h,fun _ h=>.inl h⟩ fun n a h=>by
  obtain⟨c,hc⟩:=s.has h;obtain⟨o,e,_⟩:=(s.at h hc).there;rw[e];exact k a o e
theorem Sim.new{p:Addr}{o:HO}(s:Sim Γ ah m H)(hp:H p=none):Sim Γ ah m (upd H p o):=s.same fun b ob h=>by rw[g9 (o0 h hp)];exact h
theorem a0q{m:List Addr}{p:Addr}(nd:m.Nodup)(hp:p∉m):(m++[p]).Nodup:=by
 rw[nodup_append];refine⟨nd,by simp,fun a ha b hb=>?_⟩
 simp at hb;subst hb
 rintro rfl;exact hp ha
theorem Sim.alloc{p:Addr}{o:HO}{c:Cell}(s:Sim Γ ah m H)(hp:H p=none)(h:D1 Γ (m++[p]) (upd H p o) p c):Sim Γ (ah++[c]) (m++[p]) (upd H p o):=by
 refine⟨by simp[s.len],a0q s.nd (s.fresh hp),fun n a c' hn hc=>?_⟩
 by_cases hl:n<m.length
 · rw[av hl] at hn
   rw[av (by rw[←s.len];exact hl)] at hc
   have ok:=s.at hn hc;refine ok.mono (Pre.snoc m p) (Keep.newc hp) ?_
   obtain⟨o',e,_⟩:=ok.there;rw[g9 (o0 e hp)]
 · have hn':n=m.length:=by
    have:=(ac.mp hn).1
    simp at this;omega
   subst hn';rw[au (aj _)] at hn
   rw[s.len,au (aj _)] at hc
   simp at hn hc;subst hn;subst hc
   exact h
theorem Sim.write{k:Nat}{q:Addr}{o:HO}{c:Cell}(s:Sim Γ ah m H)(hk:m[k]? =some q)(hq:H q=some o)(ni:¬Im o)(h:D1 Γ m (upd H q o') q c):Sim Γ (ah.set k c) m (upd H q o'):=by
  refine⟨by simp[s.len],s.nd,fun n a c' hn hc=>?_⟩
  by_cases e:n=k
  · subst e;rw[hk] at hn;cases hn
    rw[List.getElem?_set_self (by rw[←s.len];exact(ac.mp hk).1)] at hc
    cases hc;exact h
  · rw[List.getElem?_set_ne (Ne.symm e)] at hc
    have ne:a≠q:=fun z=>by subst z;exact e (nodup_ixA s.nd hn hk)
    exact(s.at hn hc).mono (Pre.refl m) (Keep.put hk hq ni) (g9 ne)
where
  nodup_ixA {m:List Addr} (hN:m.Nodup) {i j:Nat} {x:Addr} (a:m[i]? =some x) (b:m[j]? =some x):i=j:=by
    obtain⟨h1,e1⟩:=ac.mp a
    obtain⟨h2,e2⟩:=ac.mp b
    exact(getElem_inj hN).mp (e1.trans e2.symm)
theorem Sim.lst(s:Sim Γ ah m H){n:Nat}{l:List D}(e:ah[n]? =some (.lst l)){v:V}(r:Rp m H (.ref n) v):∃a vs,v=.ref a/\m[n]? =some a/\H a=some (.lst vs)/\Rps m H l vs:=by
 obtain⟨a,rfl,hm⟩:=r;obtain⟨vs,e1,e2⟩:=s.at hm e;exact⟨a,vs,rfl,hm,e1,e2⟩
theorem Sim.rdL(s:Sim Γ ah m H)(e:rdL ah n=some l)(r:Rp m H (.ref n) v):∃a vs,v=.ref a/\m[n]? =some a/\SqL Γ.K H a vs/\Rps m H l vs:=by
 obtain⟨a,rfl,hm⟩:=r;unfold EV.rdL at e
 split at e
 · rename_i l' q;cases e;obtain⟨vs,e1,e2⟩:=s.at hm q;exact⟨a,vs,rfl,hm,.inl (.inl e1),e2⟩
 · rename_i l' q;cases e;obtain⟨vs,e1,e2,_⟩:=s.at hm q;exact⟨a,vs,rfl,hm,e1,e2⟩
 · cases e
end
abbrev u7:=List (Option D)
structure EnvRel(m:List Addr)(H:Hp)(env:u7)(σ:St):Prop where
 len:env.length=σ.length
 val:∀(i:Nat) (d:D),env[i]? =some (some d)->∃v,σ[i]? =some (some v)/\Rp m H d v
variable{env:u7}{σ:St}
theorem EnvRel.mono(h:EnvRel m H env σ)(p:Pre m m')(k:Keep m m' H H'):EnvRel m' H' env σ:=
 ⟨h.len,fun i d e=>let⟨v,a,b⟩:=h.val i d e;⟨v,a,b.mono p k⟩⟩
variable{i:Nat}
theorem EnvRel.set(h:EnvRel m H env σ)(r:Rp m H d v):EnvRel m H (env.set i (some d)) (σ.set i (some v)):=by
 refine⟨by simp[h.len],fun j d' e=>?_⟩
 by_cases q:j=i
 · subst q
   by_cases hl:j<env.length
   · rw[List.getElem?_set_self hl] at e
     cases e;exact⟨v,List.getElem?_set_self (by rw[←h.len];exact hl),r⟩
   · rw[aS (by simp;omega)] at e;cases e
 · rw[List.getElem?_set_ne (Ne.symm q)] at e⊢
   exact h.val j d' e
structure Rel(Γ:Gm)(env:u7)(ah:AH)(σ:St)(H:Hp)(m:List Addr):Prop where
 sim:Sim Γ ah m H
 env:EnvRel m H env σ
def b8U(Γ:Gm)(m:List Addr)(H:Hp)(c:Nat)(fs:List (Str×D))(dx:Addr):Prop:=c∈Γ.xs/\∃gs,H dx=some (.xd gs)/\Fl m H fs gs
def i7(Γ:Gm)(E:XK)(m:List Addr)(H:Hp)(r:R D)(Q:VK):Prop:=match r with
 |.ok d ah'=>∀m' H' v,Pre m m'->Keep m m' H H'->Sim Γ ah' m' H'->Rp m' H' d v->Q v H'
 |.ex c fs ah'=>∀m' H' dx,Pre m m'->Keep m m' H H'->Sim Γ ah' m' H'->b8U Γ m' H' c fs dx->E (.ref (Γ.cA c)) (some dx) H'
 |.no=>False
def j9{α:Type}(Γ:Gm)(E:XK)(m:List Addr)(H:Hp)(r:R α)(Q:α->AH->List Addr->Hp->Prop):Prop:=match r with
 |.ok a ah'=>∀m' H',Pre m m'->Keep m m' H H'->Sim Γ ah' m' H'->Q a ah' m' H'
 |.ex c fs ah'=>∀m' H' dx,Pre m m'->Keep m m' H H'->Sim Γ ah' m' H'->b8U Γ m' H' c fs dx->E (.ref (Γ.cA c)) (some dx) H'
 |.no=>False
variable{r:R D}{Q:VK}{α:Type}{β:Type}{ah:AH}
section
variable{E:XK}
theorem i7.later(h:i7 Γ E m H r Q)(p:Pre m m')(k:Keep m m' H H'):i7 Γ E m' H' r Q:=by
 cases r with
 |ok d ah=>exact fun m2 H2 v p2 k2 s2 r2=>h m2 H2 v (p.trans p2) (k.trans k2) s2 r2
 |ex c fs ah=>exact fun m2 H2 dx p2 k2 s2 r2=>h m2 H2 dx (p.trans p2) (k.trans k2) s2 r2
 |no=>exact h
theorem i7.bind{r:R α}{f:α->AH->R D}(h:i7 Γ E m H (r.bind f) Q):j9 Γ E m H r (fun a ah1 m1 H1=>i7 Γ E m1 H1 (f a ah1) Q):=by
 cases r with
 |ok d ah=>exact fun m2 H2 p2 k2 s2=>i7.later h p2 k2
 |ex c fs ah=>exact h
 |no=>exact h
theorem j9.later{r:R α}{Q:α->AH->List Addr->Hp->Prop}(h:j9 Γ E m H r Q)(p:Pre m m')(k:Keep m m' H H'):j9 Γ E m' H' r Q:=by
 cases r with
 |ok d ah=>exact fun m2 H2 p2 k2 s2=>h m2 H2 (p.trans p2) (k.trans k2) s2
 |ex c fs ah=>exact fun m2 H2 dx p2 k2 s2 r2=>h m2 H2 dx (p.trans p2) (k.trans k2) s2 r2
 |no=>exact h
theorem j9.bind{r:R α}{f:α->AH->R β}{Q:β->AH->List Addr->Hp->Prop}(h:j9 Γ E m H (r.bind f) Q):j9 Γ E m H r (fun a ah1 m1 H1=>j9 Γ E m1 H1 (f a ah1) Q):=by
 cases r with
 |ok d ah=>exact fun m2 H2 p2 k2 s2=>j9.later h p2 k2
 |ex c fs ah=>exact h
 |no=>exact h
theorem j9.val{P:D->AH->List Addr->Hp->Prop}(h:j9 Γ E m H r P)(k:∀d ah1 m1 H1 v,Pre m m1->Keep m m1 H H1->Sim Γ ah1 m1 H1->Rp m1 H1 d v->P d ah1 m1 H1->Q v H1):i7 Γ E m H r Q:=by
 cases r with
 |ok d ah=>exact fun m2 H2 v p2 k2 s2 r2=>k d ah m2 H2 v p2 k2 s2 r2 (h m2 H2 p2 k2 s2)
 |ex c fs ah=>exact h
 |no=>exact h
theorem i7.ok(h:i7 Γ E m H (.ok d ah) Q)(s:Sim Γ ah m H)(r:Rp m H d v):Q v H:=h m H v (Pre.refl m) (Keep.refl m H) s r
theorem i7.newc{c:Cell}{p:Addr}{o:HO}(h:i7 Γ E m H (z5 c ah) Q)(s:Sim Γ ah m H)(hp:H p=none)(ok:D1 Γ (m++[p]) (upd H p o) p c):Q (.ref p) (upd H p o):=by
 refine h (m++[p]) (upd H p o) (.ref p) (Pre.snoc m p) (Keep.newc hp) (s.alloc hp ok) ⟨p,rfl,?_⟩
 rw[←s.len,au (aj _)];simp
theorem i7.newt{p:Addr}(h:i7 Γ E m H (.ok (.tup l) ah) Q)(s:Sim Γ ah m H)(hp:H p=none)(r:Rps m H l vs):Q (.ref p) (upd H p (.tup vs)):=
 h m _ (.ref p) (Pre.refl m) (Keep.new hp) (s.new hp) ⟨p,vs,rfl,c9,r.mono (Pre.refl m) (Keep.new hp)⟩
end
open PySem PySem.Spec L2
open PyProof.Rows hiding St
theorem N4:SL=sizeLine:=by rw[sizeLine_eq]
theorem a4S{l:List α}{x:α}(h:l[n]? =some x):l.set n x=l:=by
 refine List.ext_getElem? fun i=>?_
 by_cases e:i=n
 · subst e;rw[List.getElem?_set_self (ac.mp h).1,h]
 · rw[List.getElem?_set_ne (Ne.symm e)]
variable{op:CmpOp}{pins:List (Addr×Obj)}{kvs:List (D×D)}
section
variable{X:Cx}{E:XK}
noncomputable def rOf(Γ:Gm)(E:XK)(g:AH->D->D->R D):R2:=fun x y H Q=>∃d1 d2 ah m,Sim Γ ah m H/\Rp m H d1 x/\Rp m H d2 y/\i7 Γ E m H (g ah d1 d2) Q
theorem OpR.imp{f:Value->Value->Sem Value}{r r':R2}(h:OpR X f r)(i:∀x y H Q,r' x y H Q->r x y H Q):OpR X f r':=fun pins s σ H x y v u Q I rx ry q=>h pins s σ H x y v u Q I rx ry (i _ _ _ _ q)
theorem b8e:OpR X (binaryOp .Add) (rOf Γ E O2):=by
 refine OpR.imp (b4O.or (a6a.or b4N)) ?_
 rintro x y H Q ⟨d1,d2,ah,m,s,r1,r2,q⟩;unfold O2 at q
 split at q
 · cases r1;cases r2
   exact .inl ⟨_,_,rfl,rfl,q.ok s rfl⟩
 · cases r1;cases r2
   split at q
   · rename_i h;exact .inr (.inl ⟨_,_,rfl,rfl,by rw[←N4];exact h,q.ok s rfl⟩)
   · exact q.elim
 · split at q
   · rename_i e1 e2
     split at q
     · rename_i h;obtain⟨a,vs,rfl,ha,h1,q1⟩:=s.lst e1 r1;obtain⟨b,ws,rfl,hb,h2,q2⟩:=s.lst e2 r2;refine .inr (.inr ⟨a,b,vs,ws,rfl,rfl,h1,h2,by rw[q1.len,q2.len,←N4];exact h,fun p hp=>q.newc s hp ⟨_,c9,?_⟩⟩)
       exact(q1.app q2).mono (Pre.snoc m p) (Keep.newc hp)
     · exact q.elim
   · exact q.elim
 · exact q.elim
theorem b7X:OpR X (binaryOp .Sub) (rOf Γ E a5b):=by
 refine OpR.imp b4G ?_
 rintro x y H Q ⟨d1,d2,ah,m,s,r1,r2,q⟩;unfold a5b at q
 split at q
 · cases r1;cases r2
   exact⟨_,_,rfl,rfl,q.ok s rfl⟩
 · exact q.elim
theorem b7Y:OpR X (binaryOp .Mult) (rOf Γ E T4):=by
 refine OpR.imp ((b4J.or b4H).or b2k) ?_
 rintro x y H Q ⟨d1,d2,ah,m,s,r1,r2,q⟩;unfold T4 at q
 split at q
 · cases r1;cases r2
   split at q
   · rename_i h;rw[Bool.or_eq_true] at h;exact .inl (.inl ⟨_,_,rfl,rfl,h.imp a1V a1V,q.ok s rfl⟩)
   · exact q.elim
 · split at q
   · rename_i e1
     split at q
     · rename_i h;obtain⟨a,vs,rfl,ha,h1,q1⟩:=s.lst e1 r1;cases r2;refine .inl (.inr ⟨a,_,vs,rfl,rfl,h1,(by have:=M9 h.1;omega),(by have:=M9 h.1;omega),by rw[q1.len,←N4];exact h.2,fun p hp=>q.newc s hp ⟨_,c9,?_⟩⟩)
       exact(q1.rep _).mono (Pre.snoc m p) (Keep.newc hp)
     · exact q.elim
   · exact q.elim
 · cases r1;cases r2
   split at q
   · rename_i h;exact .inr ⟨_,_,rfl,rfl,(by have:=M9 h.1;omega),(by have:=M9 h.1;omega),by rw[←N4];exact h.2,q.ok s rfl⟩
   · exact q.elim
 · exact q.elim
theorem b8c:OpR X (binaryOp .FloorDiv) (rOf Γ E D7):=by
 refine OpR.imp b2l ?_
 rintro x y H Q ⟨d1,d2,ah,m,s,r1,r2,q⟩;unfold D7 at q
 split at q
 · cases r1;cases r2
   split at q
   · rename_i h;exact⟨_,_,rfl,rfl,h,q.ok s rfl⟩
   · exact q.elim
 · exact q.elim
theorem b7Z:OpR X (binaryOp .Mod) (rOf Γ E y9):=by
 refine OpR.imp b4K ?_
 rintro x y H Q ⟨d1,d2,ah,m,s,r1,r2,q⟩;unfold y9 at q
 split at q
 · cases r1;cases r2
   split at q
   · rename_i h;exact⟨_,_,rfl,rfl,h,q.ok s rfl⟩
   · exact q.elim
 · exact q.elim
theorem b9K{x y:V}{b:Bool}(h:b=true↔x=y):b=decide (x=y):=by
 by_cases e:x=y
 · rw[aX e];exact h.mpr e
 · rw[bq e]
   cases b with
   |false=>rfl
   |true=>exact absurd (h.mp rfl) e
theorem b0G{d1 d2:D}{x y:V}{b:Bool}(e:eqS d1 d2=some b)(r1:Rp m H d1 x)(r2:Rp m H d2 y):scal x y=true/\b=decide (x=y):=by
 unfold eqS at e
 split at e<;>first|(cases e;done)|(cases e;cases r1;cases r2;refine⟨rfl,?_⟩;first|rfl|(refine b9K ⟨fun h=>?_,fun h=>?_⟩<;>first|(rw[aw h])|(injection h with h;exact aX h)))
theorem a7p{p:Int->Int->Bool}(h:OpR X (compareOp op) (rI0 fun i j=>.bl (p i j))):OpR X (compareOp op) (rOf Γ E (F5 p)):=by
 refine OpR.imp h ?_
 rintro x y H Q ⟨d1,d2,ah,m,s,r1,r2,q⟩;unfold F5 at q
 split at q
 · cases r1;cases r2
   exact⟨_,_,rfl,rfl,q.ok s rfl⟩
 · exact q.elim
theorem O5{x:V}(r:Rp m H d x)(f:v5 d=true):L8 x=true:=by
 cases d<;>first|(cases r;rfl)|(simp[v5] at f)
theorem F6{m:List Addr}{H:Hp}:∀{l:List D} {vs:List V},Rps m H l vs->l.all v5=true->vs.all L8=true
 |[],vs,h,_=>by rw[show vs=[] from h];rfl
 |d::r,vs,⟨v,t,e,q1,q2⟩,f=>by
  subst e;rw[all_cons,ae] at f⊢;exact⟨O5 q1 f.1,F6 q2 f.2⟩
theorem b0H{e:D}{x y:V}(r1:Rp m H d x)(r2:Rp m H e y)(f1:v5 d=true)(f2:v5 e=true):eqF d e=eqV x y:=by
 cases d<;>first|(simp[v5] at f1;done)|(cases e<;>first|(simp[v5] at f2;done)|(cases r1;cases r2;rfl))
theorem X3{m:List Addr}{H:Hp}{d:D}{x:V}(r:Rp m H d x)(f:v5 d=true):∀{l:List D} {vs:List V},Rps m H l vs->l.all v5=true->inD d l=inV x vs
 |[],vs,h,_=>by rw[show vs=[] from h];rfl
 |e::t,vs,⟨v,u,ev,q1,q2⟩,fl=>by
  subst ev;rw[all_cons,ae] at fl;have ih:=X3 r f q2 fl.2;unfold inD inV at ih⊢;rw[any_cons,any_cons,b0H q1 r fl.1 f,ih]
theorem a7o{m:List Addr}{H:Hp}:∀{xs ys:List D} {vs ws:List V},Rps m H xs vs->Rps m H ys ws->xs.all v5=true->ys.all v5=true->a8l xs ys=a0x vs ws
 |[],[],vs,ws,h1,h2,_,_=>by rw[show vs=[] from h1,show ws=[] from h2];rfl
 |[],y::ys,vs,ws,h1,⟨v,t,e,_,_⟩,_,_=>by rw[show vs=[] from h1,e];rfl
 |x::xs,[],vs,ws,⟨v,t,e,_,_⟩,h2,_,_=>by rw[show ws=[] from h2,e];rfl
 |x::xs,y::ys,vs,ws,⟨v,t,e,q1,q2⟩,⟨v',t',e',q1',q2'⟩,f,f'=>by
  subst e e';rw[all_cons,ae] at f f';rw[a8l,a0x,b0H q1 q1' f.1 f'.1,a7o q2 q2' f.2 f'.2]
theorem a7n{e:D}{x y:V}{c:Bool}(s:Sim Γ ah m H)(r1:Rp m H d x)(r2:Rp m H e y)(h:a5r ah d e=some c):∃a b xs ys,x=.ref a/\y=.ref b/\SqL Γ.K H a xs/\SqL Γ.K H b ys/\xs.all L8=true/\ys.all L8=true/\a0x xs ys=c:=by
 unfold a5r at h
 split at h
 · split at h
   · rename_i xs ys e1 e2
     split at h
     · rename_i hf;cases h;rw[ae] at hf;obtain⟨a,vs,rfl,_,h1,q1⟩:=s.rdL e1 r1;obtain⟨b,ws,rfl,_,h2,q2⟩:=s.rdL e2 r2;exact⟨a,b,vs,ws,rfl,rfl,h1,h2,F6 q1 hf.1,F6 q2 hf.2,(a7o q1 q2 hf.1 hf.2).symm⟩
     · cases h
   · cases h
 · cases h
theorem hu1(h:n+8<cLine):n+1<cLine:=Nat.lt_of_le_of_lt (by omega) h
theorem b9J(hu:X.A.units+8<cLine)(hK:X.K=Γ.K):OpR X (compareOp .Eq) (rOf Γ E J8):=by
 refine OpR.imp (b7p.or (b4M (X:=X) (by omega))) ?_
 rintro x y H Q ⟨d1,d2,ah,m,s,r1,r2,q⟩;unfold J8 at q
 split at q
 · rename_i c e;obtain⟨h1,h2⟩:=b0G e r1 r2;exact .inl ⟨h1,by rw[←h2];exact q.ok s rfl⟩
 · split at q
   · rename_i c e;obtain⟨a,b,xs,ys,e1,e2,s1,s2,f1,f2,z⟩:=a7n s r1 r2 e;exact .inr ⟨a,b,xs,ys,e1,e2,by rw[hK];exact s1,by rw[hK];exact s2,f1,f2,by rw[z];exact q.ok s rfl⟩
   · exact q.elim
theorem b9H(hu:X.A.units+8<cLine)(hK:X.K=Γ.K):OpR X (compareOp .NotEq) (rOf Γ E a1z):=by
 refine OpR.imp (b7k.or (b4I (X:=X) (by omega))) ?_
 rintro x y H Q ⟨d1,d2,ah,m,s,r1,r2,q⟩;unfold a1z at q
 split at q
 · rename_i c e;obtain⟨h1,h2⟩:=b0G e r1 r2;exact .inl ⟨h1,by rw[←h2];exact q.ok s rfl⟩
 · split at q
   · rename_i c e;obtain⟨a,b,xs,ys,e1,e2,s1,s2,f1,f2,z⟩:=a7n s r1 r2 e;exact .inr ⟨a,b,xs,ys,e1,e2,by rw[hK];exact s1,by rw[hK];exact s2,f1,f2,by rw[z];exact q.ok s rfl⟩
   · exact q.elim
theorem b4d{s:Shared}(I:Inv X pins σ H s)(h:H a=some (.dK [])):Inv X pins σ (upd H a (.dT [])) s:=by
 obtain⟨z,hd,vs,rel,o,es,ep,ho,hx,hdt,hes,hp,hh⟩:=I.hok a _ h;cases rel
 have e0:es.toList=[]:=by cases q:es.toList with
  |nil=>rfl
  |cons x r=>rw[q] at hp;cases hp
 exact I.write (x:=a) (e:=a) (h':=s.heap) (t':=s.toks) (by rw[h];trivial) (.inl rfl) (fun b u _ q=>q) ⟨o,ho⟩ ⟨z,hd,[],.nil,o,es,ep,ho,hx,hdt,e0,nodup_nil⟩
theorem b4e{s:Shared}(I:Inv X pins σ H s)(h:H a=some (.dT [])):Inv X pins σ (upd H a (.dK [])) s:=by
 obtain⟨z,hd,xs,rel,o,es,ep,ho,hx,hdt,hes,hh⟩:=I.hok a _ h;cases rel
 have e0:es= #[]:=Array.toList_inj.mp hes
 subst e0;refine I.write (x:=a) (e:=a) (h':=s.heap) (t':=s.toks) (by rw[h];trivial) (.inl rfl) (fun b u _ q=>q) ⟨o,ho⟩ ⟨z,hd,[],.nil,o,#[],ep,ho,hx,hdt,fun e he=>?_,.nil,nodup_nil⟩
 simp at he
theorem Z5{k:Key}(e:K0 d=some k)(r:Rp m H d v):v=kV k:=by
 cases d<;>simp only[K0] at e<;>first|(cases e;done)|(cases e;cases r;rfl)
theorem a2s{m:List Addr}{H:Hp}:∀{l:List D} {vs:List V} {ks:List Key},D8 l=some ks->Rps m H l vs->vs=ks.map kV
 |[],vs,ks,e,h=>by cases e;exact h
 |d::r,vs,ks,e,⟨v,t,ev,q1,q2⟩=>by
  subst ev;unfold D8 at e
  split at e
  · rename_i k ks' e1 e2;cases e;rw[map_cons,Z5 e1 q1,a2s e2 q2]
  · cases e
theorem X2{a b:D}{k:Key}(h1:K0 a=some k)(h2:K0 b=some k):a=b:=by
 cases a<;>simp only[K0] at h1<;>first|(cases h1;done)|(cases h1;cases b<;>simp only[K0] at h2<;>first|(cases h2;done)|(cases h2;rfl))
theorem a1e:∀{a b:List D} {k:List Key},D8 a=some k->D8 b=some k->a=b
 |[],[],_,_,_=>rfl
 |[],y::ys,k,h1,h2=>by
  cases h1;unfold D8 at h2
  split at h2<;>cases h2
 |x::xs,[],k,h1,h2=>by
  cases h2;unfold D8 at h1
  split at h1<;>cases h1
 |x::xs,y::ys,k,h1,h2=>by
  unfold D8 at h1 h2
  split at h1
  · rename_i k1 ks1 e1 e2;cases h1
    split at h2
    · rename_i k2 ks2 e3 e4;cases h2;rw[X2 e1 e3,a1e e2 e4]
    · cases h2
  · cases h1
theorem a4b(h:K5 d=some false):∃k,K0 d=some k:=by
 cases d<;>simp only[K5] at h<;>first|(cases h;done)|exact⟨_,rfl⟩|(split at h<;>cases h)
theorem a2t(h:K5 d=some true):∃l ks,d=.tup l/\D8 l=some ks:=by
 cases d<;>simp only[K5] at h<;>first|(cases h;done)|skip
 rename_i l
 split at h
 · rename_i e;obtain⟨ks,hk⟩:=Option.isSome_iff_exists.mp e;exact⟨l,ks,rfl,hk⟩
 · cases h
theorem DK.val{l:List (D×D)}{kvs:List (Key×V)}(r:DK m H l kvs){k:Key}(e:K0 d=some k):
 (∀c,o9 l d=some c->∃v,T0 kvs k=some v/\Rp m H c v)/\(o9 l d=none->T0 kvs k=none):=by
 induction r with
 |nil=>exact⟨fun c h=>(by cases h),fun _=>rfl⟩
 | @cons p q ps qs h t ih=>
  by_cases z:p.1=d
  · have z':q.1=k:=by have:=h.1;rw[z,e] at this;exact(ax this).symm
    rw[W2 z',show o9 (p::ps) d=some p.2 from by simp[o9,List.find?_cons,z]]
    exact⟨fun c hc=>by cases hc;exact⟨q.2,rfl,h.2⟩,fun hc=>by cases hc⟩
  · have z':¬q.1=k:=fun y=>z (X2 (by rw[h.1,y]) e)
    rw[W3 z',show o9 (p::ps) d=o9 ps d from by simp[o9,List.find?_cons,z]]
    exact ih
theorem DT.val{l:List (D×D)}{kvs:List (List Key×V)}(r:DT m H l kvs){d:List D}{k:List Key}(e:D8 d=some k):
 (∀c,o9 l (.tup d)=some c->∃v,T0 kvs k=some v/\Rp m H c v)/\(o9 l (.tup d)=none->T0 kvs k=none):=by
 induction r with
 |nil=>exact⟨fun c h=>(by cases h),fun _=>rfl⟩
 | @cons p q ps qs h t ih=>
  obtain⟨⟨l',e1,e2⟩,h2⟩:=h
  by_cases z:p.1=.tup d
  · have z':q.1=k:=by rw[e1] at z;injection z with z;rw[z,e] at e2;exact(ax e2).symm
    rw[W2 z',show o9 (p::ps) (.tup d)=some p.2 from by simp[o9,List.find?_cons,z]]
    exact⟨fun c hc=>by cases hc;exact⟨q.2,rfl,h2⟩,fun hc=>by cases hc⟩
  · have z':¬q.1=k:=fun y=>z (e1.trans (congrArg D.tup (a1e (e2.trans (congrArg some y)) e)))
    rw[W3 z',show o9 (p::ps) (.tup d)=o9 ps (.tup d) from by simp[o9,List.find?_cons,z]]
    exact ih
theorem DK.put {l:List (D×D)} {kvs:List (Key×V)} (r:DK m H l kvs) {c:D} {k:Key} (e:K0 d=some k) (rv:Rp m H c v):DK m H (a0I l d c) (L1 kvs k v):=by
 have any:(l.any fun p=>decide (p.1=d))=kvs.any fun p=>decide (p.1=k):=by
  induction r with
  |nil=>rfl
  | @cons p q ps qs h t ih=>
   rw[any_cons,any_cons,ih];congr 1;refine decide_eq_decide.mpr ⟨fun(z:p.1=d)=>?_,fun(z:q.1=k)=>X2 (by rw[h.1,z]) e⟩
   have:=h.1;rw[z,e] at this;exact(ax this).symm
 unfold a0I L1;rw[any]
 split
 · clear any
   induction r with
   |nil=>exact .nil
   | @cons p q ps qs h t ih=>
    rename_i hh;rw[map_cons,map_cons];refine .cons ?_ ?_
    · by_cases z:p.1=d
      · have z':q.1=k:=by have:=h.1;rw[z,e] at this;exact(ax this).symm
        rw[ay z,ay z'];exact⟨h.1,rv⟩
      · have z':¬q.1=k:=fun y=>z (X2 (by rw[h.1,y]) e)
        rw[az z,az z'];exact h
    · clear hh ih h
      induction t with
      |nil=>exact .nil
      | @cons p q ps qs h t ih=>
       rw[map_cons,map_cons];refine .cons ?_ ih
       by_cases z:p.1=d
       · have z':q.1=k:=by have:=h.1;rw[z,e] at this;exact(ax this).symm
         rw[ay z,ay z'];exact⟨h.1,rv⟩
       · have z':¬q.1=k:=fun y=>z (X2 (by rw[h.1,y]) e)
         rw[az z,az z'];exact h
 · exact Paired.snoc r ⟨e,rv⟩
theorem DT.put{l:List (D×D)}{kvs:List (List Key×V)}(r:DT m H l kvs){d:List D}{c:D}{k:List Key}(e:D8 d=some k)(rv:Rp m H c v):DT m H (a0I l (.tup d) c) (L1 kvs k v):=by
 have one:∀{p:D×D} {q:List Key×V},(∃l,p.1=.tup l/\D8 l=some q.1)->(p.1=.tup d↔q.1=k):=by
  rintro p q ⟨l',e1,e2⟩;refine⟨fun(z:p.1=.tup d)=>?_,fun(z:q.1=k)=>e1.trans (congrArg D.tup (a1e (e2.trans (congrArg some z)) e))⟩
  rw[e1] at z;injection z with z;rw[z,e] at e2;exact(ax e2).symm
 have any:(l.any fun p=>decide (p.1=.tup d))=kvs.any fun p=>decide (p.1=k):=by
  induction r with
  |nil=>rfl
  | @cons p q ps qs h t ih=>
   rw[any_cons,any_cons,ih];congr 1;exact decide_eq_decide.mpr (one h.1)
 unfold a0I L1;rw[any]
 split
 · have go:∀{l:List (D×D)} {kvs:List (List Key×V)},DT m H l kvs->DT m H (l.map fun p=>if p.1=.tup d then(p.1,c) else p) (kvs.map fun p=>if p.1=k then(p.1,v) else p):=by
    intro l kvs r
    induction r with
    |nil=>exact .nil
    | @cons p q ps qs h t ih=>
     rw[map_cons,map_cons];refine .cons ?_ ih
     by_cases z:p.1=.tup d
     · rw[ay z,ay ((one h.1).mp z)];exact⟨h.1,rv⟩
     · rw[az z,az fun y=>z ((one h.1).mpr y)];exact h
   exact go r
 · exact Paired.snoc r ⟨⟨d,rfl,e⟩,rv⟩
theorem O0{s:Shared}{k:D}(I:Inv X pins σ H s)(S:Sim Γ ah m H)(e:ah[n]? =some (.dict kvs))(ok:G8 k kvs=true)(hm:m[n]? =some a):
 ∃H',Inv X pins σ H' s/\Keep m m H H'/\Sim Γ ah m H'/\((∃ks gs,K0 k=some ks/\H' a=some (.dK gs)/\DK m H' kvs gs)∨∃l ks gs,k=.tup l/\D8 l=some ks/\H' a=some (.dT gs)/\DT m H' kvs gs):=by
 unfold G8 at ok;rw[ae] at ok;obtain⟨ok1,ok2⟩:=ok;obtain⟨b,hb⟩:=Option.isSome_iff_exists.mp ok1
 rcases S.at hm e with⟨gs,h1,h2⟩|⟨gs,h1,h2⟩
 · cases b with
   |false=>
    obtain⟨ks,hk⟩:=a4b hb;exact⟨H,I,Keep.refl m H,S,.inl ⟨ks,gs,hk,h1,h2⟩⟩
   | true=>
    obtain⟨l,ks,rfl,hk⟩:=a2t hb
    cases h2 with
    |nil=>
     have kp:Keep m m H (upd H a (.dT [])):=Keep.put hm h1 fun z=>z
     have S':=S.write (o':=.dT []) (c:=.dict []) hm h1 (fun z=>z) (.inr ⟨[],c9,.nil⟩)
     rw[show ah.set n (.dict [])=ah from a4S e] at S';exact⟨_,b4d I h1,kp,S',.inr ⟨l,ks,[],rfl,hk,c9,.nil⟩⟩
    | @cons p q ps qs h t=>
     rw[all_cons,ae,hb] at ok2
     exfalso
     have:=eq_of_beq ok2.1
     obtain⟨l',ks',e1,_⟩:=a2t this;have h1:=h.1;rw[e1] at h1;cases h1
 · cases b with
   |true=>
    obtain⟨l,ks,rfl,hk⟩:=a2t hb;exact⟨H,I,Keep.refl m H,S,.inr ⟨l,ks,gs,rfl,hk,h1,h2⟩⟩
   | false=>
    obtain⟨ks,hk⟩:=a4b hb
    cases h2 with
    |nil=>
     have kp:Keep m m H (upd H a (.dK [])):=Keep.put hm h1 fun z=>z
     have S':=S.write (o':=.dK []) (c:=.dict []) hm h1 (fun z=>z) (.inl ⟨[],c9,.nil⟩)
     rw[show ah.set n (.dict [])=ah from a4S e] at S';exact⟨_,b4e I h1,kp,S',.inl ⟨ks,[],hk,c9,.nil⟩⟩
    | @cons p q ps qs h t=>
     rw[all_cons,ae,hb] at ok2
     exfalso
     have:=eq_of_beq ok2.1
     obtain⟨ks',hk'⟩:=a4b this;obtain⟨⟨l',e1,_⟩,_⟩:=h;rw[e1] at hk';cases hk'
end
variable{o:B}{f:Str}
section
variable{X:Cx}{E:XK}
theorem a2F(b:Bool):(b !=false)=b:=by cases b<;>rfl
theorem a2E(b:Bool):(b !=true)=!b:=by cases b<;>rfl
theorem DK.some_eq{l:List (D×D)}{kvs:List (Key×V)}(r:DK m H l kvs){k:Key}(e:K0 d=some k):(o9 l d).isSome=(T0 kvs k).isSome:=by
 obtain⟨h1,h2⟩:=r.val e
 cases q:o9 l d with
 |none=>rw[h2 q];rfl
 |some c=>obtain⟨v,hv,_⟩:=h1 c q;rw[hv];rfl
theorem DT.some_eq{l:List (D×D)}{kvs:List (List Key×V)}(r:DT m H l kvs){d:List D}{k:List Key}(e:D8 d=some k):(o9 l (.tup d)).isSome=(T0 kvs k).isSome:=by
 obtain⟨h1,h2⟩:=r.val e
 cases q:o9 l (.tup d) with
 |none=>rw[h2 q];rfl
 |some c=>obtain⟨v,hv,_⟩:=h1 c q;rw[hv];rfl
theorem a2z{k:D}{x:V}(kp:Keep m m H H')(r:Rp m H k x)
 (h:(∃ks gs,K0 k=some ks/\H' a=some (.dK gs)/\DK m H' kvs gs)∨∃l ks gs,k=.tup l/\D8 l=some ks/\H' a=some (.dT gs)/\DT m H' kvs gs):
 ∃o,b1h H' a x o/\(o9 kvs k).isSome=o.isSome/\∀c,o9 kvs k=some c->∃v,o=some v/\Rp m H' c v:=by
 rcases h with⟨ks,gs,hk,ha,dk⟩|⟨l,ks,gs,rfl,hk,ha,dt⟩
 · obtain⟨h1,h2⟩:=dk.val hk;exact⟨T0 gs ks,.inl ⟨gs,ks,.inl ha,Z5 hk r,rfl⟩,dk.some_eq hk,fun c hc=>h1 c hc⟩
 · obtain⟨h1,h2⟩:=dt.val hk;obtain⟨b,vs,rfl,hb,rs⟩:=r;have hv:=a2s hk rs;subst hv;exact⟨T0 gs ks,.inr ⟨gs,ks,b,.inl ha,rfl,kp.tup hb,rfl⟩,dt.some_eq hk,fun c hc=>h1 c hc⟩
theorem b9I(hu:X.A.units+8<cLine)(hK:X.K=Γ.K):OpR X (compareOp .In) (rOf Γ E (U6 false)):=by
 rintro pins s σ H x y v u Q I rx ry ⟨d1,d2,ah,m,S,r1,r2,q⟩;unfold U6 at q
 split at q
 · cases r1;cases r2
   rw[a2F] at q;exact a7S pins s σ H _ _ v u Q I rx ry ⟨_,_,rfl,rfl,q.ok S rfl⟩
 · split at q
   · rename_i h;rw[ae] at h;obtain⟨a,vs,rfl,h1,q1⟩:=r2;refine Z2 pins s σ H _ _ v u Q I rx ry ⟨a,vs,rfl,.inr (.inl (.inl h1)),O5 r1 h.1,F6 q1 h.2,?_⟩
     rw[a2F,X3 r1 h.1 q1 h.2] at q;exact q.ok S rfl
   · exact q.elim
 · split at q
   · rename_i xs e
     split at q
     · rename_i h;rw[ae] at h;obtain⟨a,vs,rfl,_,h1,q1⟩:=S.lst e r2;refine Z2 pins s σ H _ _ v u Q I rx ry ⟨a,vs,rfl,.inl (.inl (.inl h1)),O5 r1 h.1,F6 q1 h.2,?_⟩
       rw[a2F,X3 r1 h.1 q1 h.2] at q;exact q.ok S rfl
     · exact q.elim
   · rename_i xs e
     split at q
     · rename_i h;rw[ae] at h;obtain⟨a,vs,rfl,_,h1,q1⟩:=S.rdL (l:=xs) (by unfold rdL;rw[e]) r2
       refine Z2 pins s σ H _ _ v u Q I rx ry ⟨a,vs,rfl,.inl (by rw[hK];exact h1),O5 r1 h.1,F6 q1 h.2,?_⟩
       rw[a2F,X3 r1 h.1 q1 h.2] at q;exact q.ok S rfl
     · exact q.elim
   · rename_i kvs e
     split at q
     · rename_i h;obtain⟨a,rfl,hm⟩:=r2;obtain⟨H',I',kp,S',hd⟩:=O0 I S e h hm;obtain⟨o,g,h1,_⟩:=a2z kp r1 hd
       cases (show u=Value.ref a from ry)
       refine b9L (hu1 hu) I' g rx fun s' I''=>⟨.bl o.isSome,H',I'',rfl,?_⟩
       rw[a2F,h1] at q;exact q m H' _ (Pre.refl m) kp S' rfl
     · exact q.elim
   · exact q.elim
 · exact q.elim
theorem b3a(hu:X.A.units+8<cLine)(hK:X.K=Γ.K):OpR X (compareOp .NotIn) (rOf Γ E (U6 true)):=by
 rintro pins s σ H x y v u Q I rx ry ⟨d1,d2,ah,m,S,r1,r2,q⟩;unfold U6 at q
 split at q
 · cases r1;cases r2
   rw[a2E] at q;exact a3S pins s σ H _ _ v u Q I rx ry ⟨_,_,rfl,rfl,q.ok S rfl⟩
 · split at q
   · rename_i h;rw[ae] at h;obtain⟨a,vs,rfl,h1,q1⟩:=r2;refine M0 pins s σ H _ _ v u Q I rx ry ⟨a,vs,rfl,.inr (.inl (.inl h1)),O5 r1 h.1,F6 q1 h.2,?_⟩
     rw[a2E,X3 r1 h.1 q1 h.2] at q;exact q.ok S rfl
   · exact q.elim
 · split at q
   · rename_i xs e
     split at q
     · rename_i h;rw[ae] at h;obtain⟨a,vs,rfl,_,h1,q1⟩:=S.lst e r2;refine M0 pins s σ H _ _ v u Q I rx ry ⟨a,vs,rfl,.inl (.inl (.inl h1)),O5 r1 h.1,F6 q1 h.2,?_⟩
       rw[a2E,X3 r1 h.1 q1 h.2] at q;exact q.ok S rfl
     · exact q.elim
   · rename_i xs e
     split at q
     · rename_i h;rw[ae] at h;obtain⟨a,vs,rfl,_,h1,q1⟩:=S.rdL (l:=xs) (by unfold rdL;rw[e]) r2
       refine M0 pins s σ H _ _ v u Q I rx ry ⟨a,vs,rfl,.inl (by rw[hK];exact h1),O5 r1 h.1,F6 q1 h.2,?_⟩
       rw[a2E,X3 r1 h.1 q1 h.2] at q;exact q.ok S rfl
     · exact q.elim
   · rename_i kvs e
     split at q
     · rename_i h;obtain⟨a,rfl,hm⟩:=r2;obtain⟨H',I',kp,S',hd⟩:=O0 I S e h hm;obtain⟨o,g,h1,_⟩:=a2z kp r1 hd
       cases (show u=Value.ref a from ry)
       refine b3e (hu1 hu) I' g rx fun s' I''=>⟨.bl (!o.isSome),H',I'',rfl,?_⟩
       rw[a2E,h1] at q;exact q m H' _ (Pre.refl m) kp S' rfl
     · exact q.elim
   · exact q.elim
 · exact q.elim
noncomputable def B.cmp:B->Option CmpOp
 |.eq=>some .Eq|.ne=>some .NotEq|.lt=>some .Lt|.le=>some .LtE|.gt=>some .Gt|.ge=>some .GtE|.isin=>some .In|.notin=>some .NotIn
 |_=>none
noncomputable def B.bin:B->Option Operator
 |.add=>some .Add|.sub=>some .Sub|.mul=>some .Mult|.div=>some .FloorDiv|.mod=>some .Mod
 |_=>none
theorem b8d{op:Operator}(h:o.bin=some op):OpR X (binaryOp op) (rOf Γ E (op2 o)):=by
 cases o<;>cases h
 · exact b8e
 · exact b7X
 · exact b7Y
 · exact b8c
 · exact b7Z
theorem a1j(hu:X.A.units+8<cLine)(hK:X.K=Γ.K)(h:o.cmp=some op):OpR X (compareOp op) (rOf Γ E (op2 o)):=by
 cases o<;>cases h
 · exact b9J hu hK
 · exact b9H hu hK
 · exact a7p b7l
 · exact a7p b7m
 · exact a7p b7n
 · exact a7p b7o
 · exact b9I hu hK
 · exact b3a hu hK
theorem b8a (hu:X.A.units+8<cLine) (hK:X.K=Γ.K):IxR X (rOf Γ E ixD):=by
  rintro value slice pins s σ H x y v u Q I rx ry ⟨d1,d2,ah,m,S,r1,r2,q⟩ hs;unfold ixD at q
  split at q
  · split at q
    · rename_i d e;obtain⟨a,vs,rfl,h1,q1⟩:=r1;cases r2;obtain⟨w,hw,rw'⟩:=q1.at e;exact ix_tup value slice pins s σ H _ _ v u Q I rx ry ⟨a,vs,_,w,rfl,rfl,.inl (.inl h1),hw,q.ok S rw'⟩ hs
    · exact q.elim
  · split at q
    · rename_i hl
      split at q
      · rename_i c e
        cases r1;cases r2
        exact ix_str value slice pins s σ H _ _ v u Q I rx ry ⟨_,_,c,rfl,rfl,by rw[←N4];exact hl,e,q.ok S rfl⟩ hs
      · exact q.elim
    · exact q.elim
  · split at q
    · rename_i xs e
      split at q
      · split at q
        · rename_i d e2;obtain⟨a,vs,rfl,_,h1,q1⟩:=S.lst e r1;cases r2;obtain⟨w,hw,rw'⟩:=q1.at e2;exact a6X value slice pins s σ H _ _ v u Q I rx ry ⟨a,vs,_,w,rfl,rfl,.inl (.inl h1),hw,q.ok S rw'⟩ hs
        · exact q.elim
      · exact q.elim
    · rename_i xs e
      split at q
      · split at q
        · rename_i d e2;obtain⟨a,vs,rfl,_,h1,q1⟩:=S.rdL (l:=xs) (by unfold rdL;rw[e]) r1
          cases r2;obtain⟨w,hw,rw'⟩:=q1.at e2;exact a6X value slice pins s σ H _ _ v u Q I rx ry ⟨a,vs,_,w,rfl,rfl,by rw[hK];exact h1,hw,q.ok S rw'⟩ hs
        · exact q.elim
      · exact q.elim
    · rename_i kvs e
      split at q
      · rename_i h
        split at q
        · rename_i d e2;obtain⟨a,rfl,hm⟩:=r1;obtain⟨H',I',kp,S',hd⟩:=O0 I S e h hm;obtain⟨o,g,h1,h2⟩:=a2z kp r2 hd;obtain⟨w,hw,rw'⟩:=h2 d e2;subst hw
          cases (show v=Value.ref a from rx)
          refine ixd_tail (a5v I' g) hs ?_
          exact a8o (hu1 hu) I' g ry fun w' s' I'' r''=>⟨w,H',I'',r'',q m H' _ (Pre.refl m) kp S' rw'⟩
        · exact q.elim
      · exact q.elim
    · exact q.elim
  · exact q.elim
where
  ixd_tail {value slice:Expr} {v u:Value} {Q:Value->Shared->Prop} {s:Shared} (hT:s.TypeIs v "dict") (hs:subscripted slice false v u=operate [v,u] (getItem v u)) (h:wpAny (model X.prog X.w) X.A (getItem v u) Q X.xe s):
      wpAny (model X.prog X.w) X.A (subscriptTail value slice v u) Q X.xe s:=by
    unfold subscriptTail;refine wpAny_bind ?_
    rw[getitemInPython_of_ne hT.not_modules];refine wpAny_bind (wpAny_specialOf hT PySem.F.slot_dict_getitem.lookup ?_)
    have fin:wpAny (model X.prog X.w) X.A (subscripted slice false v u) (fun r s₃=>wpAny (model X.prog X.w) X.A (letTemporaryGo value v r>>=fun _=>pure r) Q X.xe s₃) X.xe s:=by
      rw[hs];exact wpAny_operating (wpAny_mono h (fun r s₃ h₃=>wpAny_bind (wpAny_letTemporaryGo (wpAny_pure h₃))) fun _ _ x=>x)
    first
      |exact wpAny_pure (wpAny_bind fin)
      |exact wpAny_bind (wpAny_pure (wpAny_bind fin))
      |exact wpAny_bind fin
theorem b9G(hK:X.K=Γ.K):SlR X (fun x lo hi H Q=>∃d ah m,Sim Γ ah m H/\Rp m H d x/\i7 Γ E m H (slD ah lo hi d) Q):=by
 rintro pins s σ H x v vl vu lo hi sl Q I rx hs pl pu ⟨d,ah,m,S,r,q⟩;unfold slD at q
 split at q
 · split at q
   · rename_i hl;cases r;exact b3Z pins s σ H _ v vl vu lo hi sl Q I rx hs pl pu ⟨_,rfl,by rw[←N4];exact hl,q.ok S rfl⟩
   · exact q.elim
 · split at q
   · rename_i xs e;obtain⟨a,vs,rfl,_,h1,q1⟩:=S.rdL e r;refine b1D pins s σ H _ v vl vu lo hi sl Q I rx hs pl pu ⟨a,vs,rfl,by rw[hK];exact h1,fun p hp=>q.newc S hp ⟨_,c9,(q1.cut lo hi).mono (Pre.snoc m p) (Keep.newc hp)⟩⟩
   · exact q.elim
 · exact q.elim
def rBi(Γ:Gm)(E:XK)(b:Bi):List V->Hp->VK->Prop:=fun xs H Q=>∃ds ah m,Sim Γ ah m H/\Rps m H ds xs/\i7 Γ E m H (biD b ah ds) Q
theorem T1{xs:List V}(h:Rps m H [d] xs):∃x,xs=[x]/\Rp m H d x:=by
 obtain⟨v,t,rfl,q,e⟩:=h;exact⟨v,by rw[show t=[] from e],q⟩
theorem b6X{e:D}{xs:List V}(h:Rps m H [d,e] xs):∃x y,xs=[x,y]/\Rp m H d x/\Rp m H e y:=by
 obtain⟨v,t,rfl,q,h2⟩:=h;obtain⟨y,rfl,q2⟩:=T1 h2;exact⟨v,y,rfl,q,q2⟩
theorem b8k(hK:X.K=Γ.K):E9 X (.builtin "len") (rBi Γ E .len):=by
 rintro pins s σ H xs us Q I r ⟨ds,ah,m,S,rs,q⟩;unfold biD at q
 split at q
 · obtain⟨x,rfl,r1⟩:=T1 rs;cases r1
   simp only at q
   split at q
   · rename_i hl;exact a4y pins s σ H _ us Q I r ⟨_,rfl,by rw[←N4];exact hl,q.ok S rfl⟩
   · exact q.elim
 · obtain⟨x,rfl,a,vs,rfl,h1,q1⟩:=T1 rs;exact a0T pins s σ H _ us Q I r ⟨a,vs,rfl,.inr (.inl (.inl h1)),by rw[q1.len];exact q.ok S rfl⟩
 · exact q.elim
 · exact q.elim
 · rename_i n;obtain⟨x,rfl,r1⟩:=T1 rs
   split at q
   · rename_i kvs e
     simp only at q
     split at q
     · rename_i h;obtain⟨a,rfl,hm⟩:=r1;obtain⟨H',I',kp,S',hd⟩:=O0 I S e h hm
       rcases hd with⟨ks,gs,hk,ha,dk⟩|⟨l,ks,gs,e0,_⟩
       · obtain⟨u,rfl,ru⟩:=S9 r
         cases (show u=Value.ref a from ru)
         refine b8g I' (.inl ha) fun t s' I''=>⟨.int gs.length,H',I'',⟨t,rfl⟩,?_⟩
         rw[←Paired.length dk];exact q m H' _ (Pre.refl m) kp S' rfl
       · cases e0
     · exact q.elim
   · split at q
     · rename_i ys e
       simp only at q
       obtain⟨a,vs,rfl,_,h1,q1⟩:=S.rdL e r1;exact a0T pins s σ H _ us Q I r ⟨a,vs,rfl,.inl (by rw[hK];exact h1),by rw[q1.len];exact q.ok S rfl⟩
     · exact q.elim
 · exact q.elim
theorem b8j:E9 X (.type "str") (rBi Γ E .str):=by
 rintro pins s σ H xs us Q I r ⟨ds,ah,m,S,rs,q⟩;unfold biD at q
 split at q<;>(try exact q.elim)
 · simp only at q
   split at q
   · rename_i hl;obtain⟨x,rfl,r1⟩:=T1 rs;cases r1;exact a4x pins s σ H _ us Q I r ⟨_,rfl,hl,q.ok S rfl⟩
   · exact q.elim
 · split at q
   · exact q.elim
   · split at q<;>exact q.elim
theorem b8l:E9 X (.type "int") (rBi Γ E .int):=by
 rintro pins s σ H xs us Q I r ⟨ds,ah,m,S,rs,q⟩;unfold biD at q
 split at q<;>(try exact q.elim)
 · simp only at q
   split at q
   · rename_i hl
     split at q
     · rename_i n e;obtain⟨x,rfl,r1⟩:=T1 rs;cases r1;exact a4z pins s σ H _ us Q I r ⟨_,n,rfl,hl,e,q.ok S rfl⟩
     · exact q.elim
   · exact q.elim
 · obtain⟨x,rfl,r1⟩:=T1 rs;cases r1;exact a3w pins s σ H _ us Q I r (.inl ⟨_,rfl,q.ok S rfl⟩)
 · obtain⟨x,rfl,r1⟩:=T1 rs;cases r1;exact a3w pins s σ H _ us Q I r (.inr ⟨_,rfl,q.ok S rfl⟩)
 · split at q
   · exact q.elim
   · split at q<;>exact q.elim
theorem b5R(hK:X.K=Γ.K):E9 X (.type "list") (rBi Γ E .list):=by
 rintro pins s σ H xs us Q I r ⟨ds,ah,m,S,rs,q⟩;unfold biD at q
 split at q<;>(try exact q.elim)
 · obtain⟨x,rfl,a,vs,rfl,h1,q1⟩:=T1 rs;exact a0S pins s σ H _ us Q I r ⟨a,vs,rfl,.inr (.inl (.inl h1)),fun p hp=>q.newc S hp ⟨_,c9,q1.mono (Pre.snoc m p) (Keep.newc hp)⟩⟩
 · split at q
   · exact q.elim
   · split at q
     · rename_i ys e;obtain⟨x,rfl,r1⟩:=T1 rs;obtain⟨a,vs,rfl,_,h1,q1⟩:=S.rdL e r1;exact a0S pins s σ H _ us Q I r ⟨a,vs,rfl,.inl (by rw[hK];exact h1),fun p hp=>i7.newc q S hp ⟨_,c9,q1.mono (Pre.snoc m p) (Keep.newc hp)⟩⟩
     · exact q.elim
theorem b3i(hK:X.K=Γ.K):E9 X (.type "tuple") (rBi Γ E .tuple):=by
 rintro pins s σ H xs us Q I r ⟨ds,ah,m,S,rs,q⟩;unfold biD at q
 split at q<;>(try exact q.elim)
 · obtain⟨x,rfl,a,vs,rfl,h1,q1⟩:=T1 rs;exact a0n pins s σ H _ us Q I r ⟨a,vs,rfl,.inr ⟨.inl (.inl h1),i7.ok q S ⟨a,vs,rfl,h1,q1⟩⟩⟩
 · split at q
   · exact q.elim
   · split at q
     · rename_i ys e;obtain⟨x,rfl,r1⟩:=T1 rs;obtain⟨a,vs,rfl,_,h1,q1⟩:=S.rdL e r1;exact a0n pins s σ H _ us Q I r ⟨a,vs,rfl,.inl ⟨by rw[hK];exact h1,fun p hp=>i7.newt q S hp q1⟩⟩
     · exact q.elim
theorem a9m{m:List Addr}{H:Hp}:∀{l:List D} {kvs:List (D×D)} {vs:List V},a7N l=some kvs->Rps m H l vs->∃gs,PrT H vs gs/\DK m H kvs gs
 |[],kvs,vs,h,r=>by cases h;rw[show vs=[] from r];exact⟨[],.nil,.nil⟩
 |d::l,kvs,vs,h,⟨v,t,e,q1,q2⟩=>by
  unfold a7N at h
  split at h
  · rename_i e0;cases e0
  · rename_i k x r e0;cases e0
    split at h
    · rename_i hk;obtain⟨kvs',h1,rfl⟩:=Option.map_eq_some_iff.mp h;obtain⟨gs,g1,g2⟩:=a9m h1 q2;obtain⟨kk,hk⟩:=Option.isSome_iff_exists.mp hk;obtain⟨a,ws,rfl,ha,rs⟩:=q1;obtain⟨y,z,rfl,r1,r2⟩:=b6X rs
      have:=Z5 hk r1
      subst this;rw[e];exact⟨(kk,z)::gs,.cons ⟨a,rfl,ha⟩ g1,.cons ⟨hk,r2⟩ g2⟩
    · cases h
  · cases h
theorem b0L(h:DK m H kvs gs):∀{acc:List (D×D)} {ag:List (Key×V)},DK m H acc ag->DK m H (kvs.foldl (fun a p=>a0I a p.1 p.2) acc) (U8 ag gs):=by
 unfold DK at h
 induction h with
 |nil=>exact fun r=>r
 |cons h t ih=>exact fun r=>ih (DK.put r h.1 h.2)
theorem b5S(hc:X.calm=true)(hK:X.K=Γ.K):E9 X (.type "dict") (rBi Γ E .dict):=by
 rintro pins s σ H xs us Q I r ⟨ds,ah,m,S,rs,q⟩;unfold biD at q
 split at q<;>(try exact q.elim)
 split at q
 · exact q.elim
 · split at q
   · rename_i ys e
     simp only at q
     split at q
     · rename_i kvs e2;obtain⟨x,rfl,r1⟩:=T1 rs;obtain⟨a,vs,rfl,_,h1,q1⟩:=S.rdL e r1;obtain⟨gs,g1,g2⟩:=a9m e2 q1;exact a4A hc pins s σ H _ us Q I r ⟨a,vs,gs,rfl,by rw[hK];exact h1,g1,fun d hd=>q.newc S hd (.inl ⟨_,c9,(b0L g2 .nil).mono (Pre.snoc m d) (Keep.newc (m:=m) hd).im⟩)⟩
     · exact q.elim
   · exact q.elim
theorem b8n(hc:X.calm=true)(hK:X.K=Γ.K):E9 X (.builtin "all") (rBi Γ E .all):=by
 rintro pins s σ H xs us Q I r ⟨ds,ah,m,S,rs,q⟩;unfold biD at q
 split at q<;>(try exact q.elim)
 split at q
 · exact q.elim
 · split at q
   · rename_i ys e
     simp only at q
     split at q
     · rename_i bs e2;obtain⟨x,rfl,r1⟩:=T1 rs;obtain⟨a,vs,rfl,_,h1,q1⟩:=S.rdL e r1;rw[a3L e2 q1] at h1;exact b0U hc pins s σ H _ us Q I r ⟨a,bs,rfl,by rw[hK];exact h1,q.ok S rfl⟩
     · exact q.elim
   · exact q.elim
theorem b8m(hc:X.calm=true)(hK:X.K=Γ.K):E9 X (.builtin "any") (rBi Γ E .any):=by
 rintro pins s σ H xs us Q I r ⟨ds,ah,m,S,rs,q⟩;unfold biD at q
 split at q<;>(try exact q.elim)
 split at q
 · exact q.elim
 · split at q
   · rename_i ys e
     simp only at q
     split at q
     · rename_i bs e2;obtain⟨x,rfl,r1⟩:=T1 rs;obtain⟨a,vs,rfl,_,h1,q1⟩:=S.rdL e r1;rw[a3L e2 q1] at h1;exact b0T hc pins s σ H _ us Q I r ⟨a,bs,rfl,by rw[hK];exact h1,q.ok S rfl⟩
     · exact q.elim
   · exact q.elim
def rMt(Γ:Gm)(E:XK)(b:Mt):V->List V->Hp->VK->Prop:=fun x xs H Q=>∃d ds ah m,Sim Γ ah m H/\Rp m H d x/\Rps m H ds xs/\i7 Γ E m H (mtD b ah d ds) Q
theorem a9M:MtR X "list.append" (rMt Γ E .append):=by
 rintro pins s σ H x xs v us Q I rx r ⟨d,ds,ah,m,S,rd,rs,q⟩;unfold mtD at q
 split at q<;>(try exact q.elim)
 · rename_i n e0;obtain⟨y,rfl,r1⟩:=T1 rs
   split at q
   · rename_i l e
     split at q
     · rename_i hl;obtain⟨a,vs,rfl,hm,h1,q1⟩:=S.lst e rd;refine a3h pins s σ H _ _ v us Q I rx r ⟨a,vs,y,rfl,rfl,h1,by rw[q1.len,←N4];exact hl,?_⟩
       have kp:Keep m m H (upd H a (.lst (vs++[y]))):=Keep.put hm h1 fun z=>z
       exact q m _ _ (Pre.refl m) kp (S.write hm h1 (fun z=>z) ⟨_,c9,(q1.snoc r1).mono (Pre.refl m) kp⟩) rfl
     · exact q.elim
   · exact q.elim
theorem a9L:MtR X "list.insert" (rMt Γ E .insert):=by
 rintro pins s σ H x xs v us Q I rx r ⟨d,ds,ah,m,S,rd,rs,q⟩;unfold mtD at q
 split at q<;>(try exact q.elim)
 · rename_i n i d';obtain⟨v1,t1,rfl,ri,y,t2,rfl,r1,e1⟩:=rs;cases ri;cases e1
   split at q
   · rename_i l _ e
     split at q
     · rename_i hl;obtain⟨a,vs,rfl,hm,h1,q1⟩:=S.lst e rd;refine a7W pins s σ H _ _ v us Q I rx r ⟨a,vs,i,y,rfl,rfl,h1,hl.1,by rw[q1.len];exact hl.2.1,by rw[q1.len,←N4];exact hl.2.2,?_⟩
       have kp:Keep m m H (upd H a (.lst (vs.take i.toNat++y::vs.drop i.toNat))):=Keep.put hm h1 fun z=>z
       exact q m _ _ (Pre.refl m) kp (S.write hm h1 (fun z=>z) ⟨_,c9,((q1.take i.toNat).app (show Rps m H (d'::l.drop i.toNat) (y::vs.drop i.toNat) from⟨y,_,rfl,r1,q1.drop _⟩)).mono (Pre.refl m) kp⟩) rfl
     · exact q.elim
   · exact q.elim
theorem b2t:MtR X "str.split" (rMt Γ E .split):=by
 rintro pins s σ H x xs v us Q I rx r ⟨d,ds,ah,m,S,rd,rs,q⟩;unfold mtD at q
 split at q<;>(try exact q.elim)
 · simp only at q
   split at q
   · rename_i h;obtain⟨y,rfl,r1⟩:=T1 rs
     cases rd;cases r1
     refine a9H pins s σ H _ _ v us Q I rx r ⟨_,_,rfl,rfl,h.1,by rw[←N4];exact h.2,fun p hp=>q.newc S hp ⟨_,c9,Rps.strs⟩⟩
   · exact q.elim
theorem a9K:MtR X "str.startswith" (rMt Γ E .starts):=by
 rintro pins s σ H x xs v us Q I rx r ⟨d,ds,ah,m,S,rd,rs,q⟩;unfold mtD at q
 split at q<;>(try exact q.elim)
 · obtain⟨y,rfl,r1⟩:=T1 rs
   cases rd;cases r1
   exact a7V pins s σ H _ _ v us Q I rx r ⟨_,_,rfl,rfl,q.ok S rfl⟩
theorem b4T(hK:X.K=Γ.K):MtR X "str.join" (rMt Γ E .join):=by
 rintro pins s σ H x xs v us Q I rx r ⟨d,ds,ah,m,S,rd,rs,q⟩;unfold mtD at q
 split at q<;>(try exact q.elim)
 · simp only at q
   split at q
   · rename_i l e
     split at q
     · rename_i ts e2
       split at q
       · rename_i hj;obtain⟨y,rfl,r1⟩:=T1 rs;obtain⟨a,vs,rfl,_,h1,q1⟩:=S.rdL e r1;rw[a4T e2 q1] at h1;cases rd;exact b2s pins s σ H _ _ v us Q I rx r ⟨_,a,ts,rfl,rfl,by rw[hK];exact h1,hj,q.ok S rfl⟩
       · exact q.elim
     · exact q.elim
   · exact q.elim
theorem b9j(hu:X.A.units+8<cLine):b6s X (fun o i v H Q=>∃d1 d2 d3 ah m,Sim Γ ah m H/\Rp m H d1 o/\Rp m H d2 i/\Rp m H d3 v/\j9 Γ E m H (a1p ah d1 d2 d3) (fun _ _ _ H'=>Q H')):=by
 rintro pins s σ H o i v ov iv u Q I ro ri rv ⟨d1,d2,d3,ah,m,S,r1,r2,r3,q⟩;unfold a1p at q
 split at q
 · split at q
   · rename_i xs e
     split at q
     · rename_i k
       split at q
       · rename_i j e2;obtain⟨a,vs,rfl,hm,h1,q1⟩:=S.lst e r1;cases r2;refine a8N pins s σ H _ _ _ ov iv u Q I ro ri rv ⟨a,vs,_,j,rfl,rfl,h1,by rw[q1.len];exact e2,?_⟩
         have kp:Keep m m H (upd H a (.lst (vs.set j v))):=Keep.put hm h1 fun z=>z
         exact q m _ (Pre.refl m) kp (S.write hm h1 (fun z=>z) ⟨_,c9,(q1.set j r3).mono (Pre.refl m) kp⟩)
       · exact q.elim
     · exact q.elim
   · rename_i kvs e
     split at q
     · rename_i h;obtain⟨a,rfl,hm⟩:=r1
       cases (show ov=Value.ref a from ro)
       obtain⟨H',I',kp,S',hd⟩:=O0 I S e h.1 hm
       have r3':=r3.mono (Pre.refl m) kp
       rcases hd with⟨ks,gs,hk,ha,dk⟩|⟨l,ks,gs,rfl,hk,ha,dt⟩
       · have kp2:Keep m m H' (upd H' a (.dK (L1 gs ks v))):=Keep.put hm ha fun z=>z
         refine a3t (v:=v) (H':=upd H' a (.dK (L1 gs ks v))) (hu1 hu) I' (.inl ⟨gs,ks,ha,Z5 hk r2,by rw[←Paired.length dk,←N4];exact h.2,rfl⟩) ri rv fun s' I''=>⟨_,I'',?_⟩
         exact q m _ (Pre.refl m) (kp.trans kp2) (S'.write hm ha (fun z=>z) (.inl ⟨_,c9,(dk.put hk r3').mono (Pre.refl m) kp2.im⟩))
       · have kp2:Keep m m H' (upd H' a (.dT (L1 gs ks v))):=Keep.put hm ha fun z=>z
         obtain⟨b,vs,rfl,hb,rs⟩:=r2;have hv:=a2s hk rs;subst hv;refine a3t (v:=v) (H':=upd H' a (.dT (L1 gs ks v))) (hu1 hu) I' (.inr ⟨gs,ks,b,ha,rfl,kp.tup hb,by rw[←Paired.length dt,←N4];exact h.2,rfl⟩) ri rv fun s' I''=>⟨_,I'',?_⟩
         exact q m _ (Pre.refl m) (kp.trans kp2) (S'.write hm ha (fun z=>z) (.inr ⟨_,c9,(dt.put hk r3').mono (Pre.refl m) kp2.im⟩))
     · exact q.elim
   · exact q.elim
 · exact q.elim
theorem Fl.put(r:Rp m H d v){fs:List (Str×D)}{gs:List (Str×V)}(h:Fl m H fs gs):Fl m H (a3d f d fs) (U5 f v gs):=by
 induction h with
 |nil=>exact .cons ⟨rfl,r⟩ .nil
 | @cons p q ps qs h t ih=>
  obtain⟨n,x⟩:=p;obtain⟨n',x'⟩:=q
  have e:n=n':=h.1
  subst e;unfold a3d U5
  split
  · exact .cons ⟨rfl,r⟩ t
  · exact .cons h ih
theorem Fl.look{fs:List (Str×D)}{gs:List (Str×V)}(h:Fl m H fs gs)(e:fs.lookup f=some d):∃v,gs.lookup f=some v/\Rp m H d v:=by
 induction h with
 |nil=>cases e
 | @cons p q ps qs h t ih=>
  obtain⟨n,x⟩:=p;obtain⟨n',x'⟩:=q
  have e1:n=n':=h.1
  subst e1;rw[lookup_cons] at e⊢
  cases z:f==n with
  |true=>rw[z] at e;cases e;exact⟨x',rfl,h.2⟩
  |false=>rw[z] at e;exact ih e
end
set_option genInjectivity false
mutual
inductive Pat where
  |nm (i:Nat)|tp (ps:Pats)
inductive Pats where
  |nil|cons (p:Pat) (r:Pats)
end
inductive Ty where
 |b (n:String)|c (k:Nat)
 deriving DecidableEq
mutual
inductive E where
  |v (i:Nat)|k (d:D)|bin (o:B) (a b:E)|isN (a:E)|notN (a:E)|neg (a:E)|nt (a:E)|an (a b:E)|orr (a b:E)|ife (t:T) (a b:E)|chn (o p:B) (a b c:E)
  |ix (a b:E)|sl (a:E) (lo hi:O)|fld (a:E) (f:Str)|lst (es:Es)|tup (es:Es)|dnew|call (f:Nat) (es:Es)|mk (c:Nat) (es:Es)|bi (b:Bi) (es:Es)|mt (b:Mt) (o:E) (es:Es)
  |isi (a:E) (t:Ty)|comp (p:Pat) (it:I) (n:Nat) (fr:List Nat) (t:T) (e:E)|gin (neg:Bool) (a:E) (ds:List D)|gdin (neg:Bool) (a:E) (kvs:List (D×D))|gdix (a:E) (kvs:List (D×D))|dlit (kvs:List (D×D))|rev (a:E)
inductive Es where
  |nil|cons (e:E) (r:Es)
inductive T where
  |yes|val (e:E)|cmp (o:B) (a b:E)|isN (a:E)|notN (a:E)|chn (o p:B) (a b c:E)|an (a b:T)|orr (a b:T)|nt (a:T)
inductive O where
  |no|at(e:E)
inductive I where
  |seq (e:E)|rng1 (a:E)|enum (e:E)|zip (a b:E)
end
mutual
inductive S where
  |set (i:Nat) (e:E)|ex (e:E)|ret (e:E)|iff (t:T) (a b:Ss)|for (p:Pat) (it:I) (b:Ss)|bad|rais (c:Nat) (es:Es)|tryc (f:Nat) (es:Es) (cl:Nat) (i j:Nat)|six (a i v:E)|sfl (a:E) (f:Str) (v:E)
inductive Ss where
  |nil|cons (s:S) (r:Ss)
end
set_option genInjectivity true
inductive Out where
 |nx (env:u7)|rt (d:D)
abbrev CF:=Nat->List D->AH->R D
structure CT where
 init:Nat->Nat
 flds:Nat->List Str
 sub:Nat->Nat->Bool
mutual
def J3:Pat->D->u7->Option u7
  |.nm i,d,env=>some (env.set i (some d))
  | .tp ps,d,env=>match d with
    |.tup ds=>L7 ps ds env
    |_=>none
def L7:Pats->List D->u7->Option u7
  | .nil,ds,env=>match ds with
    |[]=>some env
    |_::_=>none
  | .cons p r,ds,env=>match ds with
    |[]=>none
    | d::t=>match J3 p d env with
      |some env'=>L7 r t env'
      |none=>none
end
noncomputable def gOk(g:List (Nat×Cell))(h:AH):Bool:=g.all fun p=>decide (h[p.1]? =some p.2)
def noex{α:Type}:R α->R α
 |.ok a h=>.ok a h
 |_=>.no
noncomputable def asB(r:R D):R Bool:=r.bind fun d h=>match d with
 |.bl b=>.ok b h
 |_=>.no
def T7(g:List (Nat×Cell))(p:Pat)(body:u7->AH->R Out):List D->u7->AH->R Out
 |[],env,h=>if gOk g h=true then .ok (.nx env) h else .no
 | x::r,env,h=>if gOk g h=true then(match J3 p x env with
  |none=>.no
  |some env'=>(body env' h).bind fun o h'=>match o with
   |.nx env''=>T7 g p body r env'' h'
   |.rt d=>.ok (.rt d) h') else .no
def P9(g:List (Nat×Cell))(p:Pat)(t:u7->AH->R Bool)(elt:u7->AH->R D)(env0:u7):List D->List D->AH->R (List D)
 |[],acc,h=>if gOk g h=true then .ok acc h else .no
 | x::r,acc,h=>if gOk g h=true then(match J3 p x env0 with
  |none=>.no
  |some env=>(t env h).bind fun b h1=>if b=true then((elt env h1).bind fun d h2=>if acc.length<SL then P9 g p t elt env0 r (acc++[d]) h2 else .no)
   else P9 g p t elt env0 r acc h1) else .no
noncomputable def u6:Nat->List D->List D
 |_,[]=>[]
 |n,x::r=>.tup [.int n,x]::u6 (n+1) r
noncomputable def V6(x:Str):List D:=x.cps.toList.map fun c=>.str ⟨#[c]⟩
noncomputable def a8V(lo:Int)(n:Nat):List D:=(List.range n).map fun i=>.int (lo+(i:Nat))
abbrev Its:=List D×List (Nat×Cell)
def V9(h:AH):D->R Its
 |.str x=>.ok (V6 x,[]) h
 |.tup l=>.ok (l,[]) h
 |.ref n=>match h[n]? with
  |some (.lst l)=>.ok (l,[(n,.lst l)]) h
  |some (.rol l)=>.ok (l,[(n,.rol l)]) h
  |_=>.no
 |_=>.no
def a8U(h:AH):D->D->R Its
 |.int i,.int j=>if a1a i=true/\a1a j=true then .ok (a8V i (j-i).toNat,[]) h else .no
 |_,_=>.no
def U1(h:AH):D->R Its
 |.ref n=>match h[n]? with
  |some (.lst l)=>.ok (u6 0 l,[(n,.lst l)]) h
  |some (.rol l)=>.ok (u6 0 l,[(n,.rol l)]) h
  |_=>.no
 |_=>.no
noncomputable def a5i(h:AH)(n:Nat):Option (List D×Cell):=match h[n]? with
 |some (.lst l)=>some (l,.lst l)
 |some (.rol l)=>some (l,.rol l)
 |_=>none
noncomputable def a0E:List D->List D->List D
 |x::xs,y::ys=>.tup [x,y]::a0E xs ys
 |_,_=>[]
def b1i(h:AH):D->D->R Its
 |.ref i,.ref j=>match a5i h i,a5i h j with
  |some a,some b=>.ok (a0E a.1 b.1,[(i,a.2),(j,b.2)]) h
  |_,_=>.no
 |_,_=>.no
def a9c(h:AH):D->R D
 |.ref n=>match h[n]? with
  |some (.lst xs)=>z5 (.lst xs.reverse) h
  |_=>.no
 |_=>.no
noncomputable def a0N(ct:CT)(h:AH)(t:Ty):D->Option Bool
 | .ref n=>match h[n]? with
  |some (.lst _)=>(match t with
   |.b n=>if n="list" then some true else none
   |_=>none)
  |some (.exc c _)=>(match t with
   |.b n=>if n="ValueError" then some true else none
   |.c k=>some (ct.sub c k))
  |_=>none
 |_=>none
noncomputable def a4J:List D->Bool
 |[_]=>true
 |[_,.str y]=>decide (y.length<=1000)
 |_=>false
noncomputable def C2(n:Nat)(fr:List Nat)(env:u7):u7:=List.replicate n none++fr.map fun j=>(env[j]?).join
noncomputable def a7c(r:R D):R (Option Int):=r.bind fun d h=>match d with
 |.int i=>.ok (some i) h
 |_=>.no
section
variable(ct:CT)(c:CF)
mutual
def ev:E->u7->AH->R D
  | .v i,env,h=>match env[i]? with
    |some (some d)=>.ok d h
    |_=>.no
  |.k d,_,h=>.ok d h
  |.bin o a b,env,h=>(ev a env h).bind fun x h1=>(ev b env h1).bind fun y h2=>op2 o h2 x y
  |.isN a,env,h=>(ev a env h).bind fun x h1=>.ok (.bl (decide (x=.non))) h1
  |.notN a,env,h=>(ev a env h).bind fun x h1=>.ok (.bl (!decide (x=.non))) h1
  | .neg a,env,h=>(ev a env h).bind fun x h1=>match x with
    |.int i=>.ok (.int (-i)) h1
    |_=>.no
  |.nt a,env,h=>(asB (ev a env h)).bind fun b h1=>.ok (.bl (!b)) h1
  |.an a b,env,h=>(asB (ev a env h)).bind fun x h1=>if x=true then ev b env h1 else .ok (.bl false) h1
  |.orr a b,env,h=>(asB (ev a env h)).bind fun x h1=>if x=true then .ok (.bl true) h1 else ev b env h1
  |.ife t a b,env,h=>(tst t env h).bind fun x h1=>if x=true then ev a env h1 else ev b env h1
  |.chn o p a b e,env,h=>(ev a env h).bind fun x h1=>(ev b env h1).bind fun y h2=>(asB (op2 o h2 x y)).bind fun k h3=>if k=true then(ev e env h3).bind fun z h4=>op2 p h4 y z else .ok (.bl false) h3
  |.ix a b,env,h=>(ev a env h).bind fun x h1=>(ev b env h1).bind fun y h2=>ixD h2 x y
  |.sl a lo hi,env,h=>(ev a env h).bind fun x h1=>(evo lo env h1).bind fun l h2=>(evo hi env h2).bind fun u h3=>slD h3 l u x
  |.fld a f,env,h=>(ev a env h).bind fun x h1=>T8 h1 f x
  |.lst es,env,h=>(evs es env h).bind fun ds h1=>if ds.length<=SL then z5 (.lst ds) h1 else .no
  |.tup es,env,h=>(evs es env h).bind fun ds h1=>if ds.length<=SL then .ok (.tup ds) h1 else .no
  |.dnew,_,h=>z5 (.dict []) h
  |.call f es,env,h=>(evs es env h).bind fun ds h1=>c f ds h1
  | .mk k es,env,h=>(evs es env h).bind fun ds h1=>(c (ct.init k) (.ref h1.length::ds) (h1++[.obj k []])).bind fun r h2=>match r with
    |.non=>.ok (.ref h1.length) h2
    |_=>.no
  |.bi b es,env,h=>(evs es env h).bind fun ds h1=>biD b h1 ds
  |.mt b o es,env,h=>(ev o env h).bind fun x h1=>if mtT b h1 x=true then(evs es env h1).bind fun ds h2=>mtD b h2 x ds else .no
  | .isi a t,env,h=>(ev a env h).bind fun x h1=>match a0N ct h1 t x with
    |some b=>.ok (.bl b) h1
    |none=>.no
  |.comp p it n fr t e,env,h=>(evi it env h).bind fun x h1=>(noex (P9 x.2 p (tst t) (ev e) (C2 n fr env) x.1 [] h1)).bind fun ds h2=>z5 (.lst ds) h2
  |.gin neg a ds,env,h=>(ev a env h).bind fun x h1=>if v5 x=true/\ds.all v5=true then .ok (.bl (inD x ds !=neg)) h1 else .no
  |.gdin neg a kvs,env,h=>(ev a env h).bind fun x h1=>if(K0 x).isSome=true then .ok (.bl ((o9 kvs x).isSome !=neg)) h1 else .no
  | .gdix a kvs,env,h=>(ev a env h).bind fun x h1=>if(K0 x).isSome=true then(match o9 kvs x with
    |some d=>.ok d h1
    |none=>.no) else .no
  |.dlit kvs,_,h=>z5 (.dict kvs) h
  |.rev a,env,h=>(ev a env h).bind fun x h1=>a9c h1 x
def evs:Es->u7->AH->R (List D)
  |.nil,_,h=>.ok [] h
  |.cons e r,env,h=>(ev e env h).bind fun d h1=>(evs r env h1).bind fun ds h2=>.ok (d::ds) h2
def tst:T->u7->AH->R Bool
  |.yes,_,h=>.ok true h
  |.val e,env,h=>asB (ev e env h)
  |.cmp o a b,env,h=>asB ((ev a env h).bind fun x h1=>(ev b env h1).bind fun y h2=>op2 o h2 x y)
  |.isN a,env,h=>(ev a env h).bind fun x h1=>.ok (decide (x=.non)) h1
  |.notN a,env,h=>(ev a env h).bind fun x h1=>.ok (!decide (x=.non)) h1
  |.chn o p a b e,env,h=>asB ((ev a env h).bind fun x h1=>(ev b env h1).bind fun y h2=>(asB (op2 o h2 x y)).bind fun k h3=>if k=true then(ev e env h3).bind fun z h4=>op2 p h4 y z else .ok (.bl false) h3)
  |.an a b,env,h=>(tst a env h).bind fun x h1=>if x=true then tst b env h1 else .ok false h1
  |.orr a b,env,h=>(tst a env h).bind fun x h1=>if x=true then .ok true h1 else tst b env h1
  |.nt a,env,h=>(tst a env h).bind fun x h1=>.ok (!x) h1
def evo:O->u7->AH->R (Option Int)
  |.no,_,h=>.ok none h
  |.at e,env,h=>a7c (ev e env h)
def evi:I->u7->AH->R Its
  |.seq e,env,h=>(ev e env h).bind fun d h1=>V9 h1 d
  |.rng1 a,env,h=>(ev a env h).bind fun d h1=>a8U h1 (.int 0) d
  |.enum e,env,h=>(ev e env h).bind fun d h1=>U1 h1 d
  |.zip a b,env,h=>(ev a env h).bind fun x h1=>(ev b env h1).bind fun y h2=>b1i h2 x y
end
mutual
def ex:S->u7->AH->R Out
  |.set i e,env,h=>(ev ct c e env h).bind fun d h1=>.ok (.nx (env.set i (some d))) h1
  |.ex e,env,h=>(ev ct c e env h).bind fun _ h1=>.ok (.nx env) h1
  |.ret e,env,h=>(ev ct c e env h).bind fun d h1=>.ok (.rt d) h1
  |.iff t a b,env,h=>(tst ct c t env h).bind fun x h1=>if x=true then exs a env h1 else exs b env h1
  |.for p it b,env,h=>(evi ct c it env h).bind fun x h1=>T7 x.2 p (exs b) x.1 env h1
  |.bad,_,_=>.no
  |.rais k es,env,h=>(evs ct c es env h).bind fun ds h1=>if ds.length=(ct.flds k).length/\a4J ds=true then .ex k ((ct.flds k).zip ds) h1 else .no
  | .tryc f es cl i j,env,h=>(noex (evs ct c es env h)).bind fun ds h1=>match c f ds h1 with
    |.ok _ h2=>.ok (.nx env) h2
    |.ex k fs h2=>if ct.sub k cl=true/\i<env.length then .ok (.nx ((env.set j (some (.ref h2.length))).set i none)) (h2++[.exc k fs]) else .no
    |.no=>.no
  |.six a i v,env,h=>(ev ct c v env h).bind fun x h1=>(ev ct c a env h1).bind fun o h2=>(ev ct c i env h2).bind fun k h3=>(a1p h3 o k x).bind fun _ h4=>.ok (.nx env) h4
  |.sfl a f v,env,h=>(ev ct c v env h).bind fun x h1=>(ev ct c a env h1).bind fun o h2=>(a3K h2 o f x).bind fun _ h3=>.ok (.nx env) h3
def exs:Ss->u7->AH->R Out
  |.nil,env,h=>.ok (.nx env) h
  | .cons s r,env,h=>(ex s env h).bind fun o h1=>match o with
    |.nx env'=>exs r env' h1
    |.rt d=>.ok (.rt d) h1
end
end
structure Fn where
 np:Nat
 ns:Nat
 gc:Nat
 body:Ss
noncomputable def Cell.flat:Cell->Bool
 |.lst l=>D.flats l
 |.dict l=>l.all fun p=>p.1.flat&&p.2.flat
 |_=>false
def gcR (n:Nat) (h:AH):R D->R D
 | .ok d h'=>if n=0 then .ok d h' else if n=1 then(if h'.take h.length=h/\d.flat=true then .ok d h else .no)
  else(match d with
   |.ref k=>(match h'[k]? with
    |some c=>if h'.take h.length=h/\h.length<=k/\c.flat=true then .ok (.ref h.length) (h++[c]) else .no
    |none=>.no)
   |_=>.no)
 |.ex k fs h'=>.ex k fs h'
 |.no=>.no
def b6(ct:CT)(F:Nat->Option Fn):Nat->CF
 |0=>fun _ _ _=>.no
 | k+1=>fun f ds h=>match F f with
  |none=>.no
  |some fd=>if ds.length=fd.np then gcR fd.gc h (match exs ct (b6 ct F k) fd.body (ds.map some++List.replicate (fd.ns-fd.np) none) h with
   |.ok (.nx _) h'=>.ok .non h'
   |.ok (.rt d) h'=>.ok d h'
   |.ex c fs h'=>.ex c fs h'
   |.no=>.no) else .no
structure GT where
 fn:List (Str×Nat×Nat)
 scal:List (Str×D)
 tups:List (Str×List D)
 dicts:List (Str×List (D×D))
 cls:List (Str×Nat)
 rs:List (Str×Nat)
 obj:List (Str×Nat)
 hb:Nat
 atts:List Str
 blt:List Str
noncomputable def b8o:Operator->Option B
 |.Add=>some .add|.Sub=>some .sub|.Mult=>some .mul|.FloorDiv=>some .div|.Mod=>some .mod
 |_=>none
noncomputable def a6u:CmpOp->Option B
 |.Eq=>some .eq|.NotEq=>some .ne|.Lt=>some .lt|.LtE=>some .le|.Gt=>some .gt|.GtE=>some .ge|.In=>some .isin|.NotIn=>some .notin
 |_=>none
noncomputable def a9Z(sc:Scope)(x:Str):Bool:=match sc.names.lookup x with
 |some .local=>true|some .cell=>true|some .free=>true
 |_=>false
noncomputable def E7(sc:Scope)(x:Str):Bool:=decide (sc.names.lookup x=some .globalImplicit)&&decide (x≠"__debug__")&&decide (x≠"__name__")
def slot(N:List Str)(sc:Scope)(x:Str):Option Nat:=if a9Z sc x&&decide (x≠"__debug__")&&decide (x≠"__classdict__") then N.idxOf? x else none
noncomputable def b0a(dfn:Bool)(sc:Scope)(x:Str):Bool:=match sc.names.lookup x with
 |some .local=>true|some .cell=>dfn
 |_=>false
def a1X(dfn:Bool)(N:List Str)(sc:Scope)(x:Str):Option Nat:=if b0a dfn sc x then N.idxOf? x else none
noncomputable def b5V(x:Str):Option Bi:=if x="len" then some .len else if x="str" then some .str else if x="int" then some .int else if x="tuple" then some .tuple else if x="list" then some .list
 else if x="all" then some .all else if x="any" then some .any else if x="dict" then some .dict else none
noncomputable def b4R(x:Str):Option Mt:=if x="append" then some .append else if x="split" then some .split else if x="join" then some .join else if x="startswith" then some .starts else if x="insert" then some .insert else none
noncomputable def t8:Expr->Bool
 |.Starred _ _=>false
 |_=>true
noncomputable def a2a:Expr->Bool
 |.Call (.Name _ _) [] [] _=>false
 |_=>true
noncomputable def a1M:Expr->Bool
 |.Slice .. =>false
 |_=>true
noncomputable def a0K:Expr->Bool
 |.Set .. =>false
 |_=>true
noncomputable def a6I(sc scope:Scope):Scope:={scope with names:=scope.names.map fun(n,k)=>if(k==NameKind.free&&sc.kind==.function&&sc.names.lookup n==some .cell) then(n,NameKind.cell) else(n,k)}
noncomputable def b4q:Expr->Bool
 |.Name .. =>true|.Call .. =>true|.Subscript .. =>true|.Attribute .. =>true
 |_=>false
def cTy(G:GT)(sc:Scope)(x:Str):Option Ty:=if E7 sc x then(match G.cls.lookup x with
 |some k=>some (.c k)
 |none=>if G.blt.contains x then(if x="list" then some (.b "list") else if x="ValueError" then some (.b "ValueError") else none) else none) else none
def b0Q(G:GT)(sc:Scope):List Expr->Option (List Nat)
 |[]=>some []
 |.Name x _::r=>match(if E7 sc x then G.cls.lookup x else none),b0Q G sc r with
  |some k,some ks=>some (k::ks)
  |_,_=>none
 |_=>none
mutual
def a8s (dfn:Bool) (N:List Str) (sc:Scope):Nat->Expr->Option Pat
  |0,_=>none
  | n+1,e=>match e with
    |.Name x _=>(a1X dfn N sc x).map .nm
    |.Tuple es _ _=>(a2D dfn N sc n es).map .tp
    |_=>none
def a2D (dfn:Bool) (N:List Str) (sc:Scope):Nat->List Expr->Option Pats
  |0,_=>none
  | n +1,es=>match es with
    |[]=>some .nil
    | e::r=>match a8s dfn N sc n e,a2D dfn N sc n r with
      |some p,some ps=>some (.cons p ps)
      |_,_=>none
end
mutual
def G5:Pat->List Nat
  |.nm i=>[i]
  |.tp ps=>Z1 ps
def Z1:Pats->List Nat
  |.nil=>[]
  |.cons p r=>G5 p++Z1 r
end
mutual
def r8:Nat->Expr->List Str
  |0,_=>[]
  | n+1,e=>match e with
    |.Name x _=>[x]
    |.Tuple es _ _=>a3e n es
    |_=>[]
def a3e:Nat->List Expr->List Str
  |0,_=>[]
  | n+1,es=>match es with
    |[]=>[]
    |e::r=>r8 n e++a3e n r
end
noncomputable def B7(scope:Scope):List Str:=(scope.names.filter fun y=>decide (y.2=.free)).map (·.1)
noncomputable def b2C(N:List Str):List Str->Option (List Nat)
 |[]=>some []
 |x::r=>match N.idxOf? x,b2C N r with
  |some i,some is=>some (i::is)
  |_,_=>none
structure Rec where
 E:List Str->Scope->Expr->Option E
 Es:List Str->Scope->List Expr->Option Es
 T:List Str->Scope->Expr->Option T
 O:List Str->Scope->Option Expr->Option O
 I:List Str->Scope->Expr->Expr->Option I
noncomputable def b5j:Expr->Bool
 |.Constant k _ _=>(match k with
  |.none=>true
  |_=>false)
 |_=>false
noncomputable def a6b:CmpOp->Option Bool
 |.Is=>some true
 |.IsNot=>some false
 |_=>none
noncomputable def b6Q:Expr->Option (Option Expr×Option Expr)
 |.Slice lo hi st _=>(match st with
  |none=>some (lo,hi)
  |some _=>none)
 |_=>none
noncomputable def b6U:Const->Option E
 |.int i=>some (.k (.int i))
 |.str x=>some (.k (.str x))
 |.bool b=>some (.k (.bl b))
 |.none=>some (.k .non)
 |_=>none
noncomputable def sUn(G:GT)(r:Rec)(N:List Str)(sc:Scope)(a:Expr):UnaryOp->Option E
 |.USub=>(r.E N sc a).map .neg
 |.Not=>(r.E N sc a).map .nt
 |_=>none
noncomputable def sBo (G : GT) (r:Rec) (N:List Str) (sc:Scope) (p:Pos) (op:BoolOp):List Expr->Option E
 |[]=>none
 | a :: t => match t with
   |[]=>r.E N sc a
   | b::l=>match op with
     |.And=>(match r.E N sc a,r.E N sc (.BoolOp .And (b::l) p) with
             |some x,some y=>some (.an x y)
             |_,_=>none)
     |.Or=>(match r.E N sc a,r.E N sc (.BoolOp .Or (b::l) p) with
             |some x,some y=>some (.orr x y)
             |_,_=>none)
def b6W (G:GT) (r:Rec) (N:List Str) (sc:Scope) (a:Expr) (op:CmpOp) (b:Expr):Option E:=
 if b5j b&&(a6b op).isSome then(match a6b op with
  |some true=>(r.E N sc a).map .isN
  |_=>(r.E N sc a).map .notN) else
 if a0K b then(match a6u op,r.E N sc a,r.E N sc b with
  |some o,some x,some y=>some (.bin o x y)
  | some o,some x,none=>(match b with
   |.Name y _=>if E7 sc y then(match op,G.tups.lookup y with
    |.In,some ds=>some (.gin false x ds)
    |.NotIn,some ds=>some (.gin true x ds)
    |.In,none=>(G.dicts.lookup y).map (.gdin false x)
    |.NotIn,none=>(G.dicts.lookup y).map (.gdin true x)
    |_,_=>none) else none
   |_=>none)
  |_,_,_=>none) else none
def b6V(G:GT)(r:Rec)(N:List Str)(sc:Scope)(a:Expr)(op op':CmpOp)(b d:Expr):Option E:=if a0K d then(match a6u op,a6u op',r.E N sc a,r.E N sc b,r.E N sc d with
 |some o,some p,some x,some y,some z=>some (.chn o p x y z)
 |_,_,_,_,_=>none) else none
def sSl (G:GT) (r:Rec) (N:List Str) (sc:Scope) (a b:Expr):Option E:=match b6Q b with
 | some (lo,hi)=>(match r.E N sc a,r.O N sc lo,r.O N sc hi with
         |some x,some l,some u=>some (.sl x l u)
         |_,_,_=>none)
 |none=>if a1M b then(match r.E N sc a,r.E N sc b with
     |some x,some y=>some (.ix x y)
     | none,some y=>(match a with
       |.Name z _=>if E7 sc z then(G.dicts.lookup z).map (.gdix y) else none
       |_=>none)
     |_,_=>none) else none
noncomputable def b5M:Expr->Option Str
 |.Constant k _ _=>(match k with
  |.str x=>some x
  |_=>none)
 |_=>none
noncomputable def b5N:Expr->Option Int
 |.Constant k _ _=>(match k with
  |.int i=>some i
  |_=>none)
 |_=>none
def a8n:List (Option Expr)->List Expr->Option (List (D×D))
 |[],vs=>if vs.isEmpty then some [] else none
 | k::ks,vs=>(match vs with
  |[]=>none
  |v::r=>(match k.bind b5M,b5N v,a8n ks r with
   |some x,some i,some l=>some ((.str x,.int i)::l)
   |_,_,_=>none))
noncomputable def a3V:List D->Bool
 |[]=>true
 |d::r=>!(r.any fun e=>decide (e=d))&&a3V r
def b5K(kvs:List (D×D)):Bool:=decide (kvs.length<=15)&&a3V (kvs.map (·.1))
noncomputable def b2n:List Expr->Option Expr
 |[]=>none
 |a::r=>if r.isEmpty then some a else none
noncomputable def a5d:Expr->Option Str
 |.Name x _=>some x
 |_=>none
def a9b(as:List Expr):Option Expr:=match b2n as with
 |some e=>(match e with
  |.Call f bs ks _=>if ks.isEmpty&&decide (a5d f=some "reversed") then b2n bs else none
  |_=>none)
 |none=>none
def sCn (G:GT) (r:Rec) (N:List Str) (sc:Scope) (x:Str) (as:List Expr):Option E:=if E7 sc x then(match G.fn.lookup x with
 |some (f,np)=>if as.length=np&&decide (as≠[]) then(r.Es N sc as).map (.call f) else none
 | none=>match G.obj.lookup x with
  |some k=>if as=[] then some (.mk k .nil) else none
  | none=>if G.blt.contains x then(if x="isinstance" then(match as with
   |[a,.Name y _]=>if t8 a then(match r.E N sc a,cTy G sc y with
    |some z,some t=>some (.isi z t)
    |_,_=>none) else none
   |_=>none)
   else match(if decide (x="list")&&E7 sc "reversed"&&G.blt.contains "reversed" then a9b as else none) with
    |some a=>if t8 a then(r.E N sc a).map .rev else none
    |none=>match b5V x with
    |some b=>if as≠[] then(r.Es N sc as).map (.bi b) else none
    |none=>none) else none) else none
def sCa(G:GT)(r:Rec)(N:List Str)(sc:Scope)(o:Expr)(m:Str)(apos:Pos)(as:List Expr)(cpos:Pos):Option E:=if a2a o&&(apos.endLine==cpos.line)&&decide (as.length<20)&&decide (as≠[]) then(match b4R m,r.E N sc o,r.Es N sc as with
 |some b,some x,some xs=>some (.mt b x xs)
 |_,_,_=>none) else none
def sLc (G:GT) (r:Rec) (N:List Str) (sc:Scope) (elt tg iter:Expr) (ifs:List Expr) (scope:Scope):Option E:=match r.I N sc tg iter with
 | some it=>match b2C N (B7 scope) with
  | some js=>if b5O sc scope (r8 8 tg) (B7 scope)&&a0K iter then(match a8s false (r8 8 tg++B7 scope) (a6I sc scope) 8 tg,r.E (r8 8 tg++B7 scope) (a6I sc scope) elt with
   |some p,some x=>if(G5 p).all (fun i=>decide (i<(r8 8 tg).length)) then(match ifs with
    |[]=>some (.comp p it (r8 8 tg).length js .yes x)
    |[t]=>(r.T (r8 8 tg++B7 scope) (a6I sc scope) t).map fun z=>.comp p it (r8 8 tg).length js z x
    |_=>none) else none
   |_,_=>none) else none
  |none=>none
 |none=>none
def sE (G:GT) (r:Rec) (N:List Str) (sc:Scope) (e:Expr):Option E:=match e with
 |.Constant k _ _=>b6U k
 |.Name x _=>match slot N sc x with
  |some i=>some (.v i)
  |none=>if E7 sc x then(G.scal.lookup x).map .k else none
 |.BinOp a op b _=>match b8o op,r.E N sc a,r.E N sc b with
  |some o,some x,some y=>some (.bin o x y)
  |_,_,_=>none
 |.UnaryOp op a _=>sUn G r N sc a op
 |.BoolOp op l p=>sBo G r N sc p op l
 |.IfExp t a b _=>match r.T N sc t,r.E N sc a,r.E N sc b with
  |some z,some x,some y=>some (.ife z x y)
  |_,_,_=>none
 | .Compare a ops bs _=>(match ops with
  |[]=>none
  | op::t=>(match bs with
   |[]=>none
   | b::u=>(match t with
    |[]=>(match u with
     |[]=>b6W G r N sc a op b
     |_::_=>none)
    |op'::t'=>(match u with
     |[]=>none
     |d::u'=>if t'.isEmpty&&u'.isEmpty then b6V G r N sc a op op' b d else none))))
 |.Subscript a b _=>sSl G r N sc a b
 |.Attribute a f _=>if a2a a&&G.atts.contains f then(r.E N sc a).map (.fld · f) else none
 |.List es _=>(r.Es N sc es).map .lst
 |.Tuple es _ _=>(r.Es N sc es).map .tup
 | .Dict ks vs _=>(match ks with
  |[]=>(match vs with
   |[]=>some .dnew
   |_::_=>none)
  |_::_=>(a8n ks vs).bind fun kvs=>if b5K kvs then some (.dlit kvs) else none)
 |.Call f as ks cpos=>if ks.isEmpty then(match f with
  |.Name x _=>sCn G r N sc x as
  |.Attribute o m apos=>sCa G r N sc o m apos as cpos
  |_=>none) else none
 |.ListComp elt gens scope _=>(match gens with
  |[]=>none
  |g::t=>if t.isEmpty&&decide (g.is_async=0) then sLc G r N sc elt g.target g.iter g.ifs scope else none)
 |_=>none
def sEs(G:GT)(r:Rec)(N:List Str)(sc:Scope)(es:List Expr):Option Es:=match es with
 |[]=>some .nil
 |e::l=>if t8 e then(match r.E N sc e,r.Es N sc l with
  |some x,some xs=>some (.cons x xs)
  |_,_=>none) else none
def sTd(G:GT)(r:Rec)(N:List Str)(sc:Scope)(e:Expr):Option T:=if b4q e then(r.E N sc e).map .val else none
def b6S (G:GT) (r:Rec) (N:List Str) (sc:Scope) (a:Expr) (op:CmpOp) (b:Expr):Option T:=
 if b5j b&&(a6b op).isSome then(match a6b op with
  |some true=>(r.E N sc a).map .isN
  |_=>(r.E N sc a).map .notN) else
 if a0K b then(match a6u op,r.E N sc a,r.E N sc b with
  |some o,some x,some y=>some (.cmp o x y)
  | some o,some x,none=>(match b with
   |.Name y _=>if E7 sc y then(match op,G.tups.lookup y with
    |.In,some ds=>some (.val (.gin false x ds))
    |.NotIn,some ds=>some (.val (.gin true x ds))
    |.In,none=>(G.dicts.lookup y).map fun kvs=>.val (.gdin false x kvs)
    |.NotIn,none=>(G.dicts.lookup y).map fun kvs=>.val (.gdin true x kvs)
    |_,_=>none) else none
   |_=>none)
  |_,_,_=>none) else none
def b6R(G:GT)(r:Rec)(N:List Str)(sc:Scope)(a:Expr)(op op':CmpOp)(b d:Expr):Option T:=if a0K d then(match a6u op,a6u op',r.E N sc a,r.E N sc b,r.E N sc d with
 |some o,some p,some x,some y,some z=>some (.chn o p x y z)
 |_,_,_,_,_=>none) else none
def sT (G:GT) (r:Rec) (N:List Str) (sc:Scope) (e:Expr):Option T:=match e with
 |.UnaryOp op a p=>(match op with
  |.Not=>(r.T N sc a).map .nt
  |op=>sTd G r N sc (.UnaryOp op a p))
 | .BoolOp op l p=>(match l with
  |[]=>sTd G r N sc (.BoolOp op [] p)
  | a::t=>(match t with
   |[]=>r.T N sc a
   | b::l=>(match op with
    |.And=>(match r.T N sc a,r.T N sc (.BoolOp .And (b::l) p) with
     |some x,some y=>some (.an x y)
     |_,_=>none)
    |.Or=>(match r.T N sc a,r.T N sc (.BoolOp .Or (b::l) p) with
     |some x,some y=>some (.orr x y)
     |_,_=>none))))
 | .Compare a ops bs p=>(match ops with
  |[]=>none
  | op::t=>(match bs with
   |[]=>none
   | b::u=>(match t with
    |[]=>(match u with
     |[]=>b6S G r N sc a op b
     |_::_=>none)
    |op'::t'=>(match u with
     |[]=>none
     |d::u'=>if t'.isEmpty&&u'.isEmpty then b6R G r N sc a op op' b d else none))))
 |e=>sTd G r N sc e
noncomputable def sO(G:GT)(r:Rec)(N:List Str)(sc:Scope)(o:Option Expr):Option O:=match o with
 |none=>some .no
 |some e=>(r.E N sc e).map .at
def sI (G:GT) (r:Rec) (N:List Str) (sc:Scope) (tg e:Expr):Option I:=match e with
 | .Call (.Name x p) as [] q=>if E7 sc x&&G.blt.contains x&&decide (x="range") then(match as with
  |[a]=>if t8 a then(r.E N sc a).map .rng1 else none
  |_=>none)
  else if E7 sc x&&G.blt.contains x&&decide (x="enumerate") then(match as,tg with
   |[a],.Tuple _ _ _=>if t8 a then(r.E N sc a).map .enum else none
   |_,_=>none)
  else if E7 sc x&&G.blt.contains x&&decide (x="zip") then(match as,tg with
   |[a,b],.Tuple _ _ _=>if t8 a&&t8 b then(match r.E N sc a,r.E N sc b with
    |some u,some v=>some (.zip u v)
    |_,_=>none) else none
   |_,_=>none)
  else(r.E N sc (.Call (.Name x p) as [] q)).map .seq
 |e=>(r.E N sc e).map .seq
def cR(G:GT):Nat->Rec
 |0=>⟨fun _ _ _=>none,fun _ _ _=>none,fun _ _ _=>none,fun _ _ _=>none,fun _ _ _ _=>none⟩
 |n+1=>⟨sE G (cR G n),sEs G (cR G n),sT G (cR G n),sO G (cR G n),sI G (cR G n)⟩
abbrev cE(G:GT)(N:List Str)(sc:Scope)(n:Nat)(e:Expr):Option E:=(cR G n).E N sc e
abbrev cEs(G:GT)(N:List Str)(sc:Scope)(n:Nat)(es:List Expr):Option Es:=(cR G n).Es N sc es
abbrev cT(G:GT)(N:List Str)(sc:Scope)(n:Nat)(e:Expr):Option T:=(cR G n).T N sc e
abbrev cO(G:GT)(N:List Str)(sc:Scope)(n:Nat)(o:Option Expr):Option O:=(cR G n).O N sc o
abbrev cI(G:GT)(N:List Str)(sc:Scope)(n:Nat)(tg e:Expr):Option I:=(cR G n).I N sc tg e
noncomputable def Q7(e:Expr):Bool:=match e with
 |.ListComp .. =>false|.SetComp .. =>false|.DictComp .. =>false
 |_=>true
noncomputable def b7w(e:Expr):Bool:=match e with
 |.ListComp .. =>true
 |_=>false
def sAs (G:GT) (N:List Str) (sc:Scope) (e:Expr):Expr->Option S
 | .Name x _=>(match a1X true N sc x,cE G N sc 40 e with
         |some i,some y=>if Q7 e||b7w e then some (.set i y) else none
         |_,_=>none)
 |.Subscript a i _=>(match cE G N sc 40 a,cE G N sc 40 i,cE G N sc 40 e with
         |some x,some k,some y=>if Q7 e&&a1M i then some (.six x k y) else none
         |_,_,_=>none)
 |.Attribute a f _=>(match cE G N sc 40 a,cE G N sc 40 e with
         |some x,some y=>if Q7 e&&G.atts.contains f then some (.sfl x f y) else none
         |_,_=>none)
 |_=>none
def sRa(G:GT)(N:List Str)(sc:Scope)(x:Str)(as:List Expr):Option S:=if E7 sc x&&decide (as≠[]) then(match G.rs.lookup x,cEs G N sc 40 as with
 |some k,some xs=>some (.rais k xs)
 |_,_=>none) else none
def sRx(G:GT)(N:List Str)(sc:Scope):Option Expr->Option S
 |none=>none
 | some ex=>(match ex with
  |.Call f as ks _=>if ks.isEmpty then(match a5d f with
   |some x=>sRa G N sc x as
   |none=>none) else none
  |_=>none)
def b6A:Stmt->Option (Str×List Expr)
 |.Expr e _=>(match e with
  |.Call f as ks _=>if ks.isEmpty then(a5d f).map fun x=>(x,as) else none
  |_=>none)
 |_=>none
def tyB:List Stmt->Option (Str×List Expr)
 |[]=>none
 |s::r=>if r.isEmpty then b6A s else none
def tyA:Stmt->Option (Str×Str)
 | .Assign ts e _=>(match ts with
  |[]=>none
  |t::r=>if r.isEmpty then(match a5d t,a5d e with
   |some u,some v=>some (u,v)
   |_,_=>none) else none)
 |_=>none
def b6z(y:Option Expr)(z:Option Str):List Stmt->Option (Str×Str×Str×Str)
 |[]=>none
 |s::q=>if q.isEmpty then(match y.bind a5d,z,tyA s with
  |some y,some z,some (u,v)=>some (y,z,u,v)
  |_,_,_=>none) else none
def tyH:List ExceptHandler->Option (Str×Str×Str×Str)
 |[]=>none
 |.ExceptHandler y z b _::r=>if r.isEmpty then b6z y z b else none
def sTy(G:GT)(N:List Str)(sc:Scope)(b:List Stmt)(hs:List ExceptHandler):Option S:=match tyB b,tyH hs with
 | some (x,as),some (y,z,u,v)=>
  if E7 sc x&&E7 sc y&&decide (v=z)&&decide (sc.names.lookup z=some .local)&&decide (sc.names.lookup u=some .local)&&decide (u≠z)&&decide (z≠"__debug__")&&decide (z≠"__classdict__") then(match G.fn.lookup x,G.cls.lookup y,cEs G N sc 40 as,N.idxOf? z,N.idxOf? u with
   |some (f,np),some k,some xs,some i,some j=>if as.length=np&&decide (as≠[])&&decide (k=G.hb) then some (.tryc f xs k i j) else none
   |_,_,_,_,_=>none) else none
 |_,_=>none
def sS(G:GT)(N:List Str)(sc:Scope)(r:List Stmt->Option Ss)(s:Stmt):Option S:=match s with
 |.Assign tgs e _=>(match tgs with
  |[]=>none
  |t::u=>if u.isEmpty then sAs G N sc e t else none)
 |.Expr e _=>if Q7 e then(cE G N sc 40 e).map .ex else none
 |.Return o _=>(match o with
  |some e=>(cE G N sc 40 e).map .ret
  |none=>none)
 |.If t a b _=>match cT G N sc 40 t,r a,r b with
  |some z,some x,some y=>some (.iff z x y)
  |_,_,_=>none
 |.For tg it b els _=>if els.isEmpty then(match a8s true N sc 8 tg,cI G N sc 40 tg it,r b with
  |some p,some i,some y=>if a0K it then some (.for p i y) else none
  |_,_,_=>none) else none
 |.Raise ex ca _=>some (if ca.isNone then(sRx G N sc ex).getD .bad else .bad)
 |.Try b hs el fi _=>if el.isEmpty&&fi.isEmpty then sTy G N sc b hs else none
 |_=>none
def sSs(G:GT)(N:List Str)(sc:Scope)(r:List Stmt->Option Ss):List Stmt->Option Ss
 |[]=>some .nil
 |s::l=>match sS G N sc r s,sSs G N sc r l with
  |some x,some y=>some (.cons x y)
  |_,_=>none
def cSs(G:GT)(N:List Str)(sc:Scope):Nat->List Stmt->Option Ss
 |0=>fun _=>none
 |n+1=>sSs G N sc (cSs G N sc n)
noncomputable def TEv(Γ:Gm)(E:XK)(f:u7->AH->R D):TE:=fun σ H Q=>∃env ah m,Rel Γ env ah σ H m/\i7 Γ E m H (f env ah) Q
noncomputable def TAv(Γ:Gm)(E:XK)(f:u7->AH->R (List D)):TA:=fun σ H Q=>∃env ah m,Rel Γ env ah σ H m/\j9 Γ E m H (f env ah) (fun ds _ m1 H1=>∀vs,Rps m1 H1 ds vs->Q vs H1)
noncomputable def TTv(Γ:Gm)(E:XK)(f:u7->AH->R Bool):TT:=fun σ H Q=>∃env ah m,Rel Γ env ah σ H m/\j9 Γ E m H (f env ah) (fun b _ _ H1=>Q b H1)
noncomputable def TOv(Γ:Gm)(E:XK)(f:u7->AH->R (Option Int)):TO:=fun σ H Q=>∃env ah m,Rel Γ env ah σ H m/\j9 Γ E m H (f env ah) (fun b _ _ H1=>Q b H1)
variable{t':TE}{es:List Expr}{st:Stmt}{Q':VK}{x:Str}
section
variable{X:Cx}{E:XK}{e a b d:Expr}{pos:Pos}
theorem PE.imp{t:TE}(h:PE X e t)(i:∀σ H Q,t' σ H Q->t σ H Q):PE X e t':=fun pins s σ H Q I q=>h pins s σ H Q I (i _ _ _ q)
theorem PT.imp{t t':TT}(h:PT X e t)(i:∀σ H Q,t' σ H Q->t σ H Q):PT X e t':=fun pins s σ H Q I q=>h pins s σ H Q I (i _ _ _ q)
theorem PW.imp{t t':TT}(h:PW X e t)(i:∀σ H Q,t' σ H Q->t σ H Q):PW X e t':=fun w pins s σ H Q I q=>h w pins s σ H Q I (i _ _ _ q)
theorem PA.imp{t t':TA}(h:PA X es t)(i:∀σ H Q,t' σ H Q->t σ H Q):PA X es t':=fun p pins s σ H Q I q=>h p pins s σ H Q I (i _ _ _ q)
theorem PO.imp{e:Option Expr}{t t':TO}(h:PO X e t)(i:∀σ H Q,t' σ H Q->t σ H Q):PO X e t':=fun pins s σ H Q I q=>h pins s σ H Q I (i _ _ _ q)
theorem PS.imp{t t':TS}(h:PS X st t)(i:∀D σ H,t' D σ H->t D σ H):PS X st t':=fun pins s σ H D I q=>h pins s σ H D I (i _ _ _ q)
theorem PSs.imp{st:List Stmt}{t t':TS}(h:PSs X st t)(i:∀D σ H,t' D σ H->t D σ H):PSs X st t':=fun pins s σ H D I q=>h pins s σ H D I (i _ _ _ q)
theorem Rel.on{ah1:AH}(r:Rel Γ env ah σ H m)(p:Pre m m1)(k:Keep m m1 H H1)(s:Sim Γ ah1 m1 H1):Rel Γ env ah1 σ H1 m1:=⟨s,r.env.mono p k⟩
theorem i7.first{f:D->AH->R D}(rl:Rel Γ env ah σ H m)(h:i7 Γ E m H (r.bind f) Q)
 (k:∀d ah1 m1 H1 v,Pre m m1->Keep m m1 H H1->Rel Γ env ah1 σ H1 m1->Rp m1 H1 d v->i7 Γ E m1 H1 (f d ah1) Q->Q' v H1):i7 Γ E m H r Q':=
 h.bind.val fun d ah1 m1 H1 v p kp s r q=>k d ah1 m1 H1 v p kp (rl.on p kp s) r q
theorem j9.first{f:D->AH->R β}{P:β->AH->List Addr->Hp->Prop}(rl:Rel Γ env ah σ H m)(h:j9 Γ E m H (r.bind f) P)
 (k:∀d ah1 m1 H1 v,Pre m m1->Keep m m1 H H1->Rel Γ env ah1 σ H1 m1->Rp m1 H1 d v->j9 Γ E m1 H1 (f d ah1) P->Q' v H1):i7 Γ E m H r Q':=
 h.bind.val fun d ah1 m1 H1 v p kp s r q=>k d ah1 m1 H1 v p kp (rl.on p kp s) r q
theorem j9.mp{r:R α}{P P':α->AH->List Addr->Hp->Prop}(h:j9 Γ E m H r P)(k:∀a ah1 m1 H1,Pre m m1->Keep m m1 H H1->Sim Γ ah1 m1 H1->P a ah1 m1 H1->P' a ah1 m1 H1):j9 Γ E m H r P':=by
 cases r with
 |ok d ah=>exact fun m2 H2 p2 k2 s2=>k d ah m2 H2 p2 k2 s2 (h m2 H2 p2 k2 s2)
 |ex c fs ah=>exact h
 |no=>exact h
theorem i7.mp(h:i7 Γ E m H r Q)(k:∀v H',Q v H'->Q' v H'):i7 Γ E m H r Q':=by
 cases r with
 |ok d ah=>exact fun m2 H2 v p2 k2 s2 r2=>k v H2 (h m2 H2 v p2 k2 s2 r2)
 |ex c fs ah=>exact h
 |no=>exact h
theorem j9.ok{a:α}{P:α->AH->List Addr->Hp->Prop}(h:j9 Γ E m H (.ok a ah) P)(s:Sim Γ ah m H):P a ah m H:=h m H (Pre.refl m) (Keep.refl m H) s
theorem j9.bool{P:Bool->AH->List Addr->Hp->Prop}(h:j9 Γ E m H (asB r) P):i7 Γ E m H r (fun x H1=>∃k,x=.bl k/\∃ah1 m1,Pre m m1/\Keep m m1 H H1/\Sim Γ ah1 m1 H1/\P k ah1 m1 H1):=by
 unfold asB at h;refine h.bind.val fun d ah1 m1 H1 v p kp s r q=>?_
 cases d<;>first|exact q.elim|skip
 rename_i k;exact⟨k,r,ah1,m1,p,kp,s,q.ok s⟩
theorem a_v(hN:X.N[i]? =some x)(hv:Vis X.env.scope x)(hd:(x==("__debug__":Str))=false)(hcd:(x==("__classdict__":Str))=false)(c:CF)(ct:CT):PE X (.Name x pos) (TEv Γ E (ev ct c (.v i))):=by
 refine PE.imp (a5X hN hv hd hcd) ?_
 rintro σ H Q ⟨env,ah,m,rl,q⟩;unfold ev at q
 split at q
 · rename_i d e;obtain⟨v,h1,h2⟩:=rl.env.val i d e;exact⟨v,h1,q.ok rl.sim h2⟩
 · exact q.elim
theorem a_k{dd:D}(h:PE X e (tC v))(hr:∀m H,Rp m H dd v)(c:CF)(ct:CT):PE X e (TEv Γ E (ev ct c (.k dd))):=by
 refine PE.imp h ?_
 rintro σ H Q ⟨env,ah,m,rl,q⟩;unfold ev at q;exact q.ok rl.sim (hr m H)
end
variable{op':CmpOp}{p2:Pos}
section
variable{X:Cx}{Ex:XK}{e a b d:Expr}{pos:Pos}{ct:CT}{c:CF}{x y z:E}
theorem two{r:R2}{g:AH->D->D->R D}(ha:PE X a (TEv Γ Ex (ev ct c x)))(hb:PE X b (TEv Γ Ex (ev ct c y))):∀σ H Q,TEv Γ Ex (fun env h=>(ev ct c x env h).bind fun u h1=>(ev ct c y env h1).bind fun v h2=>g h2 u v) σ H Q→
 tOp (rOf Γ Ex g) (TEv Γ Ex (ev ct c x)) (TEv Γ Ex (ev ct c y)) σ H Q:=by
 rintro σ H Q ⟨env,ah,m,rl,q⟩;refine⟨env,ah,m,rl,i7.first rl q fun d1 ah1 m1 H1 v1 p1 k1 rl1 r1 q1=>?_⟩
 refine⟨env,ah1,m1,rl1,i7.first rl1 q1 fun d2 ah2 m2 H2 v2 p2 k2 rl2 r2 q2=>?_⟩
 exact⟨d1,d2,ah2,m2,rl2.sim,r1.mono p2 k2,r2,q2⟩
theorem b8O{op:Operator}(h:o.bin=some op)(ha:PE X a (TEv Γ Ex (ev ct c x)))(hb:PE X b (TEv Γ Ex (ev ct c y))):PE X (.BinOp a op b pos) (TEv Γ Ex (ev ct c (.bin o x y))):=by
 refine PE.imp (b7g (b8d (Γ:=Γ) (E:=Ex) h) ha hb) fun σ H Q q=>two (r:=rOf Γ Ex (op2 o)) ha hb σ H Q ?_
 simpa only[TEv,ev] using q
theorem b8M(hu:X.A.units+8<cLine)(hK:X.K=Γ.K)(h:o.cmp=some op)(ha:PE X a (TEv Γ Ex (ev ct c x)))(hb:PE X b (TEv Γ Ex (ev ct c y)))(hm:behindInMarks op b=false):PE X (.Compare a [op] [b] pos) (TEv Γ Ex (ev ct c (.bin o x y))):=by
 refine PE.imp (a3Q (a1j (Γ:=Γ) (E:=Ex) hu hK h) ha hb hm) fun σ H Q q=>two (r:=rOf Γ Ex (op2 o)) ha hb σ H Q ?_
 simpa only[TEv,ev] using q
theorem a1E{f:u7->AH->R D}{t:TE}(h:∀σ H Q,TEv Γ Ex f σ H Q->t σ H Q):∀σ H Q,TTv Γ Ex (fun env h=>asB (f env h)) σ H Q->a8H t σ H Q:=by
 rintro σ H Q ⟨env,ah,m,rl,q⟩;exact h σ H _ ⟨env,ah,m,rl,q.bool.mp fun v H1 ⟨k,e,_,_,_,_,_,w⟩=>⟨k,e,w⟩⟩
theorem b6o(hu:X.A.units+8<cLine)(hK:X.K=Γ.K)(h:o.cmp=some op)(ha:PE X a (TEv Γ Ex (ev ct c x)))(hb:PE X b (TEv Γ Ex (ev ct c y)))(hm:behindInMarks op b=false):PT X (.Compare a [op] [b] pos) (TTv Γ Ex (tst ct c (.cmp o x y))):=by
 refine PT.imp (a3P (a1j (Γ:=Γ) (E:=Ex) hu hK h) ha hb hm) fun σ H Q q=>a1E (two (r:=rOf Γ Ex (op2 o)) ha hb) σ H Q ?_
 simpa only[TTv,tst] using q
theorem a3M{d:D}(r:Rp m H d v):decide (v=.non)=decide (d=.non):=by
 cases d with
 |non=>cases r;rfl
 |bl _=>cases r;rfl
 |int _=>cases r;rfl
 |str _=>cases r;rfl
 |tup _=>obtain⟨_,_,rfl,_⟩:=r;rfl
 |ref _=>obtain⟨_,rfl,_⟩:=r;rfl
theorem b8J{j p'}(ha:PE X a (TEv Γ Ex (ev ct c x))):PE X (.Compare a [.Is] [.Constant .none j p'] pos) (TEv Γ Ex (ev ct c (.isN x))):=by
 refine PE.imp (a9x (a9z ha)) ?_
 rintro σ H Q ⟨env,ah,m,rl,q⟩;rw[ev] at q;refine⟨env,ah,m,rl,i7.first rl q fun d1 ah1 m1 H1 v1 p1 k1 rl1 r1 q1=>?_⟩
 rw[a3M r1];exact q1.ok rl1.sim rfl
theorem b6f{j p'}(ha:PE X a (TEv Γ Ex (ev ct c x))):PE X (.Compare a [.IsNot] [.Constant .none j p'] pos) (TEv Γ Ex (ev ct c (.notN x))):=by
 refine PE.imp (a9x (a6O ha)) ?_
 rintro σ H Q ⟨env,ah,m,rl,q⟩;rw[ev] at q;refine⟨env,ah,m,rl,i7.first rl q fun d1 ah1 m1 H1 v1 p1 k1 rl1 r1 q1=>?_⟩
 rw[a3M r1];exact q1.ok rl1.sim rfl
theorem b6h{j p'}(ha:PE X a (TEv Γ Ex (ev ct c x))):PT X (.Compare a [.Is] [.Constant .none j p'] pos) (TTv Γ Ex (tst ct c (.isN x))):=by
 refine PT.imp (a9h (a9z ha)) ?_
 rintro σ H Q ⟨env,ah,m,rl,q⟩;rw[tst] at q;refine⟨env,ah,m,rl,j9.first rl q fun d1 ah1 m1 H1 v1 p1 k1 rl1 r1 q1=>?_⟩
 rw[a3M r1];exact⟨_,rfl,q1.ok rl1.sim⟩
theorem b3s{j p'}(ha:PE X a (TEv Γ Ex (ev ct c x))):PT X (.Compare a [.IsNot] [.Constant .none j p'] pos) (TTv Γ Ex (tst ct c (.notN x))):=by
 refine PT.imp (a9h (a6O ha)) ?_
 rintro σ H Q ⟨env,ah,m,rl,q⟩;rw[tst] at q;refine⟨env,ah,m,rl,j9.first rl q fun d1 ah1 m1 H1 v1 p1 k1 rl1 r1 q1=>?_⟩
 rw[a3M r1];exact⟨_,rfl,q1.ok rl1.sim⟩
theorem b8H(ha:PE X a (TEv Γ Ex (ev ct c x))):PE X (.UnaryOp .USub a pos) (TEv Γ Ex (ev ct c (.neg x))):=by
 refine PE.imp (b7e b3H ha) ?_
 rintro σ H Q ⟨env,ah,m,rl,q⟩;rw[ev] at q;refine⟨env,ah,m,rl,i7.first rl q fun d1 ah1 m1 H1 v1 p1 k1 rl1 r1 q1=>?_⟩
 cases d1<;>first|exact q1.elim|skip
 cases r1;exact⟨_,rfl,q1.ok rl1.sim rfl⟩
theorem i7.firstB{f:Bool->AH->R D}(rl:Rel Γ env ah σ H m)(h:i7 Γ Ex m H ((asB r).bind f) Q)
 (k:∀b ah1 m1 H1,Pre m m1->Keep m m1 H H1->Rel Γ env ah1 σ H1 m1->i7 Γ Ex m1 H1 (f b ah1) Q->Q' (.bl b) H1):i7 Γ Ex m H r Q':=by
 refine h.bind.bool.mp fun v H1 hh=>?_
 obtain⟨b,rfl,ah2,m2,p2,k2,s2,w⟩:=hh;exact k b ah2 m2 H1 p2 k2 (rl.on p2 k2 s2) w
theorem b9S(ha:PE X a (TEv Γ Ex (ev ct c x))):PE X (.UnaryOp .Not a pos) (TEv Γ Ex (ev ct c (.nt x))):=by
 refine PE.imp (b4A ha) ?_
 rintro σ H Q ⟨env,ah,m,rl,q⟩;rw[ev] at q;exact⟨env,ah,m,rl,i7.firstB rl q fun b ah1 m1 H1 p1 k1 rl1 q1=>⟨b,rfl,q1.ok rl1.sim rfl⟩⟩
theorem b9X{i6:List Expr}(ha:PE X a (TEv Γ Ex (ev ct c x)))(hb:PE X (.BoolOp .And (b::i6) pos) (TEv Γ Ex (ev ct c y))):PE X (.BoolOp .And (a::b::i6) pos) (TEv Γ Ex (ev ct c (.an x y))):=by
 refine PE.imp (b4F ha hb) ?_
 rintro σ H Q ⟨env,ah,m,rl,q⟩;rw[ev] at q;refine⟨env,ah,m,rl,i7.firstB rl q fun k ah1 m1 H1 p1 k1 rl1 q1=>⟨k,rfl,?_⟩⟩
 cases k with
 |true=>rw[ay rfl] at q1⊢;exact⟨env,ah1,m1,rl1,q1⟩
 |false=>rw[az (by decide)] at q1⊢;exact q1.ok rl1.sim rfl
theorem b8D{i6:List Expr}(ha:PE X a (TEv Γ Ex (ev ct c x)))(hb:PE X (.BoolOp .Or (b::i6) pos) (TEv Γ Ex (ev ct c y))):PE X (.BoolOp .Or (a::b::i6) pos) (TEv Γ Ex (ev ct c (.orr x y))):=by
 refine PE.imp (b7f ha hb) ?_
 rintro σ H Q ⟨env,ah,m,rl,q⟩;rw[ev] at q;refine⟨env,ah,m,rl,i7.firstB rl q fun k ah1 m1 H1 p1 k1 rl1 q1=>⟨k,rfl,?_⟩⟩
 cases k with
 |true=>rw[ay rfl] at q1⊢;exact q1.ok rl1.sim rfl
 |false=>rw[az (by decide)] at q1⊢;exact⟨env,ah1,m1,rl1,q1⟩
variable{t u:T}{v:List Expr}
theorem b8z(he:∀whole,isTrue e X.env whole=(do let v←whole;standAt e.pos;holding [v] (truthy v)))(ha:PE X e (TEv Γ Ex (ev ct c x))):PT X e (TTv Γ Ex (tst ct c (.val x))):=by
 refine PT.imp (a9f ha he) ?_
 rintro σ H Q ⟨env,ah,m,rl,q⟩;rw[tst] at q;refine⟨env,ah,m,rl,q.bool.mp fun v H1 hh=>?_⟩
 obtain⟨b,rfl,ah2,m2,p2,k2,s2,w⟩:=hh;exact⟨b,rfl,w⟩
theorem TTv.next{r:R Bool}{f:Bool->AH->R Bool}{Q Q':Bool->Hp->Prop}(rl:Rel Γ env ah σ H m)(h:j9 Γ Ex m H (r.bind f) (fun b _ _ H1=>Q b H1))
 (k:∀b ah1 m1 H1,Pre m m1->Keep m m1 H H1->Rel Γ env ah1 σ H1 m1->j9 Γ Ex m1 H1 (f b ah1) (fun b _ _ H1=>Q b H1)->Q' b H1):j9 Γ Ex m H r (fun b _ _ H1=>Q' b H1):=
 h.bind.mp fun b ah1 m1 H1 p1 k1 s1 q1=>k b ah1 m1 H1 p1 k1 (rl.on p1 k1 s1) q1
theorem b8F(ha:PT X a (TTv Γ Ex (tst ct c t))):PT X (.UnaryOp .Not a pos) (TTv Γ Ex (tst ct c (.nt t))):=by
 refine PT.imp (b4k ha) ?_
 rintro σ H Q ⟨env,ah,m,rl,q⟩;rw[tst] at q;exact⟨env,ah,m,rl,TTv.next rl q fun b ah1 m1 H1 p1 k1 rl1 q1=>q1.ok rl1.sim⟩
theorem b8Q{i6:List Expr}(ha:PT X a (TTv Γ Ex (tst ct c t)))(hb:PW X (.BoolOp .And (b::i6) pos) (TTv Γ Ex (tst ct c u))):PW X (.BoolOp .And (a::b::i6) pos) (TTv Γ Ex (tst ct c (.an t u))):=by
 refine PW.imp (b4i ha hb) ?_
 rintro σ H Q ⟨env,ah,m,rl,q⟩;rw[tst] at q;refine⟨env,ah,m,rl,TTv.next rl q fun k ah1 m1 H1 p1 k1 rl1 q1=>?_⟩
 cases k with
 |true=>rw[ay rfl] at q1⊢;exact⟨env,ah1,m1,rl1,q1⟩
 |false=>rw[az (by decide)] at q1⊢;exact q1.ok rl1.sim
theorem b8E{i6:List Expr}(ha:PT X a (TTv Γ Ex (tst ct c t)))(hb:PW X (.BoolOp .Or (b::i6) pos) (TTv Γ Ex (tst ct c u))):PW X (.BoolOp .Or (a::b::i6) pos) (TTv Γ Ex (tst ct c (.orr t u))):=by
 refine PW.imp (b7c ha hb) ?_
 rintro σ H Q ⟨env,ah,m,rl,q⟩;rw[tst] at q;refine⟨env,ah,m,rl,TTv.next rl q fun k ah1 m1 H1 p1 k1 rl1 q1=>?_⟩
 cases k with
 |true=>rw[ay rfl] at q1⊢;exact q1.ok rl1.sim
 |false=>rw[az (by decide)] at q1⊢;exact⟨env,ah1,m1,rl1,q1⟩
theorem b8K{cnd:Expr}(hc:PT X cnd (TTv Γ Ex (tst ct c t)))(ha:PE X a (TEv Γ Ex (ev ct c x)))(hb:PE X b (TEv Γ Ex (ev ct c y))):PE X (.IfExp cnd a b pos) (TEv Γ Ex (ev ct c (.ife t x y))):=by
 refine PE.imp (a9v hc ha hb) ?_
 rintro σ H Q ⟨env,ah,m,rl,q⟩;rw[ev] at q;refine⟨env,ah,m,rl,q.bind.mp fun k ah1 m1 H1 p1 k1 s1 q1=>?_⟩
 have rl1:=rl.on p1 k1 s1
 cases k with
 |true=>exact b5d ⟨env,ah1,m1,rl1,q1⟩
 |false=>exact b5e ⟨env,ah1,m1,rl1,q1⟩
theorem b3D{p:B}{op op':CmpOp}(ha:PE X a (TEv Γ Ex (ev ct c x))):∀σ H Q,TEv Γ Ex (fun env h=>(ev ct c x env h).bind fun x1 h1=>(ev ct c y env h1).bind fun y1 h2=>(asB (op2 o h2 x1 y1)).bind fun k h3=>if k=true then(ev ct c z env h3).bind fun z1 h4=>op2 p h4 y1 z1 else .ok (.bl false) h3) σ H Q→
 a5O (rOf Γ Ex (op2 o)) (rOf Γ Ex (op2 p)) (TEv Γ Ex (ev ct c x)) (TEv Γ Ex (ev ct c y)) (TEv Γ Ex (ev ct c z)) σ H Q:=by
 rintro σ H Q ⟨env,ah,m,rl,q⟩;refine⟨env,ah,m,rl,i7.first rl q fun d1 ah1 m1 H1 v1 p1 k1 rl1 r1 q1=>?_⟩
 refine⟨env,ah1,m1,rl1,i7.first rl1 q1 fun d2 ah2 m2 H2 v2 p2 k2 rl2 r2 q2=>?_⟩
 refine⟨d1,d2,ah2,m2,rl2.sim,r1.mono p2 k2,r2,i7.firstB rl2 q2 fun k ah3 m3 H3 p3 k3 rl3 q3=>⟨k,rfl,?_⟩⟩
 cases k with
 |false=>rw[az (by decide)] at q3⊢;exact q3.ok rl3.sim rfl
 |true=>
  rw[ay rfl] at q3⊢;refine⟨env,ah3,m3,rl3,i7.first rl3 q3 fun d4 ah4 m4 H4 v4 p4 k4 rl4 r4 q4=>?_⟩
  exact⟨d2,d4,ah4,m4,rl4.sim,r2.mono (p3.trans p4) (k3.trans k4),r4,q4⟩
theorem b8N{p:B}(hu:X.A.units+8<cLine)(hK:X.K=Γ.K)(h:o.cmp=some op)(h':p.cmp=some op')(ha:PE X a (TEv Γ Ex (ev ct c x)))(hb:PE X b (TEv Γ Ex (ev ct c y)))(hd:PE X d (TEv Γ Ex (ev ct c z)))(hm:lastMarks [op,op'] [b,d]=false):
 PE X (.Compare a [op,op'] [b,d] pos) (TEv Γ Ex (ev ct c (.chn o p x y z))):=by
 refine PE.imp (a9y (a1j (Γ:=Γ) (E:=Ex) hu hK h) (a1j (Γ:=Γ) (E:=Ex) hu hK h') ha hb hd hm) fun σ H Q q=>b3D (op:=op) (op':=op') ha σ H Q ?_
 simpa only[TEv,ev] using q
theorem b6p{p:B}(hu:X.A.units+8<cLine)(hK:X.K=Γ.K)(h:o.cmp=some op)(h':p.cmp=some op')(ha:PE X a (TEv Γ Ex (ev ct c x)))(hb:PE X b (TEv Γ Ex (ev ct c y)))(hd:PE X d (TEv Γ Ex (ev ct c z)))(hm:lastMarks [op,op'] [b,d]=false):
 PT X (.Compare a [op,op'] [b,d] pos) (TTv Γ Ex (tst ct c (.chn o p x y z))):=by
 refine PT.imp (a9i (a1j (Γ:=Γ) (E:=Ex) hu hK h) (a1j (Γ:=Γ) (E:=Ex) hu hK h') ha hb hd hm) fun σ H Q q=>a1E (b3D (op:=op) (op':=op') (o:=o) (p:=p) (y:=y) (z:=z) ha) σ H Q ?_
 simpa only[TTv,tst] using q
theorem b9V(hu:X.A.units+8<cLine)(hK:X.K=Γ.K)(ha:PE X a (TEv Γ Ex (ev ct c x)))(hb:PE X b (TEv Γ Ex (ev ct c y)))(hs:a1P b):PE X (.Subscript a b pos) (TEv Γ Ex (ev ct c (.ix x y))):=by
 refine PE.imp (b3v (b8a (Γ:=Γ) (E:=Ex) hu hK) ha hb hs) fun σ H Q q=>two (r:=rOf Γ Ex ixD) ha hb σ H Q ?_
 simpa only[TEv,ev] using q
theorem b9R:PO X none (TOv Γ Ex (evo ct c .no)):=by
 refine PO.imp b1V ?_
 rintro σ H Q ⟨env,ah,m,rl,q⟩;rw[evo] at q;exact q.ok rl.sim
theorem b9Q(ha:PE X a (TEv Γ Ex (ev ct c x))):PO X (some a) (TOv Γ Ex (evo ct c (.at x))):=by
 refine PO.imp (b1U ha) ?_
 rintro σ H Q ⟨env,ah,m,rl,q⟩;rw[evo,a7c] at q;refine⟨env,ah,m,rl,j9.first rl q fun d1 ah1 m1 H1 v1 p1 k1 rl1 r1 q1=>?_⟩
 cases d1<;>first|exact q1.elim|skip
 cases r1;exact⟨_,rfl,q1.ok rl1.sim⟩
variable{l h:Option Expr}{ol oh:O}
theorem b9P(hK:X.K=Γ.K)(ha:PE X a (TEv Γ Ex (ev ct c x)))(hl:PO X l (TOv Γ Ex (evo ct c ol)))(hh:PO X h (TOv Γ Ex (evo ct c oh))):PE X (.Subscript a (.Slice l h none p2) pos) (TEv Γ Ex (ev ct c (.sl x ol oh))):=by
 refine PE.imp (a9s (b9G (Γ:=Γ) (E:=Ex) hK) ha hl hh) ?_
 rintro σ H Q ⟨env,ah,m,rl,q⟩;rw[ev] at q;refine⟨env,ah,m,rl,i7.first rl q fun d1 ah1 m1 H1 v1 p1 k1 rl1 r1 q1=>?_⟩
 refine⟨env,ah1,m1,rl1,q1.bind.mp fun lo ah2 m2 H2 p2 k2 s2 q2=>?_⟩
 refine⟨env,ah2,m2,rl1.on p2 k2 s2,q2.bind.mp fun hi ah3 m3 H3 p3 k3 s3 q3=>?_⟩
 exact⟨d1,ah3,m3,s3,r1.mono (p2.trans p3) (k2.trans k3),q3⟩
variable{xs:Es}
theorem b8G:PA X [] (TAv Γ Ex (evs ct c .nil)):=by
 refine PA.imp a1c ?_
 rintro σ H Q ⟨env,ah,m,rl,q⟩;rw[evs] at q;exact q.ok rl.sim [] rfl
theorem b6m(ha:PE X a (TEv Γ Ex (ev ct c x)))(hr:PA X es (TAv Γ Ex (evs ct c xs)))(hs:starEach (a::es) X.env=(false,eval a X.env)::starEach es X.env):PA X (a::es) (TAv Γ Ex (evs ct c (.cons x xs))):=by
 refine PA.imp (L9 ha hr hs) ?_
 rintro σ H Q ⟨env,ah,m,rl,q⟩;rw[evs] at q;refine⟨env,ah,m,rl,j9.first rl q fun d1 ah1 m1 H1 v1 p1 k1 rl1 r1 q1=>?_⟩
 refine⟨env,ah1,m1,rl1,q1.bind.mp fun ds ah2 m2 H2 p2 k2 s2 q2=>fun vs rs=>?_⟩
 exact q2.ok s2 (v1::vs) ⟨v1,vs,rfl,r1.mono p2 k2,rs⟩
theorem b8I(ha:PA X es (TAv Γ Ex (evs ct c xs))):PE X (.List es pos) (TEv Γ Ex (ev ct c (.lst xs))):=by
 refine PE.imp (b4C ha) ?_
 rintro σ H Q ⟨env,ah,m,rl,q⟩;rw[ev] at q;refine⟨env,ah,m,rl,q.bind.mp fun ds ah1 m1 H1 p1 k1 s1 q1=>fun vs rs=>?_⟩
 split at q1
 · rename_i hl;exact⟨by rw[rs.len,←N4];exact hl,fun p hp=>q1.newc s1 hp ⟨_,c9,rs.mono (Pre.snoc m1 p) (Keep.newc hp)⟩⟩
 · exact q1.elim
theorem b8A{k:Nat}(ha:PA X es (TAv Γ Ex (evs ct c xs))):PE X (.Tuple es k pos) (TEv Γ Ex (ev ct c (.tup xs))):=by
 refine PE.imp (b4x ha) ?_
 rintro σ H Q ⟨env,ah,m,rl,q⟩;rw[ev] at q;refine⟨env,ah,m,rl,q.bind.mp fun ds ah1 m1 H1 p1 k1 s1 q1=>fun vs rs=>?_⟩
 split at q1
 · rename_i hl;exact⟨by rw[rs.len,←N4];exact hl,fun p hp=>q1.newt s1 hp rs⟩
 · exact q1.elim
theorem b6k:PE X (.Dict [] [] pos) (TEv Γ Ex (ev ct c .dnew)):=by
 refine PE.imp a9w ?_
 rintro σ H Q ⟨env,ah,m,rl,q⟩;rw[ev] at q;exact fun p hp=>q.newc rl.sim hp (.inl ⟨[],c9,.nil⟩)
theorem b8P{b:Bi}(ha:PA X es (TAv Γ Ex (evs ct c xs))):∀σ H Q,TEv Γ Ex (ev ct c (.bi b xs)) σ H Q->tCB (rBi Γ Ex b) (TAv Γ Ex (evs ct c xs)) σ H Q:=by
 rintro σ H Q ⟨env,ah,m,rl,q⟩;rw[ev] at q;exact⟨env,ah,m,rl,q.bind.mp fun ds ah1 m1 H1 p1 k1 s1 q1=>fun vs rs=>⟨ds,ah1,m1,s1,rs,q1⟩⟩
end
open PySem PySem.Spec L2 L2X
noncomputable def a3I(Γ:Gm)(c:CF)(f np:Nat):Sp:=fun vs H Q E=>∃ds ah m,ds.length=np/\Rps m H ds vs/\Sim Γ ah m H/\i7 Γ E m H (c f ds ah) Q
theorem i8{a:Expr}{env:Env}(h:t8 a=true):starEach (a::es) env=(false,eval a env)::starEach es env:=by
 cases a<;>first|rfl|cases h
theorem K7{pos:Pos}{env:Env}:∀{es:List Expr},es.all t8=true->(backTo pos (starEach es env)).any (·.1)=false
 |[],_=>rfl
 |a::es,h=>by
  rw[all_cons,ae] at h;rw[i8 h.1];exact K7 (es:=es) h.2
theorem a2X{pos:Pos}{env:Env}:∀{es:List Expr},es.all t8=true->(backTo pos (starEach es env)).all (fun x=>!x.1)=true
 |[],_=>rfl
 |a::es,h=>by
  rw[all_cons,ae] at h;rw[i8 h.1];exact a2X (es:=es) h.2
theorem a0D{o:Expr}{env:Env}{w:Sem Value}(h:a2a o=true):attributeBase o f env w=w:=by
 unfold attributeBase
 split
 · cases h
 · rfl
def a8u(P:Program)(w:World)(K:PySem.W.Frag)(a:Addr)(gs:List (Key×V)):Prop:=(a==sysModules)=false/\∃vs,KV gs vs/\∀h:Heap,K.In h->h.DictOf (v8 P w) a vs
structure Cxt(X:Cx)(Γ:Gm)(G:GT)(ct:CT)(c:CF)(Ex:XK)(N:List Str)(sc:Scope)(dfn:Bool):Prop where
 hN:X.N=N
 nd:N.Nodup
 sc:X.env.scope=sc
 calm:X.calm=true
 hu:X.A.units+8<cLine
 K:X.K=Γ.K
 fnb:dfn=true->∀x,X.fn x=true
 scal:∀x d,G.scal.lookup x=some d->∃u v,X.mg x=some u/\n9 v u/\∀m H,Rp m H d v
 tups:∀x ds,G.tups.lookup x=some ds->∃a vs,X.mg x=some (.ref a)/\(∀H,SqT X.K H a vs)/\∀m H,Rps m H ds vs
 dicts:∀x kvs,G.dicts.lookup x=some kvs->∃a gs,X.mg x=some (.ref a)/\a8u X.prog X.w X.K a gs/\∀m H,DK m H kvs gs
 blt:∀x,G.blt.contains x=true->X.mg x=none
 fn:∀x f np,G.fn.lookup x=some (f,np)->∃k a fd ps,ps.length=np/\Room k X.A/\X.mg x=some (.ref a)/\PySem.W.keepIn X.K (.ref a)=true/\J4 X.K fd ps []/\FnOk X.prog X.w X.K X.mg X.base (CXr X.prog X.w) k a fd ps (a3I Γ c f np)/\∀ds h,ds.length≠np->c f ds h=.no
 obj:∀x k,G.obj.lookup x=some k->k∈Γ.ob/\∃r a fd ps,ps.length=1/\Room (r+1) X.A/\Mk X.K (Γ.cA k) a/\X.mg x=some (.ref (Γ.cA k))/\J4 X.K fd ps []/\FnOk X.prog X.w X.K X.mg X.base (CXr X.prog X.w) r a fd ps (a3I Γ c (ct.init k) 1)
 att:∀k,k∈Γ.ob->Cls X.K (Γ.cA k)/\∀f,G.atts.contains f=true->Z0 X.K (Γ.cA k) f
 xatt:∀k,k∈Γ.xs->∃N ND fI,XC X.K (Γ.cA k) N (Γ.cA G.hb) ND fI/\PySem.W.mroIn X.K (Γ.cA k) (.type "object")=some true/\PySem.W.kitOne X.K (.ref (Γ.cA k)) (.type "ValueError")=some true
 sub:∀x j,G.cls.lookup x=some j->X.mg x=some (.ref (Γ.cA j))/\∀k,k∈Γ.xs->PySem.W.kitOne X.K (.ref (Γ.cA k)) (.ref (Γ.cA j))=some (ct.sub k j)
 pass:V7 (CXr X.prog X.w) X Ex
variable{np:Nat}{K:PySem.W.Frag}{neg:Bool}{ds:List D}{ad:Addr}{apos:Pos}
section
variable{X:Cx}{G:GT}{ct:CT}{c:CF}{Ex:XK}{N:List Str}{sc:Scope}{dfn:Bool}{e a b:Expr}{pos p:Pos}{x y z:E}{xs:Es}
theorem L3{n:Str}(h:E7 sc n=true):sc.names.lookup n=some .globalImplicit/\(n==("__debug__":Str))=false/\n≠"__name__":=by
 unfold E7 at h;rw[ae,ae] at h;exact⟨aw h.1.1,beq_eq_false_iff_ne.mpr (aw h.1.2),aw h.2⟩
theorem Cxt.gl(C:Cxt X Γ G ct c Ex N sc dfn){n:Str}(h:E7 sc n=true):Gl X n:=by
 show X.env.scope.names.lookup n=_
 rw[C.sc];exact(L3 h).1
theorem Cxt.vis(C:Cxt X Γ G ct c Ex N sc dfn){n:Str}(h:a9Z sc n=true):Vis X.env.scope n:=by
 rw[C.sc];unfold a9Z at h;unfold Vis
 split at h
 · rename_i e;exact .inl e
 · rename_i e;exact .inr (.inl e)
 · rename_i e;exact .inr (.inr e)
 · cases h
theorem Z6{N:List Str}{n:Str}(h:N.idxOf? n=some i):N[i]? =some n:=by
 unfold List.idxOf? at h;rw[List.findIdx?_eq_some_iff_getElem] at h
 obtain⟨h1,h2,_⟩:=h;rw[af h1]
 exact congrArg some (eq_of_beq h2)
theorem b6q{n:Str}{f:Nat}(C:Cxt X Γ G ct c Ex N sc dfn)(hf:G.fn.lookup n=some (f,np))(hg:E7 sc n=true)(hp:(a::es).all t8=true)(ha:PA X (a::es) (TAv Γ Ex (evs ct c xs))):
 PE X (.Call (.Name n p) (a::es) [] pos) (TEv Γ Ex (ev ct c (.call f xs))):=by
 obtain⟨k,ad,fd,ps,h1,h2,h3,h4,h5,h6,h7⟩:=C.fn n f np hf;rw[all_cons,ae] at hp;refine PE.imp (b2d h6 h2 (C.gl hg) h3 h4 h5 .nil C.pass ha (L3 hg).2.1 (i8 hp.1) (K7 hp.2)) ?_
 rintro σ H Q ⟨env,ah,m,rl,q⟩;rw[ev] at q;refine⟨env,ah,m,rl,q.bind.mp fun ds ah1 m1 H1 p1 k1 s1 q1=>fun vs rs=>⟨ds,ah1,m1,?_,by rw[aV];exact rs,s1,q1⟩⟩
 by_cases hl:ds.length=np
 · exact hl
 · rw[h7 ds ah1 hl] at q1;exact q1.elim
theorem b9U{n:Str}{k:Nat}(C:Cxt X Γ G ct c Ex N sc dfn)(hf:G.obj.lookup n=some k)(hg:E7 sc n=true):PE X (.Call (.Name n p) [] [] pos) (TEv Γ Ex (ev ct c (.mk k .nil))):=by
 obtain⟨hk,r,ad,fd,ps,h1,h2,h3,h4,h5,h6⟩:=C.obj n k hf;refine PE.imp (a9t h3 h6 h2 (C.gl hg) h4 h5 .nil C.pass (L3 hg).2.1) ?_
 rintro σ H Q ⟨env,ah,m,rl,q⟩;rw[ev,evs,d9] at q;intro x dx hx hdx hne
 have kp:Keep m (m++[x]) H (upd (upd H dx (.own x)) x (.ins (Γ.cA k) dx [])):=(Keep.new hdx).trans (Keep.newc (by rw[g9 (Ne.symm hne)];exact hx))
 have s1:Sim Γ (ah++[.obj k []]) (m++[x]) (upd (upd H dx (.own x)) x (.ins (Γ.cA k) dx [])):=(rl.sim.new (o:=.own x) hdx).alloc (by rw[g9 (Ne.symm hne)];exact hx) ⟨dx,[],c9,.nil,hk⟩
 refine⟨[.ref ah.length],ah++[.obj k []],m++[x],rfl,⟨.ref x,[],rfl,⟨x,rfl,?_⟩,rfl⟩,s1,?_⟩
 · rw[←rl.sim.len,au (aj _)];simp
 · refine(q.bind.later (Pre.snoc m x) kp).val fun d ah1 m1 H1 v p1 k1 s1 r1 q1=>?_
   cases d<;>first|exact q1.elim|skip
   cases r1;refine⟨rfl,q1.ok s1 ⟨x,rfl,p1.get ?_⟩⟩
   rw[←rl.sim.len,au (aj _)];simp
theorem b8L (C:Cxt X Γ G ct c Ex N sc dfn) (hb:a2a a=true) (hf:G.atts.contains f=true) (ha:PE X a (TEv Γ Ex (ev ct c x))):PE X (.Attribute a f pos) (TEv Γ Ex (ev ct c (.fld x f))):=by
 have p1:=b4D (pos:=pos) ha (a0D (f:=f) hb);intro pins s σ H Q I ⟨env,ah,m,rl,q⟩;rw[ev] at q
 -- what the base is
 by_cases hh:∃n ah1 k fs,ev ct c x env ah=.ok (.ref n) ah1/\ah1[n]? =some (.exc k fs)
 · obtain ⟨n,ah1,k,fs,e1,e2⟩:=hh;rw[e1,d9,T8,e2] at q
   simp only at q
   split at q
   · rename_i hfl
     split at q
     · rename_i d e3
       have hk:k∈Γ.xs∨¬k∈Γ.xs:=Classical.em _
       rcases hk with hk|hk
       · obtain⟨N',ND,fI,xc,hm,_⟩:=C.xatt k hk
         have hft:f∈xns.drop 1/\typeLookup (.type "ValueError") f=pure none:=by
          rcases hfl with rfl|rfl
          · exact⟨by decide+kernel,by rw[typeLookup_type,builtinLookup_eq_fast];kernel_rfl⟩
          · exact⟨by decide+kernel,by rw[typeLookup_type,builtinLookup_eq_fast];kernel_rfl⟩
         refine b2b (pos:=pos) xc hft.1 hft.2 ha (a0D hb) pins s σ H Q I ⟨env,ah,m,rl,?_⟩
         rw[e1];intro m1 H1 v p1 k1 s1 r1;obtain⟨ad,rfl,hm1⟩:=r1;obtain⟨dx,gs,g1,g2,g3,_⟩:=s1.at hm1 e2;obtain⟨w,hw,rw'⟩:=g3.look e3;exact⟨ad,dx,gs,w,rfl,g1,g2,hw,(i7.later q p1 k1).ok s1 rw'⟩
       · refine p1 pins s σ H Q I ⟨env,ah,m,rl,?_⟩
         rw[e1];intro m1 H1 v p1 k1 s1 r1;obtain⟨ad,rfl,hm1⟩:=r1;obtain⟨dx,gs,g1,g2,g3,g4⟩:=s1.at hm1 e2;exact absurd g4 hk
     · exact q.elim
   · exact q.elim
 · refine p1 pins s σ H Q I ⟨env,ah,m,rl,?_⟩
   cases hr:ev ct c x env ah with
   | ok d1 ah1=>
    rw[hr,d9] at q;intro m1 H1 v1 p1 k1 s1 r1;have q1:=i7.later q p1 k1;unfold T8 at q1
    split at q1
    · split at q1
      · rename_i k fs e2
        split at q1
        · rename_i d e3;obtain⟨ad,rfl,hm1⟩:=r1;obtain⟨dx,gs,g1,g2,g3⟩:=s1.at hm1 e2;obtain⟨w,hw,rw'⟩:=g2.look e3;obtain⟨a1,a2⟩:=C.att k g3;exact⟨ad,Γ.cA k,dx,gs,w,rfl,g1,a1,a2 f hf,hw,q1.ok s1 rw'⟩
        · exact q1.elim
      · rename_i k fs e2;exact absurd ⟨_,_,_,_,hr,e2⟩ hh
      · exact q1.elim
    · exact q1.elim
   |ex k fs ah1=>rw[hr] at q;exact q
   |no=>rw[hr] at q;exact q.elim
theorem b6y{n:String}{b:Bool}(S:Sim Γ ah m H)(r:Rp m H d v)(h:a0N ct ah (.b n) d=some b)(hx:¬∃i k fs,d=.ref i/\ah[i]? =some (.exc k fs)):
 ∃t,TyOf K H v t/\PySem.W.kitOne K t (.type n)=some b:=by
 unfold a0N at h
 cases d with
 |ref i=>
  simp only at h
  split at h
  · rename_i l e;obtain⟨a,vs,rfl,hm,h1,q1⟩:=S.lst e r
    split at h
    · rename_i hn;subst hn;cases h;exact⟨_,.lst h1,by unfold PySem.W.kitOne;rw[ay (by simp)]⟩
    · cases h
  · rename_i k fs e;exact absurd ⟨i,k,fs,rfl,e⟩ hx
  · cases h
 |_=>cases h
theorem b6g {t:Ty} {T:V} (C:Cxt X Γ G ct c Ex N sc dfn) (hg:E7 sc "isinstance"=true) (hm:X.mg "isinstance"=none) (hp:t8 a=true) (hpb:t8 b=true) (ha:PE X a (TEv Γ Ex (ev ct c x))) (hb:PE X b (tC T))
 (h1:∀n,t=.b n->T=.ty n) (h2:∀j,t=.c j->T=.ref (Γ.cA j)/\∀k,k∈Γ.xs->PySem.W.kitOne X.K (.ref (Γ.cA k)) (.ref (Γ.cA j))=some (ct.sub k j)):
 PE X (.Call (.Name "isinstance" p) [a,b] [] pos) (TEv Γ Ex (ev ct c (.isi x t))):=by
 have PAab:PA X [a,b] (a8I (TEv Γ Ex (ev ct c x)) (a8I (tC T) b3V)):=L9 ha (L9 hb a1c (i8 hpb)) (i8 hp)
 have hst:(backTo pos (starEach [b] X.env)).any (·.1)=false:=K7 (by simp[hpb])
 intro pins s σ H Q I ⟨env,ah,m,rl,q⟩;rw[ev] at q
 by_cases hh:∃n ah1 k fs,ev ct c x env ah=.ok (.ref n) ah1/\ah1[n]? =some (.exc k fs)
 · obtain⟨n,ah1,k,fs,e1,e2⟩:=hh;rw[e1,d9] at q
   by_cases hk:k∈Γ.xs
   · obtain⟨N',ND,fI,xc,hmr,hve⟩:=C.xatt k hk;refine T3 (b0S xc hmr) (C.gl hg) hm PyProof.Rows.boot_isinstance PAab (by decide) (by decide) (i8 hp) hst pins s σ H Q I ⟨env,ah,m,rl,?_⟩
     rw[e1];intro m1 H1 v p1 k1 s1 r1;obtain⟨ad,rfl,hm1⟩:=r1;obtain⟨dx,gs,g1,g2,g3,_⟩:=s1.at hm1 e2;have q1:=i7.later q p1 k1;unfold a0N at q1;simp only[e2] at q1
     cases t with
     |b nn=>
      simp only at q1
      split at q1
      · rename_i b' hb'
        split at hb'
        · rename_i hn;cases hb';subst hn;exact⟨ad,dx,gs,T,true,rfl,g1,g2,.inr (.inl ⟨_,h1 _ rfl,hve⟩),q1.ok s1 rfl⟩
        · cases hb'
      · exact q1.elim
     |c j=>
      simp only at q1
      obtain⟨t1,t2⟩:=h2 j rfl;exact⟨ad,dx,gs,T,_,rfl,g1,g2,.inl ⟨_,t1,t2 k hk⟩,q1.ok s1 rfl⟩
   · refine T3 a5D (C.gl hg) hm PyProof.Rows.boot_isinstance PAab (by decide) (by decide) (i8 hp) hst pins s σ H Q I ⟨env,ah,m,rl,?_⟩
     rw[e1];intro m1 H1 v p1 k1 s1 r1;obtain⟨ad,rfl,hm1⟩:=r1;obtain⟨dx,gs,g1,g2,g3,g4⟩:=s1.at hm1 e2;exact absurd g4 hk
 · refine T3 a5D (C.gl hg) hm PyProof.Rows.boot_isinstance PAab (by decide) (by decide) (i8 hp) hst pins s σ H Q I ⟨env,ah,m,rl,?_⟩
   cases hr:ev ct c x env ah with
   | ok d1 ah1=>
    rw[hr,d9] at q;intro m1 H1 v1 p1 k1 s1 r1;have q1:=i7.later q p1 k1
    split at q1
    · rename_i b' hb'
      cases t with
      |b nn=>
       obtain⟨t,ht1,ht2⟩:=b6y (K:=X.K) s1 r1 hb' (fun⟨i,k,fs,z1,z2⟩=>hh ⟨i,ah1,k,fs,by rw[hr,z1],z2⟩)
       exact⟨v1,nn,t,b',by rw[h1 nn rfl],ht1,ht2,q1.ok s1 rfl⟩
      | c j=>
       exfalso
       unfold a0N at hb'
       cases d1 with
       |ref i=>
        simp only at hb'
        split at hb'
        · cases hb'
        · rename_i k fs e;exact hh ⟨i,ah1,k,fs,hr,e⟩
        · cases hb'
       |_=>cases hb'
    · exact q1.elim
   |ex k fs ah1=>rw[hr] at q;exact q
   |no=>rw[hr] at q;exact q.elim
theorem a7i(h1:∀H,SqT X.K H ad vs)(h2:∀m H,Rps m H ds vs):∀σ H Q,TEv Γ Ex (ev ct c (.gin neg x ds)) σ H Q->tOp (rIn X.K neg) (TEv Γ Ex (ev ct c x)) (tC (.ref ad)) σ H Q:=by
 rintro σ H Q ⟨env,ah,m,rl,q⟩;rw[ev] at q;refine⟨env,ah,m,rl,i7.first rl q fun d1 ah1 m1 H1 v1 p1 k1 rl1 r1 q1=>?_⟩
 split at q1
 · rename_i hf;refine⟨ad,vs,rfl,.inr (h1 H1),O5 r1 hf.1,F6 (h2 m1 H1) hf.2,?_⟩
   rw[X3 r1 hf.1 (h2 m1 H1) hf.2] at q1
   cases neg with
   |false=>rw[a2F] at q1;exact q1.ok rl1.sim rfl
   |true=>rw[a2E] at q1;exact q1.ok rl1.sim rfl
 · exact q1.elim
theorem b3G{n:Str}(C:Cxt X Γ G ct c Ex N sc dfn)(ho:(op=.In/\neg=false)∨(op=.NotIn/\neg=true))(hg:E7 sc n=true)(ht:G.tups.lookup n=some ds)(ha:PE X a (TEv Γ Ex (ev ct c x))):
 PE X (.Compare a [op] [.Name n p] pos) (TEv Γ Ex (ev ct c (.gin neg x ds)))/\PT X (.Compare a [op] [.Name n p] pos) (TTv Γ Ex (tst ct c (.val (.gin neg x ds)))):=by
 obtain⟨ad,vs,h1,h2,h3⟩:=C.tups n ds ht
 have hb:PE X (.Name n p) (tC (.ref ad)):=a0J (C.gl hg) h1 rfl (L3 hg).2.1
 have ho':OpR X (compareOp op) (rIn X.K neg):=by
  rcases ho with⟨rfl,rfl⟩|⟨rfl,rfl⟩
  · exact Z2
  · exact M0
 refine⟨PE.imp (a3Q ho' ha hb rfl) (a7i h2 h3),PT.imp (a3P ho' ha hb rfl) fun σ H Q q=>a1E (a7i (neg:=neg) h2 h3) σ H Q ?_⟩
 simpa only[TTv,tst] using q
def rMd(a:Addr)(gs:List (Key×V))(neg:Bool):R2:=fun x y H Q=>∃k,x=kV k/\y=.ref a/\Q (.bl ((T0 gs k).isSome !=neg)) H
theorem b4L(d:a8u X.prog X.w X.K ad gs):OpR X (compareOp .In) (rMd ad gs false):=by
 intro pins s σ H x y v u Q I rx ry h;obtain⟨k,rfl,rfl,q⟩:=h;cases ry;obtain⟨hd,vs,rel,dd⟩:=d;refine wpAny_in_of (a0i rx) hd (dd _ I.kIn).mapOf ?_
 rw[←(rel.val k).isSome_eq];rw[a2F] at q;exact⟨.bl _,H,I.tok _,rfl,q⟩
theorem a7R(d:a8u X.prog X.w X.K ad gs):OpR X (compareOp .NotIn) (rMd ad gs true):=by
 intro pins s σ H x y v u Q I rx ry h;obtain⟨k,rfl,rfl,q⟩:=h;cases ry;obtain⟨hd,vs,rel,dd⟩:=d;refine wpAny_notIn_of (a0i rx) hd (dd _ I.kIn).mapOf ?_
 rw[←(rel.val k).isSome_eq];rw[a2E] at q;exact⟨.bl _,H,I.tok _,rfl,q⟩
def rMx(a:Addr)(gs:List (Key×V)):R2:=fun x y H Q=>∃k v,x=.ref a/\y=kV k/\T0 gs k=some v/\Q v H
theorem b9x(d:a8u X.prog X.w X.K ad gs):IxR X (rMx ad gs):=by
 rintro value slice pins s σ H x y v u Q I rx ry ⟨k,z,rfl,rfl,hz,q⟩ hs;cases rx;obtain⟨hd,vs,rel,dd⟩:=d;have dd:=dd _ I.kIn;obtain⟨w',hw,rw'⟩:=U3.some_of (v:=z) (o:=valueAt vs k) (by rw[←hz];exact rel.val k)
 exact b8a.ixd_tail dd.typeIs hs (wpAny_getItem_of (a0i ry) dd.mapOf hw ⟨z,H,I.tok _,rw',q⟩)
theorem a5l(h2:∀m H,DK m H kvs gs):∀σ H Q,TEv Γ Ex (ev ct c (.gdin neg x kvs)) σ H Q->tOp (rMd ad gs neg) (TEv Γ Ex (ev ct c x)) (tC (.ref ad)) σ H Q:=by
 rintro σ H Q ⟨env,ah,m,rl,q⟩;rw[ev] at q;refine⟨env,ah,m,rl,i7.first rl q fun d1 ah1 m1 H1 v1 p1 k1 rl1 r1 q1=>?_⟩
 split at q1
 · rename_i hf;obtain⟨k,hk⟩:=Option.isSome_iff_exists.mp hf;refine⟨k,Z5 hk r1,rfl,?_⟩
   rw[(h2 m1 H1).some_eq hk] at q1;exact q1.ok rl1.sim rfl
 · exact q1.elim
theorem b1d{n:Str}(C:Cxt X Γ G ct c Ex N sc dfn)(ho:(op=.In/\neg=false)∨(op=.NotIn/\neg=true))(hg:E7 sc n=true)(ht:G.dicts.lookup n=some kvs)(ha:PE X a (TEv Γ Ex (ev ct c x))):
 PE X (.Compare a [op] [.Name n p] pos) (TEv Γ Ex (ev ct c (.gdin neg x kvs)))/\PT X (.Compare a [op] [.Name n p] pos) (TTv Γ Ex (tst ct c (.val (.gdin neg x kvs)))):=by
 obtain⟨ad,gs,h1,h2,h3⟩:=C.dicts n kvs ht
 have hb:PE X (.Name n p) (tC (.ref ad)):=a0J (C.gl hg) h1 rfl (L3 hg).2.1
 have ho':OpR X (compareOp op) (rMd ad gs neg):=by
  rcases ho with⟨rfl,rfl⟩|⟨rfl,rfl⟩
  · exact b4L h2
  · exact a7R h2
 refine⟨PE.imp (a3Q ho' ha hb rfl) (a5l h3),PT.imp (a3P ho' ha hb rfl) fun σ H Q q=>a1E (a5l (neg:=neg) (ad:=ad) h3) σ H Q ?_⟩
 simpa only[TTv,tst] using q
theorem b6i{n:Str}(C:Cxt X Γ G ct c Ex N sc dfn)(hg:E7 sc n=true)(ht:G.dicts.lookup n=some kvs)(hb:PE X b (TEv Γ Ex (ev ct c y)))(hs:a1P b):
 PE X (.Subscript (.Name n p) b pos) (TEv Γ Ex (ev ct c (.gdix y kvs))):=by
 obtain⟨ad,gs,h1,h2,h3⟩:=C.dicts n kvs ht
 have ha:PE X (.Name n p) (tC (.ref ad)):=a0J (C.gl hg) h1 rfl (L3 hg).2.1
 refine PE.imp (b3v (b9x h2) ha hb hs) ?_
 rintro σ H Q ⟨env,ah,m,rl,q⟩;rw[ev] at q;refine⟨env,ah,m,rl,i7.first rl q fun d1 ah1 m1 H1 v1 p1 k1 rl1 r1 q1=>?_⟩
 split at q1
 · rename_i hf;obtain⟨k,hk⟩:=Option.isSome_iff_exists.mp hf
   split at q1
   · rename_i d hd;obtain⟨v,hv,rv⟩:=((h3 m1 H1).val hk).1 d hd;exact⟨k,v,rfl,Z5 hk r1,hv,q1.ok rl1.sim rv⟩
   · exact q1.elim
 · exact q1.elim
theorem b9W{n:Str}{b:Bi}(C:Cxt X Γ G ct c Ex N sc dfn)(hb:b5V n=some b)(hg:E7 sc n=true)(hm:X.mg n=none)(hp:(a::es).all t8=true)(ha:PA X (a::es) (TAv Γ Ex (evs ct c xs))):
 PE X (.Call (.Name n p) (a::es) [] pos) (TEv Γ Ex (ev ct c (.bi b xs))):=by
 obtain⟨_,hd,hn⟩:=L3 hg;rw[all_cons,ae] at hp;have s1:=i8 (es:=es) (env:=X.env) hp.1;have s2:=K7 (pos:=pos) (env:=X.env) hp.2
 have go:∀{b:Bi} {t:TE},PE X (.Call (.Name n p) (a::es) [] pos) (tCB (rBi Γ Ex b) (TAv Γ Ex (evs ct c xs)))->PE X (.Call (.Name n p) (a::es) [] pos) (TEv Γ Ex (ev ct c (.bi b xs))):=fun h=>PE.imp h (b8P ha)
 unfold b5V at hb
 repeat' split at hb
 all_goals (first|(cases hb;done)|(cases hb;rename_i e;subst e))
 · exact go (t:=tCB (rBi Γ Ex .len) (TAv Γ Ex (evs ct c xs))) (T3 (b8k C.K) (C.gl hg) hm PySem.boot_len ha hn hd s1 s2)
 · exact go (t:=tCB (rBi Γ Ex .len) (TAv Γ Ex (evs ct c xs))) (T2 b8j (C.gl hg) hm PyProof.Rows.boot_str ha hn hd s1 s2)
 · exact go (t:=tCB (rBi Γ Ex .len) (TAv Γ Ex (evs ct c xs))) (T2 b8l (C.gl hg) hm PyProof.Rows.boot_int ha hn hd s1 s2)
 · exact go (t:=tCB (rBi Γ Ex .len) (TAv Γ Ex (evs ct c xs))) (T2 (b3i C.K) (C.gl hg) hm PyProof.Rows.boot_tuple ha hn hd s1 s2)
 · exact go (t:=tCB (rBi Γ Ex .len) (TAv Γ Ex (evs ct c xs))) (T2 (b5R C.K) (C.gl hg) hm PyProof.Rows.boot_list ha hn hd s1 s2)
 · exact go (t:=tCB (rBi Γ Ex .len) (TAv Γ Ex (evs ct c xs))) (T3 (b8n C.calm C.K) (C.gl hg) hm PyProof.Rows.boot_all ha hn hd s1 s2)
 · exact go (t:=tCB (rBi Γ Ex .len) (TAv Γ Ex (evs ct c xs))) (T3 (b8m C.calm C.K) (C.gl hg) hm PyProof.Rows.boot_any ha hn hd s1 s2)
 · exact go (t:=tCB (rBi Γ Ex .len) (TAv Γ Ex (evs ct c xs))) (T2 (b5S C.calm C.K) (C.gl hg) hm PyProof.Rows.boot_dict ha hn hd s1 s2)
theorem a2m{b:Mt}{T:String}(hK:X.K=Γ.K)(hT:(T="list"/\(b=.append∨b=.insert))∨(T="str"/\(b=.split∨b=.join∨b=.starts))):∀σ H Q,TEv Γ Ex (ev ct c (.mt b x xs)) σ H Q->tBM X.K T (rMt Γ Ex b) (TEv Γ Ex (ev ct c x)) (TAv Γ Ex (evs ct c xs)) σ H Q:=by
 rintro σ H Q ⟨env,ah,m,rl,q⟩;rw[ev] at q;refine⟨env,ah,m,rl,i7.first rl q fun d1 ah1 m1 H1 v1 p1 k1 rl1 r1 q1=>?_⟩
 split at q1
 · rename_i ht;refine⟨?_,env,ah1,m1,rl1,q1.bind.mp fun ds ah2 m2 H2 p2 k2 s2 q2=>fun vs rs=>⟨d1,ds,ah2,m2,s2,r1.mono p2 k2,rs,q2⟩⟩
   unfold mtT at ht
   split at ht
   · cases r1
     rcases hT with⟨rfl,rfl|rfl⟩|⟨rfl,_⟩
     · cases ht
     · cases ht
     · rfl
   · rename_i n
     rcases hT with⟨rfl,hb⟩|⟨rfl,rfl|rfl|rfl⟩
     · have hs:(rdL ah1 n).isSome=true:=by rcases hb with rfl|rfl<;>exact ht
       obtain⟨l,hl⟩:=Option.isSome_iff_exists.mp hs;obtain⟨ad,vs,rfl,_,h1,_⟩:=rl1.sim.rdL hl r1;exact .inl ⟨rfl,vs,by rw[hK];exact h1⟩
     · cases ht
     · cases ht
     · cases ht
   · cases ht
 · exact q1.elim
theorem b9T{n:Str}{b:Mt}(C:Cxt X Γ G ct c Ex N sc dfn)(hb:b4R n=some b)(hpb:a2a e=true)(hline:(apos.endLine==pos.line)=true)(hlen:(a::es).length<20)(hp:(a::es).all t8=true)(ho:PE X e (TEv Γ Ex (ev ct c x)))(ha:PA X (a::es) (TAv Γ Ex (evs ct c xs))):
 PE X (.Call (.Attribute e n apos) (a::es) [] pos) (TEv Γ Ex (ev ct c (.mt b x xs))):=by
 have hp':=hp
 rw[all_cons,ae] at hp;have s1:=i8 (es:=es) (env:=X.env) hp.1;have s2:=K7 (pos:=pos) (env:=X.env) hp.2;have hbase:=a0D (f:=n) (env:=X.env) (w:=eval e X.env) hpb
 have hfew:((backTo pos (starEach (a::es) X.env)).all (fun x=>!x.1)&&(backToKw pos (keywordEach [] X.env)).all (fun x=>x.1.isSome)
  &&decide ((a::es).length+([]:List Keyword).length+(if([]:List Keyword).isEmpty then 0 else 1)<30))=true:=by
  rw[ae,ae];refine⟨⟨a2X hp',rfl⟩,aX ?_⟩
  show(a::es).length+0+0<30
  omega
 unfold b4R at hb
 repeat' split at hb
 all_goals (first|(cases hb;done)|(cases hb;rename_i e0;subst e0))
 · exact PE.imp (a5a PySem.F.plainAttrs_list PySem.F.slot_list_append PySem.F.type_list_append (a9M (Γ:=Γ) (E:=Ex)) ho ha hbase hfew hline s1 s2) (a2m C.K (.inl ⟨rfl,.inl rfl⟩))
 · exact PE.imp (a5a PySem.F.plainAttrs_str PySem.F.slot_str_split PySem.F.type_str_split (b2t (Γ:=Γ) (E:=Ex)) ho ha hbase hfew hline s1 s2) (a2m C.K (.inr ⟨rfl,.inl rfl⟩))
 · exact PE.imp (a5a PySem.F.plainAttrs_str PySem.F.slot_str_join PySem.F.type_str_join (b4T (Γ:=Γ) (E:=Ex) C.K) ho ha hbase hfew hline s1 s2) (a2m C.K (.inr ⟨rfl,.inr (.inl rfl)⟩))
 · exact PE.imp (a5a PySem.F.plainAttrs_str PySem.F.slot_str_startswith PySem.F.type_str_startswith (a9K (Γ:=Γ) (E:=Ex)) ho ha hbase hfew hline s1 s2) (a2m C.K (.inr ⟨rfl,.inr (.inr rfl)⟩))
 · exact PE.imp (a5a PySem.F.plainAttrs_list PySem.F.slot_list_insert PySem.F.type_list_insert (a9L (Γ:=Γ) (E:=Ex)) ho ha hbase hfew hline s1 s2) (a2m C.K (.inl ⟨rfl,.inr rfl⟩))
end
end EV
namespace L2
open PySem PySem.Spec PyProof.Rows
theorem a2n:∀(gs acc:List (Key×V)),((acc++gs).map (·.1)).Nodup->U8 acc gs=acc++gs
 |[],acc,_=>by rw[aV];rfl
 | g::gs,acc,h=>by
  have h2:((acc++[g]++gs).map (·.1)).Nodup:=by rw[aA];exact h
  have hn:(acc.any fun kv=>decide (kv.1=g.1))=false:=by
   rw[List.any_eq_false];intro p hp
   have e:p.1≠g.1:=by
    rw[ao,nodup_append] at h;exact h.2.2 p.1 (am.mpr ⟨p,hp,rfl⟩) g.1 (by simp)
   simp[e]
  show U8 (L1 acc g.1 g.2) gs=_
  rw[show L1 acc g.1 g.2=acc++[g] by unfold L1;rw[hn];rfl,a2n gs _ h2,aA]
  rfl
variable{H:Hp}
theorem a7z{p:Addr}{a b:HO}:upd (upd H p a) p b=upd H p b:=by
 funext x
 by_cases h:x=p
 · subst h;rw[c9,c9]
 · rw[g9 h,g9 h,g9 h]
end L2
namespace EV
open PySem PySem.Spec L2
open PyProof.Rows hiding St
noncomputable def kDg:Key->D
 |.inl i=>.int i
 |.inr x=>.str x
theorem a3g:∀{l:List D},a3V l=true->l.Nodup
 |[],_=>.nil
 |d::r,h=>by
  rw[a3V,ae] at h;refine aR.mpr ⟨fun m=>?_,a3g h.2⟩
  have:=h.1
  rw[any_eq_true.mpr ⟨d,m,aX rfl⟩] at this;cases this
variable{kvs:List (D×D)}
section
variable{X:Cx}{Γ:Gm}{G:GT}{ct:CT}{c:CF}{Ex:XK}{N:List Str}{sc:Scope}{dfn:Bool}{e a b:Expr}{pos p:Pos}{x y z:E}
theorem b3f{e:Expr}{x:Str}(h:b5M e=some x):∃k q,e=.Constant (.str x) k q:=by
 unfold b5M at h
 split at h
 · split at h
   · cases h;exact⟨_,_,rfl⟩
   · cases h
 · cases h
theorem b3g{e:Expr}{i:Int}(h:b5N e=some i):∃k q,e=.Constant (.int i) k q:=by
 unfold b5N at h
 split at h
 · split at h
   · cases h;exact⟨_,_,rfl⟩
   · cases h
 · cases h
theorem b3B:∀{ks:List (Option Expr)} {vs:List Expr} {kvs:List (D×D)},a8n ks vs=some kvs->∃trs gs,PPs X pos ks vs trs/\ks.all (·.isSome)=true/\ks.length=vs.length/\ks.length=kvs.length/\gs.length=kvs.length/\kvs.map (·.1)=(gs.map (·.1)).map kDg∧
 (∀σ H Q,Q (gs.map fun kv=>(kV kv.1,kv.2)) H->a3E trs σ H Q)/\∀m H,DK m H kvs gs
 |[],vs,kvs,h=>by
  unfold a8n at h
  split at h
  · rename_i e
    cases isEmpty_iff.mp e
    cases h;exact⟨[],[],b1T,rfl,rfl,rfl,rfl,rfl,fun _ _ _ q=>q,fun _ _=>.nil⟩
  · cases h
 |k::ks,vs,kvs,h=>by
  unfold a8n at h
  split at h
  · cases h
  · rename_i v r
    split at h
    · rename_i s i l h1 h2 h3;cases h;obtain⟨e,rfl,h1⟩:=Option.bind_eq_some_iff.mp h1;obtain⟨_,_,rfl⟩:=b3f h1;obtain⟨_,_,rfl⟩:=b3g h2;obtain⟨trs,gs,g1,g2,g3,g4,g5,g6,g7,g8⟩:=b3B h3;exact⟨(tC (.str s),tC (.int i))::trs,(.inr s,.int i)::gs,a9p a5Y a9u g1,g2,congrArg (· +1) g3,congrArg (· +1) g4,congrArg (· +1) g5,by rw[map_cons,g6];rfl,fun σ H Q q=>g7 σ H _ q,fun m H=>.cons ⟨rfl,rfl⟩ (g8 m H)⟩
    · cases h
theorem b6l{ks:List (Option Expr)}{vs:List Expr}(h0:ks≠[])(h:a8n ks vs=some kvs)(hk:b5K kvs=true):PE X (.Dict ks vs pos) (TEv Γ Ex (ev ct c (.dlit kvs))):=by
 unfold b5K at hk;rw[ae] at hk;have h15:=aw hk.1;obtain⟨trs,gs,g1,g2,g3,g4,g5,g6,g7,g8⟩:=b3B (X:=X) (pos:=pos) h
 have nd:(gs.map (·.1)).Nodup:=by
  have:=a3g hk.2
  rw[g6] at this;exact List.Pairwise.of_map _ (fun a b h e=>h (by rw[e])) this
 refine PE.imp (b2c g1 g2 g3 h0 (by omega)) ?_
 rintro σ H Q ⟨env,ah,m,rl,q⟩;rw[ev] at q;intro p hp;refine g7 σ _ _ ⟨c9,gs,rfl,by omega,?_⟩
 rw[a7z,a2n gs [] nd];exact q.newc rl.sim hp (.inl ⟨gs,c9,g8 _ _⟩)
end
theorem Rps.rev{m:List Addr}{H:Hp}:∀{l:List D} {vs:List V},Rps m H l vs->Rps m H l.reverse vs.reverse
 |[],_,h=>by cases h;rfl
 |d::l,_,⟨v,vs,e,h1,h2⟩=>by
  subst e;rw[reverse_cons,reverse_cons];exact(Rps.rev h2).snoc h1
variable{Γ:Gm}{ct:CT}{c:CF}{N:List Str}{dfn:Bool}{pos:Pos}{p2:Pos}
theorem b8C{X:Cx}{G:GT}{Ex:XK}{sc:Scope}{a:Expr}{p pos2:Pos}{x:E}(C:Cxt X Γ G ct c Ex N sc dfn)(hg:E7 sc "list"=true)(hm:X.mg "list"=none)(hg2:E7 sc "reversed"=true)(hm2:X.mg "reversed"=none)(hp:t8 a=true)(ha:PE X a (TEv Γ Ex (ev ct c x))):
 PE X (.Call (.Name "list" p) [.Call (.Name "reversed" p2) [a] [] pos2] [] pos) (TEv Γ Ex (ev ct c (.rev x))):=by
 refine PE.imp (b4y (C.gl hg) hm (C.gl hg2) hm2 C.calm ha (i8 hp)) ?_
 rintro σ H Q ⟨env,ah,m,rl,q⟩;rw[ev] at q;refine⟨env,ah,m,rl,i7.first rl q fun d1 ah1 m1 H1 v1 p1 k1 rl1 r1 q1=>?_⟩
 unfold a9c at q1
 split at q1
 · split at q1
   · rename_i e;obtain⟨ad,vs,rfl,_,h1,rs⟩:=rl1.sim.lst e r1;exact⟨ad,vs,rfl,h1,fun p hp=>q1.newc rl1.sim hp ⟨_,c9,rs.rev.mono (Pre.snoc m1 p) (Keep.newc hp)⟩⟩
   · exact q1.elim
 · exact q1.elim
open PySem PySem.Spec L2 L2X
noncomputable def TGv(Γ:Gm)(p:Pat):TG:=fun v σ H Q=>∃env d m env',EnvRel m H env σ/\Rp m H d v/\J3 p d env=some env'/\∀σ',EnvRel m H env' σ'->σ'.length=σ.length->(∀(j:Nat),j∉G5 p->σ'[j]? =σ[j]?)->Q σ' H
noncomputable def b9Z(Γ:Gm)(p:Pats):TGs:=fun vs σ H Q=>∃env ds m env',EnvRel m H env σ/\Rps m H ds vs/\L7 p ds env=some env'/\∀σ',EnvRel m H env' σ'->σ'.length=σ.length->(∀(j:Nat),j∉Z1 p->σ'[j]? =σ[j]?)->Q σ' H
noncomputable def a1J:Pats->Nat
 |.nil=>0
 |.cons _ r=>a1J r+1
theorem a0C:∀(ps:Pats) {ds:List D} {env env':u7},L7 ps ds env=some env'->ds.length=a1J ps
 |.nil,ds,env,env',h=>by
  cases ds with
  |nil=>rfl
  |cons d r=>simp only[L7] at h;cases h
 | .cons p r,ds,env,env',h=>by
  cases ds with
  |nil=>simp only[L7] at h;cases h
  |cons d t=>
   simp only[L7] at h
   split at h
   · rw[length_cons,a0C r h];rfl
   · cases h
variable{es:List Expr}{i:Nat}{n:Nat}{cc:Cell}{ah:AH}{K:PySem.W.Frag}{a:Addr}{l:List D}{m:List Addr}{H:Hp}{m0:List Addr}{H0:Hp}{vs:List V}{z:Str}{elts:List Expr}{kk:Nat}{tp:Pos}
section
variable{X:Cx}{G:GT}{Ex:XK}{sc:Scope}
theorem PG.imp{e:Expr}{t t':TG}(h:PG X e t)(i:∀v σ H Q,t' v σ H Q->t v σ H Q):PG X e t':=fun pins s σ H v u Q I r q=>h pins s σ H v u Q I r (i _ _ _ _ q)
theorem PGs.imp{t t':TGs}(h:PGs X es t)(i:∀v σ H Q,t' v σ H Q->t v σ H Q):PGs X es t':=fun pins s σ H v u Q I r q=>h pins s σ H v u Q I r (i _ _ _ _ q)
theorem a2G{env:Env}:∀{es:List Expr},(assignEach es env).length=es.length
 |[]=>rfl
 |e::r=>by
  have:=a2G (env:=env) (es:=r)
  cases e<;>simp only[assignEach,length_cons]<;>rw[this]
theorem Cxt.loc(C:Cxt X Γ G ct c Ex N sc dfn){n:Str}(h:b0a dfn sc n=true):Loc X.env.scope n/\(X.fn n=true∨X.env.scope.names.lookup n=some .local):=by
 rw[C.sc];unfold b0a at h;unfold L2.Loc
 split at h
 · rename_i e;exact⟨.inl e,.inr e⟩
 · rename_i e;exact⟨.inr e,.inl (C.fnb h n)⟩
 · cases h
theorem a1W(C:Cxt X Γ G ct c Ex N sc dfn){n:Str}(h:a1X dfn N sc n=some i):X.N[i]? =some n/\Loc X.env.scope n/\(X.fn n=true∨X.env.scope.names.lookup n=some .local):=by
 unfold a1X at h
 split at h
 · rename_i hl;rw[C.hN];exact⟨Z6 h,C.loc hl⟩
 · cases h
theorem b3F (C:Cxt X Γ G ct c Ex N sc dfn):∀n,(∀e p,a8s dfn N sc n e=some p->PG X e (TGv Γ p)/\t8 e=true)/\∀es ps,a2D dfn N sc n es=some ps->PGs X es (b9Z Γ ps)/\a1J ps=es.length/\(assignEach es X.env).findIdx? (·.1)=none:=by
 intro n
 induction n with
 |zero=>exact⟨fun e p h=>(by simp only[a8s] at h;cases h),fun es ps h=>(by simp only[a2D] at h;cases h)⟩
 | succ n ih=>
  obtain⟨ih1,ih2⟩:=ih;refine⟨fun e p h=>?_,fun es ps h=>?_⟩
  · cases e<;>simp only[a8s] at h<;>first|(cases h;done)|skip
    · rename_i nm pos
      cases hs:a1X dfn N sc nm with
      |none=>rw[hs] at h;cases h
      |some i=>
       rw[hs] at h;cases h
       obtain⟨h1,h2,h3⟩:=a1W C hs;refine⟨PG.imp (b2a (by rw[C.hN];exact C.nd) h1 h2 h3) ?_,rfl⟩
       rintro v σ H Q ⟨env,d,m,env',er,r,hb,q⟩;simp only[J3] at hb;cases hb;exact q _ (er.set r) (by simp) fun j hj=>List.getElem?_set_ne (fun e=>hj (by simp[G5,e]))
    · rename_i es k pos
      cases hs:a2D dfn N sc n es with
      |none=>rw[hs] at h;cases h
      |some ps=>
       rw[hs] at h;cases h
       obtain⟨h1,h2,h3⟩:=ih2 es ps hs;refine⟨PG.imp (b4v C.calm h1 a2G h3) ?_,rfl⟩
       rintro v σ H Q ⟨env,d,m,env',er,r,hb,q⟩;simp only[J3] at hb
       cases d<;>first|(cases hb;done)|skip
       rename_i ds;obtain⟨a,vs,rfl,ha,rs⟩:=r;refine⟨a,vs,rfl,.inl (.inl ha),by rw[rs.len,a0C ps hb,h2],env,ds,m,env',er,rs,hb,fun σ' r' l' s'=>q σ' r' l' s'⟩
  · cases es with
    | nil=>
     simp only[a2D] at h;cases h;refine⟨PGs.imp b1Z ?_,rfl,rfl⟩
     rintro vs σ H Q ⟨env,ds,m,env',er,rs,hb,q⟩;have hl:=a0C .nil hb
     have:vs=[]:=length_eq_zero_iff.mp (rs.len.trans hl)
     subst this
     cases ds with
     |nil=>
      simp only[L7] at hb;cases hb;exact⟨rfl,q σ er rfl fun _ _=>rfl⟩
     |cons d r=>cases hl
    |cons e r=>
     simp only[a2D] at h
     split at h
     · rename_i p ps' h1 h2;cases h;obtain⟨g1,g2⟩:=ih1 e p h1;obtain⟨g3,g4,g5⟩:=ih2 r ps' h2
       have hst:(assignEach (e::r) X.env)=(false,assign e X.env)::assignEach r X.env:=by cases e<;>first|rfl|cases g2
       refine⟨PGs.imp (a9r g1 g3 (by rw[hst];rfl)) ?_,by simp only[a1J,length_cons,g4],by rw[hst,List.findIdx?_cons,g5];rfl⟩
       rintro vs σ H Q ⟨env,ds,m,env',er,rs,hb,q⟩
       cases ds with
       |nil=>simp only[L7] at hb;cases hb
       |cons d t=>
        simp only[L7] at hb
        split at hb
        · rename_i env1 hb1;obtain⟨v,vt,rfl,rd,rt⟩:=rs;refine⟨v,vt,rfl,env,d,m,env1,er,rd,hb1,fun σ1 er1 l1 s1=>⟨env1,t,m,env',er1,rt,hb,fun σ' er' l' s'=>q σ' er' (l'.trans l1) fun j hj=>?_⟩⟩
          simp only[Z1,aJ,not_or] at hj;rw[s' j hj.2,s1 j hj.1]
        · cases hb
     · cases h
def a6x(Γ:Gm)(J:It)(its:List D)(g:List (Nat×Cell))(m0:List Addr)(H0:Hp):Prop:=∀(i:Nat) (ah:AH) (m:List Addr) (H:Hp),Pre m0 m->Keep m0 m H0 H->Sim Γ ah m H->gOk g ah=true→
 (i=its.length->J.stop i H)/\∀d,its[i]? =some d->J.go i H/\∀v H',J.yld i H v H'->Keep m m H H'/\Sim Γ ah m H'/\Rp m H' d v
def TIv(Γ:Gm)(E:XK)(f:u7->AH->R Its):TI:=fun σ H R=>∃env ah m,Rel Γ env ah σ H m/\j9 Γ E m H (f env ah) (fun x ah1 m1 H1=>Sim Γ ah1 m1 H1->∀J,a6x Γ J x.1 x.2 m1 H1->R J H1)
theorem b5p(h:gOk [(n,cc)] ah=true):ah[n]? =some cc:=by
 unfold gOk at h;rw[all_cons,ae] at h;exact aw h.1
theorem N2(hK:K=Γ.K)(h:cc=.lst l∨cc=.rol l)(S:Sim Γ ah m H)(hm:m[n]? =some a)(e:ah[n]? =some cc):∃vs,SqL K H a vs/\Rps m H l vs:=by
 have:rdL ah n=some l:=by
  unfold rdL
  rcases h with rfl|rfl<;>rw[e]
 obtain⟨a',vs,e1,e2,e3,e4⟩:=S.rdL this ⟨a,rfl,hm⟩;rw[hm] at e2;cases e2;exact⟨vs,by rw[hK];exact e3,e4⟩
theorem a6Z(hK:K=Γ.K)(h:cc=.lst l∨cc=.rol l)(hm:m0[n]? =some a):a6x Γ (Itl K a) l [(n,cc)] m0 H0:=by
 intro i ah m H p k0 S g;obtain⟨vs,h1,h2⟩:=N2 hK h S (p.get hm) (b5p g);refine⟨fun hi=>⟨vs,h1,by rw[h2.len,hi];exact aj _⟩,fun d hd=>?_⟩
 obtain⟨v,hv,rv⟩:=h2.get hd;refine⟨⟨vs,v,h1,hv⟩,?_⟩
 rintro w H' ⟨rfl,hw⟩
 have:=hw vs h1
 rw[hv] at this;cases this;exact⟨Keep.refl _ _,S,rv⟩
theorem a3q:∀{l:List D} {n i:Nat} {d:D},(u6 n l)[i]? =some d->∃x,l[i]? =some x/\d=.tup [.int ((n+i:Nat):Int),x]
 |[],_,_,_,h=>by simp[u6] at h
 |x::r,n,0,d,h=>by
  simp only[u6,List.getElem?_cons_zero] at h
  cases h;exact⟨x,rfl,rfl⟩
 |x::r,n,i+1,d,h=>by
  simp only[u6,List.getElem?_cons_succ] at h
  obtain⟨y,h1,h2⟩:=a3q h;exact⟨y,by simpa using h1,by rw[h2];congr 3;omega⟩
theorem a3p:∀{l:List D} {n:Nat},(u6 n l).length=l.length
 |[],_=>rfl
 |x::r,n=>by simp only[u6,length_cons,a3p]
theorem a7a(hK:K=Γ.K)(h:cc=.lst l∨cc=.rol l)(hm:m0[n]? =some a):a6x Γ (Ite K a) (u6 0 l) [(n,cc)] m0 H0:=by
 intro i ah m H p k0 S g;obtain⟨vs,h1,h2⟩:=N2 hK h S (p.get hm) (b5p g);refine⟨fun hi=>⟨vs,h1,by rw[h2.len,hi,a3p];exact aj _⟩,fun d hd=>?_⟩
 obtain⟨x,hx,rfl⟩:=a3q hd;obtain⟨v,hv,rv⟩:=h2.get hx;refine⟨⟨vs,v,h1,hv⟩,?_⟩
 rintro w H' ⟨T,y,hT,rfl,hw,rfl⟩
 have:=hw vs h1
 rw[hv] at this;cases this;refine⟨Keep.new hT,S.new hT,T,[.int i,v],rfl,c9,.int i,[v],rfl,?_,v,[],rfl,rv.mono (Pre.refl m) (Keep.new hT),rfl⟩
 show V.int (i:Int)=V.int ((0+i:Nat):Int)
 rw[aB]
theorem b5g(ha:H0 a=some (.tup vs))(r:Rps m0 H0 l vs):a6x Γ (Itt K a) l [] m0 H0:=by
 intro i ah m H p k0 S g;have h1:=k0.tup ha;have h2:=r.mono p k0;refine⟨fun hi=>⟨vs,.inl (.inl h1),by rw[h2.len,hi];exact aj _⟩,fun d hd=>?_⟩
 obtain⟨v,hv,rv⟩:=h2.get hd;refine⟨⟨vs,v,.inl (.inl h1),hv⟩,?_⟩
 rintro w H' ⟨rfl,hw⟩
 have:=hw vs (.inl (.inl h1))
 rw[hv] at this;cases this;exact⟨Keep.refl _ _,S,rv⟩
theorem b5h:a6x Γ (L2.Its z) (V6 z) [] m0 H0:=by
 intro i ah m H p k0 S g;refine⟨fun hi=>?_,fun d hd=>?_⟩
 · show i=z.cps.size
   rw[hi];simp[V6]
 · unfold V6 at hd;rw[ak] at hd
   cases hc:z.cps.toList[i]? with
   |none=>rw[hc] at hd;cases hd
   | some cc=>
    rw[hc] at hd;cases hd
    have hi:i<z.cps.size:=by
     have:=(ac.mp hc).1
     simpa using this
    refine⟨hi,?_⟩
    rintro v H' ⟨rfl,c',h1,rfl⟩;rw[Array.getElem?_toList] at hc
    rw[hc] at h1;cases h1;exact⟨Keep.refl _ _,S,rfl⟩
theorem b5i{lo:Int}:a6x Γ (Itr lo n) (a8V lo n) [] m0 H0:=by
 intro i ah m H p k0 S g;refine⟨fun hi=>?_,fun d hd=>?_⟩
 · show n<=i
   rw[hi];simp[a8V]
 · unfold a8V at hd;rw[ak] at hd
   cases hc:(List.range n)[i]? with
   |none=>rw[hc] at hd;cases hd
   |some j=>
    rw[hc] at hd;cases hd;obtain⟨h1,h2⟩:=ac.mp hc
    rw[List.getElem_range] at h2;rw[aH] at h1;subst h2;refine⟨h1,?_⟩
    rintro v H' ⟨rfl,rfl⟩;exact⟨Keep.refl _ _,S,rfl⟩
variable{tg a b:Expr}{x y:E}{p:Pos}
theorem b8B(C:Cxt X Γ G ct c Ex N sc dfn)(ha:PE X a (TEv Γ Ex (ev ct c x))):PI X tg a (TIv Γ Ex (evi ct c (.seq x))):=by
 intro pins s σ H R I ⟨env,ah,m,rl,q⟩;rw[evi] at q
 cases hr:ev ct c x env ah with
 | ok d ah1=>
  rw[hr,d9] at q;unfold V9 at q
  split at q
  · refine b4u ha pins s σ H R I ⟨env,ah,m,rl,?_⟩
    rw[hr];intro m1 H1 v p1 k1 s1 r1;cases r1;exact⟨_,rfl,(q m1 H1 p1 k1 s1) s1 _ b5h⟩
  · refine b4t ha pins s σ H R I ⟨env,ah,m,rl,?_⟩
    rw[hr];intro m1 H1 v p1 k1 s1 r1;obtain⟨ad,vs,rfl,h1,q1⟩:=r1;exact⟨ad,rfl,⟨vs,.inl (.inl h1)⟩,(q m1 H1 p1 k1 s1) s1 _ (b5g h1 q1)⟩
  · rename_i n;refine a6N ha pins s σ H R I ⟨env,ah,m,rl,?_⟩
    rw[hr];intro m1 H1 v p1 k1 s1 r1
    split at q
    · rename_i l e;obtain⟨ad,vs,rfl,hm,h1,q1⟩:=s1.lst e r1;exact⟨ad,rfl,⟨vs,.inl (.inl h1)⟩,(q m1 H1 p1 k1 s1) s1 _ (a6Z C.K (.inl rfl) hm)⟩
    · rename_i l e;obtain⟨ad,vs,rfl,hm,h1,q1⟩:=s1.rdL (l:=l) (by unfold rdL;rw[e]) r1
      exact⟨ad,rfl,⟨vs,by rw[C.K];exact h1⟩,(q m1 H1 p1 k1 s1) s1 _ (a6Z C.K (.inr rfl) hm)⟩
    · exact q.elim
  · exact q.elim
 |ex k fs ah1=>
  rw[hr] at q;refine a6N ha pins s σ H R I ⟨env,ah,m,rl,?_⟩
  rw[hr];exact q
 |no=>rw[hr] at q;exact q.elim
theorem b6e(C:Cxt X Γ G ct c Ex N sc dfn)(hg:E7 sc "range"=true)(hm:X.mg "range"=none)(hp:t8 a=true)(ha:PE X a (TEv Γ Ex (ev ct c x))):PI X tg (.Call (.Name "range" p) [a] [] pos) (TIv Γ Ex (evi ct c (.rng1 x))):=by
 intro pins s σ H R I ⟨env,ah,m,rl,q⟩;refine a7Q (C.gl hg) hm (L9 ha a1c (i8 hp)) (i8 hp) pins s σ H R I ⟨env,ah,m,rl,?_⟩
 rw[evi] at q;refine j9.first rl q fun d1 ah1 m1 H1 v1 p1 k1 rl1 r1 q1=>?_
 unfold a8U at q1
 split at q1
 · rename_i i j e1;cases e1;cases r1
   split at q1
   · rename_i hh;refine⟨j,rfl,(M9 hh.2).1,(M9 hh.2).2,?_⟩
     have:=q1.ok rl1.sim rl1.sim (Itr 0 (j-0).toNat) b5i
     rwa [Int.sub_zero] at this
   · exact q1.elim
 · exact q1.elim
theorem b9C{g:Nat×Cell}{g':List (Nat×Cell)}(h:gOk (g::g') ah=true):ah[g.1]? =some g.2/\gOk g' ah=true:=by
 unfold gOk at h⊢;rw[all_cons,ae] at h;exact⟨aw h.1,h.2⟩
theorem a5h{a:List D×Cell}(h:a5i ah n=some a):ah[n]? =some a.2/\(a.2=.lst a.1∨a.2=.rol a.1):=by
 unfold a5i at h
 split at h
 · rename_i l e;cases h;exact⟨e,.inl rfl⟩
 · rename_i l e;cases h;exact⟨e,.inr rfl⟩
 · cases h
theorem a4H:∀{l l':List D} {i:Nat} {d:D},(a0E l l')[i]? =some d->∃x y,l[i]? =some x/\l'[i]? =some y/\d=.tup [x,y]
 |[],l',i,d,h=>by simp[a0E] at h
 |x::xs,[],i,d,h=>by simp[a0E] at h
 |x::xs,y::ys,0,d,h=>by
  simp only[a0E,List.getElem?_cons_zero] at h
  cases h;exact⟨x,y,rfl,rfl,rfl⟩
 |x::xs,y::ys,i+1,d,h=>by
  simp only[a0E,List.getElem?_cons_succ] at h
  obtain⟨a,b,h1,h2,h3⟩:=a4H h;exact⟨a,b,by simpa using h1,by simpa using h2,h3⟩
theorem a4G:∀{l l':List D},l.length<=(a0E l l').length∨l'.length<=(a0E l l').length
 |[],l'=>.inl (Nat.zero_le _)
 |x::xs,[]=>.inr (Nat.zero_le _)
 |x::xs,y::ys=>by
  simp only[a0E,length_cons]
  rcases a4G (l:=xs) (l':=ys) with h|h
  · exact .inl (Nat.succ_le_succ h)
  · exact .inr (Nat.succ_le_succ h)
theorem b5f(hK:K=Γ.K){n':Nat}{a a':Addr}{l':List D}{cc':Cell}(h:cc=.lst l∨cc=.rol l)(h':cc'=.lst l'∨cc'=.rol l')(hm:m0[n]? =some a)(hm':m0[n']? =some a'):
 a6x Γ (Itz K a a') (a0E l l') [(n,cc),(n',cc')] m0 H0:=by
 intro i ah m H p k0 S g;obtain⟨g1,g2⟩:=b9C g;obtain⟨vs,h1,h2⟩:=N2 hK h S (p.get hm) g1;obtain⟨ws,h3,h4⟩:=N2 hK h' S (p.get hm') (b5p g2);refine⟨fun hi=>⟨vs,ws,h1,h3,?_⟩,fun d hd=>?_⟩
 · rw[h2.len,h4.len,hi];exact a4G
 · obtain⟨x,y,hx,hy,rfl⟩:=a4H hd;obtain⟨v,hv,rv⟩:=h2.get hx;obtain⟨u,hu,ru⟩:=h4.get hy;refine⟨⟨vs,ws,v,u,h1,h3,hv,hu⟩,?_⟩
   rintro w H' ⟨T,z,z',hT,rfl,hw,hw',rfl⟩;have e1:=hw vs h1;have e2:=hw' ws h3;rw[hv] at e1;rw[hu] at e2;cases e1;cases e2;exact⟨Keep.new hT,S.new hT,T,[v,u],rfl,c9,v,[u],rfl,rv.mono (Pre.refl m) (Keep.new hT),u,[],rfl,ru.mono (Pre.refl m) (Keep.new hT),rfl⟩
theorem b8y(C:Cxt X Γ G ct c Ex N sc dfn)(hg:E7 sc "zip"=true)(hm:X.mg "zip"=none)(hp:t8 a=true)(hpb:t8 b=true)(ha:PE X a (TEv Γ Ex (ev ct c x)))(hb:PE X b (TEv Γ Ex (ev ct c y))):PI X (.Tuple elts kk tp) (.Call (.Name "zip" p) [a,b] [] pos) (TIv Γ Ex (evi ct c (.zip x y))):=by
 intro pins s σ H R I ⟨env,ah,m,rl,q⟩;refine b4s (C.gl hg) hm (L9 ha (L9 hb a1c (i8 hpb)) (i8 hp)) (i8 hp) (K7 (by simp[hpb])) pins s σ H R I ⟨env,ah,m,rl,?_⟩
 rw[evi] at q;refine j9.first rl q fun d1 ah1 m1 H1 v1 p1 k1 rl1 r1 q1=>?_
 refine⟨env,ah1,m1,rl1,j9.first rl1 q1 fun d2 ah2 m2 H2 v2 p2 k2 rl2 r2 q2=>?_⟩
 unfold b1i at q2
 split at q2
 · split at q2
   · rename_i e1 e2;obtain⟨c1,w1⟩:=a5h e1;obtain⟨c2,w2⟩:=a5h e2;obtain⟨ad,rfl,hm1⟩:=r1.mono p2 k2;obtain⟨ad',rfl,hm2⟩:=r2;obtain⟨vs,h1,_⟩:=N2 C.K w1 rl2.sim hm1 c1;obtain⟨ws,h2,_⟩:=N2 C.K w2 rl2.sim hm2 c2;exact⟨ad,ad',vs,ws,rfl,h1,h2,q2.ok rl2.sim rl2.sim _ (b5f C.K w1 w2 hm1 hm2)⟩
   · exact q2.elim
 · exact q2.elim
theorem b6j(C:Cxt X Γ G ct c Ex N sc dfn)(hg:E7 sc "enumerate"=true)(hm:X.mg "enumerate"=none)(hp:t8 a=true)(ha:PE X a (TEv Γ Ex (ev ct c x))):PI X (.Tuple elts kk tp) (.Call (.Name "enumerate" p) [a] [] pos) (TIv Γ Ex (evi ct c (.enum x))):=by
 intro pins s σ H R I ⟨env,ah,m,rl,q⟩;refine b1Y (C.gl hg) hm (L9 ha a1c (i8 hp)) (i8 hp) pins s σ H R I ⟨env,ah,m,rl,?_⟩
 rw[evi] at q;refine j9.first rl q fun d1 ah1 m1 H1 v1 p1 k1 rl1 r1 q1=>?_
 unfold U1 at q1
 split at q1
 · split at q1
   · rename_i l e;obtain⟨ad,vs,rfl,hm,h1,_⟩:=rl1.sim.lst e r1;exact⟨ad,vs,rfl,.inl (.inl h1),q1.ok rl1.sim rl1.sim _ (a7a C.K (.inl rfl) hm)⟩
   · rename_i l e;obtain⟨ad,vs,rfl,hm,h1,_⟩:=rl1.sim.rdL (l:=l) (by unfold rdL;rw[e]) r1
     exact⟨ad,vs,rfl,by rw[C.K];exact h1,q1.ok rl1.sim rl1.sim _ (a7a C.K (.inr rfl) hm)⟩
   · exact q1.elim
 · exact q1.elim
end
variable{env:u7}{σ:St}{own:List Str}{p:Pat}{α:Type}{Q:VK}{it:I}{e:E}{elt:Expr}{iter:Expr}{tg:Expr}{ifs:List Expr}{scope:Scope}{frees:List Str}{op:CmpOp}{o:B}{β:Type}
section
variable{X:Cx}{G:GT}{Ex:XK}{sc:Scope}
theorem a5s(h:EnvRel m H env σ)(own:List Str)(js:List Nat):EnvRel m H (C2 own.length js env) (C1 own js σ):=by
 refine⟨by simp[C2,C1],fun i d e=>?_⟩
 unfold C2 at e;unfold C1
 by_cases hi:i<own.length
 · rw[av (by simpa using hi),bu,ay hi] at e
   cases e
 · have hi':own.length<=i:=aQ hi
   rw[au (by simpa using hi'),bf,ak] at e
   rw[au (by simpa using hi'),aa,ak]
   cases hj:js[i-own.length]? with
   |none=>rw[hj] at e;cases e
   | some j=>
    rw[hj] at e
    have e':(env[j]?).join=some d:=ax e
    have e2:env[j]? =some (some d):=by
     cases q:env[j]? with
     |none=>rw[q] at e';cases e'
     |some z=>rw[q] at e';exact congrArg some e'
    obtain⟨v,h1,h2⟩:=h.val j d e2;exact⟨v,by rw[Option.map_some,h1];rfl,h2⟩
theorem b1k{js:List Nat}{σ4:St}(hp:(G5 p).all (fun i=>decide (i<own.length))=true)(hl:σ4.length=(C1 own js σ).length)(hs:∀(j:Nat),j∉G5 p->σ4[j]? =(C1 own js σ)[j]?):Wk (C1 own js σ) σ4:=by
 refine⟨hl.symm,fun i v h=>?_⟩
 rw[hs i]
 · exact h
 · intro hm
   have:=aw (bg.mp hp i hm)
   unfold C1 at h;rw[av (by simpa using this),ak] at h
   cases q:own[i]? with
   |none=>rw[q] at h;cases h
   |some z=>rw[q] at h;cases h
theorem a6R{r:R α}{f:α->AH->R D}(h:i7 Γ Ex m H ((noex r).bind f) Q):∃a ah,r=.ok a ah/\i7 Γ Ex m H (f a ah) Q:=by
 cases r with
 |ok a ah=>exact⟨a,ah,rfl,h⟩
 |ex k fs ah=>exact h.elim
 |no=>exact h.elim
theorem a5y {js:List Nat} {t:T} (hp:(G5 p).all (fun i=>decide (i<own.length))=true):∀σ H Q,TEv Γ Ex (ev ct c (.comp p it own.length js t e)) σ H Q->a6A own js (TIv Γ Ex (evi ct c it)) (TGv Γ p) (TTv Γ E0 (tst ct c t)) (TEv Γ E0 (ev ct c e)) σ H Q:=by
 rintro σ H Q ⟨env,ah,m,rl,q⟩;rw[ev] at q;refine⟨env,ah,m,rl,q.bind.mp fun x ah1 m1 H1 p1 k1 s1 q1=>fun _ J hJ D hD=>?_⟩
 have er1:=rl.env.mono p1 k1
 refine⟨fun i mm ys H2=>mm=x.1.length-i/\i<=x.1.length/\∃acc ah2 m2,Sim Γ ah2 m2 H2/\Pre m1 m2/\Keep m1 m2 H1 H2/\D∉m2/\H2 D=some (.lst ys)/\Rps m2 H2 acc ys∧
  i7 Γ Ex m1 H1 ((noex (P9 x.2 p (tst ct c t) (ev ct c e) (C2 own.length js env) (x.1.drop i) acc ah2)).bind fun ds h2=>z5 (.lst ds) h2) Q,?_,?_⟩
 · exact⟨_,rfl,Nat.zero_le _,[],ah1,m1,s1.new hD,Pre.refl _,Keep.new hD,s1.fresh hD,c9,rfl,q1⟩
 · rintro i mm ys H2 ⟨hmm,hil,acc,ah2,m2,s2,p2,k2,nD,hD2,rs2,q2⟩
   by_cases hend:i=x.1.length
   · refine .inl ?_
     rw[hend,drop_length] at q2;obtain⟨ds,ah3,e3,q3⟩:=a6R q2;unfold P9 at e3
     split at e3
     · rename_i hgk;cases e3;refine⟨(hJ i ah2 m2 H2 p2 k2 s2 hgk).1 hend,?_⟩
       have sm:Sim Γ (ah2++[.lst acc]) (m2++[D]) H2:=by
        refine⟨by simp[s2.len],a0q s2.nd nD,fun n a cc hn hcc=>?_⟩
        have kk:Keep m2 m2 H2 H2:=Keep.refl _ _
        by_cases hl:n<m2.length
        · rw[av hl] at hn
          rw[av (by rw[←s2.len];exact hl)] at hcc
          exact(s2.at hn hcc).mono' (Pre.snoc m2 D) (fun _ _ _ z=>z) rfl
        · have hn':n=m2.length:=by
           have:=(ac.mp hn).1
           simp at this;omega
          subst hn';rw[au (aj _)] at hn
          rw[s2.len,au (aj _)] at hcc
          simp at hn hcc;subst hn;subst hcc
          exact⟨ys,hD2,rs2.mono' (Pre.snoc m2 D) fun _ _ _ z=>z⟩
       refine q3 (m2++[D]) H2 (.ref D) (p2.trans (Pre.snoc m2 D)) ⟨k2.im,k2.out,fun a ha=>?_⟩ sm ⟨D,rfl,?_⟩
       · rcases aJ.mp ha with z|z
         · exact k2.fr a z
         · simp at z;subst z;exact .inr hD
       · rw[←s2.len,au (aj _)];simp
     · cases e3
   · refine .inr ?_
     have hlt:i<x.1.length:=Nat.lt_of_le_of_ne hil hend
     have hdi:x.1[i]? =some x.1[i]:=af hlt
     rw[List.drop_eq_getElem_cons hlt] at q2;generalize hdd:x.1[i]=dd at q2 hdi;obtain⟨ds,ah3,e3,q3⟩:=a6R q2;unfold P9 at e3
     split at e3
     · rename_i hgk;obtain⟨go,yl⟩:=(hJ i ah2 m2 H2 p2 k2 s2 hgk).2 dd hdi;refine⟨go,fun v H3 hy=>?_⟩
       obtain⟨k3,s3,r3⟩:=yl v H3 hy
       split at e3
       · cases e3
       · rename_i envb hb
         have er3:EnvRel m2 H3 (C2 own.length js env) (C1 own js σ):=a5s ((er1.mono p2 k2).mono (Pre.refl m2) k3) own js
         refine⟨_,dd,m2,envb,er3,r3,hb,fun σ4 er4 l4 s4=>⟨b1k hp l4 s4,envb,ah2,m2,⟨s3,er4⟩,?_⟩⟩
         have hD3:H3 D=some (.lst ys):=k3.out D _ nD hD2
         have ab:∀{m9:List Addr} {H9:Hp},Pre m2 m9->Keep m2 m9 H3 H9->D∉m9/\H9 D=some (.lst ys):=fun{m9 H9} p9 k9=>
          ⟨fun z=>(k9.fr D z).elim nD fun y=>(by rw[hD3] at y;cases y),k9.out D _ nD hD3⟩
         cases ht:tst ct c t envb ah2 with
         |no=>rw[ht] at e3;cases e3
         |ex kk fs ah4=>rw[ht] at e3;cases e3
         | ok bb ah4=>
          rw[ht,d9] at e3;intro m5 H5 p5 k5 s5;obtain⟨nD5,hD5⟩:=ab p5 k5;have k25:=k3.trans k5
          cases bb with
          |false=>
           rw[az (by decide)] at e3
           refine b5e ⟨x.1.length-(i+1),by omega,rfl,hlt,acc,ah4,m5,s5,p2.trans p5,k2.trans k25,nD5,hD5,rs2.mono p5 k25,?_⟩
           rw[e3];exact q3
          | true=>
           rw[ay rfl] at e3;refine b5d ⟨envb,ah4,m5,⟨s5,er4.mono p5 k5⟩,?_⟩
           cases hv:ev ct c e envb ah4 with
           |no=>rw[hv] at e3;cases e3
           |ex kk fs ah6=>rw[hv] at e3;cases e3
           | ok d6 ah6=>
            rw[hv,d9] at e3
            split at e3
            · rename_i hz;intro m6 H6 v6 p6 k6 s6 r6;have k36:=k5.trans k6;obtain⟨nD6,hD6⟩:=ab (p5.trans p6) k36;have rs6:=rs2.mono (p5.trans p6) (k25.trans k6)
              have im6:KIm H6 (upd H6 D (.lst (ys++[v6]))):=fun b o io hbo=>by
               have:b≠D:=fun z=>by rw[z,hD6] at hbo;cases hbo;exact io
               rw[g9 this];exact hbo
              refine⟨hD6,by rw[rs6.len,←N4];exact hz,x.1.length-(i+1),by omega,rfl,hlt,acc++[d6],ah6,m6,?_,p2.trans (p5.trans p6),?_,nD6,c9,(rs6.snoc r6).mono' (Pre.refl m6) im6,?_⟩
              · refine⟨s6.len,s6.nd,fun n a cc hn hcc=>(s6.at hn hcc).mono' (Pre.refl m6) im6 ?_⟩
                exact g9 fun z=>nD6 (by rw[←z];exact aF hn)
              · have kall:=k2.trans (k25.trans k6);refine⟨fun b o io hb=>im6 b o io (kall.im b o io hb),fun b o nb hb=>?_,kall.fr⟩
                rw[g9 (o0 hb hD)];exact kall.out b o nb hb
              · rw[e3];exact q3
            · cases e3
     · cases e3
theorem b6n{js:List Nat}{t:T}(C:Cxt X Γ G ct c Ex N sc dfn)(hi:PI X tg iter (TIv Γ Ex (evi ct c it)))(S:CompScope X.env.scope scope own frees)(hj:frees.map some=js.map (X.N[·]?))
 (hg:∀C s₀ H₀ ex,PG (p0 X own frees scope C s₀ H₀ ex) tg (TGv Γ p)) (hc:∀C s₀ H₀ ex,a5I (p0 X own frees scope C s₀ H₀ ex) ifs (TTv Γ E0 (tst ct c t))) (he:∀C s₀ H₀ ex,PE (p0 X own frees scope C s₀ H₀ ex) elt (TEv Γ E0 (ev ct c e)))
 (hs:∀x,foldedSetIterable iter X.env x=pure x) (hp:(G5 p).all (fun i=>decide (i<own.length))=true):PE X (.ListComp elt [⟨tg,iter,ifs,0⟩] scope pos) (TEv Γ Ex (ev ct c (.comp p it own.length js t e))):=by
 exact PE.imp (a4Z C.calm hi S hj hg hc he hs) (a5y hp)
theorem Cxt.comp(C:Cxt X Γ G ct c Ex N sc dfn)(S:CompScope sc scope own frees)(D:Addr)(s₀:Shared)(H₀:Hp)(ex:List Addr):Cxt (p0 X own frees scope D s₀ H₀ ex) Γ G ct c E0 (own++frees) (a6I sc scope) false where
 hN:=rfl
 nd:=S.nd
 sc:=by rw[←C.sc];rfl
 calm:=C.calm
 hu:=C.hu
 K:=C.K
 fnb:=fun h=>by cases h
 scal:=C.scal
 tups:=C.tups
 dicts:=C.dicts
 blt:=C.blt
 fn:=C.fn
 obj:=C.obj
 att:=C.att
 xatt:=C.xatt
 sub:=C.sub
 pass:=fun pins σ H s e s' I h=>by
  obtain⟨_,_,_,_,_,_,_,_,_,_,_,_,_,_,_,hE⟩:=h;exact hE.elim
theorem a7f:∀{l:List Str} {js:List Nat},b2C N l=some js->l.map some=js.map (N[·]?)
 |[],js,h=>by cases h;rfl
 |x::r,js,h=>by
  unfold b2C at h
  split at h
  · rename_i i is h1 h2;cases h;rw[map_cons,map_cons,Z6 h1,a7f h2]
  · cases h
theorem a0a(h:a6u op=some o):o.cmp=some op:=by cases op<;>cases h<;>rfl
theorem b3p{op:Operator}(h:b8o op=some o):o.bin=some op:=by cases op<;>cases h<;>rfl
theorem O3{b:Expr}(h:a0K b=true):behindInMarks op b=false:=by cases b<;>first|rfl|cases h
theorem a0r{e:Expr}{env:Env}(h:a0K e=true):∀x,foldedSetIterable e env x=pure x:=by intro x;cases e<;>first|rfl|cases h
theorem a2h{b:Expr}(h:a1M b=true):a1P b:=by intro o i;cases b<;>first|rfl|cases h
def a0W(Γ:Gm)(G:GT)(ct:CT)(c:CF)(n:Nat):Prop:=∀(X:Cx) (Ex:XK) (N:List Str) (sc:Scope) (dfn:Bool),Cxt X Γ G ct c Ex N sc dfn→
 (∀e x,cE G N sc n e=some x->PE X e (TEv Γ Ex (ev ct c x)))/\(∀es xs,cEs G N sc n es=some xs->PA X es (TAv Γ Ex (evs ct c xs))/\es.all t8=true)∧
 (∀e t,cT G N sc n e=some t->PT X e (TTv Γ Ex (tst ct c t))/\∀op l p,e=.BoolOp op l p->PW X e (TTv Γ Ex (tst ct c t)))/\(∀o x,cO G N sc n o=some x->PO X o (TOv Γ Ex (evo ct c x)))∧
 ∀tg e it,cI G N sc n tg e=some it->PI X tg e (TIv Γ Ex (evi ct c it))
theorem b1a:a0W Γ G ct c 0:=fun X Ex N sc dfn C=>
 ⟨fun e x h=>absurd (show none=some x from h) (by simp),fun e x h=>absurd (show none=some x from h) (by simp),fun e x h=>absurd (show none=some x from h) (by simp),fun e x h=>absurd (show none=some x from h) (by simp),fun tg e x h=>absurd (show none=some x from h) (by simp)⟩
theorem b0W(ih:a0W Γ G ct c n)(C:Cxt X Γ G ct c Ex N sc dfn):∀es xs,cEs G N sc (n+1) es=some xs->PA X es (TAv Γ Ex (evs ct c xs))/\es.all t8=true:=by
 intro es xs h;obtain⟨i1,i2,_⟩:=ih X Ex N sc dfn C
 replace h:sEs G (cR G n) N sc es=some xs:=h
 unfold sEs at h
 split at h
 · cases h;exact⟨b8G,rfl⟩
 · split at h
   · rename_i hp
     split at h
     · rename_i x xs' h1 h2;cases h;obtain⟨g1,g2⟩:=i2 _ xs' h2;exact⟨b6m (i1 _ x h1) g1 (i8 hp),by rw[all_cons,hp,g2];rfl⟩
     · cases h
   · cases h
theorem map_some{o:Option α}{f:α->β}{b:β}(h:o.map f=some b):∃a,o=some a/\f a=b:=Option.map_eq_some_iff.mp h
theorem b3k(ih:a0W Γ G ct c n)(C:Cxt X Γ G ct c Ex N sc dfn):∀o x,cO G N sc (n+1) o=some x->PO X o (TOv Γ Ex (evo ct c x)):=by
 intro o x h;obtain⟨i1,i2,_⟩:=ih X Ex N sc dfn C
 replace h:sO G (cR G n) N sc o=some x:=h
 unfold sO at h
 split at h
 · cases h;exact b9R
 · obtain⟨y,h1,rfl⟩:=map_some h;exact b9Q (i1 _ y h1)
theorem b3l(ih:a0W Γ G ct c n)(C:Cxt X Γ G ct c Ex N sc dfn):∀tg e it,cI G N sc (n+1) tg e=some it->PI X tg e (TIv Γ Ex (evi ct c it)):=by
 intro tg e it h;obtain⟨i1,i2,_⟩:=ih X Ex N sc dfn C
 have seq:∀{e:Expr} {it:I},(cE G N sc n e).map I.seq=some it->PI X tg e (TIv Γ Ex (evi ct c it)):=by
  intro e it h;obtain⟨x,h1,rfl⟩:=map_some h;exact b8B C (i1 _ _ h1)
 replace h:sI G (cR G n) N sc tg e=some it:=h
 unfold sI at h
 split at h
 · split at h
   · rename_i hc;rw[ae,ae] at hc;obtain⟨⟨hg,hb⟩,hx⟩:=hc;have hx:=aw hx;subst hx;have hm:=C.blt _ hb
     split at h
     · split at h
       · rename_i hp;obtain⟨x,h1,rfl⟩:=map_some h;exact b6e C hg hm hp (i1 _ _ h1)
       · cases h
     · cases h
   · split at h
     · rename_i hc;rw[ae,ae] at hc;obtain⟨⟨hg,hb⟩,hx⟩:=hc;have hx:=aw hx;subst hx;have hm:=C.blt _ hb
       split at h
       · split at h
         · rename_i hp;obtain⟨x,h1,rfl⟩:=map_some h;exact b6j C hg hm hp (i1 _ _ h1)
         · cases h
       · cases h
     · split at h
       · rename_i hc;rw[ae,ae] at hc;obtain⟨⟨hg,hb⟩,hx⟩:=hc;have hx:=aw hx;subst hx;have hm:=C.blt _ hb
         split at h
         · split at h
           · rename_i hp;rw[ae] at hp
             split at h
             · rename_i h1 h2;cases h;exact b8y C hg hm hp.1 hp.2 (i1 _ _ h1) (i1 _ _ h2)
             · cases h
           · cases h
         · cases h
       · exact seq h
 · exact seq h
theorem b7I{a b:Expr}{x:E}(ih:a0W Γ G ct c n)(C:Cxt X Γ G ct c Ex N sc dfn)(h1:cE G N sc n a=some x){k:E->α}{y:α}(h:(match b with
       | .Name y _=>if E7 sc y then(match op,G.tups.lookup y with
         |.In,some ds=>some (k (.gin false x ds))
         |.NotIn,some ds=>some (k (.gin true x ds))
         |.In,none=>(G.dicts.lookup y).map fun kvs=>k (.gdin false x kvs)
         |.NotIn,none=>(G.dicts.lookup y).map fun kvs=>k (.gdin true x kvs)
         |_,_=>none) else none
       |_=>none)=some y):∃g,y=k g/\PE X (.Compare a [op] [b] pos) (TEv Γ Ex (ev ct c g))/\PT X (.Compare a [op] [b] pos) (TTv Γ Ex (tst ct c (.val g))):=by
 obtain⟨i1,i2,_⟩:=ih X Ex N sc dfn C
 split at h
 · split at h
   · rename_i hg
     split at h
     · rename_i ds hd;cases h;exact⟨_,rfl,b3G C (.inl ⟨rfl,rfl⟩) hg hd (i1 _ _ h1)⟩
     · rename_i ds hd;cases h;exact⟨_,rfl,b3G C (.inr ⟨rfl,rfl⟩) hg hd (i1 _ _ h1)⟩
     · obtain⟨kvs,hd,rfl⟩:=map_some h;exact⟨_,rfl,b1d C (.inl ⟨rfl,rfl⟩) hg hd (i1 _ _ h1)⟩
     · obtain⟨kvs,hd,rfl⟩:=map_some h;exact⟨_,rfl,b1d C (.inr ⟨rfl,rfl⟩) hg hd (i1 _ _ h1)⟩
     · cases h
   · cases h
 · cases h
theorem a7b{b:Expr}(h:b5j b=true):∃p q,b=.Constant .none p q:=by
 cases b<;>first|(cases h;done)|skip
 rename_i k p q
 cases k<;>first|(cases h;done)|exact⟨_,_,rfl⟩
theorem a9B(h:a6b op=some true):op=.Is:=by cases op<;>first|rfl|(cases h;done)
theorem a9C(h:(a6b op).isSome=true)(h':a6b op=some true->False):op=.IsNot:=by cases op<;>first|rfl|(cases h;done)|exact(h' rfl).elim
theorem b1F{b:Expr}{lo hi:Option Expr}(h:b6Q b=some (lo,hi)):∃p,b=.Slice lo hi none p:=by
 cases b<;>first|(cases h;done)|skip
 rename_i a c st p
 cases st<;>first|(cases h;done)|(cases h;exact⟨_,rfl⟩)
theorem b3j (ih:a0W Γ G ct c n) (C:Cxt X Γ G ct c Ex N sc dfn):∀e t,cT G N sc (n+1) e=some t->PT X e (TTv Γ Ex (tst ct c t))/\∀op l p,e=.BoolOp op l p->PW X e (TTv Γ Ex (tst ct c t)):=by
 intro e t h;obtain⟨i1,i2,i3,_⟩:=ih X Ex N sc dfn C
 replace h:sT G (cR G n) N sc e=some t:=h
 have dflt:∀{e:Expr},sTd G (cR G n) N sc e=some t->PT X e (TTv Γ Ex (tst ct c t))/\∀op l p,e=.BoolOp op l p->PW X e (TTv Γ Ex (tst ct c t)):=by
  intro e h;unfold sTd at h
  split at h
  · rename_i hp;obtain⟨y,h1,rfl⟩:=map_some h;refine⟨b8z ?_ (i1 _ y h1),fun _ _ _ z=>?_⟩
    · intro whole
      cases e<;>first|rfl|(cases hp;done)
    · subst z;cases hp
  · cases h
 unfold sT at h
 split at h
 · split at h
   · obtain⟨y,h1,rfl⟩:=map_some h;exact⟨b8F (i3 _ y h1).1,fun _ _ _ z=>nomatch z⟩
   · exact dflt h
 · rename_i op l p
   split at h
   · exact dflt h
   · split at h
     · rename_i a _
       have g:PW X (.BoolOp op [a] p) (TTv Γ Ex (tst ct c t)):=by
        cases op
        · exact b1Q (i3 _ t h).1
        · exact b4h (i3 _ t h).1
       exact⟨g.pt,fun _ _ _ _=>g⟩
     · split at h
       · split at h
         · rename_i h1 h2;cases h;have g:=b8Q (i3 _ _ h1).1 ((i3 _ _ h2).2 _ _ _ rfl);exact⟨g.pt,fun _ _ _ _=>g⟩
         · cases h
       · split at h
         · rename_i h1 h2;cases h;have g:=b8E (i3 _ _ h1).1 ((i3 _ _ h2).2 _ _ _ rfl);exact⟨g.pt,fun _ _ _ _=>g⟩
         · cases h
 · split at h
   · cases h
   · split at h
     · cases h
     · split at h
       · split at h
         · unfold b6S at h
           split at h
           · rename_i hc;rw[ae] at hc;obtain⟨p,q,rfl⟩:=a7b hc.1
             split at h
             · rename_i ho
               cases a9B ho
               obtain⟨y,h1,rfl⟩:=map_some h;exact⟨b6h (i1 _ y h1),fun _ _ _ z=>nomatch z⟩
             · rename_i ho
               cases a9C hc.2 ho
               obtain⟨y,h1,rfl⟩:=map_some h;exact⟨b3s (i1 _ y h1),fun _ _ _ z=>nomatch z⟩
           · split at h
             · rename_i hs
               split at h
               · rename_i h0 h1 h2;cases h;exact⟨b6o C.hu C.K (a0a h0) (i1 _ _ h1) (i1 _ _ h2) (O3 hs),fun _ _ _ z=>nomatch z⟩
               · rename_i h0 h1 h2;obtain⟨gg,rfl,_,g⟩:=b7I (k:=T.val) ih C h1 h;exact⟨g,fun _ _ _ z=>nomatch z⟩
               · cases h
             · cases h
         · cases h
       · split at h
         · cases h
         · split at h
           · rename_i ht;rw[ae] at ht;obtain⟨t1,t2⟩:=ht
             cases isEmpty_iff.mp t1
             cases isEmpty_iff.mp t2
             unfold b6R at h
             split at h
             · rename_i hs
               split at h
               · rename_i h0 h0' h1 h2 h3;cases h;exact⟨b6p C.hu C.K (a0a h0) (a0a h0') (i1 _ _ h1) (i1 _ _ h2) (i1 _ _ h3) (O3 hs),fun _ _ _ z=>nomatch z⟩
               · cases h
             · cases h
           · cases h
 · exact dflt h
end
variable{x:Str}{as:List Expr}{y:Str}
section
variable{X:Cx}{G:GT}{Ex:XK}{sc:Scope}
theorem Z4{e:Expr}(h:a5d e=some x):∃p,e=.Name x p:=by
 unfold a5d at h
 split at h
 · cases h;exact⟨_,rfl⟩
 · cases h
theorem a6Q{l:List Expr}{a:Expr}(h:b2n l=some a):l=[a]:=by
 unfold b2n at h
 split at h
 · cases h
 · split at h
   · rename_i e
     cases isEmpty_iff.mp e
     cases h;rfl
   · cases h
theorem a9a{a:Expr}(h:a9b as=some a):∃p q,as=[.Call (.Name "reversed" p) [a] [] q]:=by
 unfold a9b at h
 split at h
 · rename_i h1
   cases a6Q h1
   split at h
   · split at h
     · rename_i hc;rw[ae] at hc
       cases isEmpty_iff.mp hc.1
       obtain⟨p,rfl⟩:=Z4 (aw hc.2)
       cases a6Q h
       exact⟨_,_,rfl⟩
     · cases h
   · cases h
 · cases h
theorem b6x {p:Pos} {t:Ty} (C:Cxt X Γ G ct c Ex N sc dfn) (h:cTy G sc y=some t):∃T,PE X (.Name y p) (tC T)/\(∀n,t=.b n->T=.ty n)/\∀j,t=.c j->T=.ref (Γ.cA j)/\∀k,k∈Γ.xs->PySem.W.kitOne X.K (.ref (Γ.cA k)) (.ref (Γ.cA j))=some (ct.sub k j):=by
 unfold cTy at h
 split at h
 · rename_i hg;obtain⟨_,hd,hn⟩:=L3 hg
   split at h
   · rename_i k hk;cases h;obtain⟨s1,s2⟩:=C.sub y k hk;exact⟨.ref (Γ.cA k),a0J (C.gl hg) s1 rfl hd,fun n z=>(by cases z),fun j z=>(by cases z;exact⟨rfl,s2⟩)⟩
   · split at h
     · rename_i hb;have hm:=C.blt _ hb
       have go:∀{n:String} {u:Value},bootBuiltins y=some (.type n)->t=.b n->∃T,PE X (.Name y p) (tC T)/\(∀n,t=.b n->T=.ty n)/\∀j,t=.c j->T=.ref (Γ.cA j)/\∀k,k∈Γ.xs->PySem.W.kitOne X.K (.ref (Γ.cA k)) (.ref (Γ.cA j))=some (ct.sub k j):=by
        intro n u hv ht;subst ht;exact⟨.ty n,b2e (C.gl hg) hm hv rfl hn hd,fun m z=>(by cases z;rfl),fun j z=>(by cases z)⟩
       repeat' split at h
       all_goals (first|(cases h;done)|(cases h;rename_i e;subst e))
       · exact go (u:=.none) PyProof.Rows.boot_list rfl
       · exact go (u:=.none) (by decide+kernel) rfl
     · cases h
 · cases h
theorem a1x{x:E}(ih:a0W Γ G ct c n)(C:Cxt X Γ G ct c Ex N sc dfn)(h:sLc G (cR G n) N sc elt tg iter ifs scope=some x):
 ∃p it js t y,x=.comp p it (r8 8 tg).length js t y/\PI X tg iter (TIv Γ Ex (evi ct c it))/\CompScope X.env.scope scope (r8 8 tg) (B7 scope)/\(B7 scope).map some=js.map (X.N[·]?)∧
  (∀D s₀ H₀ ex,PG (p0 X (r8 8 tg) (B7 scope) scope D s₀ H₀ ex) tg (TGv Γ p))/\(∀D s₀ H₀ ex,a5I (p0 X (r8 8 tg) (B7 scope) scope D s₀ H₀ ex) ifs (TTv Γ E0 (tst ct c t)))/\(∀D s₀ H₀ ex,PE (p0 X (r8 8 tg) (B7 scope) scope D s₀ H₀ ex) elt (TEv Γ E0 (ev ct c y)))∧
  (∀v,foldedSetIterable iter X.env v=pure v)/\(G5 p).all (fun i=>decide (i<(r8 8 tg).length))=true:=by
 obtain⟨i1,i2,i3,i4,i5⟩:=ih X Ex N sc dfn C;unfold sLc at h
 split at h
 · rename_i it hit
   split at h
   · rename_i js hjs
     split at h
     · rename_i hc;rw[ae] at hc
       have S0:CompScope sc scope (r8 8 tg) (B7 scope):=b8h hc.1
       have S:CompScope X.env.scope scope (r8 8 tg) (B7 scope):=by rw[C.sc];exact S0
       have hj:(B7 scope).map some=js.map (X.N[·]?):=by rw[C.hN];exact a7f hjs
       split at h
       · rename_i p y hp hy
         split at h
         · rename_i hall
           have pg:∀D s₀ H₀ ex,PG (p0 X (r8 8 tg) (B7 scope) scope D s₀ H₀ ex) tg (TGv Γ p):=fun D s₀ H₀ ex=>((b3F (C.comp S0 D s₀ H₀ ex) 8).1 tg p hp).1
           have pe:∀D s₀ H₀ ex,PE (p0 X (r8 8 tg) (B7 scope) scope D s₀ H₀ ex) elt (TEv Γ E0 (ev ct c y)):=fun D s₀ H₀ ex=>(ih _ _ _ _ _ (C.comp S0 D s₀ H₀ ex)).1 elt y hy
           split at h
           · cases h;refine⟨p,it,js,.yes,y,rfl,i5 _ _ _ hit,S,hj,pg,fun D s₀ H₀ ex=>?_,pe,a0r hc.2,hall⟩
             intro pins s σ H Q I q;refine b4r pins s σ H Q I ?_
             obtain⟨env,ah,m,rl,q⟩:=q;rw[tst] at q;exact q.ok rl.sim
           · obtain⟨z,h1,rfl⟩:=map_some h;exact⟨p,it,js,z,y,rfl,i5 _ _ _ hit,S,hj,pg,fun D s₀ H₀ ex=>b1W ((ih _ _ _ _ _ (C.comp S0 D s₀ H₀ ex)).2.2.1 _ z h1).1,pe,a0r hc.2,hall⟩
           · cases h
         · cases h
       · cases h
     · cases h
   · cases h
 · cases h
theorem b3m (ih:a0W Γ G ct c n) (C:Cxt X Γ G ct c Ex N sc dfn):∀e x,cE G N sc (n+1) e=some x->PE X e (TEv Γ Ex (ev ct c x)):=by
 intro e x h;obtain⟨i1,i2,i3,i4,i5⟩:=ih X Ex N sc dfn C
 replace h:sE G (cR G n) N sc e=some x:=h
 unfold sE at h
 split at h
 · unfold b6U at h
   split at h
   · cases h;exact a_k (dd:=.int _) a9u (fun _ _=>rfl) c ct
   · cases h;exact a_k (dd:=.str _) a5Y (fun _ _=>rfl) c ct
   · cases h;exact a_k (dd:=.bl _) b7h (fun _ _=>rfl) c ct
   · cases h;exact a_k (dd:=.non) b4B (fun _ _=>rfl) c ct
   · cases h
 · -- Name
   split at h
   · rename_i i hs;cases h;unfold slot at hs
     split at hs
     · rename_i hv;rw[ae,ae] at hv;exact a_v (by rw[C.hN];exact Z6 hs) (C.vis hv.1.1) (beq_eq_false_iff_ne.mpr (aw hv.1.2)) (beq_eq_false_iff_ne.mpr (aw hv.2)) c ct
     · cases hs
   · split at h
     · rename_i hg;obtain⟨d,h1,rfl⟩:=map_some h;obtain⟨u,v,s1,s2,s3⟩:=C.scal _ d h1;exact a_k (a0J (C.gl hg) s1 s2 (L3 hg).2.1) s3 c ct
     · cases h
 · split at h
   · rename_i h0 h1 h2;cases h;exact b8O (b3p h0) (i1 _ _ h1) (i1 _ _ h2)
   · cases h
 · unfold sUn at h
   split at h
   · obtain⟨y,h1,rfl⟩:=map_some h;exact b8H (i1 _ y h1)
   · obtain⟨y,h1,rfl⟩:=map_some h;exact b9S (i1 _ y h1)
   · cases h
 · unfold sBo at h
   split at h
   · cases h
   · split at h
     · exact b4z (i1 _ x h)
     · split at h
       · split at h
         · rename_i h1 h2;cases h;exact b9X (i1 _ _ h1) (i1 _ _ h2)
         · cases h
       · split at h
         · rename_i h1 h2;cases h;exact b8D (i1 _ _ h1) (i1 _ _ h2)
         · cases h
 · split at h
   · rename_i h0 h1 h2;cases h;exact b8K (i3 _ _ h0).1 (i1 _ _ h1) (i1 _ _ h2)
   · cases h
 · split at h
   · cases h
   · split at h
     · cases h
     · split at h
       · split at h
         · unfold b6W at h
           split at h
           · rename_i hc;rw[ae] at hc;obtain⟨p,q,rfl⟩:=a7b hc.1
             split at h
             · rename_i ho
               cases a9B ho
               obtain⟨y,h1,rfl⟩:=map_some h;exact b8J (i1 _ y h1)
             · rename_i ho
               cases a9C hc.2 ho
               obtain⟨y,h1,rfl⟩:=map_some h;exact b6f (i1 _ y h1)
           · split at h
             · rename_i hs
               split at h
               · rename_i h0 h1 h2;cases h;exact b8M C.hu C.K (a0a h0) (i1 _ _ h1) (i1 _ _ h2) (O3 hs)
               · rename_i h0 h1 h2;obtain⟨gg,rfl,g,_⟩:=b7I (k:=fun g=>g) ih C h1 h
                 exact g
               · cases h
             · cases h
         · cases h
       · split at h
         · cases h
         · split at h
           · rename_i ht;rw[ae] at ht;obtain⟨t1,t2⟩:=ht
             cases isEmpty_iff.mp t1
             cases isEmpty_iff.mp t2
             unfold b6V at h
             split at h
             · rename_i hs
               split at h
               · rename_i h0 h0' h1 h2 h3;cases h;exact b8N C.hu C.K (a0a h0) (a0a h0') (i1 _ _ h1) (i1 _ _ h2) (i1 _ _ h3) (O3 hs)
               · cases h
             · cases h
           · cases h
 · unfold sSl at h
   split at h
   · rename_i hs0;obtain⟨q,rfl⟩:=b1F hs0
     split at h
     · rename_i h1 h2 h3;cases h;exact b9P C.K (i1 _ _ h1) (i4 _ _ h2) (i4 _ _ h3)
     · cases h
   · split at h
     · rename_i hs
       split at h
       · rename_i h1 h2;cases h;exact b9V C.hu C.K (i1 _ _ h1) (i1 _ _ h2) (a2h hs)
       · rename_i h1 h2
         split at h
         · split at h
           · rename_i hg;obtain⟨kvs,hd,rfl⟩:=map_some h;exact b6i C hg hd (i1 _ _ h2) (a2h hs)
           · cases h
         · cases h
       · cases h
     · cases h
 · split at h
   · rename_i hb;rw[ae] at hb;obtain⟨y,h1,rfl⟩:=map_some h;exact b8L C hb.1 hb.2 (i1 _ y h1)
   · cases h
 · obtain⟨y,h1,rfl⟩:=map_some h;exact b8I (i2 _ y h1).1
 · obtain⟨y,h1,rfl⟩:=map_some h;exact b8A (i2 _ y h1).1
 · split at h
   · split at h
     · cases h;exact b6k
     · cases h
   · obtain⟨kvs,h1,h⟩:=Option.bind_eq_some_iff.mp h
     split at h
     · rename_i hk;cases h;exact b6l (cons_ne_nil _ _) h1 hk
     · cases h
 · rename_i f as ks cpos
   split at h
   · rename_i hk0
     cases isEmpty_iff.mp hk0
     split at h
     · rename_i nm np0;unfold sCn at h
       split at h
       · rename_i hg
         split at h
         · rename_i f np hf
           split at h
           · rename_i hl;obtain⟨y,h1,rfl⟩:=map_some h;obtain⟨g1,g2⟩:=i2 _ y h1;rw[ae] at hl;have hne:=aw hl.2
             cases as with
             |nil=>exact absurd rfl hne
             |cons a r=>exact b6q C hf hg g2 g1
           · cases h
         · split at h
           · rename_i k hk
             split at h
             · rename_i he;cases h;subst he;exact b9U C hk hg
             · cases h
           · split at h
             · rename_i hb;have hm:=C.blt _ hb
               split at h
               · rename_i hx;subst hx
                 split at h
                 · split at h
                   · rename_i hp
                     split at h
                     · rename_i h1 h2;cases h;obtain⟨T,t1,t2,t3⟩:=b6x C h2;exact b6g C hg hm hp rfl (i1 _ _ h1) t1 t2 t3
                     · cases h
                   · cases h
                 · cases h
               · split at h
                 · rename_i hq
                   split at hq
                   · rename_i hc;rw[ae,ae] at hc;obtain⟨⟨c1,c2⟩,c3⟩:=hc
                     cases aw c1
                     obtain⟨pp,qq,rfl⟩:=a9a hq
                     split at h
                     · rename_i hp;obtain⟨y,h1,rfl⟩:=map_some h;exact b8C C hg hm c2 (C.blt _ c3) hp (i1 _ y h1)
                     · cases h
                   · cases hq
                 · split at h
                   · rename_i b hbi
                     split at h
                     · rename_i hne;obtain⟨y,h1,rfl⟩:=map_some h;obtain⟨g1,g2⟩:=i2 _ y h1
                       cases as with
                       |nil=>exact absurd rfl hne
                       |cons a r=>exact b9W C hbi hg hm g2 g1
                     · cases h
                   · cases h
             · cases h
       · cases h
     · rename_i o mm apos;unfold sCa at h
       split at h
       · rename_i hc;rw[ae,ae,ae] at hc;obtain⟨⟨⟨c1,c2⟩,c3⟩,c4⟩:=hc;have c3:=aw c3;have c4:=aw c4
         split at h
         · rename_i h0 h1 h2;cases h;obtain⟨g1,g2⟩:=i2 _ _ h2
           cases as with
           |nil=>exact absurd rfl c4
           |cons a r=>exact b9T C h0 c1 c2 c3 g2 (i1 _ _ h1) g1
         · cases h
       · cases h
     · cases h
   · cases h
 · split at h
   · cases h
   · rename_i g t
     split at h
     · rename_i hg0;rw[ae] at hg0;obtain⟨tg,iter,ifs,a⟩:=g
       cases isEmpty_iff.mp hg0.1
       have ha:a=0:=aw hg0.2
       subst ha;obtain⟨p,it,js,t,y,rfl,j1,j2,j3,j4,j5,j6,j7,j8⟩:=a1x ih C h;exact b6n C j1 j2 j3 j4 j5 j6 j7 j8
     · cases h
 · cases h
theorem Y7:∀n,a0W Γ G ct c n
 |0=>b1a
 |n+1=>fun X Ex N sc dfn C=>⟨b3m (Y7 n) C,b0W (Y7 n) C,b3j (Y7 n) C,b3k (Y7 n) C,b3l (Y7 n) C⟩
end
def SQ(D:Ends):Out->AH->List Addr->Hp->Prop:=fun o _ m1 H1=>match o with
 |.nx env'=>∀σ',EnvRel m1 H1 env' σ'->D.nx σ' H1
 |.rt d=>∀v,Rp m1 H1 d v->D.rt v H1
noncomputable def TSv(Γ:Gm)(E:XK)(f:u7->AH->R Out):TS:=fun D σ H=>∃env ah m,Rel Γ env ah σ H m/\j9 Γ E m H (f env ah) (SQ D)
variable{st:Stmt}{f:Str}{j:Nat}{d:D}{v:V}{u:Str}{np:Nat}{apos:Pos}
section
variable{X:Cx}{G:GT}{Ex:XK}{sc:Scope}{e a b:Expr}{p':Pos}{x y z:E}
theorem a1F{e:Expr}{t:Option Expr}{l:Nat}{env:Env}(h:Q7 e=true):swapsWith e t l env=pure false:=by cases e<;>first|rfl|cases h
theorem b8s{n:Str}(C:Cxt X Γ G ct c Ex N sc true)(hs:a1X true N sc n=some i)(hw:Q7 e=true)(he:PE X e (TEv Γ Ex (ev ct c x))):PS X (.Assign [.Name n p'] e pos) (TSv Γ Ex (ex ct c (.set i x))):=by
 obtain⟨h1,h2,h3⟩:=a1W C hs;refine PS.imp (a5W (by rw[C.hN];exact C.nd) h1 h2 he (a1F hw) h3) ?_
 rintro D σ H ⟨env,ah,m,rl,q⟩;rw[ex] at q;refine⟨env,ah,m,rl,j9.first rl q fun d1 ah1 m1 H1 v1 p1 k1 rl1 r1 q1=>?_⟩
 exact q1.ok rl1.sim _ (rl1.env.set r1)
theorem b5X{n:Str}{k:Nat}{cpos:Pos}(C:Cxt X Γ G ct c Ex N sc true)(hs:a1X true N sc n=some i)(h:cE G N sc (k+1) (.ListComp elt [⟨tg,iter,ifs,0⟩] scope cpos)=some x):PS X (.Assign [.Name n p'] (.ListComp elt [⟨tg,iter,ifs,0⟩] scope cpos) pos) (TSv Γ Ex (ex ct c (.set i x))):=by
 obtain⟨h1,h2,h3⟩:=a1W C hs;obtain⟨p,it,js,t,y,rfl,j1,j2,j3,j4,j5,j6,j7,j8⟩:=a1x (Y7 k) C (show sLc G (cR G k) N sc elt tg iter ifs scope=some x from h);refine PS.imp (b1S C.calm j1 j2 j3 j4 j5 j6 j7 (by rw[C.hN];exact C.nd) h1 h2 h3) ?_
 rintro D σ H ⟨env,ah,m,rl,q⟩;rw[ex] at q;refine a5y j8 σ H _ ⟨env,ah,m,rl,j9.first rl q fun d1 ah1 m1 H1 v1 p1 k1 rl1 r1 q1=>?_⟩
 exact q1.ok rl1.sim _ (rl1.env.set r1)
theorem b9N(hw:Q7 e=true)(he:PE X e (TEv Γ Ex (ev ct c x))):PS X (.Expr e pos) (TSv Γ Ex (ex ct c (.ex x))):=by
 refine PS.imp (a6M he (a1F hw)) ?_
 rintro D σ H ⟨env,ah,m,rl,q⟩;rw[ex] at q;refine⟨env,ah,m,rl,j9.first rl q fun d1 ah1 m1 H1 v1 p1 k1 rl1 r1 q1=>?_⟩
 exact q1.ok rl1.sim _ rl1.env
theorem b8t(he:PE X e (TEv Γ Ex (ev ct c x))):PS X (.Return (some e) pos) (TSv Γ Ex (ex ct c (.ret x))):=by
 refine PS.imp (b4m he) ?_
 rintro D σ H ⟨env,ah,m,rl,q⟩;rw[ex] at q;refine⟨env,ah,m,rl,j9.first rl q fun d1 ah1 m1 H1 v1 p1 k1 rl1 r1 q1=>?_⟩
 exact q1.ok rl1.sim _ r1
theorem b3E:PS X st (TSv Γ Ex (ex ct c .bad)):=by
 rintro pins s σ H D I ⟨env,ah,m,rl,q⟩;rw[ex] at q;exact q.elim
variable{t:T}{as bs:List Stmt}{sa sb:Ss}
theorem b8u:PSs X [] (TSv Γ Ex (exs ct c .nil)):=by
 refine PSs.imp b1R ?_
 rintro D σ H ⟨env,ah,m,rl,q⟩;rw[exs] at q;exact q.ok rl.sim σ rl.env
theorem b6a{s:S}(h1:PS X st (TSv Γ Ex (ex ct c s)))(h2:PSs X as (TSv Γ Ex (exs ct c sa))):PSs X (st::as) (TSv Γ Ex (exs ct c (.cons s sa))):=by
 refine PSs.imp (a4Y h1 h2) ?_
 rintro D σ H ⟨env,ah,m,rl,q⟩;rw[exs] at q;refine⟨env,ah,m,rl,q.bind.mp fun o ah1 m1 H1 p1 k1 s1 q1=>?_⟩
 cases o with
 |nx env'=>exact fun σ' er=>⟨env',ah1,m1,⟨s1,er⟩,q1⟩
 |rt d=>exact q1.ok s1
theorem b9M{tt:Expr}(hc:PT X tt (TTv Γ Ex (tst ct c t)))(ha:PSs X as (TSv Γ Ex (exs ct c sa)))(hb:PSs X bs (TSv Γ Ex (exs ct c sb))):PS X (.If tt as bs pos) (TSv Γ Ex (ex ct c (.iff t sa sb))):=by
 refine PS.imp (b7d hc ha hb) ?_
 rintro D σ H ⟨env,ah,m,rl,q⟩;rw[ex] at q;refine⟨env,ah,m,rl,q.bind.mp fun k ah1 m1 H1 p1 k1 s1 q1=>?_⟩
 cases k with
 |true=>exact b5d ⟨env,ah1,m1,rl.on p1 k1 s1,q1⟩
 |false=>exact b5e ⟨env,ah1,m1,rl.on p1 k1 s1,q1⟩
theorem b8v{it:Expr}{ii:I}(C:Cxt X Γ G ct c Ex N sc true)(own:PassesOwn (model X.prog X.w) X.A X.env X.xe)(hi:PI X tg it (TIv Γ Ex (evi ct c ii)))(hg:PG X tg (TGv Γ p))(hb:PSs X bs (TSv Γ Ex (exs ct c sb)))(hs:a0K it=true):
 PS X (.For tg it bs [] pos) (TSv Γ Ex (ex ct c (.for p ii sb))):=by
 refine PS.imp (b4n own C.calm hi hg hb (a0r hs)) ?_
 rintro D σ H ⟨env,ah,m,rl,q⟩;rw[ex] at q;refine⟨env,ah,m,rl,q.bind.mp fun x ah1 m1 H1 p1 k1 s1 q1=>fun _ J hJ=>?_⟩
 refine⟨fun i mm σ H2=>mm=x.1.length-i/\i<=x.1.length/\∃env ah2 m2,Rel Γ env ah2 σ H2 m2/\Pre m1 m2/\Keep m1 m2 H1 H2/\j9 Γ Ex m2 H2 (T7 x.2 p (exs ct c sb) (x.1.drop i) env ah2) (SQ D),?_,?_⟩
 · exact⟨_,rfl,Nat.zero_le _,env,ah1,m1,rl.on p1 k1 s1,Pre.refl _,Keep.refl _ _,q1⟩
 · rintro i mm σ H2 ⟨hmm,hil,env,ah2,m2,rl2,p2,k2,q2⟩
   by_cases hend:i=x.1.length
   · refine .inl ?_
     rw[hend,drop_length] at q2;unfold T7 at q2
     split at q2
     · rename_i hgk;exact⟨(hJ i ah2 m2 H2 p2 k2 rl2.sim hgk).1 hend,q2.ok rl2.sim σ rl2.env⟩
     · exact q2.elim
   · refine .inr ?_
     have hlt:i<x.1.length:=Nat.lt_of_le_of_ne hil hend
     have hdi:x.1[i]? =some x.1[i]:=af hlt
     rw[List.drop_eq_getElem_cons hlt] at q2;generalize x.1[i]=dd at q2 hdi;unfold T7 at q2
     split at q2
     · rename_i hgk;obtain⟨go,yl⟩:=(hJ i ah2 m2 H2 p2 k2 rl2.sim hgk).2 dd hdi;refine⟨go,fun σ' H'=>∃m',m'<mm/\(m'=x.1.length-(i+1)/\i+1<=x.1.length/\∃env ah2 m2,Rel Γ env ah2 σ' H' m2/\Pre m1 m2/\Keep m1 m2 H1 H'/\j9 Γ Ex m2 H' (T7 x.2 p (exs ct c sb) (x.1.drop (i+1)) env ah2) (SQ D)),fun σ' H' h=>h,fun v H3 hy=>?_⟩
       obtain⟨k3,s3,r3⟩:=yl v H3 hy
       split at q2
       · exact q2.elim
       · rename_i envb hb;refine⟨env,dd,m2,envb,rl2.env.mono (Pre.refl m2) k3,r3,hb,fun σ4 er4 l4 s4=>⟨envb,ah2,m2,⟨s3,er4⟩,?_⟩⟩
         refine(q2.later (Pre.refl m2) k3).bind.mp fun o ah5 m5 H5 p5 k5 s5 q5=>?_
         cases o with
         |nx env'=>exact fun σ' er'=>⟨_,by omega,rfl,hlt,env',ah5,m5,⟨s5,er'⟩,p2.trans p5,k2.trans (k3.trans k5),q5⟩
         |rt d=>exact q5.ok s5
     · exact q2.elim
theorem b8q{o k:Expr}(C:Cxt X Γ G ct c Ex N sc true)(ho:PE X o (TEv Γ Ex (ev ct c x)))(hk:PE X k (TEv Γ Ex (ev ct c y)))(hv:PE X e (TEv Γ Ex (ev ct c z)))(hw:Q7 e=true)(hns:a1M k=true):PS X (.Assign [.Subscript o k p'] e pos) (TSv Γ Ex (ex ct c (.six x y z))):=by
 have hg:PG X (.Subscript o k p') (b7L (TEv Γ Ex (ev ct c x)) (TEv Γ Ex (ev ct c y)) _):=b4w ho hk (b9j (Γ:=Γ) (E:=Ex) C.hu) (by intro v;cases k<;>first|rfl|cases hns)
 refine PS.imp (b4p hv hg (show swapsWith e (some (.Subscript o k p')) pos.line X.env=pure false from a1F hw) (by cases e<;>rfl) rfl) ?_
 rintro D σ H ⟨env,ah,m,rl,q⟩;rw[ex] at q;refine⟨env,ah,m,rl,j9.first rl q fun d1 ah1 m1 H1 v1 p1 k1 rl1 r1 q1=>?_⟩
 refine⟨env,ah1,m1,rl1,j9.first rl1 q1 fun d2 ah2 m2 H2 v2 p2 k2 rl2 r2 q2=>?_⟩
 refine⟨env,ah2,m2,rl2,j9.first rl2 q2 fun d3 ah3 m3 H3 v3 p3 k3 rl3 r3 q3=>?_⟩
 refine⟨d2,d3,d1,ah3,m3,rl3.sim,r2.mono p3 k3,r3,r1.mono (p2.trans p3) (k2.trans k3),q3.bind.mp fun _ ah4 m4 H4 p4 k4 s4 q4=>?_⟩
 exact q4.ok s4 σ (rl3.env.mono p4 k4)
theorem b8r{o:Expr}(C:Cxt X Γ G ct c Ex N sc true)(ho:PE X o (TEv Γ Ex (ev ct c x)))(hv:PE X e (TEv Γ Ex (ev ct c z)))(hw:Q7 e=true)(hf:G.atts.contains f=true):PS X (.Assign [.Attribute o f p'] e pos) (TSv Γ Ex (ex ct c (.sfl x f z))):=by
 refine PS.imp (b4o ho hv (a1F hw)) ?_
 rintro D σ H ⟨env,ah,m,rl,q⟩;rw[ex] at q;refine⟨env,ah,m,rl,j9.first rl q fun d1 ah1 m1 H1 v1 p1 k1 rl1 r1 q1=>?_⟩
 refine⟨env,ah1,m1,rl1,j9.first rl1 q1 fun d2 ah2 m2 H2 v2 p2 k2 rl2 r2 q2=>?_⟩
 unfold a3K at q2
 split at q2
 · split at q2
   · rename_i k fs e2
     split at q2
     · rename_i hl;obtain⟨ad,rfl,hm⟩:=r2;obtain⟨dx,gs,g1,g2,g3⟩:=rl2.sim.at hm e2;obtain⟨a1,a2⟩:=C.att k g3
       have kp:Keep m2 m2 H2 (upd H2 ad (.ins (Γ.cA k) dx (U5 f v1 gs))):=Keep.put hm g1 fun z=>z
       refine⟨ad,Γ.cA k,dx,gs,rfl,g1,a1,a2 f hf,by rw[←Paired.length g2];exact hl,?_⟩
       have s3:=rl2.sim.write (c:=.obj k (a3d f d1 fs)) hm g1 (fun z=>z) ⟨dx,_,c9,(Fl.put (r1.mono p2 k2) g2).mono (Pre.refl m2) kp.im,g3⟩
       exact j9.ok (j9.later q2 (Pre.refl m2) kp) s3 σ (rl2.env.mono (Pre.refl m2) kp)
     · exact q2.elim
   · exact q2.elim
 · exact q2.elim
theorem b2X{i:Nat}{y:V}(h:EnvRel m H env σ)(r:Rp m H d v):EnvRel m H ((env.set j (some d)).set i none) (((σ.set i (some y)).set j (some v)).set i none):=by
 refine⟨by simp[h.len],fun k d' e=>?_⟩
 by_cases hi:k=i
 · subst hi
   by_cases hl:k<env.length
   · rw[List.getElem?_set_self (by simpa using hl)] at e;cases e
   · rw[aS (by simp;omega)] at e;cases e
 · rw[List.getElem?_set_ne (Ne.symm hi)] at e⊢
   by_cases hj:k=j
   · subst hj
     by_cases hl:k<env.length
     · rw[List.getElem?_set_self hl] at e
       cases e;exact⟨v,List.getElem?_set_self (by simp;rw[←h.len];exact hl),r⟩
     · rw[aS (by simp;omega)] at e;cases e
   · rw[List.getElem?_set_ne (Ne.symm hj)] at e⊢
     rw[List.getElem?_set_ne (Ne.symm hi)]
     exact h.val k d' e
theorem Cxt.nox(C:Cxt X Γ G ct c Ex N sc dfn):Cxt X.nox Γ G ct c E0 N sc dfn where
 hN:=C.hN
 nd:=C.nd
 sc:=C.sc
 calm:=C.calm
 hu:=C.hu
 K:=C.K
 fnb:=C.fnb
 scal:=C.scal
 tups:=C.tups
 dicts:=C.dicts
 blt:=C.blt
 fn:=C.fn
 obj:=C.obj
 att:=C.att
 xatt:=C.xatt
 sub:=C.sub
 pass:=fun pins σ H s e s' I h=>by
  obtain⟨_,_,_,_,_,_,_,_,_,_,_,_,_,_,_,hE⟩:=h;exact hE.elim
theorem b8p{n hx:Str}{f:Nat}{xs:Es}{p ep cp hp0 hpos tpos vpos:Pos}(C:Cxt X Γ G ct c Ex N sc true)(hst:X.stack=X.env::X.outer)(hfr:X.env.frame=some X.env.locals)
 {x:Str} (hg:E7 sc x=true) (hgx:E7 sc hx=true) (hln:sc.names.lookup n=some .local) (hlu:sc.names.lookup u=some .local) (hd1:n≠"__debug__") (hd2:n≠"__classdict__") (hf:G.fn.lookup x=some (f,np)) (hk:G.cls.lookup hx=some G.hb)
 (hi:N.idxOf? n=some i) (hj:N.idxOf? u=some j) (hp:(a::es).all t8=true) (ha:PA X.nox (a::es) (TAv Γ E0 (evs ct c xs))):
 PS X (.Try [.Expr (.Call (.Name x p) (a::es) [] cp) ep] [.ExceptHandler (some (.Name hx hp0)) (some n) [.Assign [.Name u tpos] (.Name n vpos) apos] hpos] [] [] pos) (TSv Γ Ex (ex ct c (.tryc f xs G.hb i j))):=by
 obtain⟨k,ad,fd,ps,h1,h2,h3,h4,h5,h6,h7⟩:=C.fn x f np hf;rw[all_cons,ae] at hp
 have hsc:∀y,X.env.scope.names.lookup y=sc.names.lookup y:=fun y=>by rw[C.sc]
 have hsu:∀a,PSs (X.marked a) [.Assign [.Name u tpos] (.Name n vpos) apos] (b1z (b3T i) (a7j j)):=fun a=>
  a6L (a5W (X:=X.marked a) (by show X.N.Nodup;rw[C.hN];exact C.nd) (by show X.N[j]? =_;rw[C.hN];exact Z6 hj) (.inl ((hsc u).trans hlu)) (a5X (by show X.N[i]? =_;rw[C.hN];exact Z6 hi) (.inl ((hsc n).trans hln)) (beq_eq_false_iff_ne.mpr hd1) (beq_eq_false_iff_ne.mpr hd2)) rfl (.inr ((hsc u).trans hlu)))
 refine PS.imp (b4l h6 h2 (C.gl hg) h3 h4 h5 ha (C.gl hgx) (C.sub hx G.hb hk).1 hst hfr (by rw[C.hN];exact C.nd) (by rw[C.hN];exact Z6 hi) ((hsc n).trans hln) hsu rfl (L3 hg).2.1 (L3 hgx).2.1 (i8 hp.1) (K7 hp.2)) ?_
 rintro D σ H ⟨env,ah,m,rl,q⟩;rw[ex] at q;refine⟨env,ah,m,rl,?_⟩
 cases hr:evs ct c xs env ah with
 |no=>rw[hr] at q;exact q.elim
 |ex kk fs ah1=>rw[hr] at q;exact q.elim
 | ok ds ah1=>
  rw[hr] at q;intro m1 H1 p1 k1 s1 vs rs;have rl1:=rl.on p1 k1 s1
  have q1:j9 Γ Ex m1 H1 (match c f ds ah1 with
   |.ok _ h2=>.ok (.nx env) h2
   |.ex k fs h2=>if ct.sub k G.hb=true/\i<env.length then .ok (.nx ((env.set j (some (.ref h2.length))).set i none)) (h2++[.exc k fs]) else .no
   |.no=>.no) (SQ D):=j9.later q p1 k1
  refine⟨ds,ah1,m1,?_,rs,s1,?_⟩
  · by_cases hl:ds.length=np
    · exact hl
    · rw[h7 ds ah1 hl] at q1;exact q1.elim
  · cases hc:c f ds ah1 with
    |no=>rw[hc] at q1;exact q1.elim
    |ok d ah2=>
     rw[hc] at q1;intro m2 H2 v p2 k2 s2 r2;exact(j9.later q1 p2 k2).ok s2 σ (rl1.env.mono p2 k2)
    | ex kk fs ah2=>
     rw[hc] at q1
     simp only at q1
     split at q1
     · rename_i hsub;intro m2 H2 dx p2 k2 s2 hx2;obtain⟨hxs,gs,g1,g2⟩:=hx2;obtain⟨N',ND,fI,xc,_⟩:=C.xatt kk hxs;refine⟨_,N',ND,fI,dx,rfl,rfl,xc,fun ad2 had _=>?_⟩
       have hne:dx≠ad2:=o0 g1 had
       have kp:Keep m2 (m2++[ad2]) H2 (upd H2 ad2 (exC ad2 (Γ.cA kk) dx)):=Keep.newc had
       have s3:Sim Γ (ah2++[.exc kk fs]) (m2++[ad2]) (upd H2 ad2 (exC ad2 (Γ.cA kk) dx)):=s2.alloc had ⟨dx,gs,c9,by rw[g9 hne];exact g1,g2.mono (Pre.snoc m2 ad2) kp.im,hxs⟩
       refine⟨.ref ad2,?_,?_⟩
       · exact List.getElem?_set_self (by rw[←rl.env.len];exact hsub.2)
       · refine(j9.later q1 (p2.trans (Pre.snoc m2 ad2)) (k2.trans kp)).ok s3 _ (b2X (y:=.ref ad2) ((rl1.env.mono p2 k2).mono (Pre.snoc m2 ad2) kp) ⟨ad2,rfl,?_⟩)
         rw[←s2.len,au (aj _)];simp
     · exact q1.elim
end
variable{pins:List (Addr×Obj)}
section
variable{P:Program}{w:World}{mg:Str->Option Value}{base:Heap}{qual:Str}{f:Addr}{cd:Value}{A:Around}{outer:List Env}{s₀:Shared}{H₀:Hp}{E:XK}
theorem a6i{s:Shared}{C dx tt:Addr}(I:Inv (a1k (CXr P w) P w K mg base N qual scope f cd A outer s₀ H₀ E) pins σ H s)(ha:H a=some (exO a C (some dx) tt))(hs:s₀.heap.objs.size<=a)
 (q:E (.ref C) (some dx) (a0l H a)):(a1k (CXr P w) P w K mg base N qual scope f cd A outer s₀ H₀ E).xe (.ref a) s:=by
 have fr1:s.heap.FunFrames base (envOfC qual scope s₀.heap.objs.size f cd::outer):=I.stack
 have e0:=a4n I.hok ha
 have nin:∀b o,s₀.heap.get? b=some o->b≠a:=fun b o e z=>absurd (aC (Heap.lt_size e) (by rw[z];exact hs)) (aN _)
 have nfr:∀b o,H b=some o->b∉fr (envOfC qual scope s₀.heap.objs.size f cd::outer):=fun b o e z=>by
  have:=I.stkFree b z
  rw[e] at this;cases this
 refine b4W (L:=s₀.heap.objs.size) (C:=C) (dx:=some dx) I.ok.frames fr1 rfl e0 rfl rfl rfl rfl fun h' T kp nT t=>?_
 have ub:=I.base
 have inL:∀b,b∈fr (envOfC qual scope s₀.heap.objs.size f cd::outer)->b=s₀.heap.objs.size∨b∈frs outer:=fun b z=>aE.mp z
 have nfs:∀b o,s₀.heap.get? b=some o->b∉frs outer->b∉fr (envOfC qual scope s₀.heap.objs.size f cd::outer):=fun b o e n z=>by
  rcases inL b z with q|q
  · exact absurd (Heap.lt_size e) (by rw[q];exact aN _)
  · exact n q
 have other:∀b o,H b=some o->(∀φ,o≠.ext φ)->b≠a:=fun b o e n z=>by
  rw[z,ha] at e;cases e;exact n _ rfl
 refine⟨a,C,dx,T,a0l H a,rfl,I.os,I.bare,⟨fun b o e n hb hx=>?_,fun b o e n hb hx=>?_,fun b o e n hx=>?_,fun b o e hx=>?_,fun b xs e=>?_,fun b o u e=>?_,fun b ps e=>?_⟩,fun b o e=>?_,t,hs,aO I.sz nT,a2y,?_,q⟩
 · exact kp.same b o (nfs b o e hb) (fun z=>nin b o e (in1 z)) (ub.keep b o e n hb hx)
 · obtain⟨sl,e1⟩:=ub.slot b o e n hb hx;obtain⟨sl',e2⟩:=kp.slot b _ (fun z=>nin b o e (in1 z)) e1
   exact⟨sl',e2⟩
 · rw[J1 (nin b o e)];exact ub.free b o e n hx
 · obtain⟨o',e1⟩:=ub.there b o e hx;obtain⟨sl,e2⟩:=kp.slot b o' (fun z=>nin b o e (in1 z)) e1
   exact⟨_,e2⟩
 · rw[J1 (other b _ (ub.tups b xs e) fun φ z=>nomatch z)];exact ub.tups b xs e
 · rw[J1 (other b _ (ub.frzs b o u e) fun φ z=>nomatch z)];exact ub.frzs b o u e
 · obtain⟨more,e1⟩:=ub.tbls b ps e;rw[J1 (other b _ e1 fun φ z=>nomatch z)];exact⟨more,e1⟩
 · have nb:b≠a:=fun z=>by rw[z,a2y] at e;cases e
   rw[J1 nb] at e
   have own:∀c,H c=some (.own b)->c≠a:=fun c z=>other c _ z fun φ y=>nomatch y
   refine(I.hok b o e).stay (fun c v hc z=>?_) (fun c z=>by rw[J1 (own c z)];exact z) (fun c xs z=>by
    rw[J1 (other c _ z fun φ y=>nomatch y)]
    exact z)
   rcases hc with y|y
   · rw[y] at z⊢;exact kp.same b v (nfr b o e) (fun z=>nb (in1 z)) z
   · exact kp.same c v (nfr c _ y) (fun z=>own c y (in1 z)) z
 · have:H T=none:=I.hok.fresh nT
   unfold a0l
   split
   · rfl
   · exact this
theorem a9A:V7 (CXr P w) (a1k (CXr P w) P w K mg base N qual scope f cd A outer s₀ H₀ E) E:=by
 intro pins σ H s e s' I h;obtain⟨a,C,dx,T,H2,rfl,os,bare,un,hok,trc,sa,sT,na,nT,q⟩:=h
 have I2:Inv (a1k (CXr P w) P w K mg base N qual scope f cd A outer s₀ H₀ E) pins σ H2 s':=I.call' (ch:=[]) os un hok bare fun b z=>absurd z (by simp)
 have fr1:s'.heap.FunFrames base (envOfC qual scope s₀.heap.objs.size f cd::outer):=I2.stack
 have ub:Un (frs outer) [] H₀ H2 s₀.heap s'.heap:=I2.base
 have ha:s₀.heap.objs.size<=a:=aO I.sz sa
 have hT:s₀.heap.objs.size<=T:=aO I.sz sT
 have nin:∀b o,s₀.heap.get? b=some o->b∉[a,T]:=fun b o e z=>by
  have hb:=Heap.lt_size e
  rcases in2 z with y|y
  · rw[y] at hb;exact absurd (aC hb ha) (aN _)
  · rw[y] at hb;exact absurd (aC hb hT) (aN _)
 have nch:∀b o,H2 b=some o->b∉[a,T]:=fun b o e z=>by
  rcases in2 z with y|y
  · rw[y,na] at e;cases e
  · rw[y,nT] at e;cases e
 have nfr:∀b o,H2 b=some o->b∉fr (envOfC qual scope s₀.heap.objs.size f cd::outer):=fun b o e z=>by
  have:=I2.stkFree b z
  rw[e] at this;cases this
 have nfs:∀b o,s₀.heap.get? b=some o->b∉frs outer->b∉fr (envOfC qual scope s₀.heap.objs.size f cd::outer):=fun b o e n z=>by
  rcases aE.mp z with y|y
  · exact absurd (Heap.lt_size e) (by rw[y];exact aN _)
  · exact n y
 show wpAny (model P w) (A.deeper (envOfC qual scope s₀.heap.objs.size f cd)) (leaving (envOfC qual scope s₀.heap.objs.size f cd) (.ref a)) _ _ s'
 unfold leaving;refine wpAny_bind (b3x I2.ok.frames fr1 rfl trc fun h3 T' kp sT' trc3=>?_)
 refine⟨a,C,dx,T',H2,rfl,I2.os,bare,⟨fun b o e n hb hx=>?_,fun b o e n hb hx=>?_,ub.free,fun b o e hx=>?_,ub.tups,ub.frzs,ub.tbls⟩,fun b o e=>?_,trc3,ha,aO (aO I2.sz (aj _)) sT',na,I2.hok.fresh sT',q⟩
 · exact kp.same b o (nfs b o e hb) (nin b o e) (ub.keep b o e n hb hx)
 · obtain⟨sl,e1⟩:=ub.slot b o e n hb hx;obtain⟨sl',e2⟩:=kp.slot b _ (nin b o e) e1;exact⟨sl',e2⟩
 · obtain⟨o',e1⟩:=ub.there b o e hx;obtain⟨sl,e2⟩:=kp.slot b o' (nin b o e) e1;exact⟨_,e2⟩
 · refine(I2.hok b o e).stay (fun c v hc z=>?_) (fun _ z=>z) fun _ _ z=>z
   rcases hc with y|y
   · rw[y] at z⊢;exact kp.same b v (nfr b o e) (nch b o e) z
   · exact kp.same c v (nfr c _ y) (nch c _ y) z
end
def But(a:Addr)(H H':Hp):Prop:=∀b o,b≠a->H b=some o->H' b=some o
def xok:List V->Prop
 |[_]=>True
 |[_,.str y]=>y.length<=1000
 |_=>False
def b3Y(C:Addr)(fl:List Str):Sp:=fun vs H Q _=>∃(a tt:Addr) (xs:List V),vs=.ref a::xs/\xs.length=fl.length/\xok xs/\H a=some (exO a C none tt)/\∀dx t' H',H dx=none->dx≠a->H' a=some (exO a C (some dx) t')->H' dx=some (.xd (fl.zip xs))->But a H H'->Q .non H'
variable{ds:List D}
theorem a4I(h:a4J ds=true)(r:Rps m H ds vs):xok vs:=by
 unfold a4J at h
 split at h
 · obtain⟨x,rfl,_⟩:=T1 r;trivial
 · obtain⟨x,y,rfl,_,r2⟩:=b6X r;cases r2;exact(aw h:_<=_)
 · cases h
theorem b0t{m:List Addr}{H:Hp}:∀{fl:List Str} {ds:List D} {vs:List V},Rps m H ds vs->Fl m H (fl.zip ds) (fl.zip vs)
 |[],_,_,_=>.nil
 |x::fl,[],vs,h=>by rw[show vs=[] from h];exact .nil
 |x::fl,d::ds,vs,⟨v,t,e,q1,q2⟩=>by subst e;exact .cons ⟨rfl,q1⟩ (b0t q2)
theorem b1j(h:xok vs):vs.length<=1000:=by
 unfold xok at h
 split at h
 · simp
 · simp
 · exact h.elim
structure Cxs(X:Cx)(Γ:Gm)(G:GT)(ct:CT)(c:CF)(Ex:XK)(N:List Str)(sc1:Scope):Prop extends Cxt X Γ G ct c Ex N sc1 true where
 own:PassesOwn (model X.prog X.w) X.A X.env X.xe
 stk:X.stack=X.env::X.outer
 frm:X.env.frame=some X.env.locals
 rai:∀(x:Str) (k:Nat) (p pos pos':Pos) (a:Expr) (es:List Expr) (xs:Es),G.rs.lookup x=some k->E7 sc1 x=true->(a::es).all t8=true->PA X (a::es) (TAv Γ Ex (evs ct c xs))->PS X (.Raise (some (.Call (.Name x p) (a::es) [] pos)) none pos') (TSv Γ Ex (ex ct c (.rais k xs)))
variable{qual:Str}{fd:FuncData}{ps:List Str}
section
variable{X:Cx}{G:GT}{Ex:XK}{sc:Scope}
theorem b5Y{P:Program}{w:World}{mg:Str->Option Value}{base:Heap}{f:Addr}{cd:Value}{A:Around}{outer:List Env}{s₀:Shared}{H₀:Hp}{r:Nat}{k:Nat}{p pos':Pos}{a:Expr}{xs:Es}{fI:Addr}{Nn ND:Addr}
 (hX:X=a1k (CXr P w) P w K mg base N qual scope f cd A outer s₀ H₀ Ex) (C:Cxt X Γ G ct c Ex N sc true) (hg:E7 sc x=true) (hk:X.mg x=some (.ref (Γ.cA k))) (hxs:k∈Γ.xs) (xc:XC X.K (Γ.cA k) Nn (Γ.cA G.hb) ND fI)
 (F:FnOk X.prog X.w X.K X.mg X.base CX0 r fI fd ps (b3Y (Γ.cA k) (ct.flds k))) (hr:Room (r+1) X.A) (hb:J4 X.K fd ps []) (hp:(a::es).all t8=true) (ha:PA X (a::es) (TAv Γ Ex (evs ct c xs))):
 PS X (.Raise (some (.Call (.Name x p) (a::es) [] pos)) none pos') (TSv Γ Ex (ex ct c (.rais k xs))):=by
 rw[all_cons,ae] at hp;have hpe:=b4E (p:=p) (pos:=pos) xc F hr (C.gl hg) hk hb b7i ha (L3 hg).2.1 (i8 hp.1) (K7 hp.2);refine PS.imp (a9k (R:=fun a H'=>∃dx tt,H' a=some (exO a (Γ.cA k) (some dx) tt)/\X.s₀.heap.objs.size<=a/\Ex (.ref (Γ.cA k)) (some dx) (a0l H' a)) xc C.calm hpe (fun pins σ H s a I hR=>?_)) ?_
 · obtain⟨dx,tt,e1,e2,e3⟩:=hR;refine⟨⟨_,_,e1⟩,?_⟩
   subst hX;exact a6i I e1 e2 e3
 · rintro D σ H ⟨env,ah,m,rl,q⟩;rw[ex] at q;refine⟨env,ah,m,rl,q.bind.mp fun ds ah1 m1 H1 p1 k1 s1 q1=>fun vs rs=>?_⟩
   split at q1
   · rename_i hl;refine⟨b1j (a4I hl.2 rs),fun ad tt had hge=>?_⟩
     refine⟨ad,tt,vs,rfl,by rw[rs.len];exact hl.1,a4I hl.2 rs,c9,fun dx t' H' hdx hne h1 h2 but=>⟨rfl,ad,rfl,dx,t',h1,hge,?_⟩⟩
     have sm:b8S H1 (a0l H' ad):=fun b o hb=>by
      have nb:b≠ad:=o0 hb had
      rw[J1 nb];exact but b o nb (by rw[g9 nb];exact hb)
     have kp:Keep m1 m1 H1 (a0l H' ad):=⟨fun b o _ h=>sm b o h,fun b o _ h=>sm b o h,fun _ h=>.inl h⟩
     exact q1 m1 _ dx (Pre.refl m1) kp (s1.same sm) ⟨hxs,_,by rw[J1 hne];exact h2,(b0t rs).mono (Pre.refl m1) kp.im⟩
   · exact q1.elim
theorem b2y{k:Nat}{gens:List Comprehension}{y:E}(h:cE G N sc (k+1) (.ListComp elt gens scope pos)=some y):∃tg iter ifs,gens=[⟨tg,iter,ifs,0⟩]:=by
 cases gens with
 |nil=>exact absurd (show none=some y from h) (by simp)
 |cons g t=>
  replace h:(if t.isEmpty&&decide (g.is_async=0) then sLc G (cR G k) N sc elt g.target g.iter g.ifs scope else none)=some y:=h
  split at h
  · rename_i hg;rw[ae] at hg;obtain⟨tg,iter,ifs,a⟩:=g
    cases isEmpty_iff.mp hg.1
    have ha:a=0:=aw hg.2
    subst ha;exact⟨_,_,_,rfl⟩
  · cases h
theorem a2j{l:List α}(h:l.isEmpty=true):l=[]:=by cases l with
 |nil=>rfl
 |cons a r=>cases h
theorem b3K{b:List Stmt}(h:tyB b=some (x,as)):∃p q r,b=[.Expr (.Call (.Name x p) as [] q) r]:=by
 unfold tyB at h
 split at h
 · cases h
 · split at h
   · rename_i e
     cases a2j e
     unfold b6A at h
     split at h
     · split at h
       · split at h
         · rename_i e
           cases a2j e
           obtain⟨y,h1,h2⟩:=map_some h;cases h2;obtain⟨p,rfl⟩:=Z4 h1;exact⟨_,_,_,rfl⟩
         · cases h
       · cases h
     · cases h
   · cases h
theorem b3L{s:Stmt}{v:Str}(h:tyA s=some (u,v)):∃p q r,s=.Assign [.Name u p] (.Name v q) r:=by
 unfold tyA at h
 split at h
 · split at h
   · cases h
   · split at h
     · rename_i e
       cases a2j e
       split at h
       · rename_i h1 h2;cases h;obtain⟨p,rfl⟩:=Z4 h1;obtain⟨q,rfl⟩:=Z4 h2;exact⟨_,_,_,rfl⟩
       · cases h
     · cases h
 · cases h
theorem b3J{hs:List ExceptHandler}{v:Str}(h:tyH hs=some (y,z,u,v)):∃p q r t w,hs=[.ExceptHandler (some (.Name y p)) (some z) [.Assign [.Name u q] (.Name v r) t] w]:=by
 unfold tyH at h
 split at h
 · cases h
 · split at h
   · rename_i e
     cases a2j e
     unfold b6z at h
     split at h
     · cases h
     · split at h
       · rename_i e
         cases a2j e
         split at h
         · rename_i h1 h3;cases h;obtain⟨a,rfl,h1⟩:=Option.bind_eq_some_iff.mp h1;obtain⟨p,rfl⟩:=Z4 h1;obtain⟨q,r,t,rfl⟩:=b3L h3;exact⟨_,_,_,_,_,rfl⟩
         · cases h
       · cases h
   · cases h
theorem b6T (C:Cxs X Γ G ct c Ex N sc) {r:List Stmt->Option Ss} (hr:∀l ss,r l=some ss->PSs X l (TSv Γ Ex (exs ct c ss))):∀st s,sS G N sc r st=some s->PS X st (TSv Γ Ex (ex ct c s)):=by
 intro st s h;obtain⟨i1,i2,i3,i4,i5⟩:=Y7 40 X Ex N sc true C.toCxt;unfold sS at h
 split at h
 · rename_i tgs e pe
   split at h
   · cases h
   · split at h
     · rename_i hu
       cases isEmpty_iff.mp hu
       unfold sAs at h
       split at h
       · rename_i x px
         split at h
         · rename_i i y h1 h2
           split at h
           · rename_i hw;cases h
             by_cases hn:Q7 e=true
             · exact b8s C.toCxt h1 hn (i1 _ _ h2)
             · rw[Bool.or_eq_true] at hw
               have hl:b7w e=true:=hw.resolve_left hn
               cases e<;>first|(cases hl;done)|skip
               obtain⟨tg,iter,ifs,rfl⟩:=b2y h2;exact b5X C.toCxt h1 h2
           · cases h
         · cases h
       · split at h
         · rename_i h1 h2 h3
           split at h
           · rename_i hw;cases h;rw[ae] at hw;exact b8q C.toCxt (i1 _ _ h1) (i1 _ _ h2) (i1 _ _ h3) hw.1 hw.2
           · cases h
         · cases h
       · split at h
         · rename_i h1 h2
           split at h
           · rename_i hw;cases h;rw[ae] at hw;exact b8r C.toCxt (i1 _ _ h1) (i1 _ _ h2) hw.1 hw.2
           · cases h
         · cases h
       · cases h
     · cases h
 · split at h
   · rename_i hw;obtain⟨y,h1,rfl⟩:=map_some h;exact b9N hw (i1 _ _ h1)
   · cases h
 · split at h
   · obtain⟨y,h1,rfl⟩:=map_some h;exact b8t (i1 _ _ h1)
   · cases h
 · split at h
   · rename_i h1 h2 h3;cases h;exact b9M (i3 _ _ h1).1 (hr _ _ h2) (hr _ _ h3)
   · cases h
 · split at h
   · rename_i hel
     cases isEmpty_iff.mp hel
     split at h
     · rename_i h1 h2 h3
       split at h
       · rename_i hs;cases h;exact b8v C.toCxt C.own (i5 _ _ _ h2) ((b3F C.toCxt 8).1 _ _ h1).1 (hr _ _ h3) hs
       · cases h
     · cases h
   · cases h
 · rename_i ex ca pos';cases h
   split
   · rename_i hca
     cases Option.isNone_iff_eq_none.mp hca
     cases hq:sRx G N sc ex with
     |none=>exact b3E
     | some s'=>
      unfold sRx at hq
      split at hq
      · cases hq
      · split at hq
        · rename_i f as ks pos
          split at hq
          · rename_i hk0
            cases isEmpty_iff.mp hk0
            split at hq
            · rename_i x hx;obtain⟨p,rfl⟩:=Z4 hx;unfold sRa at hq
              split at hq
              · rename_i hg;rw[ae] at hg;have hne:=aw hg.2
                split at hq
                · rename_i h1 h2;cases hq;obtain⟨g1,g2⟩:=i2 _ _ h2
                  cases as with
                  |nil=>exact absurd rfl hne
                  |cons a es=>exact C.rai x _ p pos pos' a es _ h1 hg.1 g2 g1
                · cases hq
              · cases hq
            · cases hq
          · cases hq
        · cases hq
   · exact b3E
 · split at h
   · rename_i he;rw[ae] at he
     cases isEmpty_iff.mp he.1
     cases isEmpty_iff.mp he.2
     unfold sTy at h
     split at h
     · rename_i x as y z u v hb hh;obtain⟨p1,p2,p3,rfl⟩:=b3K hb;obtain⟨p4,p5,p6,p7,p8,rfl⟩:=b3J hh
       split at h
       · rename_i hc;simp only[ae,bp] at hc;obtain⟨⟨⟨⟨⟨⟨⟨c1,c2⟩,c3⟩,c4⟩,c5⟩,c6⟩,c7⟩,c8⟩:=hc
         split at h
         · rename_i h1 h2 h3 h4 h5
           split at h
           · rename_i hl;simp only[ae,bp] at hl;cases h;obtain⟨_,j2,_⟩:=Y7 40 X.nox E0 N sc true C.toCxt.nox;obtain⟨g1,g2⟩:=j2 _ _ h3;subst c3;obtain⟨⟨l1,l2⟩,l3⟩:=hl
             cases as with
             |nil=>exact absurd rfl l2
             |cons a es=>
              subst l3;exact b8p C.toCxt C.stk C.frm c1 c2 c4 c5 c7 c8 h1 h2 h4 h5 g2 g1
           · cases h
         · cases h
       · cases h
     · cases h
   · cases h
 · cases h
theorem a8O(C:Cxs X Γ G ct c Ex N sc){r:List Stmt->Option Ss}(hr:∀l ss,r l=some ss->PSs X l (TSv Γ Ex (exs ct c ss))):∀l ss,sSs G N sc r l=some ss->PSs X l (TSv Γ Ex (exs ct c ss))
 |[],ss,h=>by unfold sSs at h;cases h;exact b8u
 |st::l,ss,h=>by
  unfold sSs at h
  split at h
  · rename_i h1 h2;cases h;exact b6a (b6T C hr _ _ h1) (a8O C hr l _ h2)
  · cases h
theorem b0V(C:Cxs X Γ G ct c Ex N sc):∀n l ss,cSs G N sc n l=some ss->PSs X l (TSv Γ Ex (exs ct c ss))
 |0,l,ss,h=>absurd (show none=some ss from h) (by simp)
 |n+1,l,ss,h=>a8O C (b0V C n) l ss h
end
structure RowOk(K:PySem.W.Frag)(G:GT)(F:Nat->Option Fn)(x qual:Str)(id np0:Nat)(f:Addr)(fd:FuncData)(st:Stmt)(N ps:List Str):Prop where
 fn:Fun K x qual st f fd
 sc:FnScope N ps (o4 st)
 bd:J4 K fd ps []
 np:ps.length=np0
 F:∃fn,F id=some fn/\fn.np=np0/\fn.ns=N.length/\cSs G N (o4 st) 20 (F9 st)=some fn.body
structure Stat(P:Program)(w:World)(Γ:Gm)(G:GT)(ct:CT)(F:Nat->Option Fn)(mg:Str->Option Value):Prop where
 scal:∀x d,G.scal.lookup x=some d->∃u v,mg x=some u/\n9 v u/\∀m H,Rp m H d v
 tups:∀x ds,G.tups.lookup x=some ds->∃a vs,mg x=some (.ref a)/\(∀H,SqT Γ.K H a vs)/\∀m H,Rps m H ds vs
 dicts:∀x kvs,G.dicts.lookup x=some kvs->∃a gs,mg x=some (.ref a)/\a8u P w Γ.K a gs/\∀m H,DK m H kvs gs
 blt:∀x,G.blt.contains x=true->mg x=none
 fn:∀x id np,G.fn.lookup x=some (id,np)->∃f fd st N ps,mg x=some (.ref f)/\RowOk Γ.K G F x x id np f fd st N ps
 obj:∀x k,G.obj.lookup x=some k->k∈Γ.ob/\mg x=some (.ref (Γ.cA k))/\∃f fd st N ps qual,Mk Γ.K (Γ.cA k) f/\RowOk Γ.K G F "__init__" qual (ct.init k) 1 f fd st N ps
 att:∀k,k∈Γ.ob->Cls Γ.K (Γ.cA k)/\∀f,G.atts.contains f=true->Z0 Γ.K (Γ.cA k) f
 xatt:∀k,k∈Γ.xs->∃N ND fI,XC Γ.K (Γ.cA k) N (Γ.cA G.hb) ND fI/\PySem.W.mroIn Γ.K (Γ.cA k) (.type "object")=some true/\PySem.W.kitOne Γ.K (.ref (Γ.cA k)) (.type "ValueError")=some true
 sub:∀x j,G.cls.lookup x=some j->mg x=some (.ref (Γ.cA j))/\∀k,k∈Γ.xs->PySem.W.kitOne Γ.K (.ref (Γ.cA k)) (.ref (Γ.cA j))=some (ct.sub k j)
 rs:∀x k,G.rs.lookup x=some k->k∈Γ.xs/\mg x=some (.ref (Γ.cA k))/\∃Nn ND fI fd ps,XC Γ.K (Γ.cA k) Nn (Γ.cA G.hb) ND fI/\J4 Γ.K fd ps []/\∀base,FnOk P w Γ.K mg base CX0 1 fI fd ps (b3Y (Γ.cA k) (ct.flds k))
variable{m':List Addr}{H':Hp}{id:Nat}
section
variable{P:Program}{w:World}{G:GT}{F:Nat->Option Fn}{mg:Str->Option Value}
theorem a8m{ns:Nat}(rs:Rps m H ds vs)(hn:ns=N.length)(hd:ds.length=np):EnvRel m H (ds.map some++List.replicate (ns-np) none) (L2.a0f N vs):=by
 unfold L2.a0f;refine⟨by simp[rs.len,hn,hd],fun i d e=>?_⟩
 by_cases hi:i<ds.length
 · rw[av (by simpa using hi),ak] at e
   rw[av (by simpa [rs.len] using hi),ak]
   cases hd':ds[i]? with
   |none=>rw[hd'] at e;cases e
   |some d'=>
    rw[hd'] at e;cases e;obtain⟨v,h1,h2⟩:=rs.get hd';exact⟨v,by rw[h1];rfl,h2⟩
 · rw[au (by simpa using hi),bu] at e
   split at e<;>cases e
noncomputable def b7j:R Out->R D
 |.ok (.nx _) h=>.ok .non h
 |.ok (.rt d) h=>.ok d h
 |.ex c fs h=>.ex c fs h
 |.no=>.no
theorem a2C(n:Nat)(f:Nat)(ds:List D)(h:AH):b6 ct F (n+1) f ds h=match F f with
 |none=>.no
 |some fd=>if ds.length=fd.np then gcR fd.gc h (b7j (exs ct (b6 ct F n) fd.body (ds.map some++List.replicate (fd.ns-fd.np) none) h)) else .no:=by
 show(match F f with
  |none=>R.no
  |some fd=>if ds.length=fd.np then gcR fd.gc h (match exs ct (b6 ct F n) fd.body (ds.map some++List.replicate (fd.ns-fd.np) none) h with
   |.ok (.nx _) h'=>.ok .non h'
   |.ok (.rt d) h'=>.ok d h'
   |.ex c fs h'=>.ex c fs h'
   |.no=>.no) else .no)=_
 cases F f with
 |none=>rfl
 |some fd=>
  simp only
  generalize exs ct (b6 ct F n) fd.body (ds.map some++List.replicate (fd.ns-fd.np) none) h=r
  cases r with
  |ok o h=>cases o<;>rfl
  |ex c fs h=>rfl
  |no=>rfl
theorem a6D:(∀d v v' m0 H0,m0.length=n->Rp m0 H0 d v'->Rp m' H d v->Rp (m'.take n) H d v)/\∀l vs vs' m0 H0,m0.length=n->Rps m0 H0 l vs'->Rps m' H l vs->Rps (m'.take n) H l vs:=by
 refine D.ind (P:=fun d=>∀v v' m0 H0,m0.length=n->Rp m0 H0 d v'->Rp m' H d v->Rp (m'.take n) H d v) (Q:=fun l=>∀vs vs' m0 H0,m0.length=n->Rps m0 H0 l vs'->Rps m' H l vs->Rps (m'.take n) H l vs) ?_ ?_ ?_ ?_ ?_ ?_ ?_ ?_
 · intro v v' m0 H0 _ _ h;exact h
 · intro b v v' m0 H0 _ _ h;exact h
 · intro b v v' m0 H0 _ _ h;exact h
 · intro b v v' m0 H0 _ _ h;exact h
 · rintro l ih v v' m0 H0 hn ⟨a',vs',_,_,q'⟩ ⟨a,vs,rfl,e,q⟩;exact⟨a,vs,rfl,e,ih vs vs' m0 H0 hn q' q⟩
 · rintro k v v' m0 H0 hn ⟨a',_,e'⟩ ⟨a,rfl,e⟩;refine⟨a,rfl,?_⟩
   have:=(ac.mp e').1
   rw[bt (by omega)];exact e
 · intro vs vs' m0 H0 _ _ h;exact h
 · rintro d r ih ihs vs vs' m0 H0 hn ⟨v',t',_,q1',q2'⟩ ⟨v,t,rfl,q1,q2⟩;exact⟨v,t,rfl,ih v v' m0 H0 hn q1' q1,ihs t t' m0 H0 hn q2' q2⟩
theorem a1s{α β β':Type}{R R':α->β->Prop}{R0:α->β'->Prop}(f:∀a b b',R0 a b'->R a b->R' a b):∀{l:List α} {l':List β'} {l2:List β},Paired R0 l l'->Paired R l l2->Paired R' l l2
 |_,_,_,.nil,.nil=>.nil
 |_,_,_,.cons h t,.cons h' t'=>.cons (f _ _ _ h h') (a1s f t t')
theorem a8r{a0:Addr}{c:Cell}(hn:m.length=n)(h0:D1 Γ m H0 a0 c)(h:D1 Γ m' H a c):D1 Γ (m'.take n) H a c:=by
 have rp:=fun d v v' (h1:Rp m H0 d v') (h2:Rp m' H d v)=>(a6D (m':=m') (n:=n) (H:=H)).1 d v v' m H0 hn h1 h2
 have rps:=fun d v v' (h1:Rps m H0 d v') (h2:Rps m' H d v)=>(a6D (m':=m') (n:=n) (H:=H)).2 d v v' m H0 hn h1 h2
 have pr:∀{κ κ' κ'':Type} {l:List (κ×D)} {l':List (κ'×V)} {l2:List (κ''×V)} {A:κ->κ'->Prop} {B:κ->κ''->Prop},Paired (fun p q=>A p.1 q.1/\Rp m H0 p.2 q.2) l l'->Paired (fun p q=>B p.1 q.1/\Rp m' H p.2 q.2) l l2->Paired (fun p q=>B p.1 q.1/\Rp (m'.take n) H p.2 q.2) l l2:=
  fun h0 h=>a1s (fun a b b' x y=>⟨y.1,rp _ _ _ x.2 y.2⟩) h0 h
 cases c with
 |lst l=>obtain⟨vs',_,r'⟩:=h0;obtain⟨vs,e,r⟩:=h;exact⟨vs,e,rps _ _ _ r' r⟩
 |rol l=>obtain⟨vs',_,r',_⟩:=h0;obtain⟨vs,e,r,z⟩:=h;exact⟨vs,e,rps _ _ _ r' r,z⟩
 |dict l=>
  rcases h with⟨kvs,e,r⟩|⟨kvs,e,r⟩
  · rcases h0 with⟨kvs',_,r'⟩|⟨kvs',_,r'⟩
    · exact .inl ⟨kvs,e,pr (A:=fun p q=>K0 p=some q) (B:=fun p q=>K0 p=some q) r' r⟩
    · exact .inl ⟨kvs,e,pr (A:=fun(p:D) q=>∃l,p=D.tup l/\D8 l=some q) (B:=fun p q=>K0 p=some q) r' r⟩
  · rcases h0 with⟨kvs',_,r'⟩|⟨kvs',_,r'⟩
    · exact .inr ⟨kvs,e,pr (A:=fun p q=>K0 p=some q) (B:=fun(p:D) q=>∃l,p=D.tup l/\D8 l=some q) r' r⟩
    · exact .inr ⟨kvs,e,pr (A:=fun(p:D) q=>∃l,p=D.tup l/\D8 l=some q) (B:=fun(p:D) q=>∃l,p=D.tup l/\D8 l=some q) r' r⟩
 |obj k fs=>obtain⟨dx',gs',_,r',_⟩:=h0;obtain⟨dx,gs,e,r,z⟩:=h;exact⟨dx,gs,e,pr (A:=fun p q=>p=q) (B:=fun p q=>p=q) r' r,z⟩
 |exc k fs=>obtain⟨dx',gs',_,_,r',_⟩:=h0;obtain⟨dx,gs,e,e2,r,z⟩:=h;exact⟨dx,gs,e,e2,pr (A:=fun p q=>p=q) (B:=fun p q=>p=q) r' r,z⟩
theorem Sim.drop{ah':AH}(s:Sim Γ ah m H)(s':Sim Γ ah' m' H')(p:Pre m m')(k:Keep m m' H H')(h:ah'.take ah.length=ah):Sim Γ ah m H':=by
 have hm:m'.take ah.length=m:=by
  obtain⟨t,rfl⟩:=p;rw[←s.len,List.take_left]
 refine⟨s.len,s.nd,fun n a c hn hc=>?_⟩
 have hl:=(ac.mp hc).1
 have hc':ah'[n]? =some c:=by
  rw[←h,bt hl] at hc
  exact hc
 have:=a8r (n:=ah.length) s.len (s.at hn hc) (s'.at (p.get hn) hc')
 rwa [hm] at this
theorem a8i{c:Cell}(f:c.flat=true)(h:D1 Γ m H a c):D1 Γ m' H a c:=by
 cases c with
 |lst l=>obtain⟨vs,e,r⟩:=h;exact⟨vs,e,(a3N (m':=m')).2 _ _ f r⟩
 | dict l=>
  have go:∀{κ:Type} {A:D->κ->Prop} {l:List (D×D)} {l2:List (κ×V)},(l.all fun p=>p.1.flat&&p.2.flat)=true->Paired (fun p q=>A p.1 q.1/\Rp m H p.2 q.2) l l2->Paired (fun p q=>A p.1 q.1/\Rp m' H p.2 q.2) l l2:=by
   intro κ A l l2 hf hp
   induction hp with
   |nil=>exact .nil
   |cons h t ih=>
    rw[all_cons,ae,ae] at hf;exact .cons ⟨h.1,(a3N (m':=m')).1 _ _ hf.1.2 h.2⟩ (ih hf.2)
  rcases h with⟨kvs,e,r⟩|⟨kvs,e,r⟩
  · exact .inl ⟨kvs,e,go (A:=fun p q=>K0 p=some q) f r⟩
  · exact .inr ⟨kvs,e,go (A:=fun(p:D) q=>∃l,p=D.tup l/\D8 l=some q) f r⟩
 |_=>cases f
theorem b7J {E :XK} {g:Nat} {r:R Out} (s:Sim Γ ah m H) (h:i7 Γ E m H (gcR g ah (b7j r)) Q):j9 Γ E m H r (SQ {nx:=fun _ H'=>Q .non H',rt:=Q}):=by
 have main : ∀{d:D} {ah':AH},i7 Γ E m H (gcR g ah (.ok d ah')) Q->∀m' H' v,Pre m m'->Keep m m' H H'->Sim Γ ah' m' H'->Rp m' H' d v->Q v H':=by
  intro d ah' h m' H' v p k s' rv;unfold gcR at h
  simp only at h
  split at h
  · exact h m' H' v p k s' rv
  · split at h
    · split at h
      · rename_i hh;exact h m H' v (Pre.refl m) ⟨k.im,k.out,fun _ z=>.inl z⟩ (s.drop s' p k hh.1) ((a3N (m':=m)).1 d v hh.2 rv)
      · exact h.elim
    · split at h
      · rename_i kk
        split at h
        · rename_i c hc
          split at h
          · rename_i hh;obtain⟨a,rfl,ha⟩:=rv;have s0:=s.drop s' p k hh.1
            have hna:a∉m:=fun z=>by
             obtain⟨i,hi⟩:=aW z
             have e1:=p.get hi;have hlt:=(ac.mp hi).1
             obtain⟨h1,e1⟩:=ac.mp e1
             obtain⟨h2,e2⟩:=ac.mp ha
             have:=(getElem_inj s'.nd).mp (e1.trans e2.symm)
             have hl:=s.len;omega
            have Hn:H a=none:=by
             rcases k.fr a (aF ha) with z|z
             · exact absurd z hna
             · exact z
            refine h (m++[a]) H' (.ref a) (Pre.snoc m a) ⟨k.im,k.out,fun b hb=>?_⟩ ?_ ⟨a,rfl,?_⟩
            · rcases aJ.mp hb with z|z
              · exact .inl z
              · simp at z;subst z;exact .inr Hn
            · refine⟨by simp[s.len],a0q s.nd hna,fun n b cc hn hcc=>?_⟩
              by_cases hl:n<m.length
              · rw[av hl] at hn
                rw[av (by rw[←s.len];exact hl)] at hcc
                exact(s0.at hn hcc).mono' (Pre.snoc m a) (fun _ _ _ z=>z) rfl
              · have hn':n=m.length:=by
                 have:=(ac.mp hn).1
                 simp at this;omega
                subst hn';rw[au (aj _)] at hn
                rw[s.len,au (aj _)] at hcc
                simp at hn hcc;subst hn;subst hcc
                exact a8i hh.2.2 (s'.at ha hc)
            · rw[←s.len,au (aj _)];simp
          · exact h.elim
        · exact h.elim
      · exact h.elim
 cases r with
 |ok o ah'=>
  cases o with
  |nx env=>exact fun m' H' p k s' σ' _=>main h m' H' .non p k s' rfl
  |rt d=>exact fun m' H' p k s' v rv=>main h m' H' v p k s' rv
 |ex c fs ah'=>exact h
 |no=>exact h.elim
theorem a4i(S:Stat P w Γ G ct F mg)(ih1:∀x id np,G.fn.lookup x=some (id,np)->∃f fd ps,ps.length=np/\mg x=some (.ref f)/\PySem.W.keepIn Γ.K (.ref f)=true/\J4 Γ.K fd ps []/\∀base,FnOk P w Γ.K mg base (CXr P w) (2*n+6) f fd ps (a3I Γ (b6 ct F n) id np))
    (ih2:∀x k,G.obj.lookup x=some k->k∈Γ.ob/\mg x=some (.ref (Γ.cA k))/\∃f fd ps,ps.length=1/\Mk Γ.K (Γ.cA k) f/\J4 Γ.K fd ps []/\∀base,FnOk P w Γ.K mg base (CXr P w) (2*n+6) f fd ps (a3I Γ (b6 ct F n) (ct.init k) 1))
    (ar:∀x id np,G.fn.lookup x=some (id,np)->∀ds h,ds.length≠np->b6 ct F n id ds h=.no)
 {f : Addr} (R:RowOk Γ.K G F x qual id np f fd st N ps) (base:Heap):FnOk P w Γ.K mg base (CXr P w) (2*(n+1)+6) f fd ps (a3I Γ (b6 ct F (n+1)) id np):=by
  obtain⟨fn,F1,F2,F3,F4⟩:=R.F;obtain⟨oc,od,kV,doc,pm,an,cdv,ct',osl,rfl,lk,hcd⟩:=R.fn.ex;refine b3A (k:=2*n+7) lk hcd R.sc (fun vs H Q E h=>?_) fun A outer s H vs Q E hr hsp=>?_
  · obtain⟨ds,ah,m,h1,h2,_⟩:=h;rw[h2.len,h1,R.np]
  · obtain⟨ds,ah,m,h1,h2,h3,h4⟩:=hsp
    have C:Cxt (a1k (CXr P w) P w Γ.K mg base N qual (o4 st) f cdv A outer s H E) Γ G ct (b6 ct F n) E N (o4 st) true:=by
      refine⟨rfl,R.sc.nd,rfl,rfl,?_,rfl,fun _ _=>rfl,S.scal,S.tups,S.dicts,S.blt,fun y i j hy=>?_,fun y k hy=>?_,S.att,S.xatt,S.sub,a9A⟩
      · exact Nat.lt_of_le_of_lt (Nat.add_le_add_left (by decide:8<=64) _) hr.units
      · obtain⟨f',fd',ps',a1,a2,a3,a4,a5⟩:=ih1 y i j hy;exact⟨2*n+6,f',fd',ps',a1,hr.mono (by omega),a2,a3,a4,a5 base,ar y i j hy⟩
      · obtain⟨b1,b2,f',fd',ps',a1,a2,a3,a4⟩:=ih2 y k hy;exact⟨b1,2*n+6,f',fd',ps',a1,hr.mono (by omega),a2,b2,a3,a4 base⟩
    have Cs:Cxs (a1k (CXr P w) P w Γ.K mg base N qual (o4 st) f cdv A outer s H E) Γ G ct (b6 ct F n) E N (o4 st):=by
      refine⟨C,PassesOwn.leaving,rfl,rfl,fun y k p pos pos' a es xs hk hg hp ha=>?_⟩
      obtain⟨r1,r2,Nn,ND,fI,fdI,psI,r3,r4,r5⟩:=S.rs y k hk;exact b5Y rfl C hg r2 r1 r3 (r5 base) (hr.mono (by omega)) r4 hp ha
    refine⟨_,b0V Cs 20 _ _ F4,ds.map some++List.replicate (fn.ns-fn.np) none,ah,m,⟨h3,a8m h2 F3 (by rw[h1,F2])⟩,?_⟩
    rw[a2C,F1] at h4
    simp only at h4
    rw[ay (by rw[h1,F2])] at h4
    exact b7J h3 h4
theorem b0Z(S:Stat P w Γ G ct F mg):∀n x id np,G.fn.lookup x=some (id,np)->∀ds h,ds.length≠np->b6 ct F n id ds h=.no
 |0,_,_,_,_,_,_,_=>rfl
 |n+1,x,id,np,hx,ds,h,hl=>by
  obtain⟨_,_,_,_,_,_,R⟩:=S.fn x id np hx;obtain⟨fn,F1,F2,_⟩:=R.F;rw[a2C,F1]
  simp only
  rw[az (by rw[F2];exact hl)]
theorem b5q(S:Stat P w Γ G ct F mg):∀n,(∀x id np,G.fn.lookup x=some (id,np)->∃f fd ps,ps.length=np/\mg x=some (.ref f)/\PySem.W.keepIn Γ.K (.ref f)=true/\J4 Γ.K fd ps []/\∀base,FnOk P w Γ.K mg base (CXr P w) (2*n+6) f fd ps (a3I Γ (b6 ct F n) id np))∧
 (∀x k,G.obj.lookup x=some k->k∈Γ.ob/\mg x=some (.ref (Γ.cA k))/\∃f fd ps,ps.length=1/\Mk Γ.K (Γ.cA k) f/\J4 Γ.K fd ps []/\∀base,FnOk P w Γ.K mg base (CXr P w) (2*n+6) f fd ps (a3I Γ (b6 ct F n) (ct.init k) 1)):=by
 have zero:∀{k:Nat} {f:Addr} {fd:FuncData} {ps:List Str} {id np:Nat} {base:Heap},FnOk P w Γ.K mg base (CXr P w) k f fd ps (a3I Γ (b6 ct F 0) id np):=fun{k f fd ps id np base}=>
  ⟨fun vs H Q E h=>by obtain⟨_,_,_,_,_,_,z⟩:=h;exact z.elim,fun A outer s H args us vs Q E _ _ _ _ h=>by obtain⟨_,_,_,_,_,_,z⟩:=h;exact z.elim⟩
 intro n
 induction n with
 |zero=>
  refine⟨fun x id np hx=>?_,fun x k hk=>?_⟩
  · obtain⟨f,fd,st,N,ps,g,R⟩:=S.fn x id np hx;exact⟨f,fd,ps,R.np,g,R.fn.kp,R.bd,fun base=>zero⟩
  · obtain⟨o1,o2,f,fd,st,N,ps,qual,M,R⟩:=S.obj x k hk;exact⟨o1,o2,f,fd,ps,R.np,M,R.bd,fun base=>zero⟩
 |succ n ih=>
  refine⟨fun x id np hx=>?_,fun x k hk=>?_⟩
  · obtain⟨f,fd,st,N,ps,g,R⟩:=S.fn x id np hx;exact⟨f,fd,ps,R.np,g,R.fn.kp,R.bd,fun base=>a4i S ih.1 ih.2 (b0Z S n) R base⟩
  · obtain⟨o1,o2,f,fd,st,N,ps,qual,M,R⟩:=S.obj x k hk;exact⟨o1,o2,f,fd,ps,R.np,M,R.bd,fun base=>a4i S ih.1 ih.2 (b0Z S n) R base⟩
end
end EV
namespace L2T
open PySem
abbrev cd(z:Str):List Nat:=z.cps.toList
variable{x:Str}
theorem a0B{y:Str}(h:cd x=cd y):x=y:=by
 cases x;cases y
 exact congrArg Str.mk (Array.toList_inj.mp h)
theorem J2(x y:Str):cd (x++y)=cd x++cd y:=by
 show(x.cps++y.cps).toList=_
 simp
theorem o8(x:Str):(cd x).length=x.length:=by simp[cd,Str.length]
noncomputable def jn(c:Nat):List (List Nat)->List Nat
 |[]=>[]
 |[x]=>x
 |x::y::r=>x++c::jn c (y::r)
theorem a1O(c:Nat):∀ps:List Str,cd (Str.join ⟨#[c]⟩ ps)=jn c (ps.map cd)
 |[]=>rfl
 |[x]=>rfl
 |x::y::r=>by
  show cd (x++⟨#[c]⟩++Str.join ⟨#[c]⟩ (y::r))=cd x++c::jn c ((y::r).map cd)
  rw[J2,J2,a1O c (y::r)];simp[cd]
theorem a3u{c:Nat}:∀{p q a b:List Nat},c∉p->c∉q->p++c::a=q++c::b->p=q/\a=b
 |[],[],a,b,_,_,h=>⟨rfl,by simpa using h⟩
 |[],y::q,a,b,_,hq,h=>by
  have e:c=y:=(List.cons.inj h).1
  exact absurd (by rw[e];exact aU) hq
 |x::p,[],a,b,hp,_,h=>by
  have e:x=c:=(List.cons.inj h).1
  exact absurd (by rw[←e];exact aU) hp
 |x::p,y::q,a,b,hp,hq,h=>by
  obtain⟨e1,e2⟩:=List.cons.inj h;obtain⟨e3,e4⟩:=a3u (fun z=>hp (aD _ z)) (fun z=>hq (aD _ z)) e2
  exact⟨by rw[e1,e3],e4⟩
theorem a9X{c:Nat}:∀{ps qs:List (List Nat)},ps≠[]->qs≠[]->(∀p∈ps,c∉p)->(∀q∈qs,c∉q)->jn c ps=jn c qs->ps=qs
 |[],_,h,_,_,_,_=>absurd rfl h
 |_::_,[],_,h,_,_,_=>absurd rfl h
 |[x],[y],_,_,_,_,h=>by rw[show x=y from h]
 |[x],y::z::r,_,_,hp,_,h=>by
  have h':x=y++c::jn c (z::r):=h
  exact absurd (by rw[h'];simp) (hp x aU)
 |x::y::r,[z],_,_,_,hq,h=>by
  have h':x++c::jn c (y::r)=z:=h
  exact absurd (by rw[←h'];simp) (hq z aU)
 |x::y::r,z::u::t,_,_,hp,hq,h=>by
  obtain⟨e1,e2⟩:=a3u (hp x aU) (hq z aU) h;have e3:=a9X (cons_ne_nil _ _) (cons_ne_nil _ _) (fun p hp'=>hp p (aD _ hp')) (fun q hq'=>hq q (aD _ hq')) e2
  rw[e1,e3]
theorem a6T:∀{ps qs:List Str},ps.map cd=qs.map cd->ps=qs
 |[],[],_=>rfl
 |[],_::_,h=>by cases h
 |_::_,[],h=>by cases h
 |x::r,y::t,h=>by
  obtain⟨e1,e2⟩:=List.cons.inj h;rw[a0B e1,a6T e2]
variable{c:Nat}
theorem a1U{ps:List Str}(hn:ps≠[])(hf:∀p∈ps,c∉cd p)(h:cd x=jn c (ps.map cd)):Txt.split x ⟨#[c]⟩=ps:=by
 have h1:=StrLaws.join_split x ⟨#[c]⟩
 have h2:jn c ((Txt.split x ⟨#[c]⟩).map cd)=jn c (ps.map cd):=by rw[←a1O,h1,h]
 have h3:Txt.split x ⟨#[c]⟩≠[]:=fun e=>by
  have:=PyProof.Rows.split_pos x ⟨#[c]⟩
  rw[e] at this;exact absurd this (by decide)
 refine a6T (a9X (fun e=>h3 (List.map_eq_nil_iff.mp e)) (fun e=>hn (List.map_eq_nil_iff.mp e)) (fun p hp=>?_) (fun p hp=>?_) h2)
 · obtain⟨q,hq,rfl⟩:=am.mp hp;exact StrLaws.split_free x c q hq
 · obtain⟨q,hq,rfl⟩:=am.mp hp;exact hf q hq
def b7O:Str:="0123456789"
noncomputable def a0F:Str:="abcdefghijklmnopqrstuvwxyz0123456789"
def N5(c:Nat):Bool:=decide (c∈cd a0F)
def O4(c:Nat):Bool:=decide (c∈cd b7O)
theorem a4k(c:Nat):O4 c=true↔48<=c/\c<=57:=by
 unfold O4;rw[decide_eq_true_iff,show cd b7O=List.range' 48 10 from by decide+kernel,List.mem_range'_1]
 exact and_congr_right fun _=>Nat.lt_succ_iff
def i9(z:Str):Bool:=decide (1<=z.length)&&decide (z.length<=12)&&(cd z).all N5
noncomputable def a1t(z:Str):Bool:=decide (1<=z.length)&&decide (z.length<=5)&&(cd z).all O4&&(decide (z="0")||!decide ((cd z).head? =some 48))
noncomputable def T5(z:Str):Option Int:=if(cd z).all O4=true then(if z=""∨5<z.length∨((cd z).head? =some 48/\1<z.length) then none else some ((NumText.digitsVal (cd z):Nat):Int)) else none
noncomputable def tl(z:Str):Str:=⟨((cd z).drop 1).toArray⟩
theorem a7v(z:Str):cd (tl z)=(cd z).drop 1:=by simp[tl,cd]
def a2Z(z:Str):Bool:=if(cd z).head? =some 45 then(!decide (z="-0")&&a1t (tl z)) else a1t z
def a0g(z:Str):Option Int:=if(cd z).head? =some 45 then(match T5 (tl z) with|none=>none|some n=>if n=0 then none else some (-n)) else T5 z
theorem a8a(z:Str):z=""↔z.length=0:=by
 constructor
 · rintro rfl;rfl
 · intro h;refine a0B ?_
   have:(cd z).length=0:=by rw[o8];exact h
   rw[length_eq_zero_iff.mp this];rfl
variable{z:Str}
theorem a2H(h:(cd z).all O4=true):NumText.AllDigits (cd z):=fun c hc=>(a4k c).mp (bg.mp h c hc)
theorem a3s:∀(cs:List Nat) (a:Nat),a<=cs.foldl (fun acc c=>acc*10+(c-48)) a
 |[],a=>aj _
 |c::r,a=>aO (by omega) (a3s r (a*10+(c-48)))
theorem a6t{r:List Nat}(h:48<c):0<NumText.digitsVal (c::r):=by
 unfold NumText.digitsVal;rw[foldl_cons];exact aC (by omega) (a3s r (0*10+(c-48)))
theorem a2e:a1t z=(T5 z).isSome:=by
 unfold a1t T5
 by_cases h:(cd z).all O4=true
 · rw [ay h,h]
   by_cases q:z=""∨5<z.length∨((cd z).head? =some 48/\1<z.length)
   · rw[ay q]
     show _=false
     rcases q with q|q|⟨q1,q2⟩
     · rw[a8a] at q;simp[q]
     · simp[show¬z.length<=5 by omega]
     · have ne:¬z="0":=by rintro rfl;exact absurd q2 (by decide)
       simp[q1,ne]
   · rw [az q]
     show _=true
     have q1:¬z.length=0:=fun e=>q (.inl ((a8a z).mpr e))
     have q2:z.length<=5:=aQ fun e=>q (.inr (.inl e))
     have q3:z="0"∨¬(cd z).head? =some 48:=by
      by_cases e:(cd z).head? =some 48
      · left
        have l:z.length=1:=by
         have k:¬1<z.length:=fun e'=>q (.inr (.inr ⟨e,e'⟩))
         omega
        refine a0B ?_
        have l':(cd z).length=1:=by rw[o8];exact l
        obtain⟨x,hx⟩:=List.length_eq_one_iff.mp l';rw[hx] at e⊢
        have e':x=48:=by simpa using e
        rw[e']
        decide+kernel
      · exact .inr e
     have a1:1<=z.length:=by omega
     rcases q3 with q3|q3
     · rw[q3];decide+kernel
     · simp[a1,q2,q3]
 · rw[az h]
   show _=false
   simp[show(cd z).all O4=false from by simpa using h]
variable{n:Int}
theorem a1L (h:T5 z=some n):intText? z=some n/\z.length<=640/\0<=n/\(n=0↔z="0"):=by
 unfold T5 at h
 by_cases q:(cd z).all O4=true
 · rw[ay q] at h
   by_cases p:z=""∨5<z.length∨((cd z).head? =some 48/\1<z.length)
   · rw[ay p] at h;cases h
   · rw [az p] at h;cases h
     have p1:¬z.length=0:=fun e=>p (.inl ((a8a z).mpr e))
     have p2:z.length<=5:=aQ fun e=>p (.inr (.inl e))
     have ne:cd z≠[]:=fun e=>p1 (by rw[←o8,e];rfl)
     refine⟨PySem.intText_digits (a2H q) ne (by omega),by omega,Int.natCast_nonneg _,?_,?_⟩
     · intro e
       have e0:NumText.digitsVal (cd z)=0:=by omega
       cases hz:cd z with
       |nil=>exact absurd hz ne
       | cons c r=>
        have hc:c=48:=by
         have:=(a2H q) c (by rw[hz];exact aU)
         rw[hz] at e0
         by_cases k:48<c
         · exact absurd (a6t (r:=r) k) (by omega)
         · omega
        have hl:¬1<z.length:=fun e'=>p (.inr (.inr ⟨by rw[hz,hc];rfl,e'⟩))
        have hr:r=[]:=by
         have:(cd z).length=r.length+1:=by rw[hz];rfl
         rw[o8] at this;exact length_eq_zero_iff.mp (by omega)
        refine a0B ?_
        rw[hz,hc,hr]
        decide+kernel
     · rintro rfl
       decide+kernel
 · rw[az q] at h;cases h
theorem a4R:a2Z z=(a0g z).isSome:=by
 unfold a2Z a0g
 by_cases h:(cd z).head? =some 45
 · rw [ay h,ay h,a2e]
   have hz:(z="-0")↔tl z="0":=by
    constructor
    · rintro rfl;decide+kernel
    · intro e;refine a0B ?_
      have e1:(cd z).drop 1=cd "0":=by rw[←a7v,e]
      cases hc:cd z with
      |nil=>rw[hc] at h;cases h
      |cons c r=>
       rw[hc] at h e1
       have hc':c=45:=by simpa using h
       have hr:r=cd "0":=e1
       rw[hc',hr]
       decide+kernel
   cases q:T5 (tl z) with
   |none=>simp
   |some n=>
    obtain⟨_,_,_,k⟩:=a1L q
    by_cases e:n=0
    · simp[e,hz,k.mp e]
    · have k':¬tl z="0":=fun z'=>e (k.mpr z')
      simp[e,hz,k']
 · rw[az h,az h];exact a2e
theorem a1H(h:a0g z=some n):intText? z=some n/\z.length<=640:=by
 unfold a0g at h
 by_cases q:(cd z).head? =some 45
 · rw [ay q] at h
   cases e:T5 (tl z) with
   |none=>rw[e] at h;cases h
   |some m=>
    rw[e] at h
    dsimp only at h
    by_cases m0:m=0
    · rw[ay m0] at h;cases h
    · rw [az m0] at h;cases h
      cases hc:cd z with
      |nil=>rw[hc] at q;cases q
      |cons c r=>
       have hc':c=45:=by rw[hc] at q;simpa using q
       have ht:cd (tl z)=r:=by rw[a7v,hc];rfl
       unfold T5 at e
       by_cases f:(cd (tl z)).all O4=true
       · rw[ay f] at e
         by_cases p:tl z=""∨5<(tl z).length∨((cd (tl z)).head? =some 48/\1<(tl z).length)
         · rw[ay p] at e;cases e
         · rw[az p] at e;cases e
           have l2:(tl z).length<=5:=aQ fun k=>p (.inr (.inl k))
           have l3:z.length=(tl z).length+1:=by rw[←o8 z,←o8 (tl z),ht,hc];rfl
           have ne:r≠[]:=fun k=>p (.inl ((a8a _).mpr (by rw[←o8,ht,k];rfl)))
           refine⟨?_,by omega⟩
           rw[ht];exact PySem.intText_neg (by rw[←hc'];exact hc) (ht▸a2H f) ne (by omega)
       · rw[az f] at e;cases e
 · rw[az q] at h;exact⟨(a1L h).1,(a1L h).2.1⟩
end L2T
namespace EV
open PySem L2
noncomputable def jnD:List (D×D):=[((.str "both"),(.int (4))),((.str "back"),(.int (2))),((.str "none"),(.int (1))),((.str "clear"),(.int (1)))]
noncomputable def jnE:E:=(.lst (.cons (.k (.str "both")) (.cons (.k (.str "back")) (.cons (.k (.str "none")) (.cons (.k (.str "both")) (.cons (.k (.str "clear")) (.cons (.k (.str "both")) .nil)))))))
noncomputable def wyE:E:=(.lst (.cons (.k (.str "left")) (.cons (.k (.str "right")) (.cons (.k (.str "either")) .nil))))
def fcE:E:=(.comp (.nm 0) (.rng1 (.v 8)) 1 [6,1] .yes (.ix (.ix (.v 2) (.bin .mod (.bin .div (.v 1) (.bin .add (.bin .mul (.bin .mul (.v 0) (.v 0)) (.k (.int (31)))) (.k (.int (7))))) (.bi .len (.cons (.v 2) .nil)))) (.k (.int (0)))))
def lB5:Ss:=(.cons (.ex (.mt .append (.v 4) (.cons (.tup (.cons (.ix (.v 3) (.v 5)) (.cons (.v 7) (.cons (.ix wyE (.bin .mod (.bin .div (.v 6) (.k (.int (6)))) (.k (.int (3))))) (.cons (.v 9) .nil))))) .nil))) .nil)
def lB4:Ss:=(.cons (.set 9 (.bi .tuple (.cons fcE .nil))) lB5)
def lB3:Ss:=(.cons (.set 8 (.ix (.dlit jnD) (.v 7))) lB4)
def lB:Ss:=(.cons (.set 6 (.call 202 (.cons (.v 0) (.cons (.bin .add (.v 5) (.k (.int (100)))) .nil)))) (.cons (.set 7 (.ix jnE (.bin .mod (.v 6) (.k (.int (6)))))) lB3))
noncomputable def abc:Str:="abcdefghijklmnopqrstuvwxyz"
def cA:E:=(.comp (.nm 0) (.rng1 (.v 1)) 1 [3,2,1] .yes (.bin .mul (.ix (.v 2) (.v 1)) (.bin .sub (.v 3) (.v 0))))
def cS:E:=(.comp (.nm 0) (.rng1 (.v 4)) 1 [0,2] .yes (.ix (.bin .add (.v 2) (.k (.str "0123456789"))) (.bin .mod (.bin .add (.bin .div (.v 1) (.k (.int (16224)))) (.bin .mul (.k (.int (7))) (.v 0))) (.k (.int (36))))))
def cB:E:=(.comp (.nm 0) (.rng1 (.v 1)) 1 [3,2,5,6] .yes (.bin .add (.bin .add (.sl (.v 4) .no (.at (.v 3))) (.ix (.v 2) (.bin .mod (.bin .add (.v 1) (.bin .mul (.k (.int (5))) (.v 0))) (.k (.int (26)))))) (.sl (.v 4) (.at (.v 3)) .no)))
def wE:E:=(.ix (.lst (.cons (.k (.int (0))) (.cons (.bin .mod (.bin .div (.v 5) (.k (.int (4)))) (.k (.int (20)))) (.cons (.bin .mod (.bin .div (.v 5) (.k (.int (4)))) (.k (.int (1000)))) (.cons (.bin .mod (.bin .div (.v 5) (.k (.int (4)))) (.k (.int (99999)))) .nil))))) (.bin .mod (.v 5) (.k (.int (4)))))
def wB:Ss:=(.cons (.set 5 (.call 202 (.cons (.v 0) (.cons (.bin .add (.v 4) (.k (.int (10)))) .nil)))) (.cons (.ex (.mt .append (.v 3) (.cons wE .nil))) .nil))
def a8M:E:=(.ix (.lst (.cons (.k (.str "above")) (.cons (.k (.str "below")) .nil))) (.bin .mod (.bin .div (.v 4) (.k (.int (4)))) (.k (.int (2)))))
def b7t:Ss:=(.cons (.ex (.mt .append (.v 2) (.cons (.tup (.cons (.ix (.ix (.v 1) (.v 3)) (.k (.int (0)))) (.cons (.v 5) (.cons (.call 205 (.cons (.bin .div (.v 4) (.k (.int (8)))) .nil)) (.cons (.call 205 (.cons (.bin .div (.v 4) (.k (.int (8000)))) .nil)) .nil))))) .nil))) .nil)
def mkB:Ss:=(.cons (.set 4 (.call 202 (.cons (.v 0) (.cons (.bin .add (.v 3) (.k (.int (40)))) .nil)))) (.cons (.iff (.cmp .eq (.bin .mod (.v 4) (.k (.int (4)))) (.k (.int (1)))) (.cons (.set 5 a8M) b7t) .nil) .nil))
def a9j:Ss:=(.cons (.iff (.cmp .gt (.bin .mod (.bin .div (.v 4) (.k (.int (2)))) (.k (.int (3)))) (.k (.int (0)))) (.cons (.ex (.mt .append (.v 2) (.cons (.tup (.cons (.ix (.ix (.v 1) (.v 3)) (.k (.int (0)))) (.cons (.v 5) (.cons (.call 205 (.cons (.bin .div (.v 4) (.k (.int (6)))) .nil)) .nil)))) .nil))) .nil) .nil) .nil)
def ptB:Ss:=(.cons (.set 4 (.call 202 (.cons (.v 0) (.cons (.bin .add (.v 3) (.k (.int (70)))) .nil)))) (.cons (.for (.nm 5) (.seq (.sl (.lst (.cons (.k (.str "above")) (.cons (.k (.str "below")) .nil))) (.at (.bin .mod (.v 4) (.k (.int (2))))) .no)) a9j) .nil))
def smE:E:=(.comp (.nm 0) (.rng1 (.bin .add (.k (.int (1))) (.bin .mod (.v 6) (.k (.int (5)))))) 1 [6,1] .yes (.ix (.ix (.v 2) (.bin .mod (.bin .div (.v 1) (.bin .add (.bin .mul (.v 0) (.k (.int (13)))) (.k (.int (5))))) (.bi .len (.cons (.v 2) .nil)))) (.k (.int (0)))))
def kB:Ss:=(.cons (.set 6 (.call 202 (.cons (.v 0) (.cons (.bin .add (.v 4) (.k (.int (130)))) .nil)))) (.cons (.set 7 smE) (.cons (.ex (.mt .append (.v 3) (.cons (.tup (.cons (.v 5) (.cons (.bi .tuple (.cons (.v 7) .nil)) .nil))) .nil))) .nil)))
def feE:E:=(.comp (.tp (.cons (.nm 0) (.cons (.nm 1) .nil))) (.enum (.call 203 (.cons (.bin .div (.v 6) (.k (.int (3)))) (.cons (.bin .add (.k (.int (1))) (.bin .mod (.v 6) (.k (.int (3))))) .nil)))) 2 [6] .yes (.tup (.cons (.v 1) (.cons (.bin .gt (.bin .mod (.bin .div (.v 2) (.bin .add (.v 0) (.k (.int (5))))) (.k (.int (4)))) (.k (.int (0)))) .nil))))
def gpE:E:=(.comp (.tp (.cons (.nm 0) (.cons (.nm 1) .nil))) (.enum (.v 4)) 2 [6] (.cmp .eq (.bin .mod (.bin .div (.v 2) (.bin .add (.bin .mul (.k (.int (7))) (.v 0)) (.k (.int (9))))) (.k (.int (4)))) (.k (.int (0)))) (.ix (.v 1) (.k (.int (0)))))
def hB4:Ss:=(.cons (.set 9 gpE) (.cons (.set 10 (.call 206 (.cons (.v 2) (.cons (.v 3) .nil)))) (.cons (.set 11 (.call 207 (.cons (.v 2) (.cons (.v 3) .nil)))) (.cons (.ret (.tup (.cons (.v 3) (.cons (.v 10) (.cons (.v 11) (.cons (.v 4) (.cons (.v 9) (.cons (.v 5) (.cons (.v 7) (.cons (.v 8) .nil)))))))))) .nil))))
def hB3:Ss:=(.cons (.set 7 feE) (.cons (.set 8 (.call 211 (.cons (.call 201 (.cons (.v 0) (.cons (.k (.int (3))) .nil))) (.cons (.v 1) (.cons (.v 3) (.cons (.v 4) (.cons (.v 5) (.cons (.v 7) .nil)))))))) hB4))
def hB2:Ss:=(.cons (.set 4 (.call 208 (.cons (.call 201 (.cons (.v 0) (.cons (.k (.int (1))) .nil))) (.cons (.v 3) .nil)))) (.cons (.set 5 (.call 209 (.cons (.call 201 (.cons (.v 0) (.cons (.k (.int (2))) .nil))) (.cons (.v 3) .nil)))) (.cons (.set 6 (.call 202 (.cons (.call 201 (.cons (.v 0) (.cons (.k (.int (2))) .nil))) (.cons (.k (.int (5))) .nil)))) hB3)))
def b2D:E:=(.bin .add (.bin .add (.bin .add (.k (.str "shape ")) (.v 0)) (.k (.str " "))) (.bi .str (.cons (.v 1) .nil)))
def b7H:E:=(.comp (.tp (.cons (.nm 0) (.cons (.nm 1) .nil))) (.seq (.ix (.v 0) (.k (.int (0))))) 2 [] .yes b2D)
def b2F:Ss:=(.cons (.set 6 (.bin .add (.bin .add (.call 213 (.cons (.v 4) .nil)) (.k (.str " "))) (.call 213 (.cons (.v 5) .nil)))) (.cons (.ex (.mt .append (.v 2) (.cons (.bin .add (.bin .add (.bin .add (.bin .add (.bin .add (.k (.str "mark ")) (.v 1)) (.k (.str " "))) (.v 3)) (.k (.str " "))) (.v 6)) .nil))) .nil))
def b5n:E:=(.bin .add (.bin .add (.bin .add (.bin .add (.bin .add (.k (.str "point ")) (.v 0)) (.k (.str " "))) (.v 1)) (.k (.str " "))) (.call 213 (.cons (.v 2) .nil)))
def b7G:E:=(.comp (.tp (.cons (.nm 0) (.cons (.nm 1) (.cons (.nm 2) .nil)))) (.seq (.ix (.v 0) (.k (.int (2))))) 3 [] .yes b5n)
def b7B:E:=(.bin .add (.lst (.cons (.k (.str "letter")) (.cons (.v 1) (.cons (.v 7) (.cons (.v 8) .nil))))) (.bi .list (.cons (.v 9) .nil)))
def b2E:Ss:=(.cons (.ex (.mt .append (.v 2) (.cons (.mt .join (.k (.str " ")) (.cons b7B .nil)) .nil))) .nil)
def b7F:E:=(.comp (.nm 0) (.seq (.ix (.v 0) (.k (.int (4))))) 1 [] .yes (.bin .add (.k (.str "gap ")) (.v 0)))
def b5l:E:=(.bin .add (.lst (.cons (.k (.str "class")) (.cons (.v 0) .nil))) (.bi .list (.cons (.v 1) .nil)))
def b7E:E:=(.comp (.tp (.cons (.nm 0) (.cons (.nm 1) .nil))) (.seq (.ix (.v 0) (.k (.int (5))))) 2 [] .yes (.mt .join (.k (.str " ")) (.cons b5l .nil)))
def b5m:E:=(.bin .add (.bin .add (.bin .add (.k (.str "feature ")) (.v 0)) (.k (.str " "))) (.ix (.lst (.cons (.k (.str "off")) (.cons (.k (.str "on")) .nil))) (.bi .int (.cons (.v 1) .nil))))
def b7D:E:=(.comp (.tp (.cons (.nm 0) (.cons (.nm 1) .nil))) (.seq (.ix (.v 0) (.k (.int (6))))) 2 [] .yes b5m)
noncomputable def b7C:E:=(.comp (.nm 0) (.seq (.ix (.v 0) (.k (.int (7))))) 1 [] .yes (.call 214 (.cons (.v 0) .nil)))
noncomputable def htP(a b c d:Nat):Pat:=.tp (.cons (.nm a) (.cons (.nm b) (.cons (.nm c) (.cons (.nm d) .nil))))
def ckB:Ss:=(.cons (.iff (.cmp .notin (.v 3) (.fld (.v 0) "letters")) (.cons (.rais 2 (.cons (.v 2) .nil)) .nil) .nil) .nil)
noncomputable def naB:Ss:=(.cons (.ex (.mt .append (.v 1) (.cons (.v 2) .nil))) (.cons (.iff (.val (.gin false (.v 3) [(.str "left"),(.str "right")])) (.cons (.set 2 (.v 3)) .nil) .nil) .nil))
noncomputable def woT:E:=(.comp (.nm 0) (.seq (.v 1)) 1 [0] .yes (.call 35 (.cons (.ix (.fld (.v 1) "letters") (.v 0)) .nil)))
def woI:S:=(.iff (.val (.gin false (.v 9) [(.str "left"),(.str "right")])) (.cons (.set 7 (.v 9)) .nil) (.cons (.iff (.cmp .eq (.v 9) (.k (.str "either"))) (.cons (.set 7 (.call 37 (.cons (.ix (.v 4) (.v 8)) (.cons (.ix (.v 5) (.v 8)) (.cons (.v 2) .nil))))) .nil) .nil) .nil))
def woB:Ss:=(.cons woI (.cons (.ex (.mt .append (.v 6) (.cons (.v 7) .nil))) .nil))
noncomputable def duK:E:=(.bi .dict (.cons (.comp (.tp (.cons (.nm 0) (.cons (.nm 1) (.cons (.nm 2) (.cons (.nm 3) .nil))))) (.seq (.v 0)) 4 [] .yes (.tup (.cons (.v 0) (.cons (.tup (.cons (.v 1) (.cons (.v 2) .nil))) .nil)))) .nil))
def duS:E:=(.comp (.nm 0) (.seq (.v 1)) 1 [3] .yes (.ife (.cmp .eq (.ix (.ix (.v 1) (.v 0)) (.k (.int (0)))) (.k (.str "clear"))) (.k (.str "none")) (.ix (.ix (.v 1) (.v 0)) (.k (.int (1))))))
def duT:T:=(.cmp .isin (.v 0) (.tup (.cons (.k (.str "left")) (.cons (.k (.str "right")) .nil))))
def duA:E:=(.comp (.nm 0) (.seq (.sl (.v 4) .no (.at (.v 6)))) 1 [] duT (.v 0))
def duZ:E:=(.comp (.nm 0) (.seq (.sl (.v 4) (.at (.bin .add (.v 6) (.k (.int (1))))) .no)) 1 [] duT (.v 0))
def duN:Ss:=(.cons (.ex (.mt .append (.v 5) (.cons (.ix (.bin .add (.lst (.cons (.v 2) .nil)) (.v 5)) (.neg (.k (.int (1))))) .nil))) .nil)
def duC:T:=(.an (.cmp .gt (.bi .len (.cons (.v 7) .nil)) (.k (.int (0)))) (.an (.cmp .gt (.bi .len (.cons (.v 8) .nil)) (.k (.int (0)))) (.cmp .eq (.ix (.v 7) (.neg (.k (.int (1))))) (.ix (.v 8) (.k (.int (0)))))))
def duE:S:=(.iff duC (.cons (.ex (.mt .append (.v 5) (.cons (.ix (.v 7) (.neg (.k (.int (1))))) .nil))) .nil) (.cons (.ex (.mt .append (.v 5) (.cons (.v 2) .nil))) .nil))
def duW:S:=(.iff (.cmp .ne (.ix (.v 4) (.v 6)) (.k (.str "either"))) (.cons (.ex (.mt .append (.v 5) (.cons (.ix (.v 4) (.v 6)) .nil))) .nil) (.cons duE .nil))
def duB:Ss:=(.cons (.set 7 duA) (.cons (.set 8 duZ) (.cons (.iff (.cmp .eq (.ix (.v 4) (.v 6)) (.k (.str "none"))) duN (.cons duW .nil)) .nil)))
def rbC:E:=(.comp (.tp (.cons (.nm 0) (.cons (.nm 1) .nil))) (.enum (.v 4)) 2 [3] .yes (.ix (.ix (.v 2) (.bin .mod (.call 202 (.cons (.v 1) (.cons (.v 0) .nil))) (.bi .len (.cons (.v 2) .nil)))) (.k (.int (0)))))
noncomputable def nmE:E:=(.comp (.nm 0) (.seq (.v 1)) 1 [] .yes (.ix (.v 0) (.k (.int (0)))))
def odC:E:=(.comp (.nm 0) (.seq (.lst (.cons (.k (.str "q")) (.cons (.k (.str "0")) (.cons (.bin .add (.ix (.v 3) (.k (.int (0)))) (.k (.str "z"))) (.cons (.bin .add (.sl (.ix (.v 3) (.neg (.k (.int (1))))) (.at (.k (.int (1)))) .no) (.k (.str "9"))) (.cons (.k (.str "left")) .nil))))))) 1 [3] (.an (.cmp .notin (.v 0) (.v 1)) (.cmp .ne (.v 0) (.k (.str "")))) (.v 0))
def a8f(c a b:Int):S:=(.iff (.cmp .eq (.bin .mod (.v 4) (.k (.int c))) (.k (.int (0)))) (.cons (.ex (.mt .insert (.v 2) (.cons (.bin .mod (.bin .div (.v 4) (.k (.int a))) (.bin .add (.bi .len (.cons (.v 2) .nil)) (.k (.int (1))))) (.cons (.sl (.ix (.v 5) (.bin .mod (.bin .div (.v 4) (.k (.int b))) (.bi .len (.cons (.v 5) .nil)))) .no (.at (.k (.int (12))))) .nil)))) .nil) .nil)
def laC:E:=(.comp (.nm 0) (.rng1 (.bi .len (.cons (.v 4) .nil))) 1 [3,4] (.cmp .notin (.ix (.v 2) (.v 0)) (.v 1)) (.v 0))
def laB:Ss:=(.cons (.set 7 (.bi .list (.cons (.v 4) .nil))) (.cons (.set 8 (.call 34 (.cons (.v 2) (.cons (.v 7) (.cons (.v 6) .nil))))) (.cons (.set 9 (.call 217 (.cons (.ix (.v 1) (.k (.int (3)))) (.cons (.v 4) (.cons (.v 6) .nil))))) (.cons (.iff (.orr (.nt (.val (.isi (.v 8) (.b "list")))) (.orr (.cmp .ne (.v 8) (.v 9)) (.cmp .ne (.v 7) (.v 4)))) (.cons (.ret (.k (.bl false))) .nil) .nil) (.cons (.ex (.mt .append (.v 8) (.cons (.v 6) .nil))) (.cons (.iff (.cmp .ne (.call 34 (.cons (.v 2) (.cons (.v 7) (.cons (.v 6) .nil)))) (.v 9)) (.cons (.ret (.k (.bl false))) .nil) .nil) .nil))))))
def o6:Fn:=⟨2,4,1,(.cons (.for (.tp (.cons (.nm 2) (.cons (.nm 3) .nil))) (.enum (.v 1)) (.cons (.iff (.cmp .notin (.v 3) (.fld (.v 0) "letters")) (.cons (.rais 2 (.cons (.v 2) .nil)) .nil) .nil) .nil)) .nil)⟩
def V2:Fn:=⟨1,1,2,(.cons (.ret (.comp (.nm 0) (.seq (.mt .split (.v 0) (.cons (.k (.str " ")) .nil))) 1 [] (.cmp .ne (.v 0) (.k (.str ""))) (.v 0))) .nil)⟩
def Z8:Fn:=⟨2,2,1,(.cons (.ret (.bi .all (.cons (.comp (.nm 0) (.seq (.v 0)) 1 [1] .yes (.bin .isin (.v 0) (.v 1))) .nil))) .nil)⟩
noncomputable def Z9:Fn:=⟨1,1,1,(.cons (.ret (.an (.chn .le .le (.k (.int (1))) (.bi .len (.cons (.v 0) .nil)) (.k (.int (12)))) (.call 2 (.cons (.v 0) (.cons (.k (.str "abcdefghijklmnopqrstuvwxyz0123456789")) .nil))))) .nil)⟩
def O8:Fn:=⟨1,1,1,(.cons (.iff (.orr (.nt (.chn .le .le (.k (.int (1))) (.bi .len (.cons (.v 0) .nil)) (.k (.int (5))))) (.nt (.val (.call 2 (.cons (.v 0) (.cons (.k (.str "0123456789")) .nil)))))) (.cons (.ret (.k (.bl false))) .nil) .nil) (.cons (.ret (.orr (.bin .eq (.v 0) (.k (.str "0"))) (.bin .ne (.ix (.v 0) (.k (.int (0)))) (.k (.str "0"))))) .nil))⟩
def C0:Fn:=⟨1,1,1,(.cons (.iff (.val (.mt .starts (.v 0) (.cons (.k (.str "-")) .nil))) (.cons (.ret (.an (.bin .ne (.v 0) (.k (.str "-0"))) (.call 4 (.cons (.sl (.v 0) (.at (.k (.int (1)))) .no) .nil)))) .nil) .nil) (.cons (.ret (.call 4 (.cons (.v 0) .nil))) .nil))⟩
noncomputable def L6:Fn:=⟨1,1,1,(.cons (.ret (.sl (.v 0) (.at (.bi .len (.cons (.k (.str "@")) .nil))) .no)) .nil)⟩
noncomputable def L4:Fn:=⟨1,1,1,(.cons (.ret (.an (.mt .starts (.v 0) (.cons (.k (.str "@")) .nil)) (.call 3 (.cons (.call 6 (.cons (.v 0) .nil)) .nil)))) .nil)⟩
noncomputable def a1h:Fn:=⟨1,1,1,(.cons (.ret (.orr (.call 3 (.cons (.v 0) .nil)) (.call 7 (.cons (.v 0) .nil)))) .nil)⟩
noncomputable def X9:Fn:=⟨1,1,1,(.cons (.ret (.bi .all (.cons (.comp (.nm 0) (.seq (.v 0)) 1 [] .yes (.call 3 (.cons (.v 0) .nil))) .nil))) .nil)⟩
noncomputable def E1:Fn:=⟨1,1,1,(.cons (.ret (.bi .all (.cons (.comp (.nm 0) (.seq (.v 0)) 1 [] .yes (.call 5 (.cons (.v 0) .nil))) .nil))) .nil)⟩
noncomputable def Y0:Fn:=⟨1,1,1,(.cons (.ret (.bi .all (.cons (.comp (.nm 0) (.seq (.v 0)) 1 [] .yes (.call 8 (.cons (.v 0) .nil))) .nil))) .nil)⟩
def G2:Fn:=⟨3,10,2,(.cons (.ex (.call 33 (.cons (.v 0) (.cons (.v 1) .nil)))) (.cons (.set 3 woT) (.cons (.set 4 (.call 36 (.cons (.v 3) .nil))) (.cons (.set 5 (.rev (.call 36 (.cons (.rev (.v 3)) .nil)))) (.cons (.set 6 (.lst .nil)) (.cons (.set 7 (.v 2)) (.cons (.for (.tp (.cons (.nm 8) (.cons (.nm 9) .nil))) (.enum (.v 3)) woB) (.cons (.ret (.v 6)) .nil))))))))⟩
def K2:Fn:=⟨1,1,1,(.cons (.ret (.ife (.cmp .eq (.ix (.v 0) (.k (.int (0)))) (.k (.str "clear"))) (.k (.str "clear")) (.ix (.v 0) (.k (.int (1)))))) .nil)⟩
def z6:Fn:=⟨1,4,2,(.cons (.set 1 (.lst .nil)) (.cons (.set 2 (.k .non)) (.cons (.for (.nm 3) (.seq (.v 0)) naB) (.cons (.ret (.v 1)) .nil))))⟩
def C8:Fn:=⟨3,3,1,(.cons (.iff (.an (.notN (.v 0)) (.cmp .eq (.v 0) (.v 1))) (.cons (.ret (.v 0)) .nil) .nil) (.cons (.ret (.v 2)) .nil))⟩
noncomputable def L0:Fn:=⟨1,1,0,(.cons (.sfl (.v 0) "shapes" .dnew) (.cons (.sfl (.v 0) "marks" .dnew) (.cons (.sfl (.v 0) "points" .dnew) (.cons (.sfl (.v 0) "letters" .dnew) (.cons (.sfl (.v 0) "gaps" (.lst .nil)) (.cons (.sfl (.v 0) "classes" .dnew) (.cons (.sfl (.v 0) "features" .dnew) (.cons (.sfl (.v 0) "rules" (.lst .nil)) .nil))))))))⟩
def O7:Fn:=⟨1,6,0,(.cons (.set 1 (.mk 6 .nil)) (.cons (.for (.tp (.cons (.nm 2) (.cons (.nm 3) .nil))) (.enum (.mt .split (.v 0) (.cons (.k (.str "\n")) .nil))) (.cons (.set 4 (.call 1 (.cons (.v 3) .nil))) (.cons (.iff (.cmp .gt (.bi .len (.cons (.v 4) .nil)) (.k (.int (0)))) (.cons (.set 5 (.call 13 (.cons (.v 1) (.cons (.v 4) .nil)))) (.cons (.iff (.notN (.v 5)) (.cons .bad .nil) .nil) .nil)) .nil) .nil))) (.cons (.ret (.v 1)) .nil)))⟩
def B9:Fn:=⟨2,3,0,(.cons (.set 2 (.ix (.v 1) (.k (.int (0))))) (.cons (.iff (.cmp .eq (.v 2) (.k (.str "shape"))) (.cons (.ret (.call 17 (.cons (.v 0) (.cons (.v 1) .nil)))) .nil) .nil) (.cons (.iff (.cmp .eq (.v 2) (.k (.str "mark"))) (.cons (.ret (.call 19 (.cons (.v 0) (.cons (.v 1) .nil)))) .nil) .nil) (.cons (.iff (.cmp .eq (.v 2) (.k (.str "point"))) (.cons (.ret (.call 20 (.cons (.v 0) (.cons (.v 1) .nil)))) .nil) .nil) (.cons (.iff (.cmp .eq (.v 2) (.k (.str "letter"))) (.cons (.ret (.call 22 (.cons (.v 0) (.cons (.v 1) .nil)))) .nil) .nil) (.cons (.iff (.cmp .eq (.v 2) (.k (.str "gap"))) (.cons (.ret (.call 23 (.cons (.v 0) (.cons (.v 1) .nil)))) .nil) .nil) (.cons (.iff (.cmp .eq (.v 2) (.k (.str "class"))) (.cons (.ret (.call 24 (.cons (.v 0) (.cons (.v 1) .nil)))) .nil) .nil) (.cons (.iff (.cmp .eq (.v 2) (.k (.str "feature"))) (.cons (.ret (.call 25 (.cons (.v 0) (.cons (.v 1) .nil)))) .nil) .nil) (.cons (.iff (.cmp .eq (.v 2) (.k (.str "rule"))) (.cons (.ret (.call 26 (.cons (.v 0) (.cons (.v 1) .nil)))) .nil) .nil) (.cons (.ret (.k (.str "row"))) .nil))))))))))⟩
noncomputable def O9:Fn:=⟨3,3,1,(.cons (.iff (.val (.v 0)) (.cons (.ret (.k (.str "twice"))) .nil) .nil) (.cons (.iff (.nt (.val (.v 1))) (.cons (.ret (.k (.str "name"))) .nil) .nil) (.cons (.iff (.val (.v 2)) (.cons (.ret (.k (.str "many"))) .nil) .nil) (.cons (.ret (.k .non)) .nil))))⟩
def M5:Fn:=⟨2,2,1,(.cons (.ret (.bi .all (.cons (.comp (.nm 0) (.seq (.v 1)) 1 [0] .yes (.bin .isin (.v 0) (.fld (.v 1) "shapes"))) .nil))) .nil)⟩
noncomputable def Z7:Fn:=⟨1,1,1,(.cons (.ret (.tup (.cons (.bi .int (.cons (.ix (.v 0) (.k (.int (0)))) .nil)) (.cons (.bi .int (.cons (.ix (.v 0) (.k (.int (1)))) .nil)) .nil)))) .nil)⟩
def M2:Fn:=⟨2,4,0,(.cons (.iff (.orr (.cmp .ne (.bi .len (.cons (.v 1) .nil)) (.k (.int (3)))) (.orr (.nt (.val (.call 3 (.cons (.ix (.v 1) (.k (.int (1)))) .nil)))) (.nt (.val (.call 4 (.cons (.ix (.v 1) (.k (.int (2)))) .nil)))))) (.cons (.ret (.k (.str "row"))) .nil) .nil) (.cons (.set 2 (.ix (.v 1) (.k (.int (1))))) (.cons (.set 3 (.call 14 (.cons (.bin .isin (.v 2) (.fld (.v 0) "shapes")) (.cons (.k (.bl true)) (.cons (.bin .ge (.bi .len (.cons (.fld (.v 0) "shapes") .nil)) (.k (.int (60)))) .nil))))) (.cons (.iff (.isN (.v 3)) (.cons (.six (.fld (.v 0) "shapes") (.v 2) (.bi .int (.cons (.ix (.v 1) (.k (.int (2)))) .nil))) .nil) .nil) (.cons (.ret (.v 3)) .nil)))))⟩
def F8:Fn:=⟨2,2,1,(.cons (.iff (.orr (.cmp .ne (.bi .len (.cons (.v 0) .nil)) (.bin .add (.k (.int (3))) (.v 1))) (.nt (.val (.call 3 (.cons (.ix (.v 0) (.k (.int (1)))) .nil))))) (.cons (.ret (.k (.bl false))) .nil) .nil) (.cons (.ret (.an (.gin false (.ix (.v 0) (.k (.int (2)))) [(.str "above"),(.str "below")]) (.call 10 (.cons (.sl (.v 0) (.at (.k (.int (3)))) .no) .nil)))) .nil))⟩
def O6:Fn:=⟨2,4,0,(.cons (.iff (.nt (.val (.call 18 (.cons (.v 1) (.cons (.k (.int (4))) .nil))))) (.cons (.ret (.k (.str "row"))) .nil) .nil) (.cons (.set 2 (.ix (.v 1) (.k (.int (1))))) (.cons (.set 3 (.call 14 (.cons (.bin .isin (.v 2) (.fld (.v 0) "marks")) (.cons (.bin .isin (.v 2) (.fld (.v 0) "shapes")) (.cons (.k (.bl false)) .nil))))) (.cons (.iff (.isN (.v 3)) (.cons (.six (.fld (.v 0) "marks") (.v 2) (.tup (.cons (.ix (.v 1) (.k (.int (2)))) (.cons (.call 16 (.cons (.sl (.v 1) (.at (.k (.int (3)))) (.at (.k (.int (5))))) .nil)) (.cons (.call 16 (.cons (.sl (.v 1) (.at (.k (.int (5)))) (.at (.k (.int (7))))) .nil)) .nil))))) .nil) .nil) (.cons (.ret (.v 3)) .nil)))))⟩
def M3:Fn:=⟨2,5,0,(.cons (.iff (.nt (.val (.call 18 (.cons (.v 1) (.cons (.k (.int (2))) .nil))))) (.cons (.ret (.k (.str "row"))) .nil) .nil) (.cons (.set 2 (.ix (.v 1) (.k (.int (1))))) (.cons (.set 3 (.tup (.cons (.v 2) (.cons (.ix (.v 1) (.k (.int (2)))) .nil)))) (.cons (.set 4 (.call 14 (.cons (.bin .isin (.v 3) (.fld (.v 0) "points")) (.cons (.bin .isin (.v 2) (.fld (.v 0) "shapes")) (.cons (.k (.bl false)) .nil))))) (.cons (.iff (.isN (.v 4)) (.cons (.six (.fld (.v 0) "points") (.v 3) (.call 16 (.cons (.sl (.v 1) (.at (.k (.int (3)))) (.at (.k (.int (5))))) .nil))) .nil) .nil) (.cons (.ret (.v 4)) .nil))))))⟩
def D3:Fn:=⟨1,2,1,(.cons (.iff (.orr (.cmp .lt (.bi .len (.cons (.v 0) .nil)) (.k (.int (4)))) (.nt (.val (.call 3 (.cons (.ix (.v 0) (.k (.int (1)))) .nil))))) (.cons (.ret (.k (.bl false))) .nil) .nil) (.cons (.iff (.orr (.val (.gdin true (.ix (.v 0) (.k (.int (2)))) [((.str "none"),(.int (1))),((.str "clear"),(.int (1))),((.str "back"),(.int (2))),((.str "both"),(.int (4)))])) (.val (.gin true (.ix (.v 0) (.k (.int (3)))) [(.str "left"),(.str "right"),(.str "either")]))) (.cons (.ret (.k (.bl false))) .nil) .nil) (.cons (.set 1 (.sl (.v 0) (.at (.k (.int (4)))) .no)) (.cons (.ret (.an (.bin .eq (.bi .len (.cons (.v 1) .nil)) (.gdix (.ix (.v 0) (.k (.int (2)))) [((.str "none"),(.int (1))),((.str "clear"),(.int (1))),((.str "back"),(.int (2))),((.str "both"),(.int (4)))])) (.call 9 (.cons (.v 1) .nil)))) .nil))))⟩
def K6:Fn:=⟨2,5,0,(.cons (.iff (.nt (.val (.call 21 (.cons (.v 1) .nil)))) (.cons (.ret (.k (.str "row"))) .nil) .nil) (.cons (.set 2 (.ix (.v 1) (.k (.int (1))))) (.cons (.set 3 (.sl (.v 1) (.at (.k (.int (4)))) .no)) (.cons (.set 4 (.call 14 (.cons (.bin .isin (.v 2) (.fld (.v 0) "letters")) (.cons (.call 15 (.cons (.v 0) (.cons (.v 3) .nil))) (.cons (.bin .ge (.bi .len (.cons (.fld (.v 0) "letters") .nil)) (.k (.int (24)))) .nil))))) (.cons (.iff (.isN (.v 4)) (.cons (.six (.fld (.v 0) "letters") (.v 2) (.tup (.cons (.ix (.v 1) (.k (.int (2)))) (.cons (.ix (.v 1) (.k (.int (3)))) (.cons (.bi .tuple (.cons (.v 3) .nil)) .nil))))) .nil) .nil) (.cons (.ret (.v 4)) .nil))))))⟩
def V3:Fn:=⟨2,4,0,(.cons (.iff (.orr (.cmp .ne (.bi .len (.cons (.v 1) .nil)) (.k (.int (2)))) (.nt (.val (.call 3 (.cons (.ix (.v 1) (.k (.int (1)))) .nil))))) (.cons (.ret (.k (.str "row"))) .nil) .nil) (.cons (.set 2 (.ix (.v 1) (.k (.int (1))))) (.cons (.set 3 (.call 14 (.cons (.bin .isin (.v 2) (.fld (.v 0) "gaps")) (.cons (.bin .isin (.v 2) (.fld (.v 0) "letters")) (.cons (.k (.bl false)) .nil))))) (.cons (.iff (.isN (.v 3)) (.cons (.ex (.mt .append (.fld (.v 0) "gaps") (.cons (.v 2) .nil))) .nil) .nil) (.cons (.ret (.v 3)) .nil)))))⟩
def M4:Fn:=⟨2,5,0,(.cons (.set 2 (.sl (.v 1) (.at (.k (.int (2)))) .no)) (.cons (.iff (.orr (.nt (.chn .le .le (.k (.int (1))) (.bi .len (.cons (.v 2) .nil)) (.k (.int (20))))) (.nt (.val (.call 9 (.cons (.sl (.v 1) (.at (.k (.int (1)))) .no) .nil))))) (.cons (.ret (.k (.str "row"))) .nil) .nil) (.cons (.set 3 (.ix (.v 1) (.k (.int (1))))) (.cons (.set 4 (.call 14 (.cons (.bin .isin (.v 3) (.fld (.v 0) "classes")) (.cons (.call 15 (.cons (.v 0) (.cons (.v 2) .nil))) (.cons (.bin .ge (.bi .len (.cons (.fld (.v 0) "classes") .nil)) (.k (.int (20)))) .nil))))) (.cons (.iff (.isN (.v 4)) (.cons (.six (.fld (.v 0) "classes") (.v 3) (.bi .tuple (.cons (.v 2) .nil))) .nil) .nil) (.cons (.ret (.v 4)) .nil))))))⟩
def J0:Fn:=⟨2,4,0,(.cons (.iff (.orr (.cmp .ne (.bi .len (.cons (.v 1) .nil)) (.k (.int (3)))) (.orr (.nt (.val (.call 3 (.cons (.ix (.v 1) (.k (.int (1)))) .nil)))) (.val (.gin true (.ix (.v 1) (.k (.int (2)))) [(.str "on"),(.str "off")])))) (.cons (.ret (.k (.str "row"))) .nil) .nil) (.cons (.set 2 (.ix (.v 1) (.k (.int (1))))) (.cons (.set 3 (.call 14 (.cons (.bin .isin (.v 2) (.fld (.v 0) "features")) (.cons (.k (.bl true)) (.cons (.bin .ge (.bi .len (.cons (.fld (.v 0) "features") .nil)) (.k (.int (10)))) .nil))))) (.cons (.iff (.isN (.v 3)) (.cons (.six (.fld (.v 0) "features") (.v 2) (.bin .eq (.ix (.v 1) (.k (.int (2)))) (.k (.str "on")))) .nil) .nil) (.cons (.ret (.v 3)) .nil)))))⟩
def X4:Fn:=⟨2,8,0,(.cons (.iff (.nt (.val (.call 27 (.cons (.v 1) .nil)))) (.cons (.ret (.k (.str "row"))) .nil) .nil) (.cons (.set 2 (.ix (.v 1) (.k (.int (1))))) (.cons (.set 3 (.ix (.v 1) (.k (.int (2))))) (.cons (.set 4 (.call 28 (.cons (.v 1) .nil))) (.cons (.set 5 (.bin .add (.bin .add (.ix (.v 4) (.k (.int (0)))) (.ix (.v 4) (.k (.int (1))))) (.ix (.v 4) (.k (.int (2)))))) (.cons (.set 6 (.an (.bin .isin (.v 3) (.fld (.v 0) "features")) (.an (.call 29 (.cons (.v 0) (.cons (.v 5) .nil))) (.call 15 (.cons (.v 0) (.cons (.ix (.v 4) (.k (.int (3)))) .nil)))))) (.cons (.set 7 (.call 14 (.cons (.call 31 (.cons (.v 0) (.cons (.v 2) .nil))) (.cons (.v 6) (.cons (.bin .ge (.bi .len (.cons (.fld (.v 0) "rules") .nil)) (.k (.int (30)))) .nil))))) (.cons (.iff (.isN (.v 7)) (.cons (.ex (.mt .append (.fld (.v 0) "rules") (.cons (.tup (.cons (.v 2) (.cons (.v 3) (.cons (.bi .tuple (.cons (.ix (.v 4) (.k (.int (0)))) .nil)) (.cons (.bi .tuple (.cons (.ix (.v 4) (.k (.int (1)))) .nil)) (.cons (.bi .tuple (.cons (.ix (.v 4) (.k (.int (2)))) .nil)) (.cons (.bi .tuple (.cons (.ix (.v 4) (.k (.int (3)))) .nil)) .nil))))))) .nil))) .nil) .nil) (.cons (.ret (.v 7)) .nil)))))))))⟩
def L5:Fn:=⟨1,2,1,(.cons (.iff (.nt (.val (.call 9 (.cons (.sl (.v 0) (.at (.k (.int (1)))) (.at (.k (.int (3))))) .nil)))) (.cons (.ret (.k (.bl false))) .nil) .nil) (.cons (.set 1 (.call 28 (.cons (.v 0) .nil))) (.cons (.iff (.orr (.isN (.v 1)) (.orr (.cmp .gt (.bi .len (.cons (.ix (.v 1) (.k (.int (0)))) .nil)) (.k (.int (3)))) (.cmp .gt (.bi .len (.cons (.ix (.v 1) (.k (.int (2)))) .nil)) (.k (.int (3)))))) (.cons (.ret (.k (.bl false))) .nil) .nil) (.cons (.iff (.orr (.nt (.chn .le .le (.k (.int (1))) (.bi .len (.cons (.ix (.v 1) (.k (.int (1)))) .nil)) (.k (.int (4))))) (.nt (.chn .le .le (.k (.int (1))) (.bi .len (.cons (.ix (.v 1) (.k (.int (3)))) .nil)) (.k (.int (3)))))) (.cons (.ret (.k (.bl false))) .nil) .nil) (.cons (.ret (.an (.call 11 (.cons (.bin .add (.bin .add (.ix (.v 1) (.k (.int (0)))) (.ix (.v 1) (.k (.int (1))))) (.ix (.v 1) (.k (.int (2))))) .nil)) (.call 9 (.cons (.ix (.v 1) (.k (.int (3)))) .nil)))) .nil)))))⟩
def V4:Fn:=⟨1,4,0,(.cons (.set 1 (.lst (.cons (.lst .nil) .nil))) (.cons (.set 2 (.lst .nil)) (.cons (.for (.nm 3) (.seq (.sl (.v 0) (.at (.k (.int (3)))) .no)) (.cons (.iff (.cmp .isin (.v 3) (.tup (.cons (.k (.str "/")) (.cons (.k (.str ">")) .nil)))) (.cons (.ex (.mt .append (.v 2) (.cons (.v 3) .nil))) (.cons (.ex (.mt .append (.v 1) (.cons (.lst .nil) .nil))) .nil)) (.cons (.ex (.mt .append (.ix (.v 1) (.neg (.k (.int (1))))) (.cons (.v 3) .nil))) .nil)) .nil)) (.cons (.iff (.cmp .ne (.v 2) (.lst (.cons (.k (.str "/")) (.cons (.k (.str "/")) (.cons (.k (.str ">")) .nil))))) (.cons (.ret (.k .non)) .nil) .nil) (.cons (.ret (.v 1)) .nil)))))⟩
noncomputable def X5:Fn:=⟨2,2,1,(.cons (.ret (.bi .all (.cons (.comp (.nm 0) (.seq (.v 1)) 1 [0] .yes (.call 30 (.cons (.v 1) (.cons (.v 0) .nil)))) .nil))) .nil)⟩
def a0w:Fn:=⟨2,2,1,(.cons (.iff (.val (.call 7 (.cons (.v 1) .nil))) (.cons (.ret (.bin .isin (.call 6 (.cons (.v 1) .nil)) (.fld (.v 0) "classes"))) .nil) .nil) (.cons (.ret (.bin .isin (.v 1) (.fld (.v 0) "shapes"))) .nil))⟩
def a0v:Fn:=⟨2,2,1,(.cons (.ret (.bi .any (.cons (.comp (.nm 0) (.seq (.fld (.v 0) "rules")) 1 [1] .yes (.bin .eq (.ix (.v 0) (.k (.int (0)))) (.v 1))) .nil))) .nil)⟩
def z0:Fn:=⟨2,2,1,(.cons (.iff (.cmp .lt (.v 1) (.bi .len (.cons (.v 0) .nil))) (.cons (.ret (.ix (.v 0) (.v 1))) .nil) .nil) (.cons (.ret (.k (.int (0)))) .nil))⟩
def n8:Fn:=⟨2,2,1,(.cons (.ret (.bin .mod (.bin .mul (.bin .mul (.bin .add (.bin .mod (.v 0) (.k (.int (2305843009213693951)))) (.k (.int (1)))) (.bin .add (.bin .mul (.v 1) (.v 1)) (.k (.int (48271))))) (.k (.int (40692)))) (.k (.int (2147483399))))) .nil)⟩
def l8:Fn:=⟨2,7,2,(.cons (.set 2 (.k (.str abc))) (.cons (.set 3 (.bin .mod (.bin .div (.v 0) (.k (.int (4)))) (.k (.int (26))))) (.cons (.iff (.an (.cmp .eq (.bin .mod (.v 0) (.k (.int (4)))) (.k (.int (0)))) (.cmp .lt (.v 1) (.k (.int (13))))) (.cons (.ret cA) .nil) .nil) (.cons (.set 4 (.bin .mod (.bin .div (.v 0) (.k (.int (104)))) (.k (.int (12))))) (.cons (.set 5 (.bin .mod (.bin .div (.v 0) (.k (.int (1248)))) (.bin .add (.v 4) (.k (.int (1)))))) (.cons (.set 6 (.mt .join (.k (.str "")) (.cons cS .nil))) (.cons (.ret cB) .nil)))))))⟩
def x0:Fn:=⟨1,6,2,(.cons (.set 1 (.call 202 (.cons (.v 0) (.cons (.k (.int (1))) .nil)))) (.cons (.set 2 (.call 203 (.cons (.bin .div (.v 1) (.k (.int (13)))) (.cons (.bin .add (.k (.int (4))) (.bin .mod (.v 1) (.k (.int (13))))) .nil)))) (.cons (.set 3 (.lst .nil)) (.cons (.for (.nm 4) (.rng1 (.bi .len (.cons (.v 2) .nil))) wB) (.cons (.ret (.comp (.tp (.cons (.nm 0) (.cons (.nm 1) .nil))) (.zip (.v 2) (.v 3)) 2 [] .yes (.tup (.cons (.v 0) (.cons (.v 1) .nil))))) .nil)))))⟩
def t9:Fn:=⟨1,1,1,(.cons (.ret (.tup (.cons (.bin .sub (.bin .mod (.v 0) (.k (.int (41)))) (.k (.int (20)))) (.cons (.ix (.lst (.cons (.k (.int (0))) (.cons (.bin .mod (.bin .div (.v 0) (.k (.int (41)))) (.k (.int (99999)))) (.cons (.neg (.bin .mod (.bin .div (.v 0) (.k (.int (41)))) (.k (.int (99999))))) .nil)))) (.bin .mod (.bin .div (.v 0) (.k (.int (7)))) (.k (.int (3))))) .nil)))) .nil)⟩
def z8:Fn:=⟨2,6,2,(.cons (.set 2 (.lst .nil)) (.cons (.for (.nm 3) (.rng1 (.bi .len (.cons (.v 1) .nil))) mkB) (.cons (.ret (.v 2)) .nil)))⟩
def y7:Fn:=⟨2,6,2,(.cons (.set 2 (.lst .nil)) (.cons (.for (.nm 3) (.rng1 (.bi .len (.cons (.v 1) .nil))) ptB) (.cons (.ret (.v 2)) .nil)))⟩
def u8:Fn:=⟨2,10,2,(.cons (.set 2 (.call 202 (.cons (.v 0) (.cons (.k (.int (2))) .nil)))) (.cons (.set 3 (.call 203 (.cons (.bin .div (.v 2) (.k (.int (6)))) (.cons (.bin .add (.k (.int (1))) (.bin .mod (.v 2) (.k (.int (6))))) .nil)))) (.cons (.set 4 (.lst .nil)) (.cons (.for (.nm 5) (.rng1 (.bi .len (.cons (.v 3) .nil))) lB) (.cons (.ret (.v 4)) .nil)))))⟩
def u9:Fn:=⟨2,8,2,(.cons (.set 2 (.call 202 (.cons (.v 0) (.cons (.k (.int (3))) .nil)))) (.cons (.set 3 (.lst .nil)) (.cons (.for (.tp (.cons (.nm 4) (.cons (.nm 5) .nil))) (.enum (.call 203 (.cons (.bin .div (.v 2) (.k (.int (4)))) (.cons (.bin .add (.k (.int (1))) (.bin .mod (.v 2) (.k (.int (3))))) .nil)))) kB) (.cons (.ret (.v 3)) .nil))))⟩
def V8:Fn:=⟨5,9,1,(.cons (.set 5 (.lst .nil)) (.cons (.for (.nm 6) (.rng1 (.v 1)) (.cons (.set 7 (.bin .div (.v 0) (.bin .add (.bin .mul (.bin .mul (.v 6) (.v 6)) (.k (.int (17)))) (.k (.int (3)))))) (.cons (.iff (.cmp .eq (.bin .mod (.v 7) (.k (.int (3)))) (.k (.int (0)))) (.cons (.ex (.mt .append (.v 5) (.cons (.bin .add (.k (.str "@")) (.ix (.ix (.v 4) (.bin .mod (.bin .div (.v 7) (.k (.int (3)))) (.bi .len (.cons (.v 4) .nil)))) (.k (.int (0))))) .nil))) .nil) (.cons (.iff (.cmp .eq (.bin .mod (.v 7) (.k (.int (3)))) (.k (.int (1)))) (.cons (.set 8 (.ix (.ix (.v 3) (.bin .mod (.bin .div (.v 7) (.k (.int (3)))) (.bi .len (.cons (.v 3) .nil)))) (.k (.int (3))))) (.cons (.ex (.mt .append (.v 5) (.cons (.ix (.v 8) (.bin .mod (.bin .div (.v 7) (.k (.int (50)))) (.bi .len (.cons (.v 8) .nil)))) .nil))) .nil)) (.cons (.ex (.mt .append (.v 5) (.cons (.ix (.ix (.v 2) (.bin .mod (.bin .div (.v 7) (.k (.int (3)))) (.bi .len (.cons (.v 2) .nil)))) (.k (.int (0)))) .nil))) .nil)) .nil)) .nil))) (.cons (.ret (.bi .tuple (.cons (.v 5) .nil))) .nil)))⟩
def z7:Fn:=⟨6,17,2,(.cons (.set 6 (.lst .nil)) (.cons (.for (.tp (.cons (.nm 7) (.cons (.nm 8) .nil))) (.enum (.call 203 (.cons (.call 202 (.cons (.v 0) (.cons (.k (.int (4))) .nil))) (.cons (.v 1) .nil)))) (.cons (.set 9 (.call 202 (.cons (.v 0) (.cons (.bin .add (.v 7) (.k (.int (160)))) .nil)))) (.cons (.set 10 (.call 202 (.cons (.v 0) (.cons (.bin .add (.v 7) (.k (.int (190)))) .nil)))) (.cons (.set 11 (.lst (.cons (.ix (.lst (.cons (.k (.int (0))) (.cons (.k (.int (0))) (.cons (.k (.int (0))) (.cons (.k (.int (1))) (.cons (.k (.int (2))) (.cons (.k (.int (3))) .nil))))))) (.bin .mod (.v 9) (.k (.int (6))))) (.cons (.ix (.lst (.cons (.k (.int (1))) (.cons (.k (.int (2))) (.cons (.k (.int (1))) (.cons (.k (.int (2))) (.cons (.k (.int (3))) (.cons (.k (.int (4))) (.cons (.k (.int (1))) .nil)))))))) (.bin .mod (.bin .div (.v 9) (.k (.int (6)))) (.k (.int (7))))) (.cons (.ix (.lst (.cons (.k (.int (0))) (.cons (.k (.int (0))) (.cons (.k (.int (0))) (.cons (.k (.int (1))) (.cons (.k (.int (2))) (.cons (.k (.int (3))) .nil))))))) (.bin .mod (.bin .div (.v 9) (.k (.int (42)))) (.k (.int (6))))) .nil))))) (.cons (.set 12 (.call 210 (.cons (.v 10) (.cons (.ix (.v 11) (.k (.int (0)))) (.cons (.v 2) (.cons (.v 3) (.cons (.v 4) .nil))))))) (.cons (.set 13 (.call 210 (.cons (.bin .add (.bin .div (.v 10) (.k (.int (11)))) (.bin .mul (.k (.int (5))) (.v 7))) (.cons (.ix (.v 11) (.k (.int (1)))) (.cons (.v 2) (.cons (.v 3) (.cons (.v 4) .nil))))))) (.cons (.set 14 (.call 210 (.cons (.bin .add (.bin .div (.v 10) (.k (.int (101)))) (.k (.int (3)))) (.cons (.ix (.v 11) (.k (.int (2)))) (.cons (.v 2) (.cons (.v 3) (.cons (.v 4) .nil))))))) (.cons (.set 15 (.ix (.lst (.cons (.k (.int (1))) (.cons (.k (.int (1))) (.cons (.k (.int (1))) (.cons (.k (.int (2))) (.cons (.bin .add (.k (.int (2))) (.bi .int (.cons (.bin .eq (.v 7) (.k (.int (0)))) .nil))) .nil)))))) (.bin .mod (.bin .div (.v 9) (.k (.int (252)))) (.k (.int (5)))))) (.cons (.set 16 (.bi .tuple (.cons (.comp (.nm 0) (.rng1 (.v 15)) 1 [9,2] .yes (.ix (.ix (.v 2) (.bin .mod (.bin .div (.v 1) (.bin .add (.bin .mul (.v 0) (.k (.int (7)))) (.k (.int (3))))) (.bi .len (.cons (.v 2) .nil)))) (.k (.int (0))))) .nil))) (.cons (.ex (.mt .append (.v 6) (.cons (.tup (.cons (.v 8) (.cons (.ix (.ix (.v 5) (.bin .mod (.bin .div (.v 9) (.k (.int (1260)))) (.bi .len (.cons (.v 5) .nil)))) (.k (.int (0)))) (.cons (.v 12) (.cons (.v 13) (.cons (.v 14) (.cons (.v 16) .nil))))))) .nil))) .nil)))))))))) (.cons (.ret (.v 6)) .nil)))⟩
def E4:Fn:=⟨2,12,0,(.cons (.set 2 (.call 201 (.cons (.v 0) (.cons (.k (.int (0))) .nil)))) (.cons (.set 3 (.call 204 (.cons (.v 2) .nil))) hB2))⟩
def y8:Fn:=⟨1,1,1,(.cons (.ret (.bin .add (.bin .add (.bi .str (.cons (.ix (.v 0) (.k (.int (0)))) .nil)) (.k (.str " "))) (.bi .str (.cons (.ix (.v 0) (.k (.int (1)))) .nil)))) .nil)⟩
def T9:Fn:=⟨1,2,1,(.cons (.set 1 (.bin .add (.bin .add (.bin .add (.lst (.cons (.k (.str "rule")) (.cons (.ix (.v 0) (.k (.int (0)))) (.cons (.ix (.v 0) (.k (.int (1)))) .nil)))) (.bi .list (.cons (.ix (.v 0) (.k (.int (2)))) .nil))) (.lst (.cons (.k (.str "/")) .nil))) (.bi .list (.cons (.ix (.v 0) (.k (.int (3)))) .nil)))) (.cons (.ret (.mt .join (.k (.str " ")) (.cons (.bin .add (.bin .add (.bin .add (.bin .add (.v 1) (.lst (.cons (.k (.str "/")) .nil))) (.bi .list (.cons (.ix (.v 0) (.k (.int (4)))) .nil))) (.lst (.cons (.k (.str ">")) .nil))) (.bi .list (.cons (.ix (.v 0) (.k (.int (5)))) .nil))) .nil))) .nil))⟩
def B0:Fn:=⟨1,10,1,(.cons (.set 2 b7H) (.cons (.for (htP 1 3 4 5) (.seq (.ix (.v 0) (.k (.int (1))))) b2F) (.cons (.set 2 (.bin .add (.v 2) b7G)) (.cons (.for (htP 1 7 8 9) (.seq (.ix (.v 0) (.k (.int (3))))) b2E) (.cons (.set 2 (.bin .add (.v 2) b7F)) (.cons (.set 2 (.bin .add (.v 2) b7E)) (.cons (.set 2 (.bin .add (.v 2) b7D)) (.cons (.ret (.mt .join (.k (.str "\n")) (.cons (.bin .add (.v 2) b7C) .nil))) .nil))))))))⟩
def F7:Fn:=⟨4,5,2,(.cons (.set 4 (.sl (.v 0) (.at (.v 1)) (.at (.bin .add (.v 1) (.v 2))))) (.cons (.ret rbC) .nil))⟩
def N6:Fn:=⟨3,9,2,(.cons (.set 3 duK) (.cons (.set 4 duS) (.cons (.set 5 (.lst .nil)) (.cons (.for (.nm 6) (.rng1 (.bi .len (.cons (.v 1) .nil))) duB) (.cons (.ret (.v 5)) .nil)))))⟩
def E3:Fn:=⟨3,6,2,(.cons (.set 3 nmE) (.cons (.set 4 (.call 202 (.cons (.call 201 (.cons (.v 0) (.cons (.k (.int (4))) .nil))) (.cons (.k (.int (11))) .nil)))) (.cons (.set 5 odC) (.cons (.set 2 (.bi .list (.cons (.v 2) .nil))) (.cons (a8f 5 5 500) (.cons (a8f 10 7 900) (.cons (.ret (.v 2)) .nil)))))))⟩
def E2:Fn:=⟨3,6,1,(.cons (.set 3 (.k .non)) (.cons (.tryc 34 (.cons (.v 0) (.cons (.v 1) (.cons (.k (.str "left")) .nil))) 0 4 3) (.cons (.iff (.orr (.nt (.val (.isi (.v 3) (.c 2)))) (.nt (.val (.isi (.v 3) (.b "ValueError"))))) (.cons (.ret (.k (.bl false))) .nil) .nil) (.cons (.set 5 (.lst (.cons (.isi (.v 3) (.c 1)) (.cons (.isi (.v 3) (.c 3)) (.cons (.isi (.v 3) (.c 4)) .nil))))) (.cons (.ret (.an (.bin .eq (.v 5) (.lst (.cons (.k (.bl false)) (.cons (.k (.bl false)) (.cons (.k (.bl false)) .nil))))) (.an (.nt (.isi (.v 3) (.c 5))) (.bin .eq (.fld (.v 3) "place") (.v 2))))) .nil)))))⟩
def a5n:Fn:=⟨1,10,0,(.cons (.set 1 (.call 212 (.cons (.v 0) (.cons (.k (.int (0))) .nil)))) (.cons (.set 2 (.call 12 (.cons (.call 215 (.cons (.v 1) .nil)) .nil))) (.cons (.set 3 (.comp (.nm 0) (.seq (.ix (.v 1) (.k (.int (3))))) 1 [] .yes (.ix (.v 0) (.k (.int (0)))))) (.cons (.set 4 (.call 218 (.cons (.v 0) (.cons (.ix (.v 1) (.k (.int (3)))) (.cons (.call 216 (.cons (.v 0) (.cons (.k (.int (5))) (.cons (.k (.int (60))) (.cons (.ix (.v 1) (.k (.int (3)))) .nil))))) .nil))))) (.cons (.set 5 laC) (.cons (.iff (.cmp .gt (.bi .len (.cons (.v 5) .nil)) (.k (.int (0)))) (.cons (.ret (.call 219 (.cons (.v 2) (.cons (.v 4) (.cons (.ix (.v 5) (.k (.int (0)))) .nil))))) .nil) .nil) (.cons (.for (.nm 6) (.seq (.lst (.cons (.k (.str "left")) (.cons (.k (.str "right")) .nil)))) laB) (.cons (.ret (.k (.bl true))) .nil))))))))⟩
end EV
namespace K37
open PySem L2 EV
noncomputable def top(i:Nat):Stmt:=PySem.Challenge.pw_glyphhall_k37_ways.main.body.getD i (.Pass ⟨0,0,0,0⟩)
noncomputable def fe(x:Str)(a b:Nat):Str×Nat×Nat:=(x,a,b)
def se(x:Str)(d:D):Str×D:=(x,d)
def fns:List (Str×Nat×Nat):=[fe "words_of" 1 1,fe "made_of" 2 2,fe "is_name" 3 1,fe "is_number" 4 1,fe "is_signed_number" 5 1,fe "class_of_item" 6 1,fe "is_class_item" 7 1,fe "is_item" 8 1,fe "all_names" 9 1,fe "all_signed_numbers" 10 1,fe "all_items" 11 1,fe "read_hall" 12 1,fe "take_row" 13 2,fe "first_due" 14 3,fe "has_shapes" 15 2,fe "pair_of" 16 1,fe "take_shape" 17 2,fe "has_side_form" 18 2,fe "take_mark" 19 2,fe "take_point" 20 2,fe "has_letter_form" 21 1,fe "take_letter" 22 2,fe "take_gap" 23 2,fe "take_class" 24 2,fe "take_feature" 25 2,fe "take_rule" 26 2,fe "has_rule_form" 27 1,fe "rule_parts" 28 1,fe "has_items" 29 2,fe "has_item" 30 2,fe "has_rule" 31 2,fe "check_letters" 33 2,fe "ways_of" 34 3,fe "told_way" 35 1,fe "nearest_ahead" 36 1,fe "way_between" 37 3,fe "_law_cell_at" 201 2,fe "_law_mixed" 202 2,fe "_law_names_by" 203 2,fe "_law_shapes_by" 204 1,fe "_law_spot_by" 205 1,fe "_law_marks_by" 206 2,fe "_law_points_by" 207 2,fe "_law_letters_by" 208 2,fe "_law_classes_by" 209 2,fe "_law_items_by" 210 5,fe "_law_rules_by" 211 6,fe "_law_hall_by" 212 2,fe "_law_pair_text" 213 1,fe "_law_rule_text" 214 1,fe "_law_hall_text" 215 1,fe "_law_row_by" 216 4,fe "_law_due" 217 3,fe "_law_lacking" 218 3,fe "_law_refused" 219 3,fe "law" 220 1]
def G:GT:={
 fn:=fns
 scal:=[se "FIGURES" (.str "0123456789"),se "NAME_SIGNS" (.str "abcdefghijklmnopqrstuvwxyz0123456789"),se "CLASS_SIGN" (.str "@"),se "LONGEST_NAME" (.int 12),se "LONGEST_NUMBER" (.int 5),se "MOST_SHAPES" (.int 60),se "MOST_LETTERS" (.int 24),se "MOST_CLASSES" (.int 20),se "MOST_FEATURES" (.int 10),se "MOST_RULES" (.int 30),se "MOST_IN_CLASS" (.int 20),se "MOST_AROUND" (.int 3),se "MOST_IN_CORE" (.int 4),se "MOST_TOLD" (.int 3)]
 tups:=[("SIDES",[.str "above",.str "below"]),("WAYS",[.str "left",.str "right",.str "either"]),("SWITCHES",[.str "on",.str "off"]),("STRONG_WAYS",[.str "left",.str "right"])]
 dicts:=[("SHAPES_OF_JOIN",[(.str "none",.int 1),(.str "clear",.int 1),(.str "back",.int 2),(.str "both",.int 4)])]
 cls:=[("HallError",0),("BadHall",1),("NoLetter",2),("NoFeature",3),("NoRow",4),("BadDeed",5)]
 rs:=[("NoLetter",2)]
 obj:=[("Hall",6)]
 hb:=0
 atts:=["shapes","marks","points","letters","gaps","classes","features","rules","place"]
 blt:=["len","str","int","list","tuple","all","any","isinstance","bool","range","enumerate","zip","dict","reversed","ValueError"]}
def F(i:Nat):Option Fn:=match i with
 |1=>some V2
 |2=>some Z8
 |3=>some Z9
 |4=>some O8
 |5=>some C0
 |6=>some L6
 |7=>some L4
 |8=>some a1h
 |9=>some X9
 |10=>some E1
 |11=>some Y0
 |12=>some O7
 |13=>some B9
 |14=>some O9
 |15=>some M5
 |16=>some Z7
 |17=>some M2
 |18=>some F8
 |19=>some O6
 |20=>some M3
 |21=>some D3
 |22=>some K6
 |23=>some V3
 |24=>some M4
 |25=>some J0
 |26=>some X4
 |27=>some L5
 |28=>some V4
 |29=>some X5
 |30=>some a0w
 |31=>some a0v
 |33=>some o6
 |34=>some G2
 |35=>some K2
 |36=>some z6
 |37=>some C8
 |201=>some z0
 |202=>some n8
 |203=>some l8
 |204=>some x0
 |205=>some t9
 |206=>some z8
 |207=>some y7
 |208=>some u8
 |209=>some u9
 |210=>some V8
 |211=>some z7
 |212=>some E4
 |213=>some y8
 |214=>some T9
 |215=>some B0
 |216=>some F7
 |217=>some N6
 |218=>some E3
 |219=>some E2
 |220=>some a5n
 |32=>some L0
 |_=>none
noncomputable def ct:CT:=⟨fun _=>32,fun _=>[("place":Str)],fun _ j=>decide (j=0)||decide (j=2)⟩
abbrev SN:Stmt:=a7e (top 3) 0
abbrev SH:Stmt:=a7e (top 46) 0
theorem bd0{P:List Value->Prop}(h:P []):∀us,us.length=0->P us:=fun us e=>List.eq_nil_of_length_eq_zero e▸h
theorem bdS{P:List Value->Prop}{n:Nat}(h:∀a us,us.length=n->P (a::us)):∀us,us.length=n+1->P us:=fun us e=>by
 cases us with
 |nil=>cases e
 |cons a r=>exact h a r (Nat.succ.inj e)
theorem bd1{P:List Value->Prop}(h:∀a,P [a]):∀us,us.length=1->P us:=bdS fun a=>bd0 (P:=fun l=>P (a::l)) (h a)
theorem bd2{P:List Value->Prop}(h:∀a b,P [a,b]):∀us,us.length=2->P us:=bdS fun a=>bd1 (P:=fun l=>P (a::l)) (h a)
theorem bd3{P:List Value->Prop}(h:∀a b c,P [a,b,c]):∀us,us.length=3->P us:=bdS fun a=>bd2 (P:=fun l=>P (a::l)) (h a)
theorem bd4{P:List Value->Prop}(h:∀a b c d,P [a,b,c,d]):∀us,us.length=4->P us:=bdS fun a=>bd3 (P:=fun l=>P (a::l)) (h a)
theorem bd5{P:List Value->Prop}(h:∀a b c d e,P [a,b,c,d,e]):∀us,us.length=5->P us:=bdS fun a=>bd4 (P:=fun l=>P (a::l)) (h a)
theorem bd6{P:List Value->Prop}(h:∀a b c d e f,P [a,b,c,d,e,f]):∀us,us.length=6->P us:=bdS fun a=>bd5 (P:=fun l=>P (a::l)) (h a)
abbrev Bd(x q:Str)(st:Stmt)(ps:List Str):Prop:=∀(kV doc pm:Value) (an:Option Addr) (cdv ct:Value) (us:List Value),us.length=ps.length->bindArgs (PySem.W.fnOf x q (M6 st) (F9 st) (o4 st) .none kV doc pm an cdv ct) ⟨us,[]⟩=pure (ps.zip us)
def pO(st:Stmt):List Str:=(M6 st).args.map (·.arg)
def nO(st:Stmt):List Str:=pO st++((o4 st).names.filter fun y=>(y.2==.local||y.2==.cell)&&!(pO st).contains y.1).map (·.1)
structure Rw(x:Str)(st:Stmt)(id np:Nat)(f:Fn):Prop where
 a:FnScope (nO st) (pO st) (o4 st)
 b:Bd x x st (pO st)
 p:(pO st).length=np
 i:F id=some f
 q:f.np=np
 s:f.ns=(nO st).length
 c:cSs G (nO st) (o4 st) 20 (F9 st)=some f.body
local macro_rules | `(tactic| ac_rfl) => `(tactic| exact ⟨⟨rfl, rfl, rfl, by decide +kernel, by kernel_rfl, by decide +kernel, by decide +kernel⟩, fun _ _ _ _ _ _ => by first | exact bd1 fun _ => rfl | exact bd2 fun _ _ => rfl | exact bd3 fun _ _ _ => rfl | exact bd4 fun _ _ _ _ => rfl | exact bd5 fun _ _ _ _ _ => rfl | exact bd6 fun _ _ _ _ _ _ => rfl, by kernel_rfl, rfl, rfl, by kernel_rfl, by kernel_rfl⟩)
theorem R1:Rw "words_of" (top 15) 1 1 V2:=by ac_rfl
theorem R2:Rw "made_of" (top 16) 2 2 Z8:=by ac_rfl
theorem R3:Rw "is_name" (top 17) 3 1 Z9:=by ac_rfl
theorem R4:Rw "is_number" (top 18) 4 1 O8:=by ac_rfl
theorem R5:Rw "is_signed_number" (top 19) 5 1 C0:=by ac_rfl
theorem R6:Rw "class_of_item" (top 20) 6 1 L6:=by ac_rfl
theorem R7:Rw "is_class_item" (top 21) 7 1 L4:=by ac_rfl
theorem R8:Rw "is_item" (top 22) 8 1 a1h:=by ac_rfl
theorem R9:Rw "all_names" (top 23) 9 1 X9:=by ac_rfl
theorem R10:Rw "all_signed_numbers" (top 24) 10 1 E1:=by ac_rfl
theorem R11:Rw "all_items" (top 25) 11 1 Y0:=by ac_rfl
theorem R12:Rw "read_hall" (top 47) 12 1 O7:=by ac_rfl
theorem R13:Rw "take_row" (top 48) 13 2 B9:=by ac_rfl
theorem R14:Rw "first_due" (top 49) 14 3 O9:=by ac_rfl
theorem R15:Rw "has_shapes" (top 50) 15 2 M5:=by ac_rfl
theorem R16:Rw "pair_of" (top 51) 16 1 Z7:=by ac_rfl
theorem R17:Rw "take_shape" (top 52) 17 2 M2:=by ac_rfl
theorem R18:Rw "has_side_form" (top 53) 18 2 F8:=by ac_rfl
theorem R19:Rw "take_mark" (top 54) 19 2 O6:=by ac_rfl
theorem R20:Rw "take_point" (top 55) 20 2 M3:=by ac_rfl
theorem R21:Rw "has_letter_form" (top 56) 21 1 D3:=by ac_rfl
theorem R22:Rw "take_letter" (top 57) 22 2 K6:=by ac_rfl
theorem R23:Rw "take_gap" (top 58) 23 2 V3:=by ac_rfl
theorem R24:Rw "take_class" (top 59) 24 2 M4:=by ac_rfl
theorem R25:Rw "take_feature" (top 60) 25 2 J0:=by ac_rfl
theorem R26:Rw "take_rule" (top 61) 26 2 X4:=by ac_rfl
theorem R27:Rw "has_rule_form" (top 62) 27 1 L5:=by ac_rfl
theorem R28:Rw "rule_parts" (top 63) 28 1 V4:=by ac_rfl
theorem R29:Rw "has_items" (top 64) 29 2 X5:=by ac_rfl
theorem R30:Rw "has_item" (top 65) 30 2 a0w:=by ac_rfl
theorem R31:Rw "has_rule" (top 66) 31 2 a0v:=by ac_rfl
theorem R33:Rw "check_letters" (top 8) 33 2 o6:=by ac_rfl
theorem R34:Rw "ways_of" (top 28) 34 3 G2:=by ac_rfl
theorem R35:Rw "told_way" (top 29) 35 1 K2:=by ac_rfl
theorem R36:Rw "nearest_ahead" (top 30) 36 1 z6:=by ac_rfl
theorem R37:Rw "way_between" (top 31) 37 3 C8:=by ac_rfl
theorem c0s:Rw "_law_cell_at" (top 68) 201 2 z0:=by ac_rfl
theorem c0r:Rw "_law_mixed" (top 69) 202 2 n8:=by ac_rfl
theorem c0q:Rw "_law_names_by" (top 70) 203 2 l8:=by ac_rfl
theorem c0p:Rw "_law_shapes_by" (top 71) 204 1 x0:=by ac_rfl
theorem c0o:Rw "_law_spot_by" (top 72) 205 1 t9:=by ac_rfl
theorem c0n:Rw "_law_marks_by" (top 73) 206 2 z8:=by ac_rfl
theorem c0m:Rw "_law_points_by" (top 74) 207 2 y7:=by ac_rfl
theorem c0l:Rw "_law_letters_by" (top 75) 208 2 u8:=by ac_rfl
theorem c0k:Rw "_law_classes_by" (top 76) 209 2 u9:=by ac_rfl
theorem c0j:Rw "_law_items_by" (top 77) 210 5 V8:=by ac_rfl
theorem c0i:Rw "_law_rules_by" (top 78) 211 6 z7:=by ac_rfl
theorem c0h:Rw "_law_hall_by" (top 79) 212 2 E4:=by ac_rfl
theorem c0g:Rw "_law_pair_text" (top 80) 213 1 y8:=by ac_rfl
theorem c0f:Rw "_law_rule_text" (top 81) 214 1 T9:=by ac_rfl
theorem c0e:Rw "_law_hall_text" (top 82) 215 1 B0:=by ac_rfl
theorem c0d:Rw "_law_row_by" (top 83) 216 4 F7:=by ac_rfl
theorem c0c:Rw "_law_due" (top 84) 217 3 N6:=by ac_rfl
theorem c0b:Rw "_law_lacking" (top 85) 218 3 E3:=by ac_rfl
theorem c0a:Rw "_law_refused" (top 86) 219 3 E2:=by ac_rfl
theorem a4F:Rw "law" (top 87) 220 1 a5n:=by ac_rfl
theorem AH:FnScope ["self"] ["self"] (o4 SH):=⟨rfl,rfl,rfl,by decide+kernel,rfl,by decide+kernel,by decide+kernel⟩
theorem BH:Bd "__init__" "Hall.__init__" SH ["self"]:=fun _ _ _ _ _ _=>bd1 fun _=>rfl
theorem AN:FnScope ["self","place"] ["self","place"] (o4 SN):=⟨rfl,rfl,rfl,by decide+kernel,rfl,by decide+kernel,by decide+kernel⟩
theorem BN:Bd "__init__" "NoLetter.__init__" SN ["self","place"]:=fun _ _ _ _ _ _=>bd2 fun _ _=>rfl
theorem CH:cSs G ["self"] (o4 SH) 20 (F9 SH)=some L0.body:=by kernel_rfl
open PySem.W (nsIn codeIn keepIn findIn kitOne mroIn)
theorem a8w:typeLookup (.type "ValueError") "place"=pure none:=by rw[typeLookup_type,builtinLookup_eq_fast];kernel_rfl
theorem okN{P:Program}{w:World}{K:PySem.W.Frag}{mg:Str->Option Value}{f:Addr}{fd:FuncData}{C N D ND:Addr}(xc:XC K C N D ND f)(hD:mg "HallError"=some (.ref D))(F:Fun K "__init__" "NoLetter.__init__" SN f fd)(base:Heap):FnOk P w K mg base CX0 1 f fd ["self","place"] (b3Y C [("place":Str)]):=by
 refine F.ok AN (fun vs H Q E h=>?_) (fun cdv A outer s H vs Q E hr h=>?_)
 · obtain⟨a,tt,xs,rfl,hl,_⟩:=h;simp only[length_cons] at hl⊢;exact congrArg (· +1) hl
 · obtain⟨a,tt,xs,rfl,hl,hx,ha,q⟩:=h
   obtain⟨x,rfl⟩:∃x,xs=[x]:=by
    match xs,hl with
    |[x],_=>exact⟨x,rfl⟩
   refine⟨_,a4Y (a6M (b2f xc (by rfl) hD (L9 (pv 0) (L9 a5Y a1c)))) (a6L (a9l xc (by decide+kernel) a8w (pv 0) (pv 1) (by rfl))),?_⟩
   refine⟨_,rfl,a,tt,_,rfl,ha,fun t'=>?_⟩
   refine⟨_,rfl,_,rfl,a,t',rfl,c9,fun dx hdx ne=>?_⟩
   refine q dx t' _ (by rwa [g9 ne] at hdx) ne c9 (by rw[g9 ne,c9];rfl) fun b o nb hb=>?_
   have hdx':H dx=none:=by rwa [g9 ne] at hdx
   have nd:b≠dx:=o0 hb hdx'
   rw[g9 nb,g9 nd,g9 nb];exact hb
section
variable{K:PySem.W.Frag}{x:Str}
structure DfE(K:PySem.W.Frag)(x:Str)(st:Stmt):Prop where
 ex:∃f fd,nsIn K mainGlobals x=some (some (.ref f))/\Fun K x x st f fd
theorem b7N{st:Stmt}{f:Addr}{oc:Value}{od an:Option Addr}{osl:Array (Option Value)}{kV doc pm cdv ct:Value}(e1:nsIn K mainGlobals x=some (some (.ref f)))(e2:K.lookup f=some ⟨oc,od,.func (PySem.W.fnOf x x (M6 st) (F9 st) (o4 st) .none kV doc pm an cdv ct),osl⟩)(e3:codeIn K cdv x=true)(e4:keepIn K (.ref f)=true):DfE K x st:=⟨f,_,e1,a6o e2 e3 e4⟩
structure StrE(K:PySem.W.Frag)(x y:Str):Prop where
 ex:∃t,nsIn K mainGlobals x=some (some (.str y t))
theorem b3X{y:Str}{t:Tok}(e1:nsIn K mainGlobals x=some (some (.str y t))):StrE K x y:=⟨t,e1⟩
structure IntE(K:PySem.W.Frag)(x:Str)(i:Int):Prop where
 ex:∃t,nsIn K mainGlobals x=some (some (.int i t))
theorem b5k{i:Int}{t:Tok}(e1:nsIn K mainGlobals x=some (some (.int i t))):IntE K x i:=⟨t,e1⟩
structure TupE(K:PySem.W.Frag)(x:Str)(vs:List V):Prop where
 ex:∃a,nsIn K mainGlobals x=some (some (.ref a))/\∀H,SqT K H a vs
theorem b1p{a:Addr}{d:Option Addr}{n:Nat}{sl:Array (Option Value)}{y z:Str}{t u:Tok}(e1:nsIn K mainGlobals x=some (some (.ref a)))(e2:K.lookup a=some ⟨.type "tuple",d,.seq #[.str y t,.str z u] n,sl⟩):TupE K x [.str y,.str z]:=
 ⟨a,e1,fun H=>.inr ⟨_,_,_,e2,rfl,rfl,by show 2<=sizeLine;decide,.cons ⟨_,rfl⟩ (.cons ⟨_,rfl⟩ .nil)⟩⟩
theorem b1o{a:Addr}{d:Option Addr}{n:Nat}{sl:Array (Option Value)}{y z v:Str}{t u r:Tok}(e1:nsIn K mainGlobals x=some (some (.ref a)))(e2:K.lookup a=some ⟨.type "tuple",d,.seq #[.str y t,.str z u,.str v r] n,sl⟩):TupE K x [.str y,.str z,.str v]:=
 ⟨a,e1,fun H=>.inr ⟨_,_,_,e2,rfl,rfl,by show 3<=sizeLine;decide,.cons ⟨_,rfl⟩ (.cons ⟨_,rfl⟩ (.cons ⟨_,rfl⟩ .nil))⟩⟩
structure DicE(K:PySem.W.Frag)(P:Program)(w:World)(x:Str)(gs:List (Key×V)):Prop where
 ex:∃a,nsIn K mainGlobals x=some (some (.ref a))/\a8u P w K a gs
theorem b3d{P:Program}{w:World}{a:Addr}{ep:Nat}{h1 h2 h3 h4:Int}{y1 y2 y3 y4:Str}{i1 i2 i3 i4:Int}{t1 t2 t3 t4 u1 u2 u3 u4:Tok}(e1:nsIn K mainGlobals x=some (some (.ref a)))
 (e2:K.lookup a=some ⟨.type "dict",none,.dict #[⟨h1,.str y1 t1,.int i1 u1⟩,⟨h2,.str y2 t2,.int i2 u2⟩,⟨h3,.str y3 t3,.int i3 u3⟩,⟨h4,.str y4 t4,.int i4 u4⟩] ep,#[]⟩) (ha:(a==sysModules)=false)
 (q1:h1=hashStr w y1) (q2:h2=hashStr w y2) (q3:h3=hashStr w y3) (q4:h4=hashStr w y4) (nd:([.inr y1,.inr y2,.inr y3,.inr y4]:List Key).Nodup):DicE K P w x [(.inr y1,.int i1),(.inr y2,.int i2),(.inr y3,.int i3),(.inr y4,.int i4)]:=by
 refine⟨a,e1,ha,[(.inr y1,.int i1 u1),(.inr y2,.int i2 u2),(.inr y3,.int i3 u3),(.inr y4,.int i4 u4)],?_,fun h kin=>⟨_,_,_,kin a _ e2,⟨rfl,rfl,rfl⟩,rfl,?_,?_,nd⟩⟩
 · exact .cons ⟨rfl,_,rfl⟩ (.cons ⟨rfl,_,rfl⟩ (.cons ⟨rfl,_,rfl⟩ (.cons ⟨rfl,_,rfl⟩ .nil)))
 · intro e he;simp only[List.mem_toArray,aE,not_mem_nil,or_false] at he
   rcases he with rfl|rfl|rfl|rfl
   · exact⟨.inr y1,strKind_is P w y1 t1,q1⟩
   · exact⟨.inr y2,strKind_is P w y2 t2,q2⟩
   · exact⟨.inr y3,strKind_is P w y3 t3,q3⟩
   · exact⟨.inr y4,strKind_is P w y4 t4,q4⟩
 · exact .cons (strKind_is P w y1 t1) rfl (.cons (strKind_is P w y2 t2) rfl (.cons (strKind_is P w y3 t3) rfl (.cons (strKind_is P w y4 t4) rfl .nil)))
structure HallE(K:PySem.W.Frag)(C:Addr):Prop where
 ex:∃f fd,Mk K C f/\Fun K "__init__" "Hall.__init__" SH f fd
theorem b2H{C f:Addr}{oc:Value}{od an:Option Addr}{osl:Array (Option Value)}{kV doc pm cdv ct:Value}(m1:PySem.W.makesIn K C=true)(m2:findIn K (.ref C) "__init__"=some (some (.ref f)))(m3:PySem.W.isFn K (.ref f)=true)(m4:keepIn K (.ref C)=true)
 (e2:K.lookup f=some ⟨oc,od,.func (PySem.W.fnOf "__init__" "Hall.__init__" (M6 SH) (F9 SH) (o4 SH) .none kV doc pm an cdv ct),osl⟩) (e3:codeIn K cdv "Hall.__init__"=true) (e4:keepIn K (.ref f)=true):HallE K C:=⟨f,_,⟨m1,m2,m3,m4⟩,a6o e2 e3 e4⟩
structure BadE(K:PySem.W.Frag)(C D:Addr):Prop where
 ex:∃N ND fI fd,XC K C N D ND fI/\Fun K "__init__" "NoLetter.__init__" SN fI fd
theorem b5W{C N D ND fI:Addr}{nm q:Str}{bs:List Value}{sn sub ab col dd k0 k1 k2 k3 k5:_}{nm' q':Str}{bs':List Value}{sn' sub' ab' col' dd' k0' k1' k2' k3' k5':_}{oc:Value}{od an:Option Addr}{osl:Array (Option Value)}{kV doc pm cdv ct:Value}
 (lC:K.lookup C=some (excClassObj nm q C N bs (.ref D::vbm) true sn sub ab col dd k0 k1 k2 k3 k5 "ValueError.__new__")) (lD:K.lookup D=some (excClassObj nm' q' D ND bs' vbm true sn' sub' ab' col' dd' k0' k1' k2' k3' k5' "ValueError.__new__"))
 (oC:PySem.W.nsOkIn K N=true) (oD:PySem.W.nsOkIn K ND=true) (ini:nsIn K N "__init__"=some (some (.ref fI)))
 (n1:nsIn K N "__setattr__"=some none) (n2:nsIn K N "__getattribute__"=some none) (n3:nsIn K N "__getattr__"=some none) (n4:nsIn K N "__class__"=some none) (n5:nsIn K N "place"=some none) (n6:nsIn K N "word"=some none)
 (d0:nsIn K ND "__init__"=some none) (d1:nsIn K ND "__setattr__"=some none) (d2:nsIn K ND "__getattribute__"=some none) (d3:nsIn K ND "__getattr__"=some none) (d4:nsIn K ND "__class__"=some none) (d5:nsIn K ND "place"=some none) (d6:nsIn K ND "word"=some none)
 (fn:PySem.W.isFn K (.ref fI)=true) (kC:keepIn K (.ref C)=true) (rd:PySem.W.readsIn K D (.type "type")=true) (sp:PySem.W.specialIn K (.ref D) "__getattribute__"=some (some (.builtin "type.__getattribute__"))) (fi:PySem.W.findCls K (.ref D) (.type "type") "__init__"=some (.val (.builtin "ValueError.__init__")))
 (e2:K.lookup fI=some ⟨oc,od,.func (PySem.W.fnOf "__init__" "NoLetter.__init__" (M6 SN) (F9 SN) (o4 SN) .none kV doc pm an cdv ct),osl⟩) (e3:codeIn K cdv "NoLetter.__init__"=true) (e4:keepIn K (.ref fI)=true):BadE K C D:=by
 refine⟨N,ND,fI,_,⟨⟨_,_,_,_,_,_,_,_,_,_,_,_,_,lC⟩,⟨_,_,_,_,_,_,_,_,_,_,_,_,_,lD⟩,oC,oD,ini,fun f hf=>?_,fun f hf=>?_,fn,kC,rd,sp,fi⟩,a6o e2 e3 e4⟩
 · simp only[xns,drop_succ_cons,drop_zero,aE,not_mem_nil,or_false] at hf
   rcases hf with rfl|rfl|rfl|rfl|rfl|rfl<;>assumption
 · simp only[xns,aE,not_mem_nil,or_false] at hf
   rcases hf with rfl|rfl|rfl|rfl|rfl|rfl|rfl<;>assumption
end
theorem A9{α:Type}{x y:Str}{a b:α}{l:List (Str×α)}(h:((y,a)::l).lookup x=some b):(x=y/\a=b)∨l.lookup x=some b:=by
 rw[lookup_cons] at h
 split at h
 · rename_i e;exact .inl ⟨eq_of_beq e,ax h⟩
 · exact .inr h
theorem a2q{α:Type}{x:Str}{b:α}(h:([]:List (Str×α)).lookup x=some b):False:=by simp at h
section
variable{K:PySem.W.Frag}{P:Program}{w:World}{h:Heap}{mg:Str->Option Value}
theorem row{x:Str}{st:Stmt}{id np:Nat}{fn:Fn}(X:K.In h)(Gg:h.Ns mainGlobals mg)(d:DfE K x st)(R:Rw x st id np fn):∃f fd st N ps,mg x=some (.ref f)/\RowOk K G F x x id np f fd st N ps:=by
 obtain⟨f,fd,e,F⟩:=d.ex;exact⟨f,fd,st,_,_,PySem.W.mg_of X Gg e,F,R.a,F.binds R.b,R.p,fn,R.i,R.q,R.s,R.c⟩
def a4E(K:PySem.W.Frag)(mg:Str->Option Value):List (Str×Nat×Nat)->Prop
 |[]=>True
 |p::l=>(∃f fd st N ps,mg p.1=some (.ref f)/\RowOk K G F p.1 p.1 p.2.1 p.2.2 f fd st N ps)/\a4E K mg l
theorem j0{p:Str×Nat×Nat}{l:List (Str×Nat×Nat)}(h:∃f fd st N ps,mg p.1=some (.ref f)/\RowOk K G F p.1 p.1 p.2.1 p.2.2 f fd st N ps)(r:a4E K mg l):a4E K mg (p::l):=⟨h,r⟩
theorem a6F:∀{l:List (Str×Nat×Nat)},a4E K mg l->∀x id np,l.lookup x=some (id,np)->∃f fd st N ps,mg x=some (.ref f)/\RowOk K G F x x id np f fd st N ps
 |[],_,x,id,np,h=>(a2q h).elim
 |(y,a,b)::l,r,x,id,np,h=>by
  rcases A9 h with⟨rfl,e⟩|h
  · cases e;exact r.1
  · exact a6F r.2 x id np h
variable{c0 c1 c2 c3 c4 c5 c6:Addr}(k0:nsIn K mainGlobals "HallError"=some (some (.ref c0)))(k1:nsIn K mainGlobals "BadHall"=some (some (.ref c1)))(k2:nsIn K mainGlobals "NoLetter"=some (some (.ref c2)))(k3:nsIn K mainGlobals "NoFeature"=some (some (.ref c3)))(k4:nsIn K mainGlobals "NoRow"=some (some (.ref c4)))(k5:nsIn K mainGlobals "BadDeed"=some (some (.ref c5)))(k6:nsIn K mainGlobals "Hall"=some (some (.ref c6)))(f1:DfE K "words_of" (top 15))(f2:DfE K "made_of" (top 16))(f3:DfE K "is_name" (top 17))(f4:DfE K "is_number" (top 18))(f5:DfE K "is_signed_number" (top 19))(f6:DfE K "class_of_item" (top 20))(f7:DfE K "is_class_item" (top 21))(f8:DfE K "is_item" (top 22))(f9:DfE K "all_names" (top 23))(f10:DfE K "all_signed_numbers" (top 24))(f11:DfE K "all_items" (top 25))(f12:DfE K "read_hall" (top 47))(f13:DfE K "take_row" (top 48))(f14:DfE K "first_due" (top 49))(f15:DfE K "has_shapes" (top 50))(f16:DfE K "pair_of" (top 51))(f17:DfE K "take_shape" (top 52))(f18:DfE K "has_side_form" (top 53))(f19:DfE K "take_mark" (top 54))(f20:DfE K "take_point" (top 55))(f21:DfE K "has_letter_form" (top 56))(f22:DfE K "take_letter" (top 57))(f23:DfE K "take_gap" (top 58))(f24:DfE K "take_class" (top 59))(f25:DfE K "take_feature" (top 60))(f26:DfE K "take_rule" (top 61))(f27:DfE K "has_rule_form" (top 62))(f28:DfE K "rule_parts" (top 63))(f29:DfE K "has_items" (top 64))(f30:DfE K "has_item" (top 65))(f31:DfE K "has_rule" (top 66))(f33:DfE K "check_letters" (top 8))(f34:DfE K "ways_of" (top 28))(f35:DfE K "told_way" (top 29))(f36:DfE K "nearest_ahead" (top 30))(f37:DfE K "way_between" (top 31))(f201:DfE K "_law_cell_at" (top 68))(f202:DfE K "_law_mixed" (top 69))(f203:DfE K "_law_names_by" (top 70))(f204:DfE K "_law_shapes_by" (top 71))(f205:DfE K "_law_spot_by" (top 72))(f206:DfE K "_law_marks_by" (top 73))(f207:DfE K "_law_points_by" (top 74))(f208:DfE K "_law_letters_by" (top 75))(f209:DfE K "_law_classes_by" (top 76))(f210:DfE K "_law_items_by" (top 77))(f211:DfE K "_law_rules_by" (top 78))(f212:DfE K "_law_hall_by" (top 79))(f213:DfE K "_law_pair_text" (top 80))(f214:DfE K "_law_rule_text" (top 81))(f215:DfE K "_law_hall_text" (top 82))(f216:DfE K "_law_row_by" (top 83))(f217:DfE K "_law_due" (top 84))(f218:DfE K "_law_lacking" (top 85))(f219:DfE K "_law_refused" (top 86))(f220:DfE K "law" (top 87))(c_FIGURES:StrE K "FIGURES" "0123456789")(c_NAME_SIGNS:StrE K "NAME_SIGNS" "abcdefghijklmnopqrstuvwxyz0123456789")(c_CLASS_SIGN:StrE K "CLASS_SIGN" "@")(c_LONGEST_NAME:IntE K "LONGEST_NAME" 12)(c_LONGEST_NUMBER:IntE K "LONGEST_NUMBER" 5)(c_MOST_SHAPES:IntE K "MOST_SHAPES" 60)(c_MOST_LETTERS:IntE K "MOST_LETTERS" 24)(c_MOST_CLASSES:IntE K "MOST_CLASSES" 20)(c_MOST_FEATURES:IntE K "MOST_FEATURES" 10)(c_MOST_RULES:IntE K "MOST_RULES" 30)(c_MOST_IN_CLASS:IntE K "MOST_IN_CLASS" 20)(c_MOST_AROUND:IntE K "MOST_AROUND" 3)(c_MOST_IN_CORE:IntE K "MOST_IN_CORE" 4)(c_MOST_TOLD:IntE K "MOST_TOLD" 3)(t_SIDES:TupE K "SIDES" [.str "above",.str "below"])(t_SWITCHES:TupE K "SWITCHES" [.str "on",.str "off"])(t_WAYS:TupE K "WAYS" [.str "left",.str "right",.str "either"])(t_STRONG_WAYS:TupE K "STRONG_WAYS" [.str "left",.str "right"])(dJ:DicE K P w "SHAPES_OF_JOIN" [(.inr "none",.int 1),(.inr "clear",.int 1),(.inr "back",.int 2),(.inr "both",.int 4)])(hall:HallE K c6)(cl:Cls K c6)(bad:BadE K c2 c0)(mro:mroIn K c2 (.type "object")=some true)(kve:kitOne K (.ref c2) (.type "ValueError")=some true)(s0:kitOne K (.ref c2) (.ref c0)=some true)(s1:kitOne K (.ref c2) (.ref c1)=some false)(s2:kitOne K (.ref c2) (.ref c2)=some true)(s3:kitOne K (.ref c2) (.ref c3)=some false)(s4:kitOne K (.ref c2) (.ref c4)=some false)(s5:kitOne K (.ref c2) (.ref c5)=some false)(n_shapes:findIn K (.ref c6) "shapes"=some none)(n_marks:findIn K (.ref c6) "marks"=some none)(n_points:findIn K (.ref c6) "points"=some none)(n_letters:findIn K (.ref c6) "letters"=some none)(n_gaps:findIn K (.ref c6) "gaps"=some none)(n_classes:findIn K (.ref c6) "classes"=some none)(n_features:findIn K (.ref c6) "features"=some none)(n_rules:findIn K (.ref c6) "rules"=some none)(n_place:findIn K (.ref c6) "place"=some none)(b_len:nsIn K mainGlobals "len"=some none)(b_str:nsIn K mainGlobals "str"=some none)(b_int:nsIn K mainGlobals "int"=some none)(b_list:nsIn K mainGlobals "list"=some none)(b_tuple:nsIn K mainGlobals "tuple"=some none)(b_all:nsIn K mainGlobals "all"=some none)(b_any:nsIn K mainGlobals "any"=some none)(b_isinstance:nsIn K mainGlobals "isinstance"=some none)(b_bool:nsIn K mainGlobals "bool"=some none)(b_range:nsIn K mainGlobals "range"=some none)(b_enumerate:nsIn K mainGlobals "enumerate"=some none)(b_zip:nsIn K mainGlobals "zip"=some none)(b_dict:nsIn K mainGlobals "dict"=some none)(b_reversed:nsIn K mainGlobals "reversed"=some none)(b_ValueError:nsIn K mainGlobals "ValueError"=some none)
include k0 k1 k2 k3 k4 k5 k6 f1 f2 f3 f4 f5 f6 f7 f8 f9 f10 f11 f12 f13 f14 f15 f16 f17 f18 f19 f20 f21 f22 f23 f24 f25 f26 f27 f28 f29 f30 f31 f33 f34 f35 f36 f37 f201 f202 f203 f204 f205 f206 f207 f208 f209 f210 f211 f212 f213 f214 f215 f216 f217 f218 f219 f220 c_FIGURES c_NAME_SIGNS c_CLASS_SIGN c_LONGEST_NAME c_LONGEST_NUMBER c_MOST_SHAPES c_MOST_LETTERS c_MOST_CLASSES c_MOST_FEATURES c_MOST_RULES c_MOST_IN_CLASS c_MOST_AROUND c_MOST_IN_CORE c_MOST_TOLD t_SIDES t_SWITCHES t_WAYS t_STRONG_WAYS dJ hall cl bad mro kve s0 s1 s2 s3 s4 s5 n_shapes n_marks n_points n_letters n_gaps n_classes n_features n_rules n_place b_len b_str b_int b_list b_tuple b_all b_any b_isinstance b_bool b_range b_enumerate b_zip b_dict b_reversed b_ValueError
theorem b1A(X:K.In h)(Gg:h.Ns mainGlobals mg):Stat P w ⟨K,fun k=>[c0,c1,c2,c3,c4,c5,c6].getD k 0,[6],[2]⟩ G ct F mg where
 scal:=fun x d hx=>by
  have S:∀{x y:Str},StrE K x y->∃u v,mg x=some u/\n9 v u/\∀m H,Rp m H (.str y) v:=fun e=>by
   obtain⟨t,e⟩:=e.ex;exact⟨_,.str _,PySem.W.mg_of X Gg e,⟨t,rfl⟩,fun _ _=>rfl⟩
  have I:∀{x:Str} {i:Int},IntE K x i->∃u v,mg x=some u/\n9 v u/\∀m H,Rp m H (.int i) v:=fun e=>by
   obtain⟨t,e⟩:=e.ex;exact⟨_,.int _,PySem.W.mg_of X Gg e,⟨t,rfl⟩,fun _ _=>rfl⟩
  unfold G se at hx
  simp only at hx
  rcases A9 hx with⟨rfl,rfl⟩|hx
  · exact S c_FIGURES
  rcases A9 hx with⟨rfl,rfl⟩|hx
  · exact S c_NAME_SIGNS
  rcases A9 hx with⟨rfl,rfl⟩|hx
  · exact S c_CLASS_SIGN
  rcases A9 hx with⟨rfl,rfl⟩|hx
  · exact I c_LONGEST_NAME
  rcases A9 hx with⟨rfl,rfl⟩|hx
  · exact I c_LONGEST_NUMBER
  rcases A9 hx with⟨rfl,rfl⟩|hx
  · exact I c_MOST_SHAPES
  rcases A9 hx with⟨rfl,rfl⟩|hx
  · exact I c_MOST_LETTERS
  rcases A9 hx with⟨rfl,rfl⟩|hx
  · exact I c_MOST_CLASSES
  rcases A9 hx with⟨rfl,rfl⟩|hx
  · exact I c_MOST_FEATURES
  rcases A9 hx with⟨rfl,rfl⟩|hx
  · exact I c_MOST_RULES
  rcases A9 hx with⟨rfl,rfl⟩|hx
  · exact I c_MOST_IN_CLASS
  rcases A9 hx with⟨rfl,rfl⟩|hx
  · exact I c_MOST_AROUND
  rcases A9 hx with⟨rfl,rfl⟩|hx
  · exact I c_MOST_IN_CORE
  rcases A9 hx with⟨rfl,rfl⟩|hx
  · exact I c_MOST_TOLD
  exact(a2q hx).elim
 tups:=fun x ds hx=>by
  unfold G at hx
  simp only at hx
  rcases A9 hx with⟨rfl,rfl⟩|hx
  · obtain⟨a,e,s⟩:=t_SIDES.ex;exact⟨a,_,PySem.W.mg_of X Gg e,s,fun _ _=>⟨.str "above",_,rfl,rfl,⟨.str "below",_,rfl,rfl,rfl⟩⟩⟩
  rcases A9 hx with⟨rfl,rfl⟩|hx
  · obtain⟨a,e,s⟩:=t_WAYS.ex;exact⟨a,_,PySem.W.mg_of X Gg e,s,fun _ _=>⟨.str "left",_,rfl,rfl,⟨.str "right",_,rfl,rfl,⟨.str "either",_,rfl,rfl,rfl⟩⟩⟩⟩
  rcases A9 hx with⟨rfl,rfl⟩|hx
  · obtain⟨a,e,s⟩:=t_SWITCHES.ex;exact⟨a,_,PySem.W.mg_of X Gg e,s,fun _ _=>⟨.str "on",_,rfl,rfl,⟨.str "off",_,rfl,rfl,rfl⟩⟩⟩
  rcases A9 hx with⟨rfl,rfl⟩|hx
  · obtain⟨a,e,s⟩:=t_STRONG_WAYS.ex;exact⟨a,_,PySem.W.mg_of X Gg e,s,fun _ _=>⟨.str "left",_,rfl,rfl,⟨.str "right",_,rfl,rfl,rfl⟩⟩⟩
  exact(a2q hx).elim
 dicts:=fun x kvs hx=>by
  unfold G at hx
  simp only at hx
  rcases A9 hx with⟨rfl,rfl⟩|hx
  · obtain⟨a,e,d⟩:=dJ.ex;exact⟨a,_,PySem.W.mg_of X Gg e,d,fun _ _=>.cons ⟨rfl,rfl⟩ (.cons ⟨rfl,rfl⟩ (.cons ⟨rfl,rfl⟩ (.cons ⟨rfl,rfl⟩ .nil)))⟩
  exact(a2q hx).elim
 blt:=fun x hx=>by
  rw[List.contains_iff_mem] at hx;unfold G at hx;simp only[aE,not_mem_nil,or_false] at hx
  rcases hx with rfl|rfl|rfl|rfl|rfl|rfl|rfl|rfl|rfl|rfl|rfl|rfl|rfl|rfl|rfl
  · exact PySem.W.ns_none_of X Gg b_len
  · exact PySem.W.ns_none_of X Gg b_str
  · exact PySem.W.ns_none_of X Gg b_int
  · exact PySem.W.ns_none_of X Gg b_list
  · exact PySem.W.ns_none_of X Gg b_tuple
  · exact PySem.W.ns_none_of X Gg b_all
  · exact PySem.W.ns_none_of X Gg b_any
  · exact PySem.W.ns_none_of X Gg b_isinstance
  · exact PySem.W.ns_none_of X Gg b_bool
  · exact PySem.W.ns_none_of X Gg b_range
  · exact PySem.W.ns_none_of X Gg b_enumerate
  · exact PySem.W.ns_none_of X Gg b_zip
  · exact PySem.W.ns_none_of X Gg b_dict
  · exact PySem.W.ns_none_of X Gg b_reversed
  · exact PySem.W.ns_none_of X Gg b_ValueError
 fn:=fun x id np hx=>a6F (l:=fns) (j0 (row X Gg f1 R1) (j0 (row X Gg f2 R2) (j0 (row X Gg f3 R3) (j0 (row X Gg f4 R4) (j0 (row X Gg f5 R5) (j0 (row X Gg f6 R6) (j0 (row X Gg f7 R7) (j0 (row X Gg f8 R8) (j0 (row X Gg f9 R9) (j0 (row X Gg f10 R10) (j0 (row X Gg f11 R11) (j0 (row X Gg f12 R12) (j0 (row X Gg f13 R13) (j0 (row X Gg f14 R14) (j0 (row X Gg f15 R15) (j0 (row X Gg f16 R16) (j0 (row X Gg f17 R17) (j0 (row X Gg f18 R18) (j0 (row X Gg f19 R19) (j0 (row X Gg f20 R20) (j0 (row X Gg f21 R21) (j0 (row X Gg f22 R22) (j0 (row X Gg f23 R23) (j0 (row X Gg f24 R24) (j0 (row X Gg f25 R25) (j0 (row X Gg f26 R26) (j0 (row X Gg f27 R27) (j0 (row X Gg f28 R28) (j0 (row X Gg f29 R29) (j0 (row X Gg f30 R30) (j0 (row X Gg f31 R31) (j0 (row X Gg f33 R33) (j0 (row X Gg f34 R34) (j0 (row X Gg f35 R35) (j0 (row X Gg f36 R36) (j0 (row X Gg f37 R37) (j0 (row X Gg f201 c0s) (j0 (row X Gg f202 c0r) (j0 (row X Gg f203 c0q) (j0 (row X Gg f204 c0p) (j0 (row X Gg f205 c0o) (j0 (row X Gg f206 c0n) (j0 (row X Gg f207 c0m) (j0 (row X Gg f208 c0l) (j0 (row X Gg f209 c0k) (j0 (row X Gg f210 c0j) (j0 (row X Gg f211 c0i) (j0 (row X Gg f212 c0h) (j0 (row X Gg f213 c0g) (j0 (row X Gg f214 c0f) (j0 (row X Gg f215 c0e) (j0 (row X Gg f216 c0d) (j0 (row X Gg f217 c0c) (j0 (row X Gg f218 c0b) (j0 (row X Gg f219 c0a) (j0 (row X Gg f220 a4F) (True.intro))))))))))))))))))))))))))))))))))))))))))))))))))))))))) x id np hx
 obj:=fun x k hx=>by
  unfold G at hx
  simp only at hx
  rcases A9 hx with⟨rfl,rfl⟩|hx
  · obtain⟨f,fd,M,F⟩:=hall.ex;exact⟨by simp,PySem.W.mg_of X Gg k6,f,fd,SH,["self"],["self"],"Hall.__init__",M,F,AH,F.binds BH,rfl,L0,rfl,rfl,rfl,CH⟩
  exact(a2q hx).elim
 att:=fun k hk=>by
  have:k=6:=by simpa using hk
  subst this;refine⟨cl,fun f hf=>?_⟩
  rw[List.contains_iff_mem] at hf;unfold G at hf;simp only[aE,not_mem_nil,or_false] at hf
  rcases hf with rfl|rfl|rfl|rfl|rfl|rfl|rfl|rfl|rfl
  · exact n_shapes
  · exact n_marks
  · exact n_points
  · exact n_letters
  · exact n_gaps
  · exact n_classes
  · exact n_features
  · exact n_rules
  · exact n_place
 xatt:=fun k hk=>by
  have:k=2:=by simpa using hk
  subst this;obtain⟨N,ND,fI,fd,xc,_⟩:=bad.ex;exact⟨N,ND,fI,xc,mro,kve⟩
 sub:=fun x j hx=>by
  unfold G at hx
  simp only at hx
  have one:∀{k:Nat},k∈[2]->k=2:=fun h=>by simpa using h
  rcases A9 hx with⟨rfl,rfl⟩|hx
  · exact⟨PySem.W.mg_of X Gg k0,fun k hk=>by rw[one hk];exact s0⟩
  rcases A9 hx with⟨rfl,rfl⟩|hx
  · exact⟨PySem.W.mg_of X Gg k1,fun k hk=>by rw[one hk];exact s1⟩
  rcases A9 hx with⟨rfl,rfl⟩|hx
  · exact⟨PySem.W.mg_of X Gg k2,fun k hk=>by rw[one hk];exact s2⟩
  rcases A9 hx with⟨rfl,rfl⟩|hx
  · exact⟨PySem.W.mg_of X Gg k3,fun k hk=>by rw[one hk];exact s3⟩
  rcases A9 hx with⟨rfl,rfl⟩|hx
  · exact⟨PySem.W.mg_of X Gg k4,fun k hk=>by rw[one hk];exact s4⟩
  rcases A9 hx with⟨rfl,rfl⟩|hx
  · exact⟨PySem.W.mg_of X Gg k5,fun k hk=>by rw[one hk];exact s5⟩
  exact(a2q hx).elim
 rs:=fun x k hx=>by
  unfold G at hx
  simp only at hx
  rcases A9 hx with⟨rfl,rfl⟩|hx
  · obtain⟨N,ND,fI,fd,xc,F⟩:=bad.ex;exact⟨by simp,PySem.W.mg_of X Gg k2,N,ND,fI,fd,["self","place"],xc,F.binds BN,fun base=>okN xc (PySem.W.mg_of X Gg k0) F base⟩
  exact(a2q hx).elim
theorem b1B:∃cA,DfE K "law" (top 87)/\∀{h:Heap} {mg:Str->Option Value},K.In h->h.Ns mainGlobals mg->Stat P w ⟨K,cA,[6],[2]⟩ G ct F mg:=⟨_,f220,fun X Gg=>b1A k0 k1 k2 k3 k4 k5 k6 f1 f2 f3 f4 f5 f6 f7 f8 f9 f10 f11 f12 f13 f14 f15 f16 f17 f18 f19 f20 f21 f22 f23 f24 f25 f26 f27 f28 f29 f30 f31 f33 f34 f35 f36 f37 f201 f202 f203 f204 f205 f206 f207 f208 f209 f210 f211 f212 f213 f214 f215 f216 f217 f218 f219 f220 c_FIGURES c_NAME_SIGNS c_CLASS_SIGN c_LONGEST_NAME c_LONGEST_NUMBER c_MOST_SHAPES c_MOST_LETTERS c_MOST_CLASSES c_MOST_FEATURES c_MOST_RULES c_MOST_IN_CLASS c_MOST_AROUND c_MOST_IN_CORE c_MOST_TOLD t_SIDES t_SWITCHES t_WAYS t_STRONG_WAYS dJ hall cl bad mro kve s0 s1 s2 s3 s4 s5 n_shapes n_marks n_points n_letters n_gaps n_classes n_features n_rules n_place b_len b_str b_int b_list b_tuple b_all b_any b_isinstance b_bool b_range b_enumerate b_zip b_dict b_reversed b_ValueError X Gg⟩
end
open PyProof.Rows hiding St
theorem b6w{l:PySem.W.OpenLaw}{n k:Nat}{q:Program}{loose:List Str}{XP:(Str->Option Value)->Heap->Prop}{YP:World->Heap->Prop}{d:DefRec}{K:Params->PySem.W.Frag}{CX:World->CXT}{sp:PySem.W.Frag->Sp}{x:Str}
 (hn:l.most=some n) (hn2:n<=sizeLine) (hdf:d.params.defaults=[]) (hr:Room k callerA)
 (hY:∀(w:World) (h:Heap),YP w h->(K w.params).In h)
 (F:∀(w:World) (mg:Str->Option Value) (fa:Addr) (h:Heap),(K w.params).In h->h.Ns mainGlobals mg->mg d.name=some (.ref fa)→
  ∃fd:FuncData,(∀(s:Shared) (u:Value),BindsTo s fd ⟨[u],[]⟩ [(x,u)])∧
   ∀base:Heap,(K w.params).In base->base.Ns mainGlobals mg->FnOk l.prog w (K w.params) mg base (CX w) k fa fd [x] (sp (K w.params)))
 (hsp:∀(w:World) (H:Hp) (a:Addr) (ns:List Int),ns.length<=n->b1f H->SqL (K w.params) H a (ns.map V.int)->sp (K w.params) [.ref a] H (fun v _=>v=.bl true) fun _ _ _=>False)
 (hCX:∀(w:World) (H:Hp) (s:Shared) (e:Value) (s':Shared),CX w [] H s (fun _ _ _=>False) e s'->False):
 PySem.W.WalkO q loose XP YP l.row.toRowW d [] (fun f vs=>PySem.call f vs):=
 b1m (K:=K) (CX:=CX) (sp:=fun w=>sp (K w.params)) hn hn2 hdf hr hY F hsp hCX
def spK(K:PySem.W.Frag):Sp:=fun vs H Q E=>∀cA,a3I ⟨K,cA,[6],[2]⟩ (b6 ct F 20) 220 1 vs H Q E
theorem b5r{K:PySem.W.Frag}{P:Program}{w:World}{cA:Nat->Addr}{h:Heap}{mg:Str->Option Value}{fa:Addr}(D:DfE K "law" (top 87))(S:Stat P w ⟨K,cA,[6],[2]⟩ G ct F mg)(X:K.In h)(Gg:h.Ns mainGlobals mg)(hmg:mg "law"=some (.ref fa)):
 ∃fd,(∀(s:Shared) (u:Value),BindsTo s fd ⟨[u],[]⟩ [("_law_script",u)])/\∀base:Heap,FnOk P w K mg base (CXr P w) 46 fa fd ["_law_script"] (spK K):=by
 obtain⟨f,fd,e,Fn⟩:=D.ex;have e0:=hmg.symm.trans (PySem.W.mg_of X Gg e);cases e0
 have R:RowOk K G F "law" "law" 220 1 fa fd (top 87) (nO (top 87)) (pO (top 87)):=⟨Fn,a4F.a,Fn.binds a4F.b,a4F.p,a5n,a4F.i,a4F.q,a4F.s,a4F.c⟩
 refine⟨fd,fun s u=>?_,fun base=>?_⟩
 · obtain⟨oc,od,kV,doc,pm,an,cdv,ct,osl,rfl,lk,hcd⟩:=Fn.ex;exact .of_eq (a4F.b kV doc pm an cdv ct [u] rfl)
 · have ih:=b5q S 19;have g:=a4i S ih.1 ih.2 (b0Z S 19) R base;exact⟨fun vs H Q E hh=>g.len vs H Q E (hh cA),fun A outer s H args us vs Q E a1 a2 a3 a4 hh=>g.run A outer s H args us vs Q E a1 a2 a3 a4 (hh cA)⟩
noncomputable def isL(o:Obj):Bool:=match o.cls with
 |.type n=>n=="list"
 |_=>false
def a9E(K:PySem.W.Frag):Bool:=K.all fun p=>!isL p.2
theorem b2q{K:PySem.W.Frag}(h:a9E K=true){a:Addr}{o:Obj}(e:K.lookup a=some o):o.cls≠.type "list":=by
 intro z
 have hm:∃b,(b,o)∈K:=by
  clear h
  induction K with
  |nil=>cases e
  |cons p r ih=>
   rw[lookup_cons] at e
   split at e
   · cases e;exact⟨p.1,aU⟩
   · obtain⟨b,hb⟩:=ih e;exact⟨b,aD _ hb⟩
 obtain⟨b,hb⟩:=hm
 have:=bg.mp h (b,o) hb
 unfold isL at this
 simp only at this
 rw[z] at this
 simp at this
theorem a4U(m:List Addr)(H:Hp):∀ns:List Int,Rps m H (ns.map D.int) (ns.map V.int)
 |[]=>rfl
 |n::r=>⟨_,_,rfl,rfl,a4U m H r⟩
theorem b4X{K:PySem.W.Frag}{H:Hp}{a:Addr}{ns:List Int}(LT:∀ns:List Int,ns.length<=63->∃h',b6 ct F 20 220 [.ref 0] [.rol (ns.map .int)]=.ok (.bl true) h')(nl:a9E K=true)(hl:ns.length<=63)(hO:b1f H)(hS:SqL K H a (ns.map V.int)):
 spK K [.ref a] H (fun v _=>v=.bl true) fun _ _ _=>False:=by
 intro cA;obtain⟨h',e⟩:=LT ns hl
 have hf:∃o,H a=some (.frz o (.lst (ns.map V.int))):=by
  rcases hS with hS|⟨o,its,n,hk,hc,_⟩
  · rcases hS with hS|hS
    · rcases hO a with z|⟨o,xs,z⟩
      · rw[hS] at z;cases z
      · rw[hS] at z;cases z
    · exact hS
  · exact absurd hc (b2q nl hk)
 refine⟨[.ref 0],[.rol (ns.map .int)],[a],rfl,⟨_,_,rfl,⟨a,rfl,rfl⟩,rfl⟩,⟨rfl,by simp,fun n b c hn hc=>?_⟩,?_⟩
 · cases n with
   |zero=>
    cases hn;cases hc;obtain⟨o,hf⟩:=hf;exact⟨_,hS,a4U _ _ _,o,hf⟩
   |succ n=>simp at hn
 · rw[e];exact fun m' H' v _ _ _ rv=>rv
theorem b7r{P:Program}{w:World}{H:Hp}{s s':Shared}{e:Value}(h:CXr P w [] H s (fun _ _ _=>False) e s'):False:=by
 obtain⟨_,_,_,_,_,_,_,_,_,_,_,_,_,_,_,z⟩:=h;exact z
end K37
namespace EV
open PySem L2 L2T
noncomputable def K8:R Out->R D
 |.ok (.nx _) h=>.ok .non h
 |.ok (.rt d) h=>.ok d h
 |.ex c fs h=>.ex c fs h
 |.no=>.no
theorem a0h:∀{a b:List Char},a.map Char.toNat=b.map Char.toNat->a=b
 |[],[],_=>rfl
 |[],_::_,h=>by simp at h
 |_::_,[],h=>by simp at h
 |x::xs,y::ys,h=>by
  rw[map_cons,map_cons] at h
  injection h with h1 h2
  rw[a0h h2,Char.ext (UInt32.toNat_inj.mp h1)]
theorem a3T{a b:String}:(Str.ofString a=Str.ofString b)=(a=b):=propext ⟨fun h=>by
 rw[Str.ofString_eq_toList,Str.ofString_eq_toList] at h
 injection h with h
 have:=congrArg Array.toList h
 exact String.toList_inj.mp (a0h (by simpa using this)),fun h=>by rw[h]⟩
theorem sl1:(1<=SL)=True:=eq_true (by decide)
theorem sl2:(2<=SL)=True:=eq_true (by decide)
theorem sl3:(3<=SL)=True:=eq_true (by decide)
theorem sl4:(4<=SL)=True:=eq_true (by decide)
theorem sl5:(5<=SL)=True:=eq_true (by decide)
theorem sl6:(6<=SL)=True:=eq_true (by decide)
variable{env:u7}{h:AH}
theorem b2h:K8 (.ok (.nx env) h)=.ok .non h:=rfl
variable{d:D}
theorem b2g:K8 (.ok (.rt d) h)=.ok d h:=rfl
theorem b2j{c:Nat}{fs:List (Str×D)}:K8 (.ex c fs h)=.ex c fs h:=rfl
theorem b2i:K8 .no=.no:=rfl
structure PF(F:Nat->Option Fn):Prop where
 f1:F 1=some V2
 f2:F 2=some Z8
 f3:F 3=some Z9
 f4:F 4=some O8
 f5:F 5=some C0
 f6:F 6=some L6
 f7:F 7=some L4
 f8:F 8=some a1h
 f9:F 9=some X9
 f10:F 10=some E1
 f11:F 11=some Y0
 f12:F 12=some O7
 f13:F 13=some B9
 f14:F 14=some O9
 f15:F 15=some M5
 f16:F 16=some Z7
 f17:F 17=some M2
 f18:F 18=some F8
 f19:F 19=some O6
 f20:F 20=some M3
 f21:F 21=some D3
 f22:F 22=some K6
 f23:F 23=some V3
 f24:F 24=some M4
 f25:F 25=some J0
 f26:F 26=some X4
 f27:F 27=some L5
 f28:F 28=some V4
 f29:F 29=some X5
 f30:F 30=some a0w
 f31:F 31=some a0v
 f32:F 32=some L0
variable{n:Nat}{ds:List D}{p:Pat}{c:CF}{l:List D}{α:Type}{g:AH}{r:R D}{i:Nat}{o:B}{f:Str}{neg:Bool}{kvs:List (D×D)}{it:I}{h1:AH}
section
variable{ct:CT}{F:Nat->Option Fn}
theorem m8{f:Nat}{fd:Fn}(hF:F f=some fd)(hl:ds.length=fd.np):b6 ct F (n+1) f ds h=gcR fd.gc h (K8 (exs ct (b6 ct F n) fd.body (ds.map some++List.replicate (fd.ns-fd.np) none) h)):=by
 show(match F f with
  |none=>R.no
  |some fd=>if ds.length=fd.np then gcR fd.gc h (match exs ct (b6 ct F n) fd.body (ds.map some++List.replicate (fd.ns-fd.np) none) h with
   |.ok (.nx _) h'=>.ok .non h'
   |.ok (.rt d) h'=>.ok d h'
   |.ex c fs h'=>.ex c fs h'
   |.no=>.no) else .no)=_
 rw[hF]
 simp only
 rw[ay hl];generalize exs ct (b6 ct F n) fd.body (ds.map some++List.replicate (fd.ns-fd.np) none) h=r
 cases r with
 |ok o h=>cases o<;>rfl
 |ex c fs h=>rfl
 |no=>rfl
theorem a0z{g:List (Nat×Cell)}{p:Pat}{t:u7->AH->R Bool}{e:u7->AH->R D}{env0:u7}{h:AH}(hg:gOk g h=true)(B:D->Bool)(f:D->D)(env:D->u7):
 ∀(l acc:List D),(∀x∈l,J3 p x env0=some (env x)/\t (env x) h=.ok (B x) h/\(B x=true->e (env x) h=.ok (f x) h))->acc.length+l.length<=SL->P9 g p t e env0 l acc h=.ok (acc++(l.filter B).map f) h
 |[],acc,_,_=>by rw[P9,ay hg];simp
 | x::r,acc,hx,hl=>by
  obtain⟨h1,h2,h3⟩:=hx x aU;have ih:=fun acc' hl'=>a0z hg B f env r acc' (fun y hy=>hx y (aD _ hy)) hl'
  rw[P9,ay hg,h1]
  simp only
  rw[h2,d9];rw[length_cons] at hl
  cases hb:B x with
  |true=>
   rw[ay rfl,h3 hb,d9,ay (by omega),ih _ (by simp;omega),List.filter_cons_of_pos hb]
   simp
  |false=>
   rw[az (by simp),ih _ (by omega),List.filter_cons_of_neg (by simp[hb])]
theorem a8q{g:List (Nat×Cell)}{e:u7->AH->R D}{env0:u7}(hg:gOk g h=true)(f:D->D)(env:D->u7)(l:List D)(hx:∀x∈l,J3 p x env0=some (env x)/\e (env x) h=.ok (f x) h)(hl:l.length<=SL):
 P9 g p (tst ct c .yes) e env0 l [] h=.ok (l.map f) h:=by
 have:=a0z (t:=tst ct c .yes) hg (fun _=>true) f env l [] (fun x hx'=>⟨(hx x hx').1,by simp only[tst],fun _=>(hx x hx').2⟩) (by simpa using hl)
 rw[this,List.filter_eq_self.mpr (fun _ _=>rfl),nil_append]
theorem a5F{α:Type}(P:α->Bool):∀l:List α,a5G (l.map fun x=>D.bl (P x))=some (l.map P)
 |[]=>rfl
 |x::r=>by rw[map_cons,a5G,a5F P r];rfl
theorem a0Y:∀l:List Str,a1S (l.map D.str)=some l
 |[]=>rfl
 |x::r=>by rw[map_cons,a1S,a0Y r];rfl
theorem a6J:rdL (h++[.lst l]) h.length=some l:=by
 unfold rdL;simp
theorem b8{c:Cell}:(h++[c])[h.length]? =some c:=by simp
theorem a4C{P:α->Bool}{l:List α}:biD .all (h++[.lst (l.map fun x=>D.bl (P x))]) [.ref h.length]=.ok (.bl (l.all P)) (h++[.lst (l.map fun x=>D.bl (P x))]):=by
 simp only[biD,b8,a6J,a5F];congr 2;simp[all_map]
theorem gc1(hd:d.flat=true):gcR 1 h (.ok d (h++g))=.ok d h:=by
 unfold gcR
 simp only
 rw[az (by decide)]
 simp[hd]
theorem D2(hd:d.flat=true):gcR 1 h (.ok d h)=.ok d h:=by
 have:=gc1 (h:=h) (g:=[]) hd
 simpa using this
theorem gc0:gcR 0 h r=r:=by
 cases r<;>rfl
noncomputable def K3(row:Str):List Str:=(Txt.split row " ").filter fun w=>decide (w≠"")
theorem a1r(c:Nat):∀cs:List Nat,∃ps:List (List Nat),ps≠[]/\(∀p∈ps,c∉p)/\jn c ps=cs
 |[]=>⟨[[]],by simp,by simp,rfl⟩
 | x ::cs=>by
  obtain⟨ps,h1,h2,h3⟩:=a1r c cs
  by_cases hx:x=c
  · subst hx;refine⟨[]::ps,by simp,fun p hp=>?_,?_⟩
    · rcases aE.mp hp with rfl|hp
      · simp
      · exact h2 p hp
    · cases ps with
      |nil=>exact absurd rfl h1
      |cons p r=>rw[←h3];rfl
  · cases ps with
    |nil=>exact absurd rfl h1
    |cons p r=>
     refine⟨(x::p)::r,by simp,fun q hq=>?_,?_⟩
     · rcases aE.mp hq with rfl|hq
       · intro hc
         rcases aE.mp hc with e|e
         · exact hx e.symm
         · exact h2 p aU e
       · exact h2 q (aD _ hq)
     · rw[←h3]
       cases r<;>rfl
theorem a9W(c:Nat):∀ps:List (List Nat),ps.length<=(jn c ps).length+1
 |[]=>by simp
 |[x]=>by simp
 |x::y::r=>by
  have:=a9W c (y::r)
  show(y::r).length+1<=(x++c::jn c (y::r)).length+1
  simp only[aq,length_cons] at this⊢;omega
theorem a7E(x:Str)(c:Nat):(Txt.split x ⟨#[c]⟩).length<=x.length+1:=by
 obtain⟨ps,h1,h2,h3⟩:=a1r c (cd x)
 have e:(ps.map fun p=>(⟨p.toArray⟩:Str)).map cd=ps:=by
  rw[aG];refine List.map_id'' (fun p=>?_) ps
  simp[cd]
 rw[a1U (ps:=ps.map fun p=>(⟨p.toArray⟩:Str)) (by simpa using h1) (fun p hp=>by
  obtain⟨q,hq,rfl⟩:=am.mp hp
  simpa [cd] using h2 q hq) (by rw[e,h3]),aa,←o8,←h3]
 exact a9W c ps
theorem C7:∀l:List Str,D.flats (l.map D.str)=true
 |[]=>rfl
 |x::r=>by rw[map_cons,D.flats,C7 r];rfl
section
variable{a b e:E}{t:T}
theorem b9E:ev ct c (.v i) env h=(match env[i]? with
 |some (some d)=>.ok d h
 |_=>.no):=by(rw[ev];try rfl)
theorem b9F:ev ct c (.k d) env h=.ok d h:=by(rw[ev];try rfl)
theorem b5I:ev ct c (.bin o a b) env h=(ev ct c a env h).bind fun x h1=>(ev ct c b env h1).bind fun y h2=>op2 o h2 x y:=by(rw[ev];try rfl)
theorem b5E:ev ct c (.isN a) env h=(ev ct c a env h).bind fun x h1=>.ok (.bl (decide (x=.non))) h1:=by(rw[ev];try rfl)
theorem b2R:ev ct c (.notN a) env h=(ev ct c a env h).bind fun x h1=>.ok (.bl (!decide (x=.non))) h1:=by(rw[ev];try rfl)
theorem b7R:ev ct c (.nt a) env h=(asB (ev ct c a env h)).bind fun b h1=>.ok (.bl (!b)) h1:=by(rw[ev];try rfl)
theorem b7W:ev ct c (.an a b) env h=(asB (ev ct c a env h)).bind fun x h1=>if x=true then ev ct c b env h1 else .ok (.bl false) h1:=by(rw[ev];try rfl)
theorem b5B:ev ct c (.orr a b) env h=(asB (ev ct c a env h)).bind fun x h1=>if x=true then .ok (.bl true) h1 else ev ct c b env h1:=by(rw[ev];try rfl)
theorem b5H{p:B}:ev ct c (.chn o p a b e) env h=(ev ct c a env h).bind fun x h1=>(ev ct c b env h1).bind fun y h2=>(asB (op2 o h2 x y)).bind fun k h3=>if k=true then(ev ct c e env h3).bind fun z h4=>op2 p h4 y z else .ok (.bl false) h3:=by(rw[ev];try rfl)
theorem b7U:ev ct c (.ix a b) env h=(ev ct c a env h).bind fun x h1=>(ev ct c b env h1).bind fun y h2=>ixD h2 x y:=by(rw[ev];try rfl)
theorem b7Q{lo hi:O}:ev ct c (.sl a lo hi) env h=(ev ct c a env h).bind fun x h1=>(evo ct c lo env h1).bind fun l h2=>(evo ct c hi env h2).bind fun u h3=>slD h3 l u x:=by(rw[ev];try rfl)
theorem b5G:ev ct c (.fld a f) env h=(ev ct c a env h).bind fun x h1=>T8 h1 f x:=by(rw[ev];try rfl)
theorem b0E{es:Es}:ev ct c (.lst es) env h=(evs ct c es env h).bind fun ds h1=>if ds.length<=SL then z5 (.lst ds) h1 else .no:=by(rw[ev];try rfl)
theorem b5z{es:Es}:ev ct c (.tup es) env h=(evs ct c es env h).bind fun ds h1=>if ds.length<=SL then .ok (.tup ds) h1 else .no:=by(rw[ev];try rfl)
theorem b2U:ev ct c .dnew env h=z5 (.dict []) h:=by(rw[ev];try rfl)
theorem b5C:ev ct c (.neg a) env h=(ev ct c a env h).bind fun x h1=>(match x with
 |.int i=>.ok (.int (-i)) h1
 |_=>.no):=by(rw[ev];try rfl)
theorem b2W{f:Nat}{es:Es}:ev ct c (.call f es) env h=(evs ct c es env h).bind fun ds h1=>c f ds h1:=by(rw[ev];try rfl)
theorem b7T{k:Nat}{es:Es}:ev ct c (.mk k es) env h=(evs ct c es env h).bind fun ds h1=>(c (ct.init k) (.ref h1.length::ds) (h1++[.obj k []])).bind fun r h2=>(match r with
 |.non=>.ok (.ref h1.length) h2
 |_=>.no):=by(rw[ev];try rfl)
theorem b7V{b:Bi}{es:Es}:ev ct c (.bi b es) env h=(evs ct c es env h).bind fun ds h1=>biD b h1 ds:=by(rw[ev];try rfl)
theorem b7S{b:Mt}{o:E}{es:Es}:ev ct c (.mt b o es) env h=(ev ct c o env h).bind fun x h1=>if mtT b h1 x=true then(evs ct c es env h1).bind fun ds h2=>mtD b h2 x ds else .no:=by(rw[ev];try rfl)
theorem b5F:ev ct c (.gin neg a ds) env h=(ev ct c a env h).bind fun x h1=>if v5 x=true/\ds.all v5=true then .ok (.bl (inD x ds !=neg)) h1 else .no:=by(rw[ev];try rfl)
theorem b2T:ev ct c (.gdin neg a kvs) env h=(ev ct c a env h).bind fun x h1=>if(K0 x).isSome=true then .ok (.bl ((o9 kvs x).isSome !=neg)) h1 else .no:=by(rw[ev];try rfl)
theorem b2S:ev ct c (.gdix a kvs) env h=(ev ct c a env h).bind fun x h1=>if(K0 x).isSome=true then(match o9 kvs x with
 |some d=>.ok d h1
 |none=>.no) else .no:=by(rw[ev];try rfl)
theorem b5D{t:Ty}:ev ct c (.isi a t) env h=(ev ct c a env h).bind fun x h1=>(match a0N ct h1 t x with
 |some b=>.ok (.bl b) h1
 |none=>.no):=by(rw[ev];try rfl)
theorem b2P:evs ct c .nil env h=.ok [] h:=by(rw[evs];try rfl)
theorem b0B{r:Es}:evs ct c (.cons e r) env h=(ev ct c e env h).bind fun d h1=>(evs ct c r env h1).bind fun ds h2=>.ok (d::ds) h2:=by(rw[evs];try rfl)
theorem a6z:tst ct c .yes env h=.ok true h:=by(rw[tst];try rfl)
theorem b1q:tst ct c (.val e) env h=asB (ev ct c e env h):=by(rw[tst];try rfl)
theorem b1t:tst ct c (.cmp o a b) env h=asB ((ev ct c a env h).bind fun x h1=>(ev ct c b env h1).bind fun y h2=>op2 o h2 x y):=by(rw[tst];try rfl)
theorem b1s:tst ct c (.isN a) env h=(ev ct c a env h).bind fun x h1=>.ok (decide (x=.non)) h1:=by(rw[tst];try rfl)
theorem a8A:tst ct c (.notN a) env h=(ev ct c a env h).bind fun x h1=>.ok (!decide (x=.non)) h1:=by(rw[tst];try rfl)
theorem b1u{p:B}:tst ct c (.chn o p a b e) env h=asB ((ev ct c a env h).bind fun x h1=>(ev ct c b env h1).bind fun y h2=>(asB (op2 o h2 x y)).bind fun k h3=>if k=true then(ev ct c e env h3).bind fun z h4=>op2 p h4 y z else .ok (.bl false) h3):=by(rw[tst];try rfl)
theorem b3P{u:T}:tst ct c (.an t u) env h=(tst ct c t env h).bind fun x h1=>if x=true then tst ct c u env h1 else .ok false h1:=by(rw[tst];try rfl)
theorem b1r{u:T}:tst ct c (.orr t u) env h=(tst ct c t env h).bind fun x h1=>if x=true then .ok true h1 else tst ct c u env h1:=by(rw[tst];try rfl)
theorem b3N:tst ct c (.nt t) env h=(tst ct c t env h).bind fun x h1=>.ok (!x) h1:=by(rw[tst];try rfl)
theorem b5x:evo ct c .no env h=.ok none h:=by(rw[evo];try rfl)
theorem b5y:evo ct c (.at e) env h=a7c (ev ct c e env h):=by(rw[evo];try rfl)
theorem b2B{i:Int}:a7c (.ok (.int i) h)=.ok (some i) h:=rfl
theorem Y6{b:Bool}:asB (.ok (.bl b) h)=.ok b h:=rfl
theorem a4p:evi ct c (.seq e) env h=(ev ct c e env h).bind fun d h1=>V9 h1 d:=by(rw[evi];try rfl)
theorem b0D:evi ct c (.enum e) env h=(ev ct c e env h).bind fun d h1=>U1 h1 d:=by(rw[evi];try rfl)
theorem a5q:evi ct c (.rng1 a) env h=(ev ct c a env h).bind fun d h1=>a8U h1 (.int 0) d:=by(rw[evi];try rfl)
theorem b2Q:evi ct c (.zip a b) env h=(ev ct c a env h).bind fun x h1=>(ev ct c b env h1).bind fun y h2=>b1i h2 x y:=by(rw[evi];try rfl)
theorem Q9:ex ct c (.set i e) env h=(ev ct c e env h).bind fun d h1=>.ok (.nx (env.set i (some d))) h1:=by(rw[ex];try rfl)
theorem b7P:ex ct c (.ex e) env h=(ev ct c e env h).bind fun _ h1=>.ok (.nx env) h1:=by(rw[ex];try rfl)
theorem a6p:ex ct c (.ret e) env h=(ev ct c e env h).bind fun d h1=>.ok (.rt d) h1:=by(rw[ex];try rfl)
theorem a6q{u v:Ss}:ex ct c (.iff t u v) env h=(tst ct c t env h).bind fun x h1=>if x=true then exs ct c u env h1 else exs ct c v env h1:=by(rw[ex];try rfl)
theorem b0z{u:Ss}:ex ct c (.for p it u) env h=(evi ct c it env h).bind fun x h1=>T7 x.2 p (exs ct c u) x.1 env h1:=by(rw[ex];try rfl)
theorem b2O{k:Nat}{es:Es}:ex ct c (.rais k es) env h=(evs ct c es env h).bind fun ds h1=>if ds.length=(ct.flds k).length/\a4J ds=true then .ex k ((ct.flds k).zip ds) h1 else .no:=by(rw[ex];try rfl)
theorem b5u{i v:E}:ex ct c (.six a i v) env h=(ev ct c v env h).bind fun x h1=>(ev ct c a env h1).bind fun o h2=>(ev ct c i env h2).bind fun k h3=>(a1p h3 o k x).bind fun _ h4=>.ok (.nx env) h4:=by(rw[ex];try rfl)
theorem b5v{v:E}:ex ct c (.sfl a f v) env h=(ev ct c v env h).bind fun x h1=>(ev ct c a env h1).bind fun o h2=>(a3K h2 o f x).bind fun _ h3=>.ok (.nx env) h3:=by(rw[ex];try rfl)
theorem a4m:exs ct c .nil env h=.ok (.nx env) h:=by(rw[exs];try rfl)
theorem U0{s:S}{r:Ss}:exs ct c (.cons s r) env h=(ex ct c s env h).bind fun o h1=>(match o with
 |.nx env'=>exs ct c r env' h1
 |.rt d=>.ok (.rt d) h1):=by(rw[exs];try rfl)
theorem a4r{fr:List Nat}{x:Its}{h2:AH}(hi:evi ct c it env h=.ok x h1)(hc:P9 x.2 p (tst ct c t) (ev ct c e) (C2 n fr env) x.1 [] h1=.ok ds h2):ev ct c (.comp p it n fr t e) env h=.ok (.ref h2.length) (h2++[.lst ds]):=by
 rw[ev,hi,d9,hc];rfl
end
section
variable{e:E}{t:T}
theorem E6{fr:List Nat}{g:List (Nat×Cell)}(hi:evi ct c it env h=.ok (l,g) h1)(hg:gOk g h1=true)(B:D->Bool)(f:D->D)(envf:D->u7)
 (hx:∀x∈l,J3 p x (C2 n fr env)=some (envf x)/\tst ct c t (envf x) h1=.ok (B x) h1/\(B x=true->ev ct c e (envf x) h1=.ok (f x) h1)) (hl:l.length<=SL):ev ct c (.comp p it n fr t e) env h=.ok (.ref h1.length) (h1++[.lst ((l.filter B).map f)]):=
 a4r (x:=(l,g)) hi (a0z hg B f envf l [] hx (by simpa using hl))
theorem u5{fr:List Nat}{g:List (Nat×Cell)}(hi:evi ct c it env h=.ok (l,g) h1)(hg:gOk g h1=true)(f:D->D)(envf:D->u7)
 (hx:∀x∈l,J3 p x (C2 n fr env)=some (envf x)/\ev ct c e (envf x) h1=.ok (f x) h1) (hl:l.length<=SL):ev ct c (.comp p it n fr .yes e) env h=.ok (.ref h1.length) (h1++[.lst (l.map f)]):=
 a4r (x:=(l,g)) hi (a8q hg f envf l hx hl)
end
theorem gc2{k:Nat}{c:Cell}(hk:(h++g)[k]? =some c)(hl:h.length<=k)(hc:c.flat=true):gcR 2 h (.ok (.ref k) (h++g))=.ok (.ref h.length) (h++[c]):=by
 unfold gcR;simp only[hk];simp[hl,hc]
end
end EV
local macro_rules
  | `(tactic| simp_arith [$ls,*]) => `(tactic| simp only [EV.b9E, EV.b9F, EV.b5I, EV.b5E, EV.b2R, EV.b7R, EV.b7W, EV.b5B, EV.b5H, EV.b7U, EV.b7Q, EV.b5G, EV.b0E, EV.b5z, EV.b2U, EV.b5C, EV.b2W, EV.b7T, EV.b7V, EV.b7S, EV.b5F, EV.b2T, EV.b2S, EV.b5D, EV.b2P, EV.b0B, EV.a6z, EV.b1q, EV.b1t, EV.b1s, EV.a8A, EV.b1u, EV.b3P, EV.b1r, EV.b3N, EV.b5x, EV.b5y, EV.b2B, EV.Y6, EV.a4p, EV.b0D, EV.a5q, EV.b2Q, EV.Q9, EV.b7P, EV.a6p, EV.a6q, EV.b0z, EV.b2O, EV.b5u, EV.b5v, EV.a4m, EV.U0, EV.d9, EV.b3o, EV.b3n,
      map_cons, map_nil, cons_append, nil_append, List.getElem?_cons_zero, List.getElem?_cons_succ, List.set_cons_zero, List.set_cons_succ, List.replicate, length_cons, length_nil, if_true, if_false, Bool.false_eq_true, Bool.true_eq_false, EV.b2g, EV.b2h, EV.b2j, EV.b2i, Nat.reduceSub, Nat.reduceAdd, Nat.reduceLT, aB, Nat.zero_le, EV.a3T, String.reduceEq, EV.sl1, EV.sl2, EV.sl3, EV.sl4, EV.sl5, EV.sl6, $ls,*])
namespace EV
open PySem L2 L2T
variable{z:Str}{i:Nat}{h:AH}{xs:List D}{w:Nat}{d:D}{n:Nat}{id:Nat}{ws:List Str}
section
variable{ct:CT}{F:Nat->Option Fn}
noncomputable def due(a b c:Bool):Option Str:=if a then some "twice" else if !b then some "name" else if c then some "many" else none
noncomputable def W0:Option Str->D
 |some x=>.str x
 |none=>.non
theorem Y4(o:Option Str):decide (W0 o=.non)=o.isNone:=by cases o<;>simp[W0]
theorem Y3{a b c:Bool}(h:due a b c=none):a=false/\b=true/\c=false:=by
 cases a<;>cases b<;>cases c<;>simp[due] at h⊢
theorem a5S{c:Nat}:Txt.startswith z ⟨#[c]⟩=decide ((cd z).head? =some c):=by
 have:=StrLaws.subAt_one z c 0
 unfold Txt.startswith;rw[Bool.eq_iff_iff,ae,decide_eq_true_iff,this,decide_eq_true_iff]
 show(cd z)[0]? =some c↔_
 rw[List.head?_eq_getElem?]
theorem a8K(z:Str)(h:1<=z.length):Txt.slice z (some 1) none=tl z:=by
 rw[PyProof.Rows.slice_from_eq (b:=z.length) (by decide) (by omega) rfl]
 unfold tl;congr 2
 have:(z.cps.toList.drop 1).length=z.length-1:=by rw[br,show z.cps.toList.length=z.length from o8 z]
 show List.take ((z.length:Int)-1).toNat (List.drop 1 z.cps.toList)=_
 exact ba (by omega)
theorem ix_str{c:Nat}(hl:z.length<=SL)(hc:(cd z)[i]? =some c):ixD h (.str z) (.int (i:Nat))=.ok (.str ⟨#[c]⟩) h:=by
 have hi:=(ac.mp hc).1
 have:atI z.cps.toList (i:Int)=some c:=by
  show(ixN (cd z).length (i:Int)).bind (fun j=>(cd z)[j]?)=some c
  have e:ixN (cd z).length (i:Int)=some i:=by
   unfold ixN;rw[ay (by omega),ay (by omega)]
   simp
  rw[e];exact hc
 simp only[ixD,ay hl,this]
theorem D9(hw:h[w]? =some (.lst xs))(hd:xs[i]? =some d):ixD h (.ref w) (.int (i:Nat))=.ok d h:=by
 have hi:=(ac.mp hd).1
 have:atI xs (i:Int)=some d:=by
  show(ixN xs.length (i:Int)).bind (fun j=>xs[j]?)=some d
  have e:ixN xs.length (i:Int)=some i:=by
   unfold ixN;rw[ay (by omega),ay (by omega)]
   simp
  rw[e];exact hd
 simp only[ixD,hw,this]
variable(W:PF F)
include W
theorem a4K{row:Str}(hr:row.length<=100000):b6 ct F (n+1) 1 [.str row] h=.ok (.ref h.length) (h++[.lst ((K3 row).map .str)]):=by
 rw[m8 W.f1 rfl]
 have hs:(Txt.split row " ").length<=SL:=aO (a7E row 32) (by show _<=16777216;omega)
 simp only[V2];simp_arith[];rw[E6 (l:=(Txt.split row " ").map D.str) (g:=[(h.length,.lst ((Txt.split row " ").map D.str))]) (h1:=h++[.lst ((Txt.split row " ").map D.str)]) ?_ (by simp[gOk]) (fun d=>match d with|.str w=>decide (w≠"")|_=>false) id (fun d=>[some d]) ?_ (by simpa using hs)]
 · simp_arith[]
   have e:List.map id (List.filter (fun d=>match d with|D.str w=>decide (w≠"")|_=>false) ((Txt.split row " ").map D.str))=(K3 row).map D.str:=by
    rw[map_id,filter_map];rfl
   rw[e,aA];exact gc2 (by simp) (by simp) (C7 _)
 · simp_arith[mtT,mtD,z5];rw[ay ⟨by decide,by show _<=16777216;omega⟩]
   simp only[d9,V9,b8]
 · intro x hx;obtain⟨w,_,rfl⟩:=am.mp hx;refine⟨rfl,?_,fun _=>?_⟩
   · simp_arith[op2,a1z,eqS];simp
   · simp_arith[id]
theorem a2o{g:Str}(hz:z.length<=100000):b6 ct F (n+1) 2 [.str z,.str g] h=.ok (.bl ((cd z).all fun c=>decide (c∈cd g))) h:=by
 rw[m8 W.f2 rfl];simp only[Z8];simp_arith[];rw[u5 (l:=V6 z) (g:=[]) (h1:=h) ?_ (by simp[gOk]) (fun d=>match d with|.str w=>.bl (a3U w g)|_=>.non) (fun d=>[some d,some (.str g)]) ?_ (by unfold V6;rw[aa,show z.cps.toList.length=z.length from o8 z];show _<=16777216;omega)]
 · have e:(V6 z).map (fun d=>match d with|D.str w=>D.bl (a3U w g)|_=>D.non)=(cd z).map fun c=>D.bl (decide (c∈cd g)):=by
    unfold V6;rw[aG];refine aT fun c _=>?_
    simp only[Function.comp,a3U];rw[StrLaws.found_one]
   rw[e];simp_arith[a4C];exact gc1 rfl
 · simp_arith[V9]
 · intro x hx;unfold V6 at hx;obtain⟨w,_,rfl⟩:=am.mp hx;refine⟨rfl,?_⟩
   simp_arith[op2,U6];simp
theorem K1(hz:z.length<=100000):b6 ct F (n+2) 3 [.str z] h=.ok (.bl (i9 z)) h:=by
 rw[m8 W.f3 rfl];simp only[Z9]
 have hl:z.length<=SL:=by show _<=16777216;omega
 simp_arith[biD,ay hl,op2,F5,a2o W hz]
 have e:i9 z=(decide ((1:Int)<=(z.length:Int))&&(decide ((z.length:Int)<=12)&&(cd z).all N5)):=by
  unfold i9;rw[Bool.and_assoc];congr 1
  · exact decide_eq_decide.mpr (by omega)
  · congr 1;exact decide_eq_decide.mpr (by omega)
 rw[e]
 by_cases h1:(1:Int)<=(z.length:Int)
 · by_cases h2:(z.length:Int)<=12
   · simp only[h1,h2,decide_true,if_true,Bool.true_and,d9,Y6];exact D2 rfl
   · simp only[h1,h2,decide_true,decide_false,if_true,Bool.true_and,Bool.false_and,d9,Y6,Bool.false_eq_true,if_false];exact D2 rfl
 · simp only[h1,decide_false,Bool.false_and,d9,Y6,Bool.false_eq_true,if_false];exact D2 rfl
theorem G9(hz:z.length<=100000):b6 ct F (n+2) 4 [.str z] h=.ok (.bl (a1t z)) h:=by
 rw[m8 W.f4 rfl];simp only[O8]
 have hl:z.length<=SL:=by show _<=16777216;omega
 have hm:∀h,b6 ct F (n+1) 2 [.str z,.str "0123456789"] h=.ok (.bl ((cd z).all O4)) h:=fun h=>a2o W hz
 simp_arith[biD,ay hl,op2,F5,hm]
 have e:a1t z=(decide ((1:Int)<=(z.length:Int))&&(decide ((z.length:Int)<=5)&&((cd z).all O4&&(decide (z="0")||!decide ((cd z).head? =some 48))))):=by
  unfold a1t;rw[Bool.and_assoc,Bool.and_assoc];congr 1
  · exact decide_eq_decide.mpr (by omega)
  · congr 1;exact decide_eq_decide.mpr (by omega)
 rw[e]
 by_cases h1:(1:Int)<=(z.length:Int)
 · by_cases h2:(z.length:Int)<=5
   · simp_arith[hm,h1,h2,decide_true,if_true,Bool.true_and,d9,Y6,Bool.not_true,Bool.false_eq_true,if_false,op2]
     cases hf:(cd z).all O4 with
     |false=>
      simp_arith[hm,Bool.not_false,if_true,Bool.false_and,d9,op2];exact D2 rfl
     | true=>
      obtain⟨c,r,hc⟩:∃c r,cd z=c::r:=by
       cases hq:cd z with
       |nil=>have:=o8 z;rw[hq] at this;simp at this;omega
       |cons c r=>exact⟨c,r,rfl⟩
      have hix:ixD h (.str z) (.int 0)=.ok (.str ⟨#[c]⟩) h:=ix_str (i:=0) hl (by rw[hc];rfl)
      have h0:decide ((⟨#[c]⟩:Str)="0")=decide ((cd z).head? =some 48):=by
       rw[hc];refine decide_eq_decide.mpr ?_
       rw[show(Str.ofString "0")=⟨#[48]⟩ from rfl];simp
      simp_arith[hm,Bool.not_true,Bool.false_eq_true,if_false,Bool.true_and,d9,J8,a1z,eqS,Y6,hix,h0,op2]
      cases hz0:decide (z="0") with
      |true=>
       simp_arith[hm,if_true,Bool.true_or,op2];exact D2 rfl
      |false=>
       simp_arith[hm,Bool.false_eq_true,if_false,Bool.false_or,op2];exact D2 rfl
   · simp_arith[hm,h1,h2,decide_true,decide_false,if_true,Bool.true_and,Bool.false_and,d9,Y6,Bool.false_eq_true,if_false,Bool.not_false,op2];exact D2 rfl
 · simp_arith[hm,h1,decide_false,Bool.false_and,d9,Y6,Bool.false_eq_true,if_false,Bool.not_false,if_true,op2];exact D2 rfl
theorem a4e(hz:z.length<=100000):b6 ct F (n+3) 5 [.str z] h=.ok (.bl (a2Z z)) h:=by
 rw[m8 W.f5 rfl];simp only[C0]
 have hl:z.length<=SL:=by show _<=16777216;omega
 have hst:Txt.startswith z "-"=decide ((cd z).head? =some 45):=a5S
 simp_arith[mtT,mtD,op2,a1z,eqS,slD,ay hl,hst,G9 W hz];unfold a2Z
 by_cases h1:(cd z).head? =some 45
 · have hl1:1<=z.length:=by
    rw[←o8]
    cases hq:cd z with
    |nil=>rw[hq] at h1;cases h1
    |cons c r=>simp
   have ht:(tl z).length<=100000:=by rw[←o8,a7v,br,o8];omega
   simp_arith[h1,decide_true,if_true,a8K z hl1,G9 W ht,d9,G9 W hz]
   cases hz0:decide (z="-0") with
   |true=>
    simp_arith[Bool.not_true,Bool.false_eq_true,if_false,Bool.false_and];exact D2 rfl
   |false=>
    simp_arith[Bool.not_false,if_true,Bool.true_and];exact D2 rfl
 · simp_arith[h1,decide_false,Bool.false_eq_true,if_false,G9 W hz];exact D2 rfl
theorem B8{a b c:Bool}:b6 ct F (n+1) 14 [.bl a,.bl b,.bl c] h=.ok (W0 (due a b c)) h:=by
 rw[m8 W.f14 rfl];simp only[O9];simp_arith[]
 cases a<;>cases b<;>cases c<;>exact D2 rfl
theorem a3C{k:Nat}{P:Str->Bool}{fd:Fn}(hF:F id=some fd)(hb:fd=⟨1,1,1,(.cons (.ret (.bi .all (.cons (.comp (.nm 0) (.seq (.v 0)) 1 [] .yes (.call k (.cons (.v 0) .nil))) .nil))) .nil)⟩)
 (hw:h[w]? =some (.lst (ws.map D.str))) (hl:ws.length<=SL) (hP:∀x∈ws,b6 ct F n k [.str x] h=.ok (.bl (P x)) h):b6 ct F (n+1) id [.ref w] h=.ok (.bl (ws.all P)) h:=by
  subst hb;rw[m8 hF rfl];simp_arith[];rw[u5 (l:=ws.map D.str) (g:=[(w,.lst (ws.map D.str))]) (h1:=h) ?_ (by simp[gOk,hw]) (fun d=>match d with|.str x=>.bl (P x)|_=>.non) (fun d=>[some d]) ?_ (by simpa using hl)]
  · have e:(ws.map D.str).map (fun d=>match d with|D.str x=>D.bl (P x)|_=>D.non)=ws.map fun x=>D.bl (P x):=by
      rw[aG];rfl
    rw[e];simp_arith[a4C];exact gc1 rfl
  · simp_arith[V9,hw]
  · intro x hx;obtain⟨y,hy,rfl⟩:=am.mp hx;refine⟨rfl,?_⟩
    simp_arith[hP y hy]
theorem a0V(hw:h[w]? =some (.lst (ws.map D.str)))(hl:ws.length<=SL)(hs:∀x∈ws,x.length<=100000):b6 ct F (n+3) 9 [.ref w] h=.ok (.bl (ws.all i9)) h:=
 a3C (n:=n+2) W W.f9 rfl hw hl fun x hx=>K1 W (hs x hx)
theorem a2S(hw:h[w]? =some (.lst (ws.map D.str)))(hl:ws.length<=SL)(hs:∀x∈ws,x.length<=100000):b6 ct F (n+4) 10 [.ref w] h=.ok (.bl (ws.all a2Z)) h:=
 a3C (n:=n+3) W W.f10 rfl hw hl fun x hx=>a4e W (hs x hx)
end
structure HD where
 shapes:List (Str×D):=[]
 marks:List (Str×D):=[]
 points:List ((Str×Str)×D):=[]
 letters:List (Str×D):=[]
 gaps:List Str:=[]
 classes:List (Str×D):=[]
 features:List (Str×D):=[]
 rules:List (Str×List D):=[]
noncomputable def kd(l:List (Str×D)):List (D×D):=l.map fun p=>(.str p.1,p.2)
noncomputable def pd(l:List ((Str×Str)×D)):List (D×D):=l.map fun p=>(.tup [.str p.1.1,.str p.1.2],p.2)
noncomputable def rd(l:List (Str×List D)):List D:=l.map fun r=>.tup (.str r.1::r.2)
noncomputable def a1f(n:Nat):List (Str×D):=[("shapes",.ref (n+1)),("marks",.ref (n+2)),("points",.ref (n+3)),("letters",.ref (n+4)),("gaps",.ref (n+5)),("classes",.ref (n+6)),("features",.ref (n+7)),("rules",.ref (n+8))]
structure HallAt(h:AH)(n:Nat)(H:HD):Prop where
 o:h[n]? =some (.obj 6 (a1f n))
 c1:h[n+1]? =some (.dict (kd H.shapes))
 c2:h[n+2]? =some (.dict (kd H.marks))
 c3:h[n+3]? =some (.dict (pd H.points))
 c4:h[n+4]? =some (.dict (kd H.letters))
 c5:h[n+5]? =some (.lst (H.gaps.map .str))
 c6:h[n+6]? =some (.dict (kd H.classes))
 c7:h[n+7]? =some (.dict (kd H.features))
 c8:h[n+8]? =some (.lst (rd H.rules))
structure Fr(n:Nat)(h h':AH):Prop where
 len:h.length<=h'.length
 get:∀i,i<h.length->(i<n∨n+8<i)->h'[i]? =h[i]?
theorem Fr.refl(n:Nat)(h:AH):Fr n h h:=⟨aj _,fun _ _ _=>rfl⟩
variable{h':AH}
theorem Fr.trans{h'':AH}(a:Fr n h h')(b:Fr n h' h''):Fr n h h'':=
 ⟨aO a.len b.len,fun i hi hn=>(b.get i (aC hi a.len) hn).trans (a.get i hi hn)⟩
theorem Fr.app(n:Nat)(h g:AH):Fr n h (h++g):=⟨by simp,fun i hi _=>av hi⟩
theorem Fr.set{k:Nat}{c:Cell}(h1:n<=k)(h2:k<=n+8):Fr n h (h.set k c):=⟨by simp,fun i hi hn=>List.getElem?_set_ne (by omega)⟩
variable{g:AH}
theorem b7{c:Cell}(e:h[i]? =some c):(h++g)[i]? =some c:=by
 rw[av (ac.mp e).1]
 exact e
theorem HallAt.app{H:HD}(A:HallAt h n H)(g:AH):HallAt (h++g) n H:=
 ⟨b7 A.o,b7 A.c1,b7 A.c2,b7 A.c3,b7 A.c4,b7 A.c5,b7 A.c6,b7 A.c7,b7 A.c8⟩
variable{c':Cell}
theorem b9{k:Nat}{c:Cell}(hne:k≠i)(e:h[i]? =some c):(h.set k c')[i]? =some c:=by
 rw[List.getElem?_set_ne hne]
 exact e
theorem B6{c:Cell}(e:h[i]? =some c):(h.set i c')[i]? =some c':=List.getElem?_set_self (ac.mp e).1
theorem HallAt.s1{H:HD}(A:HallAt h n H)(l:List (Str×D)):HallAt (h.set (n+1) (.dict (kd l))) n {H with shapes:=l}:=
 ⟨b9 (by omega) A.o,B6 A.c1,b9 (by omega) A.c2,b9 (by omega) A.c3,b9 (by omega) A.c4,b9 (by omega) A.c5,b9 (by omega) A.c6,b9 (by omega) A.c7,b9 (by omega) A.c8⟩
theorem HallAt.s2{H:HD}(A:HallAt h n H)(l:List (Str×D)):HallAt (h.set (n+2) (.dict (kd l))) n {H with marks:=l}:=
 ⟨b9 (by omega) A.o,b9 (by omega) A.c1,B6 A.c2,b9 (by omega) A.c3,b9 (by omega) A.c4,b9 (by omega) A.c5,b9 (by omega) A.c6,b9 (by omega) A.c7,b9 (by omega) A.c8⟩
theorem HallAt.s3{H:HD}(A:HallAt h n H)(l:List ((Str×Str)×D)):HallAt (h.set (n+3) (.dict (pd l))) n {H with points:=l}:=
 ⟨b9 (by omega) A.o,b9 (by omega) A.c1,b9 (by omega) A.c2,B6 A.c3,b9 (by omega) A.c4,b9 (by omega) A.c5,b9 (by omega) A.c6,b9 (by omega) A.c7,b9 (by omega) A.c8⟩
theorem HallAt.s4{H:HD}(A:HallAt h n H)(l:List (Str×D)):HallAt (h.set (n+4) (.dict (kd l))) n {H with letters:=l}:=
 ⟨b9 (by omega) A.o,b9 (by omega) A.c1,b9 (by omega) A.c2,b9 (by omega) A.c3,B6 A.c4,b9 (by omega) A.c5,b9 (by omega) A.c6,b9 (by omega) A.c7,b9 (by omega) A.c8⟩
theorem HallAt.s6{H:HD}(A:HallAt h n H)(l:List (Str×D)):HallAt (h.set (n+6) (.dict (kd l))) n {H with classes:=l}:=
 ⟨b9 (by omega) A.o,b9 (by omega) A.c1,b9 (by omega) A.c2,b9 (by omega) A.c3,b9 (by omega) A.c4,b9 (by omega) A.c5,B6 A.c6,b9 (by omega) A.c7,b9 (by omega) A.c8⟩
theorem HallAt.s7{H:HD}(A:HallAt h n H)(l:List (Str×D)):HallAt (h.set (n+7) (.dict (kd l))) n {H with features:=l}:=
 ⟨b9 (by omega) A.o,b9 (by omega) A.c1,b9 (by omega) A.c2,b9 (by omega) A.c3,b9 (by omega) A.c4,b9 (by omega) A.c5,b9 (by omega) A.c6,B6 A.c7,b9 (by omega) A.c8⟩
theorem HallAt.fld1{H:HD}(A:HallAt h n H):T8 h "shapes" (.ref n)=.ok (.ref (n+1)) h:=by simp only[T8,A.o];rfl
theorem HallAt.fld2{H:HD}(A:HallAt h n H):T8 h "marks" (.ref n)=.ok (.ref (n+2)) h:=by simp only[T8,A.o];rfl
theorem HallAt.fld3{H:HD}(A:HallAt h n H):T8 h "points" (.ref n)=.ok (.ref (n+3)) h:=by simp only[T8,A.o];rfl
theorem HallAt.fld4{H:HD}(A:HallAt h n H):T8 h "letters" (.ref n)=.ok (.ref (n+4)) h:=by simp only[T8,A.o];rfl
theorem HallAt.fld5{H:HD}(A:HallAt h n H):T8 h "gaps" (.ref n)=.ok (.ref (n+5)) h:=by simp only[T8,A.o];rfl
theorem HallAt.fld6{H:HD}(A:HallAt h n H):T8 h "classes" (.ref n)=.ok (.ref (n+6)) h:=by simp only[T8,A.o];rfl
theorem HallAt.fld7{H:HD}(A:HallAt h n H):T8 h "features" (.ref n)=.ok (.ref (n+7)) h:=by simp only[T8,A.o];rfl
theorem a1N(k:Str)(l:List (Str×D)):G8 (.str k) (kd l)=true:=by
 simp[G8,kd,K5]
theorem a6W(a b:Str)(l:List ((Str×Str)×D)):G8 (.tup [.str a,.str b]) (pd l)=true:=by
 simp[G8,pd,K5,D8,K0]
theorem a6n(k:Str):∀l:List (Str×D),(o9 (kd l) (.str k)).isSome=decide (k∈l.map (·.1))
 |[]=>rfl
 | p ::r=>by
  have ih:=a6n k r;unfold o9 kd at ih⊢;rw[map_cons,List.find?_cons]
  by_cases e:p.1=k
  · simp[e]
  · have e':¬(D.str p.1=D.str k):=fun z=>e (by injection z)
    simp only[e',decide_false];rw[ih]
    exact decide_eq_decide.mpr ⟨fun z=>by simp[z],fun z=>by
     rw[map_cons] at z
     rcases aE.mp z with z|z
     · exact absurd z.symm e
     · exact z⟩
theorem b0l(a b:Str):∀l:List ((Str×Str)×D),(o9 (pd l) (.tup [.str a,.str b])).isSome=decide ((a,b)∈l.map (·.1))
 |[]=>rfl
 | p ::r=>by
  have ih:=b0l a b r;unfold o9 pd at ih⊢;rw[map_cons,List.find?_cons]
  by_cases e:p.1=(a,b)
  · simp[e]
  · have e':¬(D.tup [.str p.1.1,.str p.1.2]=D.tup [.str a,.str b]):=fun z=>e (by
     injection z with z
     injection z with z1 z2
     injection z1 with z1
     injection z2 with z2
     injection z2 with z2
     exact Prod.ext z1 z2)
    simp only[e',decide_false];rw[ih]
    exact decide_eq_decide.mpr ⟨fun z=>by simp[z],fun z=>by
     rw[map_cons] at z
     rcases aE.mp z with z|z
     · exact absurd z.symm e
     · exact z⟩
theorem a9e{k:Str}{l:List (Str×D)}(h:k∉l.map (·.1)):a0I (kd l) (.str k) d=kd (l++[(k,d)]):=by
 unfold a0I;rw[az]
 · simp[kd]
 · intro z;rw[any_eq_true] at z;obtain⟨p,hp,e⟩:=z;unfold kd at hp;obtain⟨q,hq,rfl⟩:=am.mp hp;have e:=aw e
   injection e with e
   exact h (am.mpr ⟨q,hq,e⟩)
theorem b4j{a b:Str}{l:List ((Str×Str)×D)}(h:(a,b)∉l.map (·.1)):a0I (pd l) (.tup [.str a,.str b]) d=pd (l++[((a,b),d)]):=by
 unfold a0I;rw[az]
 · simp[pd]
 · intro z;rw[any_eq_true] at z;obtain⟨p,hp,e⟩:=z;unfold pd at hp;obtain⟨q,hq,rfl⟩:=am.mp hp;have e:=aw e
   injection e with e
   injection e with e1 e2
   injection e1 with e1
   injection e2 with e2
   injection e2 with e2
   exact h (am.mpr ⟨q,hq,Prod.ext e1 e2⟩)
theorem a0O{l:List (Str×D)}{k:Str}(e:h[n]? =some (.dict (kd l))):U6 false h (.str k) (.ref n)=.ok (.bl (decide (k∈l.map (·.1)))) h:=by
 simp only[U6,e,a1N,if_true,a6n];simp
theorem b7x{l:List ((Str×Str)×D)}{a b:Str}(e:h[n]? =some (.dict (pd l))):U6 false h (.tup [.str a,.str b]) (.ref n)=.ok (.bl (decide ((a,b)∈l.map (·.1)))) h:=by
 simp only[U6,e,a6W,if_true,b0l];simp
theorem a3Z{l:List (Str×D)}(e:h[n]? =some (.dict (kd l))):biD .len h [.ref n]=.ok (.int l.length) h:=by
 have:G8 (.int 0) (kd l)=true:=by simp[G8,kd,K5]
 simp only[biD,e,this,if_true];simp[kd]
variable{l:List D}
theorem t7(e:h[n]? =some (.lst l)):biD .len h [.ref n]=.ok (.int l.length) h:=by
 have:rdL h n=some l:=by unfold rdL;rw[e]
 simp only[biD,e,this]
section
variable{ct:CT}{F:Nat->Option Fn}(W:PF F)
include W
theorem b0f:b6 ct F (n+1) 32 [.ref h.length] (h++[.obj 6 []])=.ok .non (h++[.obj 6 (a1f h.length),.dict [],.dict [],.dict [],.dict [],.lst [],.dict [],.dict [],.lst []]):=by
 rw[m8 W.f32 rfl];simp only[L0];rw[gc0]
 have hs:∀(x z:Cell) (t:AH),(h++x::t).set h.length z=h++z::t:=fun x z t=>by
  rw[List.set_append_right _ _ (aj _)];simp
 have hg:∀(x:Cell) (t:AH),(h++x::t)[h.length]? =some x:=fun x t=>by simp
 simp_arith[z5,a3K,hs,hg,aA,a3d];simp only[aq,length_cons,length_nil,a1f]
end
theorem w5(i:Int)(k:Nat)(hi:i=(k:Nat))(hw:h[w]? =some (.lst xs))(hd:xs[k]? =some d):ixD h (.ref w) (.int i)=.ok d h:=by
 subst hi;exact D9 hw hd
theorem W4{l:List (Str×D)}{k:Str}(e:h[n]? =some (.dict (kd l)))(hk:k∉l.map (·.1))(hl:l.length<SL):a1p h (.ref n) (.str k) d=.ok () (h.set n (.dict (kd (l++[(k,d)])))):=by
 simp only[a1p,e];rw[ay ⟨a1N _ _,by simpa [kd] using hl⟩,a9e hk]
theorem a7H{l:List ((Str×Str)×D)}{a b:Str}(e:h[n]? =some (.dict (pd l)))(hk:(a,b)∉l.map (·.1))(hl:l.length<SL):a1p h (.ref n) (.tup [.str a,.str b]) d=.ok () (h.set n (.dict (pd (l++[((a,b),d)])))):=by
 simp only[a1p,e];rw[ay ⟨a6W _ _ _,by simpa [pd] using hl⟩,b4j hk]
theorem a6l{b:Str}{v:Int}(hl:b.length<=640)(hv:intText? b=some v):biD .int h [.str b]=.ok (.int v) h:=by
 simp only[biD,ay hl,hv]
theorem O1(k:Nat)(xs:List D):U2 xs (some (k:Int)) none=xs.drop k:=by
 unfold U2 HT.sIx
 simp only
 rw[az (by omega)]
 show(xs.drop (min k xs.length)).take (xs.length-min k xs.length)=xs.drop k
 by_cases h:k<=xs.length
 · rw[aY h];exact ba (by simp)
 · rw[Nat.min_eq_right (by omega),drop_length,List.drop_of_length_le (by omega)];simp
theorem a1l(k l:Nat)(xs:List D)(hk:k<=l)(hl:l<=xs.length):U2 xs (some (k:Int)) (some (l:Int))=(xs.drop k).take (l-k):=by
 unfold U2 HT.sIx
 simp only
 rw[az (by omega),az (by omega)]
 show(xs.drop (min k xs.length)).take (min l xs.length-min k xs.length)=_
 rw[aY (show k<=xs.length by omega),aY hl]
theorem N3{lo hi:Option Int}(hw:h[w]? =some (.lst xs)):slD h lo hi (.ref w)=.ok (.ref h.length) (h++[.lst (U2 xs lo hi)]):=by
 have:rdL h w=some xs:=by unfold rdL;rw[hw]
 simp only[slD,this,z5]
theorem a1D(hw:h[w]? =some (.lst xs)):biD .tuple h [.ref w]=.ok (.tup xs) h:=by
 have:rdL h w=some xs:=by unfold rdL;rw[hw]
 simp only[biD,hw,this]
variable{x:Str}{wy:Str}
section
variable{ct:CT}{F:Nat->Option Fn}(W:PF F)
include W
theorem a2K{k:Nat}{H:HD}{a b:Str}{v:Int}(A:HallAt h n H)(hw:h[w]? =some (.lst [.str x,.str a,.str b]))(ha:i9 a=true)(hal:a.length<=100000)(hb:T5 b=some v):
 b6 ct F (k+3) 17 [.ref n,.ref w] h=match due (decide (a∈H.shapes.map (·.1))) true (decide ((60:Int)<=(H.shapes.length:Int))) with
  |some f=>.ok (.str f) h
  |none=>.ok .non (h.set (n+1) (.dict (kd (H.shapes++[(a,.int v)])))):=by
 obtain⟨hv,hbl,_,_⟩:=a1L hb
 have hbn:a1t b=true:=by rw[a2e,hb];rfl
 rw[m8 W.f17 rfl];simp only[M2];rw[gc0];simp_arith[t7 hw,op2,a1z,eqS,w5 1 1 rfl hw rfl,w5 2 2 rfl hw rfl,K1 W hal,G9 W (show b.length<=100000 by omega),ha,hbn,A.fld1,a0O A.c1,a3Z A.c1,F5,B8 W,Y4,a6l hbl hv,Int.cast_ofNat_Int,decide_true,Bool.not_true]
 cases hd:due (decide (a∈H.shapes.map (·.1))) true (decide ((60:Int)<=(H.shapes.length:Int))) with
 |some f=>simp_arith[Option.isNone_some,W0]
 |none=>
  obtain⟨d1,_,d2⟩:=Y3 hd;have d2:=of_decide_eq_false d2;simp_arith[Option.isNone_none,W4 A.c1 (of_decide_eq_false d1) (show _<16777216 by omega),W0]
theorem a1y{k:Nat}{H:HD}{a b:Str}(A:HallAt h n H)(hw:h[w]? =some (.lst [.str x,.str a,.str b]))(ha:i9 a=true)(hal:a.length<=100000)(hb:b="on"∨b="off"):
 b6 ct F (k+3) 25 [.ref n,.ref w] h=match due (decide (a∈H.features.map (·.1))) true (decide ((10:Int)<=(H.features.length:Int))) with
  |some f=>.ok (.str f) h
  |none=>.ok .non (h.set (n+7) (.dict (kd (H.features++[(a,.bl (decide (b="on")))])))):=by
 have hin:inD (.str b) [.str "on",.str "off"]=true:=by
  rcases hb with rfl|rfl<;>decide
 rw[m8 W.f25 rfl];simp only[J0];rw[gc0];simp_arith[t7 hw,op2,a1z,J8,eqS,w5 1 1 rfl hw rfl,w5 2 2 rfl hw rfl,K1 W hal,ha,A.fld7,a0O A.c7,a3Z A.c7,F5,B8 W,Y4,hin,v5,all_cons,all_nil,Bool.and_self,and_self,bne_self_eq_false,Int.cast_ofNat_Int,decide_true,Bool.not_true]
 cases hd:due (decide (a∈H.features.map (·.1))) true (decide ((10:Int)<=(H.features.length:Int))) with
 |some f=>simp_arith[Option.isNone_some,W0]
 |none=>
  obtain⟨d1,_,d2⟩:=Y3 hd;have d2:=of_decide_eq_false d2;simp_arith[Option.isNone_none,op2,J8,eqS,w5 2 2 rfl hw rfl,A.fld7,W4 A.c7 (of_decide_eq_false d1) (show _<16777216 by omega),W0]
theorem a0j{k:Nat}{H:HD}(A:HallAt h n H)(hw:h[w]? =some (.lst (ws.map .str)))(hl:ws.length<=SL):b6 ct F (k+1) 15 [.ref n,.ref w] h=.ok (.bl (ws.all fun x=>decide (x∈H.shapes.map (·.1)))) h:=by
 rw[m8 W.f15 rfl];simp only[M5];simp_arith[];rw[u5 (l:=ws.map D.str) (g:=[(w,.lst (ws.map D.str))]) (h1:=h) ?_ (by simp[gOk,hw]) (fun d=>match d with|.str x=>.bl (decide (x∈H.shapes.map (·.1)))|_=>.non) (fun d=>[some d,some (.ref n)]) ?_ (by simpa using hl)]
 · have e:(ws.map D.str).map (fun d=>match d with|D.str x=>D.bl (decide (x∈H.shapes.map (·.1)))|_=>D.non)=ws.map fun x=>D.bl (decide (x∈H.shapes.map (·.1))):=by
    rw[aG];rfl
   rw[e];simp_arith[a4C];exact gc1 rfl
 · simp_arith[V9,hw]
 · intro x hx;obtain⟨y,hy,rfl⟩:=am.mp hx;refine⟨rfl,?_⟩
   simp_arith[op2,A.fld1,a0O A.c1]
noncomputable def a5j:List (D×D):=[(.str "none",.int 1),(.str "clear",.int 1),(.str "back",.int 2),(.str "both",.int 4)]
theorem a2Q{k:Nat}{a j:Str}{i6:List Str}(hw:h[w]? =some (.lst (.str x::.str a::.str j::.str wy::i6.map .str)))(ha:i9 a=true)(hal:a.length<=100000)(hj:o9 a5j (.str j)=some (.int i6.length))(hy:inD (.str wy) [.str "left",.str "right",.str "either"]=true)
 (hr:i6.all i9=true) (hrl:∀y∈i6,y.length<=100000) (hrs:i6.length<=100000):b6 ct F (k+4) 21 [.ref w] h=.ok (.bl true) h:=by
 rw[m8 W.f21 rfl];simp only[D3]
 have e4:∀xs,U2 xs (some 4) none=xs.drop 4:=O1 4
 have hn:b6 ct F (k+3) 9 [.ref h.length] (h++[.lst (i6.map .str)])=.ok (.bl (i6.all i9)) (h++[.lst (i6.map .str)]):=a0V W b8 (by show _<=16777216;omega) hrl
 have hlen:decide (((i6.length+1+1+1+1:Nat):Int)<4)=false:=bq (by omega)
 unfold a5j at hj;simp_arith[t7 hw,op2,F5,hlen,aa,w5 1 1 rfl hw rfl,w5 2 2 rfl hw rfl,w5 3 3 rfl hw rfl,K1 W hal,ha,K0,Option.isSome_some,hj,hy,v5,all_cons,all_nil,Bool.and_self,and_self,bne_self_eq_false,Bool.not_true,N3 hw,e4,drop_succ_cons,drop_zero,t7 b8,w5 2 2 rfl (b7 (g:=[.lst (i6.map .str)]) hw) rfl,J8,eqS,decide_true,hn,hr];exact gc1 rfl
theorem a1R{k:Nat}{H:HD}{a j:Str}{i6:List Str}(A:HallAt h n H)(hw:h[w]? =some (.lst (.str x::.str a::.str j::.str wy::i6.map .str)))(ha:i9 a=true)(hal:a.length<=100000)(hj:o9 a5j (.str j)=some (.int i6.length))(hy:inD (.str wy) [.str "left",.str "right",.str "either"]=true)
 (hr:i6.all i9=true) (hrl:∀y∈i6,y.length<=100000) (hrs:i6.length<=100000):
 b6 ct F (k+5) 22 [.ref n,.ref w] h=match due (decide (a∈H.letters.map (·.1))) (i6.all fun x=>decide (x∈H.shapes.map (·.1))) (decide ((24:Int)<=(H.letters.length:Int))) with
  |some f=>.ok (.str f) (h++[.lst (i6.map .str)])
  |none=>.ok .non ((h++[Cell.lst (i6.map .str)]).set (n+4) (.dict (kd (H.letters++[(a,D.tup [.str j,.str wy,.tup (i6.map .str)])])))):=by
 rw[m8 W.f22 rfl];simp only[K6];rw[gc0]
 have e4:∀xs,U2 xs (some 4) none=xs.drop 4:=O1 4
 have A1:=A.app [.lst (i6.map .str)];have hw1:=b7 (g:=[.lst (i6.map .str)]) hw;have hs:=a0j (ct:=ct) (k:=k+3) W A1 (b8 (h:=h)) (by show _<=16777216;omega)
 simp_arith[a2Q W hw ha hal hj hy hr hrl hrs,Bool.not_true,w5 1 1 rfl hw rfl,N3 hw,e4,drop_succ_cons,drop_zero,op2,A1.fld4,a0O A1.c4,a3Z A1.c4,F5,hs,B8 W,Y4]
 cases hd:due (decide (a∈H.letters.map (·.1))) (i6.all fun x=>decide (x∈H.shapes.map (·.1))) (decide ((24:Int)<=(H.letters.length:Int))) with
 |some f=>simp_arith[Option.isNone_some,W0]
 |none=>
  obtain⟨d1,_,d2⟩:=Y3 hd;have d2:=of_decide_eq_false d2;simp_arith[Option.isNone_none,w5 2 2 rfl hw1 rfl,w5 3 3 rfl hw1 rfl,a1D b8,A1.fld4,W4 A1.c4 (of_decide_eq_false d1) (show _<16777216 by omega),W0]
theorem a2M{k:Nat}{H:HD}{a:Str}{i6:List Str}(A:HallAt h n H)(hw:h[w]? =some (.lst (.str x::.str a::i6.map .str)))(ha:i9 a=true)(hal:a.length<=100000)
 (hr:i6.all i9=true) (hrl:∀y∈i6,y.length<=100000) (hr1:1<=i6.length) (hr2:i6.length<=20):
 b6 ct F (k+5) 24 [.ref n,.ref w] h=match due (decide (a∈H.classes.map (·.1))) (i6.all fun x=>decide (x∈H.shapes.map (·.1))) (decide ((20:Int)<=(H.classes.length:Int))) with
  |some f=>.ok (.str f) (h++[.lst (i6.map .str),.lst (.str a::i6.map .str)])
  |none=>.ok .non ((h++[Cell.lst (i6.map .str),Cell.lst (.str a::i6.map .str)]).set (n+6) (.dict (kd (H.classes++[(a,D.tup (i6.map .str))])))):=by
 rw[m8 W.f24 rfl];simp only[M4];rw[gc0]
 have e1:∀xs,U2 xs (some 1) none=xs.drop 1:=O1 1
 have e2:∀xs,U2 xs (some 2) none=xs.drop 2:=O1 2
 have hw1:=b7 (g:=[.lst (i6.map .str)]) hw;have hw2:=b7 (g:=[.lst (.str a::i6.map .str)]) hw1;have A2:=(A.app [.lst (i6.map .str)]).app [.lst (.str a::i6.map .str)]
 have hq:(h++[Cell.lst (i6.map .str)]++[.lst (.str a::i6.map .str)])[h.length]? =some (.lst (i6.map .str)):=b7 b8
 have hs:=a0j (ct:=ct) (k:=k+3) W A2 hq (by show _<=16777216;omega)
 have hn:b6 ct F (k+4) 9 [.ref (h++[Cell.lst (i6.map .str)]).length] (h++[Cell.lst (i6.map .str)]++[.lst (.str a::i6.map .str)])=.ok (.bl true) (h++[Cell.lst (i6.map .str)]++[.lst (.str a::i6.map .str)]):=by
  have:=a0V (ct:=ct) (n:=k+1) (ws:=a::i6) W (b8 (h:=h++[Cell.lst (i6.map .str)]) (c:=.lst (.str a::i6.map .str))) (by show _<=16777216;simp;omega) (fun y hy=>by
   rcases aE.mp hy with rfl|hy
   · exact hal
   · exact hrl y hy)
  rw[all_cons,ha,hr] at this;exact this
 have l1:decide ((1:Int)<=(i6.length:Int))=true:=aX (by omega)
 have l2:decide ((i6.length:Int)<=20)=true:=aX (by omega)
 simp_arith[N3 hw,e2,drop_succ_cons,drop_zero,t7 b8,aa,op2,F5,l1,l2,Bool.not_true,N3 hw1,e1,hn,w5 1 1 rfl hw2 rfl,A2.fld6,a0O A2.c6,a3Z A2.c6,hs,B8 W,Y4];rw[show h++[Cell.lst (i6.map D.str),.lst (.str a::i6.map .str)]=h++[Cell.lst (i6.map .str)]++[.lst (.str a::i6.map .str)] by simp]
 cases hd:due (decide (a∈H.classes.map (·.1))) (i6.all fun x=>decide (x∈H.shapes.map (·.1))) (decide ((20:Int)<=(H.classes.length:Int))) with
 |some f=>simp_arith[Option.isNone_some,W0]
 |none=>
  obtain⟨d1,_,d2⟩:=Y3 hd;have d2:=of_decide_eq_false d2;simp_arith[Option.isNone_none,a1D hq,A2.fld6,W4 A2.c6 (of_decide_eq_false d1) (show _<16777216 by omega),W0]
end
theorem M1{l:AH}:(h++l)[h.length+i]? =l[i]? :=by
 rw[au (by omega)]
 congr 1;omega
variable{j:Nat}{f:Str}{bef:List Str}{core:List Str}{aft:List Str}{told:List Str}
theorem b0m{l:AH}:(h++l)[h.length]? =l[0]? :=M1 (i:=0)
variable{b:Nat}
theorem b3r{a:Nat}{ys:List D}(h1:g[a]? =some (.lst xs))(h2:g[b]? =some (.lst ys))(hl:xs.length+ys.length<=100000):O2 g (.ref a) (.ref b)=.ok (.ref g.length) (g++[.lst (xs++ys)]):=by
 simp only[O2,h1,h2];rw[ay (by show _<=16777216;omega)]
 rfl
theorem b5T:(true !=false)=true:=rfl
variable{y:Str}{sd:Str}
section
variable{ct:CT}{F:Nat->Option Fn}(W:PF F)
include W
theorem a3R{k:Nat}{a b:Str}{i j:Int}(hw:h[w]? =some (.lst [.str a,.str b]))(ha:a0g a=some i)(hb:a0g b=some j):b6 ct F (k+1) 16 [.ref w] h=.ok (.tup [.int i,.int j]) h:=by
 obtain⟨a1,a2⟩:=a1H ha;obtain⟨b1,b2⟩:=a1H hb;rw[m8 W.f16 rfl];simp only[Z7];simp_arith[w5 0 0 rfl hw rfl,w5 1 1 rfl hw rfl,a6l a2 a1,a6l b2 b1];exact D2 rfl
theorem a0G{k:Nat}{a:Str}{c:Int}(hw:h[w]? =some (.lst (.str x::.str a::.str sd::ws.map .str)))(ha:i9 a=true)(hal:a.length<=100000)(hs:inD (.str sd) [.str "above",.str "below"]=true)(hc:c=ws.length)(hn:ws.all a2Z=true)(hwl:∀y∈ws,y.length<=100000)(hl:ws.length<=100000):b6 ct F (k+5) 18 [.ref w,.int c] h=.ok (.bl true) h:=by
 subst hc;rw[m8 W.f18 rfl];simp only[F8]
 have e3:∀xs,U2 xs (some 3) none=xs.drop 3:=O1 3
 have hg:=a2S (ct:=ct) (n:=k) (ws:=ws) W (b8 (h:=h) (c:=.lst (ws.map .str))) (by show _<=16777216;omega) hwl
 rw[hn] at hg
 have hd:decide (((ws.length+1+1+1:Nat):Int)=3+(ws.length:Int))=true:=aX (by omega)
 simp_arith[t7 hw,aa,op2,O2,a1z,eqS,hd,Bool.not_true,w5 1 1 rfl hw rfl,w5 2 2 rfl hw rfl,K1 W hal,ha,hs,v5,all_cons,all_nil,Bool.and_self,and_self,b5T,N3 hw,e3,drop_succ_cons,drop_zero,hg];exact gc1 rfl
theorem a2L{k:Nat}{H:HD}{a b c:Str}{i j:Int}(A:HallAt h n H)(hw:h[w]? =some (.lst [.str x,.str a,.str sd,.str b,.str c]))(ha:i9 a=true)(hal:a.length<=100000)(hs:inD (.str sd) [.str "above",.str "below"]=true)(hb:a0g b=some i)(hc:a0g c=some j)(hl:H.points.length<=100000):
 ∃h',b6 ct F (k+6) 20 [.ref n,.ref w] h=.ok (W0 (due (decide ((a,sd)∈H.points.map (·.1))) (decide (a∈H.shapes.map (·.1))) false)) h'/\Fr n h h'∧
  HallAt h' n (if(due (decide ((a,sd)∈H.points.map (·.1))) (decide (a∈H.shapes.map (·.1))) false).isNone then{H with points:=H.points++[((a,sd),.tup [.int i,.int j])]} else H):=by
 obtain⟨_,b2⟩:=a1H hb;obtain⟨_,c2⟩:=a1H hc
 have hf:b6 ct F (k+5) 18 [.ref w,.int 2] h=.ok (.bl true) h:=a0G (ws:=[b,c]) W hw ha hal hs rfl (by simp[a4R,hb,hc]) (fun y hy=>by
  rcases aE.mp hy with rfl|hy
  · omega
  · rw[aM] at hy;subst hy;omega) (by simp)
 rw[m8 W.f20 rfl];simp only[M3];rw[gc0];simp_arith[hf,Bool.not_true,w5 1 1 rfl hw rfl,w5 2 2 rfl hw rfl,op2,A.fld3,b7x A.c3,A.fld1,a0O A.c1,B8 W,Y4];generalize hd:due (decide ((a,sd)∈H.points.map (·.1))) (decide (a∈H.shapes.map (·.1))) false=du
 cases du with
 |some f=>
  simp_arith[Option.isNone_some,W0];exact⟨h,rfl,Fr.refl n h,A⟩
 |none=>
  obtain⟨d1,_,_⟩:=Y3 hd
  have e35:U2 [.str x,.str a,.str sd,.str b,.str c] (some 3) (some 5)=[.str b,.str c]:=a1l 3 5 _ (by decide) (by simp)
  have A1:=A.app [.lst [.str b,.str c]];simp_arith[Option.isNone_none,N3 hw,e35,a3R W (b8 (h:=h)) hb hc,A1.fld3,a7H A1.c3 (of_decide_eq_false d1) (show _<16777216 by omega),W0]
  exact⟨_,rfl,(Fr.app n h _).trans (Fr.set (by omega) (by omega)),A1.s3 _⟩
end
variable{text:Str}
section
variable{ct:CT}{F:Nat->Option Fn}
def Y8(ct:CT)(F:Nat->Option Fn)(d:Nat)(H:HD)(ws:List Str)(du:Option Str)(H':HD):Prop:=∀(h:AH) (n w:Nat),HallAt h n H->h[w]? =some (.lst (ws.map .str))->∃h',b6 ct F d 13 [.ref n,.ref w] h=.ok (W0 du) h'/\Fr n h h'/\HallAt h' n H'
inductive Reads(ct:CT)(F:Nat->Option Fn)(d:Nat):HD->List Str->HD->Prop
 |nil (H:HD):Reads ct F d H [] H
 |take {H H1 H':HD} {row:Str} {i6:List Str} (hl:row.length<=100000) (hw:K3 row≠[]) (k:Y8 ct F d H (K3 row) none H1) (t:Reads ct F d H1 i6 H'):Reads ct F d H (row::i6) H'
def rhB:Ss:=(.cons (.set 4 (.call 1 (.cons (.v 3) .nil))) (.cons (.iff (.cmp .gt (.bi .len (.cons (.v 4) .nil)) (.k (.int (0)))) (.cons (.set 5 (.call 13 (.cons (.v 1) (.cons (.v 4) .nil)))) (.cons (.iff (.notN (.v 5)) (.cons .bad .nil) .nil) .nil)) .nil) .nil))
variable(W:PF F)
include W
theorem b2v{d:Nat}{R:List Str}{H H':HD}{rows:List Str}(q:Reads ct F (d+1) H rows H'):∀(p:Nat) (h:AH) (e2 e3 e4 e5:Option D),HallAt h n H->h[n+9]? =some (.lst (R.map .str))→
 ∃h',Fr n h h'/\HallAt h' n H'/\∃a2 a3 a4 a5,T7 [(n+9,.lst (R.map .str))] (.tp (.cons (.nm 2) (.cons (.nm 3) .nil))) (exs ct (b6 ct F (d+1)) rhB) (u6 p (rows.map D.str)) [some (.str text),some (.ref n),e2,e3,e4,e5] h=.ok (.nx [some (.str text),some (.ref n),a2,a3,a4,a5]) h':=by
 have step:∀{h:AH} {e2 e3 e4 e5:Option D} {row:Str} {i6:List D} {p:Nat},h[n+9]? =some (.lst (R.map .str))→
  T7 [(n+9,.lst (R.map .str))] (.tp (.cons (.nm 2) (.cons (.nm 3) .nil))) (exs ct (b6 ct F (d+1)) rhB) (.tup [.int p,.str row]::i6) [some (.str text),some (.ref n),e2,e3,e4,e5] h=
  (exs ct (b6 ct F (d+1)) rhB [some (.str text),some (.ref n),some (.int p),some (.str row),e4,e5] h).bind fun o h'=>match o with
   |.nx env''=>T7 [(n+9,.lst (R.map .str))] (.tp (.cons (.nm 2) (.cons (.nm 3) .nil))) (exs ct (b6 ct F (d+1)) rhB) i6 env'' h'
   |.rt d=>.ok (.rt d) h':=fun{h e2 e3 e4 e5 row i6 p} hs=>by
  rw[T7,ay (by simp[gOk,hs])]
  rfl
 induction q with
 |nil H=>
  intro p h e2 e3 e4 e5 A hs;refine⟨h,Fr.refl n h,A,e2,e3,e4,e5,?_⟩
  rw[map_nil,u6,T7,ay (by simp[gOk,hs])]
 | @take H H1 H' row i6 hl hw k t ih=>
  intro p h e2 e3 e4 e5 A hs;obtain⟨h1,k1,k2,k3⟩:=k (h++[.lst ((K3 row).map .str)]) n h.length (A.app _) b8
  have hs1:h1[n+9]? =some (.lst (R.map .str)):=by
   have hs0:=b7 (g:=[Cell.lst ((K3 row).map .str)]) hs;rw[k2.get (n+9) (ac.mp hs0).1 (by omega)]
   exact hs0
  obtain⟨h',f1,A',e2',e3',e4',e5',m⟩:=ih (p+1) h1 (some (.int p)) (some (.str row)) (some (.ref h.length)) (some .non) k3 hs1
  have hp:decide ((0:Int)<(((K3 row).map D.str).length:Int))=true:=aX (by
   cases hq:K3 row with
   |nil=>exact absurd hq hw
   |cons a b=>simp)
  have e:exs ct (b6 ct F (d+1)) rhB [some (.str text),some (.ref n),some (.int p),some (.str row),e4,e5] h=.ok (.nx [some (.str text),some (.ref n),some (.int p),some (.str row),some (.ref h.length),some .non]) h1:=by
   simp only[rhB];simp_arith[a4K W hl,t7 b8,op2,F5,hp,k1,W0,decide_true,Bool.not_true]
  refine⟨h',((Fr.app n h _).trans k2).trans f1,A',e2',e3',e4',e5',?_⟩
  rw[map_cons,u6,step hs,e,d9];exact m
theorem b2M(f:Fr h.length h h'):h'.take h.length=h:=by
 refine List.ext_getElem? fun i=>?_
 by_cases hi:i<h.length
 · rw[bt hi,f.get i hi (.inl hi)]
 · rw[aS (by simp;omega),aS (by omega)]
theorem a3O{d:Nat}{H':HD}(hin:ct.init 6=32)(ht:text.length<=10000000)(q:Reads ct F (d+1) {} (Txt.split text "\n") H'):
 ∃h',h'.take h.length=h/\HallAt h' h.length H'/\b6 ct F (d+2) 12 [.str text] h=.ok (.ref h.length) h':=by
 rw[m8 W.f12 rfl]
 have hf:O7=⟨1,6,0,(.cons (.set 1 (.mk 6 .nil)) (.cons (.for (.tp (.cons (.nm 2) (.cons (.nm 3) .nil))) (.enum (.mt .split (.v 0) (.cons (.k (.str "\n")) .nil))) rhB) (.cons (.ret (.v 1)) .nil)))⟩:=rfl
 simp only[hf];rw[gc0]
 have A0:HallAt (h++[.obj 6 (a1f h.length),.dict [],.dict [],.dict [],.dict [],.lst [],.dict [],.dict [],.lst []]) h.length {}:=⟨b0m,M1,M1,M1,M1,M1,M1,M1,M1⟩
 have hlen:(h++[Cell.obj 6 (a1f h.length),.dict [],.dict [],.dict [],.dict [],.lst [],.dict [],.dict [],.lst []]).length=h.length+9:=by simp
 have hnew:=b0f (ct:=ct) (n:=d) (h:=h) W;generalize hg:h++[Cell.obj 6 (a1f h.length),.dict [],.dict [],.dict [],.dict [],.lst [],.dict [],.dict [],.lst []]=g at*
 have A1:=A0.app [.lst ((Txt.split text "\n").map .str)]
 have hs:(g++[Cell.lst ((Txt.split text "\n").map .str)])[h.length+9]? =some (.lst ((Txt.split text "\n").map .str)):=by rw[←hlen];exact b8
 obtain⟨h',f1,A',e2,e3,e4,e5,m⟩:=b2v (d:=d) (R:=Txt.split text "\n") (text:=text) W q 0 (g++[.lst ((Txt.split text "\n").map .str)]) none none none none A1 hs
 have fr:Fr h.length h h':=by
  refine Fr.trans ?_ f1
  rw[←hg];exact(Fr.app _ h _).trans (Fr.app _ _ _)
 refine⟨h',b2M W fr,A',?_⟩
 have hsp:mtD .split g (.str text) [.str "\n"]=.ok (.ref g.length) (g++[.lst ((Txt.split text "\n").map .str)]):=by
  simp only[mtD];rw[ay ⟨by decide,by show _<=16777216;omega⟩]
  rfl
 have hen:U1 (g++[.lst ((Txt.split text "\n").map .str)]) (.ref g.length)=.ok (u6 0 ((Txt.split text "\n").map .str),[(h.length+9,.lst ((Txt.split text "\n").map .str))]) (g++[.lst ((Txt.split text "\n").map .str)]):=by
  simp only[U1,hlen,hs]
 simp_arith[hin,hnew,mtT,hsp,hen,m]
end
noncomputable def dg(n:Nat):Str:=Str.ofString (toString (n:Int))
def lt(i:Nat):Nat:=97+i
theorem b1c:∀i:Fin 26,(cd abc)[i.val]? =some (lt i.val)/\N5 (lt i.val)=true:=by decide+kernel
def nm(stem:Str)(k:Nat):Str:=(⟨#[lt (7*k%26)]⟩++stem)++dg (k*13%61)
variable{stem:Str}
theorem a2l(h:i9 z=true):1<=z.length/\z.length<=12:=by
 unfold i9 at h;rw[ae,ae] at h;exact⟨aw h.1.1,aw h.1.2⟩
section
variable{ct:CT}{F:Nat->Option Fn}(W:PF F)
include W
section
variable{k:Nat}{i6:List D}
theorem a8D(hw:h[w]? =some (.lst (.str "shape"::i6))):b6 ct F (k+1) 13 [.ref n,.ref w] h=b6 ct F k 17 [.ref n,.ref w] h:=by
 rw[m8 W.f13 rfl];simp only[B9];rw[gc0];simp_arith[w5 0 0 rfl hw rfl,op2,J8,eqS,decide_true,decide_false];generalize b6 ct F k 17 [.ref n,.ref w] h=r
 cases r<;>simp_arith[]
theorem a8E(hw:h[w]? =some (.lst (.str "point"::i6))):b6 ct F (k+1) 13 [.ref n,.ref w] h=b6 ct F k 20 [.ref n,.ref w] h:=by
 rw[m8 W.f13 rfl];simp only[B9];rw[gc0];simp_arith[w5 0 0 rfl hw rfl,op2,J8,eqS,decide_true,decide_false];generalize b6 ct F k 20 [.ref n,.ref w] h=r
 cases r<;>simp_arith[]
theorem a7D(hw:h[w]? =some (.lst (.str "letter"::i6))):b6 ct F (k+1) 13 [.ref n,.ref w] h=b6 ct F k 22 [.ref n,.ref w] h:=by
 rw[m8 W.f13 rfl];simp only[B9];rw[gc0];simp_arith[w5 0 0 rfl hw rfl,op2,J8,eqS,decide_true,decide_false];generalize b6 ct F k 22 [.ref n,.ref w] h=r
 cases r<;>simp_arith[]
theorem a8F(hw:h[w]? =some (.lst (.str "class"::i6))):b6 ct F (k+1) 13 [.ref n,.ref w] h=b6 ct F k 24 [.ref n,.ref w] h:=by
 rw[m8 W.f13 rfl];simp only[B9];rw[gc0];simp_arith[w5 0 0 rfl hw rfl,op2,J8,eqS,decide_true,decide_false];generalize b6 ct F k 24 [.ref n,.ref w] h=r
 cases r<;>simp_arith[]
theorem a5M(hw:h[w]? =some (.lst (.str "feature"::i6))):b6 ct F (k+1) 13 [.ref n,.ref w] h=b6 ct F k 25 [.ref n,.ref w] h:=by
 rw[m8 W.f13 rfl];simp only[B9];rw[gc0];simp_arith[w5 0 0 rfl hw rfl,op2,J8,eqS,decide_true,decide_false];generalize b6 ct F k 25 [.ref n,.ref w] h=r
 cases r<;>simp_arith[]
end
def b8i{α:Type}(o:Option Str)(a b:α):α:=match o with
 |none=>a
 |some _=>b
variable{d:Nat}{H:HD}
theorem a8G{a b:Str}{v:Int}(ha:i9 a=true)(hb:T5 b=some v):Y8 ct F (d+9) H [("shape":Str),a,b] (due (decide (a∈H.shapes.map (·.1))) true (decide ((60:Int)<=(H.shapes.length:Int))))
 (b8i (due (decide (a∈H.shapes.map (·.1))) true (decide ((60:Int)<=(H.shapes.length:Int)))) {H with shapes:=H.shapes++[(a,.int v)]} H):=by
 intro h n w A hw
 have:=a2K (ct:=ct) (k:=d+5) W A hw ha (by have:=a2l ha;omega) hb
 rw[a8D W hw,this];generalize due (decide (a∈H.shapes.map (·.1))) true (decide ((60:Int)<=(H.shapes.length:Int)))=du
 cases du with
 |none=>exact⟨_,rfl,Fr.set (by omega) (by omega),A.s1 _⟩
 |some f=>exact⟨_,rfl,Fr.refl n h,A⟩
theorem a5N{a b:Str}(ha:i9 a=true)(hb:b="on"∨b="off"):Y8 ct F (d+9) H [("feature":Str),a,b] (due (decide (a∈H.features.map (·.1))) true (decide ((10:Int)<=(H.features.length:Int))))
 (b8i (due (decide (a∈H.features.map (·.1))) true (decide ((10:Int)<=(H.features.length:Int)))) {H with features:=H.features++[(a,.bl (decide (b="on")))]} H):=by
 intro h n w A hw
 have:=a1y (ct:=ct) (k:=d+5) W A hw ha (by have:=a2l ha;omega) hb
 rw[a5M W hw,this];generalize due (decide (a∈H.features.map (·.1))) true (decide ((10:Int)<=(H.features.length:Int)))=du
 cases du with
 |none=>exact⟨_,rfl,Fr.set (by omega) (by omega),A.s7 _⟩
 |some f=>exact⟨_,rfl,Fr.refl n h,A⟩
end
theorem k7(x y:Str):(x++y).length=x.length+y.length:=by rw[←o8,J2,aq,o8,o8]
theorem a8J{i:Int}(h: -1000000000000<=i/\i<=1000000000000):a1G i=true:=by
 cases i with
 |ofNat n=>
  refine Nat.ble_eq_true_of_le ?_
  have:(n:Int)<=1000000000000:=h.2
  omega
 |negSucc n=>
  refine Nat.ble_eq_true_of_le ?_
  have:=h.1
  rw[Int.negSucc_eq] at this;omega
theorem a2Y(h:n<=1000000):a1a (n:Int)=true:=Nat.ble_eq_true_of_le (by omega)
theorem U7{i j:Int}(hj: -1000000000000<=j/\j<=1000000000000):T4 h (.int i) (.int j)=.ok (.int (i*j)) h:=by
 simp only[T4];rw[ay (by rw[a8J hj,Bool.or_true])]
theorem a6d{i j:Int}(hj:0<j):y9 h (.int i) (.int j)=.ok (.int (i%j)) h:=by
 simp only[y9];rw[ay hj]
theorem b5L{i j:Int}(hj:0<j)(h2:j<1073741824):D7 h (.int i) (.int j)=.ok (.int (i/j)) h:=by
 simp only[D7];rw[ay ⟨hj,h2⟩]
theorem z4{i j:Int}:O2 h (.int i) (.int j)=.ok (.int (i+j)) h:=rfl
theorem o5(hl:x.length+y.length<=100000):O2 h (.str x) (.str y)=.ok (.str (x++y)) h:=by
 simp only[O2];rw[ay (by show _<=16777216;omega)]
theorem G0(b:Nat)(hb:0<b){a:Nat}:y9 h (.int (a:Int)) (.int (b:Int))=.ok (.int ((a%b:Nat):Int)) h:=by
 rw[a6d (by omega)]
 congr 2
theorem N9(b:Nat)(hb:0<b)(h2:b<1073741824){a:Nat}:D7 h (.int (a:Int)) (.int (b:Int))=.ok (.int ((a/b:Nat):Int)) h:=by
 rw[b5L (by omega) (by omega)]
 congr 2
noncomputable def mx(c j:Int):Int:=(c%2305843009213693951+1)*(j*j+48271)*40692%2147483399
theorem b4Q(c j:Int):0<=mx c j:=Int.emod_nonneg _ (by decide)
variable{sep:Str}{ts:List Str}
theorem a4d(h:(ts.map (·.length)).sum+ts.length*sep.length<=1000000):JoinOk sep ts=true:=by
 unfold JoinOk;rw[StrLaws.joinTotal];simp only[Builtin.Str.tooLong,Bool.not_eq_true',decide_eq_false_iff_not]
 have:sizeLine=16777216:=by decide
 omega
theorem a5C:∀ps:List Str,cd (Str.join "" ps)=(ps.map cd).flatten
 |[]=>rfl
 |[x]=>by show cd x=_;simp
 |x::y::r=>by
  show cd (x++Str.ofString ""++Str.join "" (y::r))=_
  rw[J2,J2,a5C (y::r),show cd (Str.ofString "")=[] from rfl,aV];rfl
theorem b5P(n:Nat)(x:Str):cd (C9 n x)=(List.replicate n (cd x)).flatten:=by
  show(C9 n x).cps.toList=_
  unfold C9;rw[foldl_app'];simp[cd]
where
  foldl_app' {x:Array Nat}:∀{n:Nat} {a:Array Nat},((List.replicate n x).foldl (· ++ ·) a).toList=a.toList++(List.replicate n x.toList).flatten
    |0,a=>by simp
    |n+1,a=>by rw[replicate_succ,foldl_cons,foldl_app',replicate_succ,flatten_cons];simp
theorem a7u(ts:List Str):cd (Txt.join "" ts)=(ts.map cd).flatten:=by
 show cd (Builtin.Str.glued "" _)=_
 rw[StrLaws.glued_eq_join];exact a5C ts
theorem b6P{p:Nat}(h:p<=z.length):cd (Txt.slice z none (some (p:Int)))=(cd z).take p:=by
 have e:Txt.slice z none (some (p:Int))=⟨((z.cps.toList.drop (0:Int).toNat).take ((p:Int)-0).toNat).toArray⟩:=beq_iff_eq.mp (PyProof.Rows.slice_closes_to ⟨by omega,by have:=o8 z;show(p:Int)<=((cd z).length:Int);omega⟩)
 rw[e];simp[cd]
theorem b1E{p:Nat}(h:p<=z.length):cd (Txt.slice z (some (p:Int)) none)=(cd z).drop p:=by
 rw[PyProof.Rows.slice_from_eq (b:=z.length) (by omega) (by omega) rfl]
 show((cd z).drop ((p:Int).toNat)).take (((z.length:Int)-p).toNat)=_
 rw[Int.toNat_natCast];exact ba (by rw[br,o8];omega)
variable{c:CF}{env:u7}{ns:List Int}
section
variable{ct:CT}{F:Nat->Option Fn}
theorem seq{s:S}{T:Ss}{env':u7}(e:ex ct c s env h=.ok (.nx env') h'):exs ct c (.cons s T) env h=exs ct c T env' h':=by rw[U0,e,d9]
theorem a0b{k f:Nat}(hF:F f=some z0)(hr:h[n]? =some (.rol (ns.map .int))):∃a,b6 ct F (k+1) f [.ref n,.int (j:Int)] h=.ok (.int a) h:=by
 rw[m8 hF rfl];simp only[z0]
 have rl:rdL h n=some (ns.map .int):=by unfold rdL;rw[hr]
 have le:biD .len h [.ref n]=.ok (.int (ns.length:Int)) h:=by simp only[biD,hr,rl,aa]
 by_cases lt:(j:Int)<(ns.length:Int)
 · have lt':j<ns.length:=by omega
   have ix:ixD h (.ref n) (.int (j:Int))=.ok (.int ns[j]) h:=by
    have:atI (ns.map D.int) (j:Int)=some (.int ns[j]):=by
     show(ixN (ns.map D.int).length (j:Int)).bind (fun j=>(ns.map D.int)[j]?)=_
     have e:ixN (ns.map D.int).length (j:Int)=some j:=by
      unfold ixN;rw[aa,ay (by omega),ay (by omega)]
      simp
     rw[e]
     show(ns.map D.int)[j]? =_
     rw[ak,af lt']
     rfl
    simp only[ixD,hr,this]
   refine⟨ns[j],?_⟩
   simp_arith[le,op2,F5,lt,decide_true,ix];exact D2 rfl
 · refine⟨0,?_⟩
   simp_arith[le,op2,F5,lt,decide_false];exact D2 rfl
theorem C6{k f:Nat}{c j:Int}(hF:F f=some n8)(hj:0<=j/\j<=1000):∃M:Nat,b6 ct F (k+1) f [.int c,.int j] h=.ok (.int (M:Int)) h:=by
 obtain⟨M,hM⟩:=Int.eq_ofNat_of_zero_le (b4Q c j);refine⟨M,?_⟩
 rw[←hM,m8 hF rfl];simp only[n8]
 have hjj:0<=j*j/\j*j<=1000000:=⟨Int.mul_nonneg hj.1 hj.1,by
  have:=Int.mul_le_mul hj.2 hj.2 hj.1 (by decide)
  omega⟩
 simp_arith[op2,a6d (h:=h) (i:=c) (j:=2305843009213693951) (by decide),O2,U7 (h:=h) (i:=j) (j:=j) (by omega),U7 (h:=h) (i:=c%2305843009213693951+1) (j:=j*j+48271) (by omega),U7 (h:=h) (i:=(c%2305843009213693951+1)*(j*j+48271)) (j:=40692) (by decide),a6d (h:=h) (i:=(c%2305843009213693951+1)*(j*j+48271)*40692) (j:=2147483399) (by decide)]
 exact D2 rfl
end
variable{α:Type}
theorem V1{a:Option α}:(some a).join=a:=rfl
theorem a7y:abc.length=26:=by decide+kernel
theorem b6d:abc.length<=SL:=by rw[a7y];show 26<=16777216;omega
theorem b4U{a:Nat}(h:lt a=lt b):a=b:=by unfold lt at h;omega
theorem a6U(h:i<26):N5 (lt i)=true:=(b1c ⟨i,h⟩).2
def nmA(f m i:Nat):Str:=C9 (m-i) ⟨#[lt f]⟩
theorem a4v(f m i:Nat):cd (nmA f m i)=List.replicate (m-i) (lt f):=by
 unfold nmA;rw[b5P]
 show(List.replicate _ [lt f]).flatten=_
 simp
noncomputable def nmB(stem:Str)(p f i:Nat):Str:=(Txt.slice stem none (some (p:Int))++⟨#[lt ((f+5*i)%26)]⟩)++Txt.slice stem (some (p:Int)) none
theorem a2A{p f:Nat}(h:p<=stem.length):cd (nmB stem p f i)=(cd stem).take p++lt ((f+5*i)%26)::(cd stem).drop p:=by
 unfold nmB;rw[J2,J2,b6P h,b1E h]
 show(cd stem).take p++[lt ((f+5*i)%26)]++(cd stem).drop p=_
 simp
theorem Z3{α β:Type}(f:α->β):∀{l:List α},l.Nodup->(∀a∈l,∀b∈l,f a=f b->a=b)->(l.map f).Nodup
 |[],_,_=>nodup_nil
 |x::r,h,hi=>by
  have h:=aR.mp h;rw[map_cons];refine aR.mpr ⟨fun m=>?_,Z3 f h.2 fun a ha b hb=>hi a (.tail _ ha) b (.tail _ hb)⟩
  obtain⟨y,hy,e⟩:=am.mp m;rw[hi y (.tail _ hy) x (.head _) e] at hy;exact h.1 hy
structure Nms(ns:List Str)(m:Nat):Prop where
 len:ns.length=m
 nd:ns.Nodup
 ok:∀n∈ns,i9 n=true
 ql:¬(("q":Str)∈ns/\("left":Str)∈ns)
theorem b9v{f m:Nat}(hf:f<26)(hm:m<13):Nms ((List.range m).map (nmA f m)) m:=by
 refine⟨by simp,Z3 _ List.nodup_range fun a ha b hb e=>?_,fun n hn=>?_,fun hq=>?_⟩
 · have ha:=aL.mp ha;have hb:=aL.mp hb;have e:=congrArg (fun z=>(cd z).length) e
   simp only[a4v,bf] at e;omega
 · obtain⟨i,hi,rfl⟩:=am.mp hn;have hi:=aL.mp hi
   have l:(nmA f m i).length=m-i:=by rw[←o8,a4v,bf]
   unfold i9;rw[l,a4v];rw[aX (show 1<=m-i by omega),aX (show m-i<=12 by omega)]
   simp only[Bool.true_and];refine bg.mpr fun c hc=>?_
   rw[(List.mem_replicate.mp hc).2];exact a6U hf
 · obtain⟨i,_,e⟩:=am.mp hq.2;have e:=congrArg cd e;rw[a4v] at e
   have h0:(108:Nat)∈List.replicate (m-i) (lt f):=by rw[e];decide
   have h1:(101:Nat)∈List.replicate (m-i) (lt f):=by rw[e];decide
   have:=(List.mem_replicate.mp h0).2.trans (List.mem_replicate.mp h1).2.symm
   exact absurd this (by decide)
theorem b9u{p f m:Nat}(hs:stem.length<=11)(hst:(cd stem).all N5=true)(hp:p<=stem.length)(hm:m<=26):Nms ((List.range m).map (nmB stem p f)) m:=by
 refine⟨by simp,Z3 _ List.nodup_range fun a ha b hb e=>?_,fun n hn=>?_,fun hq=>?_⟩
 · have ha:=aL.mp ha;have hb:=aL.mp hb;have e:=congrArg cd e;rw[a2A hp,a2A hp] at e;have e:=List.append_cancel_left e
   injection e with e _
   have e:=b4U e;omega
 · obtain⟨i,hi,rfl⟩:=am.mp hn
   have lt':((cd stem).take p++lt ((f+5*i)%26)::(cd stem).drop p).length=stem.length+1:=by
    rw[aq,length_cons,aK,br,o8];omega
   have l:(nmB stem p f i).length=stem.length+1:=by rw[←o8,a2A hp,lt']
   unfold i9;rw[l,a2A hp,aX (show 1<=stem.length+1 by omega),aX (show stem.length+1<=12 by omega)]
   simp only[Bool.true_and];refine bg.mpr fun c hc=>?_
   rcases aJ.mp hc with q|q
   · exact bg.mp hst c (List.mem_of_mem_take q)
   · rcases aE.mp q with q|q
     · rw[q];exact a6U (Nat.mod_lt _ (by decide))
     · exact bg.mp hst c (List.mem_of_mem_drop q)
 · have l:∀i,(nmB stem p f i).length=stem.length+1:=fun i=>by
    rw[←o8,a2A hp,aq,length_cons,aK,br,o8];omega
   obtain⟨i,_,e1⟩:=am.mp hq.1;obtain⟨j,_,e2⟩:=am.mp hq.2;have a:=l i;have b:=l j;rw[e1] at a;rw[e2] at b;exact absurd (a.trans b.symm) (by decide)
variable{e:E}
section
variable{ct:CT}{F:Nat->Option Fn}
theorem a0p{m:Nat}(hm:m<=1000000):a8U h (.int 0) (.int (m:Int))=.ok ((List.range m).map fun i=>.int ((0:Int)+(i:Nat)),[]) h:=by
 simp only[a8U];rw[ay ⟨by decide,a2Y hm⟩]
 show R.ok (a8V 0 (((m:Int)-0).toNat),[]) h=_
 rw[Int.sub_zero,Int.toNat_natCast];rfl
theorem Y5{fr:List Nat}{a:E}{m:Nat}(f:Nat->D)(ha:ev ct c a env h=.ok (.int (m:Int)) h)(hm:m<=1000000)
 (hx:∀i,i<m->ev ct c e (some (.int (i:Int))::fr.map fun j=>(env[j]?).join) h=.ok (f i) h):ev ct c (.comp (.nm 0) (.rng1 a) 1 fr .yes e) env h=.ok (.ref h.length) (h++[.lst ((List.range m).map f)]):=by
 rw[u5 (l:=(List.range m).map fun i=>.int ((0:Int)+(i:Nat))) (g:=[]) (h1:=h) ?_ rfl (fun d=>match d with|.int i=>f i.toNat|_=>.non) (fun d=>some d::fr.map fun j=>(env[j]?).join) ?_ ?_]
 · congr 3;rw[aG];refine congrArg (fun g=>Cell.lst (List.map g (List.range m))) (funext fun i=>?_)
   simp
 · rw[a5q,ha,d9,a0p hm]
 · intro x hx';obtain⟨i,hi,rfl⟩:=am.mp hx';refine⟨rfl,?_⟩
   have z:(0:Int)+(i:Nat)=((i:Nat):Int):=by omega
   rw[z,hx i (aL.mp hi)];simp
 · rw[aa,aH]
   show _<=16777216
   omega
theorem a9Y(hi:i<26):ixD h (.str abc) (.int (i:Int))=.ok (.str ⟨#[lt i]⟩) h:=ix_str b6d (b1c ⟨i,hi⟩).1
theorem a8L:a0F.length<=SL:=by rw[show a0F.length=36 by decide+kernel];show 36<=16777216;omega
def a0R(c i:Nat):Nat:=(cd a0F).getD ((c/16224+7*i)%36) 0
theorem a5z(c i:Nat):(cd a0F)[(c/16224+7*i)%36]? =some (a0R c i)/\N5 (a0R c i)=true:=by
 have lt:(c/16224+7*i)%36<(cd a0F).length:=by rw[o8,show a0F.length=36 by decide+kernel];exact Nat.mod_lt _ (by decide)
 unfold a0R;rw[bo,af lt]
 exact⟨rfl,aX (bj lt)⟩
theorem W7{k f c m:Nat}(hF:F f=some l8)(hm:m<=26):∃ns,Nms ns m/\b6 ct F (k+1) f [.int (c:Int),.int (m:Int)] h=.ok (.ref h.length) (h++[.lst (ns.map .str)]):=by
 have d4:D7 h (.int (c:Int)) (.int 4)=.ok (.int ((c/4:Nat):Int)) h:=N9 4 (by decide) (by decide)
 have m26:∀(a:Nat) (h:AH),y9 h (.int (a:Int)) (.int 26)=.ok (.int ((a%26:Nat):Int)) h:=fun a h=>G0 26 (by decide)
 have m4:y9 h (.int (c:Int)) (.int 4)=.ok (.int ((c%4:Nat):Int)) h:=G0 4 (by decide)
 have d104:D7 h (.int (c:Int)) (.int 104)=.ok (.int ((c/104:Nat):Int)) h:=N9 104 (by decide) (by decide)
 have m12:y9 h (.int ((c/104:Nat):Int)) (.int 12)=.ok (.int ((c/104%12:Nat):Int)) h:=G0 12 (by decide)
 have d1248:D7 h (.int (c:Int)) (.int 1248)=.ok (.int ((c/1248:Nat):Int)) h:=N9 1248 (by decide) (by decide)
 have f26:c/4%26<26:=Nat.mod_lt _ (by decide)
 have s12:c/104%12<12:=Nat.mod_lt _ (by decide)
 rw[m8 hF rfl];simp only[l8]
 show∃ns,Nms ns m/\gcR 2 h (K8 (exs ct (b6 ct F k) _ [some (.int (c:Int)),some (.int (m:Int)),none,none,none,none,none] h))=_
 rw[seq (env':=[some (.int (c:Int)),some (.int (m:Int)),some (.str abc),none,none,none,none]) (h':=h) (by simp_arith[])]
 rw[seq (env':=[some (.int (c:Int)),some (.int (m:Int)),some (.str abc),some (.int ((c/4%26:Nat):Int)),none,none,none]) (h':=h) (by simp_arith[op2,d4,m26])]
 generalize hf:c/4%26=f1 at f26
 by_cases hc:((c%4:Nat):Int)=0/\(m:Int)<13
 · obtain⟨h1,h2⟩:=hc
   have q0:J8 h (.int ((c%4:Nat):Int)) (.int 0)=.ok (.bl true) h:=by rw[h1];rfl
   refine⟨_,b9v (m:=m) f26 (by omega),?_⟩
   have cm:ev ct (b6 ct F k) cA [some (.int (c:Int)),some (.int (m:Int)),some (.str abc),some (.int (f1:Int)),none,none,none] h=.ok (.ref h.length) (h++[.lst ((List.range m).map fun i=>.str (nmA f1 m i))]):=by
    unfold cA;refine Y5 (fun i=>.str (nmA f1 m i)) (by simp_arith[]) (by omega) fun i hi=>?_
    have sb:a5b h (.int (m:Int)) (.int (i:Int))=.ok (.int ((m-i:Nat):Int)) h:=by
     show R.ok (D.int ((m:Int)-(i:Int))) h=_
     congr 2;omega
    have ml:T4 h (.str ⟨#[lt f1]⟩) (.int ((m-i:Nat):Int))=.ok (.str (nmA f1 m i)) h:=by
     simp only[T4]
     have l1:(⟨#[lt f1]⟩:Str).length*(((m-i:Nat):Int)).toNat<=SL:=by
      rw[Int.toNat_natCast]
      show 1*(m-i)<=16777216
      omega
     rw[ay ⟨a2Y (by omega),l1⟩]
     exact congrArg (fun z=>R.ok (D.str (C9 z ⟨#[lt f1]⟩)) h) (Int.toNat_natCast _)
    simp_arith[op2,a9Y f26,sb,ml,V1]
   simp_arith[op2,m4,q0,F5,h2,decide_true,cm]
   have e:((List.range m).map (nmA f1 m)).map D.str=(List.range m).map fun i=>D.str (nmA f1 m i):=by rw[aG];rfl
   rw[e];exact gc2 (by simp) (aj _) (by rw[←e];exact C7 _)
 · have tt:∀T,exs ct (b6 ct F k) (.cons (.iff (.an (.cmp .eq (.bin .mod (.v 0) (.k (.int (4)))) (.k (.int (0)))) (.cmp .lt (.v 1) (.k (.int (13))))) (.cons (.ret cA) .nil) .nil) T) [some (.int (c:Int)),some (.int (m:Int)),some (.str abc),some (.int (f1:Int)),none,none,none] h=exs ct (b6 ct F k) T [some (.int (c:Int)),some (.int (m:Int)),some (.str abc),some (.int (f1:Int)),none,none,none] h:=fun T=>by
    refine seq ?_
    by_cases h1:((c%4:Nat):Int)=0
    · have h2:¬(m:Int)<13:=fun z=>hc ⟨h1,z⟩
      have q0:J8 h (.int ((c%4:Nat):Int)) (.int 0)=.ok (.bl true) h:=by rw[h1];rfl
      simp_arith[op2,m4,q0,F5,h2,decide_false]
    · have q0:J8 h (.int ((c%4:Nat):Int)) (.int 0)=.ok (.bl false) h:=by simp only[J8,eqS,h1,decide_false]
      simp_arith[op2,m4,q0]
   rw[tt];rw[seq (env':=[some (.int (c:Int)),some (.int (m:Int)),some (.str abc),some (.int (f1:Int)),some (.int ((c/104%12:Nat):Int)),none,none]) (h':=h) (by simp_arith[op2,d104,m12])]
   generalize c/104%12=sz at s12
   have a1:((sz:Nat):Int)+1=((sz+1:Nat):Int):=by omega
   rw[seq (env':=[some (.int (c:Int)),some (.int (m:Int)),some (.str abc),some (.int (f1:Int)),some (.int (sz:Int)),some (.int ((c/1248%(sz+1):Nat):Int)),none]) (h':=h) (by simp_arith[op2,d1248,z4,a1,G0 (sz+1) (by omega)])]
   have pl:c/1248%(sz+1)<=sz:=Nat.le_of_lt_succ (Nat.mod_lt _ (by omega))
   generalize c/1248%(sz+1)=p at pl
   have cs:ev ct (b6 ct F k) cS [some (.int (c:Int)),some (.int (m:Int)),some (.str abc),some (.int (f1:Int)),some (.int (sz:Int)),some (.int (p:Int)),none] h=.ok (.ref h.length) (h++[.lst ((List.range sz).map fun i=>.str ⟨#[a0R c i]⟩)]):=by
    unfold cS;refine Y5 (fun i=>.str ⟨#[a0R c i]⟩) (by simp_arith[]) (by omega) fun i hi=>?_
    have ad:O2 h (.str abc) (.str "0123456789")=.ok (.str a0F) h:=by
     rw[o5 (by rw[a7y,show(Str.ofString "0123456789").length=10 by decide+kernel];decide)]
     rfl
    have d16:D7 h (.int (c:Int)) (.int 16224)=.ok (.int ((c/16224:Nat):Int)) h:=N9 16224 (by decide) (by decide)
    have m7:T4 h (.int 7) (.int (i:Int))=.ok (.int ((7*i:Nat):Int)) h:=by rw[U7 (by omega)];congr 2
    have a2:((c/16224:Nat):Int)+((7*i:Nat):Int)=((c/16224+7*i:Nat):Int):=by omega
    have m36:y9 h (.int ((c/16224+7*i:Nat):Int)) (.int 36)=.ok (.int (((c/16224+7*i)%36:Nat):Int)) h:=G0 36 (by decide)
    simp_arith[op2,ad,d16,m7,z4,a2,m36,ix_str a8L (a5z c i).1,V1]
   have es:((List.range sz).map fun i=>D.str ⟨#[a0R c i]⟩)=((List.range sz).map fun i=>(⟨#[a0R c i]⟩:Str)).map D.str:=by rw[aG];rfl
   rw[es] at cs;generalize hts:(List.range sz).map (fun i=>(⟨#[a0R c i]⟩:Str))=ts at cs
   have tl:ts.length=sz:=by rw[←hts];simp
   have t1:∀t∈ts,t.length=1/\(cd t).all N5=true:=fun t ht=>by
    rw[←hts] at ht;obtain⟨i,_,rfl⟩:=am.mp ht;exact⟨rfl,by show([a0R c i]:List Nat).all N5=true;rw[all_cons,(a5z c i).2];rfl⟩
   have sm:∀l:List Str,(∀t∈l,t.length=1)->(l.map (·.length)).sum=l.length:=fun l=>by
    induction l with
    |nil=>intro _;rfl
    |cons x r ih=>intro hh;rw[map_cons,List.sum_cons,ih (fun t ht=>hh t (.tail _ ht)),hh x (.head _),length_cons];exact Nat.add_comm 1 _
   have jo:JoinOk "" ts=true:=a4d (by rw[sm ts fun t ht=>(t1 t ht).1,show(Str.ofString "").length=0 from rfl];omega)
   have jn:mtD .join (h++[.lst (ts.map .str)]) (.str "") [.ref h.length]=.ok (.str (Txt.join "" ts)) (h++[.lst (ts.map .str)]):=by
    simp only[mtD,a6J,a0Y];rw[ay jo]
   have sl:(Txt.join "" ts).length=sz:=by
    rw[←o8,a7u,List.length_flatten,aG,←tl];exact(congrArg List.sum (aT fun t _=>o8 t)).trans (sm ts fun t ht=>(t1 t ht).1)
   have ss:(cd (Txt.join "" ts)).all N5=true:=by
    rw[a7u];refine bg.mpr fun x hx=>?_
    obtain⟨q,hq,hm⟩:=List.mem_flatten.mp hx;obtain⟨t,ht,rfl⟩:=am.mp hq;exact bg.mp (t1 t ht).2 x hm
   generalize Txt.join "" ts=stem at jn sl ss;rw[seq (env':=[some (.int (c:Int)),some (.int (m:Int)),some (.str abc),some (.int (f1:Int)),some (.int (sz:Int)),some (.int (p:Int)),some (.str stem)]) (h':=h++[.lst (ts.map .str)]) (by simp_arith[mtT,cs,jn])]
   refine⟨_,b9u (stem:=stem) (p:=p) (f:=f1) (m:=m) (by omega) ss (by omega) hm,?_⟩
   have hg:∃t,h++[Cell.lst (ts.map .str)]=h++t:=⟨_,rfl⟩
   have tk:(h++[Cell.lst (ts.map D.str)]).length=h.length+1:=by simp
   have wS:stem.length<=SL:=by show _<=16777216;omega
   have cm:∀g,ev ct (b6 ct F k) cB [some (.int (c:Int)),some (.int (m:Int)),some (.str abc),some (.int (f1:Int)),some (.int (sz:Int)),some (.int (p:Int)),some (.str stem)] g=.ok (.ref g.length) (g++[.lst ((List.range m).map fun i=>.str (nmB stem p f1 i))]):=fun g=>by
    unfold cB;refine Y5 (fun i=>.str (nmB stem p f1 i)) (by simp_arith[]) (by omega) fun i hi=>?_
    have m5:T4 g (.int 5) (.int (i:Int))=.ok (.int ((5*i:Nat):Int)) g:=by rw[U7 (by omega)];congr 2
    have a2:((f1:Nat):Int)+((5*i:Nat):Int)=((f1+5*i:Nat):Int):=by omega
    have l1:=Txt.slice_le stem none (some (p:Int));have l2:=Txt.slice_le stem (some (p:Int)) none
    have x1:(⟨#[lt ((f1+5*i)%26)]⟩:Str).length=1:=rfl
    simp_arith[V1,slD,ay wS,op2,m5,z4,a2,m26,a9Y (h:=g) (i:=(f1+5*i)%26) (Nat.mod_lt _ (by decide)),o5 (h:=g) (x:=Txt.slice stem none (some (p:Int))) (y:=⟨#[lt ((f1+5*i)%26)]⟩) (by omega),o5 (h:=g) (x:=Txt.slice stem none (some (p:Int))++⟨#[lt ((f1+5*i)%26)]⟩) (y:=Txt.slice stem (some (p:Int)) none) (by rw[k7];omega)]
    rfl
   simp_arith[cm]
   have e:((List.range m).map (nmB stem p f1)).map D.str=(List.range m).map fun i=>D.str (nmB stem p f1 i):=by rw[aG];rfl
   rw[e,aA];exact gc2 (by simp) (by simp) (by rw[←e];exact C7 _)
end
structure Pf(h0 h:AH):Prop where
 len:h0.length<=h.length
 get:∀i,i<h0.length->h[i]? =h0[i]?
theorem Pf.refl(h:AH):Pf h h:=⟨aj _,fun _ _=>rfl⟩
variable{h0:AH}
theorem Pf.app(p:Pf h0 h)(t:AH):Pf h0 (h++t):=⟨by rw[aq];have:=p.len;omega,fun i hi=>by rw[av (aC hi p.len)];exact p.get i hi⟩
theorem Pf.set(p:Pf h0 h){c:Cell}(hn:h0.length<=n):Pf h0 (h.set n c):=⟨by rw[length_set];exact p.len,fun i hi=>by rw[List.getElem?_set_ne (by omega)];exact p.get i hi⟩
theorem Pf.trans{a b c:AH}(p:Pf a b)(q:Pf b c):Pf a c:=⟨aO p.len q.len,fun i hi=>(q.get i (aC hi p.len)).trans (p.get i hi)⟩
theorem Pf.take{h0 h:AH}(p:Pf h0 h):h.take h0.length=h0:=by
 refine List.ext_getElem? fun i=>?_
 by_cases hi:i<h0.length
 · rw[bt hi,p.get i hi]
 · rw[aS (by simp;omega),aS (by omega)]
theorem Pf.at(p:Pf h0 h){c:Cell}(e:h0[i]? =some c):h[i]? =some c:=by
 rw[p.get i (ac.mp e).1];exact e
theorem a2R{k:Nat}{c:Cell}(p:Pf h0 h)(hk:h[k]? =some c)(hl:h0.length<=k)(hc:c.flat=true):gcR 2 h0 (.ok (.ref k) h)=.ok (.ref h0.length) (h0++[c]):=by
 unfold gcR;simp only[hk];simp[hl,hc,p.take]
theorem b7K(p:Pf h0 h)(hd:d.flat=true):gcR 1 h0 (.ok d h)=.ok d h0:=by
 unfold gcR
 simp only
 rw[az (by decide)]
 simp[hd,p.take]
variable{M:Nat}
section
variable{ct:CT}{F:Nat->Option Fn}
theorem E8{g:List (Nat×Cell)}{p:Pat}{body:u7->AH->R Out}(P:Nat->u7->AH->Prop)(gk:∀j env h,P j env h->gOk g h=true):∀(l:List D) (i:Nat) (env:u7) (h:AH),
 (∀j x env h,l[j]? =some x->P (i+j) env h->∃env1 env' h',J3 p x env=some env1/\body env1 h=.ok (.nx env') h'/\P (i+j+1) env' h')->P i env h->∃env' h',T7 g p body l env h=.ok (.nx env') h'/\P (i+l.length) env' h'
 |[],i,env,h,_,q=>⟨env,h,by rw[T7,ay (gk _ _ _ q)],q⟩
 | x::r,i,env,h,st,q=>by
  obtain⟨env1,env',h',b1,b2,q'⟩:=st 0 x env h rfl q
  obtain⟨env2,h2,e2,q2⟩:=E8 P gk r (i+1) env' h' (fun j y env h hj hq=>by
   have:=st (j+1) y env h (by simpa using hj) (by rw[show i+(j+1)=i+1+j by omega];exact hq)
   rw[show i+(j+1)+1=i+1+j+1 by omega] at this
   exact this) q'
  refine⟨env2,h2,?_,by rw[length_cons,show i+(r.length+1)=i+1+r.length by omega];exact q2⟩
  rw[T7,ay (gk _ _ _ q),b1]
  simp only
  rw[b2];exact e2
theorem S7(e:h[n]? =some (.lst xs))(hl:xs.length<1000000):mtD .append h (.ref n) [d]=.ok .non (h.set n (.lst (xs++[d]))):=by
 simp only[mtD,e];rw[ay (show xs.length<16777216 by omega)]
theorem G7(e:h[n]? =some (.lst xs)):mtT .append h (.ref n)=true:=by
 simp only[mtT,rdL,e,Option.isSome_some]
theorem a1Z{m:Nat}{x:D}(h:((List.range m).map fun i=>D.int ((0:Int)+(i:Nat)))[j]? =some x):j<m/\x=.int (j:Int):=by
 have hj:j<m:=by
  have:=(ac.mp h).1
  simpa using this
 refine⟨hj,?_⟩
 rw[ak,aI hj] at h
 have h:=ax h;rw[←h]
 show D.int (0+(j:Int))=_
 rw[Int.zero_add]
noncomputable def shD(sh:List (Str×Nat)):List D:=sh.map fun p=>.tup [.str p.1,.int (p.2:Int)]
structure Shs(sh:List (Str×Nat)):Prop where
 lo:4<=sh.length
 hi:sh.length<=16
 nd:(sh.map (·.1)).Nodup
 ok:∀p∈sh,i9 p.1=true/\p.2<99999
theorem N1:∀{l:List D},(∀d∈l,d.flat=true)->D.flats l=true
 |[],_=>rfl
 |d::r,h=>by rw[D.flats,h d (.head _),N1 fun x hx=>h x (.tail _ hx)];rfl
theorem b0o(sh:List (Str×Nat)):D.flats (shD sh)=true:=N1 fun d hd=>by
 obtain⟨p,_,rfl⟩:=am.mp hd;rfl
theorem a1C:∀(ns:List Str) (ws:List Nat),a0E (ns.map .str) (ws.map fun w=>.int ((w:Nat):Int))=shD (ns.zip ws)
 |[],_=>rfl
 |_::_,[]=>rfl
 |n::ns,w::ws=>by
  show D.tup [.str n,.int ((w:Nat):Int)]::a0E _ _=_
  rw[a1C ns ws];rfl
theorem b2N{l:List Nat}(hl:l.length=4):∃w,(l.map fun w=>D.int ((w:Nat):Int))[i%4]? =some (.int ((w:Nat):Int))/\w∈l:=by
 have lt:i%4<l.length:=by rw[hl];exact Nat.mod_lt _ (by decide)
 exact⟨l[i%4],by rw[ak,af lt];rfl,bj lt⟩
theorem a8v(he:env[5]? =some (some (.int (M:Int)))):∃w t,w<99999/\ev ct c wE env h=.ok (.int ((w:Nat):Int)) (h++[t]):=by
 have d4:∀h,D7 h (.int (M:Int)) (.int 4)=.ok (.int ((M/4:Nat):Int)) h:=fun h=>N9 4 (by decide) (by decide)
 have m4:∀h,y9 h (.int (M:Int)) (.int 4)=.ok (.int ((M%4:Nat):Int)) h:=fun h=>G0 4 (by decide)
 have m20:∀(a:Nat) h,y9 h (.int (a:Int)) (.int 20)=.ok (.int ((a%20:Nat):Int)) h:=fun a h=>G0 20 (by decide)
 have m1000:∀(a:Nat) h,y9 h (.int (a:Int)) (.int 1000)=.ok (.int ((a%1000:Nat):Int)) h:=fun a h=>G0 1000 (by decide)
 have m9:∀(a:Nat) h,y9 h (.int (a:Int)) (.int 99999)=.ok (.int ((a%99999:Nat):Int)) h:=fun a h=>G0 99999 (by decide)
 obtain⟨w,h1,h2⟩:=b2N (l:=[0,M/4%20,M/4%1000,M/4%99999]) (i:=M) rfl;refine⟨w,.lst [.int ((0:Nat):Int),.int ((M/4%20:Nat):Int),.int ((M/4%1000:Nat):Int),.int ((M/4%99999:Nat):Int)],?_,?_⟩
 · simp only[aE,not_mem_nil,or_false] at h2
   rcases h2 with rfl|rfl|rfl|rfl
   · decide
   · exact Nat.lt_trans (Nat.mod_lt _ (show 0<20 by decide)) (by decide)
   · exact Nat.lt_trans (Nat.mod_lt _ (show 0<1000 by decide)) (by decide)
   · exact Nat.mod_lt _ (by decide)
 · unfold wE
   have hx:ixD (h++[.lst [.int 0,.int ((M/4%20:Nat):Int),.int ((M/4%1000:Nat):Int),.int ((M/4%99999:Nat):Int)]]) (.ref h.length) (.int ((M%4:Nat):Int))=.ok (.int ((w:Nat):Int)) (h++[.lst [.int 0,.int ((M/4%20:Nat):Int),.int ((M/4%1000:Nat):Int),.int ((M/4%99999:Nat):Int)]]):=D9 b8 h1
   simp_arith[he,op2,d4,m4,m20,m1000,m9,z5,hx];rfl
variable(f202:F 202=some n8)(f203:F 203=some l8)
include f202 f203
theorem a7G{k:Nat}{c:Int}(hF:F 204=some x0):∃sh,Shs sh/\b6 ct F (k+2) 204 [.int c] h=.ok (.ref h.length) (h++[.lst (shD sh)]):=by
 obtain⟨M,hM⟩:=C6 (ct:=ct) (k:=k) (c:=c) (j:=1) (h:=h) f202 (by decide)
 have d13:D7 h (.int (M:Int)) (.int 13)=.ok (.int ((M/13:Nat):Int)) h:=N9 13 (by decide) (by decide)
 have m13:y9 h (.int (M:Int)) (.int 13)=.ok (.int ((M%13:Nat):Int)) h:=G0 13 (by decide)
 have a4:(4:Int)+((M%13:Nat):Int)=((4+M%13:Nat):Int):=by omega
 have m16:M%13<13:=Nat.mod_lt _ (by decide)
 obtain⟨ns,nk,hN⟩:=W7 (ct:=ct) (k:=k) (c:=M/13) (m:=4+M%13) (h:=h) f203 (by omega)
 generalize hm:4+M%13=m at nk hN a4;rw[m8 hF rfl];simp only[x0]
 show∃sh,Shs sh/\gcR 2 h (K8 (exs ct (b6 ct F (k+1)) _ [some (.int c),none,none,none,none,none] h))=_
 rw[seq (env':=[some (.int c),some (.int (M:Int)),none,none,none,none]) (h':=h) (by simp_arith[hM])]
 rw[seq (env':=[some (.int c),some (.int (M:Int)),some (.ref h.length),none,none,none]) (h':=h++[.lst (ns.map .str)]) (by simp_arith[op2,d13,m13,z4,a4,hN])]
 have l1:(h++[Cell.lst (ns.map D.str)]).length=h.length+1:=by simp
 rw[seq (env':=[some (.int c),some (.int (M:Int)),some (.ref h.length),some (.ref (h.length+1)),none,none]) (h':=h++[.lst (ns.map .str)]++[.lst []]) (by simp_arith[z5,l1])]
 have gN:(h++[Cell.lst (ns.map D.str)]++[Cell.lst []])[h.length]? =some (.lst (ns.map .str)):=b7 b8
 have gW:(h++[Cell.lst (ns.map D.str)]++[Cell.lst []])[h.length+1]? =some (.lst []):=by rw[←l1];exact b8
 have pf:Pf h (h++[Cell.lst (ns.map D.str)]++[Cell.lst []]):=((Pf.refl h).app _).app _
 generalize h++[Cell.lst (ns.map D.str)]++[Cell.lst []]=g at gN gW pf
 have len:biD .len g [.ref h.length]=.ok (.int (m:Int)) g:=by rw[t7 gN,aa,nk.len]
 obtain⟨env',g',e1,ws,e4,e5,rfl,q2,q3,q4,q5,q6⟩:=E8 (g:=[]) (p:=.nm 4) (body:=exs ct (b6 ct F (k+1)) wB) (fun j env hh=>∃ws:List Nat,∃e4 e5,env=[some (.int c),some (.int (M:Int)),some (.ref h.length),some (.ref (h.length+1)),e4,e5]/\Pf h hh/\hh[h.length]? =some (.lst (ns.map .str))/\hh[h.length+1]? =some (.lst (ws.map fun w=>.int ((w:Nat):Int)))/\ws.length=j/\∀w∈ws,w<99999) (fun _ _ _ _=>rfl) ((List.range m).map fun i=>.int ((0:Int)+(i:Nat))) 0 [some (.int c),some (.int (M:Int)),some (.ref h.length),some (.ref (h.length+1)),none,none] g (fun j x env hh hx hP=>by
  obtain⟨ws,e4,e5,rfl,p1,p2,p3,p4,p5⟩:=hP;obtain⟨hj,rfl⟩:=a1Z hx;rw[aB] at p4⊢
  have a10:((j:Nat):Int)+10=((j+10:Nat):Int):=by omega
  obtain⟨N,hN⟩:=C6 (ct:=ct) (k:=k) (c:=c) (j:=((j+10:Nat):Int)) (h:=hh) f202 (by omega)
  obtain⟨w,t,w1,w2⟩:=a8v (ct:=ct) (c:=b6 ct F (k+1)) (M:=N) (env:=[some (.int c),some (.int (M:Int)),some (.ref h.length),some (.ref (h.length+1)),some (.int (j:Int)),some (.int (N:Int))]) (h:=hh) rfl;refine⟨_,[some (.int c),some (.int (M:Int)),some (.ref h.length),some (.ref (h.length+1)),some (.int (j:Int)),some (.int (N:Int))],(hh++[t]).set (h.length+1) (.lst ((ws.map fun w=>D.int ((w:Nat):Int))++[.int ((w:Nat):Int)])),rfl,?_,ws++[w],_,_,rfl,(p1.app _).set (Nat.le_succ _),b9 (by omega) (b7 p2),?_,by rw[aq,p4];rfl,fun x hx=>?_⟩
  · show exs ct (b6 ct F (k+1)) wB [some (.int c),some (.int (M:Int)),some (.ref h.length),some (.ref (h.length+1)),some (.int (j:Int)),e5] hh=_
    unfold wB;rw[seq (env':=[some (.int c),some (.int (M:Int)),some (.ref h.length),some (.ref (h.length+1)),some (.int (j:Int)),some (.int (N:Int))]) (h':=hh) (by simp_arith[op2,z4,a10,hN])]
    simp_arith[G7 p3,w2,S7 (b7 (g:=[t]) p3) (by rw[aa,p4];omega)]
  · rw[B6 (b7 p3)];simp
  · rcases aJ.mp hx with hx|hx
    · exact p5 x hx
    · rw[aM.mp hx];exact w1) ⟨[],none,none,rfl,pf,gN,gW,rfl,fun _ h=>nomatch h⟩
 rw[aa,aH,aB] at q5;rw[seq (env':=[some (.int c),some (.int (M:Int)),some (.ref h.length),some (.ref (h.length+1)),e4,e5]) (h':=g') (by simp_arith[len,a0p (h:=g) (m:=m) (by omega),e1])]
 have cz:=u5 (ct:=ct) (c:=b6 ct F (k+1)) (p:=.tp (.cons (.nm 0) (.cons (.nm 1) .nil))) (it:=.zip (.v 2) (.v 3)) (n:=2) (fr:=[]) (e:=.tup (.cons (.v 0) (.cons (.v 1) .nil))) (env:=[some (.int c),some (.int (M:Int)),some (.ref h.length),some (.ref (h.length+1)),e4,e5]) (h:=g') (l:=a0E (ns.map .str) (ws.map fun w=>.int ((w:Nat):Int))) (g:=[(h.length,.lst (ns.map .str)),(h.length+1,.lst (ws.map fun w=>.int ((w:Nat):Int)))]) (h1:=g') (by simp_arith[b1i,a5i,q3,q4]) (by simp[gOk,q3,q4]) id (fun d=>match d with|.tup [a,b]=>[some a,some b]|_=>[]) (fun x hx=>by
  rw[a1C] at hx;obtain⟨p,_,rfl⟩:=am.mp hx;refine⟨rfl,?_⟩
  simp_arith[id]) (by
  rw[a1C];unfold shD;rw[aa,List.length_zip]
  show _<=16777216
  have:=nk.len
  omega)
 rw[map_id,a1C] at cz
 have zl:(ns.zip ws).length=m:=by rw[List.length_zip,nk.len,q5];omega
 have zf:(ns.zip ws).map (·.1)=ns:=by
  rw[List.map_fst_zip];rw[nk.len,q5];exact aj _
 refine⟨ns.zip ws,⟨by omega,by omega,by rw[zf];exact nk.nd,fun p hp=>⟨nk.ok _ (of_mem_zip hp).1,q6 _ (of_mem_zip hp).2⟩⟩,?_⟩
 simp_arith[cz];exact a2R (q2.app _) b8 q2.len (b0o _)
end
noncomputable def spD(p:Int×Int):D:=.tup [.int p.1,.int p.2]
def Y9(p:Int×Int):Prop:=(-99999<=p.1/\p.1<=99999)/\ -99999<=p.2/\p.2<=99999
structure Mk where
 n:Str
 s:Str
 a:Int×Int
 b:Int×Int
def mkD(m:Mk):D:=.tup [.str m.n,.str m.s,spD m.a,spD m.b]
def a0d(s:Str):Prop:=s="above"∨s="below"
variable{sh:List (Str×Nat)}
theorem a5T(hj:j<sh.length):(shD sh)[j]? =some (.tup [.str (sh[j]).1,.int ((sh[j]).2:Int)]):=by
 unfold shD;rw[ak,af hj]
 rfl
theorem ix_tup(hd:xs[i]? =some d):ixD h (.tup xs) (.int (i:Nat))=.ok d h:=by
 have hi:=(ac.mp hd).1
 have:atI xs (i:Int)=some d:=by
  show(ixN xs.length (i:Int)).bind (fun j=>xs[j]?)=some d
  have e:ixN xs.length (i:Int)=some i:=by
   unfold ixN;rw[ay (by omega),ay (by omega)]
   simp
  rw[e];exact hd
 simp only[ixD,this]
theorem a2J{a:D}{r:List D}:ixD h (.tup (a::r)) (.int 0)=.ok a h:=ix_tup (i:=0) rfl
variable{β:Type}{s:Nat}
section
variable{ct:CT}{F:Nat->Option Fn}
theorem a3H{k m:Nat}(hF:F 205=some t9):∃p,Y9 p/\b6 ct F (k+1) 205 [.int (m:Int)] h=.ok (spD p) h:=by
 have m41:∀h,y9 h (.int (m:Int)) (.int 41)=.ok (.int ((m%41:Nat):Int)) h:=fun h=>G0 41 (by decide)
 have d41:∀h,D7 h (.int (m:Int)) (.int 41)=.ok (.int ((m/41:Nat):Int)) h:=fun h=>N9 41 (by decide) (by decide)
 have d7:∀h,D7 h (.int (m:Int)) (.int 7)=.ok (.int ((m/7:Nat):Int)) h:=fun h=>N9 7 (by decide) (by decide)
 have m9:∀(a:Nat) h,y9 h (.int (a:Int)) (.int 99999)=.ok (.int ((a%99999:Nat):Int)) h:=fun a h=>G0 99999 (by decide)
 have m3:∀(a:Nat) h,y9 h (.int (a:Int)) (.int 3)=.ok (.int ((a%3:Nat):Int)) h:=fun a h=>G0 3 (by decide)
 have sb:∀h,a5b h (.int ((m%41:Nat):Int)) (.int 20)=.ok (.int (((m%41:Nat):Int)-20)) h:=fun h=>rfl
 have l9:m/41%99999<99999:=Nat.mod_lt _ (by decide)
 have l41:m%41<41:=Nat.mod_lt _ (by decide)
 have ix:∃y:Int,(-99999<=y/\y<=99999)/\([.int 0,.int ((m/41%99999:Nat):Int),.int (-((m/41%99999:Nat):Int))]:List D)[m/7%3]? =some (.int y):=by
  have:m/7%3=0∨m/7%3=1∨m/7%3=2:=by omega
  rcases this with e|e|e<;>rw[e]
  · exact⟨0,by decide,rfl⟩
  · exact⟨_,by omega,rfl⟩
  · exact⟨_,by omega,rfl⟩
 obtain⟨y,y1,y2⟩:=ix;refine⟨(((m%41:Nat):Int)-20,y),⟨by simp only;omega,y1⟩,?_⟩
 have hx:ixD (h++[.lst [.int 0,.int ((m/41%99999:Nat):Int),.int (-((m/41%99999:Nat):Int))]]) (.ref h.length) (.int ((m/7%3:Nat):Int))=.ok (.int y) (h++[.lst [.int 0,.int ((m/41%99999:Nat):Int),.int (-((m/41%99999:Nat):Int))]]):=D9 b8 y2
 rw[m8 hF rfl];simp only[t9];simp_arith[op2,m41,sb,d41,m9,d7,m3,z5,hx];exact gc1 rfl
theorem b1H(he:env[4]? =some (some (.int (M:Int)))):∃s t,a0d s/\ev ct c a8M env h=.ok (.str s) (h++[t]):=by
 have d4:∀h,D7 h (.int (M:Int)) (.int 4)=.ok (.int ((M/4:Nat):Int)) h:=fun h=>N9 4 (by decide) (by decide)
 have m2:∀(a:Nat) h,y9 h (.int (a:Int)) (.int 2)=.ok (.int ((a%2:Nat):Int)) h:=fun a h=>G0 2 (by decide)
 have ix:∃s:Str,a0d s/\([.str "above",.str "below"]:List D)[M/4%2]? =some (.str s):=by
  have:M/4%2=0∨M/4%2=1:=by omega
  rcases this with e|e<;>rw[e]
  · exact⟨"above",.inl rfl,rfl⟩
  · exact⟨"below",.inr rfl,rfl⟩
 obtain⟨s,s1,s2⟩:=ix;refine⟨s,.lst [.str "above",.str "below"],s1,?_⟩
 have hx:ixD (h++[.lst [.str "above",.str "below"]]) (.ref h.length) (.int ((M/4%2:Nat):Int))=.ok (.str s) (h++[.lst [.str "above",.str "below"]]):=D9 b8 s2
 unfold a8M;simp_arith[he,op2,d4,m2,z5,hx]
theorem b0q(ms:List Mk):D.flats (ms.map mkD)=true:=N1 fun d hd=>by
 obtain⟨p,_,rfl⟩:=am.mp hd;rfl
theorem a4O{f:α->β}{l:List α}(hj:j<l.length){r:List β}(h:r.Sublist ((l.take j).map f)):r.Sublist ((l.take (j+1)).map f)/\(r++[f l[j]]).Sublist ((l.take (j+1)).map f):=by
 rw[List.take_succ_eq_append_getElem hj,ao];exact⟨h.trans (List.sublist_append_left _ _),h.append (List.Sublist.refl _)⟩
variable(f202:F 202=some n8)(f205:F 205=some t9)
include f202 f205
theorem a9I{k:Nat}{c:Int}(hF:F 206=some z8)(hs:Shs sh)(hh:h[s]? =some (.lst (shD sh))):∃ms:List Mk,(ms.map (·.n)).Sublist (sh.map (·.1))/\(∀m∈ms,a0d m.s/\Y9 m.a/\Y9 m.b)/\b6 ct F (k+2) 206 [.int c,.ref s] h=.ok (.ref h.length) (h++[.lst (ms.map mkD)]):=by
 have sl:s<h.length:=(ac.mp hh).1
 have hi:=hs.hi;rw[m8 hF rfl];simp only[z8]
 show∃ms:List Mk,_/\_/\gcR 2 h (K8 (exs ct (b6 ct F (k+1)) _ [some (.int c),some (.ref s),none,none,none,none] h))=_
 rw[seq (env':=[some (.int c),some (.ref s),some (.ref h.length),none,none,none]) (h':=h++[.lst []]) (by simp_arith[z5])]
 have len:biD .len (h++[.lst []]) [.ref s]=.ok (.int (sh.length:Int)) (h++[.lst []]):=by rw[t7 (b7 hh)];unfold shD;rw[aa]
 obtain⟨env',g',e1,ms,e3,e4,e5,rfl,q2,q3,q4,q5⟩:=E8 (g:=[]) (p:=.nm 3) (body:=exs ct (b6 ct F (k+1)) mkB) (fun j env g=>∃ms:List Mk,∃e3 e4 e5,env=[some (.int c),some (.ref s),some (.ref h.length),e3,e4,e5]/\Pf h g/\g[h.length]? =some (.lst (ms.map mkD))/\(ms.map (·.n)).Sublist ((sh.take j).map (·.1))/\∀m∈ms,a0d m.s/\Y9 m.a/\Y9 m.b) (fun _ _ _ _=>rfl) ((List.range sh.length).map fun i=>.int ((0:Int)+(i:Nat))) 0 [some (.int c),some (.ref s),some (.ref h.length),none,none,none] (h++[.lst []]) (fun j x env g hx hP=>by
  obtain⟨ms,e3,e4,e5,rfl,p1,p2,p3,p4⟩:=hP;obtain⟨hj,rfl⟩:=a1Z hx;rw[aB] at p3⊢;obtain⟨t1,t2⟩:=a4O hj p3
  have a40:((j:Nat):Int)+40=((j+40:Nat):Int):=by omega
  obtain⟨N,hN⟩:=C6 (ct:=ct) (k:=k) (c:=c) (j:=((j+40:Nat):Int)) (h:=g) f202 (by omega)
  have m4:y9 g (.int (N:Int)) (.int 4)=.ok (.int ((N%4:Nat):Int)) g:=G0 4 (by decide)
  show∃env1 env' h',_/\exs ct (b6 ct F (k+1)) mkB env1 g=_/\_
  unfold mkB
  by_cases hb:((N%4:Nat):Int)=1
  · have q1:J8 g (.int ((N%4:Nat):Int)) (.int 1)=.ok (.bl true) g:=by rw[hb];rfl
    obtain⟨sd,t,s1,s2⟩:=b1H (ct:=ct) (c:=b6 ct F (k+1)) (M:=N) (env:=[some (.int c),some (.ref s),some (.ref h.length),some (.int (j:Int)),some (.int (N:Int)),e5]) (h:=g) rfl;obtain⟨pa,a1,a2⟩:=a3H (ct:=ct) (k:=k) (m:=N/8) (h:=g++[t]) f205;obtain⟨pb,b1,b2⟩:=a3H (ct:=ct) (k:=k) (m:=N/8000) (h:=g++[t]) f205
    have d8:D7 (g++[t]) (.int (N:Int)) (.int 8)=.ok (.int ((N/8:Nat):Int)) (g++[t]):=N9 8 (by decide) (by decide)
    have d8k:D7 (g++[t]) (.int (N:Int)) (.int 8000)=.ok (.int ((N/8000:Nat):Int)) (g++[t]):=N9 8000 (by decide) (by decide)
    have sx:ixD (g++[t]) (.ref s) (.int (j:Int))=.ok (.tup [.str (sh[j]).1,.int ((sh[j]).2:Int)]) (g++[t]):=D9 (b7 (p1.at hh)) (a5T hj)
    have ml:(ms.map mkD).length<1000000:=by
     have:=t1.length_le
     rw[aa] at this⊢;rw[aa,aK] at this;omega
    refine⟨_,[some (.int c),some (.ref s),some (.ref h.length),some (.int (j:Int)),some (.int (N:Int)),some (.str sd)],(g++[t]).set h.length (.lst (ms.map mkD++[mkD ⟨(sh[j]).1,sd,pa,pb⟩])),rfl,?_,ms++[⟨(sh[j]).1,sd,pa,pb⟩],_,_,_,rfl,(p1.app _).set (aj _),?_,?_,fun m hm=>?_⟩
    · show exs ct (b6 ct F (k+1)) _ [some (.int c),some (.ref s),some (.ref h.length),some (.int (j:Int)),e4,e5] g=_
      rw[seq (env':=[some (.int c),some (.ref s),some (.ref h.length),some (.int (j:Int)),some (.int (N:Int)),e5]) (h':=g) (by simp_arith[op2,z4,a40,hN])]
      unfold b7t;simp_arith[op2,m4,q1,s2,G7 (b7 (g:=[t]) p2),sx,a2J,d8,a2,d8k,b2,S7 (b7 (g:=[t]) p2) ml,mkD]
    · rw[B6 (b7 p2),ao];rfl
    · rw[ao];exact t2
    · rcases aJ.mp hm with hm|hm
      · exact p4 m hm
      · rw[aM.mp hm];exact⟨s1,a1,b1⟩
  · have q1:J8 g (.int ((N%4:Nat):Int)) (.int 1)=.ok (.bl false) g:=by simp only[J8,eqS,hb,decide_false]
    refine⟨_,[some (.int c),some (.ref s),some (.ref h.length),some (.int (j:Int)),some (.int (N:Int)),e5],g,rfl,?_,ms,_,_,_,rfl,p1,p2,t1,p4⟩
    show exs ct (b6 ct F (k+1)) _ [some (.int c),some (.ref s),some (.ref h.length),some (.int (j:Int)),e4,e5] g=_
    rw[seq (env':=[some (.int c),some (.ref s),some (.ref h.length),some (.int (j:Int)),some (.int (N:Int)),e5]) (h':=g) (by simp_arith[op2,z4,a40,hN])]
    simp_arith[op2,m4,q1]) ⟨[],none,none,none,rfl,(Pf.refl h).app _,b8,List.nil_sublist _,fun _ h=>nomatch h⟩
 rw[aa,aH,aB,aZ] at q4;refine⟨ms,q4,q5,?_⟩
 rw[seq (env':=[some (.int c),some (.ref s),some (.ref h.length),e3,e4,e5]) (h':=g') (by simp_arith[len,a0p (h:=h++[.lst []]) (m:=sh.length) (by omega),e1])]
 simp_arith[];exact a2R q2 q3 (aj _) (b0q _)
end
structure Pt where
 n:Str
 s:Str
 a:Int×Int
def ptD(p:Pt):D:=.tup [.str p.n,.str p.s,spD p.a]
def ptK(p:Pt):Str×Str:=(p.n,p.s)
theorem b0p(ms:List Pt):D.flats (ms.map ptD)=true:=N1 fun d hd=>by
 obtain⟨p,_,rfl⟩:=am.mp hd;rfl
section
variable{ct:CT}{F:Nat->Option Fn}
theorem a7F(N:Nat):∃l:List Str,U2 [.str "above",.str "below"] (some ((N%2:Nat):Int)) none=l.map .str/\l.Nodup/\(∀s∈l,a0d s)/\l.length<=2:=by
 have:N%2=0∨N%2=1:=by omega
 rw[O1]
 rcases this with e|e<;>rw[e]
 · exact⟨["above","below"],rfl,by decide,fun s hs=>by
    simp only[aE,not_mem_nil,or_false] at hs;exact hs,by decide⟩
 · exact⟨["below"],rfl,by decide,fun s hs=>.inr (aM.mp hs),by decide⟩
variable(f202:F 202=some n8)(f205:F 205=some t9)
include f205
theorem a9g{k a N:Nat}{c:Int}{ps:List Pt}{l:List Str}(hh:h[s]? =some (.lst (shD sh)))(hj:j<sh.length)(ha:a=h.length)(hn:a<n)(p1:Pf h g)(p2:g[a]? =some (.lst (ps.map ptD)))(p3:g[n]? =some (.lst (l.map .str)))(hl:ps.length<=1000)(l2:l.length<=2)(e5:Option D)(sd:∀s∈l,a0d s):
 ∃qs e5' g',T7 [(n,.lst (l.map .str))] (.nm 5) (exs ct (b6 ct F (k+1)) a9j) (l.map .str) [some (.int c),some (.ref s),some (.ref a),some (.int (j:Int)),some (.int (N:Int)),e5] g=.ok (.nx [some (.int c),some (.ref s),some (.ref a),some (.int (j:Int)),some (.int (N:Int)),e5']) g'/\Pf h g'/\g'[a]? =some (.lst ((ps++qs).map ptD))/\(qs.map ptK).Sublist (l.map fun s=>((sh[j]).1,s))/\∀q∈qs,a0d q.s/\Y9 q.a:=by
 obtain⟨env',g',e1,qs,e5',rfl,q1,q2,q3,q4,q5⟩:=E8 (g:=[(n,.lst (l.map .str))]) (p:=.nm 5) (body:=exs ct (b6 ct F (k+1)) a9j) (fun i env gg=>∃qs:List Pt,∃e5,env=[some (.int c),some (.ref s),some (.ref a),some (.int (j:Int)),some (.int (N:Int)),e5]/\Pf h gg/\gg[a]? =some (.lst ((ps++qs).map ptD))/\gg[n]? =some (.lst (l.map .str))/\(qs.map ptK).Sublist ((l.take i).map fun s=>((sh[j]).1,s))/\∀q∈qs,a0d q.s/\Y9 q.a) (fun i env gg hP=>by
  obtain⟨_,_,_,_,_,h3,_⟩:=hP;simp[gOk,h3]) (l.map .str) 0 [some (.int c),some (.ref s),some (.ref a),some (.int (j:Int)),some (.int (N:Int)),e5] g (fun i x env gg hx hP=>by
  obtain⟨qs,e5,rfl,r1,r2,r3,r4,r5⟩:=hP
  have hi:i<l.length:=by simpa using(ac.mp hx).1
  rw[ak,af hi] at hx
  obtain rfl:D.str l[i]=x:=ax hx;rw[aB] at r4⊢;obtain⟨t1,t2⟩:=a4O (f:=fun s=>((sh[j]).1,s)) hi r4
  have d2:∀h,D7 h (.int (N:Int)) (.int 2)=.ok (.int ((N/2:Nat):Int)) h:=fun h=>N9 2 (by decide) (by decide)
  have m3:∀(a:Nat) h,y9 h (.int (a:Int)) (.int 3)=.ok (.int ((a%3:Nat):Int)) h:=fun a h=>G0 3 (by decide)
  have d6:D7 gg (.int (N:Int)) (.int 6)=.ok (.int ((N/6:Nat):Int)) gg:=N9 6 (by decide) (by decide)
  show∃env1 env' h',_/\exs ct (b6 ct F (k+1)) a9j env1 gg=_/\_
  unfold a9j
  by_cases hb:(0:Int)<((N/2%3:Nat):Int)
  · obtain⟨p,a1,a2⟩:=a3H (ct:=ct) (k:=k) (m:=N/6) (h:=gg) f205
    have sx:ixD gg (.ref s) (.int (j:Int))=.ok (.tup [.str (sh[j]).1,.int ((sh[j]).2:Int)]) gg:=D9 (r1.at hh) (a5T hj)
    have ml:((ps++qs).map ptD).length<1000000:=by
     have:=t1.length_le
     rw[aa,aq];rw[aa,aa,aK] at this;omega
    refine⟨_,[some (.int c),some (.ref s),some (.ref a),some (.int (j:Int)),some (.int (N:Int)),some (.str l[i])],gg.set a (.lst ((ps++qs).map ptD++[ptD ⟨(sh[j]).1,l[i],p⟩])),rfl,?_,qs++[⟨(sh[j]).1,l[i],p⟩],_,rfl,r1.set (by omega),?_,b9 (by omega) r3,?_,fun q hq=>?_⟩
    · show exs ct (b6 ct F (k+1)) _ [some (.int c),some (.ref s),some (.ref a),some (.int (j:Int)),some (.int (N:Int)),some (.str l[i])] gg=_
      simp_arith[op2,d2,m3,F5,hb,decide_true,G7 r2,sx,a2J,d6,a2,S7 r2 ml,ptD]
    · rw[B6 r2,←aA,ao (l₁:=ps++qs)];rfl
    · rw[ao];exact t2
    · rcases aJ.mp hq with hq|hq
      · exact r5 q hq
      · rw[aM.mp hq];exact⟨sd _ (bj hi),a1⟩
  · refine⟨_,[some (.int c),some (.ref s),some (.ref a),some (.int (j:Int)),some (.int (N:Int)),some (.str l[i])],gg,rfl,?_,qs,_,rfl,r1,r2,r3,t1,r5⟩
    show exs ct (b6 ct F (k+1)) _ [some (.int c),some (.ref s),some (.ref a),some (.int (j:Int)),some (.int (N:Int)),some (.str l[i])] gg=_
    simp_arith[op2,d2,m3,F5,hb,decide_false]) ⟨[],e5,rfl,p1,by rw[aV];exact p2,p3,List.nil_sublist _,fun _ h=>nomatch h⟩
 rw[aa,aB,aZ] at q4;exact⟨qs,e5',g',e1,q1,q2,q4,q5⟩
include f202
theorem a7P{k:Nat}{c:Int}(hF:F 207=some y7)(hs:Shs sh)(hh:h[s]? =some (.lst (shD sh))):∃ps:List Pt,(ps.map ptK).Nodup/\ps.length<=100/\(∀p∈ps,p.n∈sh.map (·.1)/\a0d p.s/\Y9 p.a)/\b6 ct F (k+2) 207 [.int c,.ref s] h=.ok (.ref h.length) (h++[.lst (ps.map ptD)]):=by
 have hi:=hs.hi;rw[m8 hF rfl];simp only[y7]
 show∃ps:List Pt,_/\_/\_/\gcR 2 h (K8 (exs ct (b6 ct F (k+1)) _ [some (.int c),some (.ref s),none,none,none,none] h))=_
 rw[seq (env':=[some (.int c),some (.ref s),some (.ref h.length),none,none,none]) (h':=h++[.lst []]) (by simp_arith[z5])]
 have len:biD .len (h++[.lst []]) [.ref s]=.ok (.int (sh.length:Int)) (h++[.lst []]):=by rw[t7 (b7 hh)];unfold shD;rw[aa]
 obtain⟨env',g',e1,ps,e3,e4,e5,rfl,q2,q3,q4,q5,q6,q7⟩:=E8 (g:=[]) (p:=.nm 3) (body:=exs ct (b6 ct F (k+1)) ptB) (fun j env g=>∃ps:List Pt,∃e3 e4 e5,env=[some (.int c),some (.ref s),some (.ref h.length),e3,e4,e5]/\Pf h g/\g[h.length]? =some (.lst (ps.map ptD))/\(ps.map ptK).Nodup/\ps.length<=2*j/\(∀p∈ps,p.n∈(sh.take j).map (·.1))/\∀p∈ps,a0d p.s/\Y9 p.a) (fun _ _ _ _=>rfl) ((List.range sh.length).map fun i=>.int ((0:Int)+(i:Nat))) 0 [some (.int c),some (.ref s),some (.ref h.length),none,none,none] (h++[.lst []]) (fun j x env g hx hP=>by
  obtain⟨ps,e3,e4,e5,rfl,p1,p2,p3,p4,p5,p6⟩:=hP;obtain⟨hj,rfl⟩:=a1Z hx;rw[aB] at p4 p5⊢
  have a70:((j:Nat):Int)+70=((j+70:Nat):Int):=by omega
  obtain⟨N,hN⟩:=C6 (ct:=ct) (k:=k) (c:=c) (j:=((j+70:Nat):Int)) (h:=g) f202 (by omega)
  have m2:∀h,y9 h (.int (N:Int)) (.int 2)=.ok (.int ((N%2:Nat):Int)) h:=fun h=>G0 2 (by decide)
  obtain⟨l,l1,l2,l3,l4⟩:=a7F N
  have sl:slD (g++[.lst [.str "above",.str "below"]]) (some ((N%2:Nat):Int)) none (.ref g.length)=.ok (.ref (g.length+1)) (g++[.lst [.str "above",.str "below"]]++[.lst (l.map .str)]):=by
   rw[N3 b8,l1];simp
  have gl:h.length<g.length:=(ac.mp p2).1
  have gn:(g++[Cell.lst [.str "above",.str "below"]]++[.lst (l.map .str)])[g.length+1]? =some (.lst (l.map .str)):=by
   have:=b8 (h:=g++[Cell.lst [.str "above",.str "below"]]) (c:=.lst (l.map .str))
   rw[aq] at this;exact this
  obtain⟨qs,e5',g2,f1,f2,f3,f4,f5⟩:=a9g (ct:=ct) (k:=k) (c:=c) (N:=N) f205 hh hj rfl (Nat.lt_trans gl (aP _)) ((p1.app _).app _) (b7 (b7 p2)) gn (by omega) l4 e5 l3
  have nw:(sh[j]).1∉(sh.take j).map (·.1):=fun hm=>by
   have nd:=hs.nd;rw[←List.take_append_drop j sh,List.drop_eq_getElem_cons hj,ao,map_cons] at nd
   have:=nodup_append.mp nd
   exact this.2.2 _ hm _ (.head _) rfl
  refine⟨_,[some (.int c),some (.ref s),some (.ref h.length),some (.int (j:Int)),some (.int (N:Int)),e5'],g2,rfl,?_,ps++qs,_,_,_,rfl,f2,f3,?_,?_,fun p hp=>?_,fun p hp=>?_⟩
  · show exs ct (b6 ct F (k+1)) ptB [some (.int c),some (.ref s),some (.ref h.length),some (.int (j:Int)),e4,e5] g=_
    unfold ptB;rw[seq (env':=[some (.int c),some (.ref s),some (.ref h.length),some (.int (j:Int)),some (.int (N:Int)),e5]) (h':=g) (by simp_arith[op2,z4,a70,hN])]
    simp_arith[z5,op2,m2,sl,V9,gn,f1]
  · rw[ao];refine nodup_append.mpr ⟨p3,f4.nodup (Z3 _ l2 fun a _ b _ e=>(Prod.mk.inj e).2),fun a ha b hb e=>?_⟩
    obtain⟨p,hp,rfl⟩:=am.mp ha;have hb:=f4.subset hb;obtain⟨y,_,rfl⟩:=am.mp hb;refine nw ?_
    have e1:p.n=(sh[j]).1:=(Prod.mk.inj e).1
    rw[←e1];exact p5 p hp
  · have:=f4.length_le
    rw[aa,aa] at this;rw[aq];omega
  · rw[List.take_succ_eq_append_getElem hj,ao]
    rcases aJ.mp hp with hp|hp
    · exact List.mem_append_left _ (p5 p hp)
    · have:=f4.subset (List.mem_map_of_mem hp)
      obtain⟨y,_,e⟩:=am.mp this;refine mem_append_right _ ?_
      have e1:(sh[j]).1=p.n:=(Prod.mk.inj e).1
      rw[←e1];exact .head _
  · rcases aJ.mp hp with hp|hp
    · exact p6 p hp
    · exact f5 p hp) ⟨[],none,none,none,rfl,(Pf.refl h).app _,b8,nodup_nil,Nat.zero_le _,(fun _ h=>nomatch h),fun _ h=>nomatch h⟩
 rw[aa,aH,aB] at q5 q6;rw[aZ] at q6;refine⟨ps,q4,by omega,fun p hp=>⟨q6 p hp,q7 p hp⟩,?_⟩
 rw[seq (env':=[some (.int c),some (.ref s),some (.ref h.length),e3,e4,e5]) (h':=g') (by simp_arith[len,a0p (h:=h++[.lst []]) (m:=sh.length) (by omega),e1])]
 simp_arith[];exact a2R q2 q3 (aj _) (b0p _)
end
noncomputable def pk(sh:List (Str×Nat))(x:Nat):Str:=match sh[x%sh.length]? with
 |some p=>p.1
 |none=>""
theorem a9q(hs:4<=sh.length)(x:Nat):pk sh x∈sh.map (·.1)/\∃w,(shD sh)[x%sh.length]? =some (.tup [.str (pk sh x),w]):=by
 have lt:x%sh.length<sh.length:=Nat.mod_lt _ (by omega)
 unfold pk;rw[af lt]
 exact⟨List.mem_map_of_mem (bj lt),_,a5T lt⟩
structure Lt where
 n:Str
 j:Str
 w:Str
 fs:List Str
noncomputable def ltD(l:Lt):D:=.tup [.str l.n,.str l.j,.str l.w,.tup (l.fs.map .str)]
structure LtOk(sh:List (Str×Nat))(l:Lt):Prop where
 nm:i9 l.n=true
 jn:o9 a5j (.str l.j)=some (.int l.fs.length)
 few:1<=l.fs.length/\l.fs.length<=4
 wy:inD (.str l.w) [.str "left",.str "right",.str "either"]=true
 js:l.j="both"∨l.j="back"∨l.j="none"∨l.j="clear"
 ws:l.w="left"∨l.w="right"∨l.w="either"
 fs:∀f∈l.fs,f∈sh.map (·.1)
theorem b0r(ms:List Lt):D.flats (ms.map ltD)=true:=N1 fun d hd=>by
 obtain⟨p,_,rfl⟩:=am.mp hd
 show D.flats [.str p.n,.str p.j,.str p.w,.tup (p.fs.map .str)]=true
 simp only[D.flats,D.flat,C7,Bool.and_self]
noncomputable def jnL:List Str:=["both","back","none","both","clear","both"]
theorem b7v(i:Nat):∃j n,jnL[i%6]? =some j/\o9 jnD (.str j)=some (.int ((n:Nat):Int))/\G8 (.str j) jnD=true/\o9 a5j (.str j)=some (.int ((n:Nat):Int))/\(1<=n/\n<=4)/\(j="both"∨j="back"∨j="none"∨j="clear"):=by
 have:i%6=0∨i%6=1∨i%6=2∨i%6=3∨i%6=4∨i%6=5:=(by decide:∀r:Nat,r<6->r=0∨r=1∨r=2∨r=3∨r=4∨r=5) (i%6) (Nat.mod_lt i (by decide))
 rcases this with e|e|e|e|e|e<;>rw[e]
 · exact⟨"both",4,rfl,by decide,by decide,by decide,by decide,.inl rfl⟩
 · exact⟨"back",2,rfl,by decide,by decide,by decide,by decide,.inr (.inl rfl)⟩
 · exact⟨"none",1,rfl,by decide,by decide,by decide,by decide,.inr (.inr (.inl rfl))⟩
 · exact⟨"both",4,rfl,by decide,by decide,by decide,by decide,.inl rfl⟩
 · exact⟨"clear",1,rfl,by decide,by decide,by decide,by decide,.inr (.inr (.inr rfl))⟩
 · exact⟨"both",4,rfl,by decide,by decide,by decide,by decide,.inl rfl⟩
noncomputable def wyL:List Str:=["left","right","either"]
theorem b6v(i:Nat):∃w,wyL[i%3]? =some w/\inD (.str w) [.str "left",.str "right",.str "either"]=true/\(w="left"∨w="right"∨w="either"):=by
 have:i%3=0∨i%3=1∨i%3=2:=by omega
 rcases this with e|e|e<;>rw[e]
 · exact⟨"left",rfl,by decide,.inl rfl⟩
 · exact⟨"right",rfl,by decide,.inr (.inl rfl)⟩
 · exact⟨"either",rfl,by decide,.inr (.inr rfl)⟩
variable{kvs:List (D×D)}{ls:List Lt}
section
variable{ct:CT}{F:Nat->Option Fn}
theorem b2V:ev ct c (.dlit kvs) env h=z5 (.dict kvs) h:=by(rw[ev];try rfl)
theorem a9R(hh:g[s]? =some (.lst (shD sh))):biD .len g [.ref s]=.ok (.int (sh.length:Int)) g:=by rw[t7 hh];unfold shD;rw[aa]
theorem b3y{x:Nat}(hs:4<=sh.length)(hh:g[s]? =some (.lst (shD sh))):∃w,ixD g (.ref s) (.int ((x%sh.length:Nat):Int))=.ok (.tup [.str (pk sh x),w]) g:=by
 obtain⟨_,w,e⟩:=a9q hs x;exact⟨w,D9 hh e⟩
theorem b0x{N m:Nat}(hs:4<=sh.length)(hh:g[s]? =some (.lst (shD sh)))(e1:env[1]? =some (some (.ref s)))(e6:env[6]? =some (some (.int (N:Int))))(e8:env[8]? =some (some (.int (m:Int))))(hm:m<=1000):
 ev ct c fcE env g=.ok (.ref g.length) (g++[.lst ((List.range m).map fun i=>.str (pk sh (N/(i*i*31+7))))]):=by
 unfold fcE;refine Y5 (fun i=>.str (pk sh (N/(i*i*31+7)))) (by simp_arith[e8]) (by omega) fun i hi=>?_
 have ii:i*i<=1000000:=Nat.mul_le_mul (show i<=1000 by omega) (show i<=1000 by omega)
 have m1:T4 g (.int (i:Int)) (.int (i:Int))=.ok (.int ((i*i:Nat):Int)) g:=by rw[U7 (by omega)];congr 2
 have m2:T4 g (.int ((i*i:Nat):Int)) (.int 31)=.ok (.int ((i*i*31:Nat):Int)) g:=by rw[U7 (by decide)];congr 2
 have a7:((i*i*31:Nat):Int)+7=((i*i*31+7:Nat):Int):=by omega
 obtain⟨w,ix⟩:=b3y (x:=N/(i*i*31+7)) hs hh;simp_arith[e1,e6,V1,op2,m1,m2,z4,a7,N9 (i*i*31+7) (by omega) (by omega),a9R hh,G0 sh.length (by omega),ix,a2J]
variable(f202:F 202=some n8)(f203:F 203=some l8)
include f202
theorem a5g{k a N0:Nat}{c:Int}{ns:List Str}(hs:4<=sh.length)(hh:h[s]? =some (.lst (shD sh)))(hj:j<ns.length)(n6:ns.length<=100)(ll:ls.length<=1000)(hn:i9 ns[j]=true)(ha:a=h.length)(p1:Pf h g)(p2:g[a]? =some (.lst (ns.map .str)))(p3:g[a+1]? =some (.lst (ls.map ltD)))(e6 e7 e8 e9:Option D):
 ∃l x6 x7 x8 x9 g',LtOk sh l/\l.n=ns[j]/\exs ct (b6 ct F (k+1)) lB [some (.int c),some (.ref s),some (.int (N0:Int)),some (.ref a),some (.ref (a+1)),some (.int (j:Int)),e6,e7,e8,e9] g=.ok (.nx [some (.int c),some (.ref s),some (.int (N0:Int)),some (.ref a),some (.ref (a+1)),some (.int (j:Int)),x6,x7,x8,x9]) g'/\Pf h g'/\g'[a]? =some (.lst (ns.map .str))/\g'[a+1]? =some (.lst ((ls++[l]).map ltD)):=by
 have a100:((j:Nat):Int)+100=((j+100:Nat):Int):=by omega
 obtain⟨N,hN⟩:=C6 (ct:=ct) (k:=k) (c:=c) (j:=((j+100:Nat):Int)) (h:=g) f202 (by omega)
 obtain⟨jn,m,j1,j2,j3,j4,j5,j6⟩:=b7v N;obtain⟨wy,w1,w2,w3⟩:=b6v (N/6)
 have m6:∀h,y9 h (.int (N:Int)) (.int 6)=.ok (.int ((N%6:Nat):Int)) h:=fun h=>G0 6 (by decide)
 have d6:∀h,D7 h (.int (N:Int)) (.int 6)=.ok (.int ((N/6:Nat):Int)) h:=fun h=>N9 6 (by decide) (by decide)
 have m3:∀(a:Nat) h,y9 h (.int (a:Int)) (.int 3)=.ok (.int ((a%3:Nat):Int)) h:=fun a h=>G0 3 (by decide)
 have je:∀(env:u7) (h:AH),ev ct (b6 ct F (k+1)) jnE env h=.ok (.ref h.length) (h++[.lst (jnL.map .str)]):=fun env h=>by unfold jnE jnL;simp_arith[z5]
 have we:∀(env:u7) (h:AH),ev ct (b6 ct F (k+1)) wyE env h=.ok (.ref h.length) (h++[.lst (wyL.map .str)]):=fun env h=>by unfold wyE wyL;simp_arith[z5]
 have jx:∀h:AH,ixD (h++[.lst (jnL.map .str)]) (.ref h.length) (.int ((N%6:Nat):Int))=.ok (.str jn) (h++[.lst (jnL.map .str)]):=fun h=>D9 b8 (by rw[ak,j1];rfl)
 have wx:∀h:AH,ixD (h++[.lst (wyL.map .str)]) (.ref h.length) (.int ((N/6%3:Nat):Int))=.ok (.str wy) (h++[.lst (wyL.map .str)]):=fun h=>D9 b8 (by rw[ak,w1];rfl)
 have dx:∀h:AH,ixD (h++[.dict jnD]) (.ref h.length) (.str jn)=.ok (.int ((m:Nat):Int)) (h++[.dict jnD]):=fun h=>by
  simp only[ixD,b8,j3,if_true,j2]
 have fl:((List.range m).map fun i=>D.str (pk sh (N/(i*i*31+7))))=((List.range m).map fun i=>pk sh (N/(i*i*31+7))).map .str:=by rw[aG];rfl
 refine⟨⟨ns[j],jn,wy,(List.range m).map fun i=>pk sh (N/(i*i*31+7))⟩,some (.int (N:Int)),some (.str jn),some (.int (m:Int)),some (.tup (((List.range m).map fun i=>pk sh (N/(i*i*31+7))).map .str)),(g++[Cell.lst (jnL.map .str)]++[Cell.dict jnD]++[Cell.lst (((List.range m).map fun i=>pk sh (N/(i*i*31+7))).map .str)]++[Cell.lst (wyL.map .str)]).set (a+1) (.lst (ls.map ltD++[ltD ⟨ns[j],jn,wy,(List.range m).map fun i=>pk sh (N/(i*i*31+7))⟩])),⟨hn,by simpa using j4,by simpa using j5,w2,j6,w3,fun f hf=>?_⟩,rfl,?_,?_,?_,?_⟩
 · obtain⟨i,_,rfl⟩:=am.mp hf;exact(a9q hs _).1
 · unfold lB;rw[seq (env':=[some (.int c),some (.ref s),some (.int (N0:Int)),some (.ref a),some (.ref (a+1)),some (.int (j:Int)),some (.int (N:Int)),e7,e8,e9]) (h':=g) (by simp_arith[op2,z4,a100,hN])]
   rw[seq (env':=[some (.int c),some (.ref s),some (.int (N0:Int)),some (.ref a),some (.ref (a+1)),some (.int (j:Int)),some (.int (N:Int)),some (.str jn),e8,e9]) (h':=g++[.lst (jnL.map .str)]) (by simp_arith[je,op2,m6,jx])]
   have P1:Pf h (g++[.lst (jnL.map .str)]):=p1.app _
   have A1:=b7 (g:=[.lst (jnL.map .str)]) p2;have B1:=b7 (g:=[.lst (jnL.map .str)]) p3;generalize g++[Cell.lst (jnL.map .str)]=g1 at*
   unfold lB3;rw[seq (env':=[some (.int c),some (.ref s),some (.int (N0:Int)),some (.ref a),some (.ref (a+1)),some (.int (j:Int)),some (.int (N:Int)),some (.str jn),some (.int (m:Int)),e9]) (h':=g1++[.dict jnD]) (by simp_arith[b2V,z5,dx])]
   have P2:Pf h (g1++[.dict jnD]):=P1.app _
   have A2:=b7 (g:=[.dict jnD]) A1;have B2:=b7 (g:=[.dict jnD]) B1;generalize g1++[Cell.dict jnD]=g2 at*
   unfold lB4;have fo:=b0x (ct:=ct) (c:=b6 ct F (k+1)) (s:=s) (N:=N) (m:=m) (env:=[some (.int c),some (.ref s),some (.int (N0:Int)),some (.ref a),some (.ref (a+1)),some (.int (j:Int)),some (.int (N:Int)),some (.str jn),some (.int (m:Int)),e9]) (g:=g2) hs (P2.at hh) rfl rfl rfl (by omega)
   rw[fl] at fo;generalize ((List.range m).map fun i=>pk sh (N/(i*i*31+7)))=fs at*
   rw[seq (env':=[some (.int c),some (.ref s),some (.int (N0:Int)),some (.ref a),some (.ref (a+1)),some (.int (j:Int)),some (.int (N:Int)),some (.str jn),some (.int (m:Int)),some (.tup (fs.map .str))]) (h':=g2++[.lst (fs.map .str)]) (by simp_arith[fo,a1D b8])]
   have A3:=b7 (g:=[.lst (fs.map .str)]) A2;have B3:=b7 (g:=[.lst (fs.map .str)]) B2;generalize g2++[Cell.lst (fs.map .str)]=g3 at*
   unfold lB5
   have nx:ixD g3 (.ref a) (.int (j:Int))=.ok (.str ns[j]) g3:=D9 A3 (by rw[ak,af hj];rfl)
   simp_arith[G7 B3,nx,we,op2,d6,m3,wx,S7 (b7 (g:=[.lst (wyL.map .str)]) B3) (by rw[aa];omega),ltD]
 · exact((((p1.app _).app _).app _).app _).set (by omega)
 · exact b9 (by omega) (b7 (b7 (b7 (b7 p2))))
 · rw[B6 (b7 (b7 (b7 (b7 p3)))),ao];rfl
include f203
theorem a6h{k:Nat}{c:Int}(hF:F 208=some u8)(hs:Shs sh)(hh:h[s]? =some (.lst (shD sh))):∃ls:List Lt,(1<=ls.length/\ls.length<=6)/\(ls.map (·.n)).Nodup/\(∀l∈ls,LtOk sh l)/\¬(("q":Str)∈ls.map (·.n)/\("left":Str)∈ls.map (·.n))/\b6 ct F (k+2) 208 [.int c,.ref s] h=.ok (.ref h.length) (h++[.lst (ls.map ltD)]):=by
 obtain⟨M,hM⟩:=C6 (ct:=ct) (k:=k) (c:=c) (j:=2) (h:=h) f202 (by decide)
 have d6:D7 h (.int (M:Int)) (.int 6)=.ok (.int ((M/6:Nat):Int)) h:=N9 6 (by decide) (by decide)
 have m6:y9 h (.int (M:Int)) (.int 6)=.ok (.int ((M%6:Nat):Int)) h:=G0 6 (by decide)
 have a1:(1:Int)+((M%6:Nat):Int)=((1+M%6:Nat):Int):=by omega
 have l6:M%6<6:=Nat.mod_lt _ (by decide)
 obtain⟨ns,nk,hN⟩:=W7 (ct:=ct) (k:=k) (c:=M/6) (m:=1+M%6) (h:=h) f203 (by omega)
 generalize hm:1+M%6=m at nk hN a1;rw[m8 hF rfl];simp only[u8]
 show∃ls:List Lt,_/\_/\_/\_/\gcR 2 h (K8 (exs ct (b6 ct F (k+1)) _ [some (.int c),some (.ref s),none,none,none,none,none,none,none,none] h))=_
 rw[seq (env':=[some (.int c),some (.ref s),some (.int (M:Int)),none,none,none,none,none,none,none]) (h':=h) (by simp_arith[hM])]
 rw[seq (env':=[some (.int c),some (.ref s),some (.int (M:Int)),some (.ref h.length),none,none,none,none,none,none]) (h':=h++[.lst (ns.map .str)]) (by simp_arith[op2,d6,m6,z4,a1,hN])]
 have l1:(h++[Cell.lst (ns.map D.str)]).length=h.length+1:=by simp
 rw[seq (env':=[some (.int c),some (.ref s),some (.int (M:Int)),some (.ref h.length),some (.ref (h.length+1)),none,none,none,none,none]) (h':=h++[.lst (ns.map .str)]++[.lst []]) (by simp_arith[z5,l1])]
 have gN:(h++[Cell.lst (ns.map D.str)]++[Cell.lst []])[h.length]? =some (.lst (ns.map .str)):=b7 b8
 have gW:(h++[Cell.lst (ns.map D.str)]++[Cell.lst []])[h.length+1]? =some (.lst []):=by rw[←l1];exact b8
 have pf:Pf h (h++[Cell.lst (ns.map D.str)]++[Cell.lst []]):=((Pf.refl h).app _).app _
 generalize h++[Cell.lst (ns.map D.str)]++[Cell.lst []]=g at gN gW pf
 have len:biD .len g [.ref h.length]=.ok (.int (m:Int)) g:=by rw[t7 gN,aa,nk.len]
 obtain⟨env',g',e1,ls,e5,e6,e7,e8,e9,rfl,q2,q3,q4,q5,q6⟩:=E8 (g:=[]) (p:=.nm 5) (body:=exs ct (b6 ct F (k+1)) lB) (fun j env hh=>∃ls:List Lt,∃e5 e6 e7 e8 e9,env=[some (.int c),some (.ref s),some (.int (M:Int)),some (.ref h.length),some (.ref (h.length+1)),e5,e6,e7,e8,e9]/\Pf h hh/\hh[h.length]? =some (.lst (ns.map .str))/\hh[h.length+1]? =some (.lst (ls.map ltD))/\ls.map (·.n)=ns.take j/\∀l∈ls,LtOk sh l) (fun _ _ _ _=>rfl) ((List.range m).map fun i=>.int ((0:Int)+(i:Nat))) 0 [some (.int c),some (.ref s),some (.int (M:Int)),some (.ref h.length),some (.ref (h.length+1)),none,none,none,none,none] g (fun j x env hg hx hP=>by
  obtain⟨ls,e5,e6,e7,e8,e9,rfl,p1,p2,p3,p4,p5⟩:=hP;obtain⟨hj,rfl⟩:=a1Z hx;rw[aB] at p4⊢
  have hj':j<ns.length:=by rw[nk.len];exact hj
  have ll:ls.length<=1000:=by
   have:=congrArg List.length p4
   rw[aa,aK] at this;omega
  obtain⟨l,x6,x7,x8,x9,g',t1,t2,t3,t4,t5,t6⟩:=a5g (ct:=ct) (k:=k) (c:=c) (N0:=M) f202 hs.lo hh hj' (by rw[nk.len];omega) ll (nk.ok _ (bj hj')) rfl p1 p2 p3 e6 e7 e8 e9
  refine⟨_,_,g',rfl,t3,ls++[l],_,_,_,_,_,rfl,t4,t5,t6,?_,fun y hy=>?_⟩
  · rw[ao,p4,List.take_succ_eq_append_getElem hj',←t2];rfl
  · rcases aJ.mp hy with hy|hy
    · exact p5 y hy
    · rw[aM.mp hy];exact t1) ⟨[],none,none,none,none,none,rfl,pf,gN,gW,rfl,fun _ h=>nomatch h⟩
 rw[aa,aH,aB,←nk.len,aZ] at q5
 have ln:ls.length=m:=by rw[←nk.len,←q5,aa]
 refine⟨ls,by omega,by rw[q5];exact nk.nd,q6,by rw[q5];exact nk.ql,?_⟩
 rw[seq (env':=[some (.int c),some (.ref s),some (.int (M:Int)),some (.ref h.length),some (.ref (h.length+1)),e5,e6,e7,e8,e9]) (h':=g') (by simp_arith[len,a0p (h:=g) (m:=m) (by omega),e1])]
 simp_arith[];exact a2R q2 q4 (Nat.le_succ _) (b0r _)
end
structure Cs where
 n:Str
 fs:List Str
noncomputable def csD(c:Cs):D:=.tup [.str c.n,.tup (c.fs.map .str)]
structure CsOk(sh:List (Str×Nat))(c:Cs):Prop where
 nm:i9 c.n=true
 few:1<=c.fs.length/\c.fs.length<=20
 fs:∀f∈c.fs,f∈sh.map (·.1)
theorem b0s(ms:List Cs):D.flats (ms.map csD)=true:=N1 fun d hd=>by
 obtain⟨p,_,rfl⟩:=am.mp hd
 show D.flats [.str p.n,.tup (p.fs.map .str)]=true
 simp only[D.flats,D.flat,C7,Bool.and_self]
theorem V5:∀{l:List D} {i j:Nat} {x:D},(u6 i l)[j]? =some x->∃d,l[j]? =some d/\x=.tup [.int ((i+j:Nat):Int),d]
 |[],i,j,x,h=>by simp[u6] at h
 |d::r,i,0,x,h=>by
  rw[u6] at h
  simp at h
  exact⟨d,rfl,h.symm⟩
 |d::r,i,j+1,x,h=>by
  rw[u6] at h;obtain⟨d',h1,h2⟩:=V5 (l:=r) (i:=i+1) (j:=j) (by simpa using h)
  refine⟨d',by simpa using h1,?_⟩
  rw[h2,show i+1+j=i+(j+1) by omega]
theorem N7:∀(l:List D) (i:Nat),(u6 i l).length=l.length
 |[],_=>rfl
 |d::r,i=>by rw[u6,length_cons,N7 r,length_cons]
section
variable{ct:CT}{F:Nat->Option Fn}
theorem b1C{N:Nat}(hs:4<=sh.length)(hh:g[s]? =some (.lst (shD sh)))(e1:env[1]? =some (some (.ref s)))(e6:env[6]? =some (some (.int (N:Int)))):
 ev ct c smE env g=.ok (.ref g.length) (g++[.lst (((List.range (1+N%5)).map fun i=>pk sh (N/(i*13+5))).map .str)]):=by
 unfold smE
 have m20:y9 g (.int (N:Int)) (.int 5)=.ok (.int ((N%5:Nat):Int)) g:=G0 5 (by decide)
 have a1:(1:Int)+((N%5:Nat):Int)=((1+N%5:Nat):Int):=by omega
 have l20:N%5<5:=Nat.mod_lt _ (by decide)
 have r:=Y5 (ct:=ct) (c:=c) (fr:=[6,1]) (a:=.bin .add (.k (.int (1))) (.bin .mod (.v 6) (.k (.int (5))))) (e:=(.ix (.ix (.v 2) (.bin .mod (.bin .div (.v 1) (.bin .add (.bin .mul (.v 0) (.k (.int (13)))) (.k (.int (5))))) (.bi .len (.cons (.v 2) .nil)))) (.k (.int (0))))) (env:=env) (m:=1+N%5) (h:=g) (fun i=>.str (pk sh (N/(i*13+5)))) (by simp_arith[e6,op2,m20,z4,a1]) (by omega) (fun i hi=>by
  have m1:T4 g (.int (i:Int)) (.int 13)=.ok (.int ((i*13:Nat):Int)) g:=by rw[U7 (by decide)];congr 2
  have a5:((i*13:Nat):Int)+5=((i*13+5:Nat):Int):=by omega
  obtain⟨w,ix⟩:=b3y (x:=N/(i*13+5)) hs hh;simp_arith[e1,e6,V1,op2,m1,z4,a5,N9 (i*13+5) (by omega) (by omega),a9R hh,G0 sh.length (by omega),ix,a2J])
 rw[r,aG];rfl
variable(f202:F 202=some n8)(f203:F 203=some l8)
include f202 f203
theorem a6v{k:Nat}{c:Int}(hF:F 209=some u9)(hs:Shs sh)(hh:h[s]? =some (.lst (shD sh))):∃ls:List Cs,(1<=ls.length/\ls.length<=9)/\(ls.map (·.n)).Nodup/\(∀l∈ls,CsOk sh l)/\b6 ct F (k+2) 209 [.int c,.ref s] h=.ok (.ref h.length) (h++[.lst (ls.map csD)]):=by
 obtain⟨M,hM⟩:=C6 (ct:=ct) (k:=k) (c:=c) (j:=3) (h:=h) f202 (by decide)
 have l1:(h++[Cell.lst []]).length=h.length+1:=by simp
 generalize hg:h++[Cell.lst []]=g0 at l1
 have d4:D7 g0 (.int (M:Int)) (.int 4)=.ok (.int ((M/4:Nat):Int)) g0:=N9 4 (by decide) (by decide)
 have m3:y9 g0 (.int (M:Int)) (.int 3)=.ok (.int ((M%3:Nat):Int)) g0:=G0 3 (by decide)
 have l3:M%3<3:=Nat.mod_lt _ (by decide)
 obtain⟨m,mb,me⟩:∃m:Nat,(1<=m/\m<=9)/\(1:Int)+((M%3:Nat):Int)=(m:Int):=⟨1+M%3,by omega,by omega⟩
 obtain⟨ns,nk,hN⟩:=W7 (ct:=ct) (k:=k) (c:=M/4) (m:=m) (h:=g0) f203 (by omega)
 rw[m8 hF rfl];simp only[u9]
 show∃ls:List Cs,_/\_/\_/\gcR 2 h (K8 (exs ct (b6 ct F (k+1)) _ [some (.int c),some (.ref s),none,none,none,none,none,none] h))=_
 rw[seq (env':=[some (.int c),some (.ref s),some (.int (M:Int)),none,none,none,none,none]) (h':=h) (by simp_arith[hM])]
 rw[seq (env':=[some (.int c),some (.ref s),some (.int (M:Int)),some (.ref h.length),none,none,none,none]) (h':=g0) (by simp_arith[z5,hg])]
 have gW:(g0++[Cell.lst (ns.map D.str)])[h.length]? =some (.lst []):=b7 (by rw[←hg];exact b8)
 have gN:(g0++[Cell.lst (ns.map D.str)])[h.length+1]? =some (.lst (ns.map .str)):=by rw[←l1];exact b8
 have pf:Pf h (g0++[Cell.lst (ns.map D.str)]):=by rw[←hg];exact((Pf.refl h).app _).app _
 rw[l1] at hN;generalize g0++[Cell.lst (ns.map D.str)]=g at gN gW pf hN
 obtain⟨env',g',e1,ls,e4,e5,e6,e7,rfl,q2,q3,q4,q5,q6⟩:=E8 (g:=[(h.length+1,.lst (ns.map .str))]) (p:=.tp (.cons (.nm 4) (.cons (.nm 5) .nil))) (body:=exs ct (b6 ct F (k+1)) kB) (fun j env hh=>∃ls:List Cs,∃e4 e5 e6 e7,env=[some (.int c),some (.ref s),some (.int (M:Int)),some (.ref h.length),e4,e5,e6,e7]/\Pf h hh/\hh[h.length+1]? =some (.lst (ns.map .str))/\hh[h.length]? =some (.lst (ls.map csD))/\ls.map (·.n)=ns.take j/\∀l∈ls,CsOk sh l) (fun j env gg hP=>by
  obtain⟨_,_,_,_,_,_,_,h3,_⟩:=hP;simp[gOk,h3]) (u6 0 (ns.map .str)) 0 [some (.int c),some (.ref s),some (.int (M:Int)),some (.ref h.length),none,none,none,none] g (fun j x env hg hx hP=>by
  obtain⟨ls,e4,e5,e6,e7,rfl,p1,p2,p3,p4,p5⟩:=hP;obtain⟨d,hd,rfl⟩:=V5 hx
  have hj:j<ns.length:=by simpa using(ac.mp hd).1
  rw[ak,af hj] at hd
  obtain rfl:D.str ns[j]=d:=ax hd;rw[aB] at p4⊢
  have a130:((j:Nat):Int)+130=((j+130:Nat):Int):=by omega
  have jl:=nk.len;obtain⟨N,hN⟩:=C6 (ct:=ct) (k:=k) (c:=c) (j:=((j+130:Nat):Int)) (h:=hg) f202 (by omega)
  have so:=b1C (ct:=ct) (c:=b6 ct F (k+1)) (s:=s) (N:=N) (env:=[some (.int c),some (.ref s),some (.int (M:Int)),some (.ref h.length),some (.int (j:Int)),some (.str ns[j]),some (.int (N:Int)),e7]) (g:=hg) hs.lo (p1.at hh) rfl rfl
  have l20:N%5<5:=Nat.mod_lt _ (by decide)
  have fo:∀f∈(List.range (1+N%5)).map fun i=>pk sh (N/(i*13+5)),f∈sh.map (·.1):=fun f hf=>by
   obtain⟨i,_,rfl⟩:=am.mp hf;exact(a9q hs.lo _).1
  have fl:((List.range (1+N%5)).map fun i=>pk sh (N/(i*13+5))).length=1+N%5:=by simp
  generalize ((List.range (1+N%5)).map fun i=>pk sh (N/(i*13+5)))=fs at so fo fl
  have ll:(ls.map csD).length<1000000:=by
   have:=congrArg List.length p4
   rw[aa,aK] at this;rw[aa];omega
  refine⟨_,[some (.int c),some (.ref s),some (.int (M:Int)),some (.ref h.length),some (.int (j:Int)),some (.str ns[j]),some (.int (N:Int)),some (.ref hg.length)],(hg++[Cell.lst (fs.map .str)]).set h.length (.lst (ls.map csD++[csD ⟨ns[j],fs⟩])),rfl,?_,ls++[⟨ns[j],fs⟩],_,_,_,_,rfl,(p1.app _).set (aj _),b9 (by omega) (b7 p2),?_,?_,fun y hy=>?_⟩
  · show exs ct (b6 ct F (k+1)) kB [some (.int c),some (.ref s),some (.int (M:Int)),some (.ref h.length),some (.int (j:Int)),some (.str ns[j]),e6,e7] hg=_
    unfold kB;rw[seq (env':=[some (.int c),some (.ref s),some (.int (M:Int)),some (.ref h.length),some (.int (j:Int)),some (.str ns[j]),some (.int (N:Int)),e7]) (h':=hg) (by simp_arith[op2,z4,a130,hN])]
    rw[seq (env':=[some (.int c),some (.ref s),some (.int (M:Int)),some (.ref h.length),some (.int (j:Int)),some (.str ns[j]),some (.int (N:Int)),some (.ref hg.length)]) (h':=hg++[.lst (fs.map .str)]) (by simp_arith[so])]
    simp_arith[G7 (b7 (g:=[.lst (fs.map .str)]) p3),a1D b8,S7 (b7 (g:=[.lst (fs.map .str)]) p3) ll,csD]
  · rw[B6 (b7 p3),ao];rfl
  · rw[ao,p4,List.take_succ_eq_append_getElem hj];rfl
  · rcases aJ.mp hy with hy|hy
    · exact p5 y hy
    · rw[aM.mp hy];exact⟨nk.ok _ (bj hj),by simp only;omega,fo⟩) ⟨[],none,none,none,none,rfl,pf,gN,gW,rfl,fun _ h=>nomatch h⟩
 rw[N7,aa,aB,aZ] at q5
 have ln:ls.length=m:=by rw[←nk.len,←q5,aa]
 refine⟨ls,by omega,by rw[q5];exact nk.nd,q6,?_⟩
 rw[seq (env':=[some (.int c),some (.ref s),some (.int (M:Int)),some (.ref h.length),e4,e5,e6,e7]) (h':=g') (by simp_arith[op2,d4,m3,z4,J8,eqS,me,hN,U1,gN,e1])]
 simp_arith[];exact a2R q2 q4 (aj _) (b0s _)
end
theorem W8(h:i9 z=true):z.length<=12:=(a2l h).2
noncomputable def feD(p:Str×Bool):D:=.tup [.str p.1,.bl p.2]
section
variable{ct:CT}{F:Nat->Option Fn}
theorem a7J{k m:Nat}{c:Int}{s l cl f:D}(f202:F 202=some n8)(f203:F 203=some l8)(hF:F 211=some z7)(hm:m=0):b6 ct F (k+2) 211 [.int c,.int (m:Int),s,l,cl,f] h=.ok (.ref h.length) (h++[.lst []]):=by
 subst hm
 have l1:(h++[Cell.lst []]).length=h.length+1:=by simp
 obtain⟨M,hM⟩:=C6 (ct:=ct) (k:=k) (c:=c) (j:=4) (h:=h++[Cell.lst []]) f202 (by decide)
 obtain⟨ns,nk,hN⟩:=W7 (ct:=ct) (k:=k) (c:=M) (m:=0) (h:=h++[Cell.lst []]) f203 (by decide)
 obtain rfl:=List.eq_nil_of_length_eq_zero nk.len
 have gN:(h++[Cell.lst []]++[Cell.lst []])[(h++[Cell.lst []]).length]? =some (.lst []):=b8
 rw[m8 hF rfl];simp only[z7];simp_arith[z5,hM,show b6 ct F (k+1) 203 [.int (M:Int),.int ((0:Nat):Int)] (h++[Cell.lst []])=.ok (.ref (h++[Cell.lst []]).length) (h++[Cell.lst []]++[Cell.lst []]) from hN,U1,gN,u6,T7,gOk,all_cons,all_nil,decide_true,Bool.and_self];exact a2R (((Pf.refl h).app _).app _) (b7 b8) (aj _) rfl
end
structure HL where
 sh:List (Str×Nat)
 mr:List Mk
 pt:List Pt
 ls:List Lt
 gp:List Str
 cs:List Cs
 fe:List (Str×Bool)
structure HLok(H:HL):Prop where
 sh:Shs H.sh
 mr:(H.mr.map (·.n)).Sublist (H.sh.map (·.1))
 mko:∀m∈H.mr,a0d m.s/\Y9 m.a/\Y9 m.b
 pt:(H.pt.map ptK).Nodup
 ptl:H.pt.length<=100
 pto:∀p∈H.pt,p.n∈H.sh.map (·.1)/\a0d p.s/\Y9 p.a
 ls:1<=H.ls.length/\H.ls.length<=6
 lsn:(H.ls.map (·.n)).Nodup
 lso:∀l∈H.ls,LtOk H.sh l
 gp:H.gp.Sublist (H.ls.map (·.n))
 cs:1<=H.cs.length/\H.cs.length<=9
 csn:(H.cs.map (·.n)).Nodup
 cso:∀c∈H.cs,CsOk H.sh c
 fe:1<=H.fe.length/\H.fe.length<=3
 fen:Nms (H.fe.map (·.1)) H.fe.length
 lq:¬(("q":Str)∈H.ls.map (·.n)/\("left":Str)∈H.ls.map (·.n))
structure HAt(H:HL)(g:AH)(a b c d e f i j:Nat):Prop where
 sh:g[a]? =some (.lst (shD H.sh))
 mr:g[b]? =some (.lst (H.mr.map mkD))
 pt:g[c]? =some (.lst (H.pt.map ptD))
 ls:g[d]? =some (.lst (H.ls.map ltD))
 gp:g[e]? =some (.lst (H.gp.map .str))
 cs:g[f]? =some (.lst (H.cs.map csD))
 fe:g[i]? =some (.lst (H.fe.map feD))
 ru:g[j]? =some (.lst [])
def feF(M:Nat)(x:D):D:=match x with
 |.tup [.int j,n]=>(match n with
  |.str n=>feD (n,decide ((0:Int)<((M/(j.toNat+5)%4:Nat):Int)))
  |_=>.non)
 |_=>.non
theorem b0w(M:Nat):∀(ns:List Str) (i:Nat),∃fe:List (Str×Bool),(u6 i (ns.map .str)).map (feF M)=fe.map feD/\fe.map (·.1)=ns
 |[],_=>⟨[],rfl,rfl⟩
 |n::ns,i=>by
  obtain⟨fe,h1,h2⟩:=b0w M ns (i+1);refine⟨(n,decide ((0:Int)<((M/(((i:Nat):Int).toNat+5)%4:Nat):Int)))::fe,?_,by rw[map_cons,h2]⟩
  rw[map_cons,u6,map_cons,h1];rfl
noncomputable def gpB(M:Nat)(x:D):Bool:=match x with
 |.tup [.int j,_]=>decide (((M/(7*j.toNat+9)%4:Nat):Int)=0)
 |_=>false
noncomputable def gpF(x:D):D:=match x with
 |.tup [_,.tup (n::_)]=>n
 |_=>.non
theorem b0g(M:Nat):∀(ls:List Lt) (i:Nat),∃gp:List Str,((u6 i (ls.map ltD)).filter (gpB M)).map gpF=gp.map .str/\gp.Sublist (ls.map (·.n))
 |[],_=>⟨[],rfl,.slnil⟩
 | l::ls,i=>by
  obtain⟨gp,h1,h2⟩:=b0g M ls (i+1);rw[map_cons,u6]
  cases hb:gpB M (.tup [.int (i:Nat),ltD l]) with
  |true=>
   refine⟨l.n::gp,?_,by rw[map_cons];exact h2.cons_cons _⟩
   rw[List.filter_cons_of_pos hb,map_cons,h1];rfl
  |false=>
   refine⟨gp,?_,by rw[map_cons];exact h2.cons _⟩
   rw[List.filter_cons_of_neg (by rw[hb];exact bh),h1]
section
variable{ct:CT}{F:Nat->Option Fn}
theorem b2L{d:Nat}(h4:env[4]? =some (some (.ref d)))(h6:env[6]? =some (some (.int (M:Int))))(hd:g[d]? =some (.lst (ls.map ltD)))(hl:ls.length<=1000):∃gp:List Str,gp.Sublist (ls.map (·.n))/\ev ct c gpE env g=.ok (.ref g.length) (g++[.lst (gp.map .str)]):=by
 obtain⟨gp,g1,g2⟩:=b0g M ls 0;refine⟨gp,g2,?_⟩
 unfold gpE
 rw[E6 (l:=u6 0 (ls.map ltD)) (g:=[(d,.lst (ls.map ltD))]) (h1:=g) (by simp_arith[h4,U1,hd]) (by simp[gOk,hd]) (gpB M) gpF (fun x=>match x with|.tup [a,b]=>[some a,some b,some (.int (M:Int))]|_=>[]) (fun x hx=>by
  obtain⟨j,hj⟩:=List.mem_iff_getElem?.mp hx;obtain⟨y,hy,rfl⟩:=V5 hj
  have hj':j<ls.length:=by simpa using(ac.mp hy).1
  rw[ak,af hj'] at hy
  obtain rfl:ltD ls[j]=y:=ax hy;rw[aB]
  have m7:T4 g (.int 7) (.int (j:Int))=.ok (.int ((7*j:Nat):Int)) g:=by rw[U7 (by omega)];congr 2
  have a9:((7*j:Nat):Int)+9=((7*j+9:Nat):Int):=by omega
  have m4:∀a:Nat,y9 g (.int (a:Int)) (.int 4)=.ok (.int ((a%4:Nat):Int)) g:=fun a=>G0 4 (by decide)
  refine⟨by simp only[J3,L7,C2,map_cons,map_nil,h6,V1];rfl,?_,fun _=>?_⟩
  · simp_arith[op2,m7,z4,a9,N9 (7*j+9) (by omega) (by omega),m4,J8,eqS,gpB,Int.toNat_natCast]
  · unfold ltD;simp_arith[a2J,gpF]) (by rw[N7,aa];show _<=16777216;omega),g1]
theorem b0v{k:Nat}(f203:F 203=some l8)(h6:env[6]? =some (some (.int (M:Int)))):∃(fe:List (Str×Bool)) (t:Cell),(1<=fe.length/\fe.length<=3)/\Nms (fe.map (·.1)) fe.length/\ev ct (b6 ct F (k+1)) feE env g=.ok (.ref (g.length+1)) (g++[t]++[.lst (fe.map feD)]):=by
 have d3:D7 g (.int (M:Int)) (.int 3)=.ok (.int ((M/3:Nat):Int)) g:=N9 3 (by decide) (by decide)
 have m3:y9 g (.int (M:Int)) (.int 3)=.ok (.int ((M%3:Nat):Int)) g:=G0 3 (by decide)
 have a1:(1:Int)+((M%3:Nat):Int)=((1+M%3:Nat):Int):=by omega
 have l3:M%3<3:=Nat.mod_lt _ (by decide)
 obtain⟨ns,nk,hN⟩:=W7 (ct:=ct) (k:=k) (c:=M/3) (m:=1+M%3) (h:=g) f203 (by omega)
 obtain⟨fe,h1,h2⟩:=b0w M ns 0
 have fl:fe.length=1+M%3:=by rw[←nk.len,←h2,aa]
 refine⟨fe,.lst (ns.map .str),by omega,by rw[h2,fl];exact nk,?_⟩
 have lg:(g++[Cell.lst (ns.map D.str)]).length=g.length+1:=by simp
 unfold feE
 rw[u5 (l:=u6 0 (ns.map .str)) (g:=[(g.length,.lst (ns.map .str))]) (h1:=g++[.lst (ns.map .str)]) (by simp_arith[h6,op2,d3,m3,z4,a1,hN,U1,b8]) (by simp[gOk]) (feF M) (fun x=>match x with|.tup [a,b]=>[some a,some b,some (.int (M:Int))]|_=>[]) (fun x hx=>by
  obtain⟨j,hj⟩:=List.mem_iff_getElem?.mp hx;obtain⟨y,hy,rfl⟩:=V5 hj
  have hj':j<ns.length:=by simpa using(ac.mp hy).1
  rw[ak,af hj'] at hy
  obtain rfl:D.str ns[j]=y:=ax hy;rw[aB];have jl:=nk.len
  have a5:((j:Nat):Int)+5=((j+5:Nat):Int):=by omega
  have m4:∀(a:Nat) h,y9 h (.int (a:Int)) (.int 4)=.ok (.int ((a%4:Nat):Int)) h:=fun a h=>G0 4 (by decide)
  refine⟨by simp only[J3,L7,C2,map_cons,map_nil,h6,V1];rfl,?_⟩
  simp_arith[op2,z4,a5,N9 (j+5) (by omega) (by omega),m4,F5,feF,feD,Int.toNat_natCast]) (by rw[N7,aa,nk.len];show _<=16777216;omega),h1,lg]
variable(f201:F 201=some z0)(f202:F 202=some n8)(f203:F 203=some l8)(f204:F 204=some x0)(f205:F 205=some t9)(f206:F 206=some z8)(f207:F 207=some y7)(f208:F 208=some u8)(f209:F 209=some u9)(f211:F 211=some z7)
include f201 f202 f203 f204 f205 f206 f207 f208 f209 f211
theorem b2G{k m:Nat}(hF:F 212=some E4)(hr:h[n]? =some (.rol (ns.map .int)))(hm:m=0):
 ∃H g a b c d e f i j,HLok H/\Pf h g/\HAt H g a b c d e f i j/\b6 ct F (k+3) 212 [.ref n,.int (m:Int)] h=.ok (.tup [.ref a,.ref b,.ref c,.ref d,.ref e,.ref f,.ref i,.ref j]) g:=by
 obtain⟨c0,hc0⟩:=a0b (ct:=ct) (k:=k+1) (j:=0) f201 hr;obtain⟨sh,s1,s2⟩:=a7G (ct:=ct) (k:=k) (c:=c0) (h:=h) f202 f203 f204
 have P1:Pf h (h++[.lst (shD sh)]):=(Pf.refl h).app _
 have A1:(h++[Cell.lst (shD sh)])[h.length]? =some (.lst (shD sh)):=b8
 have st1:exs ct (b6 ct F (k+2)) (.cons (.set 2 (.call 201 (.cons (.v 0) (.cons (.k (.int (0))) .nil)))) (.cons (.set 3 (.call 204 (.cons (.v 2) .nil))) hB2)) [some (.ref n),some (.int (m:Int)),none,none,none,none,none,none,none,none,none,none] h=exs ct (b6 ct F (k+2)) hB2 [some (.ref n),some (.int (m:Int)),some (.int c0),some (.ref h.length),none,none,none,none,none,none,none,none] (h++[.lst (shD sh)]):=by
  rw[seq (env':=[some (.ref n),some (.int (m:Int)),some (.int c0),none,none,none,none,none,none,none,none,none]) (h':=h) (by simp_arith[show b6 ct F (k+2) 201 [.ref n,.int 0] h=.ok (.int c0) h from hc0])]
  exact seq (by simp_arith[s2])
 generalize h++[Cell.lst (shD sh)]=g1 at P1 A1 st1;obtain⟨c1,hc1⟩:=a0b (ct:=ct) (k:=k+1) (j:=1) f201 (P1.at hr);obtain⟨ls,l1,l2,l3,l0,l4⟩:=a6h (ct:=ct) (k:=k) (c:=c1) (h:=g1) f202 f203 f208 s1 A1
 have P2:Pf h (g1++[.lst (ls.map ltD)]):=P1.app _
 have A2:=b7 (g:=[.lst (ls.map ltD)]) A1
 have B2:(g1++[Cell.lst (ls.map ltD)])[g1.length]? =some (.lst (ls.map ltD)):=b8
 generalize hd:g1.length=d at l4 B2;generalize hg2:g1++[Cell.lst (ls.map ltD)]=g2 at P2 A2 B2 l4;obtain⟨c2,hc2⟩:=a0b (ct:=ct) (k:=k+1) (j:=2) f201 (P2.at hr);obtain⟨cs,k1,k2,k3,k4⟩:=a6v (ct:=ct) (k:=k) (c:=c2) (h:=g2) f202 f203 f209 s1 A2
 have P3:Pf h (g2++[.lst (cs.map csD)]):=P2.app _
 have A3:=b7 (g:=[.lst (cs.map csD)]) A2;have B3:=b7 (g:=[.lst (cs.map csD)]) B2
 have C3:(g2++[Cell.lst (cs.map csD)])[g2.length]? =some (.lst (cs.map csD)):=b8
 generalize hf:g2.length=f at k4 C3;generalize hg3:g2++[Cell.lst (cs.map csD)]=g3 at P3 A3 B3 C3 k4;obtain⟨c2',hc2'⟩:=a0b (ct:=ct) (k:=k+1) (j:=2) f201 (P3.at hr);obtain⟨M,hM⟩:=C6 (ct:=ct) (k:=k+1) (c:=c2') (j:=5) (h:=g3) f202 (by decide)
 obtain⟨fe,t,f1,f2,f3⟩:=b0v (ct:=ct) (k:=k+1) (M:=M) (env:=[some (.ref n),some (.int (m:Int)),some (.int c0),some (.ref h.length),some (.ref d),some (.ref f),some (.int (M:Int)),none,none,none,none,none]) (g:=g3) f203 rfl
 have lg:(g3++[t]).length=g3.length+1:=by simp
 have P4:Pf h (g3++[t]++[.lst (fe.map feD)]):=(P3.app _).app _
 have A4:=b7 (g:=[.lst (fe.map feD)]) (b7 (g:=[t]) A3);have B4:=b7 (g:=[.lst (fe.map feD)]) (b7 (g:=[t]) B3);have C4:=b7 (g:=[.lst (fe.map feD)]) (b7 (g:=[t]) C3)
 have D4:(g3++[t]++[Cell.lst (fe.map feD)])[g3.length+1]? =some (.lst (fe.map feD)):=by rw[←lg];exact b8
 generalize hi:g3.length+1=i at f3 D4;generalize hg4:g3++[t]++[Cell.lst (fe.map feD)]=g4 at P4 A4 B4 C4 D4 f3;obtain⟨c3,hc3⟩:=a0b (ct:=ct) (k:=k+1) (j:=3) f201 (P4.at hr);have r4:=a7J (ct:=ct) (k:=k) (c:=c3) (s:=.ref h.length) (l:=.ref d) (cl:=.ref f) (f:=.ref i) (h:=g4) f202 f203 f211 hm
 have P5:Pf h (g4++[.lst []]):=P4.app _
 have A5:=b7 (g:=[.lst []]) A4;have B5:=b7 (g:=[.lst []]) B4;have C5:=b7 (g:=[.lst []]) C4;have D5:=b7 (g:=[.lst []]) D4
 have E5:(g4++[Cell.lst []])[g4.length]? =some (.lst []):=b8
 generalize hj:g4.length=j at r4 E5;generalize hg5:g4++[Cell.lst []]=g5 at P5 A5 B5 C5 D5 E5 r4;obtain⟨gp,y1,y2⟩:=b2L (ct:=ct) (c:=b6 ct F (k+2)) (M:=M) (env:=[some (.ref n),some (.int (m:Int)),some (.int c0),some (.ref h.length),some (.ref d),some (.ref f),some (.int (M:Int)),some (.ref i),some (.ref j),none,none,none]) (g:=g5) rfl rfl B5 (by omega)
 have P6:Pf h (g5++[.lst (gp.map .str)]):=P5.app _
 have A6:=b7 (g:=[.lst (gp.map .str)]) A5
 have X6:Pf g5 (g5++[.lst (gp.map .str)]):=(Pf.refl _).app _
 have G6:(g5++[Cell.lst (gp.map .str)])[g5.length]? =some (.lst (gp.map .str)):=b8
 generalize he:g5.length=e at y2 G6;generalize hg6:g5++[Cell.lst (gp.map .str)]=g6 at P6 A6 X6 G6 y2;obtain⟨ms,m1,m2,m3⟩:=a9I (ct:=ct) (k:=k) (c:=c0) (h:=g6) f202 f205 f206 s1 A6
 have P7:Pf h (g6++[.lst (ms.map mkD)]):=P6.app _
 have A7:=b7 (g:=[.lst (ms.map mkD)]) A6
 have X7:Pf g6 (g6++[.lst (ms.map mkD)]):=(Pf.refl _).app _
 have M7:(g6++[Cell.lst (ms.map mkD)])[g6.length]? =some (.lst (ms.map mkD)):=b8
 generalize hb:g6.length=b at m3 M7;generalize hg7:g6++[Cell.lst (ms.map mkD)]=g7 at P7 A7 X7 M7 m3;obtain⟨ps,p1,p2,p3,p4⟩:=a7P (ct:=ct) (k:=k) (c:=c0) (h:=g7) f202 f205 f207 s1 A7
 have P8:Pf h (g7++[.lst (ps.map ptD)]):=P7.app _
 have X8:Pf g7 (g7++[.lst (ps.map ptD)]):=(Pf.refl _).app _
 have N8:(g7++[Cell.lst (ps.map ptD)])[g7.length]? =some (.lst (ps.map ptD)):=b8
 generalize hc:g7.length=c at p4 N8;generalize hg8:g7++[Cell.lst (ps.map ptD)]=g8 at P8 X8 N8 p4;have X58:=(X6.trans X7).trans X8;refine⟨⟨sh,ms,ps,ls,gp,cs,fe⟩,g8,h.length,b,c,d,e,f,i,j,⟨s1,m1,m2,p1,p2,p3,l1,l2,l3,y1,k1,k2,k3,f1,f2,l0⟩,P8,⟨X58.at A5,X8.at M7,N8,X58.at B5,(X7.trans X8).at G6,X58.at C5,X58.at D5,X58.at E5⟩,?_⟩
 rw[m8 hF rfl];simp only[E4];rw[gc0]
 show K8 (exs ct (b6 ct F (k+2)) (.cons (.set 2 (.call 201 (.cons (.v 0) (.cons (.k (.int (0))) .nil)))) (.cons (.set 3 (.call 204 (.cons (.v 2) .nil))) hB2)) [some (.ref n),some (.int (m:Int)),none,none,none,none,none,none,none,none,none,none] h)=_
 rw[st1];unfold hB2;rw[seq (env':=[some (.ref n),some (.int (m:Int)),some (.int c0),some (.ref h.length),some (.ref d),none,none,none,none,none,none,none]) (h':=g2) (by simp_arith[show b6 ct F (k+2) 201 [.ref n,.int 1] g1=.ok (.int c1) g1 from hc1,l4])]
 rw[seq (env':=[some (.ref n),some (.int (m:Int)),some (.int c0),some (.ref h.length),some (.ref d),some (.ref f),none,none,none,none,none,none]) (h':=g3) (by simp_arith[show b6 ct F (k+2) 201 [.ref n,.int 2] g2=.ok (.int c2) g2 from hc2,k4])]
 rw[seq (env':=[some (.ref n),some (.int (m:Int)),some (.int c0),some (.ref h.length),some (.ref d),some (.ref f),some (.int (M:Int)),none,none,none,none,none]) (h':=g3) (by simp_arith[show b6 ct F (k+2) 201 [.ref n,.int 2] g3=.ok (.int c2') g3 from hc2',hM])]
 unfold hB3;rw[seq (env':=[some (.ref n),some (.int (m:Int)),some (.int c0),some (.ref h.length),some (.ref d),some (.ref f),some (.int (M:Int)),some (.ref i),none,none,none,none]) (h':=g4) (by simp_arith[f3])]
 rw[seq (env':=[some (.ref n),some (.int (m:Int)),some (.int c0),some (.ref h.length),some (.ref d),some (.ref f),some (.int (M:Int)),some (.ref i),some (.ref j),none,none,none]) (h':=g5) (by simp_arith[show b6 ct F (k+2) 201 [.ref n,.int 3] g4=.ok (.int c3) g4 from hc3,r4])]
 unfold hB4;rw[seq (env':=[some (.ref n),some (.int (m:Int)),some (.int c0),some (.ref h.length),some (.ref d),some (.ref f),some (.int (M:Int)),some (.ref i),some (.ref j),some (.ref e),none,none]) (h':=g6) (by simp_arith[y2])]
 rw[seq (env':=[some (.ref n),some (.int (m:Int)),some (.int c0),some (.ref h.length),some (.ref d),some (.ref f),some (.int (M:Int)),some (.ref i),some (.ref j),some (.ref e),some (.ref b),none]) (h':=g7) (by simp_arith[m3])]
 rw[seq (env':=[some (.ref n),some (.int (m:Int)),some (.int c0),some (.ref h.length),some (.ref d),some (.ref f),some (.int (M:Int)),some (.ref i),some (.ref j),some (.ref e),some (.ref b),some (.ref c)]) (h':=g8) (by simp_arith[p4])]
 have s8:(8<=SL)=True:=eq_true (by decide)
 simp_arith[s8]
end
noncomputable def num(i:Int):Str:=Str.ofString (toString i)
def ln(ws:List Str):Str:=Txt.join " " ws
theorem a5B(ws:List Str):cd (ln ws)=jn 32 (ws.map cd):=by
 show cd (Builtin.Str.glued " " _)=_
 rw[StrLaws.glued_eq_join];exact a1O 32 ws
theorem a3i(h:cd x=jn 32 (ws.map cd)):x=ln ws:=a0B (h.trans (a5B ws).symm)
def Q0(p:Str×Nat):List Str:=["shape",p.1,num p.2]
def J6(p:Int×Int):List Str:=[num p.1,num p.2]
def S8(m:Mk):List Str:=["mark",m.n,m.s,num m.a.1,num m.a.2,num m.b.1,num m.b.2]
def W1(p:Pt):List Str:=["point",p.n,p.s,num p.a.1,num p.a.2]
noncomputable def K4(l:Lt):List Str:="letter"::l.n::l.j::l.w::l.fs
def a4L(n:Str):List Str:=["gap",n]
noncomputable def Q6(c:Cs):List Str:="class"::c.n::c.fs
noncomputable def a7T(b:Bool):Str:=if b then "on" else "off"
def a1o(p:Str×Bool):List Str:=["feature",p.1,a7T p.2]
def J7(H:HL):List (List Str):=H.sh.map Q0++H.mr.map S8++H.pt.map W1++H.ls.map K4++H.gp.map a4L++H.cs.map Q6++H.fe.map a1o
theorem a1K{i:Int}(h: -99999<=i/\i<=99999):(num i).length<=7:=by
 unfold num;rw[ofString_length];exact int_text_length_le10 (a:=i) (k:=6) (by decide) (by omega)
theorem a5P{i:Int}(hi: -99999<=i/\i<=99999):biD .str h [.int i]=.ok (.str (num i)) h:=by
 simp only[biD];rw[ay]
 · rfl
 · by_cases h0:i.natAbs=0
   · rw[h0];decide
   · exact(Nat.log2_lt h0).mpr (aC (show i.natAbs<2^17 by omega) (Nat.pow_le_pow_right (by decide) (by decide)))
theorem D0:(Str.ofString " ").length=1:=rfl
theorem a3F(h:∀w∈ws,w.length<=b):(ws.map (·.length)).sum<=ws.length*b:=by
 induction ws with
 |nil=>simp
 |cons x r ih=>
  rw[map_cons,List.sum_cons,length_cons]
  have:=ih fun w hw=>h w (.tail _ hw)
  have:=h x (.head _)
  rw[Nat.add_mul];omega
theorem a9P(h:∀w∈ws,w.length<=b):(ln ws).length<=ws.length*(b+1):=by
 show(Builtin.Str.glued " " ws).length<=_
 rw[StrLaws.glued_eq_join];refine aO (StrLaws.join_length_le _ _) ?_
 have:=a3F h
 rw[D0,Nat.mul_add];omega
theorem b7u(h:∀w∈ws,w.length<=20)(hl:ws.length<=100):JoinOk " " ws=true:=by
 have:=a3F h
 exact a4d (by rw[D0];omega)
variable{ys:List Str}{p:Pat}{nb:Nat}
section
variable{ct:CT}{F:Nat->Option Fn}
theorem a2c{k:Nat}{p:Int×Int}(hF:F 213=some y8)(hp:Y9 p):b6 ct F (k+1) 213 [spD p] h=.ok (.str (ln (J6 p))) h:=by
 rw[m8 hF rfl];simp only[y8]
 have i0:ixD h (spD p) (.int 0)=.ok (.int p.1) h:=ix_tup (i:=0) rfl
 have i1:ixD h (spD p) (.int 1)=.ok (.int p.2) h:=ix_tup (i:=1) rfl
 have l1:=a1K hp.1;have l2:=a1K hp.2;simp_arith[i0,i1,a5P hp.1,a5P hp.2,op2,o5 (h:=h) (x:=num p.1) (y:=" ") (by rw[D0];omega),o5 (h:=h) (x:=num p.1++(" ":Str)) (y:=num p.2) (by rw[k7,D0];omega)]
 rw[show(num p.1++(" ":Str))++num p.2=ln (J6 p) from a3i (by rw[J2,J2,show cd (Str.ofString " ")=[32] from rfl];show cd (num p.1)++[32]++cd (num p.2)=cd (num p.1)++32::cd (num p.2);simp)]
 exact D2 rfl
theorem a4D{a:Nat}{ys:List D}(h1:g[a]? =some (.lst xs))(h2:g[b]? =some (.lst ys))(hl:xs.length+ys.length<=100000):O2 g (.ref a) (.ref b)=.ok (.ref g.length) (g++[.lst (xs++ys)]):=b3r h1 h2 hl
theorem a9Q:biD .list h [.tup xs]=.ok (.ref h.length) (h++[.lst xs]):=rfl
theorem b2A(h1:g[n]? =some (.lst (ts.map .str)))(jo:JoinOk sep ts=true):mtD .join g (.str sep) [.ref n]=.ok (.str (Txt.join sep ts)) g:=by
 have:rdL g n=some (ts.map .str):=by unfold rdL;rw[h1]
 simp only[mtD,this,a0Y];rw[ay jo]
theorem a5x{a:E}{fr:List Nat}{l:List α}(rp:α->D)(f:α->Str)(envf:α->u7)(ha:ev ct c a env h=.ok (.ref s) h)(hs:h[s]? =some (.lst (l.map rp)))(hl:l.length<=1000)
 (hx:∀x∈l,J3 p (rp x) (C2 nb fr env)=some (envf x)/\∀h,∃t,ev ct c e (envf x) h=.ok (.str (f x)) (h++t)):∃t,ev ct c (.comp p (.seq a) nb fr .yes e) env h=.ok (.ref (h++t).length) (h++t++[.lst ((l.map f).map .str)]):=by
 have key:∀(l':List α) (acc:List D) (h':AH),(∀t,gOk [(s,.lst (l.map rp))] (h'++t)=true)->(∀x∈l',J3 p (rp x) (C2 nb fr env)=some (envf x)/\∀h,∃t,ev ct c e (envf x) h=.ok (.str (f x)) (h++t))->acc.length+l'.length<=SL->∃t,P9 [(s,.lst (l.map rp))] p (tst ct c .yes) (ev ct c e) (C2 nb fr env) (l'.map rp) acc h'=.ok (acc++(l'.map f).map .str) (h'++t):=by
  intro l'
  induction l' with
  |nil=>
   intro acc h' g1 _ _;have g0:=g1 [];rw[aV] at g0;exact⟨[],by rw[map_nil,P9,ay g0];simp⟩
  |cons x r ih=>
   intro acc h' g1 hx' hl';have g0:=g1 [];rw[aV] at g0;obtain⟨b1,b2⟩:=hx' x (.head _);obtain⟨t,b2⟩:=b2 h';rw[length_cons] at hl';obtain⟨u,ih⟩:=ih (acc++[.str (f x)]) (h'++t) (fun u=>by rw[aA];exact g1 _) (fun y hy=>hx' y (.tail _ hy)) (by rw[aq];simp;omega)
   refine⟨t++u,?_⟩
   rw[map_cons,P9,ay g0,b1]
   simp only
   rw[a6z,d9,ay rfl,b2,d9,ay (by omega),ih]
   simp
 obtain⟨t,kt⟩:=key l [] h (fun t=>by simp[gOk,b7 (g:=t) hs]) hx (by show 0+_<=16777216;omega)
 refine⟨t,?_⟩
 rw[a4r (x:=(l.map rp,[(s,.lst (l.map rp))])) (h1:=h) (h2:=h++t) (ds:=(l.map f).map .str) (by rw[a4p,ha,d9];simp only[V9,hs]) (by rw[kt,nil_append])]
end
section
variable{ct:CT}{F:Nat->Option Fn}
def EvL(ct:CT)(c:CF)(e:E)(env:u7)(h:AH)(xs:List Str):Prop:=∃n t,ev ct c e env h=.ok (.ref n) (h++t)/\(h++t)[n]? =some (.lst (xs.map .str))/\(h.length<=n∨t=[])
theorem a7l{a b:E}{xs:List Str}(A:EvL ct c a env h xs)(B:∀t,EvL ct c b env (h++t) ys)(hl:xs.length+ys.length<=100000):EvL ct c (.bin .add a b) env h (xs++ys):=by
 obtain⟨n,t,a1,a2,_⟩:=A;obtain⟨m,u,b1,b2,_⟩:=B t;refine⟨(h++t++u).length,t++u++[.lst ((xs++ys).map .str)],?_,?_,.inl (by simp[aq,Nat.add_assoc])⟩
 · simp_arith[a1,b1,op2,a4D (b7 (g:=u) a2) b2 (by rw[aa,aa];exact hl)]
   simp
 · rw[show h++(t++u++[Cell.lst ((xs++ys).map .str)])=h++t++u++[.lst ((xs++ys).map .str)] by simp]
   exact b8
theorem a7k{es:Es}{xs:List Str}(e:evs ct c es env h=.ok (xs.map .str) h)(hl:xs.length<=1000):EvL ct c (.lst es) env h xs:=by
 refine⟨h.length,[.lst (xs.map .str)],?_,b8,.inl (aj _)⟩
 rw[b0E,e,d9,ay (by rw[aa];show _<=16777216;omega)]
 rfl
theorem a5o{a:E}{xs:List Str}(e:ev ct c a env h=.ok (.tup (xs.map .str)) h):EvL ct c (.bi .list (.cons a .nil)) env h xs:=by
 refine⟨h.length,[.lst (xs.map .str)],?_,b8,.inl (aj _)⟩
 simp_arith[e,a9Q]
theorem a5p{xs:List Str}(A:EvL ct c e env h xs)(jo:JoinOk sep xs=true):∃t,ev ct c (.mt .join (.k (.str sep)) (.cons e .nil)) env h=.ok (.str (Txt.join sep xs)) (h++t):=by
 obtain⟨n,t,a1,a2,_⟩:=A;refine⟨t,?_⟩
 simp_arith[mtT,a1,b2A a2 jo]
end
theorem a0A(n:Nat):cd (num (n:Int))=(Nat.toDigits 10 n).map Char.toNat:=W.KIN.signs_num n
theorem b0d(n:Nat):n≠0->((Nat.toDigits 10 n).map Char.toNat).head?≠some 48:=by
 induction n using Nat.strongRecOn with
 |_ n ih=>
  intro h0
  by_cases h:n<10
  · rw[Nat.toDigits_of_lt_base h,map_cons,List.head?_cons,Nat.toNat_digitChar_of_lt_ten h]
    intro e
    have:=ax e
    omega
  · rw[Nat.toDigits_of_base_le (by decide) (by omega),ao]
    have hn:=ih (n/10) (by omega) (by omega)
    cases hd:Nat.toDigits 10 (n/10) with
    |nil=>exact absurd hd Nat.toDigits_ne_nil
    |cons a r=>rw[hd] at hn;exact hn
theorem a4j(n:Nat):(cd (num (n:Int))).all O4=true:=by
 rw[a0A];refine bg.mpr fun c hc=>?_
 obtain⟨d,hd,rfl⟩:=am.mp hc
 have:=Nat.isDigit_of_mem_toDigits (by decide) (by decide) hd
 rw[a4k];unfold Char.isDigit at this;simp only[ae,bp] at this;exact⟨this.1,this.2⟩
theorem a2f(h:n<=99999):T5 (num (n:Int))=some (n:Int):=by
 have l5:(num (n:Int)).length<=5:=by
  rw[←o8,a0A,aa];exact(Nat.length_toDigits_le_iff (by decide) (by decide)).mpr (by omega)
 have l1:(num (n:Int)).length≠0:=by
  rw[←o8,a0A,aa];exact fun e=>Nat.toDigits_ne_nil (length_eq_zero_iff.mp e)
 unfold T5;rw[ay (a4j n),az,a0A,W.KIN.val_back];rintro(e|e|⟨e1,e2⟩)
 · exact l1 ((a8a _).mp e)
 · omega
 · rw[a0A] at e1
   by_cases h0:n=0
   · rw[h0] at e2;exact absurd e2 (by decide)
   · exact b0d n h0 e1
theorem a4w(m:Nat):cd (num (Int.negSucc m))=45::cd (num ((m+1:Nat):Int)):=by
 rw[a0A]
 show(Str.ofString ("-"++Nat.repr (m+1))).cps.toList=_
 rw[Str.ofString_eq_toList];simp[Nat.toList_repr]
theorem F0{i:Int}(h: -99999<=i/\i<=99999):a0g (num i)=some i:=by
 unfold a0g
 cases i with
 |ofNat n=>
  have h2:(n:Int)<=99999:=h.2
  rw[az]
  · exact a2f (by omega)
  · intro e
    cases hc:cd (num (Int.ofNat n)) with
    |nil=>rw[hc] at e;cases e
    |cons c r=>
     rw[hc] at e;have e:=ax e
     have:=a4j n
     rw[show cd (num (n:Int))=c::r from hc,all_cons,e] at this;rw[show O4 45=false from by decide+kernel] at this
     exact Bool.noConfusion this
 |negSucc m=>
  have h1:=h.1;rw[Int.negSucc_eq] at h1
  have t:tl (num (Int.negSucc m))=num ((m+1:Nat):Int):=a0B (by rw[a7v,a4w];rfl)
  rw[ay (by rw[a4w];rfl),t,a2f (by omega)]
  simp only
  rw[az (by omega)]
  congr 1
structure WOk(w:Str):Prop where
 l:w.length<=20
 p:w.length≠0
 c:∀c∈cd w,c≠32/\c≠10
theorem WOk.num{i:Int}(h: -99999<=i/\i<=99999):WOk (num i):=by
 have fg:∀n:Nat,∀c∈cd (EV.num (n:Int)),c≠32/\c≠10:=fun n c hc=>by
  have:=(a4k c).mp (bg.mp (a4j n) c hc)
  omega
 refine⟨by have:=a1K h;omega,?_,?_⟩
 · rw[←o8]
   cases i with
   |ofNat n=>
    show(cd (EV.num (n:Int))).length≠0
    rw[a0A,aa];exact fun e=>Nat.toDigits_ne_nil (length_eq_zero_iff.mp e)
   |negSucc m=>rw[a4w];exact Nat.succ_ne_zero _
 · cases i with
   |ofNat n=>exact fg n
   |negSucc m=>
    rw[a4w];intro c hc
    rcases aE.mp hc with rfl|hc
    · decide
    · exact fg _ c hc
theorem b1G{c:Nat}(h:N5 c=true):c≠32/\c≠10:=by
 unfold N5 at h;have h:=aw h
 have:∀c∈cd a0F,c≠32/\c≠10:=by decide+kernel
 exact this c h
theorem WOk.name{w:Str}(h:i9 w=true):WOk w:=by
 unfold i9 at h;simp only[ae,bp] at h;exact⟨by omega,by omega,fun c hc=>b1G (bg.mp h.2 c hc)⟩
structure Row(ws:List Str):Prop where
 n:ws≠[]
 l:ws.length<=40
 w:∀w∈ws,WOk w
instance (w:Str):Decidable (w.length<=20/\w.length≠0/\∀c∈cd w,c≠32/\c≠10):=inferInstance
theorem WOk.k{w:Str}(h:w.length<=20/\w.length≠0/\∀c∈cd w,c≠32/\c≠10):WOk w:=⟨h.1,h.2.1,h.2.2⟩
theorem Row.nil:∀w∈([]:List Str),WOk w:=fun _ h=>nomatch h
theorem l7{a:Str}{r:List Str}(h:WOk a)(hr:∀w∈r,WOk w):∀w∈a::r,WOk w:=fun w hw=>by
 rcases aE.mp hw with rfl|hw
 · exact h
 · exact hr w hw
section
variable{H:HL}(K:HLok H)
include K
theorem U4{n:Str}(h:n∈H.sh.map (·.1)):i9 n=true:=by
 obtain⟨p,hp,rfl⟩:=am.mp h;exact(K.sh.ok p hp).1
theorem a6C{s:Str}(h:a0d s):WOk s:=by
 rcases h with rfl|rfl<;>exact WOk.k (by decide+kernel)
theorem a3X{m:Mk}(h:m∈H.mr):m.n∈H.sh.map (·.1):=K.mr.subset (am.mpr ⟨m,h,rfl⟩)
theorem a4l(h:f∈H.fe.map (·.1)):i9 f=true:=K.fen.ok f h
theorem a3a{p:Str×Nat}(h:p∈H.sh):Row (Q0 p):=by
 have k:=K.sh.ok p h;exact⟨cons_ne_nil _ _,Nat.le_of_ble_eq_true rfl,l7 (WOk.k (by decide+kernel)) (l7 (WOk.name k.1) (l7 (WOk.num (by have:=k.2;omega)) Row.nil))⟩
theorem a4W{m:Mk}(h:m∈H.mr):Row (S8 m):=by
 obtain⟨k1,k2,k3⟩:=K.mko m h;exact⟨cons_ne_nil _ _,Nat.le_of_ble_eq_true rfl,l7 (WOk.k (by decide+kernel)) (l7 (WOk.name (U4 K (a3X K h))) (l7 (a6C K k1) (l7 (WOk.num k2.1) (l7 (WOk.num k2.2) (l7 (WOk.num k3.1) (l7 (WOk.num k3.2) Row.nil))))))⟩
theorem a3b{p:Pt}(h:p∈H.pt):Row (W1 p):=by
 obtain⟨k1,k2,k3⟩:=K.pto p h;exact⟨cons_ne_nil _ _,Nat.le_of_ble_eq_true rfl,l7 (WOk.k (by decide+kernel)) (l7 (WOk.name (U4 K k1)) (l7 (a6C K k2) (l7 (WOk.num k3.1) (l7 (WOk.num k3.2) Row.nil))))⟩
theorem a0o{l:Lt}(h:l∈H.ls):Row (K4 l):=by
 have k:=K.lso l h;have kl:=k.few;refine⟨cons_ne_nil _ _,by unfold K4;simp only[length_cons];omega,l7 (WOk.k (by decide+kernel)) (l7 (WOk.name k.nm) (l7 ?_ (l7 ?_ fun w hw=>WOk.name (U4 K (k.fs w hw)))))⟩
 · rcases k.js with e|e|e|e<;>rw[e]<;>exact WOk.k (by decide+kernel)
 · rcases k.ws with e|e|e<;>rw[e]<;>exact WOk.k (by decide+kernel)
theorem a4h{n:Str}(h:n∈H.gp):i9 n=true:=by
 obtain⟨l,hl,rfl⟩:=am.mp (K.gp.subset h);exact(K.lso l hl).nm
theorem a6H{n:Str}(h:n∈H.gp):Row (a4L n):=⟨cons_ne_nil _ _,Nat.le_of_ble_eq_true rfl,l7 (WOk.k (by decide+kernel)) (l7 (WOk.name (a4h K h)) Row.nil)⟩
theorem a1b{c:Cs}(h:c∈H.cs):Row (Q6 c):=by
 have k:=K.cso c h;have kl:=k.few;exact⟨cons_ne_nil _ _,by unfold Q6;simp only[length_cons];omega,l7 (WOk.k (by decide+kernel)) (l7 (WOk.name k.nm) fun w hw=>WOk.name (U4 K (k.fs w hw)))⟩
theorem a4X{p:Str×Bool}(h:p∈H.fe):Row (a1o p):=by
 refine⟨cons_ne_nil _ _,Nat.le_of_ble_eq_true rfl,l7 (WOk.k (by decide+kernel)) (l7 (WOk.name (a4l K (am.mpr ⟨p,h,rfl⟩))) (l7 ?_ Row.nil))⟩
 cases p.2<;>exact WOk.k (by decide+kernel)
theorem a6E:∀ws∈J7 H,Row ws:=fun ws h=>by
 unfold J7 at h;simp only[aJ,am] at h
 rcases h with(((((⟨x,h,rfl⟩|⟨x,h,rfl⟩)|⟨x,h,rfl⟩)|⟨x,h,rfl⟩)|⟨x,h,rfl⟩)|⟨x,h,rfl⟩)|⟨x,h,rfl⟩
 · exact a3a K h
 · exact a4W K h
 · exact a3b K h
 · exact a0o K h
 · exact a6H K h
 · exact a1b K h
 · exact a4X K h
theorem a6B{f:α->β}{l:List α}{s:List β}(h:(l.map f).Sublist s):l.length<=s.length:=by
 have:=h.length_le
 rw[aa] at this;exact this
theorem W5:(J7 H).length<=300/\J7 H≠[]:=by
 have a:=K.sh.hi;have a0:=K.sh.lo;have b:=a6B K K.mr;rw[aa] at b;have c:=K.ptl;have d:=K.ls;have e:=K.gp.length_le;rw[aa] at e;have f:=K.cs;have g:=K.fe
 have l:(J7 H).length=H.sh.length+H.mr.length+H.pt.length+H.ls.length+H.gp.length+H.cs.length+H.fe.length:=by
  unfold J7;simp only[aq,aa]
 exact⟨by omega,fun z=>by rw[z] at l;simp only[length_nil] at l;omega⟩
end
theorem a8T(r:Row ws):K3 (ln ws)=ws:=by
 unfold K3;rw[show Txt.split (ln ws) " "=ws from a1U (c:=32) r.n (fun p hp hc=>((r.w p hp).c 32 hc).1 rfl) (a5B ws)]
 exact List.filter_eq_self.mpr fun w hw=>aX fun e=>(r.w w hw).p ((a8a w).mp e)
theorem a9V{c x:Nat}:∀{ps:List (List Nat)},x∈jn c ps->x=c∨∃p∈ps,x∈p
 |[],h=>nomatch h
 |[p],h=>.inr ⟨p,.head _,h⟩
 |p::q::r,h=>by
  rcases aJ.mp (show x∈p++c::jn c (q::r) from h) with h|h
  · exact .inr ⟨p,.head _,h⟩
  · rcases aE.mp h with h|h
    · exact .inl h
    · rcases a9V h with h|⟨y,hy,h⟩
      · exact .inl h
      · exact .inr ⟨y,.tail _ hy,h⟩
theorem a8S(r:Row ws):10∉cd (ln ws):=fun h=>by
 rw[a5B] at h
 rcases a9V h with h|⟨p,hp,h⟩
 · exact absurd h (by decide)
 · obtain⟨w,hw,rfl⟩:=am.mp hp;exact((r.w w hw).c 10 h).2 rfl
theorem a6G(r:Row ws):(ln ws).length<=840:=by
 have:=a9P (ws:=ws) (b:=20) fun w hw=>(r.w w hw).l
 have l:=r.l
 have:ws.length*21<=40*21:=Nat.mul_le_mul_right 21 l
 omega
def a5k(H:HL):Str:=Txt.join "\n" ((J7 H).map ln)
theorem a7A{H:HL}(K:HLok H):Txt.split (a5k H) "\n"=(J7 H).map ln:=by
 refine a1U (c:=10) (fun e=>(W5 K).2 (List.map_eq_nil_iff.mp e)) (fun p hp=>?_) ?_
 · obtain⟨ws,hw,rfl⟩:=am.mp hp;exact a8S (a6E K ws hw)
 · show cd (Builtin.Str.glued "\n" _)=_
   rw[StrLaws.glued_eq_join];exact a1O 10 _
theorem a4V{H:HL}(K:HLok H):(((J7 H).map ln).map (·.length)).sum<=300*840:=by
 have:=a3F (ws:=(J7 H).map ln) (b:=840) fun w hw=>by
  obtain⟨ws,hq,rfl⟩:=am.mp hw;exact a6G (a6E K ws hq)
 rw[aa] at this;have l:=(W5 K).1;exact aO this (Nat.mul_le_mul_right _ l)
theorem b1n{H:HL}(K:HLok H):(a5k H).length<=1000000:=by
 have:=a4V K
 have l:=(W5 K).1
 show(Builtin.Str.glued "\n" _).length<=_
 rw[StrLaws.glued_eq_join];refine aO (StrLaws.join_length_le _ _) ?_
 rw[aa,show(Str.ofString "\n").length=1 from rfl];omega
theorem b3M{H:HL}(K:HLok H):JoinOk "\n" ((J7 H).map ln)=true:=by
 have:=a4V K
 have l:=(W5 K).1;exact a4d (by rw[aa,show(Str.ofString "\n").length=1 from rfl];omega)
theorem k32:cd (Str.ofString " ")=[32]:=rfl
theorem b1w(n w:Str):(("shape ":Str)++n++(" ":Str))++w=ln ["shape",n,w]:=a3i (by
 simp only[J2,k32,show cd (Str.ofString "shape ")=cd (Str.ofString "shape")++[32] from by decide+kernel,map_cons,map_nil,jn,aA,cons_append,nil_append])
theorem b6C(n:Str):("gap ":Str)++n=ln ["gap",n]:=a3i (by
 simp only[J2,show cd (Str.ofString "gap ")=cd (Str.ofString "gap")++[32] from by decide+kernel,map_cons,map_nil,jn,aA,cons_append,nil_append])
theorem b3S(n w:Str):(("feature ":Str)++n++(" ":Str))++w=ln ["feature",n,w]:=a3i (by
 simp only[J2,k32,show cd (Str.ofString "feature ")=cd (Str.ofString "feature")++[32] from by decide+kernel,map_cons,map_nil,jn,aA,cons_append,nil_append])
theorem b1x(n s a b:Str):((((("point ":Str)++n)++(" ":Str))++s)++(" ":Str))++ln [a,b]=ln ["point",n,s,a,b]:=a3i (by
 simp only[J2,k32,a5B,show cd (Str.ofString "point ")=cd (Str.ofString "point")++[32] from by decide+kernel,map_cons,map_nil,jn,aA,cons_append,nil_append])
theorem b3R(n s a b c d:Str):((((("mark ":Str)++n)++(" ":Str))++s)++(" ":Str))++((ln [a,b]++(" ":Str))++ln [c,d])=ln ["mark",n,s,a,b,c,d]:=a3i (by
 simp only[J2,k32,a5B,show cd (Str.ofString "mark ")=cd (Str.ofString "mark")++[32] from by decide+kernel,map_cons,map_nil,jn,aA,cons_append,nil_append])
def TS(T:D)(h0:AH)(env:u7)(h:AH)(xs:List Str):Prop:=∃n e1 e3 e4 e5 e6 e7 e8 e9,env=[some T,e1,some (.ref n),e3,e4,e5,e6,e7,e8,e9]/\Pf h0 h/\h0.length<=n/\h[n]? =some (.lst (xs.map .str))
section
variable{ct:CT}{F:Nat->Option Fn}
theorem Y1{a:E}{fr:List Nat}{l:List α}(rp:α->D)(f:α->Str)(envf:α->u7)(ha:ev ct c a env h=.ok (.ref s) h)(hs:h[s]? =some (.lst (l.map rp)))(hl:l.length<=1000)
 (hx:∀x∈l,J3 p (rp x) (C2 nb fr env)=some (envf x)/\∀h,∃t,ev ct c e (envf x) h=.ok (.str (f x)) (h++t)):EvL ct c (.comp p (.seq a) nb fr .yes e) env h (l.map f):=by
 obtain⟨t,e⟩:=a5x rp f envf ha hs hl hx;exact⟨(h++t).length,t++[.lst ((l.map f).map .str)],by rw[e,aA],by rw[←aA];exact b8,.inl (by simp)⟩
theorem b0C{b:E}{xs:List Str}(e:env[i]? =some (some (.ref n)))(hn:h[n]? =some (.lst (xs.map .str)))(B:EvL ct c b env h ys)(hl:xs.length+ys.length<=1000):EvL ct c (.bin .add (.v i) b) env h (xs++ys):=by
 obtain⟨m,u,b1,b2,_⟩:=B;refine⟨(h++u).length,u++[.lst (xs.map .str++ys.map .str)],?_,by rw[←aA,b8,ao],.inl (by simp)⟩
 simp_arith[e,b1,op2,a4D (b7 (g:=u) hn) b2 (by rw[aa,aa];omega)]
 simp
theorem TS.pf{T:D}{xs:List Str}(S:TS T h0 env h xs):Pf h0 h:=by
 obtain⟨n,e1,e3,e4,e5,e6,e7,e8,e9,rfl,p,_⟩:=S;exact p
theorem a1Q{T:D}{Tl:List D}{xs:List Str}(S:TS T h0 env h xs)(hT:T=.tup Tl)(hi:Tl[i]? =some (.ref s)):ev ct c (.ix (.v 0) (.k (.int (i:Int)))) env h=.ok (.ref s) h:=by
 obtain⟨n,e1,e3,e4,e5,e6,e7,e8,e9,rfl,_⟩:=S;subst hT;simp_arith[ix_tup (h:=h) hi]
theorem a3D{T:D}{xs:List Str}{C:E}(S:TS T h0 env h xs)(hC:EvL ct c C env h ys)(hl:xs.length+ys.length<=1000):∃env' h',ex ct c (.set 2 (.bin .add (.v 2) C)) env h=.ok (.nx env') h'/\TS T h0 env' h' (xs++ys):=by
 obtain⟨n,e1,e3,e4,e5,e6,e7,e8,e9,rfl,p,l,g⟩:=S;obtain⟨m,u,c1,c2,_⟩:=hC;refine⟨[some T,e1,some (.ref (h++u).length),e3,e4,e5,e6,e7,e8,e9],h++u++[.lst (xs.map .str++ys.map .str)],?_,_,e1,e3,e4,e5,e6,e7,e8,e9,rfl,(p.app _).app _,by have:=p.len;rw[aq];omega,by rw[ao];exact b8⟩
 simp_arith[c1,op2,a4D (b7 (g:=u) g) c2 (by rw[aa,aa];omega)]
theorem a8B{T:D}{xs:List Str}{a:E}{body:Ss}{l:List α}(rp:α->D)(f:α->Str)(S:TS T h0 env h xs)(ha:ev ct c a env h=.ok (.ref s) h)(hs:h0[s]? =some (.lst (l.map rp)))
 (hb:∀x∈l,∀env h xs,TS T h0 env h xs->xs.length<=1000->∃env1 env' h',J3 p (rp x) env=some env1/\exs ct c body env1 h=.ok (.nx env') h'/\TS T h0 env' h' (xs++[f x])) (hl:xs.length+l.length<=1000):∃env' h',ex ct c (.for p (.seq a) body) env h=.ok (.nx env') h'/\TS T h0 env' h' (xs++l.map f):=by
 have S0:=S;obtain⟨n,e1,e3,e4,e5,e6,e7,e8,e9,rfl,pf,_⟩:=S
 obtain⟨env',h',q1,q2⟩:=E8 (g:=[(s,.lst (l.map rp))]) (p:=p) (body:=exs ct c body) (fun j env h=>TS T h0 env h (xs++(l.take j).map f)) (fun j env h S=>by
  obtain⟨n,e1,e3,e4,e5,e6,e7,e8,e9,rfl,pf,_⟩:=S;simp[gOk,pf.at hs]) (l.map rp) 0 _ h (fun j x env h hx hP=>by
  have hj:j<l.length:=by simpa using(ac.mp hx).1
  rw[ak,af hj] at hx
  obtain rfl:rp l[j]=x:=ax hx;rw[aB] at hP⊢;obtain⟨env1,env',h',b1,b2,b3⟩:=hb l[j] (bj hj) env h _ hP (by rw[aq,aa,aK];omega)
  refine⟨env1,env',h',b1,b2,?_⟩
  rw[List.take_add_one,af hj,ao,←aA]
  exact b3) (by rw[List.take_zero,map_nil,aV];exact S0)
 refine⟨env',h',?_,?_⟩
 · rw[b0z,a4p,ha,d9];simp only[V9,pf.at hs];rw[d9];exact q1
 · rw[aa,aB,aZ] at q2;exact q2
theorem a8C{T:D}{xs:List Str}{t:AH}(S:TS T h0 env h xs)(he:ev ct c e env h=.ok (.str z) (h++t))(hl:xs.length<=1000):∃h',ex ct c (.ex (.mt .append (.v 2) (.cons e .nil))) env h=.ok (.nx env) h'/\TS T h0 env h' (xs++[z]):=by
 obtain⟨n,e1,e3,e4,e5,e6,e7,e8,e9,rfl,p,l,g⟩:=S;refine⟨(h++t).set n (.lst (xs.map .str++[.str z])),?_,n,e1,e3,e4,e5,e6,e7,e8,e9,rfl,(p.app _).set l,l,by rw[B6 (b7 g),ao];rfl⟩
 simp_arith[G7 g,he,S7 (b7 (g:=t) g) (by rw[aa];omega)]
theorem a7m(A:EvL ct c e env h ws)(r:Row ws):∃t,ev ct c (.mt .join (.k (.str " ")) (.cons e .nil)) env h=.ok (.str (ln ws)) (h++t):=a5p A (b7u (fun w hw=>(r.w w hw).l) (by have:=r.l;omega))
theorem a2i:(Str.ofString "shape ").length=6:=rfl
theorem a0L:(Str.ofString "mark ").length=5:=rfl
theorem W6:(Str.ofString "point ").length=6:=rfl
theorem b4P:(Str.ofString "gap ").length=4:=rfl
theorem a3W:(Str.ofString "feature ").length=8:=rfl
theorem a2d{p:Int×Int}(hp:Y9 p):(ln (J6 p)).length<=42:=a9P (ws:=J6 p) (b:=20) (l7 (WOk.num hp.1) (l7 (WOk.num hp.2) Row.nil) · · |>.l)
variable{H:HL}(K:HLok H)
include K
theorem b2Y{p:Str×Nat}(hp:p∈H.sh):ev ct c b2D [some (.str p.1),some (.int (p.2:Int))] h=.ok (.str (ln (Q0 p))) h:=by
 have k:=K.sh.ok p hp;have l1:=W8 k.1;have l2:=a1K (i:=(p.2:Int)) (by have:=k.2;omega)
 unfold b2D;simp_arith[op2,o5 (h:=h) (x:="shape ") (y:=p.1) (by rw[a2i];omega),o5 (h:=h) (x:=("shape ":Str)++p.1) (y:=" ") (by rw[k7,a2i,D0];omega),a5P (i:=(p.2:Int)) (h:=h) (by have:=k.2;omega),o5 (h:=h) (x:=("shape ":Str)++p.1++(" ":Str)) (y:=num p.2) (by rw[k7,k7,a2i,D0];omega),b1w]
 rfl
theorem b8b{n:Str}(hn:n∈H.gp):ev ct c (.bin .add (.k (.str "gap ")) (.v 0)) [some (.str n)] h=.ok (.str (ln (a4L n))) h:=by
 have l1:=W8 (a4h K hn);simp_arith[op2,o5 (h:=h) (x:="gap ") (y:=n) (by rw[b4P];omega),b6C]
 rfl
theorem b5J{p:Str×Bool}(hp:p∈H.fe):∃t,ev ct c b5m [some (.str p.1),some (.bl p.2)] h=.ok (.str (ln (a1o p))) (h++t):=by
 have l1:=W8 (a4l K (am.mpr ⟨p,hp,rfl⟩))
 have lo:(a7T p.2).length<=20:=by cases p.2<;>decide
 have ib:biD .int (h++[.lst [.str "off",.str "on"]]) [.bl p.2]=.ok (.int ((if p.2 then 1 else 0:Nat):Int)) (h++[.lst [.str "off",.str "on"]]):=by cases p.2<;>rfl
 have ix:ixD (h++[.lst [.str "off",.str "on"]]) (.ref h.length) (.int ((if p.2 then 1 else 0:Nat):Int))=.ok (.str (a7T p.2)) (h++[.lst [.str "off",.str "on"]]):=D9 b8 (by cases p.2<;>rfl)
 refine⟨[.lst [.str "off",.str "on"]],?_⟩
 unfold b5m;simp_arith[op2,o5 (h:=h) (x:="feature ") (y:=p.1) (by rw[a3W];omega),o5 (h:=h) (x:=("feature ":Str)++p.1) (y:=" ") (by rw[k7,a3W,D0];omega),z5,ib,ix,o5 (h:=h++[.lst [.str "off",.str "on"]]) (x:=("feature ":Str)++p.1++(" ":Str)) (y:=a7T p.2) (by rw[k7,k7,a3W,D0];omega),b3S]
 rfl
theorem b3b{x:Cs}(hx:x∈H.cs):∃t,ev ct c (.mt .join (.k (.str " ")) (.cons b5l .nil)) [some (.str x.n),some (.tup (x.fs.map .str))] h=.ok (.str (ln (Q6 x))) (h++t):=by
 have r:=a1b K hx;have l:=r.l;have A:=a7l (a7k (ct:=ct) (c:=c) (es:=(.cons (.k (.str "class")) (.cons (.v 0) .nil))) (env:=[some (.str x.n),some (.tup (x.fs.map .str))]) (h:=h) (xs:=["class",x.n]) (by simp_arith[]) (by show 2<=1000;decide)) (fun t=>a5o (a:=.v 1) (xs:=x.fs) (by simp_arith[])) (by unfold Q6 at l;simp only[length_cons,length_nil] at l⊢;omega)
 exact a7m (e:=b5l) A r
theorem b0Y{T:D}{xs:List Str}{x:Lt}(hx:x∈H.ls)(S:TS T h0 env h xs)(hl:xs.length<=1000):∃env1 env' h',J3 (htP 1 7 8 9) (ltD x) env=some env1/\exs ct c b2E env1 h=.ok (.nx env') h'/\TS T h0 env' h' (xs++[ln (K4 x)]):=by
 have r:=a0o K hx;have l:=r.l;obtain⟨n,e1,e3,e4,e5,e6,e7,e8,e9,rfl,p,ln',g⟩:=S
 have S1:TS T h0 [some T,some (.str x.n),some (.ref n),e3,e4,e5,e6,some (.str x.j),some (.str x.w),some (.tup (x.fs.map .str))] h xs:=⟨n,_,_,_,_,_,_,_,_,rfl,p,ln',g⟩
 have A:=a7l (a7k (ct:=ct) (c:=c) (es:=(.cons (.k (.str "letter")) (.cons (.v 1) (.cons (.v 7) (.cons (.v 8) .nil))))) (env:=[some T,some (.str x.n),some (.ref n),e3,e4,e5,e6,some (.str x.j),some (.str x.w),some (.tup (x.fs.map .str))]) (h:=h) (xs:=["letter",x.n,x.j,x.w]) (by simp_arith[]) (by show 4<=1000;decide)) (fun t=>a5o (a:=.v 9) (xs:=x.fs) (by simp_arith[])) (by unfold K4 at l;simp only[length_cons,length_nil] at l⊢;omega)
 obtain⟨t,q⟩:=a7m (e:=b7B) A r;obtain⟨h',q1,q2⟩:=a8C S1 q hl;refine⟨_,_,h',rfl,?_,q2⟩
 unfold b2E
 show exs ct c _ [some T,some (.str x.n),some (.ref n),e3,e4,e5,e6,some (.str x.j),some (.str x.w),some (.tup (x.fs.map .str))] h=_
 rw[seq q1,a4m]
variable(f213:F 213=some y8)
include f213
theorem b2Z{k:Nat}{p:Pt}(hp:p∈H.pt):ev ct (b6 ct F (k+1)) b5n [some (.str p.n),some (.str p.s),some (spD p.a)] h=.ok (.str (ln (W1 p))) h:=by
 obtain⟨k1,k2,k3⟩:=K.pto p hp;have l1:=W8 (U4 K k1);have l2:=(a6C K k2).l;have l3:=a2d k3;unfold b5n;simp_arith[op2,a2c (ct:=ct) (k:=k) (h:=h) f213 k3,o5 (h:=h) (x:="point ") (y:=p.n) (by rw[W6];omega),o5 (h:=h) (x:=("point ":Str)++p.n) (y:=" ") (by rw[k7,W6,D0];omega),o5 (h:=h) (x:=("point ":Str)++p.n++(" ":Str)) (y:=p.s) (by rw[k7,k7,W6,D0];omega),o5 (h:=h) (x:=("point ":Str)++p.n++(" ":Str)++p.s) (y:=" ") (by rw[k7,k7,k7,W6,D0];omega),o5 (h:=h) (x:=("point ":Str)++p.n++(" ":Str)++p.s++(" ":Str)) (y:=ln (J6 p.a)) (by rw[k7,k7,k7,k7,W6,D0];omega)]
 unfold J6;rw[b1x];rfl
theorem b5Z{k:Nat}{T:D}{xs:List Str}{x:Mk}(hx:x∈H.mr)(S:TS T h0 env h xs)(hl:xs.length<=1000):∃env1 env' h',J3 (htP 1 3 4 5) (mkD x) env=some env1/\exs ct (b6 ct F (k+1)) b2F env1 h=.ok (.nx env') h'/\TS T h0 env' h' (xs++[ln (S8 x)]):=by
 obtain⟨k1,k2,k3⟩:=K.mko x hx;have l1:=W8 (U4 K (a3X K hx));have l2:=(a6C K k1).l;have l3:=a2d k2;have l4:=a2d k3;obtain⟨n,e1,e3,e4,e5,e6,e7,e8,e9,rfl,p,ln',g⟩:=S
 have S1:TS T h0 [some T,some (.str x.n),some (.ref n),some (.str x.s),some (spD x.a),some (spD x.b),some (.str ((ln (J6 x.a)++(" ":Str))++ln (J6 x.b))),e7,e8,e9] h xs:=⟨n,_,_,_,_,_,_,_,_,rfl,p,ln',g⟩
 have q:ev ct (b6 ct F (k+1)) (.bin .add (.bin .add (.bin .add (.bin .add (.bin .add (.k (.str "mark ")) (.v 1)) (.k (.str " "))) (.v 3)) (.k (.str " "))) (.v 6)) [some T,some (.str x.n),some (.ref n),some (.str x.s),some (spD x.a),some (spD x.b),some (.str ((ln (J6 x.a)++(" ":Str))++ln (J6 x.b))),e7,e8,e9] h=.ok (.str (ln (S8 x))) (h++[]):=by
  rw[aV];simp_arith[op2,o5 (h:=h) (x:="mark ") (y:=x.n) (by rw[a0L];omega),o5 (h:=h) (x:=("mark ":Str)++x.n) (y:=" ") (by rw[k7,a0L,D0];omega),o5 (h:=h) (x:=("mark ":Str)++x.n++(" ":Str)) (y:=x.s) (by rw[k7,k7,a0L,D0];omega),o5 (h:=h) (x:=("mark ":Str)++x.n++(" ":Str)++x.s) (y:=" ") (by rw[k7,k7,k7,a0L,D0];omega),o5 (h:=h) (x:=("mark ":Str)++x.n++(" ":Str)++x.s++(" ":Str)) (y:=ln (J6 x.a)++(" ":Str)++ln (J6 x.b)) (by rw[k7,k7,k7,k7,k7,k7,a0L,D0];omega)]
  unfold J6;rw[b3R];rfl
 obtain⟨h',q1,q2⟩:=a8C S1 q hl;refine⟨_,_,h',rfl,?_,q2⟩
 unfold b2F
 show exs ct (b6 ct F (k+1)) _ [some T,some (.str x.n),some (.ref n),some (.str x.s),some (spD x.a),some (spD x.b),e6,e7,e8,e9] h=_
 rw[seq (env':=[some T,some (.str x.n),some (.ref n),some (.str x.s),some (spD x.a),some (spD x.b),some (.str ((ln (J6 x.a)++(" ":Str))++ln (J6 x.b))),e7,e8,e9]) (h':=h) (by simp_arith[op2,a2c (ct:=ct) (k:=k) (h:=h) f213 k2,a2c (ct:=ct) (k:=k) (h:=h) f213 k3,o5 (h:=h) (x:=ln (J6 x.a)) (y:=" ") (by rw[D0];omega),o5 (h:=h) (x:=ln (J6 x.a)++(" ":Str)) (y:=ln (J6 x.b)) (by rw[k7,D0];omega)]),seq q1,a4m]
theorem b0e{k:Nat}{a c d e f:Nat}(f215:F 215=some B0)(A:HAt H h a b c d e f i j):b6 ct F (k+2) 215 [.tup [.ref a,.ref b,.ref c,.ref d,.ref e,.ref f,.ref i,.ref j]] h=.ok (.str (a5k H)) h:=by
 rw[m8 f215 rfl];simp only[B0];generalize hT:D.tup [.ref a,.ref b,.ref c,.ref d,.ref e,.ref f,.ref i,.ref j]=T
 show gcR 1 h (K8 (exs ct (b6 ct F (k+1)) _ [some T,none,none,none,none,none,none,none,none,none] h))=_
 have rl:=(W5 K).1
 have ll:H.sh.length+H.mr.length+H.pt.length+H.ls.length+H.gp.length+H.cs.length+H.fe.length<=300:=by
  unfold J7 at rl;simp only[aq,aa] at rl;exact rl
 obtain⟨t0,c0⟩:=a5x (ct:=ct) (c:=b6 ct F (k+1)) (p:=(.tp (.cons (.nm 0) (.cons (.nm 1) .nil)))) (a:=(.ix (.v 0) (.k (.int (0))))) (e:=b2D) (nb:=2) (fr:=[]) (env:=[some T,none,none,none,none,none,none,none,none,none]) (h:=h) (l:=H.sh) (s:=a) (fun p=>.tup [.str p.1,.int (p.2:Int)]) (fun p=>ln (Q0 p)) (fun p=>[some (.str p.1),some (.int (p.2:Int))]) (by rw[←hT];simp_arith[a2J]) A.sh (by omega) (fun x hx=>⟨rfl,fun h=>⟨[],by rw[aV];exact b2Y K hx⟩⟩)
 have S0:TS T h [some T,none,some (.ref (h++t0).length),none,none,none,none,none,none,none] (h++t0++[.lst ((H.sh.map fun p=>ln (Q0 p)).map .str)]) (H.sh.map fun p=>ln (Q0 p)):=⟨_,_,_,_,_,_,_,_,_,rfl,((Pf.refl h).app _).app _,by simp,b8⟩
 rw[seq (env':=[some T,none,some (.ref (h++t0).length),none,none,none,none,none,none,none]) (by unfold b7H;rw[Q9,c0,d9];rfl)]
 obtain⟨env1,h1,q1,S1⟩:=a8B (l:=H.mr) (a:=(.ix (.v 0) (.k (.int (1))))) (p:=htP 1 3 4 5) (body:=b2F) (c:=b6 ct F (k+1)) mkD (fun m=>ln (S8 m)) S0 (a1Q (i:=1) S0 hT.symm rfl) A.mr (fun x hx env h xs S hl=>b5Z K f213 hx S hl) (by rw[aa];omega)
 rw[seq q1];obtain⟨env2,h2,q2,S2⟩:=a3D (ct:=ct) (c:=b6 ct F (k+1)) (C:=b7G) S1 (Y1 (a:=(.ix (.v 0) (.k (.int (2))))) (l:=H.pt) ptD (fun p=>ln (W1 p)) (fun p=>[some (.str p.n),some (.str p.s),some (spD p.a)]) (a1Q (i:=2) S1 hT.symm rfl) (S1.pf.at A.pt) (by omega) (fun x hx=>⟨rfl,fun h=>⟨[],by rw[aV];exact b2Z K f213 hx⟩⟩)) (by simp only[aq,aa];omega)
 rw[seq q2];obtain⟨env3,h3,q3,S3⟩:=a8B (l:=H.ls) (a:=(.ix (.v 0) (.k (.int (3))))) (p:=htP 1 7 8 9) (body:=b2E) (c:=b6 ct F (k+1)) ltD (fun m=>ln (K4 m)) S2 (a1Q (i:=3) S2 hT.symm rfl) A.ls (fun x hx env h xs S hl=>b0Y K hx S hl) (by simp only[aq,aa];omega)
 rw[seq q3];obtain⟨env4,h4,q4,S4⟩:=a3D (ct:=ct) (c:=b6 ct F (k+1)) (C:=b7F) S3 (Y1 (a:=(.ix (.v 0) (.k (.int (4))))) (l:=H.gp) .str (fun p=>ln (a4L p)) (fun p=>[some (.str p)]) (a1Q (i:=4) S3 hT.symm rfl) (S3.pf.at A.gp) (by omega) (fun x hx=>⟨rfl,fun h=>⟨[],by rw[aV];exact b8b K hx⟩⟩)) (by simp only[aq,aa];omega)
 rw[seq q4];obtain⟨env5,h5,q5,S5⟩:=a3D (ct:=ct) (c:=b6 ct F (k+1)) (C:=b7E) S4 (Y1 (a:=(.ix (.v 0) (.k (.int (5))))) (l:=H.cs) csD (fun p=>ln (Q6 p)) (fun p=>[some (.str p.n),some (.tup (p.fs.map .str))]) (a1Q (i:=5) S4 hT.symm rfl) (S4.pf.at A.cs) (by omega) (fun x hx=>⟨rfl,fun h=>b3b K hx⟩)) (by simp only[aq,aa];omega)
 rw[seq q5];obtain⟨env6,h6,q6,S6⟩:=a3D (ct:=ct) (c:=b6 ct F (k+1)) (C:=b7D) S5 (Y1 (a:=(.ix (.v 0) (.k (.int (6))))) (l:=H.fe) feD (fun p=>ln (a1o p)) (fun p=>[some (.str p.1),some (.bl p.2)]) (a1Q (i:=6) S5 hT.symm rfl) (S5.pf.at A.fe) (by omega) (fun x hx=>⟨rfl,fun h=>b5J K hx⟩)) (by simp only[aq,aa];omega)
 rw[seq q6];have B:=Y1 (ct:=ct) (c:=b6 ct F (k+1)) (p:=.nm 0) (nb:=1) (fr:=[]) (e:=(.call 214 (.cons (.v 0) .nil))) (a:=(.ix (.v 0) (.k (.int (7))))) (l:=([]:List Str)) .str id (fun _=>[]) (a1Q (i:=7) S6 hT.symm rfl) (S6.pf.at A.ru) (by decide) (fun x hx=>nomatch hx)
 obtain⟨n,e1,e3,e4,e5,e6,e7,e8,e9,rfl,p,l,g⟩:=S6
 have C:EvL ct (b6 ct F (k+1)) (.bin .add (.v 2) b7C) [some T,e1,some (.ref n),e3,e4,e5,e6,e7,e8,e9] h6 ((J7 H).map ln):=by
  have e:(J7 H).map ln=(((((((H.sh.map fun p=>ln (Q0 p))++H.mr.map fun p=>ln (S8 p))++H.pt.map fun p=>ln (W1 p))++H.ls.map fun p=>ln (K4 p))++H.gp.map fun p=>ln (a4L p))++H.cs.map fun p=>ln (Q6 p))++H.fe.map fun p=>ln (a1o p)):=by
   unfold J7;simp only[ao,aG];rfl
  have z:=b0C (i:=2) rfl g B (by simp only[aq,aa,length_nil];omega)
  rw[map_nil,aV] at z;rw[e];exact z
 obtain⟨t,z⟩:=a5p C (b3M K);rw[U0,a6p,z,d9,d9]
 show gcR 1 h (.ok (.str (a5k H)) (h6++t))=_
 exact b7K (p.app t) rfl
end
theorem b3u{s:Str}(h:a0d s):inD (.str s) [.str "above",.str "below"]=true:=by rcases h with rfl|rfl<;>decide
theorem a0y{a b c:Bool}(ha:a=false)(hb:b=true)(hc:c=false):due a b c=none:=by subst ha hb hc;rfl
theorem nin[DecidableEq α]{a:α}{l:List α}(h:a∉l):decide (a∈l)=false:=bq h
theorem a0s(h:i9 z=true):z.length<=100000:=by have:=W8 h;omega
theorem a1g(xs:List Str):(xs.map D.str).all v5=true:=by
 rw[all_map];exact bg.mpr fun _ _=>rfl
theorem a7d(x:Str):∀xs:List Str,inD (.str x) (xs.map .str)=decide (x∈xs)
 |[]=>rfl
 |y::r=>by
  have ih:=a7d x r;unfold inD at ih⊢;rw[map_cons,any_cons,ih]
  show(decide (y=x)||decide (x∈r))=_
  by_cases e:y=x
  · subst e;simp
  · rw[bq e,Bool.false_or];exact decide_eq_decide.mpr ⟨fun z=>.tail _ z,fun z=>(aE.mp z).resolve_left fun q=>e q.symm⟩
variable{r:R D}
section
variable{ct:CT}{F:Nat->Option Fn}(W:PF F)
include W
theorem b1b{k f:Nat}{i6:List D}(hw:h[w]? =some (.lst (.str x::i6)))(hr:b6 ct F k f [.ref n,.ref w] h=r)(hx:(x,f)∈[(("mark":Str),19),("gap",23)]):b6 ct F (k+1) 13 [.ref n,.ref w] h=r:=by
 rw[←hr,m8 W.f13 rfl];simp only[B9];rw[gc0];simp only[aE,not_mem_nil,or_false,Prod.mk.injEq] at hx
 rcases hx with⟨rfl,rfl⟩|⟨rfl,rfl⟩
 · simp_arith[w5 0 0 rfl hw rfl,op2,J8,eqS,decide_true,decide_false];generalize b6 ct F k 19 [.ref n,.ref w] h=r
   cases r<;>simp_arith[]
 · simp_arith[w5 0 0 rfl hw rfl,op2,J8,eqS,decide_true,decide_false];generalize b6 ct F k 23 [.ref n,.ref w] h=r
   cases r<;>simp_arith[]
theorem HallAt.s5{H:HD}(A:HallAt h n H)(l:List Str):HallAt (h.set (n+5) (.lst (l.map .str))) n {H with gaps:=l}:=
 ⟨b9 (by omega) A.o,b9 (by omega) A.c1,b9 (by omega) A.c2,b9 (by omega) A.c3,b9 (by omega) A.c4,B6 A.c5,b9 (by omega) A.c6,b9 (by omega) A.c7,b9 (by omega) A.c8⟩
variable{d:Nat}{H:HD}
theorem b0h{p:Str×Nat}(hn:i9 p.1=true)(hw:p.2<99999)(h1:p.1∉H.shapes.map (·.1))(hl:H.shapes.length<60):Y8 ct F (d+9) H (Q0 p) none {H with shapes:=H.shapes++[(p.1,.int (p.2:Int))]}:=by
 have:=a8G (ct:=ct) (d:=d) (H:=H) W hn (a2f (n:=p.2) (by omega))
 rw[a0y (nin h1) rfl (bq (by omega))] at this
 exact this
theorem b2J{p:Str×Bool}(hn:i9 p.1=true)(h1:p.1∉H.features.map (·.1))(hl:H.features.length<10):Y8 ct F (d+9) H (a1o p) none {H with features:=H.features++[(p.1,.bl p.2)]}:=by
 have:=a5N (ct:=ct) (d:=d) (H:=H) (b:=a7T p.2) W hn (by cases p.2;exact .inr rfl;exact .inl rfl)
 rw[a0y (nin h1) rfl (bq (by omega)),show decide (a7T p.2="on")=p.2 by cases p.2<;>decide+kernel] at this
 exact this
theorem a8h{l:Lt}(o:LtOk sh l)(hs:∀f∈l.fs,i9 f=true/\f∈H.shapes.map (·.1))(h1:l.n∉H.letters.map (·.1))(hl:H.letters.length<24):Y8 ct F (d+9) H (K4 l) none {H with letters:=H.letters++[(l.n,.tup [.str l.j,.str l.w,.tup (l.fs.map .str)])]}:=by
 intro h n w A hw
 have:=a1R (ct:=ct) (k:=d+3) (i6:=l.fs) W A hw o.nm (a0s o.nm) o.jn o.wy (bg.mpr fun f hf=>(hs f hf).1) (fun y hy=>a0s (hs y hy).1) (by have:=o.few;omega)
 rw[a0y (nin h1) (bg.mpr fun f hf=>aX (hs f hf).2) (bq (by omega))] at this
 rw[a7D W hw,this];exact⟨_,rfl,(Fr.app n h _).trans (Fr.set (by omega) (by omega)),(A.app _).s4 _⟩
theorem b0j{c:Cs}(o:CsOk sh c)(hs:∀f∈c.fs,i9 f=true/\f∈H.shapes.map (·.1))(h1:c.n∉H.classes.map (·.1))(hl:H.classes.length<20):Y8 ct F (d+9) H (Q6 c) none {H with classes:=H.classes++[(c.n,.tup (c.fs.map .str))]}:=by
 intro h n w A hw
 have:=a2M (ct:=ct) (k:=d+3) (i6:=c.fs) W A hw o.nm (a0s o.nm) (bg.mpr fun f hf=>(hs f hf).1) (fun y hy=>a0s (hs y hy).1) o.few.1 o.few.2
 rw[a0y (nin h1) (bg.mpr fun f hf=>aX (hs f hf).2) (bq (by omega))] at this
 rw[a8F W hw,this];exact⟨_,rfl,(Fr.app n h _).trans (Fr.set (by omega) (by omega)),(A.app _).s6 _⟩
theorem b0i{p:Pt}(hn:i9 p.n=true)(hs:a0d p.s)(ha:Y9 p.a)(h1:ptK p∉H.points.map (·.1))(h2:p.n∈H.shapes.map (·.1))(hl:H.points.length<=1000):Y8 ct F (d+9) H (W1 p) none {H with points:=H.points++[(ptK p,spD p.a)]}:=by
 intro h n w A hw
 have:=a2L (ct:=ct) (k:=d+2) W A hw hn (a0s hn) (b3u hs) (F0 ha.1) (F0 ha.2) (by omega)
 have h1:(p.n,p.s)∉H.points.map (·.1):=h1
 rw[a0y (bq h1) (aX h2) rfl] at this;rw[a8E W hw];exact this
theorem b5o{g:Str}(hn:i9 g=true)(h1:g∉H.gaps)(h2:g∈H.letters.map (·.1))(hl:H.gaps.length<=1000):Y8 ct F (d+9) H (a4L g) none {H with gaps:=H.gaps++[g]}:=by
 intro h n w A hw
 have hw:h[w]? =some (.lst [.str "gap",.str g]):=hw
 have hg:U6 false h (.str g) (.ref (n+5))=.ok (.bl false) h:=by
  simp only[U6,A.c5];rw[ay (by rw[a1g];rfl),a7d,nin h1]
  rfl
 have e:b6 ct F (d+8) 23 [.ref n,.ref w] h=.ok .non (h.set (n+5) (.lst ((H.gaps++[g]).map .str))):=by
  rw[m8 W.f23 rfl];simp only[V3];rw[gc0];simp_arith[t7 hw,op2,a1z,eqS,w5 1 1 rfl hw rfl,K1 W (a0s hn),hn,A.fld5,A.fld4,hg,a0O A.c4,aX h2,B8 W,a0y rfl rfl rfl,W0,Int.cast_ofNat_Int,decide_true,Bool.not_true,G7 A.c5,S7 (d:=.str g) A.c5 (by rw[aa];omega)]
  rw[ao];rfl
 rw[b1b W hw e (.tail _ (.head _))];exact⟨_,rfl,Fr.set (by omega) (by omega),HallAt.s5 W A _⟩
theorem b2I{m:Mk}(hn:i9 m.n=true)(hs:a0d m.s)(ha:Y9 m.a)(hb:Y9 m.b)(h1:m.n∉H.marks.map (·.1))(h2:m.n∈H.shapes.map (·.1))(hl:H.marks.length<=1000):Y8 ct F (d+9) H (S8 m) none {H with marks:=H.marks++[(m.n,.tup [.str m.s,spD m.a,spD m.b])]}:=by
 intro h n w A hw
 have hf:b6 ct F (d+7) 18 [.ref w,.int 4] h=.ok (.bl true) h:=a0G (k:=d+2) (ws:=[num m.a.1,num m.a.2,num m.b.1,num m.b.2]) W hw hn (a0s hn) (b3u hs) rfl (by simp[a4R,F0 ha.1,F0 ha.2,F0 hb.1,F0 hb.2]) (fun y hy=>by
  have:=(l7 (WOk.num ha.1) (l7 (WOk.num ha.2) (l7 (WOk.num hb.1) (l7 (WOk.num hb.2) Row.nil))) y hy).l
  omega) (by simp)
 have e35:U2 ((S8 m).map .str) (some 3) (some 5)=[.str (num m.a.1),.str (num m.a.2)]:=a1l 3 5 ((S8 m).map .str) (by decide) (Nat.le_of_ble_eq_true rfl)
 have e57:U2 ((S8 m).map .str) (some 5) (some 7)=[.str (num m.b.1),.str (num m.b.2)]:=a1l 5 7 ((S8 m).map .str) (by decide) (Nat.le_of_ble_eq_true rfl)
 have A2:=(A.app [.lst [.str (num m.a.1),.str (num m.a.2)]]).app [.lst [.str (num m.b.1),.str (num m.b.2)]];have hw1:=b7 (g:=[.lst [.str (num m.a.1),.str (num m.a.2)]]) hw
 have e:b6 ct F (d+8) 19 [.ref n,.ref w] h=.ok .non ((h++[Cell.lst [D.str (num m.a.1),D.str (num m.a.2)]]++[Cell.lst [D.str (num m.b.1),D.str (num m.b.2)]]).set (n+2) (Cell.dict (kd (H.marks++[(m.n,D.tup [.str m.s,spD m.a,spD m.b])])))):=by
  rw[m8 W.f19 rfl];simp only[O6];rw[gc0];simp_arith[hf,Bool.not_true,w5 1 1 rfl hw rfl,w5 2 2 rfl hw rfl,op2,A.fld2,a0O A.c2,A.fld1,a0O A.c1,B8 W,a0y (nin h1) (aX h2) rfl,W0,decide_true,N3 hw,e35,a3R W (b8 (h:=h)) (F0 ha.1) (F0 ha.2),N3 hw1,e57,a3R W (b8 (h:=h++[Cell.lst [.str (num m.a.1),.str (num m.a.2)]])) (F0 hb.1) (F0 hb.2),A2.fld2,W4 A2.c2 h1 (show _<16777216 by omega)]
  rfl
 rw[b1b W hw e (.head _)];exact⟨_,rfl,((Fr.app n h _).trans (Fr.app n _ _)).trans (Fr.set (by omega) (by omega)),A2.s2 _⟩
end
theorem G1{ct:CT}{F:Nat->Option Fn}{d:Nat}{α:Type}{full:List α}{i6:List Str}{H':HD}(wf:α->List Str)(U:List α->HD)(hR:∀x∈full,Row (wf x))(hst:∀pre x post,full=pre++x::post->Y8 ct F d (U pre) (wf x) none (U (pre++[x])))(hT:Reads ct F d (U full) i6 H'):∀(l pre:List α),full=pre++l->Reads ct F d (U pre) (l.map (fun x=>ln (wf x))++i6) H'
 |[],pre,e=>by
  rw[aV] at e;subst e;exact hT
 |x::l,pre,e=>by
  have r:=hR x (by rw[e];exact mem_append_right _ (.head _))
  have b:=a8T r
  have:=a6G r
  refine .take (H1:=U (pre++[x])) (show(ln (wf x)).length<=100000 by omega) (by rw[b];exact r.n) (by rw[b];exact hst pre x l e) (G1 wf U hR hst hT l (pre++[x]) (by rw[e];simp))
theorem K9{f:α->β}{full pre post:List α}{x:α}(h:(full.map f).Nodup)(e:full=pre++x::post):f x∉pre.map f:=fun m=>by
 rw[e,ao,map_cons] at h;exact(nodup_append.mp h).2.2 _ m _ (.head _) rfl
theorem J9{full pre post:List α}{x:α}(e:full=pre++x::post):pre.length<full.length/\x∈full:=by
 rw[e];exact⟨by simp only[aq,length_cons];omega,mem_append_right _ (.head _)⟩
noncomputable def hS(H:HL):List (Str×D):=H.sh.map fun p=>(p.1,.int (p.2:Int))
def hM(l:List Mk):List (Str×D):=l.map fun m=>(m.n,.tup [.str m.s,spD m.a,spD m.b])
def hP(l:List Pt):List ((Str×Str)×D):=l.map fun p=>(ptK p,spD p.a)
noncomputable def hL(l:List Lt):List (Str×D):=l.map fun l=>(l.n,.tup [.str l.j,.str l.w,.tup (l.fs.map .str)])
noncomputable def hC(l:List Cs):List (Str×D):=l.map fun c=>(c.n,.tup (c.fs.map .str))
noncomputable def hF(l:List (Str×Bool)):List (Str×D):=l.map fun p=>(p.1,.bl p.2)
def a2P(H:HL):HD:=⟨hS H,hM H.mr,hP H.pt,hL H.ls,H.gp,hC H.cs,hF H.fe,[]⟩
theorem a4c(k:α->Str)(v:α->β)(l:List α):(l.map fun x=>(k x,v x)).map (·.1)=l.map k:=by rw[aG];rfl
theorem snoc(f:α->β)(l:List α)(x:α):(l++[x]).map f=l.map f++[f x]:=by rw[ao];rfl
theorem a7g{H:HL}(K:HLok H)(h:f∈H.sh.map (·.1)):i9 f=true/\f∈(hS H).map (·.1):=⟨U4 K h,by unfold hS;rw[a4c];exact h⟩
variable{ct:CT}
theorem a7K{F:Nat->Option Fn}(W:PF F){d:Nat}{H:HL}(K:HLok H):Reads ct F (d+9) {} ((J7 H).map ln) (a2P H):=by
 have e:(J7 H).map ln=H.sh.map (fun p=>ln (Q0 p))++(H.mr.map (fun p=>ln (S8 p))++(H.pt.map (fun p=>ln (W1 p))++(H.ls.map (fun p=>ln (K4 p))++(H.gp.map (fun p=>ln (a4L p))++(H.cs.map (fun p=>ln (Q6 p))++(H.fe.map (fun p=>ln (a1o p))++[])))))):=by
  unfold J7;simp only[ao,aG,aA,aV];rfl
 rw[e];refine G1 Q0 (fun l=>{shapes:=l.map fun p=>(p.1,.int (p.2:Int))}) (fun x hx=>a3a K hx) (fun pre x post q=>?_) ?_ H.sh [] rfl
 · obtain⟨q1,q2⟩:=J9 q;have k:=K.sh.ok x q2
   have:=K.sh.hi
   have g:=b0h (ct:=ct) (d:=d) (H:={shapes:=pre.map fun p=>(p.1,.int (p.2:Int))}) (p:=x) W k.1 k.2 (by rw[a4c];exact K9 (f:=fun p=>p.1) K.sh.nd q) (by rw[aa];omega)
   simp only[snoc];exact g
 refine G1 S8 (fun l=>{shapes:=hS H,marks:=hM l}) (fun x hx=>a4W K hx) (fun pre x post q=>?_) ?_ H.mr [] rfl
 · obtain⟨q1,q2⟩:=J9 q;obtain⟨k1,k2,k3⟩:=K.mko x q2;have hn:=a7g K (a3X K q2);have b:=a6B K K.mr;rw[aa] at b
   have:=K.sh.hi
   have g:=b2I (ct:=ct) (d:=d) (H:={shapes:=hS H,marks:=hM pre}) (m:=x) W hn.1 k1 k2 k3 (by unfold hM;rw[a4c];exact K9 (f:=fun m:Mk=>m.n) (K.mr.nodup K.sh.nd) q) hn.2 (by unfold hM;rw[aa];omega)
   unfold hM at g⊢;rw[snoc];exact g
 refine G1 W1 (fun l=>{shapes:=hS H,marks:=hM H.mr,points:=hP l}) (fun x hx=>a3b K hx) (fun pre x post q=>?_) ?_ H.pt [] rfl
 · obtain⟨q1,q2⟩:=J9 q;obtain⟨k1,k2,k3⟩:=K.pto x q2;have hn:=a7g K k1
   have:=K.ptl
   have g:=b0i (ct:=ct) (d:=d) (H:={shapes:=hS H,marks:=hM H.mr,points:=hP pre}) (p:=x) W hn.1 k2 k3 (by unfold hP;rw[aG];exact K9 (f:=ptK) K.pt q) hn.2 (by unfold hP;rw[aa];omega)
   unfold hP at g⊢;rw[snoc];exact g
 refine G1 K4 (fun l=>{shapes:=hS H,marks:=hM H.mr,points:=hP H.pt,letters:=hL l}) (fun x hx=>a0o K hx) (fun pre x post q=>?_) ?_ H.ls [] rfl
 · obtain⟨q1,q2⟩:=J9 q;have k:=K.lso x q2
   have:=K.ls
   have g:=a8h (ct:=ct) (d:=d) (H:={shapes:=hS H,marks:=hM H.mr,points:=hP H.pt,letters:=hL pre}) (l:=x) W k (fun f hf=>a7g K (k.fs f hf)) (by unfold hL;rw[a4c];exact K9 (f:=fun m:Lt=>m.n) K.lsn q) (by unfold hL;rw[aa];omega)
   unfold hL at g⊢;rw[snoc];exact g
 refine G1 a4L (fun l=>{shapes:=hS H,marks:=hM H.mr,points:=hP H.pt,letters:=hL H.ls,gaps:=l}) (fun x hx=>a6H K hx) (fun pre x post q=>?_) ?_ H.gp [] rfl
 · obtain⟨q1,q2⟩:=J9 q
   have:=K.gp.length_le
   rw[aa] at this
   have:=K.ls
   have nd:=K9 (f:=id) (by rw[map_id];exact K.gp.nodup K.lsn) q
   rw[map_id] at nd;exact b5o (ct:=ct) (d:=d) (H:={shapes:=hS H,marks:=hM H.mr,points:=hP H.pt,letters:=hL H.ls,gaps:=pre}) (g:=x) W (a4h K q2) nd (by unfold hL;rw[a4c];exact K.gp.subset q2) (show pre.length<=1000 by omega)
 refine G1 Q6 (fun l=>{shapes:=hS H,marks:=hM H.mr,points:=hP H.pt,letters:=hL H.ls,gaps:=H.gp,classes:=hC l}) (fun x hx=>a1b K hx) (fun pre x post q=>?_) ?_ H.cs [] rfl
 · obtain⟨q1,q2⟩:=J9 q;have k:=K.cso x q2
   have:=K.cs
   have g:=b0j (ct:=ct) (d:=d) (H:={shapes:=hS H,marks:=hM H.mr,points:=hP H.pt,letters:=hL H.ls,gaps:=H.gp,classes:=hC pre}) (c:=x) W k (fun f hf=>a7g K (k.fs f hf)) (by unfold hC;rw[a4c];exact K9 (f:=fun m:Cs=>m.n) K.csn q) (by unfold hC;rw[aa];omega)
   unfold hC at g⊢;rw[snoc];exact g
 refine G1 a1o (fun l=>{shapes:=hS H,marks:=hM H.mr,points:=hP H.pt,letters:=hL H.ls,gaps:=H.gp,classes:=hC H.cs,features:=hF l}) (fun x hx=>a4X K hx) (fun pre x post q=>?_) (.nil _) H.fe [] rfl
 · obtain⟨q1,q2⟩:=J9 q
   have:=K.fe
   have g:=b2J (ct:=ct) (d:=d) (H:={shapes:=hS H,marks:=hM H.mr,points:=hP H.pt,letters:=hL H.ls,gaps:=H.gp,classes:=hC H.cs,features:=hF pre}) (p:=x) W (a4l K (am.mpr ⟨x,q2,rfl⟩)) (by unfold hF;rw[a4c];exact K9 (f:=fun p=>p.1) K.fen.nd q) (by unfold hF;rw[aa];omega)
   unfold hF at g⊢;rw[snoc];exact g
open PySem
def nc(s:Str):Bool:=decide (s≠"clear")
noncomputable def bb(s:Str):Bool:=decide (s="both")||decide (s="back")
variable{js:List Str}
theorem a9G{l:List (Str×D)}{k:Str}(e:h[n]? =some (.dict (kd l))):U6 true h (.str k) (.ref n)=.ok (.bl (!decide (k∈l.map (·.1)))) h:=by
 simp only[U6,e,a1N,if_true,a6n];simp
theorem b1I{c:Cell}:(h++[c]).set h.length c'=h++[c']:=by
 rw[List.set_append_right _ _ (aj _),Nat.sub_self];rfl
theorem a7x(hl:xs.length<1000000):mtD .append (h++[.lst xs]) (.ref h.length) [d]=.ok .non (h++[.lst (xs++[d])]):=by
 rw[S7 b8 hl,b1I]
theorem b6c{xs:List α}{d:α}(hd:xs[xs.length-1]? =some d):atI xs (-1)=some d:=by
 have hl:=(ac.mp hd).1
 unfold atI
 have e:ixN xs.length (-1)=some (xs.length-1):=by
  unfold ixN;rw[az (by omega),ay (by omega)]
  congr 1;omega
 rw[e];exact hd
theorem a1i:op2 .eq h (.str x) (.str y)=.ok (.bl (decide (x=y))) h:=rfl
theorem b2r:op2 .ne h (.str x) (.str y)=.ok (.bl (!decide (x=y))) h:=rfl
theorem rd_of(e:h[n]? =some (.lst l)):rdL h n=some l:=by unfold rdL;rw[e]
noncomputable def J5(ls:List Lt)(x:Str):Lt:=(ls.find? fun l=>decide (l.n=x)).getD ⟨x,"","",[]⟩
theorem a9N{x:Str}:∀{ls:List Lt},x∈ls.map (·.n)->J5 ls x∈ls
 |[],h=>absurd h (by simp)
 |l::r,h=>by
  unfold J5;rw[List.find?_cons]
  by_cases e:l.n=x
  · simp[e]
  · simp only[e,decide_false];rw[map_cons] at h;exact .tail _ (a9N ((aE.mp h).resolve_left fun z=>e z.symm))
theorem b0n{x:Str}(f:Lt->D):∀{ls:List Lt},x∈ls.map (·.n)->o9 (kd (ls.map fun l=>(l.n,f l))) (.str x)=some (f (J5 ls x))
 |[],h=>absurd h (by simp)
 | l ::r,h=>by
  by_cases e:l.n=x
  · unfold o9 kd J5;rw[map_cons,map_cons,List.find?_cons,List.find?_cons]
    simp[e]
  · have ih:=b0n f (ls:=r) (by
     rw[map_cons] at h;exact(aE.mp h).resolve_left fun z=>e z.symm)
    have e':¬(D.str l.n=D.str x):=fun z=>e (by injection z)
    unfold o9 kd J5 at ih⊢;rw[map_cons,map_cons,List.find?_cons,List.find?_cons]
    simp only[e',e,decide_false];exact ih
theorem b3z(f:Lt->D)(e:h[n]? =some (.dict (kd (ls.map fun l=>(l.n,f l)))))(hx:x∈ls.map (·.n)):ixD h (.ref n) (.str x)=.ok (f (J5 ls x)) h:=by
 have k:G8 (.str x) (kd (ls.map fun l=>(l.n,f l)))=true:=a1N _ _
 simp only[ixD,e,k,if_true,b0n f hx]
variable{row:List Str}
section
variable{F:Nat->Option Fn}
theorem b0R{k r:Nat}{H:HL}(hF:F 33=some o6)(A:HallAt h n (a2P H))(hr:h[r]? =some (.lst (row.map .str)))(hin:∀x∈row,x∈H.ls.map (·.n)):b6 ct F (k+1) 33 [.ref n,.ref r] h=.ok .non h:=by
 have k4:(hL H.ls).map (·.1)=H.ls.map (·.n):=a4c _ _ _
 rw[m8 hF rfl];simp only[o6]
 show gcR 1 h (K8 (exs ct (b6 ct F k) _ [some (.ref n),some (.ref r),none,none] h))=_
 obtain⟨env',g',e1,e2,e3,rfl,rfl⟩:=E8 (g:=[(r,.lst (row.map .str))]) (p:=.tp (.cons (.nm 2) (.cons (.nm 3) .nil))) (body:=exs ct (b6 ct F k) (.cons (.iff (.cmp .notin (.v 3) (.fld (.v 0) "letters")) (.cons (.rais 2 (.cons (.v 2) .nil)) .nil) .nil) .nil)) (fun j env hh=>∃e2 e3,env=[some (.ref n),some (.ref r),e2,e3]/\hh=h) (fun j env hh hP=>by
  obtain⟨_,_,_,rfl⟩:=hP;simp only[gOk,all_cons,all_nil,hr]
  simp) (u6 0 (row.map .str)) 0 [some (.ref n),some (.ref r),none,none] h (fun j x env hh hx hP=>by
  obtain⟨e2,e3,rfl,rfl⟩:=hP;obtain⟨y,hy,rfl⟩:=V5 hx;rw[ak] at hy
  obtain⟨z,hz,rfl⟩:=Option.map_eq_some_iff.mp hy;have hm:=hin z (aF hz);refine⟨_,[some (.ref n),some (.ref r),some (.int ((0+j:Nat):Int)),some (.str z)],_,rfl,?_,_,_,rfl,rfl⟩
  show exs ct (b6 ct F k) _ [some (.ref n),some (.ref r),some (.int ((0+j:Nat):Int)),some (.str z)] _=_
  have ni:U6 true hh (.str z) (.ref (n+4))=.ok (.bl false) hh:=by
   rw[a9G A.c4,show(a2P H).letters=hL H.ls from rfl,k4,aX hm];rfl
  generalize ((0+j:Nat):Int)=J;simp_arith[A.fld4,op2,ni]) ⟨none,none,rfl,rfl⟩
 simp_arith[U1,hr,e1];exact D2 rfl
end
theorem b8x{i j:Int}:op2 .add h (.int i) (.int j)=.ok (.int (i+j)) h:=rfl
theorem lt2{i j:Int}:op2 .lt h (.int i) (.int j)=.ok (.bl (decide (i<j))) h:=rfl
theorem a3o:∀l:List Str,a8l (l.map .str) (l.map .str)=true
 |[]=>rfl
 |x::r=>by
  rw[map_cons,a8l,a3o r];simp[eqF]
theorem a4s{l:List Str}(h1:h[i]? =some (.lst (l.map .str)))(h2:h[j]? =some (.lst (l.map .str))):op2 .eq h (.ref i) (.ref j)=.ok (.bl true) h/\op2 .ne h (.ref i) (.ref j)=.ok (.bl false) h:=by
 have e1:a5r h (.ref i) (.ref j)=some true:=by
  simp only[a5r,rd_of h1,rd_of h2,a1g,Bool.and_self,if_true,a3o]
 refine⟨?_,?_⟩
 · show J8 h (.ref i) (.ref j)=_
   unfold J8;rw[show eqS (.ref i) (.ref j)=none from rfl];simp only[e1];rfl
 · show a1z h (.ref i) (.ref j)=_
   unfold a1z;rw[show eqS (.ref i) (.ref j)=none from rfl];simp only[e1];rfl
theorem a6V(e:h[n]? =some (.lst l)):biD .list h [.ref n]=.ok (.ref h.length) (h++[.lst l]):=by
 simp only[biD,e,rd_of e,z5]
theorem b0O(ns:List Int)(lo hi:Option Int):∃zs:List Int,U2 (ns.map .int) lo hi=zs.map .int/\zs.length<=ns.length:=by
 refine⟨(ns.drop (HT.sIx (ns.map D.int).length 0 lo)).take (HT.sIx (ns.map D.int).length (ns.map D.int).length hi-HT.sIx (ns.map D.int).length 0 lo),?_,?_⟩
 · unfold U2;rw[map_take,map_drop]
 · rw[aK,br];omega
theorem Pf.split{a b:AH}(p:Pf a b):∃t,b=a++t:=⟨b.drop a.length,by
 have:=List.take_append_drop a.length b
 rw[p.take] at this;exact this.symm⟩
structure Lk(ns row:List Str)(p:Nat):Prop where
 lt:p<row.length
 no:row.getD p ""∉ns
 ok:∀i,i<p->row.getD i ""∈ns
section
variable{F:Nat->Option Fn}
theorem a7t{c:CF}{n r:Nat}{H:HL}{row:List Str}{h:AH}(hx:ct.flds 2=[("place":Str)])(A:HallAt h n (a2P H))(hr:h[r]? =some (.lst (row.map .str))):∀(l:List Str) (j p:Nat) (e2 e3:Option D),Lk (H.ls.map (·.n)) l p→
 T7 [(r,.lst (row.map .str))] (.tp (.cons (.nm 2) (.cons (.nm 3) .nil))) (exs ct c ckB) (u6 j (l.map .str)) [some (.ref n),some (.ref r),e2,e3] h=.ex 2 [("place",.int ((j+p:Nat):Int))] h
 |[],j,p,e2,e3,L=>absurd L.lt (Nat.not_lt_zero p)
 | x::t,j,p,e2,e3,L=>by
  have k4:(hL H.ls).map (·.1)=H.ls.map (·.n):=a4c _ _ _
  have g:gOk [(r,.lst (row.map .str))] h=true:=by
   simp only[gOk,all_cons,all_nil,hr];simp
  have ni:U6 true h (.str x) (.ref (n+4))=.ok (.bl (!decide (x∈H.ls.map (·.n)))) h:=by
   rw[a9G A.c4,show(a2P H).letters=hL H.ls from rfl,k4]
  rw[map_cons,u6,T7,ay g]
  show(exs ct c ckB [some (.ref n),some (.ref r),some (.int (j:Int)),some (.str x)] h).bind _=_
  cases p with
  | zero=>
   have hn:x∉H.ls.map (·.n):=L.no
   have b:exs ct c ckB [some (.ref n),some (.ref r),some (.int (j:Int)),some (.str x)] h=.ex 2 [("place",.int (j:Int))] h:=by
    unfold ckB
    have xa:(1=1/\a4J [D.int (j:Int)]=true)=True:=eq_true ⟨rfl,rfl⟩
    simp_arith[A.fld4,op2,ni,bq hn,Bool.not_false,hx,xa];rfl
   rw[b];rfl
  | succ p=>
   have hm:x∈H.ls.map (·.n):=L.ok 0 (Nat.succ_pos p)
   have b:exs ct c ckB [some (.ref n),some (.ref r),some (.int (j:Int)),some (.str x)] h=.ok (.nx [some (.ref n),some (.ref r),some (.int (j:Int)),some (.str x)]) h:=by
    unfold ckB;simp_arith[A.fld4,op2,ni,aX hm,Bool.not_true]
   rw[b,d9]
   have L':Lk (H.ls.map (·.n)) t p:=⟨Nat.lt_of_succ_lt_succ L.lt,L.no,fun i hi=>L.ok (i+1) (Nat.succ_lt_succ hi)⟩
   have:=a7t (c:=c) hx A hr t (j+1) p (some (.int (j:Int))) (some (.str x)) L'
   rw[show j+1+p=j+(p+1) by omega] at this
   exact this
theorem a4q{t:T}{a b:E}:ev ct c (.ife t a b) env h=(tst ct c t env h).bind fun x h1=>if x=true then ev ct c a env h1 else ev ct c b env h1:=by(rw[ev];try rfl)
theorem b5A{a:E}:ev ct c (.rev a) env h=(ev ct c a env h).bind fun x h1=>a9c h1 x:=by(rw[ev];try rfl)
end
theorem a8W(e:h[n]? =some (.lst xs)):a9c h (.ref n)=.ok (.ref h.length) (h++[.lst xs.reverse]):=by
 simp only[a9c,e,z5]
noncomputable def D6(s:Str):Bool:=decide (s="left")||decide (s="right")
noncomputable def tlw(c:Str)(l:Lt):Str:=if l.j="clear" then c else l.w
def sgL(l:Lt):Bool:=!decide (l.j="clear")&&D6 l.w
theorem a3G{c:Str}{l:Lt}(hc:D6 c=false):D6 (tlw c l)=sgL l:=by
 unfold tlw sgL
 by_cases e:l.j="clear"
 · rw[ay e,aX e,hc];rfl
 · rw[az e,bq e];rfl
theorem b3t{c:Str}{l:Lt}(h:sgL l=true):tlw c l=l.w:=by
 unfold sgL at h;unfold tlw
 by_cases e:l.j="clear"
 · rw[aX e] at h;cases h
 · rw[az e]
noncomputable def fw:Option Lt->D
 |some l=>.str l.w
 |none=>.non
def laS(M:List Lt)(i:Nat):Option Lt:=(M.take i).reverse.find? sgL
def fiS(M:List Lt)(i:Nat):Option Lt:=(M.drop (i+1)).find? sgL
theorem a9U{M:List Lt}{l:Lt}(h:M[i]? =some l):laS M (i+1)=if sgL l=true then some l else laS M i:=by
 unfold laS;rw[List.take_succ,h]
 show((M.take i++[l]).reverse.find? sgL)=_
 rw[List.reverse_append,List.reverse_singleton,List.singleton_append,List.find?_cons]
 cases sgL l<;>rfl
variable{L:List Lt}
theorem b4c(hi:i<L.length):(((List.range L.reverse.length).map fun i=>fw (laS L.reverse i)).reverse)[i]? =some (fw (fiS L i)):=by
 rw[List.getElem?_reverse (by rw[aa,aH,length_reverse];exact hi),aa,aH,length_reverse,ak,aI (by omega)]
 show some (fw ((L.reverse.take (L.length-1-i)).reverse.find? sgL))=some (fw ((L.drop (i+1)).find? sgL))
 rw[List.take_reverse,List.reverse_reverse,show L.length-(L.length-1-i)=i+1 by omega]
theorem b3w(y:Str):inD (.str y) [.str "left",.str "right"]=D6 y:=by
 unfold inD D6;simp only[any_cons,List.any_nil,eqF,Bool.or_false]
 by_cases a:y="left"
 · subst a;decide
 · by_cases b:y="right"
   · subst b;decide
   · rw[bq a,bq b,beq_eq_false_iff_ne.mpr (Ne.symm a),beq_eq_false_iff_ne.mpr (Ne.symm b)]
theorem a5m{α:Type}(g:α->Option Lt):∀l:List α,D.flats (l.map fun i=>fw (g i))=true
 |[]=>rfl
 |x::r=>by
  rw[map_cons]
  show((fw (g x)).flat&&_)=true
  rw[a5m g r]
  cases g x<;>rfl
noncomputable def b0X:Option Lt->Option Lt->Str->Str
 |some a,some b,way=>if a.w=b.w then a.w else way
 |_,_,way=>way
def lw(L:List Lt)(way:Str):Nat->Str
 |0=>way
 |i+1=>match L[i]? with
  |some l=>if l.j="clear" then lw L way i else if D6 l.w=true then l.w else b0X (laS L i) (fiS L i) way
  |none=>lw L way i
def a0e(L:List Lt)(way:Str):List Str:=(List.range L.length).map fun i=>lw L way (i+1)
variable{way:Str}
theorem a3Y{l:Lt}(h:L[i]? =some l):lw L way (i+1)=if l.j="clear" then lw L way i else if D6 l.w=true then l.w else b0X (laS L i) (fiS L i) way:=by
 rw[lw,h]
theorem a1Y(f:Nat->α)(j:Nat):(List.range (j+1)).map f=(List.range j).map f++[f j]:=by rw[List.range_succ,ao];rfl
section
variable{F:Nat->Option Fn}
theorem b0k(he:env[i]? =some (some (.str y))):tst ct c (.val (.gin false (.v i) [.str "left",.str "right"])) env h=.ok (D6 y) h:=by
 have:(v5 (.str y)=true/\[D.str "left",.str "right"].all v5=true)=True:=eq_true ⟨rfl,rfl⟩
 simp_arith[he,this,b3w]
 cases D6 y<;>rfl
theorem b1v{k:Nat}{l:Lt}{fs:D}(hF:F 35=some K2):b6 ct F (k+1) 35 [.tup [.str l.j,.str l.w,fs]] h=.ok (.str (tlw "clear" l)) h:=by
 rw[m8 hF rfl];simp only[K2]
 have i1:∀h,ixD h (.tup [.str l.j,.str l.w,fs]) (.int 1)=.ok (.str l.w) h:=fun h=>ix_tup (i:=1) rfl
 unfold tlw
 by_cases e:l.j="clear"
 · rw[ay e];simp_arith[a4q,a2J,a1i,aX e];exact D2 rfl
 · rw[az e];simp_arith[a4q,a2J,a1i,bq e,i1];exact D2 rfl
theorem a6w{k:Nat}{a b:Option Lt}(hF:F 37=some C8):b6 ct F (k+1) 37 [fw a,fw b,.str way] h=.ok (.str (b0X a b way)) h:=by
 rw[m8 hF rfl];simp only[C8]
 cases a with
 |none=>
  have:decide (D.non=D.non)=true:=rfl
  show gcR 1 h (K8 (exs ct (b6 ct F k) _ [some .non,some (fw b),some (.str way)] h))=_
  simp_arith[this,Bool.not_true];exact D2 rfl
 | some a=>
  have n0:decide (D.str a.w=D.non)=false:=rfl
  cases b with
  |none=>
   have e:∀h,op2 .eq h (.str a.w) .non=.ok (.bl false) h:=fun h=>rfl
   show gcR 1 h (K8 (exs ct (b6 ct F k) _ [some (.str a.w),some .non,some (.str way)] h))=_
   simp_arith[n0,Bool.not_false,e];exact D2 rfl
  |some b=>
   show gcR 1 h (K8 (exs ct (b6 ct F k) _ [some (.str a.w),some (.str b.w),some (.str way)] h))=.ok (.str (if a.w=b.w then a.w else way)) h
   by_cases e:a.w=b.w
   · rw[ay e];simp_arith[n0,Bool.not_false,a1i,aX e];exact D2 rfl
   · rw[az e];simp_arith[n0,Bool.not_false,a1i,bq e];exact D2 rfl
theorem a6S{k:Nat}{c:Str}{M:List Lt}(hF:F 36=some z6)(hc:D6 c=false)(hj:h[j]? =some (.lst ((M.map (tlw c)).map .str)))(hl:M.length<=1000):b6 ct F (k+1) 36 [.ref j] h=.ok (.ref h.length) (h++[.lst ((List.range M.length).map fun i=>fw (laS M i))]):=by
 rw[m8 hF rfl];simp only[z6]
 show gcR 2 h (K8 (exs ct (b6 ct F k) _ [some (.ref j),none,none,none] h))=_
 rw[seq (env':=[some (.ref j),some (.ref h.length),none,none]) (h':=h++[.lst []]) (by simp_arith[z5])]
 rw[seq (env':=[some (.ref j),some (.ref h.length),some .non,none]) (h':=h++[.lst []]) (by simp_arith[])]
 obtain⟨env',g',e1,e3,rfl,rfl⟩:=E8 (g:=[(j,.lst ((M.map (tlw c)).map .str))]) (p:=.nm 3) (body:=exs ct (b6 ct F k) naB) (fun i env hh=>∃e3,env=[some (.ref j),some (.ref h.length),some (fw (laS M i)),e3]/\hh=h++[.lst ((List.range i).map fun i=>fw (laS M i))]) (fun i env hh hP=>by
  obtain⟨_,_,rfl⟩:=hP;simp only[gOk,all_cons,all_nil,b7 hj]
  simp) ((M.map (tlw c)).map .str) 0 [some (.ref j),some (.ref h.length),some .non,none] (h++[.lst []]) (fun i x env hh hx hP=>by
  obtain⟨e3,rfl,rfl⟩:=hP;rw[ak,ak] at hx
  obtain⟨y,hy,rfl⟩:=Option.map_eq_some_iff.mp hx;obtain⟨l,hl',rfl⟩:=Option.map_eq_some_iff.mp hy;have hi:=(ac.mp hl').1
  rw[aB];have ap:=a7x (h:=h) (xs:=(List.range i).map fun i=>fw (laS M i)) (d:=fw (laS M i)) (by rw[aa,aH];omega)
  rw[←a1Y (fun i=>fw (laS M i))] at ap
  refine⟨_,[some (.ref j),some (.ref h.length),some (fw (laS M (i+1))),some (.str (tlw c l))],_,rfl,?_,_,rfl,rfl⟩
  show exs ct (b6 ct F k) naB [some (.ref j),some (.ref h.length),some (fw (laS M i)),some (.str (tlw c l))] _=_
  unfold naB;rw[seq (env':=[some (.ref j),some (.ref h.length),some (fw (laS M i)),some (.str (tlw c l))]) (h':=h++[.lst ((List.range (i+1)).map fun i=>fw (laS M i))]) (by simp_arith[G7 (b8 (h:=h) (c:=.lst ((List.range i).map fun i=>fw (laS M i)))),ap])]
  rw[U0,a6q,b0k rfl,d9,a3G hc,a9U hl']
  cases e:sgL l with
  |true=>
   rw[ay rfl,ay rfl,b3t e];simp_arith[];rfl
  |false=>
   rw[az (by decide),az (by decide)]
   simp_arith[]) ⟨none,rfl,rfl⟩
 rw[aa,aa,aB] at e1;rw[seq (env':=_) (h':=h++[.lst ((List.range M.length).map fun i=>fw (laS M i))]) (by simp_arith[V9,b7 (g:=[.lst []]) hj,e1];rfl)]
 simp_arith[];exact gc2 b8 (aj _) (a5m _ _)
theorem b1l{k r:Nat}{H:HL}(f33:F 33=some o6)(hF:F 34=some G2)(f35:F 35=some K2)(f36:F 36=some z6)(f37:F 37=some C8)(K:HLok H)(A:HallAt h n (a2P H))(hr:h[r]? =some (.lst (row.map .str)))(hin:∀x∈row,x∈H.ls.map (·.n))(hl:row.length<=1000):
 b6 ct F (k+2) 34 [.ref n,.ref r,.str way] h=.ok (.ref h.length) (h++[.lst ((a0e (row.map (J5 H.ls)) way).map .str)]):=by
 have c4:h[n+4]? =some (.dict (kd (H.ls.map fun l=>(l.n,.tup [.str l.j,.str l.w,.tup (l.fs.map .str)])))):=A.c4
 have lk:∀{z:Str},z∈row->ixD h (.ref (n+4)) (.str z)=.ok (.tup [.str (J5 H.ls z).j,.str (J5 H.ls z).w,.tup ((J5 H.ls z).fs.map .str)]) h:=fun hz=>b3z (fun l=>.tup [.str l.j,.str l.w,.tup (l.fs.map .str)]) c4 (hin _ hz)
 have hw:∀l∈row.map (J5 H.ls),l.w="left"∨l.w="right"∨l.w="either":=fun l hl=>by
  obtain⟨z,hz,rfl⟩:=am.mp hl;exact(K.lso _ (a9N (hin z hz))).ws
 have ct':ev ct (b6 ct F (k+1)) woT [some (.ref n),some (.ref r),some (.str way),none,none,none,none,none,none,none] h=.ok (.ref h.length) (h++[.lst (((row.map (J5 H.ls)).map (tlw "clear")).map .str)]):=by
  unfold woT
  rw[u5 (l:=row.map .str) (g:=[(r,.lst (row.map .str))]) (h1:=h) (by simp_arith[V9,hr]) (by simp only[gOk,all_cons,all_nil,hr];simp) (fun x=>match x with
   |.str z=>.str (tlw "clear" (J5 H.ls z))
   |_=>.non) (fun x=>[some x,some (.ref n)]) (fun x hx=>by
   obtain⟨z,hz,rfl⟩:=am.mp hx;refine⟨rfl,?_⟩
   simp_arith[A.fld4,lk hz,b1v f35]) (by rw[aa];show _<=16777216;omega)]
  congr 3;rw[aG,aG,aG];rfl
 have ck:=b0R (ct:=ct) (k:=k) f33 A hr hin
 have lL:(row.map (J5 H.ls)).length=row.length:=aa _
 generalize row.map (J5 H.ls)=L at ct' hw lL
 have P0:Pf h h:=Pf.refl h
 have gT:(h++[Cell.lst ((L.map (tlw "clear")).map D.str)])[h.length]? =some (.lst ((L.map (tlw "clear")).map .str)):=b8
 have P1:=P0.app [Cell.lst ((L.map (tlw "clear")).map D.str)];generalize hx1:h++[Cell.lst ((L.map (tlw "clear")).map D.str)]=x1 at ct' gT P1;generalize ht:h.length=t at ct' gT;have na:=a6S (ct:=ct) (F:=F) (k:=k) f36 (by decide) gT (by omega)
 have gA:(x1++[Cell.lst ((List.range L.length).map fun i=>fw (laS L i))])[x1.length]? =some (.lst ((List.range L.length).map fun i=>fw (laS L i))):=b8
 have gT2:=b7 (g:=[Cell.lst ((List.range L.length).map fun i=>fw (laS L i))]) gT
 have P2:=P1.app [Cell.lst ((List.range L.length).map fun i=>fw (laS L i))]
 generalize x1.length=a at na gA;generalize x1++[Cell.lst ((List.range L.length).map fun i=>fw (laS L i))]=x2 at na gA gT2 P2
 have r1:=a8W gT2;rw[←List.map_reverse,←List.map_reverse] at r1
 have gR:(x2++[Cell.lst ((L.reverse.map (tlw "clear")).map D.str)])[x2.length]? =some (.lst ((L.reverse.map (tlw "clear")).map .str)):=b8
 have P3:=P2.app [Cell.lst ((L.reverse.map (tlw "clear")).map D.str)];have gT3:=b7 (g:=[Cell.lst ((L.reverse.map (tlw "clear")).map D.str)]) gT2;have gA3:=b7 (g:=[Cell.lst ((L.reverse.map (tlw "clear")).map D.str)]) gA;generalize x2.length=ri at r1 gR;generalize x2++[Cell.lst ((L.reverse.map (tlw "clear")).map D.str)]=x3 at r1 gR P3 gT3 gA3;have nb:=a6S (ct:=ct) (F:=F) (k:=k) f36 (by decide) gR (by rw[length_reverse];omega)
 have gN:(x3++[Cell.lst ((List.range L.reverse.length).map fun i=>fw (laS L.reverse i))])[x3.length]? =some (.lst ((List.range L.reverse.length).map fun i=>fw (laS L.reverse i))):=b8
 have P4:=P3.app [Cell.lst ((List.range L.reverse.length).map fun i=>fw (laS L.reverse i))]
 have gT4:=b7 (g:=[Cell.lst ((List.range L.reverse.length).map fun i=>fw (laS L.reverse i))]) gT3
 have gA4:=b7 (g:=[Cell.lst ((List.range L.reverse.length).map fun i=>fw (laS L.reverse i))]) gA3
 generalize x3.length=ni at nb gN;generalize x3++[Cell.lst ((List.range L.reverse.length).map fun i=>fw (laS L.reverse i))]=x4 at nb gN P4 gT4 gA4
 have r2:=a8W gN
 have gB:(x4++[Cell.lst ((List.range L.reverse.length).map fun i=>fw (laS L.reverse i)).reverse])[x4.length]? =some (.lst ((List.range L.reverse.length).map fun i=>fw (laS L.reverse i)).reverse):=b8
 have P5:=P4.app [Cell.lst ((List.range L.reverse.length).map fun i=>fw (laS L.reverse i)).reverse]
 have gT5:=b7 (g:=[Cell.lst ((List.range L.reverse.length).map fun i=>fw (laS L.reverse i)).reverse]) gT4
 have gA5:=b7 (g:=[Cell.lst ((List.range L.reverse.length).map fun i=>fw (laS L.reverse i)).reverse]) gA4
 have bAt:∀i,i<L.length->(((List.range L.reverse.length).map fun i=>fw (laS L.reverse i)).reverse)[i]? =some (fw (fiS L i)):=fun i hi=>b4c hi
 generalize x4.length=b at r2 gB;generalize x4++[Cell.lst ((List.range L.reverse.length).map fun i=>fw (laS L.reverse i)).reverse]=x5 at r2 gB P5 gT5 gA5
 generalize ((List.range L.reverse.length).map fun i=>fw (laS L.reverse i)).reverse=Bl at gB bAt
 obtain⟨wi,hwi⟩:∃wi,wi=x5.length:=⟨_,rfl⟩;rw[m8 hF rfl];simp only[G2]
 show gcR 2 h (K8 (exs ct (b6 ct F (k+1)) _ [some (.ref n),some (.ref r),some (.str way),none,none,none,none,none,none,none] h))=_
 rw[seq (env':=[some (.ref n),some (.ref r),some (.str way),none,none,none,none,none,none,none]) (h':=h) (by simp_arith[ck])]
 rw[seq (env':=[some (.ref n),some (.ref r),some (.str way),some (.ref t),none,none,none,none,none,none]) (h':=x1) (by rw[Q9,ct',d9];rfl)]
 rw[seq (env':=[some (.ref n),some (.ref r),some (.str way),some (.ref t),some (.ref a),none,none,none,none,none]) (h':=x2) (by simp_arith[na])]
 rw[seq (env':=[some (.ref n),some (.ref r),some (.str way),some (.ref t),some (.ref a),some (.ref b),none,none,none,none]) (h':=x5) (by simp_arith[b5A,r1,nb,r2])]
 rw[seq (env':=[some (.ref n),some (.ref r),some (.str way),some (.ref t),some (.ref a),some (.ref b),some (.ref x5.length),none,none,none]) (h':=x5++[.lst []]) (by simp_arith[z5])]
 rw[seq (env':=[some (.ref n),some (.ref r),some (.str way),some (.ref t),some (.ref a),some (.ref b),some (.ref x5.length),some (.str way),none,none]) (h':=x5++[.lst []]) (by simp_arith[])]
 obtain⟨env',g',e1,e8,e9,rfl,rfl⟩:=E8 (g:=[(t,.lst ((L.map (tlw "clear")).map .str))]) (p:=.tp (.cons (.nm 8) (.cons (.nm 9) .nil))) (body:=exs ct (b6 ct F (k+1)) woB) (fun i env hh=>∃e8 e9,env=[some (.ref n),some (.ref r),some (.str way),some (.ref t),some (.ref a),some (.ref b),some (.ref x5.length),some (.str (lw L way i)),e8,e9]/\hh=x5++[.lst (((List.range i).map fun i=>lw L way (i+1)).map .str)]) (fun i env hh hP=>by
  obtain⟨_,_,_,rfl⟩:=hP;simp only[gOk,all_cons,all_nil,b7 gT5]
  simp) (u6 0 ((L.map (tlw "clear")).map .str)) 0 [some (.ref n),some (.ref r),some (.str way),some (.ref t),some (.ref a),some (.ref b),some (.ref x5.length),some (.str way),none,none] (x5++[.lst []]) (fun i x env hh hx hP=>by
  obtain⟨e8,e9,rfl,rfl⟩:=hP;obtain⟨y,hy,rfl⟩:=V5 hx;rw[ak,ak] at hy
  obtain⟨z,hz,rfl⟩:=Option.map_eq_some_iff.mp hy;obtain⟨l,hl',rfl⟩:=Option.map_eq_some_iff.mp hz;have hi:=(ac.mp hl').1
  rw[aB];have ap:=a7x (h:=x5) (xs:=((List.range i).map fun i=>lw L way (i+1)).map .str) (d:=.str (lw L way (i+1))) (by rw[aa,aa,aH];omega)
  rw[show(((List.range i).map fun i=>lw L way (i+1)).map D.str)++[.str (lw L way (i+1))]=((List.range (i+1)).map fun i=>lw L way (i+1)).map .str by rw[a1Y (fun i=>lw L way (i+1)),ao];rfl] at ap
  have iA:∀q,ixD (x5++q) (.ref a) (.int (i:Int))=.ok (fw (laS L i)) (x5++q):=fun q=>D9 (b7 gA5) (by rw[ak,aI hi];rfl)
  have iB:∀q,ixD (x5++q) (.ref b) (.int (i:Int))=.ok (fw (fiS L i)) (x5++q):=fun q=>D9 (b7 gB) (bAt i hi)
  refine⟨_,[some (.ref n),some (.ref r),some (.str way),some (.ref t),some (.ref a),some (.ref b),some (.ref x5.length),some (.str (lw L way (i+1))),some (.int (i:Int)),some (.str (tlw "clear" l))],_,rfl,?_,_,_,rfl,rfl⟩
  show exs ct (b6 ct F (k+1)) woB [some (.ref n),some (.ref r),some (.str way),some (.ref t),some (.ref a),some (.ref b),some (.ref x5.length),some (.str (lw L way i)),some (.int (i:Int)),some (.str (tlw "clear" l))] _=_
  unfold woB
  have st:ex ct (b6 ct F (k+1)) woI [some (.ref n),some (.ref r),some (.str way),some (.ref t),some (.ref a),some (.ref b),some (.ref x5.length),some (.str (lw L way i)),some (.int (i:Int)),some (.str (tlw "clear" l))] (x5++[.lst (((List.range i).map fun i=>lw L way (i+1)).map .str)])=.ok (.nx [some (.ref n),some (.ref r),some (.str way),some (.ref t),some (.ref a),some (.ref b),some (.ref x5.length),some (.str (lw L way (i+1))),some (.int (i:Int)),some (.str (tlw "clear" l))]) (x5++[.lst (((List.range i).map fun i=>lw L way (i+1)).map .str)]):=by
   unfold woI;rw[a6q,b0k rfl,d9,a3G (by decide),a3Y hl']
   by_cases cl:l.j="clear"
   · have:sgL l=false:=by unfold sgL;rw[aX cl];rfl
     have ne:¬(("clear":Str)="either"):=by decide
     rw[this,az (by decide),ay cl,show tlw "clear" l="clear" by unfold tlw;rw[ay cl]]
     simp_arith[a1i,bq ne];rfl
   · rw[az cl]
     have tw:tlw "clear" l=l.w:=by unfold tlw;rw[az cl]
     cases sg:D6 l.w with
     |true=>
      have:sgL l=true:=by unfold sgL;rw[bq cl,sg];rfl
      rw[this,ay rfl,ay rfl,tw];simp_arith[]
     | false=>
      have:sgL l=false:=by unfold sgL;rw[bq cl,sg];rfl
      have ei:l.w="either":=by
       rcases hw l (aF hl') with e|e|e
       · rw[e] at sg;exact absurd sg (by decide)
       · rw[e] at sg;exact absurd sg (by decide)
       · exact e
      rw[this,az (by decide),az (by decide),tw]
      simp_arith[a1i,aX ei,iA,iB,a6w f37]
  rw[seq st];simp_arith[G7 (b8 (h:=x5) (c:=.lst (((List.range i).map fun i=>lw L way (i+1)).map .str))),ap]) ⟨none,none,rfl,rfl⟩
 rw[N7,aa,aa,aB] at e1;rw[seq (env':=_) (h':=x5++[.lst ((a0e L way).map .str)]) (by simp_arith[U1,b7 (g:=[.lst []]) gT5,e1];rfl)]
 simp_arith[];rw[←ht];exact a2R (c:=.lst ((a0e L way).map .str)) (P5.app _) b8 P5.len (C7 _)
theorem a5J{k r p:Nat}{H:HL}(hx:ct.flds 2=[("place":Str)])(f33:F 33=some o6)(f34:F 34=some G2)(A:HallAt h n (a2P H))(hr:h[r]? =some (.lst (row.map .str)))(L:Lk (H.ls.map (·.n)) row p):b6 ct F (k+2) 34 [.ref n,.ref r,.str way] h=.ex 2 [("place",.int (p:Int))] h:=by
 have l:=a7t (ct:=ct) (c:=b6 ct F k) hx A hr row 0 p none none L;rw[aB] at l
 have c:b6 ct F (k+1) 33 [.ref n,.ref r] h=.ex 2 [("place",.int (p:Int))] h:=by
  rw[m8 f33 rfl];simp only[o6]
  show gcR 1 h (K8 (exs ct (b6 ct F k) _ [some (.ref n),some (.ref r),none,none] h))=_
  have l':T7 [(r,.lst (row.map .str))] (.tp (.cons (.nm 2) (.cons (.nm 3) .nil))) (exs ct (b6 ct F k) (.cons (.iff (.cmp .notin (.v 3) (.fld (.v 0) "letters")) (.cons (.rais 2 (.cons (.v 2) .nil)) .nil) .nil) .nil)) (u6 0 (row.map .str)) [some (.ref n),some (.ref r),none,none] h=_:=l
  simp_arith[U1,hr,l'];rfl
 rw[m8 f34 rfl];simp only[G2];rw[U0]
 show gcR 2 h (K8 ((ex ct (b6 ct F (k+1)) (.ex (.call 33 (.cons (.v 0) (.cons (.v 1) .nil)))) [some (.ref n),some (.ref r),some (.str way),none,none,none,none,none,none,none] h).bind _))=_
 have e:ex ct (b6 ct F (k+1)) (.ex (.call 33 (.cons (.v 0) (.cons (.v 1) .nil)))) [some (.ref n),some (.ref r),some (.str way),none,none,none,none,none,none,none] h=.ex 2 [("place",.int (p:Int))] h:=by simp_arith[c]
 rw[e];rfl
end
theorem a6K:∀(r pre:List (Str×D)),((pre++r).map (·.1)).Nodup->(kd r).foldl (fun a p=>a0I a p.1 p.2) (kd pre)=kd (pre++r)
 |[],pre,_=>by rw[aV];rfl
 |p::r,pre,h=>by
  have hp:p.1∉pre.map (·.1):=K9 (f:=fun q:Str×D=>q.1) h rfl
  rw[show kd (p::r)=(.str p.1,p.2)::kd r from rfl,foldl_cons]
  show List.foldl _ (a0I (kd pre) (.str p.1) p.2) (kd r)=_
  rw[a9e hp,a6K r (pre++[(p.1,p.2)]) (by rw[aA];exact h),aA]
  rfl
noncomputable def jwL(ls:List Lt):List (Str×D):=ls.map fun l=>(l.n,.tup [.str l.j,.str l.w])
theorem a9o:∀ls:List Lt,a7N (ls.map fun l=>D.tup [.str l.n,.tup [.str l.j,.str l.w]])=some (kd (jwL ls))
 |[]=>rfl
 |l::r=>by
  rw[map_cons,a7N,ay (show(K0 (D.str l.n)).isSome=true from rfl),a9o r];rfl
theorem a2p(e:h[n]? =some (.lst xs))(hd:xs[xs.length-1]? =some d):ixD h (.ref n) (.int (-1))=.ok d h:=by
 simp only[ixD,e,b6c hd]
theorem b0u{M:List Lt}:(M.map (tlw "none")).filter D6=(M.filter sgL).map (·.w):=by
 rw[filter_map,show(D6∘tlw "none")=sgL from funext fun l=>a3G (by decide)]
 exact aT fun l hl=>b3t (bc.mp hl).2
theorem b5s{k:Nat}:((((L.map (tlw "none")).take k).filter D6).getLast?)=(laS L k).map (·.w):=by
 rw[←map_take,b0u,List.getLast?_map]
 unfold laS;rw[←List.head?_filter,List.filter_reverse,List.head?_reverse]
theorem b5t{k:Nat}:((((L.map (tlw "none")).drop (k+1)).filter D6).head?)=(fiS L k).map (·.w):=by
 rw[←map_drop,b0u,List.head?_map]
 unfold fiS;rw[List.head?_filter]
variable{q:Nat}
section
variable{F:Nat->Option Fn}
theorem b3O(he:env[0]? =some (some (.str y))):tst ct c duT env h=.ok (D6 y) h:=by
 have e2:(v5 (.str y)&&[D.str "left",.str "right"].all v5)=true:=rfl
 have:op2 .isin h (.str y) (.tup [.str "left",.str "right"])=.ok (.bl (D6 y)) h:=by
  simp only[op2,U6,e2,if_true,b3w]
  cases D6 y<;>rfl
 unfold duT;simp_arith[he,this]
theorem b0N{a:E}{S:List Str}{x:AH}(ha:ev ct c a env h=.ok (.ref s) x)(hs:x[s]? =some (.lst (S.map .str)))(hl:S.length<=1000):ev ct c (.comp (.nm 0) (.seq a) 1 [] duT (.v 0)) env h=.ok (.ref x.length) (x++[.lst ((S.filter D6).map .str)]):=by
 rw[E6 (l:=S.map .str) (g:=[(s,.lst (S.map .str))]) (h1:=x) (by simp_arith[ha,V9,hs]) (by simp only[gOk,all_cons,all_nil,hs];simp) (fun d=>match d with
  |.str y=>D6 y
  |_=>false) (fun d=>d) (fun d=>[some d]) (fun d hd=>by
  obtain⟨y,_,rfl⟩:=am.mp hd;exact⟨rfl,b3O rfl,fun _=>by simp_arith[]⟩) (by rw[aa];show _<=16777216;omega)]
 refine congrArg (fun q=>R.ok (D.ref x.length) (x++[Cell.lst q])) ?_
 rw[filter_map,aG];rfl
theorem b0K {r kd' sg du k:Nat} {l:Lt} {e7 e8:Option D} {x:AH} (hw:∀l∈L,l.w="left"∨l.w="right"∨l.w="either") (P:Pf x h) (hs:x[sg]? =some (.lst ((L.map (tlw "none")).map .str))) (hd:h[du]? =some (.lst (((List.range k).map fun i=>lw L way (i+1)).map .str))) (hx:x.length<=du) (hl:L[k]? =some l) (hL:L.length<=1000):
 ∃e7' e8' h',exs ct c duB [some (.ref q),some (.ref r),some (.str way),some (.ref kd'),some (.ref sg),some (.ref du),some (.int (k:Int)),e7,e8] h=.ok (.nx [some (.ref q),some (.ref r),some (.str way),some (.ref kd'),some (.ref sg),some (.ref du),some (.int (k:Int)),e7',e8']) h'/\Pf x h'/\h'[du]? =some (.lst (((List.range (k+1)).map fun i=>lw L way (i+1)).map .str)):=by
 have hk:=(ac.mp hl).1
 have kS:k<=((L.map (tlw "none")).map D.str).length:=by rw[aa,aa];omega
 have s1:slD h none (some (k:Int)) (.ref sg)=.ok (.ref h.length) (h++[.lst (((L.map (tlw "none")).take k).map .str)]):=by
  rw[N3 (P.at hs),map_take];unfold U2;rw[HT.b1K,HT.a8P,Nat.sub_zero,drop_zero,aY kS]
 have a1:(k:Int)+1=((k+1:Nat):Int):=by omega
 have cA:=b0N (ct:=ct) (c:=c) (a:=.sl (.v 4) .no (.at (.v 6))) (S:=(L.map (tlw "none")).take k) (env:=[some (.ref q),some (.ref r),some (.str way),some (.ref kd'),some (.ref sg),some (.ref du),some (.int (k:Int)),e7,e8]) (h:=h) (s:=h.length) (by simp_arith[s1]) b8 (by rw[aK,aa];omega)
 have P1:=(P.app [Cell.lst (((L.map (tlw "none")).take k).map D.str)]).app [Cell.lst ((((L.map (tlw "none")).take k).filter D6).map D.str)];have d1:=b7 (g:=[Cell.lst ((((L.map (tlw "none")).take k).filter D6).map D.str)]) (b7 (g:=[Cell.lst (((L.map (tlw "none")).take k).map D.str)]) hd)
 have gA:(h++[Cell.lst (((L.map (tlw "none")).take k).map D.str)]++[Cell.lst ((((L.map (tlw "none")).take k).filter D6).map D.str)])[(h++[Cell.lst (((L.map (tlw "none")).take k).map D.str)]).length]? =some (.lst ((((L.map (tlw "none")).take k).filter D6).map .str)):=b8
 generalize (h++[Cell.lst (((L.map (tlw "none")).take k).map D.str)]).length=ai at cA gA;generalize h++[Cell.lst (((L.map (tlw "none")).take k).map D.str)]++[Cell.lst ((((L.map (tlw "none")).take k).filter D6).map D.str)]=h2 at cA gA P1 d1
 have s2:slD h2 (some ((k+1:Nat):Int)) none (.ref sg)=.ok (.ref h2.length) (h2++[.lst (((L.map (tlw "none")).drop (k+1)).map .str)]):=by
  rw[N3 (P1.at hs),O1,map_drop]
 have cZ:=b0N (ct:=ct) (c:=c) (a:=.sl (.v 4) (.at (.bin .add (.v 6) (.k (.int (1))))) .no) (S:=(L.map (tlw "none")).drop (k+1)) (env:=[some (.ref q),some (.ref r),some (.str way),some (.ref kd'),some (.ref sg),some (.ref du),some (.int (k:Int)),some (.ref ai),e8]) (h:=h2) (s:=h2.length) (by simp_arith[b8x,a1,s2]) b8 (by rw[br,aa];omega)
 have P2:=(P1.app [Cell.lst (((L.map (tlw "none")).drop (k+1)).map D.str)]).app [Cell.lst ((((L.map (tlw "none")).drop (k+1)).filter D6).map D.str)];have d2:=b7 (g:=[Cell.lst ((((L.map (tlw "none")).drop (k+1)).filter D6).map D.str)]) (b7 (g:=[Cell.lst (((L.map (tlw "none")).drop (k+1)).map D.str)]) d1);have gA2:=b7 (g:=[Cell.lst ((((L.map (tlw "none")).drop (k+1)).filter D6).map D.str)]) (b7 (g:=[Cell.lst (((L.map (tlw "none")).drop (k+1)).map D.str)]) gA)
 have gZ:(h2++[Cell.lst (((L.map (tlw "none")).drop (k+1)).map D.str)]++[Cell.lst ((((L.map (tlw "none")).drop (k+1)).filter D6).map D.str)])[(h2++[Cell.lst (((L.map (tlw "none")).drop (k+1)).map D.str)]).length]? =some (.lst ((((L.map (tlw "none")).drop (k+1)).filter D6).map .str)):=b8
 generalize (h2++[Cell.lst (((L.map (tlw "none")).drop (k+1)).map D.str)]).length=zi at cZ gZ;generalize h2++[Cell.lst (((L.map (tlw "none")).drop (k+1)).map D.str)]++[Cell.lst ((((L.map (tlw "none")).drop (k+1)).filter D6).map D.str)]=h3 at cZ gZ P2 d2 gA2;have la:=b5s (L:=L) (k:=k);have fi:=b5t (L:=L) (k:=k);generalize ((L.map (tlw "none")).take k).filter D6=A at cA gA2 la;generalize ((L.map (tlw "none")).drop (k+1)).filter D6=Z at cZ gZ fi
 have iS:ixD h3 (.ref sg) (.int (k:Int))=.ok (.str (tlw "none" l)) h3:=D9 (P2.at hs) (by rw[ak,ak,hl];rfl)
 have mt:=G7 d2
 have dl:(((List.range k).map fun i=>lw L way (i+1)).map D.str).length<1000000:=by rw[aa,aa,aH];omega
 have fin:∀{h4:AH} {v:Str},Pf x h4->h4[du]? =some (.lst (((List.range k).map fun i=>lw L way (i+1)).map .str))->v=lw L way (k+1)->mtD .append h4 (.ref du) [.str v]=.ok .non (h4.set du (.lst (((List.range k).map fun i=>lw L way (i+1)).map .str++[.str v])))/\Pf x (h4.set du (.lst (((List.range k).map fun i=>lw L way (i+1)).map .str++[.str v])))/\(h4.set du (.lst (((List.range k).map fun i=>lw L way (i+1)).map .str++[.str v])))[du]? =some (.lst (((List.range (k+1)).map fun i=>lw L way (i+1)).map .str)):=fun{h4 v} p4 g4 e=>by
  refine⟨S7 g4 dl,p4.set hx,?_⟩
  rw[B6 g4,a1Y (fun i=>lw L way (i+1)),ao,e]
  rfl
 unfold duB;rw[seq (env':=[some (.ref q),some (.ref r),some (.str way),some (.ref kd'),some (.ref sg),some (.ref du),some (.int (k:Int)),some (.ref ai),e8]) (h':=h2) (by unfold duA;rw[Q9,cA,d9];rfl)]
 rw[seq (env':=[some (.ref q),some (.ref r),some (.str way),some (.ref kd'),some (.ref sg),some (.ref du),some (.int (k:Int)),some (.ref ai),some (.ref zi)]) (h':=h3) (by unfold duZ;rw[Q9,cZ,d9];rfl)]
 by_cases cl:l.j="clear"
 · have tn:tlw "none" l="none":=by unfold tlw;rw[ay cl]
   have lv:lw L way (k+1)=lw L way k:=by rw[a3Y hl,ay cl]
   -- the last one told, or the row's way
   have d3:=b7 (g:=[Cell.lst [D.str way]]) d2
   have g3:(h3++[Cell.lst [D.str way]])[h3.length]? =some (.lst [D.str way]):=b8
   have ad:op2 .add (h3++[Cell.lst [D.str way]]) (.ref h3.length) (.ref du)=.ok (.ref (h3++[Cell.lst [D.str way]]).length) (h3++[Cell.lst [D.str way]]++[.lst (D.str way::((List.range k).map fun i=>lw L way (i+1)).map .str)]):=by
    rw[show∀h a b,op2 .add h a b=O2 h a b from fun _ _ _=>rfl,a4D g3 d3 (by rw[aa,aa,aH];simp only[length_cons,length_nil];omega)]
    rfl
   have ls:ixD (h3++[Cell.lst [D.str way]]++[Cell.lst (D.str way::((List.range k).map fun i=>lw L way (i+1)).map .str)]) (.ref (h3++[Cell.lst [D.str way]]).length) (.int (-1))=.ok (.str (lw L way k)) (h3++[Cell.lst [D.str way]]++[Cell.lst (D.str way::((List.range k).map fun i=>lw L way (i+1)).map .str)]):=a2p b8 (by
    rw[length_cons,aa,aa,aH,Nat.add_sub_cancel]
    cases k with
    |zero=>rfl
    |succ k=>
     rw[List.getElem?_cons_succ,ak,ak,aI (aP k)]
     rfl)
   obtain⟨f1,f2,f3⟩:=fin ((P2.app [Cell.lst [D.str way]]).app [Cell.lst (D.str way::((List.range k).map fun i=>lw L way (i+1)).map .str)]) (b7 (g:=[Cell.lst (D.str way::((List.range k).map fun i=>lw L way (i+1)).map .str)]) d3) lv.symm
   refine⟨some (.ref ai),some (.ref zi),_,?_,f2,f3⟩
   unfold duN;simp_arith[iS,tn,a1i,decide_true,mt,z5,ad,ls,f1]
 · have tn :tlw "none" l=l.w:=by unfold tlw;rw[az cl]
   have hwl:=hw l (aF hl)
   have n0:¬l.w="none":=by rcases hwl with e|e|e<;>rw[e]<;>decide
   have lv:lw L way (k+1)=if D6 l.w=true then l.w else b0X (laS L k) (fiS L k) way:=by rw[a3Y hl,az cl]
   by_cases ei:l.w="either"
   · have sf:D6 l.w=false:=by rw[ei];decide
     rw[sf,az (by decide)] at lv
     have lA:biD .len h3 [.ref ai]=.ok (.int (A.length:Int)) h3:=by rw[t7 gA2,aa]
     have lZ:biD .len h3 [.ref zi]=.ok (.int (Z.length:Int)) h3:=by rw[t7 gZ,aa]
     have gt:∀(n:Nat) h,op2 .gt h (.int (n:Int)) (.int 0)=.ok (.bl (decide ((0:Int)<(n:Int)))) h:=fun n h=>rfl
     have wayC:b0X (laS L k) (fiS L k) way=way->tst ct c duC [some (.ref q),some (.ref r),some (.str way),some (.ref kd'),some (.ref sg),some (.ref du),some (.int (k:Int)),some (.ref ai),some (.ref zi)] h3=.ok false h3->∃e7' e8' h',exs ct c (.cons (.iff (.cmp .eq (.ix (.v 4) (.v 6)) (.k (.str "none"))) duN (.cons duW .nil)) .nil) [some (.ref q),some (.ref r),some (.str way),some (.ref kd'),some (.ref sg),some (.ref du),some (.int (k:Int)),some (.ref ai),some (.ref zi)] h3=.ok (.nx [some (.ref q),some (.ref r),some (.str way),some (.ref kd'),some (.ref sg),some (.ref du),some (.int (k:Int)),e7',e8']) h'/\Pf x h'/\h'[du]? =some (.lst (((List.range (k+1)).map fun i=>lw L way (i+1)).map .str)):=fun hb ht=>by
      obtain⟨f1,f2,f3⟩:=fin P2 d2 (v:=way) (by rw[lv,hb])
      refine⟨some (.ref ai),some (.ref zi),_,?_,f2,f3⟩
      unfold duW duE;simp_arith[iS,tn,a1i,bq n0,b2r,aX ei,Bool.not_true,ht,mt,f1]
     by_cases cA:(0:Int)<(A.length:Int)
     · by_cases cZ:(0:Int)<(Z.length:Int)
       · obtain⟨a,ha⟩:∃a,A.getLast? =some a:=by
          cases q:A.getLast? with
          |some a=>exact⟨a,rfl⟩
          |none=>rw[List.getLast?_eq_none_iff] at q;rw[q] at cA;simp at cA
         obtain⟨z,hz⟩:∃z,Z.head? =some z:=by
          cases Z with
          |nil=>simp at cZ
          |cons z t=>exact⟨z,rfl⟩
         rw[ha] at la;rw[hz] at fi;obtain⟨la',e1,rfl⟩:=Option.map_eq_some_iff.mp la.symm;obtain⟨fi',e2,rfl⟩:=Option.map_eq_some_iff.mp fi.symm
         have iA:ixD h3 (.ref ai) (.int (-1))=.ok (.str la'.w) h3:=a2p gA2 (by
          rw[aa,ak]
          rw[List.getLast?_eq_getElem?] at ha
          rw[ha]
          rfl)
         have iZ:ixD h3 (.ref zi) (.int 0)=.ok (.str fi'.w) h3:=w5 0 0 rfl gZ (d:=.str fi'.w) (by
          cases Z with
          |nil=>cases hz
          |cons z t=>cases hz;rfl)
         rw[e1,e2] at lv wayC
         by_cases w:la'.w=fi'.w
         · have lv':la'.w=lw L way (k+1):=by rw[lv];show _=(if la'.w=fi'.w then la'.w else way);rw[ay w]
           obtain⟨f1,f2,f3⟩:=fin P2 d2 lv';refine⟨some (.ref ai),some (.ref zi),_,?_,f2,f3⟩
           unfold duW duE duC;simp_arith[iS,tn,a1i,bq n0,b2r,aX ei,Bool.not_true,lA,lZ,gt,aX cA,aX cZ,iA,iZ,aX w,mt,f1]
         · refine wayC (az w) ?_
           unfold duC;simp_arith[lA,lZ,gt,aX cA,aX cZ,iA,iZ,a1i,bq w]
       · have hz:Z.head? =none:=by
          cases Z with
          |nil=>rfl
          |cons z t=>exact absurd (by simp only[length_cons];omega) cZ
         rw[hz] at fi
         refine wayC (by
          rw[Option.map_eq_none_iff.mp fi.symm]
          cases laS L k<;>rfl) ?_
         unfold duC;simp_arith[lA,lZ,gt,aX cA,bq cZ]
     · have ha:A.getLast? =none:=by
        cases A with
        |nil=>rfl
        |cons z t=>exact absurd (by simp only[length_cons];omega) cA
       rw[ha] at la;refine wayC (by rw[Option.map_eq_none_iff.mp la.symm];rfl) ?_
       unfold duC;simp_arith[lA,gt,bq cA]
   · have st:D6 l.w=true:=by
      rcases hwl with e|e|e
      · rw[e];decide
      · rw[e];decide
      · exact absurd e ei
     rw[st,ay rfl] at lv;obtain⟨f1,f2,f3⟩:=fin P2 d2 lv.symm;refine⟨some (.ref ai),some (.ref zi),_,?_,f2,f3⟩
     unfold duW;simp_arith[iS,tn,a1i,bq n0,b2r,bq ei,Bool.not_false,mt,f1]
theorem b3c{k r:Nat}(hF:F 217=some N6)(lo:∀l∈ls,LtOk sh l)(nd:(ls.map (·.n)).Nodup)(hq:h[q]? =some (.lst (ls.map ltD)))(l6:ls.length<=1000)(hr:h[r]? =some (.lst (row.map .str)))(hin:∀x∈row,x∈ls.map (·.n))(hl:row.length<=1000):
 b6 ct F (k+1) 217 [.ref q,.ref r,.str way] h=.ok (.ref h.length) (h++[.lst ((a0e (row.map (J5 ls)) way).map .str)]):=by
 have cK:ev ct (b6 ct F k) (.comp (.tp (.cons (.nm 0) (.cons (.nm 1) (.cons (.nm 2) (.cons (.nm 3) .nil))))) (.seq (.v 0)) 4 [] .yes (.tup (.cons (.v 0) (.cons (.tup (.cons (.v 1) (.cons (.v 2) .nil))) .nil)))) [some (.ref q),some (.ref r),some (.str way),none,none,none,none,none,none] h=.ok (.ref h.length) (h++[.lst (ls.map fun l=>D.tup [.str l.n,.tup [.str l.j,.str l.w]])]):=by
  rw[u5 (l:=ls.map ltD) (g:=[(q,.lst (ls.map ltD))]) (h1:=h) (by simp_arith[V9,hq]) (by simp only[gOk,all_cons,all_nil,hq];simp) (fun x=>match x with
   |.tup [a,b,c,_]=>.tup [a,.tup [b,c]]
   |_=>.non) (fun x=>match x with
   |.tup [a,b,c,d]=>[some a,some b,some c,some d]
   |_=>[]) (fun x hx=>by
   obtain⟨l,_,rfl⟩:=am.mp hx;refine⟨rfl,?_⟩
   unfold ltD;simp_arith[]) (by rw[aa];show _<=16777216;omega)]
  congr 3;rw[aG];rfl
 have gK:(h++[Cell.lst (ls.map fun l=>D.tup [.str l.n,.tup [.str l.j,.str l.w]])])[h.length]? =some (.lst (ls.map fun l=>D.tup [.str l.n,.tup [.str l.j,.str l.w]])):=b8
 have P1:=(Pf.refl h).app [Cell.lst (ls.map fun l=>D.tup [.str l.n,.tup [.str l.j,.str l.w]])]
 generalize h++[Cell.lst (ls.map fun l=>D.tup [.str l.n,.tup [.str l.j,.str l.w]])]=x1 at cK gK P1
 have dk:∃y,biD .dict x1 [.ref h.length]=.ok (.ref y) (x1++[.dict (kd (jwL ls))])/\(x1++[Cell.dict (kd (jwL ls))])[y]? =some (.dict (kd (jwL ls))):=by
  have fo:(kd (jwL ls)).foldl (fun a p=>a0I a p.1 p.2) []=kd (jwL ls):=a6K (jwL ls) [] (by rw[nil_append];unfold jwL;rw[aG];exact nd)
  refine⟨x1.length,?_,b8⟩
  simp only[biD,gK,rd_of gK,a9o,fo,z5]
 obtain⟨y,dk,gD⟩:=dk;have P2:=P1.app [Cell.dict (kd (jwL ls))];generalize x1++[Cell.dict (kd (jwL ls))]=x2 at dk gD P2
 have lk:∀{z:Str},z∈row->ixD x2 (.ref y) (.str z)=.ok (.tup [.str (J5 ls z).j,.str (J5 ls z).w]) x2:=fun hz=>b3z (fun l=>.tup [.str l.j,.str l.w]) gD (hin _ hz)
 have cS:ev ct (b6 ct F k) duS [some (.ref q),some (.ref r),some (.str way),some (.ref y),none,none,none,none,none] x2=.ok (.ref x2.length) (x2++[.lst (((row.map (J5 ls)).map (tlw "none")).map .str)]):=by
  unfold duS
  rw[u5 (l:=row.map .str) (g:=[(r,.lst (row.map .str))]) (h1:=x2) (by simp_arith[V9,P2.at hr]) (by simp only[gOk,all_cons,all_nil,P2.at hr];simp) (fun x=>match x with
   |.str z=>.str (tlw "none" (J5 ls z))
   |_=>.non) (fun x=>[some x,some (.ref y)]) (fun x hx=>by
   obtain⟨z,hz,rfl⟩:=am.mp hx;refine⟨rfl,?_⟩
   have i1:∀(a b:D) h,ixD h (.tup [a,b]) (.int 1)=.ok b h:=fun a b h=>ix_tup (i:=1) rfl
   unfold tlw
   by_cases e:(J5 ls z).j="clear"
   · simp only[ay e];simp_arith[a4q,lk hz,a2J,a1i,aX e]
   · simp only[az e];simp_arith[a4q,lk hz,a2J,a1i,bq e,i1]) (by rw[aa];show _<=16777216;omega)]
  congr 3;rw[aG,aG,aG];rfl
 have hw:∀l∈row.map (J5 ls),l.w="left"∨l.w="right"∨l.w="either":=fun l hl=>by
  obtain⟨z,hz,rfl⟩:=am.mp hl;exact(lo _ (a9N (hin z hz))).ws
 have lL:(row.map (J5 ls)).length=row.length:=aa _
 generalize row.map (J5 ls)=L at cS hw lL
 have gS:(x2++[Cell.lst ((L.map (tlw "none")).map D.str)])[x2.length]? =some (.lst ((L.map (tlw "none")).map .str)):=b8
 have P3:=P2.app [Cell.lst ((L.map (tlw "none")).map D.str)];generalize x2.length=sg at cS gS;generalize x2++[Cell.lst ((L.map (tlw "none")).map D.str)]=x3 at cS gS P3
 have ln:biD .len (x3++[Cell.lst []]) [.ref r]=.ok (.int (L.length:Int)) (x3++[Cell.lst []]):=by rw[t7 (b7 (P3.at hr)),aa,lL]
 obtain⟨env',g',e1,e6,e7,e8,rfl,q1,q2⟩:=E8 (g:=[]) (p:=.nm 6) (body:=exs ct (b6 ct F k) duB) (fun i env hh=>∃e6 e7 e8,env=[some (.ref q),some (.ref r),some (.str way),some (.ref y),some (.ref sg),some (.ref x3.length),e6,e7,e8]/\Pf x3 hh/\hh[x3.length]? =some (.lst (((List.range i).map fun i=>lw L way (i+1)).map .str))) (fun _ _ _ _=>rfl) ((List.range L.length).map fun i=>.int ((0:Int)+(i:Nat))) 0 [some (.ref q),some (.ref r),some (.str way),some (.ref y),some (.ref sg),some (.ref x3.length),none,none,none] (x3++[.lst []]) (fun i x env hh hx hP=>by
  obtain⟨e6,e7,e8,rfl,p1,p2⟩:=hP;obtain⟨hi,rfl⟩:=a1Z hx;rw[aB] at p2⊢;obtain⟨e7',e8',h',t1,t2,t3⟩:=b0K (ct:=ct) (c:=b6 ct F k) (q:=q) (r:=r) (kd':=y) (e7:=e7) (e8:=e8) hw p1 gS p2 (aj _) (af hi) (by omega)
  exact⟨_,_,h',rfl,t1,_,_,_,rfl,t2,t3⟩) ⟨none,none,none,rfl,(Pf.refl x3).app _,b8⟩
 rw[aa,aH,aB] at q2;rw[m8 hF rfl];simp only[N6]
 show gcR 2 h (K8 (exs ct (b6 ct F k) _ [some (.ref q),some (.ref r),some (.str way),none,none,none,none,none,none] h))=_
 rw[seq (env':=[some (.ref q),some (.ref r),some (.str way),some (.ref y),none,none,none,none,none]) (h':=x2) (by unfold duK;simp_arith[cK,dk])]
 rw[seq (env':=[some (.ref q),some (.ref r),some (.str way),some (.ref y),some (.ref sg),none,none,none,none]) (h':=x3) (by rw[Q9,cS,d9];rfl)]
 rw[seq (env':=[some (.ref q),some (.ref r),some (.str way),some (.ref y),some (.ref sg),some (.ref x3.length),none,none,none]) (h':=x3++[.lst []]) (by simp_arith[z5])]
 rw[seq (env':=[some (.ref q),some (.ref r),some (.str way),some (.ref y),some (.ref sg),some (.ref x3.length),e6,e7,e8]) (h':=g') (by simp_arith[ln,a0p (h:=x3++[.lst []]) (m:=L.length) (by omega),e1])]
 simp_arith[];exact a2R (c:=.lst ((a0e L way).map .str)) (P3.trans q1) q2 P3.len (C7 _)
end
theorem inS{x:Str}:∀{fs:List Str},inD (.str x) (fs.map .str)=decide (x∈fs)
 |[]=>by simp[inD]
 |y::r=>by
  have:=inS (x:=x) (fs:=r)
  unfold inD at this⊢;rw[map_cons,any_cons,this]
  by_cases e:x=y
  · subst e;simp[eqF,eqS]
  · simp[eqF,eqS,e,Ne.symm e]
theorem a9F{l:List Str}(hn:h[n]? =some (.lst (l.map .str))):op2 .notin h (.str x) (.ref n)=.ok (.bl (!decide (x∈l))) h:=by
 have e:(v5 (.str x)&&(l.map D.str).all v5)=true:=by rw[a1g];rfl
 simp only[op2,U6,hn,e,if_true,inS]
 cases decide (x∈l)<;>rfl
section
variable{F:Nat->Option Fn}
theorem a5V{k r p:Nat}{H:HL}(hx:ct.flds 2=[("place":Str)])(s0:ct.sub 2 0=true)(s2:ct.sub 2 2=true)(s1:ct.sub 2 1=false)(s3:ct.sub 2 3=false)(s4:ct.sub 2 4=false)(s5:ct.sub 2 5=false)(f33:F 33=some o6)(f34:F 34=some G2)(hF:F 219=some E2)(A:HallAt h n (a2P H))(hr:h[r]? =some (.lst (row.map .str)))(L:Lk (H.ls.map (·.n)) row p):
 b6 ct F (k+3) 219 [.ref n,.ref r,.int (p:Int)] h=.ok (.bl true) h:=by
 have fr:=a5J (ct:=ct) (F:=F) (k:=k) (way:="left") hx f33 f34 A hr L
 have g:(h++[Cell.exc 2 [("place",.int (p:Int))]])[h.length]? =some (.exc 2 [("place",.int (p:Int))]):=b8
 have P:=(Pf.refl h).app [Cell.exc 2 [("place",D.int (p:Int))]]
 have tr:ex ct (b6 ct F (k+2)) (.tryc 34 (.cons (.v 0) (.cons (.v 1) (.cons (.k (.str "left")) .nil))) 0 4 3) [some (.ref n),some (.ref r),some (.int (p:Int)),some .non,none,none] h=.ok (.nx [some (.ref n),some (.ref r),some (.int (p:Int)),some (.ref h.length),none,none]) (h++[.exc 2 [("place",.int (p:Int))]]):=by
  rw[ex];simp_arith[];rw[show noex (R.ok [D.ref n,D.ref r,D.str "left"] h)=.ok [D.ref n,D.ref r,D.str "left"] h from rfl,d9,fr]
  simp only
  rw[ay ⟨s0,trivial⟩]
 generalize h++[Cell.exc 2 [("place",D.int (p:Int))]]=x at g P tr
 have is:∀{t:AH} {j:Nat} {b:Bool},ct.sub 2 j=b->a0N ct (x++t) (.c j) (.ref h.length)=some b:=fun{t j b} e=>by
  have:=b7 (g:=t) g
  simp only[a0N,this,e]
 have is0:∀{j:Nat} {b:Bool},ct.sub 2 j=b->a0N ct x (.c j) (.ref h.length)=some b:=fun e=>by
  simp only[a0N,g,e]
 have iv:a0N ct x (.b "ValueError") (.ref h.length)=some true:=by simp only[a0N,g];rfl
 have gO:(x++[Cell.lst [.bl false,.bl false,.bl false]]++[Cell.lst [.bl false,.bl false,.bl false]])[x.length]? =some (.lst [.bl false,.bl false,.bl false]):=b7 b8
 have gP:(x++[Cell.lst [.bl false,.bl false,.bl false]]++[Cell.lst [.bl false,.bl false,.bl false]])[(x++[Cell.lst [.bl false,.bl false,.bl false]]).length]? =some (.lst [.bl false,.bl false,.bl false]):=b8
 have eq:op2 .eq (x++[Cell.lst [.bl false,.bl false,.bl false]]++[Cell.lst [.bl false,.bl false,.bl false]]) (.ref x.length) (.ref (x++[Cell.lst [D.bl false,.bl false,.bl false]]).length)=.ok (.bl true) (x++[Cell.lst [.bl false,.bl false,.bl false]]++[Cell.lst [.bl false,.bl false,.bl false]]):=by
  show J8 _ (.ref _) (.ref _)=_
  unfold J8;rw[show∀i j,eqS (.ref i) (.ref j)=none from fun _ _=>rfl]
  have e1:a5r (x++[Cell.lst [.bl false,.bl false,.bl false]]++[Cell.lst [.bl false,.bl false,.bl false]]) (.ref x.length) (.ref (x++[Cell.lst [D.bl false,.bl false,.bl false]]).length)=some true:=by
   simp only[a5r,rd_of gO,rd_of gP];rfl
  simp only[e1];rfl
 have fl:T8 (x++[Cell.lst [.bl false,.bl false,.bl false]]++[Cell.lst [.bl false,.bl false,.bl false]]) "place" (.ref h.length)=.ok (.int (p:Int)) (x++[Cell.lst [.bl false,.bl false,.bl false]]++[Cell.lst [.bl false,.bl false,.bl false]]):=by
  have:=b7 (g:=[Cell.lst [.bl false,.bl false,.bl false]]) (b7 (g:=[Cell.lst [.bl false,.bl false,.bl false]]) g)
  simp only[T8,this];rfl
 have i5:=is (t:=[Cell.lst [.bl false,.bl false,.bl false]]++[Cell.lst [.bl false,.bl false,.bl false]]) s5;rw[←aA] at i5
 have eqp:∀h,op2 .eq h (.int (p:Int)) (.int (p:Int))=.ok (.bl true) h:=fun h=>by
  show R.ok (D.bl (decide ((p:Int)=(p:Int)))) h=_
  simp
 rw[m8 hF rfl];simp only[E2]
 show gcR 1 h (K8 (exs ct (b6 ct F (k+2)) _ [some (.ref n),some (.ref r),some (.int (p:Int)),none,none,none] h))=_
 rw[seq (env':=[some (.ref n),some (.ref r),some (.int (p:Int)),some .non,none,none]) (h':=h) (by simp_arith[]),seq tr]
 rw[seq (env':=[some (.ref n),some (.ref r),some (.int (p:Int)),some (.ref h.length),none,none]) (h':=x) (by simp_arith[is0 s2,iv,Bool.not_true])]
 rw[seq (env':=[some (.ref n),some (.ref r),some (.int (p:Int)),some (.ref h.length),none,some (.ref x.length)]) (h':=x++[.lst [.bl false,.bl false,.bl false]]) (by simp_arith[is0 s1,is0 s3,is0 s4,z5])]
 simp_arith[z5,eq,i5,Bool.not_false,fl,eqp];exact b7K ((P.app _).app _) rfl
theorem a8R{k L:Nat}(f202:F 202=some n8)(hF:F 216=some F7)(hr:h[s]? =some (.rol (ns.map .int)))(hns:ns.length<=63)(hL:h[L]? =some (.lst (ls.map ltD)))(h1:1<=ls.length):
 ∃row:List Str,row.length<=63/\b6 ct F (k+2) 216 [.ref s,.int 5,.int 60,.ref L] h=.ok (.ref h.length) (h++[.lst (row.map .str)]):=by
 obtain⟨zs,z1,z2⟩:=b0O ns (some 5) (some 65)
 have sl:slD h (some 5) (some 65) (.ref s)=.ok (.ref h.length) (h++[.lst (zs.map .int)]):=by
  rw[←z1];simp only[slD,rdL,hr];rfl
 have gZ:(h++[Cell.lst (zs.map D.int)])[h.length]? =some (.lst (zs.map .int)):=b8
 have hL1:=b7 (g:=[.lst (zs.map .int)]) hL;have P:=(Pf.refl h).app [Cell.lst (zs.map D.int)];generalize hx:h++[Cell.lst (zs.map D.int)]=x1 at sl gZ hL1 P
 have le:biD .len x1 [.ref L]=.ok (.int (ls.length:Int)) x1:=by rw[t7 hL1,aa]
 have mx:∀(c:Int) (j:Nat),j<=1000->∃M:Nat,b6 ct F (k+1) 202 [.int c,.int (j:Int)] x1=.ok (.int (M:Int)) x1:=fun c j hj=>C6 (ct:=ct) (k:=k) f202 (by omega)
 let Mx:Int->Nat->Nat:=fun c j=>if hj:j<=1000 then Classical.choose (mx c j hj) else 0
 have Mxe:∀(c:Int) (j:Nat),j<=1000->b6 ct F (k+1) 202 [.int c,.int (j:Int)] x1=.ok (.int (Mx c j:Int)) x1:=fun c j hj=>by
  have:=Classical.choose_spec (mx c j hj)
  simp only[Mx,hj,dite_true];exact this
 let nmz:Nat->Str:=fun z=>(ls.getD (z%ls.length) ⟨"","","",[]⟩).n
 have nz:∀z,ixD x1 (.ref L) (.int ((z%ls.length:Nat):Int))=.ok (ltD (ls.getD (z%ls.length) ⟨"","","",[]⟩)) x1:=fun z=>by
  have hz:z%ls.length<ls.length:=Nat.mod_lt _ (by omega)
  have g:ls.getD (z%ls.length) ⟨"","","",[]⟩=ls[z%ls.length]:=by rw[bo,af hz];rfl
  rw[g];exact D9 hL1 (by rw[ak,af hz];rfl)
 have lt0:∀(l:Lt) h,ixD h (ltD l) (.int 0)=.ok (.str l.n) h:=fun l h=>ix_tup (i:=0) rfl
 have cm:∃row:List Str,row.length<=63/\ev ct (b6 ct F (k+1)) rbC [some (.ref s),some (.int 5),some (.int 60),some (.ref L),some (.ref h.length)] x1=.ok (.ref x1.length) (x1++[.lst (row.map .str)]):=by
  refine⟨(u6 0 (zs.map .int)).map fun d=>match d with
   |.tup [.int i,.int c]=>nmz (Mx c i.toNat)
   |_=>"",by rw[aa,N7,aa];omega,?_⟩
  unfold rbC
  rw[u5 (l:=u6 0 (zs.map .int)) (g:=[(h.length,.lst (zs.map .int))]) (h1:=x1) (by simp_arith[U1,gZ]) (by simp only[gOk,all_cons,all_nil,gZ];simp) (fun d=>.str (match d with
   |.tup [.int i,.int c]=>nmz (Mx c i.toNat)
   |_=>"")) (fun d=>match d with
   |.tup [x,y]=>[some x,some y,some (.ref L)]
   |_=>[]) (fun d hd=>by
   obtain⟨j,hj⟩:=aW hd
   obtain⟨y,hy,rfl⟩:=V5 hj;rw[ak] at hy
   obtain⟨c,hc,rfl⟩:=Option.map_eq_some_iff.mp hy;have jl:=(ac.mp hc).1
   refine⟨rfl,?_⟩
   simp only[Int.toNat_natCast,aB];have m:=Mxe c j (by omega)
   have md:y9 x1 (.int (Mx c j:Int)) (.int (ls.length:Int))=.ok (.int ((Mx c j%ls.length:Nat):Int)) x1:=G0 ls.length (by omega)
   simp_arith[m,le,op2,md,nz (Mx c j),lt0]
   rfl) (by rw[N7,aa];show _<=16777216;omega)]
  rw[aG];rfl
 obtain⟨row,r1,r2⟩:=cm;refine⟨row,r1,?_⟩
 rw[m8 hF rfl];simp only[F7]
 show gcR 2 h (K8 (exs ct (b6 ct F (k+1)) _ [some (.ref s),some (.int 5),some (.int 60),some (.ref L),none] h))=_
 have a5:op2 .add h (.int 5) (.int 60)=.ok (.int 65) h:=rfl
 rw[seq (env':=[some (.ref s),some (.int 5),some (.int 60),some (.ref L),some (.ref h.length)]) (h':=x1) (by simp_arith[a5,sl])]
 rw[U0,a6p,r2,d9,d9];exact a2R (c:=.lst (row.map .str)) (P.app _) b8 P.len (C7 _)
theorem a2k{a:E}(ha:ev ct c a env h=.ok (.ref q) h)(hL:h[q]? =some (.lst (ls.map ltD)))(hl:ls.length<=1000):ev ct c (.comp (.nm 0) (.seq a) 1 [] .yes (.ix (.v 0) (.k (.int (0))))) env h=.ok (.ref h.length) (h++[.lst ((ls.map (·.n)).map .str)]):=by
 have lt0:∀(l:Lt) h,ixD h (ltD l) (.int 0)=.ok (.str l.n) h:=fun l h=>ix_tup (i:=0) rfl
 rw[u5 (l:=ls.map ltD) (g:=[(q,.lst (ls.map ltD))]) (h1:=h) (by simp_arith[ha,V9,hL]) (by simp only[gOk,all_cons,all_nil,hL];simp) (fun x=>match x with
  |.tup (y::_)=>y
  |_=>.non) (fun x=>[some x]) (fun x hx=>by
  obtain⟨l,hl,rfl⟩:=am.mp hx;refine⟨rfl,?_⟩
  simp_arith[lt0]
  rfl) (by rw[aa];show _<=16777216;omega)]
 congr 3;rw[aG,aG];rfl
theorem b0b{m a rl od:Nat}{e0 e1 e3:Option D}{R O:List Str}{x:AH}(hm:0<m)(ha:0<a)(ha2:a<1073741824)(hb:0<b)(hb2:b<1073741824)(P:Pf x h)(hx:x.length<=rl)(ho:x[od]? =some (.lst (O.map .str)))(hO:0<O.length)(hO2:∀w∈O,w.length<=1000)(hr:h[rl]? =some (.lst (R.map .str)))(hR:R.length<=1000):
 ∃(R':List Str) (h':AH),R'.length<=R.length+1/\ex ct c (a8f (m:Int) (a:Int) (b:Int)) [e0,e1,some (.ref rl),e3,some (.int (M:Int)),some (.ref od)] h=.ok (.nx [e0,e1,some (.ref rl),e3,some (.int (M:Int)),some (.ref od)]) h'/\Pf x h'/\h'[rl]? =some (.lst (R'.map .str)):=by
 have mm:op2 .mod h (.int (M:Int)) (.int (m:Int))=.ok (.int ((M%m:Nat):Int)) h:=G0 m hm
 have eq0:op2 .eq h (.int ((M%m:Nat):Int)) (.int 0)=.ok (.bl (decide (((M%m:Nat):Int)=0))) h:=rfl
 unfold a8f
 by_cases c0:((M%m:Nat):Int)=0
 · have lr:biD .len h [.ref rl]=.ok (.int (R.length:Int)) h:=by rw[t7 hr,aa]
   have lo:biD .len h [.ref od]=.ok (.int (O.length:Int)) h:=by rw[t7 (P.at ho),aa]
   have da:op2 .div h (.int (M:Int)) (.int (a:Int))=.ok (.int ((M/a:Nat):Int)) h:=N9 a ha ha2
   have db:op2 .div h (.int (M:Int)) (.int (b:Int))=.ok (.int ((M/b:Nat):Int)) h:=N9 b hb hb2
   have a1:(R.length:Int)+1=((R.length+1:Nat):Int):=by omega
   have ma:op2 .mod h (.int ((M/a:Nat):Int)) (.int ((R.length+1:Nat):Int))=.ok (.int ((M/a%(R.length+1):Nat):Int)) h:=G0 (R.length+1) (Nat.succ_pos _)
   have mb:op2 .mod h (.int ((M/b:Nat):Int)) (.int (O.length:Int))=.ok (.int ((M/b%O.length:Nat):Int)) h:=G0 O.length hO
   have hp:M/a%(R.length+1)<=R.length:=Nat.le_of_lt_succ (Nat.mod_lt _ (Nat.succ_pos _))
   have hq:M/b%O.length<O.length:=Nat.mod_lt _ hO
   have ix:ixD h (.ref od) (.int ((M/b%O.length:Nat):Int))=.ok (.str O[M/b%O.length]) h:=D9 (P.at ho) (by rw[ak,af hq];rfl)
   have sz:=hO2 _ (bj hq);generalize O[M/b%O.length]=w at ix sz
   have sl:slD h none (some 12) (.str w)=.ok (.str (Txt.slice w none (some 12))) h:=by
    simp only[slD];rw[ay (show w.length<=16777216 by omega)]
   generalize M/a%(R.length+1)=i at ma hp
   have io:mtD .insert h (.ref rl) [.int (i:Int),.str (Txt.slice w none (some 12))]=.ok .non (h.set rl (.lst ((R.take i++Txt.slice w none (some 12)::R.drop i).map .str))):=by
    simp only[mtD,hr];rw[ay (show(0:Int)<=(i:Int)/\(i:Int)<=((R.map D.str).length:Int)/\(R.map D.str).length<16777216 by rw[aa];omega),Int.toNat_natCast,ao,map_cons,map_take,map_drop]
   have mt:mtT .insert h (.ref rl)=true:=by simp only[mtT,rdL,hr,Option.isSome_some]
   refine⟨R.take i++Txt.slice w none (some 12)::R.drop i,_,?_,?_,P.set hx,B6 hr⟩
   · rw[aq,length_cons,aK,br];omega
   · simp_arith[mm,eq0,aX c0,mt,da,lr,b8x,a1,ma,db,lo,mb,ix,sl,io]
 · exact⟨R,h,Nat.le_succ _,by simp_arith[mm,eq0,bq c0],P,hr⟩
theorem b2z{k r:Nat}(f201:F 201=some z0)(f202:F 202=some n8)(hF:F 218=some E3)(hs:h[s]? =some (.rol (ns.map .int)))(hL:h[q]? =some (.lst (ls.map ltD)))(l1:1<=ls.length)(l6:ls.length<=1000)(hn:∀l∈ls,i9 l.n=true)(lq:¬(("q":Str)∈ls.map (·.n)/\("left":Str)∈ls.map (·.n)))(hr:h[r]? =some (.lst (row.map .str)))(hl:row.length<=63):
 ∃row':List Str,row'.length<=100/\b6 ct F (k+2) 218 [.ref s,.ref q,.ref r] h=.ok (.ref h.length) (h++[.lst (row'.map .str)]):=by
 have cN:=a2k (ct:=ct) (c:=b6 ct F (k+1)) (a:=.v 1) (env:=[some (.ref s),some (.ref q),some (.ref r),none,none,none]) (by simp_arith[]) hL l6
 have nk:∀z∈ls.map (·.n),i9 z=true:=fun z hz=>by
  obtain⟨l,hl,rfl⟩:=am.mp hz;exact hn l hl
 have ll:0<(ls.map (·.n)).length:=by rw[aa];omega
 generalize ls.map (·.n)=N at cN nk lq ll
 have gN:(h++[Cell.lst (N.map D.str)])[h.length]? =some (.lst (N.map .str)):=b8
 have P1:=(Pf.refl h).app [Cell.lst (N.map D.str)];generalize hni:h.length=ni at cN gN;generalize h++[Cell.lst (N.map D.str)]=x1 at cN gN P1;obtain⟨z,hz⟩:=a0b (ct:=ct) (k:=k) (j:=4) (h:=x1) f201 (P1.at hs)
 have hz':b6 ct F (k+1) 201 [.ref s,.int 4] x1=.ok (.int z) x1:=hz
 obtain⟨M,hM⟩:=C6 (ct:=ct) (k:=k) (c:=z) (j:=11) (h:=x1) f202 (by decide)
 have i0:ixD x1 (.ref ni) (.int 0)=.ok (.str (N.getD 0 "")) x1:=w5 0 0 rfl gN (d:=.str (N.getD 0 "")) (by
  cases N with
  |nil=>simp at ll
  |cons a r=>rfl)
 have il:ixD x1 (.ref ni) (.int (-1))=.ok (.str (N.getD (N.length-1) "")) x1:=a2p gN (by
  rw[aa,ak,af (by omega),bo,af (by omega)]
  rfl)
 have n0:(N.getD 0 "").length<=12:=W8 (nk _ (by rw[bo,af ll];exact bj ll))
 have nl:(N.getD (N.length-1) "").length<=12:=W8 (nk _ (by rw[bo,af (by omega)];exact bj (by omega)))
 generalize N.getD 0 ""=u0 at i0 n0;generalize N.getD (N.length-1) ""=u1 at il nl
 have s1:slD x1 (some 1) none (.str u1)=.ok (.str (Txt.slice u1 (some 1) none)) x1:=by
  simp only[slD];rw[ay (show u1.length<=16777216 by omega)]
 have sl1:=Txt.slice_le u1 (some 1) none;generalize Txt.slice u1 (some 1) none=u2 at s1 sl1;have z1:=o5 (h:=x1) (x:=u0) (y:="z") (by show _+1<=_;omega)
 have z9:=o5 (h:=x1) (x:=u2) (y:="9") (by show _+1<=_;omega)
 have addo:∀h a b,op2 .add h a b=O2 h a b:=fun _ _ _=>rfl
 have w1:(u0++("z":Str)).length<=1000:=by rw[k7];show _+1<=_;omega
 have w2:(u2++("9":Str)).length<=1000:=by rw[k7];show _+1<=_;omega
 generalize u0++("z":Str)=v0 at z1 w1;generalize u2++("9":Str)=v2 at z9 w2
 have cO:∃O:List Str,0<O.length/\(∀w∈O,w.length<=1000)/\∃y x,ev ct (b6 ct F (k+1)) odC [some (.ref s),some (.ref q),some (.ref r),some (.ref ni),some (.int (M:Int)),none] x1=.ok (.ref y) x/\Pf x1 x/\x[y]? =some (.lst (O.map .str)):=by
  have gF:(x1++[Cell.lst ([("q":Str),"0",v0,v2,"left"].map D.str)])[x1.length]? =some (.lst ([("q":Str),"0",v0,v2,"left"].map .str)):=b8
  have nw:z5 (.lst ([("q":Str),"0",v0,v2,"left"].map D.str)) x1=.ok (.ref x1.length) (x1++[Cell.lst ([("q":Str),"0",v0,v2,"left"].map D.str)]):=rfl
  have PF:=(Pf.refl x1).app [Cell.lst ([("q":Str),"0",v0,v2,"left"].map D.str)];generalize hx2:x1++[Cell.lst ([("q":Str),"0",v0,v2,"left"].map D.str)]=x2 at gF nw PF;have gN2:=PF.at gN
  let O:List Str:=([("q":Str),"0",v0,v2,"left"]).filter fun w=>!decide (w∈N)&&!decide (w="")
  refine⟨O,?_,?_,x2.length,x2++[.lst (O.map .str)],?_,PF.app _,b8⟩
  · by_cases c:("q":Str)∈N
    · have c2:("left":Str)∉N:=fun z=>lq ⟨c,z⟩
      have m:("left":Str)∈O:=bc.mpr ⟨by simp,by rw[bq c2];decide⟩
      exact List.length_pos_of_mem m
    · have m:("q":Str)∈O:=bc.mpr ⟨by simp,by rw[bq c];decide⟩
      exact List.length_pos_of_mem m
  · intro w hw;have hw:=(bc.mp hw).1;simp only[aE,not_mem_nil,or_false] at hw
    rcases hw with rfl|rfl|rfl|rfl|rfl
    · decide
    · decide
    · exact w1
    · exact w2
    · decide
  · unfold odC
    rw[E6 (l:=[("q":Str),"0",v0,v2,"left"].map .str) (g:=[(x1.length,.lst ([("q":Str),"0",v0,v2,"left"].map .str))]) (h1:=x2) (by
     have nw':z5 (.lst [D.str "q",.str "0",.str v0,.str v2,.str "left"]) x1=.ok (.ref x1.length) x2:=nw
     have gF':x2[x1.length]? =some (.lst [D.str "q",.str "0",.str v0,.str v2,.str "left"]):=gF
     simp_arith[addo,i0,z1,il,s1,z9,nw',V9,gF']) (by simp only[gOk,all_cons,all_nil,gF];simp) (fun d=>match d with
     |.str w=>!decide (w∈N)&&!decide (w="")
     |_=>false) (fun d=>d) (fun d=>[some d,some (.ref ni)]) (fun d hd=>by
     obtain⟨w,_,rfl⟩:=am.mp hd;refine⟨rfl,?_,fun _=>by simp_arith[]⟩
     simp only
     by_cases c:w∈N
     · simp_arith[a9F gN2,aX c,Bool.not_true,Bool.false_and]
     · simp_arith[a9F gN2,bq c,Bool.not_false,b2r,Bool.true_and]) (by rw[aa];show 5<=16777216;decide)]
    refine congrArg (fun q=>R.ok (D.ref x2.length) (x2++[Cell.lst q])) ?_
    rw[filter_map,aG];rfl
 obtain⟨O,o1,o2,y,x,o3,P2,gO⟩:=cO;have lk:=a6V (P2.at (P1.at hr))
 have gR:(x++[Cell.lst (row.map D.str)])[x.length]? =some (.lst (row.map .str)):=b8
 have P3:=(Pf.refl x).app [Cell.lst (row.map D.str)];generalize hrl:x.length=rl at lk gR;generalize x++[Cell.lst (row.map D.str)]=x3 at lk gR P3;obtain⟨R1,h4,a1,a2,a3,a4⟩:=b0b (ct:=ct) (c:=b6 ct F (k+1)) (m:=5) (a:=5) (b:=500) (M:=M) (e0:=some (.ref s)) (e1:=some (.ref q)) (e3:=some (.ref ni)) (by decide) (by decide) (by decide) (by decide) (by decide) P3 (by omega) gO o1 o2 gR (by omega)
 obtain⟨R2,h5,b1,b2,b3,b4⟩:=b0b (ct:=ct) (c:=b6 ct F (k+1)) (m:=10) (a:=7) (b:=900) (M:=M) (e0:=some (.ref s)) (e1:=some (.ref q)) (e3:=some (.ref ni)) (by decide) (by decide) (by decide) (by decide) (by decide) a3 (by omega) gO o1 o2 a4 (by omega)
 refine⟨R2,by omega,?_⟩
 rw[m8 hF rfl];simp only[E3]
 show gcR 2 h (K8 (exs ct (b6 ct F (k+1)) _ [some (.ref s),some (.ref q),some (.ref r),none,none,none] h))=_
 rw[seq (env':=[some (.ref s),some (.ref q),some (.ref r),some (.ref ni),none,none]) (h':=x1) (by unfold nmE;rw[Q9,cN,d9];rfl)]
 rw[seq (env':=[some (.ref s),some (.ref q),some (.ref r),some (.ref ni),some (.int (M:Int)),none]) (h':=x1) (by simp_arith[hz',hM])]
 rw[seq (env':=[some (.ref s),some (.ref q),some (.ref r),some (.ref ni),some (.int (M:Int)),some (.ref y)]) (h':=x) (by rw[Q9,o3,d9];rfl)]
 rw[seq (env':=[some (.ref s),some (.ref q),some (.ref rl),some (.ref ni),some (.int (M:Int)),some (.ref y)]) (h':=x3) (by simp_arith[lk])]
 replace a2:ex ct (b6 ct F (k+1)) (a8f 5 5 500) _ _=_:=a2
 replace b2:ex ct (b6 ct F (k+1)) (a8f 10 7 900) _ _=_:=b2
 rw[seq a2,seq b2];simp_arith[];rw[←hni];exact a2R (c:=.lst (R2.map .str)) ((P1.trans P2).trans b3) b4 (by have:=P1.len;have:=P2.len;omega) (C7 _)
end
noncomputable def lkU(N row:List Str):List Nat:=(List.range row.length).filter fun i=>!decide (row.getD i ""∈N)
variable{N:List Str}
theorem b4V(h:lkU N row=[]):∀x∈row,x∈N:=fun x hx=>by
 obtain⟨i,hi,rfl⟩:=List.getElem_of_mem hx
 have e:row.getD i ""=row[i]:=by rw[bo,af hi];rfl
 by_cases c:row[i]∈N
 · exact c
 · have:i∈lkU N row:=bc.mpr ⟨aL.mpr hi,by rw[e,bq c];rfl⟩
   rw[h] at this;exact nomatch this
theorem b2w{u:Nat}{r:List Nat}(h:lkU N row=u::r):Lk N row u:=by
 have hu:u∈lkU N row:=by rw[h];exact .head _
 obtain⟨m1,m2⟩:=bc.mp hu;refine⟨aL.mp m1,fun z=>(by rw[aX z] at m2;cases m2),fun i hi=>?_⟩
 by_cases c:row.getD i ""∈N
 · exact c
 · exfalso
   have m:i∈lkU N row:=bc.mpr ⟨aL.mpr (Nat.lt_trans hi (aL.mp m1)),by rw[bq c];rfl⟩
   have pw:(lkU N row).Pairwise (· < ·):=List.Pairwise.filter _ List.pairwise_lt_range
   rw[h] at m pw
   rcases aE.mp m with e|m
   · omega
   · have:=(List.pairwise_cons.mp pw).1 i m
     omega
theorem b6b{a:Nat}{xs:List Str}(h1:h[a]? =some (.lst (xs.map .str)))(hi:i<xs.length):ixD h (.ref a) (.int (i:Int))=.ok (.str (xs.getD i "")) h:=D9 h1 (by
 rw[ak,af hi,bo,af hi];rfl)
section
variable{F:Nat->Option Fn}(W:PF F)
include W
theorem b4Y{d:Nat}(hx:ct.flds 2=[("place":Str)])(s0:ct.sub 2 0=true)(s2:ct.sub 2 2=true)(s1:ct.sub 2 1=false)(s3:ct.sub 2 3=false)(s4:ct.sub 2 4=false)(s5:ct.sub 2 5=false)(hns:ns.length<=63)(f33:F 33=some o6)(f34:F 34=some G2)(f35:F 35=some K2)(f36:F 36=some z6)(f37:F 37=some C8)(f201:F 201=some z0)(f202:F 202=some n8)(f203:F 203=some l8)(f204:F 204=some x0)(f205:F 205=some t9)(f206:F 206=some z8)(f207:F 207=some y7)(f208:F 208=some u8)(f209:F 209=some u9)(f211:F 211=some z7)(f212:F 212=some E4)(f213:F 213=some y8)(f215:F 215=some B0)(f216:F 216=some F7)(f217:F 217=some N6)(f218:F 218=some E3)(f219:F 219=some E2)(f220:F 220=some a5n)(hin:ct.init 6=32):∃h',b6 ct F (d+11) 220 [.ref 0] [.rol (ns.map .int)]=.ok (.bl true) h':=by
 generalize hg0:[Cell.rol (ns.map .int)]=g0
 have hr:g0[0]? =some (.rol (ns.map .int)):=by rw[←hg0];rfl
 obtain⟨H,g,a,b,c,d',e,f,i,j,K,P0,A,hH⟩:=b2G (ct:=ct) (k:=d+7) (n:=0) (m:=0) (ns:=ns) (h:=g0) f201 f202 f203 f204 f205 f206 f207 f208 f209 f211 f212 hr rfl;have hT:=b0e (ct:=ct) (k:=d+8) K f213 f215 A;obtain⟨h,ht,hA,hR⟩:=a3O (ct:=ct) (d:=d+8) (h:=g) (text:=a5k H) (H':=a2P H) W hin (by have:=b1n K;omega) (by rw[a7A K];exact a7K W K)
 have P1:Pf g h:=⟨by rw[←ht,aK];omega,fun i hi=>by
  have:(h.take g.length)[i]? =g[i]? :=by rw[ht]
  rw[←this,bt hi]⟩
 have hall:∀{x:AH},Pf h x->HallAt x g.length (a2P H):=fun P=>by
  obtain⟨t,rfl⟩:=P.split;exact hA.app t
 have al:=P1.at A.ls;have a0:=P1.at (P0.at hr)
 have t3:∀h,ixD h (.tup [.ref a,.ref b,.ref c,.ref d',.ref e,.ref f,.ref i,.ref j]) (.int 3)=.ok (.ref d') h:=fun h=>ix_tup (i:=3) rfl
 generalize hTt:D.tup [.ref a,.ref b,.ref c,.ref d',.ref e,.ref f,.ref i,.ref j]=T at hH hT t3;have l6:=K.ls;have cN:=a2k (ct:=ct) (c:=b6 ct F (d+10)) (a:=.ix (.v 1) (.k (.int (3)))) (env:=[some (.ref 0),some T,some (.ref g.length),none,none,none,none,none,none,none]) (by simp_arith[t3]) al (by omega)
 have gN:(h++[Cell.lst ((H.ls.map (·.n)).map D.str)])[h.length]? =some (.lst ((H.ls.map (·.n)).map .str)):=b8
 have Q1:=(Pf.refl h).app [Cell.lst ((H.ls.map (·.n)).map D.str)]
 generalize h.length=nn at cN gN;generalize h++[Cell.lst ((H.ls.map (·.n)).map D.str)]=x1 at cN gN Q1
 obtain⟨r0,rl0,e0⟩:=a8R (ct:=ct) (k:=d+8) f202 f216 (Q1.at a0) hns (Q1.at al) l6.1
 have g0':(x1++[Cell.lst (r0.map D.str)])[x1.length]? =some (.lst (r0.map .str)):=b8
 have Q2:=Q1.app [Cell.lst (r0.map D.str)];have gN2:=b7 (g:=[Cell.lst (r0.map D.str)]) gN;generalize x1.length=ri at e0 g0';generalize x1++[Cell.lst (r0.map D.str)]=x2 at e0 g0' Q2 gN2;obtain⟨row,rl,e1⟩:=b2z (ct:=ct) (k:=d+8) f201 f202 f218 (Q2.at a0) (Q2.at al) l6.1 (by omega) (fun l hl=>(K.lso l hl).nm) K.lq g0' rl0
 have gR:(x2++[Cell.lst (row.map D.str)])[x2.length]? =some (.lst (row.map .str)):=b8
 have Q3:=Q2.app [Cell.lst (row.map D.str)];have gN3:=b7 (g:=[Cell.lst (row.map D.str)]) gN2;generalize x2.length=r at e1 gR;generalize x2++[Cell.lst (row.map D.str)]=x3 at e1 gR Q3 gN3
 have le:biD .len x3 [.ref r]=.ok (.int (row.length:Int)) x3:=by rw[t7 gR,aa]
 have cL:ev ct (b6 ct F (d+10)) laC [some (.ref 0),some T,some (.ref g.length),some (.ref nn),some (.ref r),none,none,none,none,none] x3=.ok (.ref x3.length) (x3++[.lst ((lkU (H.ls.map (·.n)) row).map fun i:Nat=>D.int (i:Int))]):=by
  unfold laC
  rw[E6 (l:=(List.range row.length).map fun i=>D.int ((0:Int)+(i:Nat))) (g:=[]) (h1:=x3) (by simp_arith[le,a0p (h:=x3) (m:=row.length) (by omega)]) rfl (fun d=>match d with
   |.int i=>!decide (row.getD i.toNat ""∈H.ls.map (·.n))
   |_=>false) (fun d=>d) (fun d=>[some d,some (.ref nn),some (.ref r)]) (fun d hx=>by
   obtain⟨i,hi,rfl⟩:=am.mp hx;have hi:=aL.mp hi;rw[Int.zero_add];refine⟨rfl,?_,fun _=>by simp_arith[]⟩
   simp only[Int.toNat_natCast];simp_arith[b6b gR hi,a9F gN3]) (by rw[aa,aH];show _<=16777216;omega)]
  refine congrArg (fun q=>R.ok (D.ref x3.length) (x3++[Cell.lst q])) ?_
  unfold lkU;rw[filter_map,aG]
  have e:∀l:List Nat,l.filter ((fun d=>match d with
   |D.int i=>!decide (row.getD i.toNat ""∈H.ls.map (·.n))
   |_=>false)∘fun i:Nat=>D.int ((0:Int)+(i:Nat)))=l.filter fun i=>!decide (row.getD i ""∈H.ls.map (·.n)):=fun l=>List.filter_congr fun i _=>by
   show(!decide (row.getD ((0:Int)+(i:Nat)).toNat ""∈H.ls.map (·.n)))=_
   rw[Int.zero_add,Int.toNat_natCast]
  rw[e];refine aT fun i _=>?_
  show D.int ((0:Int)+(i:Nat))=_
  rw[Int.zero_add]
 have gU:(x3++[Cell.lst ((lkU (H.ls.map (·.n)) row).map fun i:Nat=>D.int (i:Int))])[x3.length]? =some (.lst ((lkU (H.ls.map (·.n)) row).map fun i:Nat=>D.int (i:Int))):=b8
 have Q4:=Q3.app [Cell.lst ((lkU (H.ls.map (·.n)) row).map fun i:Nat=>D.int (i:Int))]
 have gR4:=b7 (g:=[Cell.lst ((lkU (H.ls.map (·.n)) row).map fun i:Nat=>D.int (i:Int))]) gR
 generalize x3.length=ui at cL gU;generalize x3++[Cell.lst ((lkU (H.ls.map (·.n)) row).map fun i:Nat=>D.int (i:Int))]=x4 at cL gU Q4 gR4
 have lU:biD .len x4 [.ref ui]=.ok (.int ((lkU (H.ls.map (·.n)) row).length:Int)) x4:=by rw[t7 gU,aa]
 have gt:∀(n:Nat) h,op2 .gt h (.int (n:Int)) (.int 0)=.ok (.bl (decide ((0:Int)<(n:Int)))) h:=fun n h=>rfl
 rw[m8 f220 rfl];simp only[a5n];rw[gc0]
 show∃h',K8 (exs ct (b6 ct F (d+10)) _ [some (.ref 0),none,none,none,none,none,none,none,none,none] g0)=.ok (.bl true) h'
 rw[seq (env':=[some (.ref 0),some T,none,none,none,none,none,none,none,none]) (h':=g) (by simp_arith[show b6 ct F (d+10) 212 [.ref 0,.int 0] g0=.ok T g from hH])]
 rw[seq (env':=[some (.ref 0),some T,some (.ref g.length),none,none,none,none,none,none,none]) (h':=h) (by simp_arith[hT,hR])]
 rw[seq (env':=[some (.ref 0),some T,some (.ref g.length),some (.ref nn),none,none,none,none,none,none]) (h':=x1) (by rw[Q9,cN,d9];rfl)]
 rw[seq (env':=[some (.ref 0),some T,some (.ref g.length),some (.ref nn),some (.ref r),none,none,none,none,none]) (h':=x3) (by simp_arith[t3,e0,e1])]
 rw[seq (env':=[some (.ref 0),some T,some (.ref g.length),some (.ref nn),some (.ref r),some (.ref ui),none,none,none,none]) (h':=x4) (by rw[Q9,cL,d9];rfl)]
 cases hU:lkU (H.ls.map (·.n)) row with
 |cons u t=>
  have L:=b2w hU;rw[hU] at lU gU
  have c0:(0:Int)<(((u::t).length:Nat):Int):=by simp only[length_cons];omega
  have i0:ixD x4 (.ref ui) (.int 0)=.ok (.int (u:Int)) x4:=w5 0 0 rfl gU (d:=.int (u:Int)) rfl
  have rf:=a5V (ct:=ct) (F:=F) (k:=d+7) hx s0 s2 s1 s3 s4 s5 f33 f34 f219 (hall Q4) gR4 L;generalize (u::t).length=m at lU c0;refine⟨x4,?_⟩
  simp_arith[lU,gt,aX c0,i0,rf]
 | nil=>
  have r1:=b4V hU;rw[hU] at lU
  have c0:¬(0:Int)<((([]:List Nat).length:Nat):Int):=by simp
  generalize ([]:List Nat).length=m at lU c0;rw[seq (env':=[some (.ref 0),some T,some (.ref g.length),some (.ref nn),some (.ref r),some (.ref ui),none,none,none,none]) (h':=x4) (by simp_arith[lU,gt,bq c0])]
  have gW:(x4++[Cell.lst [D.str "left",.str "right"]])[x4.length]? =some (.lst [D.str "left",.str "right"]):=b8
  have Q5:=Q4.app [Cell.lst [D.str "left",.str "right"]];have gR5:=b7 (g:=[Cell.lst [D.str "left",.str "right"]]) gR4
  have nw:z5 (.lst [D.str "left",.str "right"]) x4=.ok (.ref x4.length) (x4++[Cell.lst [D.str "left",.str "right"]]):=rfl
  generalize x4.length=wi at gW nw;generalize x4++[Cell.lst [D.str "left",.str "right"]]=x5 at gW Q5 gR5 nw
  obtain⟨env',g',f1,w6,w7,w8,w9,rfl,q1⟩:=E8 (g:=[(wi,.lst [D.str "left",.str "right"])]) (p:=.nm 6) (body:=exs ct (b6 ct F (d+10)) laB) (fun j env hh=>∃w6 w7 w8 w9,env=[some (.ref 0),some T,some (.ref g.length),some (.ref nn),some (.ref r),some (.ref ui),w6,w7,w8,w9]/\Pf x5 hh) (fun j env hh hP=>by
   obtain⟨_,_,_,_,_,P⟩:=hP;simp only[gOk,all_cons,all_nil,P.at gW]
   simp) [D.str "left",.str "right"] 0 [some (.ref 0),some T,some (.ref g.length),some (.ref nn),some (.ref r),some (.ref ui),none,none,none,none] x5 (fun j x env hh hx' hP=>by
   obtain⟨w6,w7,w8,w9,rfl,P⟩:=hP
   obtain⟨way,rfl⟩:∃way:Str,x=.str way:=by
    have:=aF hx'
    simp only[aE,not_mem_nil,or_false] at this
    rcases this with rfl|rfl
    · exact⟨_,rfl⟩
    · exact⟨_,rfl⟩
   have PA:=Q5.trans P;have pR:=P.at gR5;have lk:=a6V pR
   have gH:(hh++[Cell.lst (row.map D.str)])[hh.length]? =some (.lst (row.map .str)):=b8
   have P1:=(Pf.refl hh).app [Cell.lst (row.map D.str)];have pR1:=b7 (g:=[Cell.lst (row.map D.str)]) pR;generalize hh.length=hi at lk gH;generalize hh++[Cell.lst (row.map D.str)]=h1 at lk gH P1 pR1
   have wy:∀{y:AH},Pf h1 y->b6 ct F (d+10) 34 [.ref g.length,.ref hi,.str way] y=.ok (.ref y.length) (y++[.lst ((a0e (row.map (J5 H.ls)) way).map .str)]):=fun p=>b1l (k:=d+8) f33 f34 f35 f36 f37 K (hall ((PA.trans P1).trans p)) (p.at gH) r1 (by omega)
   have dw:∀{y:AH},Pf h1 y->b6 ct F (d+10) 217 [.ref d',.ref r,.str way] y=.ok (.ref y.length) (y++[.lst ((a0e (row.map (J5 H.ls)) way).map .str)]):=fun p=>b3c (k:=d+9) f217 K.lso K.lsn (((PA.trans P1).trans p).at al) (by omega) (p.at pR1) r1 (by omega)
   have wl:(a0e (row.map (J5 H.ls)) way).length<=1000:=by unfold a0e;rw[aa,aH,aa];omega
   generalize a0e (row.map (J5 H.ls)) way=Y at wy dw wl;have c1:=wy (Pf.refl h1)
   have gF:(h1++[Cell.lst (Y.map D.str)])[h1.length]? =some (.lst (Y.map .str)):=b8
   have P2:=(Pf.refl h1).app [Cell.lst (Y.map D.str)]
   have lf:h1.length<=h1.length:=aj _
   obtain⟨fi,hfi⟩:∃fi,fi=h1.length:=⟨_,rfl⟩;rw[←hfi] at c1 gF;generalize h1++[Cell.lst (Y.map D.str)]=h2 at c1 gF P2;have c2:=dw P2
   have gD:(h2++[Cell.lst (Y.map D.str)])[h2.length]? =some (.lst (Y.map .str)):=b8
   have P3:=P2.app [Cell.lst (Y.map D.str)];have gF3:=b7 (g:=[Cell.lst (Y.map D.str)]) gF
   have lt:fi<h2.length:=(ac.mp gF).1
   generalize h2.length=di at c2 gD lt;generalize h2++[Cell.lst (Y.map D.str)]=h3 at c2 gD P3 gF3
   have il:a0N ct h3 (.b "list") (.ref fi)=some true:=by simp only[a0N,gF3];rfl
   have n1:=(a4s gF3 gD).2;have n2:=(a4s (P3.at gH) (P3.at pR1)).2;have mt:=G7 gF3;have ap:=S7 (d:=.str way) gF3 (by rw[aa];omega)
   have P4:Pf h1 (h3.set fi (.lst (Y.map .str++[.str way]))):=P3.set (by omega)
   have gD4:=b9 (c':=.lst (Y.map .str++[.str way])) (show fi≠di by omega) gD
   generalize h3.set fi (.lst (Y.map .str++[.str way]))=h4 at ap P4 gD4;have c3:=wy P4;have n3:=(a4s (b8 (h:=h4) (c:=.lst (Y.map .str))) (b7 (g:=[.lst (Y.map .str)]) gD4)).2;refine⟨_,[some (.ref 0),some T,some (.ref g.length),some (.ref nn),some (.ref r),some (.ref ui),some (.str way),some (.ref hi),some (.ref fi),some (.ref di)],h4++[.lst (Y.map .str)],rfl,?_,_,_,_,_,rfl,P.trans (P1.trans (P4.app _))⟩
   show exs ct (b6 ct F (d+10)) laB [some (.ref 0),some T,some (.ref g.length),some (.ref nn),some (.ref r),some (.ref ui),some (.str way),w7,w8,w9] hh=_
   unfold laB;rw[seq (env':=[some (.ref 0),some T,some (.ref g.length),some (.ref nn),some (.ref r),some (.ref ui),some (.str way),some (.ref hi),w8,w9]) (h':=h1) (by simp_arith[lk])]
   rw[seq (env':=[some (.ref 0),some T,some (.ref g.length),some (.ref nn),some (.ref r),some (.ref ui),some (.str way),some (.ref hi),some (.ref fi),w9]) (h':=h2) (by simp_arith[c1])]
   rw[seq (env':=[some (.ref 0),some T,some (.ref g.length),some (.ref nn),some (.ref r),some (.ref ui),some (.str way),some (.ref hi),some (.ref fi),some (.ref di)]) (h':=h3) (by simp_arith[t3,c2])]
   rw[seq (env':=[some (.ref 0),some T,some (.ref g.length),some (.ref nn),some (.ref r),some (.ref ui),some (.str way),some (.ref hi),some (.ref fi),some (.ref di)]) (h':=h3) (by simp_arith[il,Bool.not_true,n1,n2])]
   rw[seq (env':=[some (.ref 0),some T,some (.ref g.length),some (.ref nn),some (.ref r),some (.ref ui),some (.str way),some (.ref hi),some (.ref fi),some (.ref di)]) (h':=h4) (by simp_arith[mt,ap])]
   simp_arith[c3,n3]) ⟨none,none,none,none,rfl,Pf.refl x5⟩
  refine⟨g',?_⟩
  rw[seq (env':=[some (.ref 0),some T,some (.ref g.length),some (.ref nn),some (.ref r),some (.ref ui),w6,w7,w8,w9]) (h':=g') (by simp_arith[nw,V9,gW,f1])]
  simp_arith[]
end
end EV
namespace K37
open PySem L2 EV
theorem pf:PF F:=⟨rfl,rfl,rfl,rfl,rfl,rfl,rfl,rfl,rfl,rfl,rfl,rfl,rfl,rfl,rfl,rfl,rfl,rfl,rfl,rfl,rfl,rfl,rfl,rfl,rfl,rfl,rfl,rfl,rfl,rfl,rfl,rfl⟩
end K37
theorem a6j:∀ns:List Int,ns.length<=63->∃h',EV.b6 K37.ct K37.F 20 220 [.ref 0] [.rol (ns.map .int)]=.ok (.bl true) h':=fun ns hl=>EV.b4Y (d:=9) K37.pf rfl rfl rfl rfl rfl rfl rfl hl rfl rfl rfl rfl rfl rfl rfl rfl rfl rfl rfl rfl rfl rfl rfl rfl rfl rfl rfl rfl rfl rfl rfl rfl
open PySem PySem.W PyProof.Rows
end
namespace PySem.W.Fast
def tw76133592945834872:Nat:=0
def tw3094701115853657799:Nat:=0
def tw5144935664275436077:Nat:=0
def tw1647960591809683682:Nat:=0
def tw12444894573219911983:Nat:=0
def tw14203704883580835402:Nat:=0
def tw6844873832779938523:Nat:=0
def tw10235683861645269560:Nat:=0
def tw16366832468508596192:Nat:=0
def tw16352712142591305040:Nat:=0
def tw2853925743845761052:Nat:=0
def tw14891914053017906904:Nat:=0
def tw4636031889025220839:Nat:=0
def tw18116387068816430743:Nat:=0
def tw17334881123488906936:Nat:=0
def tw6158393449932997776:Nat:=0
def tw6737687440995333003:Nat:=0
def tw16324385692754382440:Nat:=0
def tw2680141511932349947:Nat:=0
def tw10199354318988768051:Nat:=0
def tw14427152562785914808:Nat:=0
def tw5609530884314319229:Nat:=0
def tw12120419212027415207:Nat:=0
def tw3285859953031059425:Nat:=0
def tw5363195699714531557:Nat:=0
def tw3307598998989760257:Nat:=0
def tw13508602156133886167:Nat:=0
def tw12613123470234294058:Nat:=0
def tw9986627191518016938:Nat:=0
def tw6873971014812347169:Nat:=0
def tw11970942820725077907:Nat:=0
def tw10393078302967963895:Nat:=0
def tw714049069090440106:Nat:=0
def tw14029171239946634462:Nat:=0
def tw16317983856663788926:Nat:=0
def tw4188684199736651882:Nat:=0
def tw15772355805533515408:Nat:=0
def tw3173216733752770468:Nat:=0
def tw8789256864460932259:Nat:=0
def tw5055051069096525434:Nat:=0
def tw8174591469460913490:Nat:=0
def tw17004574920194074796:Nat:=0
def tw316514102143019080:Nat:=0
def tw10667965978278278033:Nat:=0
def tw16950569574821323974:Nat:=0
def tw10184835648761350555:Nat:=0
def tw8667492640987031791:Nat:=0
def tw1620389302784492585:Nat:=0
def tw4843473975253519250:Nat:=0
def tw3103751414666246812:Nat:=0
def tw3934833063311361131:Nat:=0
def tw13055661147411815287:Nat:=0
def tw9601000219436670146:Nat:=0
def tw17714833071000019117:Nat:=0
def tw305048472116853797:Nat:=0
def tw1354003750591732747:Nat:=0
def tw15248526436251307398:Nat:=0
def tw517312751163448032:Nat:=0
def tw2294854397974045510:Nat:=0
def tw12018387782679925087:Nat:=0
def tw4340971767527515617:Nat:=0
def tw17456480263006714056:Nat:=0
def tw112567504061534027:Nat:=0
def tw3083371992184736890:Nat:=0
def tw4157206338815638501:Nat:=0
def tw11654023200298843171:Nat:=0
def tw17619882183920601743:Nat:=0
def tw3092117133297227249:Nat:=0
def tw4425046354534653865:Nat:=0
def tw15536387163757344236:Nat:=0
def tw11973505968982382900:Nat:=0
def tw670427922429333600:Nat:=0
def tw5713610079918043996:Nat:=0
def tw14015890951069844909:Nat:=0
def tw539595736760451978:Nat:=0
def tw15724745641170818534:Nat:=0
def tw16607927582987124570:Nat:=0
def tw5845538515087863352:Nat:=0
def tw2947586027576077979:Nat:=0
def tw2965179421226197397:Nat:=0
def tw6771182271545134960:Nat:=0
def tw3345597093286824917:Nat:=0
def tw1176975735165151067:Nat:=0
def tw12694589447371642155:Nat:=0
def tw2969480146181677978:Nat:=0
def tw14805814515597417852:Nat:=0
def tw15069716523494295500:Nat:=0
def tw5011889884212318148:Nat:=0
def tw14712817762504950641:Nat:=0
def tw11081772624950168284:Nat:=0
def tw14869557710840242666:Nat:=0
def tw16002967266952078866:Nat:=0
def tw8934421753687110507:Nat:=0
def tw3857615796733700780:Nat:=0
def tw7942853410682446962:Nat:=0
def tw1998032249293215463:Nat:=0
def tw12487779173672901959:Nat:=0
def tw6951939212644042833:Nat:=0
def tw17643754061406199020:Nat:=0
def tw11843833423457600547:Nat:=0
def tw18042889414512086050:Nat:=0
def tw11118301316682269745:Nat:=0
def tw4799189423077775474:Nat:=0
def tw10052001805573714066:Nat:=0
def tw4589182232624314844:Nat:=0
def tw14731147920152588799:Nat:=0
def tw15078095837771203109:Nat:=0
def tw17427895641331663283:Nat:=0
def tw16408362238061914836:Nat:=0
def tw6731276024794131016:Nat:=0
def tw4033379813872489195:Nat:=0
def tw1567247161763788871:Nat:=0
def tw14398365135244066966:Nat:=0
def tw18329075359065952542:Nat:=0
def tw8164005668110941744:Nat:=0
def tw8237626310708396552:Nat:=0
def tw12976177241038019767:Nat:=0
def tw8697654515486363317:Nat:=0
def tw10241233070082051121:Nat:=0
def tw8454840944936950519:Nat:=0
def tw5015507407206683207:Nat:=0
def tw17960406059949683352:Nat:=0
def tw7340446101256811000:Nat:=0
def tw12319047049370110589:Nat:=0
def tw10335527622381539264:Nat:=0
def tw2484844197603217540:Nat:=0
def tw10069975712529536831:Nat:=0
def tw17590088832654516399:Nat:=0
def tw15221209806709932071:Nat:=0
def tw6834397320308548248:Nat:=0
def tw9563574807059059695:Nat:=0
def tw6760056911573607715:Nat:=0
def tw14245618210516037357:Nat:=0
def tw13481268755573549168:Nat:=0
def tw7618804249908900691:Nat:=0
def tw14788362278542820120:Nat:=0
def tw11188117447681078326:Nat:=0
def tw7523194637212750777:Nat:=0
def tw9305391788130653963:Nat:=0
def tw16286715671046524454:Nat:=0
def tw10412780308102683651:Nat:=0
def tw1322031339247656150:Nat:=0
def tw13436231055378572716:Nat:=0
def tw11519117686961666697:Nat:=0
def tw1165732905965986049:Nat:=0
def tw7363425622247834253:Nat:=0
def tw10700183255674453818:Nat:=0
def tw6999941293234460784:Nat:=0
def tw10846345724684618374:Nat:=0
def tw7158441374720773216:Nat:=0
def tw14501001857826371202:Nat:=0
def tw3016012700857477809:Nat:=0
def tw2133357390318303931:Nat:=0
def tw11187973929812520656:Nat:=0
def tw16915470645016011554:Nat:=0
def tw4153491320931672185:Nat:=0
def tw2927799364441409784:Nat:=0
def tw15213048550514571353:Nat:=0
def tw17969941481158815411:Nat:=0
def tw16629561534657121264:Nat:=0
def tw7097827964152542560:Nat:=0
def tw17698735102306075112:Nat:=0
def tw10390157646234782899:Nat:=0
def tw8131721106225051767:Nat:=0
def tw6623812351622530092:Nat:=0
def tw17960848765466677729:Nat:=0
def tw12514039047250868702:Nat:=0
def tw7328447075739424539:Nat:=0
def tw18182889222666715495:Nat:=0
def tw9455475090630465045:Nat:=0
def tw13359630831485827548:Nat:=0
def tw6793172497655745189:Nat:=0
def tw3822784309164373692:Nat:=0
def tw17093224777342109595:Nat:=0
def tw5759927347364260171:Nat:=0
def tw5680315236850328200:Nat:=0
def tw306725001281121169:Nat:=0
def tw18012574323051992567:Nat:=0
def tw2962324470309885386:Nat:=0
def tw5835942142707902020:Nat:=0
def tw11763852733077360975:Nat:=0
def tw5485572742587201778:Nat:=0
def tw4968929673044707356:Nat:=0
def tw13698048360955963301:Nat:=0
def tw7317234293075219:Nat:=0
def tw2456577590951144490:Nat:=0
def tw17802128708061929859:Nat:=0
def tw10097012582147076362:Nat:=0
def tw7894344252036594922:Nat:=0
def tw12221415409051222339:Nat:=0
def tw5613845454599061817:Nat:=0
def tw16884622931589843948:Nat:=0
def tw12184380411685104690:Nat:=0
def tw6397798872860733234:Nat:=0
def tw2257529940240947247:Nat:=0
def tw16472409268878238316:Nat:=0
def tw1462193419119380569:Nat:=0
def tw734138898119960010:Nat:=0
def tw10015450608781386451:Nat:=0
def tw1906743188756502811:Nat:=0
def tw17704188385166749297:Nat:=0
def tw15515405784836723652:Nat:=0
def tw15886500619415505586:Nat:=0
def tw13840814423707232359:Nat:=0
def tw9192171586001469603:Nat:=0
def tw8249347019533418915:Nat:=0
def tw3241244739717862871:Nat:=0
def tw3133745999044795564:Nat:=0
def tw1877378965866140348:Nat:=0
def tw1833547357909804662:Nat:=0
def tw17513604867990543079:Nat:=0
def tw3520363519792060846:Nat:=0
def tw14191745827877185554:Nat:=0
def tw9897558803702562313:Nat:=0
def tw12079628635447562283:Nat:=0
def tw16970792351503237766:Nat:=0
def tw8903238766108814736:Nat:=0
def tw16925118299729312639:Nat:=0
def tw13829591483307370896:Nat:=0
def tw12068798485007620914:Nat:=0
def tw804092199982636349:Nat:=0
def tw9296360433889664002:Nat:=0
def tw18431155831084640082:Nat:=0
def tw17845374550828520631:Nat:=0
def tw13792483299354683862:Nat:=0
def tw13553050674002434610:Nat:=0
def tw12048056826642495367:Nat:=0
def tw13056512690104125533:Nat:=0
def tw12712400820596877648:Nat:=0
def tw13197444509695450237:Nat:=0
def tw10762484250532422250:Nat:=0
def tw8008005557923197168:Nat:=0
def tw5266450434754204200:Nat:=0
def tw4268201051430804902:Nat:=0
def tw2337977823195543630:Nat:=0
def tw13078823862939028812:Nat:=0
def tw9715166753854553471:Nat:=0
def tw8864380892348041232:Nat:=0
def tw802917404587063742:Nat:=0
def tw7717702957765121957:Nat:=0
def tw7395645310213146516:Nat:=0
def tw7343611390307366373:Nat:=0
def tw7090585071989052306:Nat:=0
def tw6905212232875527693:Nat:=0
def tw671769174312181376:Nat:=0
def tw6606014719576569030:Nat:=0
def tw6585068141940680455:Nat:=0
def tw5661640270340304354:Nat:=0
def tw5427499738942290107:Nat:=0
def tw4475145619620083286:Nat:=0
def tw4211952112222678748:Nat:=0
def tw4211700434839312001:Nat:=0
def tw3808584094389355786:Nat:=0
def tw3369663099759083609:Nat:=0
def tw317932667124481529:Nat:=0
def tw3121739546393284973:Nat:=0
def tw2766794811542550618:Nat:=0
def tw2450569374399577549:Nat:=0
def tw17857563459279650048:Nat:=0
def tw17601101962401091345:Nat:=0
def tw16749348522385944071:Nat:=0
def tw16469568281967520401:Nat:=0
def tw16396790404030501481:Nat:=0
def tw16279701975793424917:Nat:=0
def tw16118103595353321548:Nat:=0
def tw15679247252792206210:Nat:=0
def tw15431134087688302020:Nat:=0
def tw14566440943485919492:Nat:=0
def tw14374603453287560736:Nat:=0
def tw14112606434462084385:Nat:=0
def tw1385777081429181588:Nat:=0
def tw13350131943787299761:Nat:=0
def tw13323373534744806615:Nat:=0
def tw12941643214049860704:Nat:=0
def tw12059592832596718669:Nat:=0
def tw11786325122171474085:Nat:=0
def tw11622863634709415212:Nat:=0
def tw11347631108264317165:Nat:=0
def tw11300376045408061371:Nat:=0
def tw10896712999787139778:Nat:=0
def tw10780761586765376359:Nat:=0
def tw10042499479572932358:Nat:=0
def tw12533650973541477374:Nat:=0
def tw10785849952161257653:Nat:=0
def tw17708705101671688189:Nat:=0
def tw12996339429388188178:Nat:=0
def tw8891557043749499067:Nat:=0
def tw726985913927333873:Nat:=0
def tw4674102799890499726:Nat:=0
def tw4179031660912777645:Nat:=0
def tw2202087279664922802:Nat:=0
def tw16932301668260661676:Nat:=0
def tw16803143847538834185:Nat:=0
def tw15790453512448054794:Nat:=0
def tw14734032772098568817:Nat:=0
def tw13949155002146243131:Nat:=0
def tw10497823618577955822:Nat:=0
def tw7088172306134329368:Nat:=0
def tw16504757533647375273:Nat:=0
def tw897888412878121761:Nat:=0
def tw5105673956185107153:Nat:=0
def tw9515242367644423802:Nat:=0
def tw5036445103931068615:Nat:=0
def tw7537285074954141530:Nat:=0
def tw1349388230604553621:Nat:=0
def tw12798869161161681673:Nat:=0
def tw69414778264802052:Nat:=0
def tw5587484289544270231:Nat:=0
def tw4203021270051977171:Nat:=0
def tw4026151001005817321:Nat:=0
def tw3471986238504059686:Nat:=0
def tw2873748437651673626:Nat:=0
def tw14949513074056673275:Nat:=0
def tw1391549112126926301:Nat:=0
def tw13426244417702134072:Nat:=0
def tw12434779806091606683:Nat:=0
def tw11002848052431835627:Nat:=0
def tw7317576523658780031:Nat:=0
def tw15261137711255440680:Nat:=0
def tw7470021291188754609:Nat:=0
def tw2852278927748849453:Nat:=0
def tw17878424488110687958:Nat:=0
def tw15632992782082381434:Nat:=0
def tw13517250619966689955:Nat:=0
def tw10155365746132046468:Nat:=0
def tw16266442582153907279:Nat:=0
def tw13952158723898717365:Nat:=0
def tw12325562205625792791:Nat:=0
def tw4361700775904427359:Nat:=0
def tw9497945907656264259:Nat:=0
def tw14864845329073380503:Nat:=0
def tw6511239469406747073:Nat:=0
def tw6252695792229605141:Nat:=0
def tw5738919822854818926:Nat:=0
def tw438459731153329746:Nat:=0
def tw16463793508043411602:Nat:=0
def tw4584130408075211490:Nat:=0
def tw9840342860782594374:Nat:=0
def tw9774394379856643515:Nat:=0
def tw9156678896304099913:Nat:=0
def tw7825248364748044718:Nat:=0
def tw7586693836618795562:Nat:=0
def tw7498633149979677338:Nat:=0
def tw742405457713269000:Nat:=0
def tw6012122021747098740:Nat:=0
def tw5587826856885255690:Nat:=0
def tw3638187344944282256:Nat:=0
def tw234749781942434899:Nat:=0
def tw2283480497557504744:Nat:=0
def tw1820406046763328738:Nat:=0
def tw17624731456758155189:Nat:=0
def tw16364373167927100580:Nat:=0
def tw13402640891724300857:Nat:=0
def tw11905978938385298303:Nat:=0
def tw10426125643436316091:Nat:=0
def tw5312734613080425828:Nat:=0
def tw4952506757814975653:Nat:=0
def tw4419873286371483742:Nat:=0
def tw1901531775752417231:Nat:=0
def tw16919330064296535691:Nat:=0
def tw15452572443179084588:Nat:=0
def tw10299302589577801163:Nat:=0
def tw9835382159548102362:Nat:=0
def tw9761588102954696855:Nat:=0
def tw9685044298169568939:Nat:=0
def tw9585978970863474492:Nat:=0
def tw931956834028986255:Nat:=0
def tw9161490523856799436:Nat:=0
def tw8933567498414919238:Nat:=0
def tw8824595633291508535:Nat:=0
def tw8605165415444627158:Nat:=0
def tw8553059368797141306:Nat:=0
def tw8526028360262338249:Nat:=0
def tw8436589768386056944:Nat:=0
def tw8426798971799828003:Nat:=0
def tw8369868683130302868:Nat:=0
def tw8160871880118814707:Nat:=0
def tw8078195926588453703:Nat:=0
def tw7945405709010385892:Nat:=0
def tw7875376050956498882:Nat:=0
def tw7805864855692585105:Nat:=0
def tw7524379617451308511:Nat:=0
def tw7076977106511060911:Nat:=0
def tw7042659310547366237:Nat:=0
def tw6728313399510405491:Nat:=0
def tw6664951462986138201:Nat:=0
def tw6662249597110656733:Nat:=0
def tw644751248652905101:Nat:=0
def tw6315216371427503177:Nat:=0
def tw5681066748535004433:Nat:=0
def tw5674458297940323589:Nat:=0
def tw5552461122284547459:Nat:=0
def tw5425125011635884837:Nat:=0
def tw529536973988259948:Nat:=0
def tw5260856337621036202:Nat:=0
def tw5030944203280556702:Nat:=0
def tw4954584648838934644:Nat:=0
def tw4248988804066548162:Nat:=0
def tw4227517698962585424:Nat:=0
def tw4038909232737020655:Nat:=0
end PySem.W.Fast
open_top head for PySem.Challenge.rw_glyphhall_k37_ways
theorem PySem.Challenge.cw_glyphhall_k37_ways_holds : PySem.Challenge.rw_glyphhall_k37_ways.Holds :=
 head (by
 refine K37.b6w (l:=PySem.Challenge.rw_glyphhall_k37_ways) (n:=63) (k:=46) (x:="_law_script") (CX:=fun w=>L2.CXr PySem.Challenge.rw_glyphhall_k37_ways.prog w) (sp:=K37.spK) rfl (by decide) rfl ⟨rfl,by decide,by decide⟩ (fun w h Y=>PySem.W.kIn_of Y) ?F ?S ?C
 case F=>
  intro w mg fa h KX G hmg
  have T:∃cA,K37.DfE (L2.KOf KX) "law" (K37.top 87)/\∀{h:Heap} {mg:Str->Option Value},(L2.KOf KX).In h->h.Ns mainGlobals mg->EV.Stat PySem.Challenge.rw_glyphhall_k37_ways.prog w ⟨L2.KOf KX,cA,[6],[2]⟩ K37.G K37.ct K37.F mg:=by
   dsimp only[L2.KOf]
   clear hmg
   refine' K37.b1B ?a0 ?a1 ?a2 ?a3 ?a4 ?a5 ?a6 ?a7 ?a8 ?a9 ?a10 ?a11 ?a12 ?a13 ?a14 ?a15 ?a16 ?a17 ?a18 ?a19 ?a20 ?a21 ?a22 ?a23 ?a24 ?a25 ?a26 ?a27 ?a28 ?a29 ?a30 ?a31 ?a32 ?a33 ?a34 ?a35 ?a36 ?a37 ?a38 ?a39 ?a40 ?a41 ?a42 ?a43 ?a44 ?a45 ?a46 ?a47 ?a48 ?a49 ?a50 ?a51 ?a52 ?a53 ?a54 ?a55 ?a56 ?a57 ?a58 ?a59 ?a60 ?a61 ?a62 ?a63 ?a64 ?a65 ?a66 ?a67 ?a68 ?a69 ?a70 ?a71 ?a72 ?a73 ?a74 ?a75 ?a76 ?a77 ?a78 ?a79 ?a80 ?a81 ?a82 ?a83 ?a84 ?a85 ?a86 ?a87 ?a88 ?a89 ?a90 ?a91 ?a92 ?a93 ?a94 ?a95 ?a96 ?a97 ?a98 ?a99 ?a100 ?a101 ?a102 ?a103 ?a104 ?a105 ?a106 ?a107 ?a108 ?a109 ?a110 ?a111 ?a112 ?a113 ?a114 ?a115 ?a116
   (case a0|a1|a2|a3|a4|a5|a6|a85|a93|a94|a95|a96|a97|a98|a99|a100|a101|a102|a103|a104|a105|a106|a107|a108|a109|a110|a111|a112|a113|a114|a115|a116=>k_is)
   (case a7|a8|a9|a10|a11|a12|a13|a14|a15|a16|a17|a18|a19|a20|a21|a22|a23|a24|a25|a26|a27|a28|a29|a30|a31|a32|a33|a34|a35|a36|a37|a38|a39|a40|a41|a42|a43|a44|a45|a46|a47|a48|a49|a50|a51|a52|a53|a54|a55|a56|a57|a58|a59|a60|a61|a62=>refine' K37.b7N ?x ?y ?z ?u;(case x=>k_is);(case y=>k_is);(case z=>k_is);(case u=>k_is))
   (case a63|a64|a65=>refine' K37.b3X ?e1;(case e1=>k_is))
   (case a66|a67|a68|a69|a70|a71|a72|a73|a74|a75|a76=>refine' K37.b5k ?e1;(case e1=>k_is))
   (case a77|a78|a80=>refine' K37.b1p ?e1 ?e2;(case e1=>k_is);(case e2=>k_is))
   (case a79=>refine' K37.b1o ?e1 ?e2;(case e1=>k_is);(case e2=>k_is))
   (case a81=>refine' K37.b3d ?e1 ?e2 ?e3 ?e4 ?e5 ?e6 ?e7 ?e8;(case e1=>k_is);(case e2=>k_is);(case e3=>decide);(case e4=>rfl);(case e5=>rfl);(case e6=>rfl);(case e7=>rfl);(case e8=>decide))
   (case a82=>refine' K37.b2H ?m1 ?m2 ?m3 ?m4 ?e2 ?e3 ?e4;(case m1=>k_is);(case m2=>k_is);(case m3=>k_is);(case m4=>k_is);(case e2=>k_is);(case e3=>k_is);(case e4=>k_is))
   (case a86|a87|a88|a89|a90|a91|a92=>kernel_rfl)
   (case a84=>refine' K37.b5W ?lC ?lD ?oC ?oD ?ini ?n1 ?n2 ?n3 ?n4 ?n5 ?n6 ?d0 ?d1 ?d2 ?d3 ?d4 ?d5 ?d6 ?fn ?kC ?rd ?sp ?fi ?e2 ?e3 ?e4;(case oC|oD=>kernel_rfl);(case lC|lD|ini|n1|n2|n3|n4|n5|n6|d0|d1|d2|d3|d4|d5|d6|fn|kC|rd|sp|fi|e2|e3|e4=>k_is))
   (case a83=>refine' ⟨?p1,?p2,?p3,?p4⟩;(case p1=>k_is);(case p2=>k_is);(case p3=>k_is);(case p4=>k_is))
  obtain⟨cA,D,T⟩:=T;obtain⟨fd,h1,h2⟩:=K37.b5r D (T KX G) KX G hmg;exact⟨fd,h1,fun base _ _=>h2 base⟩
 case S=>
  intro w H a ns hl hO hS;refine K37.b4X a6j ?nl hl hO hS
  (case nl=>kernel_rfl)
 case C=>exact fun w H s e s' z=>K37.b7r z)
