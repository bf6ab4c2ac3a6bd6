import PyProof.Rows.All
import Wide.All
import OpenK.AllK
import Wide.FinOn
import PyProof.EqAt
import PyProof.EqKinds
import PyProof.TupleCall
import OpenK.KOwn
import PyProof.CompUse
import PyProof.NeKinds
import PyProof.StrOps2
import KE.KDictOf
import PyProof.AttrMissHeap
import PyProof.ListRange
import PyProof.TupleOfGen
import PyProof.CollectStr
import KE.KRevIter
import PyProof.Rows.SortWalk
import PyProof.StrLawsTight
import PyProof.StrLawsChain
import PyProof.StrLawsIn
import PyProof.StrLawsIdx
import PyProof.Rows.CatFin
import PyProof.Rows.StrItems
import KE.IntTextLaws
import PyProof.Rows.ReprOcc
import PyProof.FitsInt
import KE.KIntText
import Lean
import PySem.Challenge.RW_glyphhall_k42_seen_from_the_other_side
set_option Elab.async false
set_option linter.all false
set_option maxRecDepth 100000
set_option maxHeartbeats 0
def aa:=@List.length_map
def ac:=@List.getElem?_eq_some_iff
def ae:=@Bool.and_eq_true
def af:=@List.getElem?_eq_getElem
def ai:=@Nat.le_refl
def aj:=@List.getElem?_map
def ak:=@List.mem_map
def ao:=@List.map_append
def ap:=@List.length_append
def aq:=@List.getElem?_append_right
def av:=@List.getElem?_append_left
def aw:=@of_decide_eq_true
def ax:=@Option.some.inj
def ay:=@if_pos
def az:=@if_neg
def aA:=@List.append_assoc
def aB:=@Nat.zero_add
def aC:=@Nat.lt_of_lt_of_le
def aD:=@List.mem_cons_of_mem
def aE:=@List.mem_cons
def aG:=@List.mem_of_getElem?
def aH:=@List.map_map
def aI:=@List.length_range
def aJ:=@List.getElem?_range
def aK:=@List.mem_append
def aM:=@List.length_take
def aN:=@List.mem_range
def aO:=@List.mem_singleton
def aP:=@Nat.lt_irrefl
def aR:=@Nat.le_trans
def aU:=@Nat.le_of_lt
def aV:=@Nat.lt_succ_self
def aX:=@Nat.le_of_not_lt
def aY:=@List.nodup_cons
def aZ:=@List.getElem?_eq_none
def bf:=@List.map_congr_left
def bh:=@List.mem_cons_self
def bj:=@List.append_nil
def bm:=@List.getElem?_of_mem
def bn:=@decide_eq_true
def bo:=@Nat.min_eq_left
def bp:=@List.take_length
def bq:=@List.take_of_length_le
def bt:=@List.mem_filter
def bu:=@List.length_replicate
def bv:=@List.all_eq_true
def bw:=@Bool.or_eq_true
def bx:=@Bool.false_ne_true
def bz:=@List.getElem_mem
def bA:=@List.range_succ
def bB:=@List.sum_append
def bC:=@List.find?_eq_none
def bD:=@List.getD_eq_getElem?_getD
def bE:=@decide_eq_true_eq
def bF:=@decide_eq_false
def bG:=@Nat.sub_self
def bH:=@List.length_drop
def bJ:=@List.getElem?_take_of_lt
def bK:=@List.getElem?_replicate
open List (getElem_inj mem_append_right size_toArray length_cons map_cons of_mem_zip map_nil all_cons any_cons reverse_cons replicate_succ flatten_cons foldl_cons length_reverse nil_append length_nil lookup_cons all_map not_mem_nil drop_eq_getElem_cons drop_zero take_succ_eq_append_getElem nodup_append ext_getElem? nodup_nil any_eq_true isEmpty_iff length_eq_zero_iff drop_length cons_ne_nil cons_append map_id filter_map set_append_right all_nil drop_succ_cons nodup_range sum_cons mem_flatten take_append_drop map_take map_drop flatten_append reverse_perm pairwise_reverse mem_reverse take_succ map_reverse reverse_reverse length_range')
noncomputable section
set_option compiler.extract_closed false
namespace L2
open PySem PySem.Spec PyProof.Rows
abbrev Key:=Sum Int Str
noncomputable def a4a:Key->Value->Bool
 |.inl k,v=>Value.isInt k v
 |.inr x,v=>Value.isStrOf x v
noncomputable def c1i(w:World):Key->Int
 |.inl k=>hashInt k
 |.inr x=>hashStr w x
theorem A8:∀{k:Key} {v:Value},a4a k v=true->(∃i t,k=Sum.inl i/\v=Value.int i t)∨(∃x t,k=Sum.inr x/\v=Value.str x t)
 |.inl i,v,h=>by
  obtain⟨t,e⟩:=Value.isInt_shape (k:=i) (v:=v) h;exact .inl ⟨i,t,rfl,e⟩
 |.inr x,v,h=>by
  obtain⟨t,e⟩:=Value.isStrOf_shape (x:=x) (v:=v) h;exact .inr ⟨x,t,rfl,e⟩
theorem a9y(i:Int)(t:Tok):a4a (.inl i) (.int i t)=true:=by simp[a4a,Value.isInt]
theorem a9x(x:Str)(t:Tok):a4a (.inr x) (.str x t)=true:=by simp[a4a,Value.isStrOf]
theorem b6O(a b:Int):decide ((Sum.inl a:Key)=Sum.inl b)=(a==b):=by
 by_cases e:a=b
 · subst e;simp
 · have h:¬(Sum.inl a:Key)=Sum.inl b:=fun q=>e (Sum.inl.inj q)
   rw[bF h];exact(beq_eq_false_iff_ne.mpr e).symm
theorem b6L(a b:Str):decide ((Sum.inr a:Key)=Sum.inr b)=decide (a=b):=by
 by_cases e:a=b
 · subst e;simp
 · have h:¬(Sum.inr a:Key)=Sum.inr b:=fun q=>e (Sum.inr.inj q)
   rw[bF h,bF e]
theorem b6N(a:Int)(b:Str):decide ((Sum.inl a:Key)=Sum.inr b)=false:=bF (fun q=>nomatch q)
theorem b6M(a:Str)(b:Int):decide ((Sum.inr a:Key)=Sum.inl b)=false:=bF (fun q=>nomatch q)
def u5 (prog:Program) (w:World):PySem.KeyKind prog w Key where
 is:=a4a
 hash:=c1i w
 inj:=fun v a b ha hb=>by
  rcases A8 ha with⟨i,t,rfl,rfl⟩|⟨x,t,rfl,rfl⟩
  · rcases A8 hb with⟨j,u,rfl,e⟩|⟨y,u,rfl,e⟩
    · injection e with e1 _;rw[e1]
    · exact nomatch e
  · rcases A8 hb with⟨j,u,rfl,e⟩|⟨y,u,rfl,e⟩
    · exact nomatch e
    · injection e with e1 _;rw[e1]
 byValue:=fun k v h=>by
  rcases A8 h with⟨i,t,rfl,rfl⟩|⟨x,t,rfl,rfl⟩<;>rfl
 pyHash:=fun hv h=>by
  rcases A8 hv with⟨i,t,rfl,rfl⟩|⟨x,t,rfl,rfl⟩
  · exact wpAny_pyHash_int h
  · exact wpAny_pyHash_str h
 eqBool:=fun hu hv h=>by
  rcases A8 hu with⟨i,t,rfl,rfl⟩|⟨x,t,rfl,rfl⟩
  · rcases A8 hv with⟨j,u,rfl,rfl⟩|⟨y,u,rfl,rfl⟩
    · rw[b6O] at h;exact wpAny_eqBool_int h
    · rw[b6N] at h;exact SeqAt.EqAt.int_str i t y u _ _ _ _ h
  · rcases A8 hv with⟨j,u,rfl,rfl⟩|⟨y,u,rfl,rfl⟩
    · rw[b6M] at h;exact SeqAt.EqAt.str_int x t j u _ _ _ _ h
    · rw[b6L] at h;exact wpAny_eqBool_str h
 «strs»:=fun k x t v h=>by
  rcases A8 h with⟨i,u,rfl,e⟩|⟨y,u,rfl,e⟩
  · exact nomatch e
  · injection e with e1 _
    subst e1
    cases v<;>rfl
theorem a6h(prog:Program)(w:World)(i:Int)(t:Tok):(u5 prog w).is (.inl i) (.int i t)=true:=a9y i t
theorem a6g(prog:Program)(w:World)(x:Str)(t:Tok):(u5 prog w).is (.inr x) (.str x t)=true:=a9x x t
inductive V where
 |non|bl (b:Bool)|int (i:Int)|str (x:Str)|byt (b:Array UInt8)|flt (b:UInt64)|ref (a:Addr)|ty (n:String)
 deriving DecidableEq
def o0:V->Value->Prop
 |.non,u=>u=Value.none
 |.bl b,u=>u=Value.bool b
 |.int i,u=>∃t,u=Value.int i t
 |.str x,u=>∃t,u=Value.str x t
 |.byt b,u=>∃t,u=Value.bytes b t
 |.flt b,u=>∃t,u=Value.float b t
 |.ref a,u=>u=Value.ref a
 |.ty n,u=>u=Value.type n
abbrev k7:List V->List Value->Prop:=Paired o0
variable{us:List Value}
theorem k7.length{xs:List V}(r:k7 xs us):xs.length=us.length:=Paired.length r
theorem k7.get:∀{xs:List V} {us:List Value} {i:Nat} {x:V},k7 xs us->xs[i]? =some x->∃u,us[i]? =some u/\o0 x u
 |_,_,_,_,.nil,e=>by simp at e
 |_,_,0,_,.cons r _,e=>by simp at e;subst e;exact⟨_,rfl,r⟩
 |_,_,i+1,x,.cons _ t,e=>by
  obtain⟨u,h1,h2⟩:=k7.get (i:=i) (x:=x) t (by simpa using e)
  exact⟨u,by simpa using h1,h2⟩
theorem k7.set{x:V}{u:Value}(r:o0 x u):∀{xs:List V} {us:List Value} (i:Nat),k7 xs us->k7 (xs.set i x) (us.set i u)
 |_,_,_,.nil=>.nil
 |_,_,0,.cons _ t=>.cons r t
 |_,_,i+1,.cons q t=>.cons q (k7.set r i t)
theorem k7.append:∀{xs ys:List V} {us ws:List Value},k7 xs us->k7 ys ws->k7 (xs++ys) (us++ws)
 |_,_,_,_,.nil,s=>s
 |_,_,_,_,.cons r t,s=>.cons r (k7.append t s)
theorem k7.take:∀{xs:List V} {us:List Value} (n:Nat),k7 xs us->k7 (xs.take n) (us.take n)
 |_,_,0,_=>.nil
 |_,_,_+1,.nil=>.nil
 |_,_,n+1,.cons r t=>.cons r (k7.take n t)
theorem k7.drop:∀{xs:List V} {us:List Value} (n:Nat),k7 xs us->k7 (xs.drop n) (us.drop n)
 |_,_,0,r=>r
 |_,_,_+1,.nil=>.nil
 |_,_,n+1,.cons _ t=>k7.drop n t
def a0J:Option V->Option Value->Prop
 |some v,some u=>o0 v u
 |none,none=>True
 |_,_=>False
def KV{κ:Type}:List (κ×V)->List (κ×Value)->Prop:=Paired fun(p:κ×V) (q:κ×Value)=>p.1=q.1/\o0 p.2 q.2
noncomputable def kV:Key->V
 |.inl i=>.int i
 |.inr x=>.str x
inductive HO where
 /-- a list -/
 |lst (xs:List V)
 /-- a tuple (never changes) -/
 |tup (xs:List V)
 /-- a dict whose keys are ints and texts; one whose keys are tuples of ints and texts (the empty one is both) -/
 |dK (kvs:List (Key×V))|dT (kvs:List (List Key×V))
 /-- a set of ints: its members, its size -/
 |set (S:Int->Bool) (n:Nat)
 /-- an instance of the class at C, its dict at dx, its attributes -/
 |ins (C dx:Addr) (fs:List (Str×V))
 /-- the dict of the instance at x -/
 |own (x:Addr)
 /-- the dict of an exception -/
 |xd (fs:List (Str×V))
 /-- a bound method, f of x -/
 |met (f x:Addr)
 /-- a range object lo, lo + 1, .. below hi -/
 |rng (lo hi:Int)
 /-- a thing that is known to the object (the script; a dict while a loop walks it): read, never written while it is so -/
 |frz (o:Obj) (u:HO)
 /-- a code object's table -/
 |tbl (ps:Array Value)
 /-- any other thing, by what is true of its one object (a def of one's own: SetO a S n := HO.ext fun h => ..) -/
 |ext (φ:Heap->Prop)
abbrev Hp:=Addr->Option HO
noncomputable def upd(H:Hp)(a:Addr)(o:HO):Hp:=fun b=>if b=a then some o else H b
variable{H:Hp}{a:Addr}
theorem b9{o:HO}:upd H a o a=some o:=by unfold upd;rw[ay rfl]
variable{b:Addr}
theorem k8{o:HO}(h:b≠a):upd H a o b=H b:=by unfold upd;rw[az h]
theorem b8Y{o u:HO}(h:H a=some o)(h':H b=some u)(d:o≠u):a≠b:=by
 intro e;subst e;rw[h] at h';exact d (ax h')
theorem u0{o:HO}(h:H a=some o)(h':H b=none):a≠b:=by
 intro e;subst e;rw[h] at h';cases h'
def a1h(h:Heap)(a:Addr)(items:Array Value):Prop:=∃o,h.get? a=some o/\o.cls=.type "tuple"/\o.dict=none/\∃n,o.data=.seq items n
theorem a1h.tup{h:Heap}{a:Addr}{items:Array Value}(x:a1h h a items):IsTup h a items:=let⟨o,e,c,_,n⟩:=x;⟨o,e,c,n⟩
theorem a1h.new(h:Heap)(items:Array Value):a1h (h.push {cls:=.type "tuple",data:=.seq items}) h.objs.size items:=⟨_,Heap.get?_push_size _ rfl,rfl,rfl,_,rfl⟩
section
variable(P:Program)(w:World)
def C2(H:Hp)(h:Heap)(a:Addr):HO->Prop
 |.lst xs=>xs.length<=sizeLine/\∃(its:List Value) (n:Nat),k7 xs its/\h.get? a=some {cls:=.type "list",data:=.seq its.toArray n}
 |.tup xs=>xs.length<=sizeLine/\∃its:List Value,k7 xs its/\a1h h a its.toArray
 |.dK kvs=>kvs.length<=sizeLine/\(a==sysModules)=false/\∃vs,KV kvs vs/\h.DictOf (u5 P w) a vs
 |.dT kvs=>kvs.length<=sizeLine/\(a==sysModules)=false/\∃xs:List (List Key×Addr×Value),
  Paired (fun(p:List Key×V) (q:List Key×Addr×Value)=>p.1=q.1/\H q.2.1=some (.tup (p.1.map kV))/\o0 p.2 q.2.2) kvs xs∧
  ∃o es ep,h.get? a=some o/\o.ExactDict/\o.data=.dict es ep/\es.toList=xs.map (entryOfKey (tupleKind (u5 P w)))/\(xs.map (·.1)).Nodup
 |.set S n=>h.SetOf (intKind P w) a S n
 |.ins C dx fs=>H dx=some (.own a)/\fs.length<=1000/\dx≠a/\h.get? a=some (PySem.W.instObj C dx)∧
  ∃mA,h.Ns1 dx mA/\(∀f,a0J (fs.lookup f) (mA f))/\PySem.Within mA (fs.map (·.1))
 |.own _=>∃o,h.get? a=some o
 |.xd fs=>∃mA,h.Ns1 a mA/\∀f,a0J (fs.lookup f) (mA f)
 |.rng lo hi=>∃t u v,h.get? a=some {cls:=.type "range",data:=.fields #[.int lo t,.int hi u,.int 1 v]}
 |.frz o u=>h.get? a=some o/\C2 H h a u
 |.tbl ps=>h.get? a=some {cls:=.none,data:=.fields ps}
 |.met f x=>h.get? a=some (PySem.W.methodObj (.ref f) (.ref x))
 |.ext φ=>φ h/\(∃o,h.get? a=some o)/\∀h1 h2:Heap,φ h1->(∀o,h1.get? a=some o->h2.get? a=some o)->φ h2
def HOk(H:Hp)(h:Heap):Prop:=∀a o,H a=some o->C2 P w H h a o
end
variable{α:Type}
section
variable{P:Program}{w:World}{H':Hp}{h h':Heap}{o:HO}
theorem C2.lt(x:C2 P w H h a o):a<h.objs.size:=by
 cases o with
 |lst xs=>obtain⟨_,_,_,_,e⟩:=x;exact Heap.lt_size e
 |tup xs=>obtain⟨_,_,_,p⟩:=x;exact p.tup.lt
 |dK kvs=>obtain⟨_,_,_,_,o,_,_,e,_⟩:=x;exact Heap.lt_size e
 |dT kvs=>obtain⟨_,_,_,_,o,_,_,e,_⟩:=x;exact Heap.lt_size e
 |set S n=>obtain⟨o,_,_,_,e,_⟩:=x;exact Heap.lt_size e
 |ins C dx fs=>obtain⟨_,_,_,e,_⟩:=x;exact Heap.lt_size e
 |own y=>obtain⟨_,e⟩:=x;exact Heap.lt_size e
 |xd fs=>obtain⟨_,⟨_,_,_,e,_⟩,_⟩:=x;exact Heap.lt_size e
 |rng lo hi=>obtain⟨_,_,_,e⟩:=x;exact Heap.lt_size e
 |frz ob u=>obtain⟨e,_⟩:=x;exact Heap.lt_size e
 |tbl ps=>exact Heap.lt_size (show h.get? a=some _ from x)
 |met f y=>exact Heap.lt_size (show h.get? a=some _ from x)
 |ext φ=>obtain⟨_,⟨_,e⟩,_⟩:=x;exact Heap.lt_size e
theorem Paired.mapP{α β:Type}{F G:α->β->Prop}:∀{l₁:List α} {l₂:List β},Paired F l₁ l₂->(∀a b,F a b->G a b)->Paired G l₁ l₂
 |_,_,.nil,_=>.nil
 |_,_,.cons r t,f=>.cons (f _ _ r) (Paired.mapP t f)
theorem C2.stay(x:C2 P w H h a o)(k:∀b u,(b=a∨H b=some (.own a))->h.get? b=some u->h'.get? b=some u)
 (ho:∀b,H b=some (.own a)->H' b=some (.own a)) (ht:∀b xs,H b=some (.tup xs)->H' b=some (.tup xs)):C2 P w H' h' a o:=by
 induction o with
 |lst xs=>obtain⟨z,its,n,r,e⟩:=x;exact⟨z,its,n,r,k _ _ (.inl rfl) e⟩
 |tup xs=>obtain⟨z,its,r,ob,e,c⟩:=x;exact⟨z,its,r,ob,k _ _ (.inl rfl) e,c⟩
 |dK kvs=>obtain⟨z,y,vs,r,ob,es,ep,e,c⟩:=x;exact⟨z,y,vs,r,ob,es,ep,k _ _ (.inl rfl) e,c⟩
 |dT kvs=>
  obtain⟨z,y,xs,r,ob,es,ep,e,c⟩:=x;exact⟨z,y,xs,Paired.mapP r fun p q z=>⟨z.1,ht _ _ z.2.1,z.2.2⟩,ob,es,ep,k _ _ (.inl rfl) e,c⟩
 |set S n=>obtain⟨ob,es,ep,t,e,c⟩:=x;exact⟨ob,es,ep,t,k _ _ (.inl rfl) e,c⟩
 |ins C dx fs=>
  obtain⟨d,z,ne,e,mA,⟨od,es,ep,e2,c⟩,r⟩:=x;exact⟨ho _ d,z,ne,k _ _ (.inl rfl) e,mA,⟨od,es,ep,k _ _ (.inr d) e2,c⟩,r⟩
 |own y=>obtain⟨ob,e⟩:=x;exact⟨ob,k _ _ (.inl rfl) e⟩
 |xd fs=>obtain⟨mA,⟨od,es,ep,e,c⟩,r⟩:=x;exact⟨mA,⟨od,es,ep,k _ _ (.inl rfl) e,c⟩,r⟩
 |rng lo hi=>obtain⟨t,u,v,e⟩:=x;exact⟨t,u,v,k _ _ (.inl rfl) e⟩
 |frz ob u ih=>obtain⟨e,q⟩:=x;exact⟨k _ _ (.inl rfl) e,ih q⟩
 |tbl ps=>
  have e:h.get? a=some {cls:=.none,data:=.fields ps}:=x
  show h'.get? a=some {cls:=.none,data:=.fields ps}
  exact k a _ (.inl rfl) e
 |met f y=>
  have e:h.get? a=some (PySem.W.methodObj (.ref f) (.ref y)):=x
  show h'.get? a=some (PySem.W.methodObj (.ref f) (.ref y))
  exact k a _ (.inl rfl) e
 |ext φ=>obtain⟨p,⟨o,e⟩,st⟩:=x;exact⟨st _ _ p fun o q=>k _ _ (.inl rfl) q,⟨o,k _ _ (.inl rfl) e⟩,st⟩
theorem HOk.lt(x:HOk P w H h)(e:H a=some o):a<h.objs.size:=(x a o e).lt
theorem HOk.fresh(x:HOk P w H h)(e:h.objs.size<=a):H a=none:=by
 cases q:H a with
 |none=>rfl
 |some u=>exact absurd (aC (x.lt q) e) (aP _)
theorem HOk.kept(x:HOk P w H h)(k:∀b u,h.get? b=some u->h'.get? b=some u):HOk P w H h':=fun a o e=>
 (x a o e).stay (fun b u _ q=>k b u q) (fun _ q=>q) fun _ _ q=>q
theorem HOk.laid(x:HOk P w H h)(k:∀b u,h.get? b=some u->h'.get? b=some u)(hp:h.objs.size<=a)(new:C2 P w (upd H a o) h' a o):HOk P w (upd H a o) h':=fun b u e=>by
 have hn:=x.fresh hp
 by_cases hb:b=a
 · subst hb;rw[b9] at e;cases e;exact new
 · rw[k8 hb] at e;exact(x b u e).stay (fun c v _ q=>k c v q) (fun c q=>by rw[k8 (u0 q hn)];exact q) fun c xs q=>by rw[k8 (u0 q hn)];exact q
end
def Rd(H:Hp)(a:Addr)(u:HO):Prop:=H a=some u∨∃o,H a=some (.frz o u)
variable{P:Program}{w:World}{h:Heap}
theorem Rd.ok{u:HO}(r:Rd H a u)(x:HOk P w H h):C2 P w H h a u:=by
 rcases r with r|⟨o,r⟩
 · exact x a u r
 · obtain⟨_,q⟩:=x a _ r;exact q
def Mut:Option HO->Prop
 |some (.lst _)=>True
 |some (.dK _)=>True
 |some (.dT _)=>True
 |some (.set _ _)=>True
 |some (.ins _ _ _)=>True
 |some (.ext _)=>True
 |_=>False
section
variable{h':Heap}{x e:Addr}{o':HO}
theorem HOk.write(ok:HOk P w H h)(mu:Mut (H x))(he:e=x∨H e=some (.own x))(k:∀b u,b≠e->h.get? b=some u->h'.get? b=some u)(heo:∃u,h'.get? e=some u)
 (new:C2 P w (upd H x o') h' x o'):HOk P w (upd H x o') h':=fun b u q=>by
 have nown:∀c y,H c=some (.own y)->c≠x:=fun c y r z=>by subst z;rw[r] at mu;exact mu
 have ntup:∀c xs,H c=some (.tup xs)->c≠x:=fun c xs r z=>by subst z;rw[r] at mu;exact mu
 by_cases hb:b=x
 · subst hb;rw[b9] at q;cases q;exact new
 · rw [k8 hb] at q
   by_cases hbe:b=e
   · have q':H b=some (.own x):=by
      rcases he with z|z
      · exact absurd (hbe.trans z) hb
      · rw[hbe];exact z
     rw[q] at q';cases q'
     obtain⟨v,hv⟩:=heo;exact⟨v,by rw[hbe];exact hv⟩
   · refine(ok b u q).stay (fun c v hc r=>k c v ?_ r) (fun c r=>by rw[k8 (nown c b r)];exact r) fun c xs r=>by rw[k8 (ntup c xs r)];exact r
     rcases hc with rfl|hc
     · exact hbe
     · rintro rfl
       rcases he with z|z
       · exact nown c b hc z
       · rw[hc] at z;cases z;exact hb rfl
end
structure Un(fs ex:List Addr)(H H':Hp)(h h':Heap):Prop where
 keep:∀b o,h.get? b=some o->H b=none->b∉fs->b∉ex->h'.get? b=some o
 slot:∀b o,h.get? b=some o->H b=none->b∈fs->b∉ex->∃sl,h'.get? b=some {o with slots:=sl}
 free:∀b o,h.get? b=some o->H b=none->b∉ex->H' b=none
 there:∀b o,h.get? b=some o->b∉ex->∃o',h'.get? b=some o'
 tups:∀b xs,H b=some (.tup xs)->H' b=some (.tup xs)
 frzs:∀b o u,H b=some (.frz o u)->H' b=some (.frz o u)
 tbls:∀b ps,H b=some (.tbl ps)->∃more,H' b=some (.tbl (ps++more))
section
variable{fs fs' ex ex':List Addr}{H1 H2:Hp}{h1 h2 h':Heap}{x e:Addr}{o:HO}
theorem Un.any(u:Un fs ex H H1 h h1){ob:Obj}(q:h.get? b=some ob)(n:H b=none)(hx:b∉ex):∃sl,h1.get? b=some {ob with slots:=sl}:=by
 by_cases hb:b∈fs
 · exact u.slot b ob q n hb hx
 · exact⟨ob.slots,u.keep b ob q n hb hx⟩
theorem Un.kept(k:∀b u,h.get? b=some u->h'.get? b=some u):Un fs ex H H h h':=
 ⟨fun b ob q _ _ _=>k b ob q,fun b ob q _ _ _=>⟨ob.slots,k b ob q⟩,fun _ _ _ n _=>n,fun b ob q _=>⟨ob,k b ob q⟩,fun _ _ q=>q,fun _ _ _ q=>q,fun _ ps q=>⟨#[],by rw[q];simp⟩⟩
theorem Un.refl:Un fs ex H H h h:=Un.kept fun _ _ q=>q
theorem Un.laid(k:∀b u,h.get? b=some u->h'.get? b=some u)(hp:h.objs.size<=a)(hn:H a=none):Un fs ex H (upd H a o) h h' where
 keep:=fun b u q _ _ _=>k b u q
 slot:=fun b u q _ _ _=>⟨u.slots,k b u q⟩
 free:=fun b u q n _=>by rw[k8 (Nat.ne_of_lt (aC (Heap.lt_size q) hp))];exact n
 there:=fun b u q _=>⟨u,k b u q⟩
 tups:=fun b xs q=>by rw[k8 (u0 q hn)];exact q
 frzs:=fun b u xs q=>by rw[k8 (u0 q hn)];exact q
 tbls:=fun b ps q=>⟨#[],by rw[k8 (u0 q hn),q];simp⟩
theorem Un.write(mu:Mut (H x))(he:e=x∨H e=some (.own x))(k:∀b u,b≠e->h.get? b=some u->h'.get? b=some u)(heo:∃u,h'.get? e=some u):Un fs ex H (upd H x o) h h':=by
 have hx:∀b,H b=none->b≠x:=fun b n z=>by subst z;rw[n] at mu;exact mu
 have hb:∀b,H b=none->b≠e:=fun b n z=>by
  subst z
  rcases he with r|r
  · exact hx b n r
  · rw[n] at r;cases r
 have hm:∀b u,H b=some u->¬Mut (some u)->b≠x:=fun b u q nm z=>by subst z;rw[q] at mu;exact nm mu
 refine⟨fun b u q n _ _=>k b u (hb b n) q,fun b u q n _ _=>⟨u.slots,k b u (hb b n) q⟩,fun b u q n _=>by rw[k8 (hx b n)];exact n,fun b u q _=>?_,
  fun b xs q=>by rw[k8 (hm b _ q fun z=>z)];exact q,fun b u xs q=>by rw[k8 (hm b _ q fun z=>z)];exact q,fun b ps q=>⟨#[],by rw[k8 (hm b _ q fun z=>z),q];simp⟩⟩
 by_cases hbe:b=e
 · subst hbe;exact heo
 · exact⟨u,k b u hbe q⟩
end
noncomputable def trk(h:Heap)(H:Hp):List Addr:=(List.range h.objs.size).filter fun a=>(H a).isSome
def a5d(h:Heap)(H:Hp):Heap:=PySem.W.hideAll h (trk h H)
theorem a9A(h:Heap)(H:Hp):(a5d h H).objs.size=h.objs.size:=PySem.W.hideAll_size _ _
variable{o:Obj}
theorem b1K(e:h.get? b=some o)(n:H b=none):(a5d h H).get? b=some o:=
 PySem.W.hideAll_get _ e fun hm=>by
  have q:(H b).isSome=true:=(bt.mp hm).2
  rw[n] at q;simp at q
theorem b3Y(e:(a5d h H).get? b=some o):h.get? b=some o/\H b=none:=by
 have e':h.get? b=some o:=PySem.W.of_hideAll (trk h H) e
 refine⟨e',?_⟩
 cases q:H b with
 |none=>rfl
 |some x=>
  have hm:b∈trk h H:=bt.mpr ⟨aN.mpr (Heap.lt_size e'),by simp[q]⟩
  have z:(a5d h H).get? b=none:=PySem.W.hideAll_none (trk h H) hm
  rw[z] at e;cases e
noncomputable def b5h(g h:Heap)(L:Addr):List (Addr×Obj):=(List.range h.objs.size).filterMap fun a=>if a=L∨(g.get? a).isSome=true then none else(h.get? a).map fun o=>(a,o)
variable{g:Heap}{L:Addr}
def d5(g h:Heap)(L d:Addr):List (Addr×Obj):=(b5h g h L).filter fun p=>decide (p.1≠d)
variable{d:Addr}{h':Heap}{m:Str->Option Value}
structure Mod(K:PySem.W.Frag)(mg:Str->Option Value)(base:Heap):Prop where
 kin:K.In base
 glob:base.Ns mainGlobals mg
 blt:∃mb,base.Ns builtinsNs mb/\∀x:Str,x≠"__name__"->mb x=bootBuiltins x
 nolimit:base.NoLimit
structure Cx where
 prog:Program
 w:World
 K:PySem.W.Frag
 mg:Str->Option Value
 base:Heap
 A:Around
 N:List Str
 s₀:Shared
 H₀:Hp
 env:Env
 outer:List Env
 stack:List Env
 ex:List Addr
 fn:Str->Bool
 calm:Bool
 pn:List (Addr×Obj)
 xe:Value->Shared->Prop
noncomputable def frs(l:List Env):List Addr:=l.filterMap (·.frame)
abbrev Cx.fs(X:Cx):List Addr:=frs X.outer
def Vis(sc:Scope)(x:Str):Prop:=sc.names.lookup x=some .local∨sc.names.lookup x=some .cell∨sc.names.lookup x=some .free
def Loc(sc:Scope)(x:Str):Prop:=sc.names.lookup x=some .local∨sc.names.lookup x=some .cell
def c2g(env:Env)(h:Heap)(m:Str->Option Value)(x:Str)(u:Value):Prop:=
 (env.kindOf x=some .local/\m x=some u)∨((env.kindOf x=some .cell∨env.kindOf x=some .free)/\∃c,env.cells.lookup x=some c/\h.IsCell c (some u))
structure Cx.Ok(X:Cx):Prop where
 mod:Mod X.K X.mg X.base
 kind:X.env.scope.kind=.function
 glob:X.env.globals=mainGlobals
 blt:X.env.builtins=builtinsNs
 above:X.s₀.heap.objs.size<=X.env.locals
 inj:∀x y c,X.env.cells.lookup x=some c->X.env.cells.lookup y=some c->x=y
 has:∀x,(X.env.kindOf x=some .cell∨X.env.kindOf x=some .free)->∃c,X.env.cells.lookup x=some c
 cab:∀x c,X.fn x=true->X.env.cells.lookup x=some c->X.s₀.heap.objs.size<=c
 hd:X.calm=true->X.A.handled=none
 frames:X.A.frames=some X.stack
 stk:X.stack=X.outer∨(X.stack=X.env::X.outer/\X.env.frame=some X.env.locals)
 exf:∀b∈X.ex,b≠X.env.locals/\∀x c,X.env.cells.lookup x=some c->c≠b
 bs:∀b o,X.base.get? b=some o->X.s₀.heap.get? b=some o/\X.H₀ b=none
 bsz:X.base.objs.size<=X.s₀.heap.objs.size
 noex:∀b o,X.base.get? b=some o->b∉X.ex
 exfs:∀b∈X.ex,b∉X.fs
 funs:X.s₀.heap.FunFrames X.base X.outer
 frf:∀b∈X.fs,X.H₀ b=none
structure Inv(X:Cx)(pins:List (Addr×Obj))(σ:List (Option V))(H:Hp)(s:Shared):Prop where
 ok:X.Ok
 os:s.os=X.s₀.os
 bare:AllBare s.gens
 base:Un X.fs X.ex X.H₀ H X.s₀.heap s.heap
 loc:∃m,s.heap.Ns X.env.locals m/\∀(i:Nat) (x:Str) (v:V),X.N[i]? =some x->σ[i]? =some (some v)->Vis X.env.scope x->∃u,o0 v u/\c2g X.env s.heap m x u
 cell:∀x c,X.env.cells.lookup x=some c->∃v,s.heap.IsCell c v
 free:H X.env.locals=none
 freeC:∀x c,X.env.cells.lookup x=some c->H c=none
 pin:∀p∈X.pn++pins,s.heap.get? p.1=some p.2/\H p.1=none/\p.1≠X.env.locals/\p.1∉X.fs/\∀v,p.2.data≠.cell v
 hok:HOk X.prog X.w H s.heap
 len:σ.length=X.N.length
variable{g':Array GenState}{ch:List Addr}{it:Addr}{N:List Str}{i:Nat}{j:Nat}{x:Str}{M:Model}{A:Around}{v:V}{u:Value}{s':Shared}
section
variable{X:Cx}{pins:List (Addr×Obj)}{σ:List (Option V)}{H':Hp}{s:Shared}
theorem Cx.Ok.nofr(ok:X.Ok)(e:X.base.get? b=some o):b∉X.fs:=fun hb=>by
 have:=(ok.funs.mem hb).1
 rw[e] at this;cases this
theorem Inv.bs(I:Inv X pins σ H s):∀b o,X.base.get? b=some o->s.heap.get? b=some o/\H b=none:=fun b o e=>
 ⟨I.base.keep b o (I.ok.bs b o e).1 (I.ok.bs b o e).2 (I.ok.nofr e) (I.ok.noex b o e),I.base.free b o (I.ok.bs b o e).1 (I.ok.bs b o e).2 (I.ok.noex b o e)⟩
theorem Inv.bk(I:Inv X pins σ H s):∀b o,X.base.get? b=some o->s.heap.get? b=some o:=fun b o e=>(I.bs b o e).1
theorem Inv.mod(I:Inv X pins σ H s):Mod X.K X.mg X.base:=I.ok.mod
theorem Inv.kIn(I:Inv X pins σ H s):X.K.In s.heap:=I.ok.mod.kin.keeps I.bk
theorem Inv.lt(I:Inv X pins σ H s):X.env.locals<s.heap.objs.size:=let⟨_,hn,_⟩:=I.loc;hn.lt
theorem Inv.sz(I:Inv X pins σ H s):X.s₀.heap.objs.size<=s.heap.objs.size:=aR I.ok.above (aU I.lt)
theorem Inv.nofs(I:Inv X pins σ H s)(h:s.heap.objs.size<=a):a∉X.fs:=fun hb=>by
 obtain⟨_,o,ho,_⟩:=I.ok.funs.mem hb;exact absurd (aC (Heap.lt_size ho) (aR I.sz h)) (aP _)
theorem Inv.cne(I:Inv X pins σ H s):∀x c,X.env.cells.lookup x=some c->c≠X.env.locals:=fun x c e z=>by
 obtain⟨v,o,ho,hd⟩:=I.cell x c e;obtain⟨m,⟨o',es,ep,ho',hd',_⟩,_⟩:=I.loc;rw[z,ho'] at ho;cases ho;rw[hd'] at hd;cases hd
theorem Inv.funs(I:Inv X pins σ H s):s.heap.FunFrames X.base X.outer:=by
 have all:∀(l:List Env),(∀b∈frs l,b∈X.fs)->X.s₀.heap.FunFrames X.base l->s.heap.FunFrames X.base l:=by
  intro l
  induction l with
  |nil=>intro _ _;trivial
  |cons env r ih=>
   intro hs hl;obtain⟨hk,⟨L,o,hf,hn,ho,hd⟩,hr⟩:=hl
   have hL:L∈X.fs:=hs L (by unfold frs;rw[List.filterMap_cons,hf];exact bh)
   obtain⟨sl,e⟩:=I.base.slot L o ho (I.ok.frf L hL) hL fun z=>I.ok.exfs L z hL
   exact⟨hk,⟨L,_,hf,hn,e,hd⟩,ih (fun b hb=>hs b (by unfold frs;rw[List.filterMap_cons,hf];exact aD _ hb)) hr⟩
 exact all X.outer (fun _ hb=>hb) I.ok.funs
theorem Inv.stack(I:Inv X pins σ H s):s.heap.FunFrames X.base X.stack:=by
 rcases I.ok.stk with e|⟨e,hf⟩
 · rw[e];exact I.funs
 · rw[e];obtain⟨m,hn,_⟩:=I.loc;refine .cons (by rw[I.ok.kind];decide) hf hn ?_ I.funs
   exact Heap.get?_none_of_le (aR I.ok.bsz I.ok.above)
theorem Inv.stkSub(I:Inv X pins σ H s):∀b∈frs X.stack,b∈X.env.locals::X.fs:=fun b hb=>by
 rcases I.ok.stk with e|⟨e,hf⟩
 · rw[e] at hb;exact aD _ hb
 · rw[e] at hb;unfold frs at hb;rw[List.filterMap_cons,hf] at hb;exact hb
theorem Inv.stkFree(I:Inv X pins σ H s):∀b∈frs X.stack,H b=none:=fun b hb=>by
 rcases aE.mp (I.stkSub b hb) with e|hb
 · rw[e];exact I.free
 · obtain⟨_,o,ho,_⟩:=I.ok.funs.mem hb;exact I.base.free b o ho (I.ok.frf b hb) fun z=>I.ok.exfs b z hb
theorem Inv.step{t':Nat}{d':Drawn}(I:Inv X pins σ H s)
 (hch:∀b∈ch,(b∈X.ex∨X.s₀.heap.objs.size<=b)/\b≠X.env.locals/\(∀x c,X.env.cells.lookup x=some c->c≠b)/\∀p∈X.pn++pins,p.1≠b)
 (keep:∀b o,b≠X.env.locals->b∉X.fs->b∉ch->s.heap.get? b=some o->H b=none->h'.get? b=some o)
 (slot:∀b o,b≠X.env.locals->b∈X.fs->b∉ch->s.heap.get? b=some o->H b=none->∃sl,h'.get? b=some {o with slots:=sl}) (free:∀b o,b∉ch->s.heap.get? b=some o->H b=none->H' b=none)
 (there:∀b o,b∉ch->s.heap.get? b=some o->∃o',h'.get? b=some o')
 (tups:∀b xs,H b=some (.tup xs)->H' b=some (.tup xs)) (frzs:∀b o u,H b=some (.frz o u)->H' b=some (.frz o u)) (tbls:∀b ps,H b=some (.tbl ps)->∃more,H' b=some (.tbl (ps++more)))
 (ns:∀m,s.heap.Ns X.env.locals m->h'.Ns X.env.locals m) (hok:HOk X.prog X.w H' h') (hg:AllBare g'):
 Inv X pins σ H' {s with heap:=h',gens:=g',drawn:=d',toks:=t'}:=by
 have neL:∀b o,X.s₀.heap.get? b=some o->b≠X.env.locals:=fun b o e=>Nat.ne_of_lt (aC (Heap.lt_size e) I.ok.above)
 have neC:∀b o,X.s₀.heap.get? b=some o->b∉X.ex->b∉ch:=fun b o e hx hb=>by
  rcases(hch b hb).1 with z|z
  · exact hx z
  · exact absurd (aC (Heap.lt_size e) z) (aP _)
 have cellK:∀x c,X.env.cells.lookup x=some c->∀v,s.heap.IsCell c v->h'.IsCell c v:=fun x c e v ⟨o,ho,hd⟩=>by
  have nch:c∉ch:=fun z=>(hch c z).2.2.1 x c e rfl
  by_cases hc:c∈X.fs
  · obtain⟨sl,q⟩:=slot c o (I.cne x c e) hc nch ho (I.freeC x c e);exact⟨_,q,hd⟩
  · exact⟨o,keep c o (I.cne x c e) hc nch ho (I.freeC x c e),hd⟩
 refine⟨I.ok,I.os,hg,⟨fun b o e n hb hx=>?_,fun b o e n hb hx=>?_,fun b o e n hx=>?_,fun b o e hx=>?_,fun b xs e=>tups b xs (I.base.tups b xs e),fun b o xs e=>frzs b o xs (I.base.frzs b o xs e),fun b ps e=>?_⟩,?_,fun x c e=>?_,?_,fun x c e=>?_,fun p hp=>?_,hok,I.len⟩
 · exact keep b o (neL b o e) hb (neC b o e hx) (I.base.keep b o e n hb hx) (I.base.free b o e n hx)
 · obtain⟨sl,e1⟩:=I.base.slot b o e n hb hx;obtain⟨sl',e2⟩:=slot b _ (neL b o e) hb (neC b o e hx) e1 (I.base.free b o e n hx);exact⟨sl',e2⟩
 · obtain⟨o',e1⟩:=I.base.there b o e hx;exact free b o' (neC b o e hx) e1 (I.base.free b o e n hx)
 · obtain⟨o',e1⟩:=I.base.there b o e hx;exact there b o' (neC b o e hx) e1
 · obtain⟨m1,e1⟩:=I.base.tbls b ps e;obtain⟨m2,e2⟩:=tbls b _ e1;exact⟨m1++m2,by rw[e2,Array.append_assoc]⟩
 · obtain⟨m,hn,hl⟩:=I.loc;refine⟨m,ns m hn,fun i x v e1 e2 e3=>?_⟩
   obtain⟨u,r,l⟩:=hl i x v e1 e2 e3;refine⟨u,r,?_⟩
   rcases l with l|⟨k,c,e,z⟩
   · exact .inl l
   · exact .inr ⟨k,c,e,cellK x c e _ z⟩
 · obtain⟨v,z⟩:=I.cell x c e;exact⟨v,cellK x c e v z⟩
 · obtain⟨m,⟨o,_,_,ho,_⟩,_⟩:=I.loc;exact free _ o (fun z=>(hch _ z).2.1 rfl) ho I.free
 · obtain⟨v,o,ho,hd⟩:=I.cell x c e;exact free c o (fun z=>(hch c z).2.2.1 x c e rfl) ho (I.freeC x c e)
 · obtain⟨e,n,ne,nf,d⟩:=I.pin p hp
   have nch:p.1∉ch:=fun z=>(hch p.1 z).2.2.2 p hp rfl
   exact⟨keep p.1 p.2 ne nf nch e n,free p.1 p.2 nch e n,ne,nf,d⟩
theorem Inv.un{t':Nat}(I:Inv X pins σ H s)(u:Un X.fs [] H H' s.heap h')(hok:HOk X.prog X.w H' h'):Inv X pins σ H' {s with heap:=h',toks:=t'}:=by
 obtain⟨m,⟨o,es,ep,ho,r⟩,_⟩:=id I.loc;obtain⟨sl,hL⟩:=u.any ho I.free (by simp)
 exact I.step (g':=s.gens) (d':=s.drawn) (ch:=[]) (fun _ z=>nomatch z) (fun b o _ hb _ e n=>u.keep b o e n hb (by simp)) (fun b o _ hb _ e n=>u.slot b o e n hb (by simp)) (fun b o _ e n=>u.free b o e n (by simp)) (fun b o _ e=>u.there b o e (by simp)) u.tups u.frzs u.tbls (fun m' hm=>by
  obtain⟨o',es',ep',ho',r'⟩:=hm;rw[ho] at ho';cases ho'
  exact⟨_,es',ep',hL,r'⟩) hok I.bare
theorem Inv.call{t':Nat}{d':Drawn}(I:Inv X pins σ H s)(u:Un (frs X.stack) ch H H' s.heap h')(hok:HOk X.prog X.w H' h')(hg:AllBare g')
 (hch:∀b∈ch,(b∈X.ex∨X.s₀.heap.objs.size<=b)/\b≠X.env.locals/\(∀x c,X.env.cells.lookup x=some c->c≠b)/\∀p∈X.pn++pins,p.1≠b):
 Inv X pins σ H' {s with heap:=h',gens:=g',drawn:=d',toks:=t'}:=by
 obtain⟨m,⟨o,es,ep,ho,r⟩,_⟩:=id I.loc;obtain⟨sl,hL⟩:=u.any ho I.free fun z=>(hch _ z).2.1 rfl
 exact I.step (ch:=ch) hch (fun b o hL hb hc e n=>u.keep b o e n (fun z=>(aE.mp (I.stkSub b z)).elim hL hb) hc) (fun b o _ _ hc e n=>u.any e n hc) (fun b o hc e n=>u.free b o e n hc) (fun b o hc e=>u.there b o e hc) u.tups u.frzs u.tbls (fun m' hm=>by
  obtain⟨o',es',ep',ho',r'⟩:=hm;rw[ho] at ho';cases ho'
  exact⟨_,es',ep',hL,r'⟩) hok hg
theorem Inv.turned{t':Nat}(I:Inv X pins σ H s)(k:∀b o,b≠it->s.heap.get? b=some o->h'.get? b=some o)(hn:H it=none)(hL:it≠X.env.locals)
 (h1:it∈X.ex∨X.s₀.heap.objs.size<=it) (h2:∀x c,X.env.cells.lookup x=some c->c≠it) (h3:∀p∈X.pn++pins,p.1≠it):Inv X pins σ H {s with heap:=h',toks:=t'}:=by
 have nit:∀b u,H b=some u->b≠it:=fun b u e z=>by rw[z,hn] at e;cases e
 refine I.step (g':=s.gens) (d':=s.drawn) (ch:=[it]) (fun b hb=>?_) (fun b o _ _ hc e _=>k b o (fun z=>hc (by simp[z])) e) (fun b o _ _ hc e _=>⟨o.slots,k b o (fun z=>hc (by simp[z])) e⟩) (fun _ _ _ _ n=>n)
  (fun b o hc e=>⟨o,k b o (fun z=>hc (by simp[z])) e⟩) (fun _ _ e=>e) (fun _ _ _ e=>e) (fun b ps e=>⟨#[],by rw[e];simp⟩) (fun m hm=>?_) (fun b u e=>?_) I.bare
 · have e:b=it:=by simpa using hb
   subst e;exact⟨h1,hL,h2,h3⟩
 · obtain⟨o,es,ep,ho,r⟩:=hm;exact⟨o,es,ep,k _ o (Ne.symm hL) ho,r⟩
 · refine(I.hok b u e).stay (fun c v hc q=>k c v ?_ q) (fun _ q=>q) fun _ _ q=>q
   rcases hc with z|z
   · rw[z];exact nit b u e
   · exact nit c _ z
theorem Inv.tok(I:Inv X pins σ H s)(t:Nat):Inv X pins σ H {s with toks:=t}:=I.un (h':=s.heap) (t':=t) Un.refl I.hok
theorem Inv.kept{t':Nat}(I:Inv X pins σ H s)(k:∀b u,s.heap.get? b=some u->h'.get? b=some u):Inv X pins σ H {s with heap:=h',toks:=t'}:=I.un (Un.kept k) (I.hok.kept k)
theorem Inv.laid{o:HO}{t':Nat}(I:Inv X pins σ H s)(k:∀b u,s.heap.get? b=some u->h'.get? b=some u)(hp:s.heap.objs.size<=a)(new:C2 X.prog X.w (upd H a o) h' a o):
 Inv X pins σ (upd H a o) {s with heap:=h',toks:=t'}:=I.un (Un.laid k hp (I.hok.fresh hp)) (I.hok.laid k hp new)
theorem Inv.write{x e:Addr}{o:HO}{t':Nat}(I:Inv X pins σ H s)(mu:Mut (H x))(he:e=x∨H e=some (.own x))(k:∀b u,b≠e->s.heap.get? b=some u->h'.get? b=some u)(heo:∃u,h'.get? e=some u)
 (new:C2 X.prog X.w (upd H x o) h' x o):Inv X pins σ (upd H x o) {s with heap:=h',toks:=t'}:=I.un (Un.write mu he k heo) (I.hok.write mu he k heo new)
theorem Inv.weak{σ':List (Option V)}(I:Inv X pins σ H s)(hl:σ'.length=σ.length)(w:∀(i:Nat) v,σ'[i]? =some (some v)->σ[i]? =some (some v)):Inv X pins σ' H s:=
 ⟨I.ok,I.os,I.bare,I.base,let⟨m,hn,hl'⟩:=I.loc;⟨m,hn,fun i x v e1 e2 e3=>hl' i x v e1 (w i v e2) e3⟩,I.cell,I.free,I.freeC,I.pin,I.hok,hl.trans I.len⟩
theorem Inv.pins_of{pins':List (Addr×Obj)}(I:Inv X pins σ H s)(h:∀p∈pins',s.heap.get? p.1=some p.2/\H p.1=none/\p.1≠X.env.locals/\p.1∉X.fs/\∀v,p.2.data≠.cell v):Inv X pins' σ H s:=
 ⟨I.ok,I.os,I.bare,I.base,I.loc,I.cell,I.free,I.freeC,fun p hp=>(aK.mp hp).elim (fun z=>I.pin p (List.mem_append_left _ z)) (h p),I.hok,I.len⟩
theorem a6e(hN:N.Nodup)(a:N[i]? =some x)(b:N[j]? =some x):i=j:=by
 obtain⟨h1,e1⟩:=ac.mp a
 obtain⟨h2,e2⟩:=ac.mp b
 exact(getElem_inj hN).mp (e1.trans e2.symm)
theorem a3K{E:Value->Shared->Prop}{Q:Unit->Shared->Prop}(I:Inv X pins σ H s)(hN:X.N.Nodup)(hi:X.N[i]? =some x)(hx:Loc X.env.scope x)(r:o0 v u)
 (h:∀s',Inv X pins (σ.set i (some v)) H s'->(∃a,Heap.SameBut a s.heap s'.heap/\(a=X.env.locals∨X.env.cells.lookup x=some a))->Q () s') (hf:X.fn x=true∨X.env.scope.names.lookup x=some .local:=by first|exact .inl rfl|exact .inr rfl|assumption):wpAny M A (storeName X.env x u) Q E s:=by
 obtain⟨m,hn,hl⟩:=id I.loc
 have hcls:(X.env.scope.kind==.class||(X.env.scope.kind==.module&&X.env.locals !=X.env.globals))=false:=by rw[I.ok.kind];rfl
 have hiσ:i<σ.length:=by rw[I.len];exact(ac.mp hi).1
 have cne:=I.cne
 have tracked:∀{a:Addr} {h':Heap},(∃o,s.heap.get? a=some o/\H a=none)->Heap.SameBut a s.heap h'->HOk X.prog X.w H h':=fun{a h'} ha hs b ob e=>by
  obtain⟨_,_,hfree⟩:=ha;refine(I.hok b ob e).stay (fun c w' hc q=>(hs.2 c ?_).trans q) (fun _ q=>q) fun _ _ q=>q
  rintro rfl
  rcases hc with rfl|hc
  · rw[hfree] at e;cases e
  · rw[hfree] at hc;cases hc
 rcases hx with hk|hk
 · refine wpAny_storeName_local hk hn (fun h' hn' hs=>?_) hcls
   obtain⟨oL,_,_,hoL,_⟩:=id hn;refine h _ ⟨I.ok,I.os,I.bare,⟨fun b o e n hb hx=>?_,fun b o e n hb hx=>?_,I.base.free,fun b o e hx=>?_,I.base.tups,I.base.frzs,I.base.tbls⟩,⟨_,hn',fun j y v' e1 e2 e3=>?_⟩,fun y c e=>?_,I.free,I.freeC,fun p hp=>?_,tracked ⟨oL,hoL,I.free⟩ hs,by simpa using I.len⟩ ⟨_,hs,.inl rfl⟩
   · exact(hs.2 b (Nat.ne_of_lt (aC (Heap.lt_size e) I.ok.above))).trans (I.base.keep b o e n hb hx)
   · obtain⟨sl,e1⟩:=I.base.slot b o e n hb hx;exact⟨sl,(hs.2 b (Nat.ne_of_lt (aC (Heap.lt_size e) I.ok.above))).trans e1⟩
   · obtain⟨o',e1⟩:=I.base.there b o e hx;exact⟨o',(hs.2 b (Nat.ne_of_lt (aC (Heap.lt_size e) I.ok.above))).trans e1⟩
   · by_cases hj:j=i
     · subst hj;rw[hi] at e1;cases e1
       rw[List.getElem?_set_self hiσ] at e2
       cases e2;exact⟨u,r,.inl ⟨hk,by simp⟩⟩
     · rw[List.getElem?_set_ne (Ne.symm hj)] at e2
       obtain⟨u',r',q⟩:=hl j y v' e1 e2 e3;refine⟨u',r',?_⟩
       rcases q with⟨k,e⟩|⟨k,c,e,z⟩
       · refine .inl ⟨k,?_⟩
         have:y≠x:=fun e=>hj (a6e hN e1 (e▸hi))
         simp[this,e]
       · exact .inr ⟨k,c,e,z.sameBut hs (cne y c e)⟩
   · obtain⟨w',z⟩:=I.cell y c e;exact⟨w',z.sameBut hs (cne y c e)⟩
   · obtain⟨e,n,ne,nf,d⟩:=I.pin p hp;exact⟨(hs.2 p.1 ne).trans e,n,ne,nf,d⟩
 · have hfn:X.fn x=true:=by
    rcases hf with z|z
    · exact z
    · rw[z] at hk;cases hk
   obtain⟨c,hc⟩:=I.ok.has x (.inl hk);obtain⟨w',z⟩:=I.cell x c hc;refine wpAny_storeName_cell I.ok.kind hk hc z (fun h' hc' hs=>?_)
   obtain⟨oc,hoc,hocd⟩:=id z;refine h {s with heap:=h'} ⟨I.ok,I.os,I.bare,⟨fun b o e n hb hx=>?_,fun b o e n hb hx=>?_,I.base.free,fun b o e hx=>?_,I.base.tups,I.base.frzs,I.base.tbls⟩,⟨m,hn.sameBut hs (Ne.symm (cne x c hc)),fun j y v' e1 e2 e3=>?_⟩,fun y c' e=>?_,I.free,I.freeC,fun p hp=>?_,tracked ⟨oc,hoc,I.freeC x c hc⟩ hs,by simpa using I.len⟩ ⟨c,hs,.inr hc⟩
   · exact(hs.2 b (Nat.ne_of_lt (aC (Heap.lt_size e) (I.ok.cab x c hfn hc)))).trans (I.base.keep b o e n hb hx)
   · obtain⟨sl,e1⟩:=I.base.slot b o e n hb hx;exact⟨sl,(hs.2 b (Nat.ne_of_lt (aC (Heap.lt_size e) (I.ok.cab x c hfn hc)))).trans e1⟩
   · obtain⟨o',e1⟩:=I.base.there b o e hx;exact⟨o',(hs.2 b (Nat.ne_of_lt (aC (Heap.lt_size e) (I.ok.cab x c hfn hc)))).trans e1⟩
   · by_cases hj:j=i
     · subst hj;rw[hi] at e1;cases e1
       rw[List.getElem?_set_self hiσ] at e2
       cases e2;exact⟨u,r,.inr ⟨.inl hk,c,hc,hc'⟩⟩
     · rw[List.getElem?_set_ne (Ne.symm hj)] at e2
       obtain⟨u',r',q⟩:=hl j y v' e1 e2 e3;refine⟨u',r',?_⟩
       rcases q with q|⟨k,c',e,z'⟩
       · exact .inl q
       · refine .inr ⟨k,c',e,z'.sameBut hs ?_⟩
         rintro rfl;exact hj (a6e hN e1 (I.ok.inj _ _ _ e hc▸hi))
   · by_cases hcc:c'=c
     · subst hcc;exact⟨_,hc'⟩
     · obtain⟨w2,z2⟩:=I.cell y c' e;exact⟨w2,z2.sameBut hs hcc⟩
   · obtain⟨e,n,ne,nf,d⟩:=I.pin p hp;refine⟨(hs.2 p.1 ?_).trans e,n,ne,nf,d⟩
     intro q;rw[q,hoc] at e
     have q':oc=p.2:=ax e
     exact d w' (by rw[←q'];exact hocd)
theorem a5M{E:Value->Shared->Prop}{Q:Unit->Shared->Prop}(I:Inv X pins σ H s)(hN:X.N.Nodup)(hi:X.N[i]? =some x)(hx:Loc X.env.scope x)(r:o0 v u)
 (h:∀s',Inv X pins (σ.set i (some v)) H s'->Q () s') (hf:X.fn x=true∨X.env.scope.names.lookup x=some .local:=by first|exact .inl rfl|exact .inr rfl|assumption):wpAny M A (storeName X.env x u) Q E s:=
 a3K I hN hi hx r (fun s' I' _=>h s' I') hf
theorem Inv.call'(I:Inv X pins σ H s)(ho:s'.os=s.os)(u:Un (frs X.stack) ch H H' s.heap s'.heap)(hok:HOk X.prog X.w H' s'.heap)(hg:AllBare s'.gens)
 (hch:∀b∈ch,(b∈X.ex∨X.s₀.heap.objs.size<=b)/\b≠X.env.locals/\(∀x c,X.env.cells.lookup x=some c->c≠b)/\∀p∈X.pn++pins,p.1≠b):Inv X pins σ H' s':=by
 obtain⟨h',g',d',t',o'⟩:=s'
 have e:o'=s.os:=ho
 subst e;exact I.call (g':=g') (t':=t') (d':=d') u hok hg hch
end
abbrev XK:=Value->Option Addr->Hp->Prop
abbrev St:=List (Option V)
abbrev VK:=V->Hp->Prop
abbrev TE:=St->Hp->VK->Prop
abbrev TT:=St->Hp->(Bool->Hp->Prop)->Prop
abbrev TA:=St->Hp->(List V->Hp->Prop)->Prop
structure Ends where
 nx:St->Hp->Prop
 rt:VK
 bk:St->Hp->Prop:=fun _ _=>False
 ct:St->Hp->Prop:=fun _ _=>False
abbrev TS:=Ends->St->Hp->Prop
def EP(X:Cx)(pins:List (Addr×Obj))(σ:St)(Q:VK)(u:Value)(s':Shared):Prop:=∃v H',Inv X pins σ H' s'/\o0 v u/\Q v H'
def TP(X:Cx)(pins:List (Addr×Obj))(σ:St)(Q:Bool->Hp->Prop)(b:Bool)(s':Shared):Prop:=∃H',Inv X pins σ H' s'/\Q b H'
def AP(X:Cx)(pins:List (Addr×Obj))(σ:St)(Q:List V->Hp->Prop)(us:List Value)(s':Shared):Prop:=∃vs H',Inv X pins σ H' s'/\k7 vs us/\Q vs H'
def SP(X:Cx)(pins:List (Addr×Obj))(D:Ends)(f:Flow)(s':Shared):Prop:=
 match f with
 |.next=>∃σ' H',Inv X pins σ' H' s'/\D.nx σ' H'
 |.brk=>∃σ' H',Inv X pins σ' H' s'/\D.bk σ' H'
 |.cont=>∃σ' H',Inv X pins σ' H' s'/\D.ct σ' H'
 |.ret u=>∃v σ' H',Inv X pins σ' H' s'/\o0 v u/\D.rt v H'
def PE(X:Cx)(e:Expr)(t:TE):Prop:=
 ∀(pins:List (Addr×Obj)) (s:Shared) (σ:St) (H:Hp) (Q:VK),Inv X pins σ H s->t σ H Q->wpAny (model X.prog X.w) X.A (eval e X.env) (EP X pins σ Q) X.xe s
def PT(X:Cx)(e:Expr)(t:TT):Prop:=
 ∀(pins:List (Addr×Obj)) (s:Shared) (σ:St) (H:Hp) (Q:Bool->Hp->Prop),Inv X pins σ H s->t σ H Q->wpAny (model X.prog X.w) X.A (isTrue e X.env (eval e X.env)) (TP X pins σ Q) X.xe s
def PW(X:Cx)(e:Expr)(t:TT):Prop:=
 ∀(whole:Sem Value) (pins:List (Addr×Obj)) (s:Shared) (σ:St) (H:Hp) (Q:Bool->Hp->Prop),Inv X pins σ H s->t σ H Q->wpAny (model X.prog X.w) X.A (isTrue e X.env whole) (TP X pins σ Q) X.xe s
variable{X:Cx}{e:Expr}
theorem PW.pt{t:TT}(h:PW X e t):PT X e t:=h _
def PA(X:Cx)(es:List Expr)(t:TA):Prop:=
 ∀(pos:Pos) (pins:List (Addr×Obj)) (s:Shared) (σ:St) (H:Hp) (Q:List V->Hp->Prop),Inv X pins σ H s->t σ H Q->wpAny (model X.prog X.w) X.A (spliced (backTo pos (starEach es X.env))) (AP X pins σ Q) X.xe s
def PS(X:Cx)(st:Stmt)(t:TS):Prop:=
 ∀(pins:List (Addr×Obj)) (s:Shared) (σ:St) (H:Hp) (D:Ends),Inv X pins σ H s->t D σ H->wpAny (model X.prog X.w) X.A (exec st X.env) (SP X pins D) X.xe s
def PSs(X:Cx)(st:List Stmt)(t:TS):Prop:=
 ∀(pins:List (Addr×Obj)) (s:Shared) (σ:St) (H:Hp) (D:Ends),Inv X pins σ H s->t D σ H->wpAny (model X.prog X.w) X.A (execs st X.env) (SP X pins D) X.xe s
variable{s:Shared}
theorem thn{t:Sem α}{Q Q':α->Shared->Prop}{E:Value->Shared->Prop}(h:wpAny M A t Q E s)(hQ:∀a s,Q a s->Q' a s):wpAny M A t Q' E s:=wpAny_mono h hQ fun _ _ x=>x
variable{pins:List (Addr×Obj)}{σ:St}{pos:Pos}{Q:Value->Shared->Prop}{op:CmpOp}{c:Expr}
section
theorem bin{a b:Expr}{ta tb:TE}(ha:PE X a ta)(hb:PE X b tb){R:V->V->Hp->Prop}(I:Inv X pins σ H s)(h:ta σ H fun x H1=>tb σ H1 fun y H2=>R x y H2)
 {Q :α->Shared->Prop} {f:Value->Value->Sem α}
    (hf:∀v u s2 x y H2,Inv X pins σ H2 s2->o0 x v->o0 y u->R x y H2->wpAny (model X.prog X.w) X.A (f v u) Q X.xe s2):
    wpAny (model X.prog X.w) X.A (eval a X.env) (fun v s₁=>wpAny (model X.prog X.w) X.A (eval b X.env) (fun u s₂=>wpAny (model X.prog X.w) X.A (f v u) Q X.xe s₂) X.xe s₁) X.xe s:=by
  refine thn (ha pins s σ H _ I h) fun v s1 ⟨x,H1,I1,r1,q1⟩=>?_
  refine thn (hb pins s1 σ H1 _ I1 q1) fun u s2 ⟨y,H2,I2,r2,q2⟩=>?_
  exact hf v u s2 x y H2 I2 r1 r2 q2
noncomputable def b8k(i:Nat):TE:=fun σ H Q=>∃v,σ[i]? =some (some v)/\Q v H
def tC(v:V):TE:=fun _ H Q=>Q v H
theorem b0Y(hN:X.N[i]? =some x)(hv:Vis X.env.scope x)(hd:(x==("__debug__":Str))=false:=by decide)(hcd:(x==("__classdict__":Str))=false:=by decide):PE X (.Name x pos) (b8k i):=by
 intro pins s σ H Q I h;obtain⟨v,e,h⟩:=h;obtain⟨m,hn,hl⟩:=I.loc;obtain⟨u,r,l⟩:=hl i x v hN e hv
 have fin:EP X pins σ Q u s:=⟨v,H,I,r,h⟩
 rcases l with⟨hk,hm⟩|⟨hk,c,hc,hcell⟩
 · exact wpAny_Name (wpAny_loadName_local I.ok.kind hk hn hm fin) hd
 · rcases hk with hk|hk
   · exact wpAny_Name (wpAny_loadName_cell I.ok.kind hk hc hcell fin) hd
   · exact wpAny_Name (wpAny_loadName_free I.ok.kind hk hc hcell fin hcd) hd
theorem b1c{i j pos}:PE X (.Constant (.int i) j pos) (tC (.int i)):=fun _ _ _ H _ I h=>wpAny_Constant_int ⟨.int i,H,I.tok _,⟨_,rfl⟩,h⟩
theorem b8P{b j pos}:PE X (.Constant (.bool b) j pos) (tC (.bl b)):=fun _ _ _ H _ I h=>Constant_bool ⟨.bl b,H,I,rfl,h⟩
theorem b6l{j pos}:PE X (.Constant .none j pos) (tC .non):=fun _ _ _ H _ I h=>Constant_none ⟨.non,H,I,rfl,h⟩
theorem b0Z{x j pos}:PE X (.Constant (.str x) j pos) (tC (.str x)):=fun _ _ _ H _ I h=>Calls.Constant_str ⟨.str x,H,I.tok _,⟨_,rfl⟩,h⟩
def Gl(X:Cx)(x:Str):Prop:=X.env.kindOf x=some .globalImplicit
theorem a4W{E:Value->Shared->Prop}(I:Inv X pins σ H s)(hg:Gl X x)(hm:X.mg x=some u)(h:Q u s)
 (hd:(x==("__debug__":Str))=false:=by decide):wpAny (model X.prog X.w) X.A (eval (.Name x pos) X.env) Q E s:=
 Calls.Name_function_global I.ok.kind hg (Calls.loadGlobal_global (by rw[I.ok.glob];exact I.mod.glob.keeps I.bk) hm h) hd
theorem a0f{E:Value->Shared->Prop}(I:Inv X pins σ H s)(hg:Gl X x)(hm:X.mg x=none)(hv:bootBuiltins x=some u)(h:Q u s)
 (hn:x≠"__name__":=by decide) (hd:(x==("__debug__":Str))=false:=by decide):wpAny (model X.prog X.w) X.A (eval (.Name x pos) X.env) Q E s:=by
 obtain⟨mb,h1,h2⟩:=I.mod.blt;exact Calls.Name_function_global I.ok.kind hg (Calls.loadGlobal_builtin (by rw[I.ok.glob];exact I.mod.glob.keeps I.bk) hm (by rw[I.ok.blt];exact h1.keeps I.bk) ((h2 x hn).trans hv) h) hd
theorem a1n(hg:Gl X x)(hm:X.mg x=some u)(r:o0 v u)(hd:(x==("__debug__":Str))=false:=by decide):PE X (.Name x pos) (tC v):=
 fun _ _ _ H _ I h=>a4W I hg hm ⟨v,H,I,r,h⟩ hd
variable{a b:Expr}{ta tb:TE}
def PC(X:Cx)(op:CmpOp)(a b:Expr)(t:TE):Prop:=
 ∀(pins:List (Addr×Obj)) (s:Shared) (σ:St) (H:Hp) (Q:VK),Inv X pins σ H s->t σ H Q→
  wpAny (model X.prog X.w) X.A (eval a X.env) (fun v s₁=>wpAny (model X.prog X.w) X.A (eval b X.env) (fun u s₂=>wpAny (model X.prog X.w) X.A (compareOp op v u) (EP X pins σ Q) X.xe s₂) X.xe s₁) X.xe s
theorem a6f(b:Expr)(h:op≠.In)(h2:op≠.NotIn):behindInMarks op b=false:=by
 have e1:(op==CmpOp.In)=false:=by cases op<;>first|rfl|exact absurd rfl h
 have e2:(op==CmpOp.NotIn)=false:=by cases op<;>first|rfl|exact absurd rfl h2
 cases b<;>simp[behindInMarks,e1,e2]
noncomputable def c0R(ta:TE):TE:=fun σ H Q=>ta σ H fun x H1=>Q (.bl (decide (x=.non))) H1
noncomputable def b8n(ta:TE):TE:=fun σ H Q=>ta σ H fun x H1=>Q (.bl (!decide (x=.non))) H1
theorem o0.none_iff{x:V}{v:Value}(r:o0 x v):(v==Value.none)=decide (x=.non):=by
 cases x with
 |non=>cases r;rfl
 |bl _=>cases r;rfl
 |int _=>obtain⟨t,rfl⟩:=r;rfl
 |str _=>obtain⟨t,rfl⟩:=r;rfl
 |byt _=>obtain⟨t,rfl⟩:=r;rfl
 |flt _=>obtain⟨t,rfl⟩:=r;rfl
 |ref _=>cases r;rfl
 |ty _=>cases r;rfl
theorem b1i{j pos'}(ha:PE X a ta):PC X .Is a (.Constant .none j pos') (c0R ta):=by
 intro pins s σ H Q I h;refine thn (ha pins s σ H _ I h) fun v s1 ⟨x,H1,I1,r1,q1⟩=>?_
 exact Constant_none (is_none_gen ⟨.bl _,H1,I1,by rw[r1.none_iff];rfl,q1⟩)
theorem a8b{j pos'}(ha:PE X a ta):PC X .IsNot a (.Constant .none j pos') (b8n ta):=by
 intro pins s σ H Q I h;refine thn (ha pins s σ H _ I h) fun v s1 ⟨x,H1,I1,r1,q1⟩=>?_
 exact Constant_none (isnot_none_gen ⟨.bl _,H1,I1,by rw[r1.none_iff];rfl,q1⟩)
noncomputable def tB(t:TE):TT:=fun σ H Q=>t σ H fun x H1=>∃c,x=.bl c/\Q c H1
theorem b1g{t:TE}(h:PC X op a b t)(h1:behindInMarks op b=false:=by first|exact a6f _ (by decide) (by decide)|rfl):PE X (.Compare a [op] [b] pos) t:=fun pins s σ H Q I hw=>wpAny_Compare1 (h pins s σ H Q I hw) h1
theorem b0L{t:TE}(h:PC X op a b t)(h1:behindInMarks op b=false:=by first|exact a6f _ (by decide) (by decide)|rfl):PT X (.Compare a [op] [b] pos) (tB t):=by
 intro pins s σ H Q I hw;refine wpAny_isTrue_Compare1 (thn (h pins s σ H _ I hw) fun v s1 h1=>thn h1 fun u s2 h2=>thn h2 fun c s3 ⟨x,H1,I1,r1,q1⟩=>?_) h1
 obtain⟨d,rfl,q⟩:=q1;cases r1;exact wpAny_truthy_bool ⟨H1,I1,q⟩
variable{tA tB':TT}{d5:List Expr}
noncomputable def c0W(t u:TT):TT:=fun σ H Q=>t σ H fun c H1=>if c=true then u σ H1 Q else Q false H1
noncomputable def tOr(t u:TT):TT:=fun σ H Q=>t σ H fun c H1=>if c=true then Q true H1 else u σ H1 Q
noncomputable def c0P(t:TT):TT:=fun σ H Q=>t σ H fun c H1=>Q (!c) H1
theorem b3z(ha:PT X a tA):PW X (.BoolOp .And [a] pos) tA:=by
 intro wh pins s σ H Q I h;refine isTrue_and (thn (ha pins s σ H Q I h) fun c s1 e=>?_)
 cases c with
 |true=>exact isTrue_and_nil e
 |false=>exact e
theorem b5R(ha:PT X a tA):PW X (.BoolOp .Or [a] pos) tA:=by
 intro wh pins s σ H Q I h;refine isTrue_or (thn (ha pins s σ H Q I h) fun c s1 e=>?_)
 cases c with
 |false=>exact isTrue_or_nil e
 |true=>exact e
theorem b5S(ha:PT X a tA)(hb:PW X (.BoolOp .And (b::d5) pos) tB'):PW X (.BoolOp .And (a::b::d5) pos) (c0W tA tB'):=by
 intro wh pins s σ H Q I h;refine isTrue_and (thn (ha pins s σ H _ I h) fun c s1 ⟨H1,I1,q1⟩=>?_)
 cases c with
 |true=>exact hb wh pins s1 σ H1 Q I1 q1
 |false=>exact⟨H1,I1,q1⟩
theorem b8K(ha:PT X a tA)(hb:PW X (.BoolOp .Or (b::d5) pos) tB'):PW X (.BoolOp .Or (a::b::d5) pos) (tOr tA tB'):=by
 intro wh pins s σ H Q I h;refine isTrue_or (thn (ha pins s σ H _ I h) fun c s1 ⟨H1,I1,q1⟩=>?_)
 cases c with
 |true=>exact⟨H1,I1,q1⟩
 |false=>exact hb wh pins s1 σ H1 Q I1 q1
theorem b5W(ha:PT X a tA):PT X (.UnaryOp .Not a pos) (c0P tA):=by
 intro pins s σ H Q I h;exact isTrue_not (ha pins s σ H (fun c H1=>Q (!c) H1) I h)
noncomputable def b8t(ta tb:TE):TE:=fun σ H Q=>ta σ H fun x H1=>∃c,x=.bl c/\if c=true then tb σ H1 Q else Q (.bl false) H1
noncomputable def c0O(ta tb:TE):TE:=fun σ H Q=>ta σ H fun x H1=>∃c,x=.bl c/\if c=true then Q (.bl true) H1 else tb σ H1 Q
noncomputable def b8m(ta:TE):TE:=fun σ H Q=>ta σ H fun x H1=>∃c,x=.bl c/\Q (.bl (!c)) H1
theorem b6j{op}{t:TE}(h:PE X a t):PE X (.BoolOp op [a] pos) t:=fun pins s σ H Q I hw=>BoolOp_one (h pins s σ H Q I hw)
theorem b6p(ha:PE X a ta)(hb:PE X (.BoolOp .And (b::d5) pos) tb):PE X (.BoolOp .And (a::b::d5) pos) (b8t ta tb):=by
 intro pins s σ H Q I h;refine BoolOp_and (thn (ha pins s σ H _ I h) fun v s1 ⟨x,H1,I1,r1,q1⟩=>?_)
 obtain⟨c,rfl,q1⟩:=q1;cases r1;refine wpAny_truthy_bool ?_
 cases c with
 |true=>exact hb pins s1 σ H1 Q I1 q1
 |false=>exact⟨.bl false,H1,I1,rfl,q1⟩
theorem b8N(ha:PE X a ta)(hb:PE X (.BoolOp .Or (b::d5) pos) tb):PE X (.BoolOp .Or (a::b::d5) pos) (c0O ta tb):=by
 intro pins s σ H Q I h;refine BoolOp_or (thn (ha pins s σ H _ I h) fun v s1 ⟨x,H1,I1,r1,q1⟩=>?_)
 obtain⟨c,rfl,q1⟩:=q1;cases r1;refine wpAny_truthy_bool ?_
 cases c with
 |false=>exact hb pins s1 σ H1 Q I1 q1
 |true=>exact⟨.bl true,H1,I1,rfl,q1⟩
theorem b6k(ha:PE X a ta):PE X (.UnaryOp .Not a pos) (b8m ta):=by
 intro pins s σ H Q I h;refine UnaryOp_ (thn (ha pins s σ H _ I h) fun v s1 ⟨x,H1,I1,r1,q1⟩=>?_)
 obtain⟨c,rfl,q1⟩:=q1;cases r1;exact not_of (wpAny_truthy_bool ⟨.bl (!c),H1,I1,rfl,q1⟩)
noncomputable def tIf(t:TT)(ta tb:TE):TE:=fun σ H Q=>t σ H fun c H1=>if c=true then ta σ H1 Q else tb σ H1 Q
theorem b1d(hc:PT X c tA)(ha:PE X a ta)(hb:PE X b tb):PE X (.IfExp c a b pos) (tIf tA ta tb):=by
 intro pins s σ H Q I h;refine wpAny_IfExp (thn (hc pins s σ H _ I h) fun d s1 ⟨H1,I1,q1⟩=>?_)
 cases d with
 |true=>exact ha pins s1 σ H1 Q I1 q1
 |false=>exact hb pins s1 σ H1 Q I1 q1
end
def SqL(K:PySem.W.Frag)(H:Hp)(a:Addr)(xs:List V):Prop:=
 Rd H a (.lst xs)∨
  ∃(o:Obj) (its:Array Value) (n:Nat),K.lookup a=some o/\o.cls=.type "list"/\o.dict=none/\o.data=.seq its n/\its.size<=sizeLine/\k7 xs its.toList
def SqT(K:PySem.W.Frag)(H:Hp)(a:Addr)(xs:List V):Prop:=
 Rd H a (.tup xs)∨
  ∃(o:Obj) (its:Array Value) (n:Nat),K.lookup a=some o/\o.cls=.type "tuple"/\o.data=.seq its n/\its.size<=sizeLine/\k7 xs its.toList
noncomputable def c1z:Value->Option V
 |.none=>some .non
 |.bool b=>some (.bl b)
 |.int i _=>some (.int i)
 |.str x _=>some (.str x)
 |.bytes b _=>some (.byt b)
 |.float b _=>some (.flt b)
 |.ref a=>some (.ref a)
 |.type n=>some (.ty n)
 |_=>none
theorem o0.abs{x:V}(r:o0 x u):c1z u=some x:=by
 cases x with
 |non=>cases r;rfl
 |bl _=>cases r;rfl
 |int _=>obtain⟨t,rfl⟩:=r;rfl
 |str _=>obtain⟨t,rfl⟩:=r;rfl
 |byt _=>obtain⟨t,rfl⟩:=r;rfl
 |flt _=>obtain⟨t,rfl⟩:=r;rfl
 |ref _=>cases r;rfl
 |ty _=>cases r;rfl
variable{y:V}
theorem o0.inj{x:V}(r:o0 x u)(q:o0 y u):x=y:=ax (r.abs.symm.trans q.abs)
theorem k7.inj:∀{xs ys:List V} {us:List Value},k7 xs us->k7 ys us->xs=ys
 |_,_,_,.nil,.nil=>rfl
 |_,_,_,.cons r t,.cons r' t'=>by rw[r.inj r',k7.inj t t']
variable{K:PySem.W.Frag}
section
variable{xs ys:List V}
theorem Inv.list(I:Inv X pins σ H s)(h:SqL X.K H a xs):∃its:List Value,k7 xs its/\PlainL s.heap a its.toArray/\xs.length<=sizeLine:=by
 rcases h with h|⟨o,its,n,hk,hc,hd,hs,hz,r⟩
 · obtain⟨z,its,n,r,e⟩:=h.ok I.hok;exact⟨its,r,⟨_,n,e,rfl,rfl,rfl⟩,z⟩
 · refine⟨its.toList,r,⟨o,n,I.kIn a o hk,hc,hd,by simpa using hs⟩,?_⟩
   have e:=r.length;simp only[Array.length_toList] at e;omega
theorem Inv.tuple(I:Inv X pins σ H s)(h:SqT X.K H a xs):∃its:List Value,k7 xs its/\IsTup s.heap a its.toArray/\xs.length<=sizeLine:=by
 rcases h with h|⟨o,its,n,hk,hc,hs,hz,r⟩
 · obtain⟨z,its,r,p⟩:=h.ok I.hok;exact⟨its,r,p.tup,z⟩
 · refine⟨its.toList,r,⟨o,I.kIn a o hk,hc,n,by simpa using hs⟩,?_⟩
   have e:=r.length;simp only[Array.length_toList] at e;omega
theorem Inv.list_inj(I:Inv X pins σ H s)(h:SqL X.K H a xs)(h':SqL X.K H a ys):xs=ys:=by
 obtain⟨its,r,⟨o,n,e,_,_,d⟩,_⟩:=I.list h;obtain⟨its',r',⟨o',n',e',_,_,d'⟩,_⟩:=I.list h';rw[e] at e';cases e'
 rw[d] at d'
 injection d' with d1 _
 have:its=its':=by simpa using congrArg Array.toList d1
 subst this;exact r.inj r'
theorem Inv.tuple_inj(I:Inv X pins σ H s)(h:SqT X.K H a xs)(h':SqT X.K H a ys):xs=ys:=by
 obtain⟨its,r,⟨o,e,_,n,d⟩,_⟩:=I.tuple h;obtain⟨its',r',⟨o',e',_,n',d'⟩,_⟩:=I.tuple h';rw[e] at e';cases e'
 rw[d] at d'
 injection d' with d1 _
 have:its=its':=by simpa using congrArg Array.toList d1
 subst this;exact r.inj r'
end
variable{tc:TT}
section
variable{st:Stmt}{d5:List Stmt}{t u:TS}{te:TE}
def b8o:TS:=fun D σ H=>D.nx σ H
noncomputable def c0L(t u:TS):TS:=fun D σ H=>t {D with nx:=u D} σ H
theorem b3B:PSs X [] b8o:=fun _ _ σ H _ I h=>wpAny_execs_nil ⟨σ,H,I,h⟩
theorem b0O(h1:PS X st t)(h2:PSs X d5 u):PSs X (st::d5) (c0L t u):=by
 intro pins s σ H D I h;refine wpAny_execs_cons (thn (h1 pins s σ H {D with nx:=u D} I h) fun f s1 q=>?_)
 cases f with
 |next=>
  obtain⟨σ',H',I',q⟩:=q;exact h2 pins s1 σ' H' D I' q
 |ret v=>exact q
 |brk=>exact q
 |cont=>exact q
theorem Inv.quiet(I:Inv X pins σ H s):interactive X.env=false:=by simp[interactive,I.ok.kind]
noncomputable def b8q(te:TE):TS:=fun D σ H=>te σ H fun _ H1=>D.nx σ H1
theorem b3C(he:PE X e te)(hs:swapsWith e none pos.line X.env=pure false:=by rfl):PS X (.Expr e pos) (b8q te):=by
 intro pins s σ H D I h;exact wpAny_Expr_any (thn (he pins s σ H _ I h) fun v s1 ⟨x,H1,I1,r1,q1⟩=>⟨σ,H1,I1,q1⟩) I.quiet hs
noncomputable def c0N(te:TE):TS:=fun D σ H=>te σ H D.rt
theorem b5X(he:PE X e te):PS X (.Return (some e) pos) (c0N te):=by
 intro pins s σ H D I h;exact wpAny_Return_some (thn (he pins s σ H _ I h) fun v s1 ⟨x,H1,I1,r1,q1⟩=>⟨x,σ,H1,I1,r1,q1⟩)
noncomputable def c0S(c:TT)(t u:TS):TS:=fun D σ H=>c σ H fun b H1=>if b=true then t D σ H1 else u D σ H1
theorem b8L{a b:List Stmt}(hc:PT X c tc)(ha:PSs X a t)(hb:PSs X b u):PS X (.If c a b pos) (c0S tc t u):=by
 intro pins s σ H D I h;refine wpAny_If (thn (hc pins s σ H _ I h) fun d s1 ⟨H1,I1,q1⟩=>?_)
 cases d with
 |true=>exact ha pins s1 σ H1 D I1 q1
 |false=>exact hb pins s1 σ H1 D I1 q1
end
abbrev TG:=V->St->Hp->(St->Hp->Prop)->Prop
abbrev TGs:=List V->St->Hp->(St->Hp->Prop)->Prop
def PG(X:Cx)(target:Expr)(t:TG):Prop:=
 ∀(pins:List (Addr×Obj)) (s:Shared) (σ:St) (H:Hp) (v:V) (u:Value) (Q:St->Hp->Prop),Inv X pins σ H s->o0 v u->t v σ H Q→
  wpAny (model X.prog X.w) X.A (assign target X.env u) (fun _ s'=>∃σ' H',Inv X pins σ' H' s'/\Q σ' H') X.xe s
def PGs(X:Cx)(ts:List Expr)(t:TGs):Prop:=
 ∀(pins:List (Addr×Obj)) (s:Shared) (σ:St) (H:Hp) (vs:List V) (us:List Value) (Q:St->Hp->Prop),Inv X pins σ H s->k7 vs us->t vs σ H Q→
  wpAny (model X.prog X.w) X.A (assignInOrder ((assignEach ts X.env).map (·.2)) us) (fun _ s'=>∃σ' H',Inv X pins σ' H' s'/\Q σ' H') X.xe s
abbrev b8b:=V->V->V->Hp->(Hp->Prop)->Prop
def b8c(X:Cx)(t:b8b):Prop:=
 ∀(pins:List (Addr×Obj)) (s:Shared) (σ:St) (H:Hp) (o i v:V) (ov iv u:Value) (Q:Hp->Prop),Inv X pins σ H s->o0 o ov->o0 i iv->o0 v u->t o i v H Q→
  wpAny (model X.prog X.w) X.A (setItem ov iv u) (fun _ s'=>∃H',Inv X pins σ H' s'/\Q H') X.xe s
variable{es:List Expr}{n:Nat}{to:TE}{ti:TE}{tg:Expr}{te:TE}{pos':Pos}{ta:TA}
section
noncomputable def b1U(i:Nat):TG:=fun v σ H Q=>Q (σ.set i (some v)) H
theorem b3N(hN:X.N.Nodup)(hi:X.N[i]? =some x)(hx:Loc X.env.scope x)(hf:X.fn x=true∨X.env.scope.names.lookup x=some .local:=by first|exact .inl rfl|exact .inr rfl|assumption):PG X (.Name x pos) (b1U i):=by
 intro pins s σ H v u Q I r h;exact wpAny_assign_Name (a5M I hN hi hx r (fun s' I'=>⟨_,H,I',h⟩) hf)
def c1p:TGs:=fun vs σ H Q=>vs=[]/\Q σ H
noncomputable def b9w(t:TG)(u:TGs):TGs:=fun vs σ H Q=>∃v r,vs=v::r/\t v σ H fun σ' H'=>u r σ' H' Q
theorem b3M:PGs X [] c1p:=by
 intro pins s σ H vs us Q I r h;obtain⟨e,h⟩:=h;subst e;cases r;exact assignInOrder_nil ⟨σ,H,I,h⟩
theorem b0X{t:TG}{u:TGs}(h1:PG X e t)(h2:PGs X es u)
 (hs:(assignEach (e::es) X.env).map (·.2)=assign e X.env::(assignEach es X.env).map (·.2):=by rfl):PGs X (e::es) (b9w t u):=by
 intro pins s σ H vs us Q I r h;obtain⟨v,vr,e1,h⟩:=h;subst e1
 cases r with
 |cons r rr=>
  rw[hs];refine assignInOrder_cons (thn (h1 pins s σ H _ _ _ I r h) fun _ s1 ⟨σ1,H1,I1,q1⟩=>?_)
  exact h2 pins s1 σ1 H1 _ _ Q I1 rr q1
noncomputable def c1n(K:PySem.W.Frag)(n:Nat)(t:TGs):TG:=fun v σ H Q=>∃a xs,v=.ref a/\SqT K H a xs/\xs.length=n/\t xs σ H Q
theorem b6f{k:Nat}{t:TGs}(hc:X.calm=true)(h:PGs X es t)
 (hn:(assignEach es X.env).length=n:=by rfl) (hst:(assignEach es X.env).findIdx? (·.1)=none:=by rfl):PG X (.Tuple es k pos) (c1n X.K n t):=by
 intro pins s σ H v u Q I r hw;obtain⟨a,xs,e1,hq,hl,hw⟩:=hw;subst e1;cases r;obtain⟨its,rv,ht,hz⟩:=I.tuple hq;refine assign_Tuple_tuple (I.ok.hd hc) ht (by simp[hn,←hl,rv.length]) hst fun h' hx=>?_
 have I1:Inv X pins σ H {s with heap:=h'}:=I.kept (t':=s.toks) fun b o e=>hx b o (Nat.ne_of_lt (Heap.lt_size e)) e
 exact h pins _ σ H xs _ Q I1 (by simpa using rv) hw
noncomputable def b9v(to ti:TE)(t:b8b):TG:=fun v σ H Q=>to σ H fun o H1=>ti σ H1 fun i H2=>t o i v H2 fun H3=>Q σ H3
theorem b6g{o i:Expr}{t:b8b}(ho:PE X o to)(hi:PE X i ti)(hs:b8c X t)
 (ha:∀v,assign (.Subscript o i pos) X.env v=(do
  let ov←holding [v] (eval o X.env)
  let iv←holding [v,ov] (eval i X.env)
  standAt pos
  holding [v,ov,iv] (setItem ov iv v)
  release [v,ov,iv] []):=by intro _;rfl):PG X (.Subscript o i pos) (b9v to ti t):=by
 intro pins s σ H v u Q I r h;rw[ha];refine wpAny_bind (wpAny_holding (thn (ho pins s σ H _ I h) fun ov s1 ⟨x,H1,I1,r1,q1⟩=>?_))
 refine wpAny_bind (wpAny_holding (thn (hi pins s1 σ H1 _ I1 q1) fun iv s2 ⟨y,H2,I2,r2,q2⟩=>?_))
 refine wpAny_bind (wpAny_standAt (wpAny_bind (wpAny_holding (thn (hs pins s2 σ H2 x y v ov iv u _ I2 r1 r2 r q2) fun _ s3 ⟨H3,I3,q3⟩=>?_))))
 exact wpAny_release ⟨σ,H3,I3,q3⟩
noncomputable def b5I(te:TE)(g:TG):TS:=fun D σ H=>te σ H fun x H1=>g x σ H1 D.nx
theorem b6a{g:TG}(he:PE X e te)(hg:PG X tg g)(hs:swapsWithSole [tg] e pos.line X.env=pure false:=by rfl)(hw:swappedStores [tg] e X.env=pure none:=by rfl)
 (h1:(assignEach [tg] X.env).map (·.2)=[assign tg X.env]:=by rfl):PS X (.Assign [tg] e pos) (b5I te g):=by
 intro pins s σ H D I h;refine wpAny_Assign_stores (thn (he pins s σ H _ I h) fun v s1 ⟨x,H1,I1,r1,q1⟩=>?_) hs hw
 rw[h1];exact thn (hg pins s1 σ H1 x v _ I1 r1 q1) fun _ s2 q=>q
theorem b0Q(hN:X.N.Nodup)(hi:X.N[i]? =some x)(hx:Loc X.env.scope x)(he:PE X e te)(hs:swapsWith e (some (.Name x pos')) pos.line X.env=pure false:=by rfl)(hf:X.fn x=true∨X.env.scope.names.lookup x=some .local:=by first|exact .inl rfl|exact .inr rfl|assumption):
 PS X (.Assign [.Name x pos'] e pos) (b5I te (b1U i)):=by
 intro pins s σ H D I h;refine wpAny_Assign_Name (thn (he pins s σ H _ I h) fun v s1 ⟨y,H1,I1,r1,q1⟩=>?_) hs
 exact a5M I1 hN hi hx r1 (fun s2 I2=>⟨_,H1,I2,q1⟩) hf
end
variable{body:List Stmt}{tb:TS}
section
noncomputable def b5E(c:TT)(tb:TS):TS:=fun D σ H=>∃W:Nat->St->Hp->Prop,(∃m,W m σ H)/\∀m σ H,W m σ H→
 c σ H fun b H1=>if b=true then∃N:St->Hp->Prop,(∀σ' H',N σ' H'->∃m',m'<m/\W m' σ' H')/\tb {D with nx:=N,ct:=N,bk:=D.nx} σ H1 else D.nx σ H1
theorem b0P(hp:PassesOwn (model X.prog X.w) X.A X.env X.xe)(hc:PT X c tc)(hb:PSs X body tb):PS X (.While c body [] pos) (b5E tc tb):=by
 intro pins s σ H D I h;obtain⟨W,⟨m0,w0⟩,turn⟩:=h;refine wpAny_While (codeAny_whileLoop (fun n s'=>∃σ' H',Inv X pins σ' H' s'/\W n σ' H') ?_ m0 ⟨σ,H,I,w0⟩)
 rintro n s1 ⟨σ1,H1,I1,w1⟩;refine wpAny_passesOwn hp (thn (hc pins s1 σ1 H1 _ I1 (turn n σ1 H1 w1)) fun b s2 ⟨H2,I2,q2⟩=>?_)
 cases b with
 | true=>
  obtain⟨N,hN,q2⟩:=q2;rw[ay rfl];refine wpAny_passesOwn hp (thn (hb pins s2 σ1 H2 _ I2 q2) fun f s3 q3=>?_)
  cases f with
  |next=>
   obtain⟨σ3,H3,I3,n3⟩:=q3;obtain⟨m',hm,w3⟩:=hN σ3 H3 n3;exact⟨m',hm,σ3,H3,I3,w3⟩
  |cont=>
   obtain⟨σ3,H3,I3,n3⟩:=q3;obtain⟨m',hm,w3⟩:=hN σ3 H3 n3;exact⟨m',hm,σ3,H3,I3,w3⟩
  |brk=>exact q3
  |ret v=>exact q3
 |false=>
  rw[az bx];exact wpAny_execs_nil ⟨σ1,H2,I2,q2⟩
end
structure It where
 go:Nat->Hp->Prop
 yld:Nat->Hp->V->Hp->Prop
 stop:Nat->Hp->Prop
def a2l(X:Cx)(pins:List (Addr×Obj))(H:Hp)(b:Addr):Prop:=
 H b=none/\b≠X.env.locals/\b∉X.fs/\(b∈X.ex∨X.s₀.heap.objs.size<=b)/\(∀x c,X.env.cells.lookup x=some c->c≠b)/\∀p∈X.pn++pins,p.1≠b
variable{H':Hp}
theorem Inv.fpOk(I:Inv X pins σ H s)(hb:s.heap.objs.size<=b)(hn:H' b=none):a2l X pins H' b:=by
 refine⟨hn,Nat.ne_of_gt (aC I.lt hb),I.nofs hb,.inr (aR I.sz hb),fun x c e z=>?_,fun p hp z=>?_⟩
 · obtain⟨v,q⟩:=I.cell x c e;exact absurd (aC q.lt (by rw[z];exact hb)) (aP _)
 · exact absurd (aC (Heap.lt_size (I.pin p hp).1) (by rw[z];exact hb)) (aP _)
structure Turn(P:Program)(w:World)(K:PySem.W.Frag)(tg:Expr)(J:It)(fp:List Addr)(it:Addr)(tn:Nat->Heap->Prop):Prop where
 mem:it∈fp
 obj:∀i h,tn i h->∀b∈fp,∃o,h.get? b=some o/\∀v,o.data≠.cell v
 keep:∀i h h',tn i h->(∀b∈fp,∀o,h.get? b=some o->h'.get? b=some o)->tn i h'
 item:∀(X:Cx),X.prog=P->X.w=w->X.K=K->X.calm=true->∀(i:Nat) (pins:List (Addr×Obj)) (s:Shared) (σ:St) (H:Hp) (E:Value->Shared->Prop),Inv X pins σ H s->(∀b∈fp,a2l X pins H b)->tn i s.heap->J.go i H→
  wpAny (model P w) X.A (pyNext (.ref it)) (fun r s1=>∃u,r=some u∧
   wpAny (model P w) X.A (letOwnedTupleGo tg (.ref it) u) (fun _ s2=>∃x H',Inv X pins σ H' s2/\o0 x u/\J.yld i H x H'/\tn (i+1) s2.heap/\∀b∈fp,H' b=none) E s1) E s
 done:∀(X:Cx),X.prog=P->X.w=w->X.K=K->X.calm=true->∀(i:Nat) (pins:List (Addr×Obj)) (s:Shared) (σ:St) (H:Hp) (E:Value->Shared->Prop),Inv X pins σ H s->(∀b∈fp,a2l X pins H b)->tn i s.heap->J.stop i H→
  wpAny (model P w) X.A (pyNext (.ref it)) (fun r s1=>r=none/\Inv X pins σ H s1) E s
 self:∀(A:Around) (i:Nat) (s:Shared) (Q:Value->Shared->Prop) (E:Value->Shared->Prop),tn i s.heap->Q (.ref it) s->wpAny (model P w) A (pyIter (.ref it)) Q E s
abbrev TI:=St->Hp->(It->Hp->Prop)->Prop
def PIE(X:Cx)(pins:List (Addr×Obj))(σ:St)(tg:Expr)(R:It->Hp->Prop)(itv:Value)(s2:Shared):Prop:=
 ∃(it:Addr) (fp:List Addr) (tn:Nat->Heap->Prop) (J:It) (H':Hp),itv=.ref it/\Inv X pins σ H' s2/\Turn X.prog X.w X.K tg J fp it tn/\tn 0 s2.heap/\(∀b∈fp,a2l X pins H' b)/\R J H'
def PI(X:Cx)(tg iter:Expr)(wi:TI):Prop:=
 ∀(pins:List (Addr×Obj)) (s:Shared) (σ:St) (H:Hp) (R:It->Hp->Prop),Inv X pins σ H s->wi σ H R→
  wpAny (model X.prog X.w) X.A (eval iter X.env) (fun v s1=>wpAny (model X.prog X.w) X.A (pyIter v) (PIE X pins σ tg R) X.xe s1) X.xe s
theorem a8u{E:Value->Shared->Prop}{n:String}{vs:Array Value}{Q:Unit->Shared->Prop}(ho:s.heap.get? it=some o)(hc:o.cls=.type n)(hd:o.data=.fields vs)
   (hn:["enumerate","zip","dict_itemiterator","dict_reverseitemiterator","odict_iterator","itertools.zip_longest","itertools.pairwise"].contains n=false) (hQ:Q () s):wpAny M A (letOwnedTupleGo tg (.ref it) u) Q E s:=by
 unfold letOwnedTupleGo
 cases tg <;>first
   |exact wpAny_pure hQ
   |(cases u<;>first
       |exact wpAny_pure hQ
       | (refine wpAny_bind (wpAny_load ho ?_)
          rw[hc,hd]
          show wpAny M A (if(["enumerate","zip","dict_itemiterator","dict_reverseitemiterator","odict_iterator","itertools.zip_longest","itertools.pairwise"].contains n&&vs[0]? ==some (rawInt _))=true then _ else _) Q E s
          rw[az (by intro h;rw[hn,Bool.false_and] at h;cases h)]
          exact wpAny_pure hQ))
noncomputable def Itl(K:PySem.W.Frag)(a:Addr):It:=
 ⟨fun i H=>∃xs x,SqL K H a xs/\xs[i]? =some x,fun i H x H'=>H'=H/\∀xs,SqL K H a xs->xs[i]? =some x,fun i H=>∃xs,SqL K H a xs/\xs.length<=i⟩
noncomputable def Itt(K:PySem.W.Frag)(a:Addr):It:=
 ⟨fun i H=>∃xs x,SqT K H a xs/\xs[i]? =some x,fun i H x H'=>H'=H/\∀xs,SqT K H a xs->xs[i]? =some x,fun i H=>∃xs,SqT K H a xs/\xs.length<=i⟩
noncomputable def Itr(lo:Int)(n:Nat):It:=⟨fun i _=>i<n,fun i H x H'=>H'=H/\x=.int (lo+i),fun i _=>n<=i⟩
theorem a8T(a it:Addr):Turn P w K tg (Itl K a) [it] it (fun i h=>h.IsListIter it a i) where
 mem:=by simp
 obj:=fun i h st b hb=>by
  have e:b=it:=by simpa using hb
  subst e;obtain⟨o,e,c,d⟩:=st;exact⟨o,e,fun v z=>by rw[d] at z;cases z⟩
 keep:=fun i h h' st k=>st.at fun o e=>k it (by simp) o e
 item:=by
  intro X hP hw hK hc i pins s σ H E I hf st hg;subst hP hw hK;obtain⟨xs,x,hq,hx⟩:=hg;obtain⟨its,rv,p,hz⟩:=I.list hq;obtain⟨u,hu,ru⟩:=rv.get hx;obtain⟨f0,f1,f2,f3,f4,f5⟩:=hf it (by simp)
  refine wpAny_pyNext_list_item st p.isList (x:=u) (by simpa using hu) fun h' st' sb=>?_
  have I1:Inv X pins σ H {s with heap:=h'}:=I.turned (t':=s.toks) (fun b o hb e=>(sb.2 b hb).trans e) f0 f1 f3 f4 f5
  obtain⟨o,e,c,d⟩:=id st';exact⟨u,rfl,a8u (s:={s with heap:=h'}) e c d (by decide) ⟨x,H,I1,ru,⟨rfl,fun ys hy=>by rw[I.list_inj hy hq];exact hx⟩,st',fun b hb=>(hf b hb).1⟩⟩
 done:=by
  intro X hP hw hK hc i pins s σ H E I hf st hg;subst hP hw hK;obtain⟨xs,hq,hx⟩:=hg;obtain⟨its,rv,p,hz⟩:=I.list hq;obtain⟨f0,f1,f2,f3,f4,f5⟩:=hf it (by simp)
  have hl:=rv.length;exact wpAny_pyNext_list_end (I.ok.hd hc) st p.isList (by simp;omega) fun h' eb=>⟨rfl,I.turned (t':=s.toks) (fun b o hb e=>eb b o hb e) f0 f1 f3 f4 f5⟩
 self:=fun _ _ _ _ _ st h=>wpAny_pyIter_listiter st h
theorem a6M(a it:Addr):Turn P w K tg (Itt K a) [it] it (fun i h=>h.IsTupleIter it a i) where
 mem:=by simp
 obj:=fun i h st b hb=>by
  have e:b=it:=by simpa using hb
  subst e;obtain⟨o,e,c,d⟩:=st;exact⟨o,e,fun v z=>by rw[d] at z;cases z⟩
 keep:=fun i h h' st k=>st.at fun o e=>k it (by simp) o e
 item:=by
  intro X hP hw hK hc i pins s σ H E I hf st hg;subst hP hw hK;obtain⟨xs,x,hq,hx⟩:=hg;obtain⟨its,rv,p,hz⟩:=I.tuple hq;obtain⟨u,hu,ru⟩:=rv.get hx;obtain⟨f0,f1,f2,f3,f4,f5⟩:=hf it (by simp)
  refine wpAny_pyNext_tuple_item st (show s.heap.IsTuple a its.toArray from p) (x:=u) (by simpa using hu) fun h' st' sb=>?_
  have I1:Inv X pins σ H {s with heap:=h'}:=I.turned (t':=s.toks) (fun b o hb e=>(sb.2 b hb).trans e) f0 f1 f3 f4 f5
  obtain⟨o,e,c,d⟩:=id st';exact⟨u,rfl,a8u (s:={s with heap:=h'}) e c d (by decide) ⟨x,H,I1,ru,⟨rfl,fun ys hy=>by rw[I.tuple_inj hy hq];exact hx⟩,st',fun b hb=>(hf b hb).1⟩⟩
 done:=by
  intro X hP hw hK hc i pins s σ H E I hf st hg;subst hP hw hK;obtain⟨xs,hq,hx⟩:=hg;obtain⟨its,rv,p,hz⟩:=I.tuple hq;obtain⟨f0,f1,f2,f3,f4,f5⟩:=hf it (by simp)
  have hl:=rv.length;exact wpAny_pyNext_tuple_end (I.ok.hd hc) st (show s.heap.IsTuple a its.toArray from p) (by simp;omega) fun h' eb=>⟨rfl,I.turned (t':=s.toks) (fun b o hb e=>eb b o hb e) f0 f1 f3 f4 f5⟩
 self:=fun _ _ _ _ _ st h=>wpAny_pyIter_tupleiter st h
theorem a6N(it:Addr)(lo:Int)(n:Nat):Turn P w K tg (Itr lo n) [it] it (fun i h=>IsRangeIter h it (lo+(i:Nat)*1) ((n:Int)-(i:Nat)) 1) where
 mem:=by simp
 obj:=fun i h st b hb=>by
  have e:b=it:=by simpa using hb
  subst e
  exact⟨_,st,fun v z=>by
   have z':Data.fields _=Data.cell v:=z
   cases z'⟩
 keep:=fun i h h' st k=>k it (by simp) _ st
 item:=by
  intro X hP hw hK hc i pins s σ H E I hf st hg;subst hP hw hK;obtain⟨f0,f1,f2,f3,f4,f5⟩:=hf it (by simp)
  have W:=Walks.range (prog:=X.prog) (w:=X.w) (I.ok.hd hc) it lo 1 n;refine W.item i s _ _ hg st fun v h' tk hv st' kk=>?_
  obtain⟨t,rfl⟩:=hv
  have I1:Inv X pins σ H {s with heap:=h',toks:=tk}:=I.turned (fun b o hb e=>kk b o (by simpa using hb) e) f0 f1 f3 f4 f5
  refine⟨_,rfl,a8u (s:={s with heap:=h',toks:=tk}) (n:="range_iterator") st' rfl rfl (by decide) ⟨.int (lo+i),H,I1,⟨t,?_⟩,⟨rfl,rfl⟩,st',fun b hb=>(hf b hb).1⟩⟩
  rw[Int.mul_one]
 done:=by
  intro X hP hw hK hc i pins s σ H E I hf st hg;subst hP hw hK;obtain⟨f0,f1,f2,f3,f4,f5⟩:=hf it (by simp)
  exact wpAny_pyNext_range_end (I.ok.hd hc) st (by have:n<=i:=hg;omega) fun h' eb=>⟨rfl,I.turned (t':=s.toks) (fun b o hb e=>eb b o hb e) f0 f1 f3 f4 f5⟩
 self:=fun _ _ _ _ _ st h=>wpAny_pyIter_rangeiter st h
variable{lo:Int}{p:Pos}{fp:List Addr}{iter:Expr}
section
def b9i(K:PySem.W.Frag)(tl:TE):TI:=fun σ H R=>tl σ H fun x H1=>∃a,x=.ref a/\(∃xs,SqL K H1 a xs)/\R (Itl K a) H1
def c1l(K:PySem.W.Frag)(tl:TE):TI:=fun σ H R=>tl σ H fun x H1=>∃a,x=.ref a/\(∃xs,SqT K H1 a xs)/\R (Itt K a) H1
theorem b3K{l:Expr}{tl:TE}(hl:PE X l tl):PI X tg l (b9i X.K tl):=by
 intro pins s σ H R I h;refine thn (hl pins s σ H _ I h) fun v s1 ⟨x,H1,I1,r1,q1⟩=>?_
 obtain⟨a,e,⟨xs,hq⟩,q⟩:=q1;subst e;cases r1;obtain⟨its,rv,p,hz⟩:=I1.list hq;refine wpAny_pyIter_list p.isList ?_
 refine⟨s1.heap.objs.size,[s1.heap.objs.size],_,_,H1,rfl,I1.kept (t':=s1.toks) fun b o e=>Heap.get?_push_of_some _ e,a8T a _,⟨_,Heap.get?_push_size _ rfl,rfl,rfl⟩,fun b hb=>?_,q⟩
 have e:b=s1.heap.objs.size:=by simpa using hb
 subst e;exact I1.fpOk (ai _) (I1.hok.fresh (ai _))
theorem b0W{l:Expr}{tl:TE}(hl:PE X l tl):PI X tg l (c1l X.K tl):=by
 intro pins s σ H R I h;refine thn (hl pins s σ H _ I h) fun v s1 ⟨x,H1,I1,r1,q1⟩=>?_
 obtain⟨a,e,⟨xs,hq⟩,q⟩:=q1;subst e;cases r1;obtain⟨its,rv,p,hz⟩:=I1.tuple hq;refine wpAny_pyIter_tuple (show s1.heap.IsTuple a its.toArray from p) ?_
 refine⟨s1.heap.objs.size,[s1.heap.objs.size],_,_,H1,rfl,I1.kept (t':=s1.toks) fun b o e=>Heap.get?_push_of_some _ e,a6M a _,⟨_,Heap.get?_push_size _ rfl,rfl,rfl⟩,fun b hb=>?_,q⟩
 have e:b=s1.heap.objs.size:=by simpa using hb
 subst e;exact I1.fpOk (ai _) (I1.hok.fresh (ai _))
theorem a5W{R:It->Hp->Prop}{E:Value->Shared->Prop}{hi:Int}{t u v:Tok}{tk:Nat}(I:Inv X pins σ H s)(h1: -(2^62)<=lo)(h2:lo<2^62)(h3: -(2^62)<=hi)(h4:hi<2^62)
 (q:R (Itr lo (hi-lo).toNat) H):wpAny (model X.prog X.w) X.A (pyIter (.ref s.heap.objs.size)) (PIE X pins σ tg R) E {s with heap:=s.heap.push {cls:=.type "range",data:=.fields #[.int lo t,.int hi u,.int 1 v]},toks:=tk}:=by
 refine wpAny_pyIter_range (IsRange.new ..) (small_one h1 h2 h3 h4) ?_
 have I1:Inv X pins σ H {s with heap:=s.heap.push {cls:=.type "range",data:=.fields #[.int lo t,.int hi u,.int 1 v]},toks:=tk}:=I.kept fun b o e=>Heap.get?_push_of_some _ e
 refine⟨(s.heap.push {cls:=.type "range",data:=.fields #[.int lo t,.int hi u,.int 1 v]}).objs.size,[(s.heap.push {cls:=.type "range",data:=.fields #[.int lo t,.int hi u,.int 1 v]}).objs.size],_,_,H,rfl,
  I1.kept (t':=tk) fun b o e=>Heap.get?_push_of_some _ e,a6N _ lo (hi-lo).toNat,?_,fun b hb=>?_,q⟩
 · have e1:lo+((0:Nat):Int)*1=lo:=by simp
   have e2:(((hi-lo).toNat:Nat):Int)-((0:Nat):Int)=Builtin.Range.rangeSize lo hi 1:=by rw[rangeSize_one];split<;>omega
   show IsRangeIter _ _ (lo+((0:Nat):Int)*1) ((((hi-lo).toNat:Nat):Int)-((0:Nat):Int)) 1
   rw[e1,e2];exact Heap.get?_push_size _ rfl
 · have e:b=(s.heap.push {cls:=.type "range",data:=.fields #[.int lo t,.int hi u,.int 1 v]}).objs.size:=by simpa using hb
   subst e;exact I1.fpOk (ai _) (I1.hok.fresh (ai _))
def b9h(ta:TA):TI:=fun σ H R=>ta σ H fun vs H1=>∃j:Int,vs=[.int j]/\ -(2^62)<=j/\j<2^62/\R (Itr 0 j.toNat) H1
def b9g(ta:TA):TI:=fun σ H R=>ta σ H fun vs H1=>∃i j:Int,vs=[.int i,.int j]/\(-(2^62)<=i/\i<2^62/\ -(2^62)<=j/\j<2^62)/\R (Itr i (j-i).toNat) H1
theorem a9l{a:Expr}(hg:Gl X "range")(hm:X.mg "range"=none)(ha:PA X [a] ta)(hs:starEach [a] X.env=[(false,eval a X.env)]:=by rfl):PI X tg (.Call (.Name "range" p) [a] [] pos) (b9h ta):=by
 intro pins s σ H R I h;refine Call_ (a0f I hg hm boot_range (PyProof.Rows.callWith_type1 (thn (ha pos pins s σ H _ I h) fun us s1 ⟨vs,H1,I1,r1,q1⟩=>?_) hs rfl))
 obtain⟨j,e,q1,q2,q⟩:=q1;subst e
 cases r1 with
 |cons r rr=>
  cases rr;obtain⟨t,rfl⟩:=r;exact call_range_1 (a5W I1 (by omega) (by omega) q1 q2 (by simpa using q))
theorem a9k{a b:Expr}(hg:Gl X "range")(hm:X.mg "range"=none)(ha:PA X [a,b] ta)(hs:starEach [a,b] X.env=[(false,eval a X.env),(false,eval b X.env)]:=by rfl)(hs2:starEach [b] X.env=[(false,eval b X.env)]:=by rfl):
 PI X tg (.Call (.Name "range" p) [a,b] [] pos) (b9g ta):=by
 intro pins s σ H R I h;refine Call_ (a0f I hg hm boot_range (PyProof.Rows.callWith_type1 (thn (ha pos pins s σ H _ I h) fun us s1 ⟨vs,H1,I1,r1,q1⟩=>?_) (by rw[hs,hs2]) (by rw[hs2];rfl)))
 obtain⟨i,j,e,⟨q1,q2,q3,q4⟩,q⟩:=q1;subst e
 cases r1 with
 | cons r rr=>
  cases rr with
  |cons r' rr=>
   cases rr;obtain⟨t,rfl⟩:=r;obtain⟨t',rfl⟩:=r';exact call_range_2 (a5W I1 q1 q2 q3 q4 q)
noncomputable def c0T(wi:TI)(g:TG)(tb:TS):TS:=fun D σ H=>wi σ H fun J H1=>∃W:Nat->Nat->St->Hp->Prop,(∃m,W 0 m σ H1)/\∀i m σ H,W i m σ H→
 (J.stop i H/\D.nx σ H)∨(J.go i H/\∃N:St->Hp->Prop,(∀σ' H',N σ' H'->∃m',m'<m/\W (i+1) m' σ' H')/\∀x H',J.yld i H x H'->g x σ H' fun σ2 H2=>tb {D with nx:=N,ct:=N,bk:=D.nx} σ2 H2)
noncomputable def a2U(fp:List Addr)(h:Heap):List (Addr×Obj):=fp.filterMap fun b=>(h.get? b).map fun o=>(b,o)
theorem W3(hb:b∈fp)(e:h.get? b=some o):(b,o)∈a2U fp h:=List.mem_filterMap.mpr ⟨b,hb,by rw[e];rfl⟩
theorem a9q{p:Addr×Obj}(hp:p∈a2U fp h):p.1∈fp/\h.get? p.1=some p.2:=by
 obtain⟨b,hb,e⟩:=List.mem_filterMap.mp hp
 cases q:h.get? b with
 |none=>rw[q] at e;cases e
 |some o=>
  rw[q] at e
  have e':(b,o)=p:=ax e
  subst e';exact⟨hb,q⟩
theorem Inv.pinned(I:Inv X pins σ H s)(hf:∀b∈fp,a2l X pins H b)(ho:∀b∈fp,∃o,s.heap.get? b=some o/\∀v,o.data≠.cell v):Inv X (pins++a2U fp s.heap) σ H s:=
 I.pins_of fun p hp=>(aK.mp hp).elim (fun z=>I.pin p (mem_append_right _ z)) fun z=>by
  obtain⟨hb,e⟩:=a9q z;obtain⟨f0,f1,f2,_⟩:=hf p.1 hb;obtain⟨o,e',d⟩:=ho p.1 hb;rw[e] at e';cases e'
  exact⟨e,f0,f1,f2,d⟩
theorem Inv.unpinned{pl:List (Addr×Obj)}(I:Inv X (pins++pl) σ H s):Inv X pins σ H s:=I.pins_of fun p hp=>I.pin p (mem_append_right _ (List.mem_append_left _ hp))
theorem b5Y{wi:TI}{g:TG}(hp:PassesOwn (model X.prog X.w) X.A X.env X.xe)(hc:X.calm=true)(hi:PI X tg iter wi)(hg:PG X tg g)(hb:PSs X body tb)
 (hs:∀x,foldedSetIterable iter X.env x=pure x:=by intro _;rfl):PS X (.For tg iter body [] pos) (c0T wi g tb):=by
 intro pins s σ H D I h;refine wpAny_For (thn (hi pins s σ H _ I h) fun v s1 h1=>thn h1 fun itv s2 h2=>?_) hs
 obtain⟨it,fp,tn,J,H2,e,I2,T,st2,f2,W,⟨m0,w0⟩,turn⟩:=h2;subst e
 -- what stays true of the iterator's objects through the loop
 have stat:∀{H':Hp},(∀b∈fp,H' b=none)->∀b∈fp,a2l X pins H' b:=fun hn b hb=>⟨hn b hb,(f2 b hb).2⟩
 refine codeAny_forLoop_any (fun n s'=>∃i σ' H',Inv X pins σ' H' s'/\tn i s'.heap/\(∀b∈fp,H' b=none)/\W i n σ' H') ?_ m0 ⟨0,σ,H2,I2,st2,fun b hb=>(f2 b hb).1,w0⟩
 rintro n s3 ⟨i,σ3,H3,I3,st3,fr3,w3⟩
 rcases turn i n σ3 H3 w3 with⟨stop,qn⟩|⟨go,N,hN,step⟩
 · refine wpAny_passesOwn hp (thn (T.done X rfl rfl rfl hc i pins s3 σ3 H3 X.xe I3 (stat fr3) st3 stop) fun r s4 ⟨hr,I4⟩=>?_)
   subst hr;exact wpAny_execs_nil ⟨σ3,H3,I4,qn⟩
 · refine wpAny_passesOwn hp (thn (T.item X rfl rfl rfl hc i pins s3 σ3 H3 X.xe I3 (stat fr3) st3 go) fun r s4 ⟨u,hr,h4⟩=>?_)
   subst hr;refine wpAny_passesOwn hp (thn h4 fun _ s5 ⟨x,H5,I5,r5,y5,st5,fr5⟩=>?_)
   have I5':=I5.pinned (stat fr5) (T.obj _ _ st5)
   refine wpAny_passesOwn hp (thn (hg _ s5 σ3 H5 x u _ I5' r5 (step x H5 y5)) fun _ s6 ⟨σ6,H6,I6,q6⟩=>?_)
   refine wpAny_passesOwn hp (thn (hb _ s6 σ6 H6 _ I6 q6) fun f s7 q7=>?_)
   have again:∀{σ7:St} {H7:Hp},Inv X (pins++a2U fp s5.heap) σ7 H7 s7->N σ7 H7->∃m,m<n/\∃i σ' H',Inv X pins σ' H' s7/\tn i s7.heap/\(∀b∈fp,H' b=none)/\W i m σ' H':=fun{σ7 H7} I7 n7=>by
    obtain⟨m',hm,w7⟩:=hN σ7 H7 n7;refine⟨m',hm,i+1,σ7,H7,I7.unpinned,T.keep _ _ _ st5 fun b hb o e=>(I7.pin (b,o) (mem_append_right _ (mem_append_right _ (W3 hb e)))).1,fun b hb=>?_,w7⟩
    obtain⟨o,e,d⟩:=T.obj _ _ st5 b hb;exact(I7.pin (b,o) (mem_append_right _ (mem_append_right _ (W3 hb e)))).2.1
   cases f with
   |next=>obtain⟨σ7,H7,I7,n7⟩:=q7;exact again I7 n7
   |cont=>obtain⟨σ7,H7,I7,n7⟩:=q7;exact again I7 n7
   |brk=>obtain⟨σ7,H7,I7,q7⟩:=q7;exact⟨σ7,H7,I7.unpinned,q7⟩
   |ret v=>obtain⟨x7,σ7,H7,I7,r7,q7⟩:=q7;exact⟨x7,σ7,H7,I7.unpinned,r7,q7⟩
end
abbrev R2:=V->V->Hp->VK->Prop
def OpR(X:Cx)(f:Value->Value->Sem Value)(r:R2):Prop:=
 ∀(pins:List (Addr×Obj)) (s:Shared) (σ:St) (H:Hp) (x y:V) (v u:Value) (Q:VK),Inv X pins σ H s->o0 x v->o0 y u->r x y H Q→
  wpAny (model X.prog X.w) X.A (f v u) (EP X pins σ Q) X.xe s
def UnR(X:Cx)(f:Value->Sem Value)(r:V->Hp->VK->Prop):Prop:=
 ∀(pins:List (Addr×Obj)) (s:Shared) (σ:St) (H:Hp) (x:V) (v:Value) (Q:VK),Inv X pins σ H s->o0 x v->r x H Q→
  wpAny (model X.prog X.w) X.A (f v) (EP X pins σ Q) X.xe s
def B8(X:Cx)(f:Value)(r:List V->Hp->VK->Prop):Prop:=
 ∀(pins:List (Addr×Obj)) (s:Shared) (σ:St) (H:Hp) (xs:List V) (us:List Value) (Q:VK),Inv X pins σ H s->k7 xs us->r xs H Q→
  wpAny (model X.prog X.w) X.A (call f us) (EP X pins σ Q) X.xe s
def c1J(X:Cx)(r:V->Hp->(Bool->Hp->Prop)->Prop):Prop:=
 ∀(pins:List (Addr×Obj)) (s:Shared) (σ:St) (H:Hp) (x:V) (v:Value) (Q:Bool->Hp->Prop),Inv X pins σ H s->o0 x v->r x H Q→
  wpAny (model X.prog X.w) X.A (truthy v) (TP X pins σ Q) X.xe s
noncomputable def tOp(r:R2)(ta tb:TE):TE:=fun σ H Q=>ta σ H fun x H1=>tb σ H1 fun y H2=>r x y H2 Q
def tUn(r:V->Hp->VK->Prop)(ta:TE):TE:=fun σ H Q=>ta σ H fun x H1=>r x H1 Q
def rI(C:Int->Int->Prop)(g:Int->Int->V):R2:=fun x y H Q=>∃i j,x=.int i/\y=.int j/\C i j/\Q (g i j) H
noncomputable def rI0(g:Int->Int->V):R2:=fun x y H Q=>∃i j,x=.int i/\y=.int j/\Q (g i j) H
def rU(g:Int->V):V->Hp->VK->Prop:=fun x H Q=>∃i,x=.int i/\Q (g i) H
variable{f:Value->Value->Sem Value}
section
variable{a b:Expr}{ta tb tc:TE}
theorem b7F(ha:PE X a ta)(hb:PE X b tb){R:V->V->Hp->Prop}(I:Inv X pins σ H s)
 (h:ta σ H fun x H1=>tb σ H1 fun y H2=>R x y H2)
 (hf:∀v u s2 x y H2,Inv X pins σ H2 s2->o0 x v->o0 y u->R x y H2->wpAny (model X.prog X.w) X.A (f v u) Q X.xe s2):
 wpAny (model X.prog X.w) X.A (eval a X.env) (fun v s₁=>wpAny (model X.prog X.w) X.A (eval b X.env) (fun u s₂=>wpAny (model X.prog X.w) X.A (f v u) Q X.xe s₂) X.xe s₁) X.xe s:=by
 refine thn (ha pins s σ H _ I h) fun v s1 ⟨x,H1,I1,r1,q1⟩=>?_
 refine thn (hb pins s1 σ H1 _ I1 q1) fun u s2 ⟨y,H2,I2,r2,q2⟩=>?_
 exact hf v u s2 x y H2 I2 r1 r2 q2
theorem b8O{op:Operator}{r:R2}(ho:OpR X (binaryOp op) r)(ha:PE X a ta)(hb:PE X b tb):PE X (.BinOp a op b pos) (tOp r ta tb):=by
 intro pins s σ H Q I h;exact wpAny_BinOp (b7F ha hb I h fun v u s2 x y H2 I2 rx ry q=>ho pins s2 σ H2 x y v u Q I2 rx ry q)
theorem b8M{op:UnaryOp}{r:V->Hp->VK->Prop}(ho:UnR X (unaryOp op) r)(ha:PE X a ta):PE X (.UnaryOp op a pos) (tUn r ta):=by
 intro pins s σ H Q I h;exact UnaryOp_ (thn (ha pins s σ H _ I h) fun v s1 ⟨x,H1,I1,r1,q1⟩=>ho pins s1 σ H1 x v Q I1 r1 q1)
theorem opI{C:Int->Int->Prop}{g:Int->Int->Int}
 (rule:∀(i j:Int) (t u:Tok) (s:Shared) (Q:Value->Shared->Prop) (E:Value->Shared->Prop),C i j->Q (.int (g i j) s.toks) {s with toks:=s.toks+1}->wpAny (model X.prog X.w) X.A (f (.int i t) (.int j u)) Q E s):
 OpR X f (rI C fun i j=>.int (g i j)):=by
 intro pins s σ H x y v u Q I rx ry h;obtain⟨i,j,rfl,rfl,hc,q⟩:=h;obtain⟨t,rfl⟩:=rx;obtain⟨t',rfl⟩:=ry;exact rule i j t t' s _ _ hc ⟨.int (g i j),H,I.tok _,⟨_,rfl⟩,q⟩
theorem b8X{g:Int->Int->Int}
 (rule:∀(i j:Int) (t u:Tok) (s:Shared) (Q:Value->Shared->Prop) (E:Value->Shared->Prop),Q (.int (g i j) s.toks) {s with toks:=s.toks+1}->wpAny (model X.prog X.w) X.A (f (.int i t) (.int j u)) Q E s):
 OpR X f (rI0 fun i j=>.int (g i j)):=by
 intro pins s σ H x y v u Q I rx ry h;obtain⟨i,j,rfl,rfl,q⟩:=h;obtain⟨t,rfl⟩:=rx;obtain⟨t',rfl⟩:=ry;exact rule i j t t' s _ _ ⟨.int (g i j),H,I.tok _,⟨_,rfl⟩,q⟩
theorem b3X{g:Int->Int->Bool}
 (rule:∀(i j:Int) (t u:Tok) (s:Shared) (Q:Value->Shared->Prop) (E:Value->Shared->Prop),Q (.bool (g i j)) s->wpAny (model X.prog X.w) X.A (f (.int i t) (.int j u)) Q E s):
 OpR X f (rI0 fun i j=>.bl (g i j)):=by
 intro pins s σ H x y v u Q I rx ry h;obtain⟨i,j,rfl,rfl,q⟩:=h;obtain⟨t,rfl⟩:=rx;obtain⟨t',rfl⟩:=ry;exact rule i j t t' s _ _ ⟨.bl (g i j),H,I,rfl,q⟩
def c2i(i j:Int):Prop:=0<j/\j<1073741824
def b8d(i j:Int):Prop:=(-(2^64)<i/\i<2^64)∨(-(2^64)<j/\j<2^64)
theorem b8d.ok{i j:Int}(h:b8d i j):IntMulOk i j:=by
 rcases h with⟨h1,h2⟩|⟨h1,h2⟩
 · exact .of_left (intBits_le_64 h1 h2)
 · exact .of_right (intBits_le_64 h1 h2)
theorem b6y:OpR X (binaryOp .Add) (rI0 fun i j=>.int (i+j)):=b8X fun _ _ _ _ _ _ _ q=>add_int q
theorem b6q:OpR X (binaryOp .Sub) (rI0 fun i j=>.int (i-j)):=b8X fun _ _ _ _ _ _ _ q=>sub_int q
theorem b6t:OpR X (binaryOp .Mult) (rI b8d fun i j=>.int (i*j)):=opI fun _ _ _ _ _ _ _ hc q=>mul_int q hc.ok
theorem b3W:OpR X (binaryOp .FloorDiv) (rI c2i fun i j=>.int (i/j)):=opI fun i j _ _ _ _ _ hc q=>by
 have h1:(0:Int)<j:=hc.1
 have h2:j<1073741824:=hc.2
 exact floordiv_int (by omega) (by rw[Int.fdiv_eq_ediv_of_nonneg i (by omega)];exact q) (.inl (PyProof.noPylong_small (by omega)))
theorem b6u:OpR X (binaryOp .Mod) (rI (fun _ j=>0<j) fun i j=>.int (i%j)):=opI fun i j _ _ _ _ _ hc q=>by
 have h1:(0:Int)<j:=hc
 exact mod_int' (by omega) (by rw[Int.fmod_eq_emod_of_nonneg i (by omega)];exact q)
theorem unI{f:Value->Sem Value}{g:Int->Int}
 (rule:∀(i:Int) (t:Tok) (s:Shared) (Q:Value->Shared->Prop) (E:Value->Shared->Prop),Q (.int (g i) s.toks) {s with toks:=s.toks+1}->wpAny (model X.prog X.w) X.A (f (.int i t)) Q E s):
 UnR X f (rU fun i=>.int (g i)):=by
 intro pins s σ H x v Q I rx h;obtain⟨i,rfl,q⟩:=h;obtain⟨t,rfl⟩:=rx;exact rule i t s _ _ ⟨.int (g i),H,I.tok _,⟨_,rfl⟩,q⟩
theorem b5x:UnR X (unaryOp .USub) (rU fun i=>.int (-i)):=unI fun _ _ _ _ _ q=>neg_int q
end
noncomputable def scal:V->V->Bool
 |.non,.non=>true|.non,.int _=>true|.int _,.non=>true|.non,.bl _=>true|.bl _,.non=>true|.non,.str _=>true|.str _,.non=>true
 |.int _,.int _=>true|.bl _,.bl _=>true|.str _,.str _=>true|.byt _,.byt _=>true
 |.int _,.str _=>true|.str _,.int _=>true|.bl _,.str _=>true|.str _,.bl _=>true
 |_,_=>false
def rEq:R2:=fun x y H Q=>scal x y=true/\Q (.bl (decide (x=y))) H
def rNe:R2:=fun x y H Q=>scal x y=true/\Q (.bl (!decide (x=y))) H
theorem a8I{i j:Int}:decide (V.int i=V.int j)=(i==j):=by
 rw[Bool.eq_iff_iff];simp
theorem b2v{i j:Bool}:decide (V.bl i=V.bl j)=(i==j):=by
 rw[Bool.eq_iff_iff];simp
theorem a8H{i j:Str}:decide (V.str i=V.str j)=(i==j):=by
 rw[Bool.eq_iff_iff];simp
theorem a8J{i j:Array UInt8}:decide (V.byt i=V.byt j)=(i.toList==j.toList):=by
 rw[Bool.eq_iff_iff];cases i;cases j;simp
variable{op':CmpOp}{its:List Value}
section
variable{a b:Expr}{ta tb tc:TE}
theorem o7{Q:VK}{k k':Bool}(I:Inv X pins σ H s)(q:Q (.bl k) H)(e:k=k'):EP X pins σ Q (.bool k') s:=by
 subst e;exact⟨.bl k,H,I,rfl,q⟩
theorem b8W:OpR X (compareOp .Eq) rEq:=by
 intro pins s σ H x y v u Q I rx ry h;obtain⟨hs,q⟩:=h
 cases x with
 |non=>
  cases rx
  cases y with
  |non=>cases ry;exact PySem.EqNone.eq_none_none (o7 I q (by simp))
  |bl j=>cases ry;exact PySem.EqNone.eq_none_bool (o7 I q (by simp))
  |int j=>obtain⟨t',rfl⟩:=ry;exact PySem.EqNone.eq_none_int (o7 I q (by simp))
  |str j=>obtain⟨t',rfl⟩:=ry;exact PySem.EqNone.eq_none_str (o7 I q (by simp))
  |_=>exact absurd (show false=true from hs) bx
 |bl i=>
  cases rx
  cases y with
  |non=>cases ry;exact PySem.EqNone.eq_bool_none (o7 I q (by simp))
  |bl j=>cases ry;exact eq_bool (o7 I q b2v)
  |str j=>obtain⟨t',rfl⟩:=ry;exact PySem.EqMixed.eq_bool_str (o7 I q (by simp))
  |_=>exact absurd (show false=true from hs) bx
 |int i=>
  obtain⟨t,rfl⟩:=rx
  cases y with
  |non=>cases ry;exact PySem.EqNone.eq_int_none (o7 I q (by simp))
  |int j=>obtain⟨t',rfl⟩:=ry;exact eq_int (o7 I q a8I)
  |str j=>obtain⟨t',rfl⟩:=ry;exact PySem.EqMixed.eq_int_str (o7 I q (by simp))
  |_=>exact absurd (show false=true from hs) bx
 |str i=>
  obtain⟨t,rfl⟩:=rx
  cases y with
  |non=>cases ry;exact PySem.EqNone.eq_str_none (o7 I q (by simp))
  |bl j=>cases ry;exact PySem.EqMixed.eq_str_bool (o7 I q (by simp))
  |int j=>obtain⟨t',rfl⟩:=ry;exact PySem.EqMixed.eq_str_int (o7 I q (by simp))
  |str j=>obtain⟨t',rfl⟩:=ry;exact eq_str (o7 I q a8H)
  |_=>exact absurd (show false=true from hs) bx
 |byt i=>
  obtain⟨t,rfl⟩:=rx
  cases y with
  |byt j=>obtain⟨t',rfl⟩:=ry;exact PySem.W.eq_bytes (o7 I q a8J)
  |_=>exact absurd (show false=true from hs) bx
 |_=>cases y<;>exact absurd (show false=true from hs) bx
theorem b8R:OpR X (compareOp .NotEq) rNe:=by
 intro pins s σ H x y v u Q I rx ry h;obtain⟨hs,q⟩:=h
 cases x with
 |non=>
  cases rx
  cases y with
  |non=>cases ry;exact PySem.EqNone.ne_none_none (o7 I q (by simp))
  |bl j=>cases ry;exact PySem.EqNone.ne_none_bool (o7 I q (by simp))
  |int j=>obtain⟨t',rfl⟩:=ry;exact PySem.EqNone.ne_none_int (o7 I q (by simp))
  |str j=>obtain⟨t',rfl⟩:=ry;exact PySem.EqNone.ne_none_str (o7 I q (by simp))
  |_=>exact absurd (show false=true from hs) bx
 |bl i=>
  cases rx
  cases y with
  |non=>cases ry;exact PySem.EqNone.ne_bool_none (o7 I q (by simp))
  |bl j=>cases ry;exact ne_bool (o7 I q (congrArg not b2v))
  |str j=>obtain⟨t',rfl⟩:=ry;exact PySem.EqMixed.ne_bool_str (o7 I q (by simp))
  |_=>exact absurd (show false=true from hs) bx
 |int i=>
  obtain⟨t,rfl⟩:=rx
  cases y with
  |non=>cases ry;exact PySem.EqNone.ne_int_none (o7 I q (by simp))
  |int j=>obtain⟨t',rfl⟩:=ry;exact ne_int (o7 I q (congrArg not a8I))
  |str j=>obtain⟨t',rfl⟩:=ry;exact PySem.EqMixed.ne_int_str (o7 I q (by simp))
  |_=>exact absurd (show false=true from hs) bx
 |str i=>
  obtain⟨t,rfl⟩:=rx
  cases y with
  |non=>cases ry;exact PySem.EqNone.ne_str_none (o7 I q (by simp))
  |bl j=>cases ry;exact PySem.EqMixed.ne_str_bool (o7 I q (by simp))
  |int j=>obtain⟨t',rfl⟩:=ry;exact PySem.EqMixed.ne_str_int (o7 I q (by simp))
  |str j=>obtain⟨t',rfl⟩:=ry;exact ne_str (o7 I q (congrArg not a8H))
  |_=>exact absurd (show false=true from hs) bx
 |byt i=>
  obtain⟨t,rfl⟩:=rx
  cases y with
  |byt j=>obtain⟨t',rfl⟩:=ry;exact PySem.W.ne_bytes (o7 I q (congrArg not a8J))
  |_=>exact absurd (show false=true from hs) bx
 |_=>cases y<;>exact absurd (show false=true from hs) bx
theorem b8S:OpR X (compareOp .Lt) (rI0 fun i j=>.bl (decide (i<j))):=b3X fun _ _ _ _ _ _ _ q=>lt_int q
theorem b8T:OpR X (compareOp .LtE) (rI0 fun i j=>.bl (decide (i<=j))):=b3X fun _ _ _ _ _ _ _ q=>le_int q
theorem b8U:OpR X (compareOp .Gt) (rI0 fun i j=>.bl (decide (j<i))):=b3X fun _ _ _ _ _ _ _ q=>gt_int q
theorem b8V:OpR X (compareOp .GtE) (rI0 fun i j=>.bl (decide (j<=i))):=b3X fun _ _ _ _ _ _ _ q=>ge_int q
theorem a9o:OpR X (compareOp .In) (fun x y H Q=>∃i j,x=.str i/\y=.str j/\Q (.bl (!(Builtin.Str.occurrences j i 0 j.length 1).isEmpty)) H):=by
 intro pins s σ H x y v u Q I rx ry h;obtain⟨i,j,rfl,rfl,q⟩:=h;obtain⟨t,rfl⟩:=rx;obtain⟨t',rfl⟩:=ry;exact in_str (o7 I q rfl)
theorem OpR.or{r r':R2}(h:OpR X f r)(h':OpR X f r'):OpR X f (fun x y H Q=>r x y H Q∨r' x y H Q):=by
 intro pins s σ H x y v u Q I rx ry q
 rcases q with q|q
 · exact h pins s σ H x y v u Q I rx ry q
 · exact h' pins s σ H x y v u Q I rx ry q
theorem a4M{r:R2}(ho:OpR X (compareOp op) r)(ha:PE X a ta)(hb:PE X b tb)(hm:behindInMarks op b=false):PE X (.Compare a [op] [b] pos) (tOp r ta tb):=by
 intro pins s σ H Q I h;exact wpAny_Compare1 (b7F ha hb I h fun v u s2 x y H2 I2 rx ry q=>ho pins s2 σ H2 x y v u Q I2 rx ry q) hm
noncomputable def b0g(t:TE):TT:=fun σ H Q=>t σ H fun x H'=>∃k,x=.bl k/\Q k H'
theorem a4L{r:R2}(ho:OpR X (compareOp op) r)(ha:PE X a ta)(hb:PE X b tb)(hm:behindInMarks op b=false):PT X (.Compare a [op] [b] pos) (b0g (tOp r ta tb)):=by
 intro pins s σ H Q I h
 refine wpAny_isTrue_Compare1 (thn (ha pins s σ H _ I h) fun v s1 ⟨x,H1,I1,r1,q1⟩=>thn (hb pins s1 σ H1 _ I1 q1) fun u s2 ⟨y,H2,I2,r2,q2⟩=>
  thn (ho pins s2 σ H2 x y v u _ I2 r1 r2 q2) fun c s3 ⟨z,H3,I3,r3,k,e,q3⟩=>?_) hm
 subst e;cases r3;exact wpAny_truthy_bool ⟨H3,I3,q3⟩
noncomputable def a6Q(r r':R2)(ta tb tc:TE):TE:=fun σ H Q=>ta σ H fun x H1=>tb σ H1 fun y H2=>r x y H2 fun z H3=>∃k,z=.bl k∧
 (if k=true then tc σ H3 fun w' H4=>r' y w' H4 Q else Q (.bl false) H3)
theorem b1h{r r':R2}(ho:OpR X (compareOp op) r)(ho':OpR X (compareOp op') r')(ha:PE X a ta)(hb:PE X b tb)(hc:PE X c tc)
 (hm:lastMarks [op,op'] [b,c]=false:=by with_unfolding_all rfl):PE X (.Compare a [op,op'] [b,c] pos) (a6Q r r' ta tb tc):=by
 intro pins s σ H Q I h
 refine Compare_chain (thn (ha pins s σ H _ I h) fun v s1 ⟨x,H1,I1,r1,q1⟩=>chain_link (thn (hb pins s1 σ H1 _ I1 q1) fun u s2 ⟨y,H2,I2,r2,q2⟩=>
  thn (ho pins s2 σ H2 x y v u _ I2 r1 r2 q2) fun d s3 ⟨z,H3,I3,r3,k,e,q3⟩=>?_)) hm
 subst e;cases r3;refine wpAny_truthy_bool ?_
 cases k with
 |false=>exact ite_ff ⟨.bl false,H3,I3,rfl,q3⟩
 |true=>exact ite_tt (chain_last (thn (hc pins s3 σ H3 _ I3 q3) fun w' s4 ⟨z',H4,I4,r4,q4⟩=>ho' pins s4 σ H4 y z' u w' Q I4 r2 r4 q4))
theorem b0M{r r':R2}(ho:OpR X (compareOp op) r)(ho':OpR X (compareOp op') r')(ha:PE X a ta)(hb:PE X b tb)(hc:PE X c tc)
 (hm:lastMarks [op,op'] [b,c]=false:=by with_unfolding_all rfl):PT X (.Compare a [op,op'] [b,c] pos) (b0g (a6Q r r' ta tb tc)):=by
 intro pins s σ H Q I h
 refine isTrue_chain (thn (ha pins s σ H _ I h) fun v s1 ⟨x,H1,I1,r1,q1⟩=>test_link (thn (hb pins s1 σ H1 _ I1 q1) fun u s2 ⟨y,H2,I2,r2,q2⟩=>
  thn (ho pins s2 σ H2 x y v u _ I2 r1 r2 q2) fun d s3 ⟨z,H3,I3,r3,k,e,q3⟩=>?_)) hm
 subst e;cases r3;refine wpAny_truthy_bool ?_
 cases k with
 |false=>
  obtain⟨k',e',q'⟩:=q3;cases e';exact ite_ff ⟨H3,I3,q'⟩
 |true=>
  refine ite_tt (test_last (thn (hc pins s3 σ H3 _ I3 q3) fun w' s4 ⟨z',H4,I4,r4,q4⟩=>thn (ho' pins s4 σ H4 y z' u w' _ I4 r2 r4 q4) fun d' s5 ⟨z2,H5,I5,r5,k2,e2,q5⟩=>?_))
  subst e2;cases r5;exact wpAny_truthy_bool ⟨H5,I5,q5⟩
def c0J(K:PySem.W.Frag)(x:V)(H:Hp)(k:Bool):Prop:=
 match x with
 |.non=>k=false
 |.bl b=>k=b
 |.int i=>k=(i !=0)
 |.str y=>y.length<=sizeLine/\k=((y.length:Int) !=0)
 |.byt y=>y.size<=sizeLine/\k=((y.size:Int) !=0)
 |.ref p=>(∃xs,SqL K H p xs/\k=!xs.isEmpty)∨(∃xs,SqT K H p xs/\k=!xs.isEmpty)∨∃kvs,H p=some (.dK kvs)/\k=!kvs.isEmpty
 |_=>False
theorem a7m{κ:Type}{kvs:List (κ×V)}{vs:List (κ×Value)}(r:KV kvs vs):(!vs.isEmpty)=!kvs.isEmpty:=by
 cases r<;>rfl
theorem a3h{xs:List V}(r:k7 xs its):(!its.toArray.isEmpty)=!xs.isEmpty:=by
 cases r<;>simp
theorem a0V:(sizeLine:Nat)<2^63:=by rw[sizeLine_eq];decide
theorem b5B:c1J X (fun x H Q=>∃k,c0J X.K x H k/\Q k H):=by
 intro pins s σ H x v Q I rx h;obtain⟨k,e,q⟩:=h;have hl:=a0V
 have hs:sizeLine=16777216:=sizeLine_eq
 cases x with
 |non=>
  cases rx
  have e':k=false:=e
  subst e';exact truthy_none ⟨H,I,q⟩
 |bl b=>
  cases rx
  have e':k=b:=e
  subst e';exact wpAny_truthy_bool ⟨H,I,q⟩
 |int i=>
  obtain⟨t,rfl⟩:=rx
  have e':k=(i !=0):=e
  subst e';exact PySem.P.truthy_int ⟨H,I,q⟩
 |str y=>
  obtain⟨t,rfl⟩:=rx;obtain⟨hy,e'⟩:y.length<=sizeLine/\k=((y.length:Int) !=0):=e;subst e';exact PySem.P.truthy_str (by omega) ⟨H,I.tok _,q⟩
 |byt y=>
  obtain⟨t,rfl⟩:=rx;obtain⟨hy,e'⟩:y.size<=sizeLine/\k=((y.size:Int) !=0):=e;subst e';exact PySem.W.truthy_bytes (by omega) ⟨H,I.tok _,q⟩
 |ref p=>
  cases rx
  have e':(∃xs,SqL X.K H p xs/\k=!xs.isEmpty)∨(∃xs,SqT X.K H p xs/\k=!xs.isEmpty)∨∃kvs,H p=some (.dK kvs)/\k=!kvs.isEmpty:=e
  rcases e' with⟨xs,hx,e'⟩|⟨xs,hx,e'⟩|⟨kvs,hx,e'⟩
  · subst e';obtain⟨its,r,pl,hz⟩:=I.list hx;have hlen:=r.length;exact wpAny_truthy_list pl.isList (by simp only[size_toArray];omega) ⟨H,I.tok _,by rw[a3h r];exact q⟩
  · subst e';obtain⟨its,r,pl,hz⟩:=I.tuple hx;have hlen:=r.length;exact truthy_tuple pl (by simp only[size_toArray];omega) ⟨H,I.tok _,by rw[a3h r];exact q⟩
  · subst e';obtain⟨hz,hS,vs,r,m⟩:kvs.length<=sizeLine/\(p==sysModules)=false/\∃vs,KV kvs vs/\s.heap.DictOf (u5 X.prog X.w) p vs:=I.hok p _ hx
    have hlen:kvs.length=vs.length:=Paired.length r
    exact wpAny_truthy_dict hS m (by omega) ⟨H,I.tok _,by rw[a7m r];exact q⟩
 |_=>exact(show False from e).elim
theorem b0J(ha:PE X a ta)(he:∀whole,isTrue a X.env whole=(do let v←whole;standAt a.pos;holding [v] (truthy v))):
 PT X a (fun σ H Q=>ta σ H fun x H'=>∃k,c0J X.K x H' k/\Q k H'):=by
 intro pins s σ H Q I h;exact isTrue_plain (thn (ha pins s σ H _ I h) fun v s1 ⟨x,H1,I1,r1,q1⟩=>b5B pins s1 σ H1 x v Q I1 r1 q1) (he _)
theorem a7c:OpR X (binaryOp .Add) (fun x y H Q=>∃i j,x=.str i/\y=.str j/\i.length+j.length<=sizeLine/\Q (.str (i++j)) H):=by
 intro pins s σ H x y v u Q I rx ry h;obtain⟨i,j,rfl,rfl,hz,q⟩:=h;obtain⟨t,rfl⟩:=rx;obtain⟨t',rfl⟩:=ry;exact add_str (fun t' tk=>⟨.str (i++j),H,I.tok _,⟨_,rfl⟩,q⟩) hz
theorem M9{x:V}(r:k7 [x] us):∃u,us=[u]/\o0 x u:=by
 cases r with
 |cons r1 r2=>cases r2;exact⟨_,rfl,r1⟩
theorem a7B{x:V}(r:k7 [x,y] us):∃u w',us=[u,w']/\o0 x u/\o0 y w':=by
 cases r with
 |cons r1 r2=>
  cases r2 with
  |cons r3 r4=>cases r4;exact⟨_,_,rfl,r1,r3⟩
theorem a9P(hc:X.calm=true):B8 X (.builtin "max") (fun xs H Q=>∃i j,xs=[.int i,.int j]/\Q (.int (if j>i then j else i)) H):=by
 intro pins s σ H xs us Q I r h;obtain⟨i,j,rfl,q⟩:=h;obtain⟨u,w',rfl,⟨t,rfl⟩,⟨t',rfl⟩⟩:=a7B r;refine max_two_ints (I.ok.hd hc) fun h' tk k=>⟨_,H,I.kept k,?_,q⟩
 by_cases hj:j>i
 · rw[ay hj,ay hj];exact⟨_,rfl⟩
 · rw[az hj,az hj];exact⟨_,rfl⟩
theorem a4n:B8 X (.type "int") (fun xs H Q=>(∃i,xs=[.int i]/\Q (.int i) H)∨∃k,xs=[.bl k]/\Q (.int (if k then 1 else 0)) H):=by
 intro pins s σ H xs us Q I r h
 rcases h with⟨i,rfl,q⟩|⟨k,rfl,q⟩
 · obtain⟨u,rfl,t,rfl⟩:=M9 r;exact call_int_int ⟨.int i,H,I,⟨_,rfl⟩,q⟩
 · obtain⟨u,rfl,r1⟩:=M9 r;cases r1;exact call_int_bool ⟨.int (if k then 1 else 0),H,I.tok _,⟨_,rfl⟩,q⟩
theorem a5t:B8 X (.type "str") (fun xs H Q=>∃i,xs=[.int i]/\i.natAbs.log2<1920/\Q (.str (toString i)) H):=by
 intro pins s σ H xs us Q I r h;obtain⟨i,rfl,hz,q⟩:=h;obtain⟨u,rfl,t,rfl⟩:=M9 r;exact PySem.P.str_of_int hz ⟨.str _,H,I.tok _,⟨_,rfl⟩,q⟩
end
structure ObjM(h:Heap)(x dx C:Addr)(mA:Str->Option Value):Prop where
 obj:h.get? x=some (PySem.W.instObj C dx)
 ns:h.Ns1 dx mA
 ne:dx≠x
variable{dx:Addr}{mA:Str->Option Value}
theorem a9u(n:h.Ns1 dx mA):∃od,h.get? dx=some od/\∀name,PySem.W.lookIn name od=some (mA name):=by
 obtain⟨o,es,ep,ho,hd,hk,_,hm⟩:=n;refine⟨o,ho,fun name=>?_⟩
 have e:=hm name;unfold nsFind findBy at e;rw[←Array.find?_toList] at e
 unfold PySem.W.lookIn;rw[hd]
 dsimp only
 split
 · rename_i y q;rw[q] at e;exact congrArg some e
 · rename_i q;rw[q] at e
   have a:es.toList.any (·.refKey)=false:=by
    rw[List.any_eq_false];intro y hy;obtain⟨z,t,hkey⟩:=hk y (Array.mem_toList_iff.mp hy);simp[DictEntry.refKey,hkey]
   have a':¬es.toList.any (·.refKey)=true:=by rw[a];exact bx
   rw[az a'];exact congrArg some e
variable{C:Addr}
theorem ObjM.look{x:Addr}(I:ObjM h x dx C mA):∃od,PySem.W.InstAt h x (PySem.W.instObj C dx) C (some od)/\∀name,PySem.W.lookIn name od=some (mA name):=
 let⟨od,ho,hl⟩:=a9u I.ns
 ⟨od,⟨I.obj,rfl,rfl,ho⟩,hl⟩
variable{expr:Bool}{vs:List Value}{kw:List (Str×Value)}
section
variable{prog:Program}{E:Value->Shared->Prop}{x f:Addr}{name:Str}{v:Value}
theorem b4w(X:K.In s.heap)(I:ObjM s.heap x dx C mA)(hg:PySem.W.plainGet K C name=true)(hh:PySem.W.hasDictIn K C=true)
 (ha:PySem.W.findIn K (.ref C) name=some none) (hv:mA name=some v) (hv':PySem.W.handedIn v=true) (h:Q v {s with toks:=s.toks+1}):
 wpAny (model prog w) A (getAttr (.ref x) name expr) Q E s:=by
 obtain⟨od,J,hl⟩:=I.look;exact PySem.W.get_value X J (PySem.W.plainGet_of hg).1 (PySem.W.findObj_own hh ha rfl (by rw[hl,hv])) hv' h
theorem b3t{ns:List Str}{Q:Unit->Shared->Prop}(X:K.In s.heap)(I:ObjM s.heap x dx C mA)
 (hs:PySem.W.findIn K (.ref C) "__setattr__"=some (some (.builtin "object.__setattr__"))) (hp:PySem.W.plainOver K C=true) (ht:PySem.W.takerIn K C name=some none) (hh:PySem.W.hasDictIn K C=true)
 (hw:PySem.Within mA ns) (hsz:ns.length<=sizeLine)
 (h:∀h',ObjM h' x dx C (fun y=>if y=name then some v else mA y)->Heap.SameBut dx s.heap h'->Q () {s with heap:=h',toks:=s.toks+2}):
 wpAny (model prog w) A (setAttr (.ref x) name v) Q E s:=by
 obtain⟨od,J,hl⟩:=I.look;refine PySem.W.set_plain X J hs (PySem.W.osa_open (s:={s with toks:=s.toks+1}) (r:=none) X J hp ht fun b=>?_)
 obtain⟨cd,hc,hd'⟩:=PySem.W.any_some hh
 have hx:s.heap.get? x=some ⟨.ref C,some dx,.plain,#[]⟩:=I.obj
 refine wpAny_bind (wpAny_pure (wpAny_bind (wpAny_bind (wpAny_loadPart hx (wpAny_bind (PySem.W.Looks.here (s:={s with toks:=s.toks+1}) (PySem.W.looks_clsIn X hc) ?_))))))
 rw[hd'];refine wpAny_pure (a:=some dx) (wpAny_bind (wpAny_pure (wpAny_bind ?_)))
 refine wpAny_nsSet1 (s:={s with toks:=s.toks+1}) I.ns fun h' hn2 hs2=>?_
 obtain⟨oD,esD,epD,hoD,hdD,hcD⟩:=hn2.count (PySem.Within.cons name v hw);refine wpAny_bind (wpAny_lookBehind hoD (by rw[hdD];exact pastItsLine_dict (aR hcD (by rw[length_cons];omega))) ?_)
 exact wpAny_pure (h _ ⟨(hs2.2 _ (Ne.symm I.ne)).trans I.obj,hn2,I.ne⟩ hs2)
theorem b1s{R:Result->Shared->Prop}(X:K.In s.heap)(hm:PySem.W.makesIn K C=true)
 (hi:PySem.W.findIn K (.ref C) "__init__"=some (some (.ref f))) (hf:PySem.W.typeIn K (.ref f)=some (.type "function"))
 (h:codeAny (model prog w) (A.under (.builtin "type.__call__" ⟨.ref C::vs,kw⟩)) (.call (.ref f) ⟨.ref (s.heap.objs.size+1)::vs,kw⟩) (PySem.W.InitBack (s.heap.objs.size+1) R)
  {s with heap:=(s.heap.push PySem.W.emptyDict).push (PySem.W.instObj C s.heap.objs.size)}):
 codeAny (model prog w) A (.call (.ref C) ⟨vs,kw⟩) R s:=by
 obtain⟨hh,g,d,t,os⟩:=s;exact PySem.W.make_core (PySem.W.makes_of X hm) (PySem.W.looks_findIn X hi) (fun self=>PySem.W.bind_fn X self hf) (.inl rfl) h
end
noncomputable def V6(f:Str)(v:V):List (Str×V)->List (Str×V)
 |[]=>[(f,v)]
 |(g,x)::r=>if g=f then(g,v)::r else(g,x)::V6 f v r
theorem a2d(f g:Str)(v:V):∀fs:List (Str×V),(V6 f v fs).lookup g=if g=f then some v else fs.lookup g
 |[]=>by
  show List.lookup g [(f,v)]=_
  by_cases h:g=f
  · have hb:(g==f)=true:=beq_iff_eq.mpr h
    simp only[List.lookup,hb,ay h]
  · have hb:(g==f)=false:=beq_eq_false_iff_ne.mpr h
    simp only[List.lookup,hb,az h]
 | (k,x)::r=>by
  have ih:=a2d f g v r;rw[show V6 f v ((k,x)::r)=(if k=f then(k,v)::r else(k,x)::V6 f v r) from rfl]
  by_cases hk:k=f
  · rw[ay hk]
    by_cases h:g=k
    · have hb:(g==k)=true:=beq_iff_eq.mpr h
      simp only[List.lookup,hb,ay (h.trans hk)]
    · have hb:(g==k)=false:=beq_eq_false_iff_ne.mpr h
      simp only[List.lookup,hb,az (fun e:g=f=>h (e.trans hk.symm))]
  · rw[az hk]
    by_cases h:g=k
    · have hb:(g==k)=true:=beq_iff_eq.mpr h
      simp only[List.lookup,hb,az (fun e:g=f=>hk (h.symm.trans e))]
    · have hb:(g==k)=false:=beq_eq_false_iff_ne.mpr h
      simp only[List.lookup,hb];exact ih
theorem a1M(f:Str)(v:V):∀fs:List (Str×V),f∈(V6 f v fs).map (·.1)/\∀g,g∈fs.map (·.1)->g∈(V6 f v fs).map (·.1)
 |[]=>⟨by simp[V6],fun g h=>by simp at h⟩
 | (k,x)::r=>by
  obtain⟨i1,i2⟩:=a1M f v r;rw[show V6 f v ((k,x)::r)=(if k=f then(k,v)::r else(k,x)::V6 f v r) from rfl]
  by_cases hk:k=f
  · rw[ay hk];subst hk;exact⟨by simp,fun g h=>by simpa using h⟩
  · rw[az hk];refine⟨?_,fun g h=>?_⟩
    · rw[map_cons];exact aD _ i1
    · rw[map_cons] at h⊢
      rcases aE.mp h with e|e
      · exact aE.mpr (.inl e)
      · exact aD _ (i2 g e)
theorem a2e(f:Str)(v:V):∀fs:List (Str×V),(V6 f v fs).length<=fs.length+1
 |[]=>by simp[V6]
 |(k,x)::r=>by
  have ih:=a2e f v r;rw[show V6 f v ((k,x)::r)=(if k=f then(k,v)::r else(k,x)::V6 f v r) from rfl]
  by_cases hk:k=f
  · rw[ay hk,length_cons,length_cons];omega
  · rw[az hk,length_cons,length_cons];omega
theorem a0J.some_of{o:Option Value}(r:a0J (some v) o):∃u,o=some u/\o0 v u:=by
 cases o with
 |none=>exact(show False from r).elim
 |some u=>exact⟨u,rfl,r⟩
theorem a9B(r:o0 v u):PySem.W.handedIn u=true:=by
 cases v with
 |non=>cases (show u=Value.none from r);rfl
 |bl b=>cases (show u=Value.bool b from r);rfl
 |int i=>obtain⟨t,e⟩:=(show∃t,u=Value.int i t from r);cases e;rfl
 |str x=>obtain⟨t,e⟩:=(show∃t,u=Value.str x t from r);cases e;rfl
 |byt b=>obtain⟨t,e⟩:=(show∃t,u=Value.bytes b t from r);cases e;rfl
 |flt b=>obtain⟨t,e⟩:=(show∃t,u=Value.float b t from r);cases e;rfl
 |ref a=>cases (show u=Value.ref a from r);rfl
 |ty n=>cases (show u=Value.type n from r);rfl
section
variable{fs fs':List (Str×V)}
theorem a8o(hok:HOk P w H h)(e:H a=some (.ins C dx fs)):∃mA,ObjM h a dx C mA/\(∀f,a0J (fs.lookup f) (mA f))/\PySem.Within mA (fs.map (·.1))/\fs.length<=1000/\H dx=some (.own a):=by
 obtain⟨d,z,ne,ob,mA,n,r,q⟩:=(show C2 P w H h a (.ins C dx fs) from hok a _ e);exact⟨mA,⟨ob,n,ne⟩,r,q,z,d⟩
end
structure Cls(K:PySem.W.Frag)(C:Addr):Prop where
 pg:PySem.W.plainGet K C Str.empty=true
 hd:PySem.W.hasDictIn K C=true
 po:PySem.W.plainOver K C=true
 sa:PySem.W.findIn K (.ref C) "__setattr__"=some (some (.builtin "object.__setattr__"))
theorem Cls.get(c:Cls K C)(f:Str):PySem.W.plainGet K C f=true:=c.pg
def a0w(K:PySem.W.Frag)(C:Addr)(f:Str):Prop:=PySem.W.findIn K (.ref C) f=some none
theorem a0w.taker{f:Str}(n:a0w K C f):PySem.W.takerIn K C f=some none:=by
 unfold PySem.W.takerIn;rw[show PySem.W.findIn K (.ref C) f=some none from n];rfl
variable{prog:Program}{env:Env}
section
variable{fs:List (Str×V)}{f:Str}{E:Value->Shared->Prop}
theorem a7o{b:Bool}(I:Inv X pins σ H s)(e:H a=some (.ins C dx fs))(c:Cls X.K C)(n:a0w X.K C f)(l:fs.lookup f=some v)
 (h:∀u s',Inv X pins σ H s'->o0 v u->Q u s'):wpAny (model X.prog X.w) A (getAttr (.ref a) f b) Q E s:=by
 obtain⟨mA,O,r,_,_,_⟩:=a8o I.hok e;obtain⟨u,hu,ru⟩:=a0J.some_of (v:=v) (o:=mA f) (by rw[←l];exact r f)
 exact b4w I.kIn O (c.get f) c.hd n hu (a9B ru) (h u _ (I.tok _) ru)
theorem a6W{Q:Unit->Shared->Prop}(I:Inv X pins σ H s)(e:H a=some (.ins C dx fs))(c:Cls X.K C)(n:a0w X.K C f)(hl:fs.length<1000)(ry:o0 y u)
 (h:∀s',Inv X pins σ (upd H a (.ins C dx (V6 f y fs))) s'->Q () s'):wpAny (model X.prog X.w) A (setAttr (.ref a) f u) Q E s:=by
 obtain⟨mA,O,r,wi,_,ho⟩:=a8o I.hok e
 have hz:(fs.map (·.1)).length<=sizeLine:=by rw[aa,sizeLine_eq];omega
 refine b3t I.kIn O c.sa c.po n.taker c.hd wi hz fun h' O' sb=>h _ ?_
 have hd:∃o,h'.get? dx=some o:=let⟨o,_,_,e',_⟩:=O'.ns;⟨o,e'⟩
 refine I.write (x:=a) (e:=dx) (by rw[e];exact True.intro) (.inr ho) (fun b q hb z=>(sb.2 b hb).trans z) hd ?_
 refine⟨by rw[k8 O.ne];exact ho,?_,O.ne,O'.obj,_,O'.ns,fun g=>?_,fun g hg=>?_⟩
 · have:=a2e f y fs;omega
 · show a0J ((V6 f y fs).lookup g) (if g=f then some u else mA g)
   rw[a2d]
   by_cases q:g=f
   · rw[ay q,ay q];exact ry
   · rw[az q,az q];exact r g
 · by_cases q:g=f
   · rw[q];exact(a1M f y fs).1
   · refine(a1M f y fs).2 g (wi g fun z=>hg ?_)
     show(if g=f then some u else mA g)=none
     rw[az q];exact z
theorem Inv.made(I:Inv X pins σ H s):Inv X pins σ (upd (upd H s.heap.objs.size (.own (s.heap.objs.size+1))) (s.heap.objs.size+1) (.ins C s.heap.objs.size []))
 {s with heap:=(s.heap.push PySem.W.emptyDict).push (PySem.W.instObj C s.heap.objs.size)}:=by
 have e1:(s.heap.push PySem.W.emptyDict).get? s.heap.objs.size=some PySem.W.emptyDict:=Heap.get?_push_size s.heap rfl
 have e2:((s.heap.push PySem.W.emptyDict).push (PySem.W.instObj C s.heap.objs.size)).get? (s.heap.objs.size+1)=some (PySem.W.instObj C s.heap.objs.size):=by
  have:=Heap.get?_push_size (s.heap.push PySem.W.emptyDict) (o:=PySem.W.instObj C s.heap.objs.size) rfl
  rwa [Heap.size_push] at this
 have e3:(s.heap.push PySem.W.emptyDict).Ns s.heap.objs.size (fun _=>none):=⟨PySem.W.emptyDict,#[],_,e1,rfl,(fun e he=>absurd he (by simp)),fun _=>rfl⟩
 have I1:=I.laid (a:=s.heap.objs.size) (o:=.own (s.heap.objs.size+1)) (h':=s.heap.push PySem.W.emptyDict) (t':=s.toks) (fun b u q=>Heap.get?_push_of_some _ q) (ai _) ⟨_,e1⟩
 refine I1.laid (a:=s.heap.objs.size+1) (o:=.ins C s.heap.objs.size []) (t':=s.toks) (fun b u q=>Heap.get?_push_of_some _ q) (Nat.le_of_eq (Heap.size_push _ _)) ?_
 have ne:s.heap.objs.size≠s.heap.objs.size+1:=Nat.ne_of_lt (aV _)
 refine⟨by rw[k8 ne,b9],Nat.zero_le _,ne,e2,fun _=>none,(Heap.Ns1.of_empty e3).at fun o q=>Heap.get?_push_of_some _ q,fun _=>True.intro,fun y hy=>absurd rfl hy⟩
theorem b5g{f:Str}{s:Shared}(hb:attributeBase e f env (eval e env)=eval e env)
 (h:wpAny (model prog w) A (eval e env) (fun o s₁=>wpAny (model prog w) A (getAttr o f true) Q E s₁) E s):wpAny (model prog w) A (eval (.Attribute e f pos) env) Q E s:=
 Attribute_any_ h (by rw[arm_eval_Attribute,hb])
end
noncomputable def c0U(K:PySem.W.Frag)(ta:TE)(f:Str):TE:=fun σ H Q=>ta σ H fun x H1=>∃a C dx fs v,x=.ref a/\H1 a=some (.ins C dx fs)/\Cls K C/\a0w K C f/\fs.lookup f=some v/\Q v H1
def c0Y(K:PySem.W.Frag)(ta tv:TE)(f:Str):TS:=fun D σ H=>tv σ H fun y H1=>ta σ H1 fun x H2=>∃a C dx fs,x=.ref a/\H2 a=some (.ins C dx fs)/\Cls K C/\a0w K C f/\fs.length<1000∧
 D.nx σ (upd H2 a (.ins C dx (V6 f y fs)))
variable{apos:Pos}
section
variable{o value:Expr}{f:Str}{tpos:Pos}{ta tv:TE}
theorem b6n(he:PE X e ta)(hb:attributeBase e f X.env (eval e X.env)=eval e X.env):PE X (.Attribute e f pos) (c0U X.K ta f):=by
 intro pins s σ H Q I h;refine b5g hb (thn (he pins s σ H _ I h) fun u s1 ⟨x,H1,I1,rx,a,C,dx,fs,v,ex,ea,c,n,l,q⟩=>?_)
 subst ex;obtain rfl:u=Value.ref a:=rx;exact a7o I1 ea c n l fun u' s2 I2 ru=>⟨v,H1,I2,ru,q⟩
theorem b5Z(ha:PE X o ta)(hv:PE X value tv)(hs:swapsWith value (some (.Attribute o f pos')) pos.line X.env=pure false):PS X (.Assign [.Attribute o f pos'] value pos) (c0Y X.K ta tv f):=by
 intro pins s σ H D I h;refine plainObj_wpAny_Assign_Attribute (thn (hv pins s σ H _ I h) fun u s1 ⟨y,H1,I1,ry,q⟩=>thn (ha pins s1 σ H1 _ I1 q) fun ov s2 ⟨x,H2,I2,rx,a,C,dx,fs,ex,ea,c,n,l,q2⟩=>?_) hs
 subst ex;obtain rfl:ov=Value.ref a:=rx;exact a6W I2 ea c n l ry fun s3 I3=>⟨σ,_,I3,q2⟩
end
structure Room(k:Nat)(A:Around):Prop where
 hd:A.handled=none
 dp:A.depth+3*k+5<recursionLimit
 un:A.units+16*k+200<cLine
theorem Room.mono{k:Nat}(r:Room k A)(h:j<=k):Room j A:=⟨r.hd,by have:=r.dp;omega,by have:=r.un;omega⟩
theorem Room.deeper{k:Nat}(r:Room (k+1) A)(env:Env):Room k (A.deeper env):=
 ⟨r.hd,by have:=r.dp;show A.depth+1+3*k+5<_;omega,by have:=r.un;show A.units+3+16*k+200<_;omega⟩
theorem a7i:(A.under (.builtin "type.__call__" ⟨.ref C::us,kw⟩)).depth=A.depth+1:=by
 first|rfl|simp[Around.under,Code.weight,Code.isCreation,Code.isGuard,Code.isCaller,Code.frames,Code.isFrame,guardIds]
theorem a7h:(A.under (.builtin "type.__call__" ⟨.ref C::us,kw⟩)).units=A.units+1:=by
 first|rfl|simp[Around.under,Code.cUnits,Code.frames,Code.isFrame]
theorem Room.make{k:Nat}(r:Room (k+1) A)(C:Addr)(us:List Value)(kw:List (Str×Value)):Room k (A.under (.builtin "type.__call__" ⟨.ref C::us,kw⟩)):=
 ⟨r.hd,by have:=r.dp;rw[a7i];omega,by have:=r.un;rw[a7h];omega⟩
theorem Room.depth{k:Nat}(r:Room k A):A.depth<recursionLimit:=by have:=r.dp;omega
theorem Room.units{k:Nat}(r:Room k A):A.units+64<cLine:=by have:=r.un;omega
def b5F:TA:=fun _ H Q=>Q [] H
noncomputable def b0h(ta:TE)(tr:TA):TA:=fun σ H Q=>ta σ H fun x H1=>tr σ H1 fun xs H2=>Q (x::xs) H2
section
variable{t:TA}
theorem a0R:PA X [] b5F:=fun _ _ _ _ H Q I h=>Calls.spliced_nil ⟨[],H,I,.nil,h⟩
theorem L5(ha:PE X e te)(hr:PA X es t)(hs:starEach (e::es) X.env=(false,eval e X.env)::starEach es X.env:=by rfl):PA X (e::es) (b0h te t):=by
 intro pos pins s σ H Q I h;rw[hs]
 show wpAny _ _ (spliced ((false,eval e X.env)::backTo pos (starEach es X.env))) _ _ s
 refine Calls.spliced_cons (thn (ha pins s σ H _ I h) fun u s1 ⟨x,H1,I1,r1,q1⟩=>?_)
 exact thn (hr pos pins s1 σ H1 _ I1 q1) fun us s2 ⟨xs,H2,I2,r2,q2⟩=>⟨x::xs,H2,I2,.cons r1 r2,q2⟩
def c0K(t:TA):TE:=fun σ H Q=>t σ H fun xs H1=>xs.length<=sizeLine/\∀p,H1 p=none->Q (.ref p) (upd H1 p (.tup xs))
def c0Q(t:TA):TE:=fun σ H Q=>t σ H fun xs H1=>xs.length<=sizeLine/\∀p,H1 p=none->Q (.ref p) (upd H1 p (.lst xs))
theorem b6h{x1}(h:PA X es t):PE X (.Tuple es x1 pos) (c0K t):=by
 intro pins s σ H Q I hq;refine wpAny_Tuple_spliced (thn (h pos pins s σ H _ I hq) fun us s1 ⟨xs,H1,I1,r,z,q⟩=>⟨by rw[←r.length];exact z,?_⟩)
 have hf:H1 s1.heap.objs.size=none:=I1.hok.fresh (ai _)
 refine⟨.ref s1.heap.objs.size,upd H1 s1.heap.objs.size (.tup xs),I1.laid (t':=s1.toks) (fun b u e=>Heap.get?_push_of_some _ e) (ai _) ?_,rfl,q _ hf⟩
 exact⟨z,us,r,⟨_,Heap.get?_push_size _ rfl,rfl,rfl,_,rfl⟩⟩
theorem b6m(h:PA X es t):PE X (.List es pos) (c0Q t):=by
 intro pins s σ H Q I hq;refine wpAny_List_spliced (thn (h pos pins s σ H _ I hq) fun us s1 ⟨xs,H1,I1,r,z,q⟩=>⟨by rw[←r.length];exact z,?_⟩)
 have hf:H1 s1.heap.objs.size=none:=I1.hok.fresh (ai _)
 refine⟨.ref s1.heap.objs.size,upd H1 s1.heap.objs.size (.lst xs),I1.laid (t':=s1.toks) (fun b u e=>Heap.get?_push_of_some _ e) (ai _) ?_,rfl,q _ hf⟩
 exact⟨z,us,0,r,Heap.get?_push_size _ rfl⟩
end
abbrev Sp:=List V->Hp->VK->XK->Prop
abbrev CXT:=List Env->Hp->Shared->XK->Value->Shared->Prop
structure Env0(P:Program)(w:World)(K:PySem.W.Frag)(mg:Str->Option Value)(base:Heap)(A:Around)(outer:List Env)(s:Shared)(H:Hp):Prop where
 frames:A.frames=some outer
 mod:Mod K mg base
 bs:∀b o,base.get? b=some o->s.heap.get? b=some o/\H b=none
 bsz:base.objs.size<=s.heap.objs.size
 funs:s.heap.FunFrames base outer
 frf:∀b∈frs outer,H b=none
 hok:HOk P w H s.heap
 bare:AllBare s.gens
def CE(outer:List Env)(P:Program)(w:World)(H:Hp)(s:Shared)(Q:VK)(u:Value)(s':Shared):Prop:=
 ∃v H',s'.os=s.os/\AllBare s'.gens/\Un (frs outer) [] H H' s.heap s'.heap/\HOk P w H' s'.heap/\o0 v u/\Q v H'
def CR(CX:CXT)(outer:List Env)(P:Program)(w:World)(H:Hp)(s:Shared)(Q:VK)(E:XK)(r:Result)(s':Shared):Prop:=
 match r with
 |.ok (.ret u)=>CE outer P w H s Q u s'
 |.ok _=>False
 |.error e=>CX outer H s E e s'
structure FnOk(P:Program)(w:World)(K:PySem.W.Frag)(mg:Str->Option Value)(base:Heap)(CX:CXT)(k:Nat)(f:Addr)(fd:FuncData)(ps:List Str)(sp:Sp):Prop where
 len:∀vs H Q E,sp vs H Q E->vs.length=ps.length
 run:∀(A:Around) (outer:List Env) (s:Shared) (H:Hp) (args:Args) (us:List Value) (vs:List V) (Q:VK) (E:XK),Room k A->Env0 P w K mg base A outer s H->BindsTo s fd args (ps.zip us)->k7 vs us->sp vs H Q E→
  codeAny (model P w) A (.call (.ref f) args) (CR CX outer P w H s Q E) s
variable{mg:Str->Option Value}{base:Heap}{CX:CXT}{fd:FuncData}{ps:List Str}{sp:Sp}{outer:List Env}
theorem Env0.make(e:Env0 P w K mg base A outer s H)(C:Addr)(us:List Value)(kw:List (Str×Value)):
 Env0 P w K mg base (A.under (.builtin "type.__call__" ⟨.ref C::us,kw⟩)) outer s H:=⟨by first|exact e.frames|(simpa [Around.under,Code.envs,Code.isFrame,pushEnvs] using e.frames),e.mod,e.bs,e.bsz,e.funs,e.frf,e.hok,e.bare⟩
section
theorem Inv.env0(I:Inv X pins σ H s):Env0 X.prog X.w X.K X.mg X.base X.A X.stack s H:=
 ⟨I.ok.frames,I.ok.mod,I.bs,aR I.ok.bsz I.sz,I.stack,I.stkFree,I.hok,I.bare⟩
theorem Inv.after{Q:VK}(I:Inv X pins σ H s)(h:CE X.stack X.prog X.w H s Q u s'):EP X pins σ Q u s':=by
 obtain⟨v,H',os,bare,un,hok,r,q⟩:=h;obtain⟨hh,g,d,t,os'⟩:=s';obtain rfl:os'=s.os:=os;exact⟨v,H',I.call (h':=hh) (g':=g) (d':=d) (t':=t) (ch:=[]) un hok bare (fun b z=>absurd z (by simp)),r,q⟩
end
noncomputable def b8s(sp:Sp)(dvs:List V)(E:XK)(t:TA):TE:=fun σ H Q=>t σ H fun vs H1=>sp (vs++dvs) H1 Q E
def b8p(C:Addr)(sp:Sp)(dvs:List V)(E:XK)(t:TA):TE:=fun σ H Q=>t σ H fun vs H1=>∀x dx,H1 x=none->H1 dx=none->dx≠x→
 sp (.ref x::(vs++dvs)) (upd (upd H1 dx (.own x)) x (.ins C dx [])) (fun v H2=>v=.non/\Q (.ref x) H2) E
def T3(K:PySem.W.Frag)(fd:FuncData)(ps:List Str)(ds:List Value):Prop:=
 ∀(s:Shared) (us:List Value),K.In s.heap->(us++ds).length=ps.length->BindsTo s fd ⟨us,[]⟩ (ps.zip (us++ds))
theorem T3.all(h:∀us:List Value,us.length=ps.length->bindArgs fd ⟨us,[]⟩=pure (ps.zip us)):T3 K fd ps []:=fun s us _ hl=>by
 rw[bj] at hl⊢;exact .of_eq (h us hl)
def a3y(CX:CXT)(X:Cx)(E:XK):Prop:=∀(pins:List (Addr×Obj)) (σ:St) (H:Hp) (s:Shared) (e:Value) (s':Shared),Inv X pins σ H s->CX X.stack H s E e s'->X.xe e s'
section
variable{k:Nat}{f:Addr}{dvs:List V}{ds:List Value}{E:XK}{m:Str}{o:Expr}{ta:TE}{t:TA}
theorem b5N{Q:VK}{vs:List V}(F:FnOk X.prog X.w X.K X.mg X.base CX k f fd ps sp)(hr:Room k X.A)(hb:T3 X.K fd ps ds)(hd:k7 dvs ds)(hx:a3y CX X E)
 (I:Inv X pins σ H s) (r:k7 vs us) (h:sp (vs++dvs) H Q E):wpAny (model X.prog X.w) X.A (call (.ref f) us) (EP X pins σ Q) X.xe s:=by
 have r2:k7 (vs++dvs) (us++ds):=r.append hd
 have hl:(us++ds).length=ps.length:=by rw[←r2.length];exact F.len _ _ _ _ h
 refine wpAny_call (codeAny_mono (F.run X.A X.stack s H ⟨us,[]⟩ (us++ds) (vs++dvs) Q E hr I.env0 (hb s us I.kIn hl) r2 h) fun r s' hq=>?_)
 cases r with
 |error e=>exact hx pins σ H s e s' I hq
 |ok fl=>
  cases fl with
  |ret u=>exact I.after hq
  |next=>exact False.elim hq
  |brk=>exact False.elim hq
  |cont=>exact False.elim hq
theorem b3P(F:FnOk X.prog X.w X.K X.mg X.base CX k f fd ps sp)(hr:Room k X.A)(hg:Gl X x)(hm:X.mg x=some (.ref f))(hk:PySem.W.keepIn X.K (.ref f)=true)(hb:T3 X.K fd ps ds)(hd:k7 dvs ds)(hx:a3y CX X E)
 (ha:PA X (e::es) t) (hdb:(x==("__debug__":Str))=false:=by decide) (he:starEach (e::es) X.env=(false,eval e X.env)::starEach es X.env:=by rfl) (hpl:(backTo pos (starEach es X.env)).any (·.1)=false:=by rfl):
 PE X (.Call (.Name x p) (e::es) [] pos) (b8s sp dvs E t):=by
 intro pins s σ H Q I h;refine wpAny_Call_Name_kw (a4W I hg hm ?_ hdb)
 refine PySem.W.callWith_K (h₀:=X.base) I.ok.mod.kin hk (thn (ha pos pins s σ H _ I h) fun us s1 ⟨vs,H1,I1,r,q⟩=>⟨I1.kIn,?_⟩) he hpl
 exact b5N F hr hb hd hx I1 r q
structure Mk(K:PySem.W.Frag)(C f:Addr):Prop where
 makes:PySem.W.makesIn K C=true
 init:PySem.W.findIn K (.ref C) "__init__"=some (some (.ref f))
 fn:PySem.W.isFn K (.ref f)=true
 kp:PySem.W.keepIn K (.ref C)=true
theorem b0u{Q:VK}{vs:List V}(M:Mk X.K C f)(F:FnOk X.prog X.w X.K X.mg X.base CX k f fd ps sp)(hr:Room (k+1) X.A)(hb:T3 X.K fd ps ds)(hd:k7 dvs ds)
 (hx:a3y CX X E) (I:Inv X pins σ H s) (r:k7 vs us)
 (h:∀x dx,H x=none->H dx=none->dx≠x->sp (.ref x::(vs++dvs)) (upd (upd H dx (.own x)) x (.ins C dx [])) (fun v H2=>v=.non/\Q (.ref x) H2) E):
 wpAny (model X.prog X.w) X.A (call (.ref C) us) (EP X pins σ Q) X.xe s:=by
 have hq:=h (s.heap.objs.size+1) s.heap.objs.size (I.hok.fresh (Nat.le_succ _)) (I.hok.fresh (ai _)) (Nat.ne_of_lt (aV _));have I2:=Inv.made (C:=C) I
 have r2:k7 (V.ref (s.heap.objs.size+1)::(vs++dvs)) (Value.ref (s.heap.objs.size+1)::(us++ds)):=.cons rfl (r.append hd)
 have hl:(Value.ref (s.heap.objs.size+1)::us++ds).length=ps.length:=by
  have e:=r2.length;rw[F.len _ _ _ _ hq] at e;exact e.symm
 refine wpAny_call (b1s (f:=f) I.kIn M.makes M.init (beq_iff_eq.mp M.fn) (codeAny_mono (F.run _ X.stack _ _ ⟨Value.ref (s.heap.objs.size+1)::us,[]⟩ (Value.ref (s.heap.objs.size+1)::(us++ds)) _ _ E (hr.make C us [])
  (I2.env0.make C us []) (hb _ (Value.ref (s.heap.objs.size+1)::us) I2.kIn hl) r2 hq) fun r s' hq'=>?_))
 cases r with
 |error e=>exact hx pins σ _ _ e s' I2 hq'
 | ok fl=>
  cases fl with
  |ret u=>
   obtain⟨v,H',I3,rv,ev,q3⟩:=I2.after hq';subst ev;exact⟨rv,⟨V.ref (s.heap.objs.size+1),H',I3,rfl,q3⟩⟩
  |next=>exact False.elim hq'
  |brk=>exact False.elim hq'
  |cont=>exact False.elim hq'
theorem b1b(M:Mk X.K C f)(F:FnOk X.prog X.w X.K X.mg X.base CX k f fd ps sp)(hr:Room (k+1) X.A)(hg:Gl X x)(hm:X.mg x=some (.ref C))(hb:T3 X.K fd ps ds)(hd:k7 dvs ds)(hx:a3y CX X E)
 (hdb:(x==("__debug__":Str))=false:=by decide):PE X (.Call (.Name x p) [] [] pos) (b8p C sp dvs E b5F):=by
 intro pins s σ H Q I h;refine wpAny_Call_Name_kw (a4W I hg hm ?_ hdb)
 exact PySem.W.callWith_K0 I.kIn M.kp (b0u (us:=[]) M F hr hb hd hx I .nil h)
end
structure FnScope(N P:List Str)(sc:Scope):Prop where
 kind:sc.kind=.function
 co:sc.isCoroutine=false
 gen:sc.isGenerator=false
 nd:N.Nodup
 pre:N.take P.length=P
 par:∀x∈P,sc.names.lookup x=some .local∨sc.names.lookup x=some .cell
 nofree:∀y∈sc.names,y.2≠.free
theorem a4p{kindOf:Str->Option NameKind}{x:Str}:∀{binds:List (Str×Value)} {m:Str->Option Value},(∀v,(x,v)∉binds)->bindL kindOf binds m x=m x
 |[],_,_=>rfl
 | (n,v)::r,m,h=>by
  unfold bindL;rw[a4p fun w hw=>h w (aD _ hw)]
  split
  · have:x≠n:=by rintro rfl;exact h v bh
    simp[this]
  · rfl
theorem a4r{kindOf:Str->Option NameKind}{x:Str}:∀{binds:List (Str×Value)} {m:Str->Option Value},(∀v,(x,v)∉binds)->bindC kindOf binds m x=m x
 |[],_,_=>rfl
 | (n,v)::r,m,h=>by
  unfold bindC;rw[a4r fun w hw=>h w (aD _ hw)]
  split
  · rfl
  · have:x≠n:=by rintro rfl;exact h v bh
    simp[this]
theorem a4q{kindOf:Str->Option NameKind}{x:Str}{v:Value}:∀{P:List Str} {vs:List Value} {i:Nat} {m:Str->Option Value},P.Nodup->P[i]? =some x->vs[i]? =some v->kindOf x=some .local→
 bindL kindOf (P.zip vs) m x=some v
 |[],_,_,_,_,h,_,_=>by simp at h
 |_::_,[],_,_,_,_,h,_=>by simp at h
 |p::P,w::vs,0,m,nd,h1,h2,hk=>by
  simp at h1 h2;subst h1;subst h2
  show bindL kindOf ((p,w)::P.zip vs) m p=_
  unfold bindL;rw[a4p fun v hv=>(aY.mp nd).1 (of_mem_zip hv).1,ay hk]
  simp
 |p::P,w::vs,i+1,m,nd,h1,h2,hk=>by
  show bindL kindOf ((p,w)::P.zip vs) m x=_
  unfold bindL;exact a4q (i:=i) (aY.mp nd).2 (by simpa using h1) (by simpa using h2) hk
theorem a4s{kindOf:Str->Option NameKind}{x:Str}{v:Value}:∀{P:List Str} {vs:List Value} {i:Nat} {m:Str->Option Value},P.Nodup->P[i]? =some x->vs[i]? =some v->kindOf x≠some .local→
 bindC kindOf (P.zip vs) m x=some v
 |[],_,_,_,_,h,_,_=>by simp at h
 |_::_,[],_,_,_,_,h,_=>by simp at h
 |p::P,w::vs,0,m,nd,h1,h2,hk=>by
  simp at h1 h2;subst h1;subst h2
  show bindC kindOf ((p,w)::P.zip vs) m p=_
  unfold bindC;rw[a4r fun v hv=>(aY.mp nd).1 (of_mem_zip hv).1,az hk]
  simp
 |p::P,w::vs,i+1,m,nd,h1,h2,hk=>by
  show bindC kindOf ((p,w)::P.zip vs) m x=_
  unfold bindC;exact a4s (i:=i) (aY.mp nd).2 (by simpa using h1) (by simpa using h2) hk
noncomputable def a1j(N:List Str)(vs:List V):St:=vs.map some++List.replicate (N.length-vs.length) none
noncomputable def a7v(CX:CXT)(P:Program)(w:World)(K:PySem.W.Frag)(mg:Str->Option Value)(base:Heap)(N:List Str)(qual:Str)(scope:Scope)(f:Addr)(cd:Value)(A:Around)(outer:List Env)(s:Shared)(H:Hp)(E:XK):Cx where
 prog:=P
 w:=w
 K:=K
 mg:=mg
 base:=base
 A:=A.deeper (envOfC qual scope s.heap.objs.size f cd)
 N:=N
 s₀:=s
 H₀:=H
 env:=envOfC qual scope s.heap.objs.size f cd
 outer:=outer
 stack:=envOfC qual scope s.heap.objs.size f cd::outer
 ex:=[]
 calm:=true
 fn:=fun _=>true
 pn:=[]
 xe:=fun e s'=>wpAny (model P w) (A.deeper (envOfC qual scope s.heap.objs.size f cd)) (leaving (envOfC qual scope s.heap.objs.size f cd) e) (fun _ s''=>CX outer H s E e s'') (fun e' s''=>CX outer H s E e' s'') s'
variable{sc:Scope}
theorem a6B(h:sc.names.lookup x=some .cell):∃c,(cellsFrom n sc.names []).lookup x=some c:=by
 have q:=PySem.W.cellsFrom_some sc.names n [] (.inl h);exact Option.isSome_iff_exists.mp q
variable{qual:Str}{scope:Scope}
theorem a9z{f:Addr}{cd:Value}{s1:Shared}{E:XK}{vs:List V}
 (S:FnScope N ps scope) (hd:A.handled=none) (e0:Env0 P w K mg base A outer s H) (hl:vs.length=ps.length) (r:k7 vs us)
 (x:InCallC s s.heap.objs.size (bindL (envOfC qual scope s.heap.objs.size f cd).kindOf (ps.zip us) fun _=>none) (cellsFrom (s.heap.objs.size+1) scope.names []) (bindC (envOfC qual scope s.heap.objs.size f cd).kindOf (ps.zip us) fun _=>none) s1):
 Inv (a7v CX P w K mg base N qual scope f cd A outer s H E) [] (a1j N vs) H s1:=by
 have hpl:ps.length<=N.length:=by have:=congrArg List.length S.pre;rw[aM] at this;omega
 obtain⟨h1,tk,rfl,hk⟩:=x.done
 have noA:∀b:Addr,b∉(a7v CX P w K mg base N qual scope f cd A outer s H E).ex:=fun b z=>absurd (show b∈([]:List Addr) from z) (by simp)
 refine⟨⟨e0.mod,S.kind,rfl,rfl,ai _,fun y z c h1 h2=>?_,fun y hy=>?_,fun y c _ h=>?_,fun _=>hd,Around.frames_deeper e0.frames,.inr ⟨rfl,rfl⟩,fun b z=>absurd z (noA b),e0.bs,e0.bsz,fun b _ _=>noA b,fun b z=>absurd z (noA b),e0.funs,e0.frf⟩,
  rfl,e0.bare,Un.kept hk,⟨_,x.toInCall.ns,fun i y v h1 h2 h3=>?_⟩,fun y c h=>⟨_,x.cell y c h⟩,e0.hok.fresh (ai _),fun y c h=>?_,fun p hp=>absurd (show p∈([]:List (Addr×Obj)) from hp) (by simp),e0.hok.kept hk,?_⟩
 · exact name_of_addr x.apart (PySem.mem_of_lookup h1) (PySem.mem_of_lookup h2)
 · have hy:scope.names.lookup y=some .cell∨scope.names.lookup y=some .free:=hy
   rcases hy with hy|hy
   · exact a6B hy
   · exact absurd rfl (S.nofree _ (PySem.mem_of_lookup hy))
 · exact aU (x.above y c (PySem.mem_of_lookup h))
 · have hi:i<vs.length:=by
    unfold a1j at h2
    by_cases hi:i<vs.length
    · exact hi
    · rw[aq (by simpa using hi)] at h2
      rw[bK] at h2
      split at h2<;>cases h2
   have ha:vs[i]? =some v:=by
    unfold a1j at h2;rw[av (by simpa using hi),aj] at h2
    cases e:vs[i]? with
    |none=>rw[e] at h2;cases h2
    |some a=>rw[e] at h2;cases h2;rfl
   obtain⟨u,hu,rv⟩:=r.get ha
   have hp:ps[i]? =some y:=by
    rw[←S.pre,bJ (by omega)];exact h1
   have ndP:ps.Nodup:=by rw[←S.pre];exact S.nd.sublist (List.take_sublist _ _)
   refine⟨u,rv,?_⟩
   rcases S.par y (aG hp) with k|k
   · exact .inl ⟨k,a4q ndP hp hu k⟩
   · obtain⟨c,e⟩:=a6B (n:=s.heap.objs.size+1) k;refine .inr ⟨.inl k,c,e,?_⟩
     have q:=x.cell y c e;rw[a4s ndP hp hu (by show scope.names.lookup y≠_;rw[k];decide)] at q
     exact q
 · exact e0.hok.fresh (aU (x.above y c (PySem.mem_of_lookup h)))
 · unfold a1j
   show _=N.length
   rw[ap,aa,bu];omega
variable{doc:Value}{pm:Value}{cdv:Value}{ct:Value}{oc:Value}{an:Option Addr}{od:Option Addr}{osl:Array (Option Value)}
theorem b9x{k:Nat}{f:Addr}{name:Str}{params:Arguments}{dV kV:Value}
 (lk:K.lookup f=some ⟨oc,od,.func (PySem.W.fnOf name qual params body scope dV kV doc pm an cdv ct),osl⟩) (hcd:PySem.W.codeIn K cdv qual=true) (S:FnScope N ps scope)
    (len:∀vs H Q E,sp vs H Q E->vs.length=ps.length)
    (hbody:∀(A:Around) (outer:List Env) (s:Shared) (H:Hp) (vs:List V) (Q:VK) (E:XK),Room k (A.deeper (envOfC qual scope s.heap.objs.size f cdv))->sp vs H Q E→
      ∃t,PSs (a7v CX P w K mg base N qual scope f cdv A outer s H E) body t/\t {nx:=fun _ H'=>Q .non H',rt:=Q} (a1j N vs) H):
    FnOk P w K mg base CX (k+1) f (PySem.W.fnOf name qual params body scope dV kV doc pm an cdv ct) ps sp:=by
  refine⟨len,fun A outer s H args us vs Q E hr e0 hb r hsp=>?_⟩
  have hl:=len _ _ _ _ hsp
  have KX:K.In s.heap:=e0.mod.kin.keeps fun b o e=>(e0.bs b o e).1
  have lim:s.heap.NoLimit:=e0.mod.nolimit.keeps fun b o e=>(e0.bs b o e).1
  have hkind:∀y∈ps.zip us,scope.names.lookup y.1=some .local∨(scope.names.lookup y.1=some .cell/\((cellsFrom (s.heap.objs.size+1) scope.names []).lookup y.1).isSome=true):=fun⟨n,v⟩ hy=>by
    rcases S.par n (of_mem_zip hy).1 with q|q
    · exact .inl q
    · exact .inr ⟨q,PySem.W.cellsFrom_some _ _ _ (.inl q)⟩
  refine codeAny_call_function hr.depth (KX _ _ lk) rfl S.co S.gen rfl (PySem.W.codeRec_of KX hcd) (hb _ _ _ _ ?_)
  refine wpAny_newFunctionEnv_cells S.kind hkind fun env he s1 x=>?_
  subst he;refine⟨lim.keeps x.toInCall.keep,codeAny_func ?_⟩
  obtain⟨t,ht,hq⟩:=hbody A outer s H vs Q E (hr.deeper _) hsp
  have I:Inv (a7v CX P w K mg base N qual scope f cdv A outer s H E) [] (a1j N vs) H s1:=a9z S hr.hd e0 hl r x
  refine wpAny_mono (ht [] s1 (a1j N vs) H _ I hq) (fun fl s' hs=>?_) fun e s' hs=>hs
  have fin:∀{σ':St} {H':Hp} {v:V} {u:Value},Inv (a7v CX P w K mg base N qual scope f cdv A outer s H E) [] σ' H' s'->o0 v u->Q v H'->CE outer P w H s Q u s':=
    fun{σ' H' v u} J rv q=>⟨v,H',J.os,J.bare,J.base,J.hok,rv,q⟩
  cases fl with
  | ret u=>
    obtain⟨v,σ',H',J,rv,q⟩:=hs;exact fin J rv q
  | next=>
    obtain⟨σ',H',J,q⟩:=hs;exact fin (v:=V.non) (u:=Value.none) J rfl q
  | brk=>
    obtain⟨_,_,_,q⟩:=hs;exact False.elim q
  | cont=>
    obtain⟨_,_,_,q⟩:=hs;exact False.elim q
section
variable{t:TA}{id T:String}{r:List V->Hp->VK->Prop}
def tCB(r:List V->Hp->VK->Prop)(t:TA):TE:=fun σ H Q=>t σ H fun vs H1=>r vs H1 Q
theorem U7(hc:B8 X (.builtin id) r)(hg:Gl X x)(hm:X.mg x=none)(hv:bootBuiltins x=some (.builtin id))(ha:PA X (e::es) t)(hn:x≠"__name__":=by decide)(hdb:(x==("__debug__":Str))=false:=by decide)
 (he:starEach (e::es) X.env=(false,eval e X.env)::starEach es X.env:=by rfl) (hpl:(backTo pos (starEach es X.env)).any (·.1)=false:=by rfl):PE X (.Call (.Name x p) (e::es) [] pos) (tCB r t):=by
 intro pins s σ H Q I h;refine wpAny_Call_Name_kw (a0f I hg hm hv ?_ hn hdb)
 exact PyProof.Rows.callWith_builtin1 (thn (ha pos pins s σ H _ I h) fun us s1 ⟨vs,H1,I1,r1,q1⟩=>hc pins s1 σ H1 vs us Q I1 r1 q1) he hpl
theorem K8(hc:B8 X (.type T) r)(hg:Gl X x)(hm:X.mg x=none)(hv:bootBuiltins x=some (.type T))(ha:PA X (e::es) t)(hn:x≠"__name__":=by decide)(hdb:(x==("__debug__":Str))=false:=by decide)
 (he:starEach (e::es) X.env=(false,eval e X.env)::starEach es X.env:=by rfl) (hpl:(backTo pos (starEach es X.env)).any (·.1)=false:=by rfl):PE X (.Call (.Name x p) (e::es) [] pos) (tCB r t):=by
 intro pins s σ H Q I h;refine wpAny_Call_Name_kw (a0f I hg hm hv ?_ hn hdb)
 exact PyProof.Rows.callWith_type1 (thn (ha pos pins s σ H _ I h) fun us s1 ⟨vs,H1,I1,r1,q1⟩=>hc pins s1 σ H1 vs us Q I1 r1 q1) he hpl
end
end L2
namespace HT
open PySem PyProof.Rows
variable{b:Addr}{items:Array Value}{Q:Value->Shared->Prop}{sl:Addr}{vl:Value}{vu:Value}{lo:Option Int}{hi:Option Int}
section
variable{prog:Program}{w:World}{A:Around}{E:Value->Shared->Prop}{s:Shared}
noncomputable def sIx(n d:Nat):Option Int->Nat
 |none=>d
 |some v=>if v<0 then(v+(n:Int)).toNat else min v.toNat n
theorem a7P(n d k:Nat):sIx n d (some (k:Int))=min k n:=by
 show(if(k:Int)<0 then((k:Int)+(n:Int)).toNat else min (k:Int).toNat n)=min k n
 rw[az (by omega),Int.toNat_natCast]
end
end HT
namespace L2
open PySem PySem.Spec PyProof.Rows
abbrev TO:=St->Hp->(Option Int->Hp->Prop)->Prop
def PO(X:Cx)(e:Option Expr)(t:TO):Prop:=
 ∀(pins:List (Addr×Obj)) (s:Shared) (σ:St) (H:Hp) (Q:Option Int->Hp->Prop),Inv X pins σ H s->t σ H Q→
  wpAny (model X.prog X.w) X.A (evalPart e X.env) (fun u s'=>∃o H',Inv X pins σ H' s'/\IsPart u o/\Q o H') X.xe s
def b3h:TO:=fun _ H Q=>Q none H
noncomputable def b8l(t:TE):TO:=fun σ H Q=>t σ H fun x H1=>∃i,x=.int i/\Q (some i) H1
variable{ns:List Int}
theorem a3j:∀{us:List Value},k7 (ns.map V.int) us->IntsAre us ns:=by
 induction ns with
 |nil=>intro us r;rw[map_nil] at r;cases r;exact .nil
 | cons n ns ih=>
  intro us r;rw[map_cons] at r
  cases r with
  |cons r1 r2=>
   obtain⟨t,e⟩:=r1;subst e;exact .cons n t (ih r2)
variable{r:V->Option Int->Option Int->Hp->VK->Prop}{us:List Value}
section
variable{X:Cx}{e:Expr}{te:TE}{lo hi:Option Expr}{tl th:TO}{pos p2:Pos}
theorem b3G:PO X none b3h:=by
 intro pins s σ H Q I h;rw[evalPart_none];exact wpAny_pure ⟨none,H,I,.none,h⟩
theorem b3F(h:PE X e te):PO X (some e) (b8l te):=by
 intro pins s σ H Q I hw;rw[evalPart_some];refine thn (h pins s σ H _ I hw) fun u s1 ⟨x,H1,I1,r1,q1⟩=>?_
 obtain⟨i,rfl,q⟩:=q1;obtain⟨t,rfl⟩:=r1;exact⟨some i,H1,I1,.int i t,q⟩
def SlR(X:Cx)(r:V->Option Int->Option Int->Hp->VK->Prop):Prop:=
 ∀(pins:List (Addr×Obj)) (s:Shared) (σ:St) (H:Hp) (x:V) (v vl vu:Value) (lo hi:Option Int) (sl:Addr) (Q:VK),Inv X pins σ H s->o0 x v->s.heap.IsSliceOf sl vl vu .none->IsPart vl lo->IsPart vu hi->r x lo hi H Q→
  ∃T id,typeLookup (.type T) "__getitem__"=pure (some (.builtin id))/\s.TypeIs v T/\wpAny (model X.prog X.w) X.A (getItem v (.ref sl)) (EP X pins σ Q) X.xe s
def tSl(r:V->Option Int->Option Int->Hp->VK->Prop)(te:TE)(tl th:TO):TE:=fun σ H Q=>te σ H fun x H1=>tl σ H1 fun l H2=>th σ H2 fun u H3=>r x l u H3 Q
theorem b1a(hr:SlR X r)(he:PE X e te)(hl:PO X lo tl)(hu:PO X hi th):PE X (.Subscript e (.Slice lo hi none p2) pos) (tSl r te tl th):=by
 intro pins s σ H Q I h;refine Subscript_ (thn (he pins s σ H _ I h) fun v s1 ⟨x,H1,I1,r1,q1⟩=>?_)
 refine wpAny_Slice (thn (hl pins s1 σ H1 _ I1 q1) fun vl s2 ⟨l,H2,I2,pl,q2⟩=>thn (hu pins s2 σ H2 _ I2 q2) fun vu s3 ⟨u,H3,I3,pu,q3⟩=>?_)
 rw[evalPart_none];refine wpAny_pure ?_
 have I4:Inv X pins σ H3 {s3 with heap:=s3.heap.push {cls:=.type "slice",data:=.fields #[vl,vu,.none]}}:=I3.kept (t':=s3.toks) fun b ob q=>Heap.get?_push_of_some _ q
 obtain⟨T,id,hT,ht,hg⟩:=hr pins {s3 with heap:=s3.heap.push {cls:=.type "slice",data:=.fields #[vl,vu,.none]}} σ H3 x v vl vu l u s3.heap.objs.size Q I4 r1 (Heap.IsSliceOf.new ..) pl pu q3
 show wpAny (model X.prog X.w) X.A (subscriptTail e (.Slice lo hi none p2) v (.ref s3.heap.objs.size)) (EP X pins σ Q) X.xe {s3 with heap:=s3.heap.push {cls:=.type "slice",data:=.fields #[vl,vu,.none]}}
 exact tail_any (ops:=[.ref s3.heap.objs.size,v]) ht hT hg (by with_unfolding_all rfl)
def a9L(xs:List V)(lo hi:Option Int):List V:=(xs.drop (HT.sIx xs.length 0 lo)).take (HT.sIx xs.length xs.length hi-HT.sIx xs.length 0 lo)
theorem a6y(xs:List V)(lo hi:Option Int):(a9L xs lo hi).length<=xs.length:=by
 unfold a9L;rw[aM,bH];omega
end
noncomputable def ixN(n:Nat)(i:Int):Option Nat:=if 0<=i then(if i<n then some i.toNat else none) else if-(n:Int)<=i then some (i+n).toNat else none
def atI{α:Type}(xs:List α)(i:Int):Option α:=(ixN xs.length i).bind fun j=>xs[j]?
variable{n:Nat}{j:Nat}
theorem a8j{i:Int}(h:ixN n i=some j):seqIndex? i n=some j/\j<n/\ -(n:Int)<=i/\i<n:=by
 unfold ixN at h
 by_cases h0:0<=i
 · rw[ay h0] at h
   by_cases h1:i<n
   · rw[ay h1] at h
     have e:i.toNat=j:=ax h
     exact⟨by rw[seqIndex_of h0 h1,e],by omega,by omega,h1⟩
   · rw[az h1] at h;cases h
 · rw[az h0] at h
   by_cases h1: -(n:Int)<=i
   · rw[ay h1] at h
     have e:(i+n).toNat=j:=ax h
     exact⟨by rw[seqIndex_neg (by omega) h1,e],by omega,h1,by omega⟩
   · rw[az h1] at h;cases h
variable{α:Type}
theorem a5y{xs:List α}{i:Int}{v:α}(h:atI xs i=some v):∃j,seqIndex? i xs.length=some j/\xs[j]? =some v/\j<xs.length/\ -(xs.length:Int)<=i/\i<xs.length:=by
 unfold atI at h
 cases e:ixN xs.length i with
 |none=>rw[e] at h;cases h
 |some j=>
  rw[e] at h;obtain⟨h1,h2,h3,h4⟩:=a8j e;exact⟨j,h1,h,h2,h3,h4⟩
def a2C(b:Expr):Prop:=∀o i,subscripted b false o i=operate [o,i] (getItem o i)
def IxR(X:Cx)(r:R2):Prop:=
 ∀(value slice:Expr) (pins:List (Addr×Obj)) (s:Shared) (σ:St) (H:Hp) (x y:V) (v u:Value) (Q:VK),Inv X pins σ H s->o0 x v->o0 y u->r x y H Q→
  subscripted slice false v u=operate [v,u] (getItem v u)->wpAny (model X.prog X.w) X.A (subscriptTail value slice v u) (EP X pins σ Q) X.xe s
def MtR(X:Cx)(id:String)(r:V->List V->Hp->VK->Prop):Prop:=
 ∀(pins:List (Addr×Obj)) (s:Shared) (σ:St) (H:Hp) (x:V) (xs:List V) (v:Value) (us:List Value) (Q:VK),Inv X pins σ H s->o0 x v->k7 xs us->r x xs H Q→
  wpAny (model X.prog X.w) X.A (call (.builtin id) (v::us)) (EP X pins σ Q) X.xe s
variable{id:String}{pins:List (Addr×Obj)}{σ:St}{H:Hp}{s:Shared}{ys:List V}{its:List Value}{its':List Value}{A:Around}{y:V}{u:Value}
section
variable{X:Cx}{a b:Expr}{ta tb:TE}{pos:Pos}
theorem b5o{r:R2}(hr:IxR X r)(ha:PE X a ta)(hb:PE X b tb)(hs:a2C b):PE X (.Subscript a b pos) (tOp r ta tb):=by
 intro pins s σ H Q I h;exact Subscript_ (b7F ha hb I h fun v u s2 x y H2 I2 rx ry q=>hr a b pins s2 σ H2 x y v u Q I2 rx ry q (hs _ _))
noncomputable def c1e(K:PySem.W.Frag):R2:=fun x y H Q=>∃p xs i v,x=.ref p/\y=.int i/\SqL K H p xs/\atI xs i=some v/\Q v H
noncomputable def c1c(K:PySem.W.Frag):R2:=fun x y H Q=>∃p xs i v,x=.ref p/\y=.int i/\SqT K H p xs/\atI xs i=some v/\Q v H
noncomputable def c1d:R2:=fun x y H Q=>∃z i c,x=.str z/\y=.int i/\z.length<=sizeLine/\atI z.cps.toList i=some c/\Q (.str ⟨#[c]⟩) H
theorem a8i:IxR X (c1e X.K):=by
 intro value slice pins s σ H x y v u Q I rx ry h hs;obtain⟨p,xs,i,z,rfl,rfl,hq,he,q⟩:=h;cases rx;obtain⟨t,rfl⟩:=ry;obtain⟨its,r,pl,hz⟩:=I.list hq;obtain⟨j,h1,h2,h3,h4,h5⟩:=a5y he;obtain⟨w,ew,rw'⟩:=r.get h2;have hl:=r.length;have hn:=a0V
 have fin:EP X pins σ Q w s:=⟨z,H,I,rw',q⟩
 by_cases h0:0<=i
 · have hj:i.toNat=j:=by
    rw[seqIndex_of h0 h5] at h1;exact ax h1
   exact item_listR pl.isList h0 (by omega) (by rw[hj];simpa using ew) fin hs
 · have hj:(i+(its.toArray.size:Int)).toNat=j:=by
    rw[seqIndex_neg (by omega) h4] at h1
    rw[size_toArray,←hl];exact ax h1
   exact subscriptTail_builtinR (x:=w) pl.isList.typeIs slot_list_getitem.lookup
    (wpAny_getItem_list_neg (Q:=fun r s'=>r=w/\EP X pins σ Q r s') pl.isList (by omega) (by rw[size_toArray]<;>omega) (by omega) (by rw[hj];simpa using ew) ⟨rfl,fin⟩) hs
theorem ix_tup:IxR X (c1c X.K):=by
 intro value slice pins s σ H x y v u Q I rx ry h hs;obtain⟨p,xs,i,z,rfl,rfl,hq,he,q⟩:=h;cases rx;obtain⟨t,rfl⟩:=ry;obtain⟨its,r,pl,hz⟩:=I.tuple hq;obtain⟨j,h1,h2,h3,h4,h5⟩:=a5y he;obtain⟨w,ew,rw'⟩:=r.get h2;have hl:=r.length;have hn:=a0V
 have fin:EP X pins σ Q w s:=⟨z,H,I,rw',q⟩
 exact subscriptTail_builtinR (x:=w) pl.typeIs slot_tuple_getitem.lookup
  (getItem_tuple (j:=j) (Q:=fun r s'=>r=w/\EP X pins σ Q r s') pl (by omega) (by omega) (by rw[size_toArray,←hl];exact h1) (by simpa using ew) ⟨rfl,fin⟩) hs
theorem ix_str:IxR X c1d:=by
 intro value slice pins s σ H x y v u Q I rx ry h hs;obtain⟨z,i,c,rfl,rfl,hz,he,q⟩:=h;obtain⟨t,rfl⟩:=rx;obtain⟨t',rfl⟩:=ry;obtain⟨j,h1,h2,h3,h4,h5⟩:=a5y he
 have hl:z.cps.toList.length=z.length:=by simp[Str.length]
 rw[hl] at h1 h4 h5;have hn:=a0V
 exact tail_any (typeIs_str s z t) slot_str_getitem.lookup (getItem_str (c:=c) (by
  have e1:decide (i< -(2^63:Int))=false:=bF (by omega)
  have e2:decide (i≥2^63)=false:=bF (by omega)
  rw[e1,e2,Bool.or_false]) (by rw[h1];simpa using h2) ⟨.str ⟨#[c]⟩,H,I.tok _,⟨_,rfl⟩,q⟩) hs
theorem a7g(its:List Value)(n j:Nat)(u:Value):Obj.mapSeq (·.setIfInBounds j u) {cls:=.type "list",data:=.seq its.toArray n}={cls:=.type "list",data:=.seq (its.set j u).toArray n}:=by
 simp[Obj.mapSeq]
theorem Inv.lst{pins:List (Addr×Obj)}{σ:St}{H:Hp}{s:Shared}{p:Addr}{xs:List V}(I:Inv X pins σ H s)(h:H p=some (.lst xs)):
 ∃(its:List Value) (n:Nat),k7 xs its/\s.heap.get? p=some {cls:=.type "list",data:=.seq its.toArray n}/\xs.length<=sizeLine:=by
 obtain⟨z,its,n,r,e⟩:=I.hok p _ h;exact⟨its,n,r,e,z⟩
theorem Inv.lstUpd{p:Addr}{xs:List V}{n':Nat}{f:Obj->Obj}(I:Inv X pins σ H s)(h:H p=some (.lst xs))
 (ho:s.heap.get? p=some {cls:=.type "list",data:=.seq its.toArray n}) (hf:f {cls:=.type "list",data:=.seq its.toArray n}={cls:=.type "list",data:=.seq its'.toArray n'}) (r:k7 ys its') (hz:ys.length<=sizeLine) (t:Nat):
 Inv X pins σ (upd H p (.lst ys)) {s with heap:=s.heap.update p f,toks:=t}:=by
 have e:(s.heap.update p f).get? p=some {cls:=.type "list",data:=.seq its'.toArray n'}:=by
  rw[Heap.get?_update_self f ho (by rw[hf]<;>rfl),hf]
 refine I.write (x:=p) (e:=p) (by rw[h];trivial) (.inl rfl) (fun b u hb q=>(Heap.get?_update_other _ _ (Ne.symm hb)).trans q) ⟨_,e⟩ ?_
 exact⟨hz,its',n',r,e⟩
def b8F:V->V->V->Hp->(Hp->Prop)->Prop:=fun o i v H Q=>∃p xs k j,o=.ref p/\i=.int k/\H p=some (.lst xs)/\ixN xs.length k=some j/\Q (upd H p (.lst (xs.set j v)))
theorem b0r:b8c X b8F:=by
 intro pins s σ H o i v ov iv u Q I ro ri rv h;obtain⟨p,xs,k,j,rfl,rfl,hp,hj,q⟩:=h;cases ro;obtain⟨t,rfl⟩:=ri;obtain⟨its,n,r,ho,hz⟩:=I.lst hp;obtain⟨h1,h2,h3,h4⟩:=a8j hj;have hl:=r.length;have hn:=a0V
 have I':Inv X pins σ (upd H p (.lst (xs.set j v))) {s with heap:=s.heap.update p (Obj.mapSeq (·.setIfInBounds j u))}:=
  I.lstUpd hp ho (a7g its n j u) (r.set rv j) (by rw[List.length_set];exact hz) s.toks
 by_cases h0:0<=k
 · have hk:k.toNat=j:=by
    rw[seqIndex_of h0 h4] at h1;exact ax h1
   exact PySem.W.ki_setAt ho h0 (by omega) (by rw[size_toArray,←hl];exact h4) (by rw[hk];exact⟨_,I',q⟩)
 · have hk:(k+(its.toArray.size:Int)).toNat=j:=by
    rw[seqIndex_neg (by omega) h3] at h1
    rw[size_toArray,←hl];exact ax h1
   exact PySem.W.ki_setBack ho (by omega) (by rw[size_toArray,←hl];exact h3) (by omega) (by rw[hk];exact⟨_,I',q⟩)
theorem a4D(lo hi:Option Int)(n:Nat):(sliceBounds lo hi none n).1=((HT.sIx n 0 lo:Nat):Int)/\(sliceBounds lo hi none n).2.1=((HT.sIx n n hi:Nat):Int)/\(sliceBounds lo hi none n).2.2=1:=by
 refine⟨?_,?_,rfl⟩
 · cases lo with
   |none=>simp[sliceBounds,HT.sIx]
   |some i=>
    simp only[sliceBounds,HT.sIx,Option.getD_none,show(1:Int)>0 by decide,if_true]
    by_cases h:i<0
    · simp only[h,if_true]<;>omega
    · simp only[h,if_false]<;>omega
 · cases hi with
   |none=>simp[sliceBounds,HT.sIx]
   |some i=>
    simp only[sliceBounds,HT.sIx,Option.getD_none,show(1:Int)>0 by decide,if_true]
    by_cases h:i<0
    · simp only[h,if_true]<;>omega
    · simp only[h,if_false]<;>omega
theorem a3C(its:List Value)(lo hi:Option Int):slicePick its.toArray lo hi none=((its.drop (HT.sIx its.length 0 lo)).take (HT.sIx its.length its.length hi-HT.sIx its.length 0 lo)).toArray:=by
 obtain⟨h1,h2,h3⟩:=a4D lo hi its.toArray.size;unfold slicePick;rw[h1,h2,h3];simp only[sliceRange_one,pick_run,size_toArray]<;>rfl
def c1a(K:PySem.W.Frag):V->Option Int->Option Int->Hp->VK->Prop:=fun x lo hi H Q=>∃a xs,x=.ref a/\SqL K H a xs/\∀p,H p=none->Q (.ref p) (upd H p (.lst (a9L xs lo hi)))
theorem b3o:SlR X (c1a X.K):=by
 intro pins s σ H x v vl vu lo hi sl Q I rx hs pl pu h;obtain⟨a,xs,rfl,hx,q⟩:=h;cases rx;obtain⟨its,r,ht,hz⟩:=I.list hx;have hlen:=r.length;refine⟨"list",_,slot_list_getitem.lookup,ht.isList.typeIs,?_⟩
 refine wpAny_getItem_list_slice ht.isList hs pl pu .none (by simp) ?_ (by rw[size_toArray]<;>omega)
 rw[a3C,←hlen];refine⟨.ref s.heap.objs.size,_,I.laid (t':=s.toks) (o:=.lst (a9L xs lo hi)) (fun b ob q=>Heap.get?_push_of_some _ q) (ai _) ?_,rfl,q _ (I.hok.fresh (ai _))⟩
 exact⟨aR (a6y xs lo hi) hz,_,0,(r.drop (HT.sIx xs.length 0 lo)).take (HT.sIx xs.length xs.length hi-HT.sIx xs.length 0 lo),Heap.get?_push_size _ rfl⟩
noncomputable def L9:V->Bool
 |.non=>true
 |.bl _=>true
 |.int _=>true
 |.str _=>true
 |_=>false
noncomputable def eqV:V->V->Bool
 |.non,.non=>true
 |.bl a,.bl b=>a==b
 |.bl a,.int b=>(if a then 1 else 0)==b
 |.int a,.bl b=>a==(if b then 1 else 0)
 |.int a,.int b=>a==b
 |.str a,.str b=>a==b
 |_,_=>false
theorem b2t{x:V}{v:Value}(ry:o0 y u)(rx:o0 x v)(fy:L9 y=true)(fx:L9 x=true):SeqAt.EqAt A s u v (eqV y x):=by
 cases y with
 |non=>
  cases ry
  cases x with
  |non=>cases rx;exact SeqAt.EqAt.same _
  |bl b=>cases rx;exact SeqAt.EqAt.none_bool b
  |int b=>obtain⟨t,rfl⟩:=rx;exact SeqAt.EqAt.none_int b t
  |str b=>obtain⟨t,rfl⟩:=rx;exact SeqAt.EqAt.none_str b t
  |_=>exact absurd (show false=true from fx) bx
 |bl a=>
  cases ry
  cases x with
  |non=>cases rx;exact SeqAt.EqAt.bool_none a
  |bl b=>cases rx;exact SeqAt.EqAt.bool_bool a b
  |int b=>obtain⟨t,rfl⟩:=rx;exact SeqAt.EqAt.bool_int a b t
  |str b=>obtain⟨t,rfl⟩:=rx;exact SeqAt.EqAt.bool_str a b t
  |_=>exact absurd (show false=true from fx) bx
 |int a=>
  obtain⟨t',rfl⟩:=ry
  cases x with
  |non=>cases rx;exact SeqAt.EqAt.int_none a t'
  |bl b=>cases rx;exact SeqAt.EqAt.int_bool a t' b
  |int b=>obtain⟨t,rfl⟩:=rx;exact SeqAt.EqAt.int_int a t' b t
  |str b=>obtain⟨t,rfl⟩:=rx;exact SeqAt.EqAt.int_str a t' b t
  |_=>exact absurd (show false=true from fx) bx
 |str a=>
  obtain⟨t',rfl⟩:=ry
  cases x with
  |non=>cases rx;exact SeqAt.EqAt.str_none a t'
  |bl b=>cases rx;exact SeqAt.EqAt.str_bool a t' b
  |int b=>obtain⟨t,rfl⟩:=rx;exact SeqAt.EqAt.str_int a t' b t
  |str b=>obtain⟨t,rfl⟩:=rx;exact SeqAt.EqAt.str_str a t' b t
  |_=>exact absurd (show false=true from fx) bx
 |_=>exact absurd (show false=true from fy) bx
def eqU(x:V)(u:Value):Bool:=match u with
 |.none=>eqV .non x
 |.bool b=>eqV (.bl b) x
 |.int i _=>eqV (.int i) x
 |.str z _=>eqV (.str z) x
 |_=>false
theorem b2q{x:V}(r:o0 y u)(f:L9 y=true):eqU x u=eqV y x:=by
 cases y with
 |non=>cases r;rfl
 |bl b=>cases r;rfl
 |int i=>obtain⟨t,rfl⟩:=r;rfl
 |str z=>obtain⟨t,rfl⟩:=r;rfl
 |_=>exact absurd (show false=true from f) bx
theorem a1D{x:V}:∀{xs:List V} {us:List Value},k7 xs us->xs.all L9=true->us.any (eqU x)=xs.any fun y=>eqV y x
 |_,_,.nil,_=>rfl
 |y::xs,u::us,.cons r t,f=>by
  rw[all_cons,ae] at f;rw[any_cons,any_cons,b2q r f.1,a1D t f.2]
theorem a0d{A:Around}{s:Shared}{x:V}{v:Value}(rx:o0 x v)(fx:L9 x=true):∀{xs:List V} {us:List Value},k7 xs us->xs.all L9=true->∀u∈us,SeqAt.EqAt A s u v (eqU x u)
 |_,_,.nil,_=>fun u hu=>by cases hu
 |y::xs,u::us,.cons r t,f=>fun u' hu=>by
  rw[all_cons,ae] at f
  rcases aE.mp hu with rfl|hu
  · rw[b2q r f.1];exact b2t r rx f.1 fx
  · exact a0d rx fx t f.2 u' hu
def inV(x:V)(xs:List V):Bool:=xs.any fun y=>eqV y x
def rIn(K:PySem.W.Frag)(neg:Bool):R2:=fun x y H Q=>∃p xs,y=.ref p/\(SqL K H p xs∨SqT K H p xs)/\L9 x=true/\xs.all L9=true/\Q (.bl (if neg then !inV x xs else inV x xs)) H
theorem a0z:OpR X (compareOp .In) (rIn X.K false):=by
 intro pins s σ H x y v u Q I rx ry h;obtain⟨p,xs,rfl,hq,fx,fs,q⟩:=h;cases ry
 rcases hq with hq|hq
 · obtain⟨its,r,pl,hz⟩:=I.list hq;refine SeqAt.in_listAt (eqU x) pl.isList (fun w hw=>a0d rx fx r fs w (by simpa using hw)) ⟨.bl _,H,I,rfl,?_⟩
   rw[show its.toArray.any (eqU x)=its.any (eqU x) by simp,a1D r fs]
   exact q
 · obtain⟨its,r,pl,hz⟩:=I.tuple hq;refine SeqAt.in_tupleAt (eqU x) pl (fun w hw=>a0d rx fx r fs w (by simpa using hw)) ⟨.bl _,H,I,rfl,?_⟩
   rw[show its.toArray.any (eqU x)=its.any (eqU x) by simp,a1D r fs]
   exact q
theorem N3:OpR X (compareOp .NotIn) (rIn X.K true):=by
 intro pins s σ H x y v u Q I rx ry h;obtain⟨p,xs,rfl,hq,fx,fs,q⟩:=h;cases ry
 rcases hq with hq|hq
 · obtain⟨its,r,pl,hz⟩:=I.list hq;refine SeqAt.notIn_listAt (eqU x) pl.isList (fun w hw=>a0d rx fx r fs w (by simpa using hw)) ⟨.bl _,H,I,rfl,?_⟩
   rw[show its.toArray.any (eqU x)=its.any (eqU x) by simp,a1D r fs]
   exact q
 · obtain⟨its,r,pl,hz⟩:=I.tuple hq;refine SeqAt.notIn_tupleAt (eqU x) pl (fun w hw=>a0d rx fx r fs w (by simpa using hw)) ⟨.bl _,H,I,rfl,?_⟩
   rw[show its.toArray.any (eqU x)=its.any (eqU x) by simp,a1D r fs]
   exact q
theorem a4O:OpR X (compareOp .NotIn) (fun x y H Q=>∃i j,x=.str i/\y=.str j/\Q (.bl (!(!(Builtin.Str.occurrences j i 0 j.length 1).isEmpty))) H):=by
 intro pins s σ H x y v u Q I rx ry h;obtain⟨i,j,rfl,rfl,q⟩:=h;obtain⟨t,rfl⟩:=rx;obtain⟨t',rfl⟩:=ry;exact notIn_str ⟨.bl _,H,I,rfl,q⟩
theorem a1C:B8 X (.builtin "len") (fun xs H Q=>∃p ys,xs=[.ref p]/\(SqL X.K H p ys∨SqT X.K H p ys)/\Q (.int ys.length) H):=by
 intro pins s σ H xs us Q I r h;obtain⟨p,ys,rfl,hq,q⟩:=h;obtain⟨u,rfl,rx⟩:=M9 r;cases rx;have hn:=a0V
 rcases hq with hq|hq
 · obtain⟨its,r',pl,hz⟩:=I.list hq;have hlen:=r'.length;exact Calls.call_len_list pl.isList (by simp only[size_toArray]<;>omega) ⟨.int ys.length,H,I.tok _,⟨s.toks+1,by rw[size_toArray,hlen]⟩,q⟩
 · obtain⟨its,r',pl,hz⟩:=I.tuple hq;have hlen:=r'.length;exact len_tuple pl (by simp only[size_toArray]<;>omega) ⟨.int ys.length,H,I.tok _,⟨s.toks+1,by rw[size_toArray,hlen]⟩,q⟩
theorem a5u:B8 X (.builtin "len") (fun xs H Q=>∃z,xs=[.str z]/\z.length<=sizeLine/\Q (.int z.length) H):=by
 intro pins s σ H xs us Q I r h;obtain⟨z,rfl,hz,q⟩:=h;obtain⟨u,rfl,t,rfl⟩:=M9 r;have hn:=a0V;exact len_str (by omega) ⟨.int z.length,H,I.tok _,⟨_,rfl⟩,q⟩
theorem a1B:B8 X (.type "list") (fun xs H Q=>∃p ys,xs=[.ref p]/\(SqL X.K H p ys∨SqT X.K H p ys)/\∀l,H l=none->Q (.ref l) (upd H l (.lst ys))):=by
 intro pins s σ H xs us Q I r h;obtain⟨p,ys,rfl,hq,q⟩:=h;obtain⟨u,rfl,rx⟩:=M9 r;cases rx
 have fin:∀(its:List Value),k7 ys its->ys.length<=sizeLine->∀(h':Heap) (c':Nat),(∀b o',s.heap.get? b=some o'->h'.get? b=some o')→
  h'.get? s.heap.objs.size=some {cls:=.type "list",dict:=none,data:=.seq its.toArray c',slots:= #[]}->EP X pins σ Q (.ref s.heap.objs.size) {s with heap:=h'}:=fun its r' hz h' c' kp e=>
  ⟨.ref s.heap.objs.size,_,I.laid (t':=s.toks) kp (ai _) (show C2 X.prog X.w _ h' _ (.lst ys) from⟨hz,its,c',r',e⟩),rfl,q _ (I.hok.fresh (ai _))⟩
 rcases hq with hq|hq
 · obtain⟨its,r',pl,hz⟩:=I.list hq;have hlen:=r'.length;obtain⟨o,ho,hc,n,hd⟩:=pl.isList;exact call_list_seq p (.inl rfl) ho hc hd (fun h' c' kp e=>fin its r' hz h' c' kp e) (by simp only[size_toArray]<;>omega)
 · obtain⟨its,r',pl,hz⟩:=I.tuple hq;have hlen:=r'.length;obtain⟨o,ho,hc,n,hd⟩:=pl;exact call_list_seq p (.inr rfl) ho hc hd (fun h' c' kp e=>fin its r' hz h' c' kp e) (by simp only[size_toArray]<;>omega)
theorem a0P:B8 X (.type "tuple") (fun xs H Q=>∃p ys,xs=[.ref p]/\((SqL X.K H p ys/\∀l,H l=none->Q (.ref l) (upd H l (.tup ys)))∨(SqT X.K H p ys/\Q (.ref p) H))):=by
 intro pins s σ H xs us Q I r h;obtain⟨p,ys,rfl,h⟩:=h;obtain⟨u,rfl,rx⟩:=M9 r;cases rx
 rcases h with⟨hq,q⟩|⟨hq,q⟩
 · obtain⟨its,r',pl,hz⟩:=I.list hq;have hlen:=r'.length;refine call_tuple_list pl.isList (fun h' kp=>?_) (by simp only[size_toArray]<;>omega)
   have I1:Inv X pins σ H {s with heap:=h'}:=I.kept (t':=s.toks) kp
   have I2:Inv X pins σ (upd H h'.objs.size (.tup ys)) {s with heap:=h'.push {cls:=.type "tuple",data:=.seq its.toArray}}:=
    I1.laid (t':=s.toks) (fun b o e=>Heap.get?_push_of_some _ e) (ai _) (show C2 X.prog X.w _ _ _ (.tup ys) from⟨hz,its,r',a1h.new _ _⟩)
   exact⟨.ref h'.objs.size,_,I2,rfl,q _ (I1.hok.fresh (ai _))⟩
 · obtain⟨its,r',pl,hz⟩:=I.tuple hq;exact call_tuple_same pl ⟨.ref p,H,I,rfl,q⟩
def tyV(K:PySem.W.Frag)(T:String)(x:V)(H:Hp):Prop:=match x with
 |.str _=>T="str"
 |.int _=>T="int"
 |.ref p=>(T="list"/\∃xs,SqL K H p xs)∨(T="tuple"/\∃o,K.lookup p=some o/\o.cls=.type "tuple"/\o.dict=none)∨
  (T="dict"/\((∃kvs,H p=some (.dK kvs))∨∃kvs,H p=some (.dT kvs)))∨(T="set"/\∃S n,H p=some (.set S n))
 |_=>False
theorem a9W{T:String}{x:V}{v:Value}(I:Inv X pins σ H s)(r:o0 x v)(ty:tyV X.K T x H):
 s.TypeIs v T/\∀a,v=.ref a->∃ob,s.heap.get? a=some ob/\ob.dict=none:=by
 cases x with
 |str z=>
  obtain⟨t,rfl⟩:=r
  cases (show T="str" from ty)
  exact⟨typeIs_str s z t,fun _ e=>nomatch e⟩
 |int i=>
  obtain⟨t,rfl⟩:=r
  cases (show T="int" from ty)
  exact⟨typeIs_int s i t,fun _ e=>nomatch e⟩
 |ref p=>
  cases r
  rcases ty with⟨rfl,xs,hq⟩|⟨rfl,o,hk,hc,hd⟩|⟨rfl,hk⟩|⟨rfl,S,n,hk⟩
  · obtain⟨its,_,pl,_⟩:=I.list hq;refine⟨pl.isList.typeIs,fun a e=>?_⟩
    cases e;obtain⟨o,n,e,c,hd,_⟩:=pl;exact⟨o,e,hd⟩
  · refine⟨⟨o,I.kIn p o hk,hc⟩,fun a e=>?_⟩
    cases e;exact⟨o,I.kIn _ o hk,hd⟩
  · have z:∃o,s.heap.get? p=some o/\o.ExactDict:=by
     rcases hk with⟨kvs,hk⟩|⟨kvs,hk⟩
     · obtain⟨_,_,_,_,o,_,_,e,ex,_⟩:=I.hok p _ hk;exact⟨o,e,ex⟩
     · obtain⟨_,_,_,_,o,_,_,e,ex,_⟩:=I.hok p _ hk;exact⟨o,e,ex⟩
    obtain⟨o,e,ex⟩:=z;refine⟨⟨o,e,ex.1⟩,fun a e2=>?_⟩
    cases e2;exact⟨o,e,ex.2.1⟩
  · obtain⟨o,_,_,_,e,ex,_⟩:=I.hok p _ hk;refine⟨⟨o,e,ex.1⟩,fun a e2=>?_⟩
    cases e2;exact⟨o,e,ex.2.1⟩
 |_=>exact False.elim ty
def c0V(K:PySem.W.Frag)(T:String)(r:V->List V->Hp->VK->Prop)(to:TE):TE:=fun σ H Q=>to σ H fun x H1=>tyV K T x H1/\r x [] H1 Q
def tBM(K:PySem.W.Frag)(T:String)(r:V->List V->Hp->VK->Prop)(to:TE)(t:TA):TE:=fun σ H Q=>to σ H fun x H1=>tyV K T x H1/\t σ H1 fun xs H2=>r x xs H2 Q
variable{o e:Expr}{es:List Expr}{to:TE}{t:TA}{name:Str}{apos cpos:Pos}{T:String}{r:V->List V->Hp->VK->Prop}
theorem b6o(pa:PlainAttrs T)(slot:Slot T name id)(hty:typeOf (.builtin id)=pure (.type "method_descriptor"))(hm:MtR X id r)(ho:PE X o to)
 (hbase:attributeBase o name X.env (eval o X.env)=eval o X.env:=by rfl) (hline:(apos.endLine==cpos.line)=true:=by rfl):PE X (.Call (.Attribute o name apos) [] [] cpos) (c0V X.K T r to):=by
 intro pins s σ H Q I h;refine wpAny_Call_method0_late hbase hline (thn (ho pins s σ H _ I h) fun v s1 ⟨x,H1,I1,r1,ty,q1⟩=>?_)
 obtain⟨h1,h2⟩:=a9W I1 r1 ty;exact⟨T,id,pa,slot,hty,h1,h2,Calls.callWith_builtin rfl (PySem.evalArgs_none (hm pins s1 σ H1 x [] v [] Q I1 r1 .nil q1))⟩
theorem a6b(pa:PlainAttrs T)(slot:Slot T name id)(hty:typeOf (.builtin id)=pure (.type "method_descriptor"))(hm:MtR X id r)(ho:PE X o to)(ha:PA X (e::es) t)
 (hbase:attributeBase o name X.env (eval o X.env)=eval o X.env:=by rfl)
 (hfew:((backTo cpos (starEach (e::es) X.env)).all (fun x=>!x.1)&&(backToKw cpos (keywordEach [] X.env)).all (fun x=>x.1.isSome)
  &&decide ((e::es).length+([]:List Keyword).length+(if([]:List Keyword).isEmpty then 0 else 1)<30))=true:=by rfl)
 (hline:(apos.endLine==cpos.line)=true:=by rfl) (hs:starEach (e::es) X.env=(false,eval e X.env)::starEach es X.env:=by rfl) (hplain:(backTo cpos (starEach es X.env)).any (·.1)=false:=by rfl):
 PE X (.Call (.Attribute o name apos) (e::es) [] cpos) (tBM X.K T r to t):=by
 intro pins s σ H Q I h;refine wpAny_Call_method_late hbase hfew hline rfl (thn (ho pins s σ H _ I h) fun v s1 ⟨x,H1,I1,r1,ty,q1⟩=>?_)
 obtain⟨h1,h2⟩:=a9W I1 r1 ty;refine⟨T,id,pa,slot,hty,h1,h2,?_⟩
 have hA:=ha cpos pins s1 σ H1 _ I1 q1;rw[hs] at hA⊢;refine Calls.callWith_builtin (by show(false||(backTo cpos (starEach es X.env)).any (·.1))=false;rw[hplain]<;>rfl) (Calls.evalArgs_plain ?_)
 exact thn hA fun us s2 ⟨vs,H2,I2,r2,q2⟩=>hm pins s2 σ H2 x vs v us Q I2 r1 r2 q2
end
def MtM(X:Cx)(id:String)(r:V->List V->Hp->VK->Prop):Prop:=
 ∀(pins:List (Addr×Obj)) (s:Shared) (σ:St) (H:Hp) (x:V) (xs:List V) (v:Value) (us:List Value) (Q:VK),Inv X pins σ H s->o0 x v->k7 xs us->r x xs H Q→
  wpAny (model X.prog X.w) X.A (call (.builtin id) (v::us)) (EP X pins σ Q) X.xe s
theorem k7.one:∀{x:V} {us:List Value},k7 [x] us->∃u,us=[u]/\o0 x u
 |_,_,.cons r .nil=>⟨_,rfl,r⟩
theorem k7.zero:∀{us:List Value},k7 [] us->us=[]
 |_,.nil=>rfl
theorem k7.reverse{xs:List V}(h:k7 xs us):k7 xs.reverse us.reverse:=by
 induction h with
 |nil=>exact .nil
 |cons r t ih=>rw[reverse_cons,reverse_cons];exact k7.append ih (.cons r .nil)
theorem k7.rep{xs:List V}{us:List Value}(h:k7 xs us):∀k:Nat,k7 (List.replicate k xs).flatten (List.replicate k us).flatten
 |0=>.nil
 |k+1=>by
  rw[replicate_succ,replicate_succ,flatten_cons,flatten_cons];exact k7.append h (k7.rep h k)
theorem a4d(its:List Value):∀(k:Nat) (acc:List Value),
 List.foldl (fun x1 x2=>x1++x2) acc.toArray (List.replicate k its.toArray)=(acc++(List.replicate k its).flatten).toArray
 |0,acc=>by simp
 | k+1,acc=>by
  have e:acc.toArray++its.toArray=(acc++its).toArray:=by simp
  have e2:(acc++its)++(List.replicate k its).flatten=acc++(List.replicate (k+1) its).flatten:=by
   rw[replicate_succ,flatten_cons,aA]
  rw[←e2,←a4d its k (acc++its),←e,replicate_succ,foldl_cons]
section
variable{X:Cx}{l b:Addr}{xs zs:List V}
theorem Inv.lset{f:Array Value->Array Value}{t':Nat}(I:Inv X pins σ H s)(hH:H l=some (.lst xs))
 (e:s.heap.get? l=some {cls:=.type "list",data:=.seq its.toArray n}) (hf:f its.toArray=its'.toArray) (hv:k7 ys its') (hz:ys.length<=sizeLine):
 Inv X pins σ (upd H l (.lst ys)) {s with heap:=s.heap.update l (Obj.mapSeq f),toks:=t'}:=by
 have q:=PySem.IsL.update e f;rw[hf] at q;refine I.write (x:=l) (e:=l) (by rw[hH];exact trivial) (.inl rfl) (fun b' u hb hu=>(Heap.get?_update_other s.heap (Obj.mapSeq f) (Ne.symm hb)).trans hu) ⟨_,q⟩ ?_
 exact⟨hz,its',_,hv,q⟩
theorem Inv.lnew{t':Nat}(I:Inv X pins σ H s)(hv:k7 ys its)(hz:ys.length<=sizeLine):
 Inv X pins σ (upd H s.heap.objs.size (.lst ys)) {s with heap:=s.heap.push {cls:=.type "list",data:=.seq its.toArray},toks:=t'}:=
 I.laid (fun _ _ q=>Heap.get?_push_of_some _ q) (ai _) ⟨hz,its,0,hv,Heap.get?_push_size _ rfl⟩
theorem Inv.fresh(I:Inv X pins σ H s):H s.heap.objs.size=none:=I.hok.fresh (ai _)
theorem Inv.lstM(I:Inv X pins σ H s)(hH:H l=some (.lst xs)):xs.length<=sizeLine/\∃(its:List Value) (n:Nat),k7 xs its/\xs.length=its.length/\s.heap.get? l=some {cls:=.type "list",data:=.seq its.toArray n}:=by
 obtain⟨z,its,n,r,e⟩:=I.hok l _ hH;exact⟨z,its,n,r,r.length,e⟩
theorem a6d(h:n<=sizeLine):Builtin.List.listTooLong n=false:=by
 unfold Builtin.List.listTooLong;exact bF (by omega)
end
section
variable{X:Cx}
def b3y:V->List V->Hp->VK->Prop:=fun x vs H Q=>∃l xs y,x=.ref l/\vs=[y]/\H l=some (.lst xs)/\xs.length<sizeLine/\Q .non (upd H l (.lst (xs++[y])))
theorem a3Y:MtM X "list.append" b3y:=by
 intro pins s σ H x vs v us Q I rx rv h;obtain⟨l,xs,y,rfl,rfl,hH,hz,q⟩:=h;cases rx;obtain⟨u,rfl,ru⟩:=rv.one;obtain⟨z,its,n,r,hl,e⟩:=I.lstM hH;refine call_meets F.slot_list_append ⟨_,e,rfl⟩ F.entry_list_append (F.args_list_append_2 _ _) (PySem.list_append l its.toArray n u (by rw[size_toArray];omega)) ⟨e,?_⟩
 refine⟨.non,_,I.lset (its':=its++[u]) hH e (by simp) (r.append (.cons ru .nil)) ?_,rfl,q⟩
 rw[ap,List.length_singleton];omega
def b3x:V->List V->Hp->VK->Prop:=fun x vs H Q=>∃l b xs zs,x=.ref l/\vs=[.ref b]/\H l=some (.lst xs)/\H b=some (.lst zs)/\xs.length+zs.length<=sizeLine/\Q .non (upd H l (.lst (xs++zs)))
theorem a9s:MtM X "list.extend" b3x:=by
 intro pins s σ H x vs v us Q I rx rv h;obtain⟨l,b,xs,zs,rfl,rfl,hH,hB,hz,q⟩:=h;cases rx;obtain⟨u,rfl,ru⟩:=rv.one;cases ru;obtain⟨z,its,n,r,hl,e⟩:=I.lstM hH;obtain⟨z2,its2,n2,r2,hl2,e2⟩:=I.lstM hB
 have hsz:its.toArray.size+its2.toArray.size<=sizeLine:=by rw[size_toArray,size_toArray];omega
 have hlong:¬(!its.toArray.isEmpty&&Builtin.List.listTooLong (its.toArray.size+its2.toArray.size))=true:=by
  rw[a6d hsz,Bool.and_false];exact bx
 refine call_meets F.slot_list_extend ⟨_,e,rfl⟩ F.entry_list_extend (F.args_list_extend_2 _ _)
  (AutoSeq1.list_extend_list_list_0 l its.toArray n b its2.toArray n2 hlong (by rw[size_toArray];omega) (by omega)) ⟨e,e2,?_⟩
 refine⟨.non,_,I.lset (its':=its++its2) hH e (by simp) (r.append r2) ?_,rfl,q⟩
 rw[ap];omega
def b0I:V->List V->Hp->VK->Prop:=fun x vs H Q=>∃l xs,x=.ref l/\vs=[]/\H l=some (.lst xs)/\Q .non (upd H l (.lst xs.reverse))
theorem a7e:MtM X "list.reverse" b0I:=by
 intro pins s σ H x vs v us Q I rx rv h;obtain⟨l,xs,rfl,rfl,hH,q⟩:=h;cases rx;have hus:=rv.zero;subst hus;obtain⟨z,its,n,r,hl,e⟩:=I.lstM hH;refine call_meets F.slot_list_reverse ⟨_,e,rfl⟩ F.entry_list_reverse (F.args_list_reverse_1 _) (AutoSeq1.list_reverse_list_0 l its.toArray n (by rw[size_toArray];omega)) ⟨e,?_⟩
 refine⟨.non,_,I.lset (its':=its.reverse) hH e (by simp) r.reverse ?_,rfl,q⟩
 rw[length_reverse];omega
def c1f:R2:=fun x y H Q=>∃l b xs zs,x=.ref l/\y=.ref b/\H l=some (.lst xs)/\H b=some (.lst zs)/\xs.length+zs.length<=sizeLine/\∀p,H p=none->Q (.ref p) (upd H p (.lst (xs++zs)))
theorem b6x:OpR X (binaryOp .Add) c1f:=by
 intro pins s σ H x y v u Q I rx ry h;obtain⟨l,b,xs,zs,rfl,rfl,hH,hB,hz,q⟩:=h;cases rx;cases ry;obtain⟨z,its,n,r,hl,e⟩:=I.lstM hH;obtain⟨z2,its2,n2,r2,hl2,e2⟩:=I.lstM hB;refine PySem.P.add_list e e2 ?_ (by rw[size_toArray,size_toArray];omega)
 have ea:its.toArray++its2.toArray=(its++its2).toArray:=by simp
 rw[ea];exact⟨.ref _,_,I.lnew (t':=s.toks) (r.append r2) (by rw[ap];omega),rfl,q _ I.fresh⟩
def c1b:R2:=fun x y H Q=>∃l k xs,x=.ref l/\y=.int k/\H l=some (.lst xs)/\ -(2^63)<=k/\k<2^63/\xs.length*k.toNat<=sizeLine∧
 ∀p,H p=none->Q (.ref p) (upd H p (.lst (List.replicate k.toNat xs).flatten))
theorem b4h(xs:List α)(k:Nat):(List.replicate k xs).flatten.length=k*xs.length:=by
 induction k with
 |zero=>simp
 |succ k ih=>rw[replicate_succ,flatten_cons,ap,ih,Nat.succ_mul,Nat.add_comm]
theorem b6r:OpR X (binaryOp .Mult) c1b:=by
 intro pins s σ H x y v u Q I rx ry h;obtain⟨l,k,xs,rfl,rfl,hH,h1,h2,hz,q⟩:=h;cases rx;obtain⟨t,rfl⟩:=ry;obtain⟨z,its,n,r,hl,e⟩:=I.lstM hH
 have hlen:its.toArray.size*k.toNat<=sizeLine:=by rw[size_toArray,←hl];exact hz
 have hcap:¬its.toArray.size*k.toNat>(2^63-1)/8:=by
  have:(sizeLine:Nat)<=(2^63-1)/8:=by decide
  omega
 have hfit:¬(!Builtin.List.listFitsIndex k)=true:=by
  rw[fitsIndex_both h1 h2];exact bx
 have hlong:¬Builtin.List.listTooLong (its.toArray.size*k.toNat)=true:=by
  rw[a6d hlen];exact bx
 have hnew:List.foldl (fun x1 x2=>x1++x2) #[] (List.replicate (if its.toArray.isEmpty=true then 0 else k.toNat) its.toArray)=(List.replicate k.toNat its).flatten.toArray:=by
  have f0:∀m:Nat,List.foldl (fun x1 x2=>x1++x2) #[] (List.replicate m its.toArray)=(List.replicate m its).flatten.toArray:=fun m=>by
   have:=a4d its m []
   rw[nil_append] at this;exact this
  rw[f0]
  cases its with
  |nil=>simp
  |cons a r'=>rw[az (by simp)]
 refine wpAny_binaryOp_repeat_ref (T:="list") (U:="int") (by decide) ⟨_,e,rfl⟩ (fun s'=>typeIs_int s' k t) noFill_list_mul F.fills_int_mul F.slot_int_rmul repeat_list F.slot_int_index.lookup
  (call_meets F.slot_int_rmul (typeIs_int s k t) F.entry_int_rmul (F.args_int_rmul_2 _ _) (int___rmul___int_list k t l its.toArray n)
   ⟨e,rfl,⟨_,e,rfl⟩,call_meets F.slot_list_mul ⟨_,e,rfl⟩ F.entry_list_mul (F.args_list_mul_2 _ _) (AutoListH.list___mul___list_int_3 l its.toArray n k t hfit hcap hlong) ⟨e,?_⟩⟩)
 rw[hnew];exact⟨.ref _,_,I.lnew (t':=s.toks) (r.rep k.toNat) (by rw[b4h,Nat.mul_comm];exact hz),rfl,q _ I.fresh⟩
end
variable{b:Addr}{sl:Addr}{vl:Value}{vu:Value}
section
variable{κ:Type}[DecidableEq κ]
noncomputable def U2(kvs:List (κ×V))(k:κ):Option V:=(kvs.find? fun kv=>decide (kv.1=k)).map (·.2)
noncomputable def M3(kvs:List (κ×V))(k:κ)(v:V):List (κ×V):=
 if(kvs.any fun kv=>decide (kv.1=k))=true then kvs.map (fun kv=>if kv.1=k then(kv.1,v) else kv) else kvs++[(k,v)]
theorem Z3{p:κ×V}{r:List (κ×V)}{k:κ}(e:p.1=k):U2 (p::r) k=some p.2:=by simp[U2,List.find?_cons,e]
theorem Z4{p:κ×V}{r:List (κ×V)}{k:κ}(e:¬p.1=k):U2 (p::r) k=U2 r k:=by simp[U2,List.find?_cons,e]
theorem a5H(k:κ):∀kvs:List (κ×V),(kvs.any fun kv=>decide (kv.1=k))=(U2 kvs k).isSome
 |[]=>rfl
 |p::r=>by
  rw[any_cons]
  by_cases e:p.1=k
  · simp only[Z3 e,bn e,Bool.true_or,Option.isSome_some]
  · rw[Z4 e,bF e,Bool.false_or];exact a5H k r
theorem a0e(kvs:List (κ×V))(k:κ)(v:V):(M3 kvs k v).length<=kvs.length+1:=by
 unfold M3
 split
 · rw[aa];omega
 · rw[ap,length_cons,length_nil];omega
theorem a0J.isSome_eq{o:Option V}{u:Option Value}(r:a0J o u):o.isSome=u.isSome:=by
 cases o with
 |none=>cases u with
  |none=>rfl
  |some _=>exact(show False from r).elim
 |some _=>cases u with
  |none=>exact(show False from r).elim
  |some _=>rfl
theorem a0J.getD{o:Option V}{u:Option Value}{d:V}{d':Value}(r:a0J o u)(rd:o0 d d'):o0 (o.getD d) (u.getD d'):=by
 cases o with
 |none=>cases u with
  |none=>exact rd
  |some _=>exact(show False from r).elim
 |some _=>cases u with
  |none=>exact(show False from r).elim
  |some _=>exact r
theorem KV.val{kvs:List (κ×V)}{vs:List (κ×Value)}(r:KV kvs vs)(k:κ):a0J (U2 kvs k) (valueAt vs k):=by
 unfold KV at r
 induction r with
 |nil=>exact True.intro
 | @cons p q ps qs h t ih=>
  obtain⟨h1,h2⟩:=h
  by_cases e:p.1=k
  · have e':q.1=k:=h1.symm.trans e
    have b:valueAt (q::qs) k=some q.2:=by simp[valueAt,List.find?_cons,e']
    rw[Z3 e,b];exact h2
  · have e':¬q.1=k:=fun z=>e (h1.trans z)
    have b:valueAt (q::qs) k=valueAt qs k:=by simp[valueAt,List.find?_cons,e']
    rw[Z4 e,b];exact ih
theorem KV.any{kvs:List (κ×V)}{vs:List (κ×Value)}(r:KV kvs vs)(k:κ):(kvs.any fun kv=>decide (kv.1=k))=vs.any fun kv=>decide (kv.1=k):=by
 unfold KV at r
 induction r with
 |nil=>rfl
 |cons h t ih=>rw[any_cons,any_cons,ih,h.1]
theorem KV.repl{kvs:List (κ×V)}{vs:List (κ×Value)}(r:KV kvs vs)(k:κ)(ry:o0 y u):
 KV (kvs.map fun kv=>if kv.1=k then(kv.1,y) else kv) (vs.map fun kv=>if kv.1=k then(kv.1,u) else kv):=by
 unfold KV at r⊢
 induction r with
 |nil=>exact .nil
 | @cons p q ps qs h t ih=>
  rw[map_cons,map_cons];refine .cons ?_ ih
  obtain⟨h1,h2⟩:=h
  by_cases e:p.1=k
  · rw[ay e,ay (h1.symm.trans e)];exact⟨h1,ry⟩
  · rw[az e,az (fun z=>e (h1.trans z))];exact⟨h1,h2⟩
theorem KV.put{kvs:List (κ×V)}{vs:List (κ×Value)}(r:KV kvs vs)(k:κ)(ry:o0 y u):KV (M3 kvs k y) (stored vs k u):=by
 unfold M3 stored;rw[r.any k]
 by_cases e:(vs.any fun kv=>decide (kv.1=k))=true
 · rw[ay e,ay e];exact r.repl k ry
 · rw[az e,az e];exact Paired.snoc r ⟨rfl,ry⟩
theorem KV.length{kvs:List (κ×V)}{vs:List (κ×Value)}(r:KV kvs vs):kvs.length=vs.length:=Paired.length r
end
variable{P:Program}{w:World}
theorem a0h{k:Key}(r:o0 (kV k) u):(u5 P w).is k u=true:=by
 cases k with
 |inl i=>obtain⟨t,e⟩:=(show∃t,u=Value.int i t from r);subst e;exact a6h P w i t
 |inr x=>obtain⟨t,e⟩:=(show∃t,u=Value.str x t from r);subst e;exact a6g P w x t
theorem a4b{P:Program}{w:World}:∀{ks:List Key} {us:List Value},k7 (ks.map kV) us->ItemsAre (u5 P w) ks us
 |[],_,r=>by rw[map_nil] at r;cases r;exact .nil
 |k::ks,_,r=>by
  rw[map_cons] at r
  cases r with
  |cons h t=>exact .cons (a0h h) (a4b t)
abbrev KT(H:Hp):List (List Key×V)->List (List Key×Addr×Value)->Prop:=Paired fun p q=>p.1=q.1/\H q.2.1=some (.tup (p.1.map kV))/\o0 p.2 q.2.2
variable{kvs:List (List Key×V)}{xs:List (List Key×Addr×Value)}
theorem KT.val(r:KT H kvs xs)(k:List Key):a0J (U2 kvs k) ((atKey xs k).map (·.2)):=by
 induction r with
 |nil=>exact True.intro
 | @cons p q ps qs h t ih=>
  obtain⟨h1,_,h2⟩:=h
  by_cases e:p.1=k
  · have e':q.1=k:=h1.symm.trans e
    have b:atKey (q::qs) k=some q.2:=by simp[atKey,List.find?_cons,e']
    rw[Z3 e,b];exact h2
  · have e':¬q.1=k:=fun z=>e (h1.trans z)
    have b:atKey (q::qs) k=atKey qs k:=by simp[atKey,List.find?_cons,e']
    rw[Z4 e,b];exact ih
theorem KT.repl(r:KT H kvs xs)(k:List Key)(ry:o0 y u):
 KT H (kvs.map fun kv=>if kv.1=k then(kv.1,y) else kv) (xs.map (putAt k u)):=by
 induction r with
 |nil=>exact .nil
 | @cons p q ps qs h t ih=>
  rw[map_cons,map_cons];refine .cons ?_ ih
  obtain⟨h1,h2,h3⟩:=h;unfold putAt
  by_cases e:p.1=k
  · rw[ay e,ay (h1.symm.trans e)];exact⟨h1,h2,ry⟩
  · rw[az e,az (fun z=>e (h1.trans z))];exact⟨h1,h2,h3⟩
theorem KT.put(r:KT H kvs xs)(k:List Key)(hb:H b=some (.tup (k.map kV)))(ry:o0 y u):
 KT H (M3 kvs k y) (storedH xs k b u):=by
 have e:(kvs.any fun kv=>decide (kv.1=k))=(atKey xs k).isSome:=by
  rw[a5H,(r.val k).isSome_eq,Option.isSome_map]
 unfold M3 storedH;rw[e]
 by_cases q:(atKey xs k).isSome=true
 · rw[ay q,ay q];exact r.repl k ry
 · rw[az q,az q];exact Paired.snoc r ⟨rfl,hb,ry⟩
variable{H':Hp}
theorem KT.keeps(r:KT H kvs xs)(ht:∀b ys,H b=some (.tup ys)->H' b=some (.tup ys)):KT H' kvs xs:=
 Paired.mapP r fun _ _ z=>⟨z.1,ht _ _ z.2.1,z.2.2⟩
section
variable{h:Heap}{a:Addr}
theorem rd_of{u:HO}(ok:HOk P w H h)(e:Rd H a u):C2 P w H h a u:=e.ok ok
theorem a2f{kvs:List (Key×V)}(ok:HOk P w H h)(e:Rd H a (.dK kvs)):kvs.length<=sizeLine/\(a==sysModules)=false/\∃vs,KV kvs vs/\h.DictOf (u5 P w) a vs:=
 show C2 P w H h a (.dK kvs) from rd_of ok e
theorem b5t{kvs:List (Key×V)}(ok:HOk P w H h)(e:H a=some (.dK kvs)):kvs.length<=sizeLine/\(a==sysModules)=false/\∃vs,KV kvs vs/\h.DictOf (u5 P w) a vs:=a2f ok (.inl e)
theorem a1O{ks:List Key}(ok:HOk P w H h)(e:H a=some (.tup (ks.map kV))):(tupleKind (u5 P w)).is h ks a:=by
 obtain⟨_,its,r,o,h1,h2,_,n,h3⟩:=(show C2 P w H h a (.tup (ks.map kV)) from ok a _ e);exact⟨o,its.toArray,n,h1,h2,h3,by simpa using a4b r⟩
theorem a3n(ok:HOk P w H h)(e:Rd H a (.dT kvs)):kvs.length<=sizeLine/\(a==sysModules)=false∧
 ∃xs,KT H kvs xs/\h.DictOfH (tupleKind (u5 P w)) a xs:=by
 obtain⟨z,y,xs,r,o,es,ep,h1,h2,h3,h4,h5⟩:=(show C2 P w H h a (.dT kvs) from rd_of ok e);refine⟨z,y,xs,r,o,es,ep,h1,h2,h3,h4,fun x hx=>?_,h5⟩
 have all:∀{l:List (List Key×V)} {m:List (List Key×Addr×Value)},KT H l m->∀x∈m,(tupleKind (u5 P w)).is h x.1 x.2.1:=by
  intro l m q
  induction q with
  |nil=>intro x hx;exact nomatch hx
  | @cons p q ps qs hq t ih=>
   intro x hx
   rcases aE.mp hx with e|hx
   · subst e;exact a1O ok (by rw[←hq.1];exact hq.2.1)
   · exact ih x hx
 exact all r x hx
theorem b9R(ok:HOk P w H h)(e:H a=some (.dT kvs)):kvs.length<=sizeLine/\(a==sysModules)=false∧
 ∃xs,KT H kvs xs/\h.DictOfH (tupleKind (u5 P w)) a xs:=a3n ok (.inl e)
end
def a7A(H:Hp)(a:Addr)(y:V)(r:Option V):Prop:=
 (∃kvs k,Rd H a (.dK kvs)/\y=kV k/\r=U2 kvs k)∨∃kvs k b,Rd H a (.dT kvs)/\y=.ref b/\H b=some (.tup (k.map kV))/\r=U2 kvs k
def c2h(H:Hp)(a:Addr)(y v:V)(H':Hp):Prop:=
 (∃kvs k,H a=some (.dK kvs)/\y=kV k/\kvs.length<sizeLine/\H'=upd H a (.dK (M3 kvs k v)))∨
 ∃kvs k b,H a=some (.dT kvs)/\y=.ref b/\H b=some (.tup (k.map kV))/\kvs.length<sizeLine/\H'=upd H a (.dT (M3 kvs k v))
variable{a:Addr}{v:V}{Q:Value->Shared->Prop}{h':Heap}
section
variable{X:Cx}{r:Value}{o:Option V}{E:Value->Shared->Prop}
theorem Inv.big(I:Inv X pins σ H s):sysModules<s.heap.objs.size:=by
 have h:mainGlobals<s.heap.objs.size:=(I.mod.glob.keeps I.bk).lt
 exact Nat.lt_trans (by decide) h
theorem a9K(hu:A.units+1<cLine)(I:Inv X pins σ H s)(g:a7A H a y (some v))(ry:o0 y u)(h:∀w' s',Inv X pins σ H s'->o0 v w'->Q w' s'):
 wpAny (model X.prog X.w) A (getItem (.ref a) u) Q E s:=by
 rcases g with⟨kvs,k,e,ey,l⟩|⟨kvs,k,b,e,ey,eb,l⟩
 · subst ey;obtain⟨z,hd,vs,rel,dd⟩:=a2f I.hok e;obtain⟨w',hw,rw'⟩:=a0J.some_of (v:=v) (o:=valueAt vs k) (by rw[l];exact rel.val k)
   exact wpAny_getItem_of (a0h ry) dd.mapOf hw (h w' _ (I.tok _) rw')
 · subst ey
   cases (show u=Value.ref b from ry)
   obtain⟨z,hd,xs,rel,dd⟩:=a3n I.hok e;obtain⟨w',hw,rw'⟩:=a0J.some_of (v:=v) (o:=(atKey xs k).map (·.2)) (by rw[l];exact rel.val k)
   obtain⟨p,hp,hp2⟩:=Option.map_eq_some_iff.mp hw;refine wpAny_getItem_heap (tupleKind_room_in1 hu) (a1O I.hok eb) dd hp ?_
   rw[hp2];exact h w' _ (I.tok _) rw'
theorem c1w(hu:A.units+1<cLine)(I:Inv X pins σ H s)(g:a7A H a y o)(ry:o0 y u)(h:∀s',Inv X pins σ H s'->Q (.bool o.isSome) s'):
 wpAny (model X.prog X.w) A (compareOp .In u (.ref a)) Q E s:=by
 rcases g with⟨kvs,k,e,ey,l⟩|⟨kvs,k,b,e,ey,eb,l⟩
 · subst ey;obtain⟨z,hd,vs,rel,dd⟩:=a2f I.hok e;refine wpAny_in_of (a0h ry) hd dd.mapOf ?_
   rw[←(rel.val k).isSome_eq,←l];exact h _ (I.tok _)
 · subst ey
   cases (show u=Value.ref b from ry)
   obtain⟨z,hd,xs,rel,dd⟩:=a3n I.hok e;refine wpAny_in_heap (tupleKind_room_in1 hu) (a1O I.hok eb) hd dd ?_
   have q:=(rel.val k).isSome_eq;rw[Option.isSome_map] at q;rw[←q,←l];exact h _ (I.tok _)
theorem b4T(hu:A.units+1<cLine)(I:Inv X pins σ H s)(g:a7A H a y o)(ry:o0 y u)(h:∀s',Inv X pins σ H s'->Q (.bool (!o.isSome)) s'):
 wpAny (model X.prog X.w) A (compareOp .NotIn u (.ref a)) Q E s:=by
 rcases g with⟨kvs,k,e,ey,l⟩|⟨kvs,k,b,e,ey,eb,l⟩
 · subst ey;obtain⟨z,hd,vs,rel,dd⟩:=a2f I.hok e;refine wpAny_notIn_of (a0h ry) hd dd.mapOf ?_
   rw[←(rel.val k).isSome_eq,←l];exact h _ (I.tok _)
 · subst ey
   cases (show u=Value.ref b from ry)
   obtain⟨z,hd,xs,rel,dd⟩:=a3n I.hok e;refine wpAny_notIn_heap (tupleKind_room_in1 hu) (a1O I.hok eb) hd dd ?_
   have q:=(rel.val k).isSome_eq;rw[Option.isSome_map] at q;rw[←q,←l];exact h _ (I.tok _)
theorem a5p{t':Nat}{ob:HO}(I:Inv X pins σ H s)(mu:Mut (H a))(hs:Heap.SameBut a s.heap h')(he:∃q,h'.get? a=some q)(new:C2 X.prog X.w (upd H a ob) h' a ob):
 Inv X pins σ (upd H a ob) {s with heap:=h',toks:=t'}:=
 I.write (x:=a) (e:=a) mu (.inl rfl) (fun b q hb z=>(hs.2 b hb).trans z) he new
theorem a7t{kvs:List (Key×V)}{vs:List (Key×Value)}(z:kvs.length<=sizeLine)(hd:(a==sysModules)=false)(rel:KV kvs vs)(dd:h'.DictOf (u5 P w) a vs):
 C2 P w H' h' a (.dK kvs):=⟨z,hd,vs,rel,dd⟩
theorem a4k{Q:Unit->Shared->Prop}(hu:A.units+1<cLine)(I:Inv X pins σ H s)(g:c2h H a y v H')(ry:o0 y u)(rv:o0 v r)(h:∀s',Inv X pins σ H' s'->Q () s'):
 wpAny (model X.prog X.w) A (setItem (.ref a) u r) Q E s:=by
 rcases g with⟨kvs,k,e,ey,l,eH⟩|⟨kvs,k,b,e,ey,eb,l,eH⟩
 · subst ey eH;obtain⟨z,hd,vs,rel,dd⟩:=b5t I.hok e
   have hz:vs.length<=sizeLine:=by rw[←rel.length];exact z
   have hl:(M3 kvs k v).length<=sizeLine:=by have:=a0e kvs k v;omega
   refine wpAny_setItem_pairs (hsz:=hz) (a0h ry) dd fun h' dd' hs=>h _ ?_
   have he:∃q,h'.get? a=some q:=let⟨q,_,_,hq,_⟩:=dd';⟨q,hq⟩
   exact a5p I (by rw[e];exact True.intro) hs he (a7t hl hd (rel.put k rv) dd')
 · subst ey eH
   cases (show u=Value.ref b from ry)
   obtain⟨z,hd,xs,rel,dd⟩:=b9R I.hok e
   have hz:xs.length<=sizeLine:=by rw[←Paired.length rel];exact z
   have hl:(M3 kvs k v).length<=sizeLine:=by have:=a0e kvs k v;omega
   refine wpAny_setItem_heap (hsz:=hz) (tupleKind_room_in1 hu) (a1O I.hok eb) dd fun h' dd' hs=>h _ ?_
   obtain⟨q,es,ep,hq,h2,h3,h4,_,h5⟩:=dd';refine a5p I (by rw[e];exact True.intro) hs ⟨q,hq⟩ ⟨hl,hd,_,(rel.put k eb rv).keeps fun c ys ec=>?_,q,es,ep,hq,h2,h3,h4,h5⟩
   rw[k8 (b8Y ec e (fun z=>nomatch z))]
   exact ec
end
section
variable{X:Cx}{kvs:List (Key×V)}{k:Key}{E:Value->Shared->Prop}
theorem b9T(I:Inv X pins σ H s)(e:Rd H a (.dK kvs))(h:∀t s',Inv X pins σ H s'->Q (.int kvs.length t) s'):wpAny (model X.prog X.w) A (call (.builtin "len") [.ref a]) Q E s:=by
 obtain⟨z,hd,vs,rel,dd⟩:=a2f I.hok e;refine call_len_dict hd dd (by rw[←rel.length];rw[sizeLine_eq] at z;omega) ?_
 rw[←rel.length];exact h _ _ (I.tok _)
end
variable{prog:Program}{env:Env}{pos:Pos}{X:Cx}
theorem a6w{o:Option V}(I:Inv X pins σ H s)(g:a7A H a y o):s.TypeIs (.ref a) "dict":=by
 rcases g with⟨kvs,k,e,_,_⟩|⟨kvs,k,b,e,_,_,_⟩
 · obtain⟨_,_,vs,_,dd⟩:=a2f I.hok e;exact dd.typeIs
 · obtain⟨_,_,xs,_,dd⟩:=a3n I.hok e;exact dd.typeIs
theorem a6v(h:Heap)(hb:sysModules<h.objs.size):C2 P w H (h.push {cls:=.type "dict",data:=.dict #[]}) h.objs.size (.dK []):=
 ⟨Nat.zero_le _,beq_eq_false_iff_ne.mpr (Ne.symm (Nat.ne_of_lt hb)),[],.nil,Heap.DictOf.new h⟩
def b5G:TE:=fun _ H Q=>∀p,H p=none->Q (.ref p) (upd H p (.dK []))
section
theorem b1e:PE X (.Dict [] [] pos) b5G:=fun pins s σ H Q I h=>
 wpAny_Dict_empty ⟨.ref s.heap.objs.size,_,I.laid (a:=s.heap.objs.size) (o:=.dK []) (t':=s.toks) (fun _ _ q=>Heap.get?_push_of_some _ q) (ai _) (a6v s.heap I.big),rfl,h _ (I.hok.fresh (ai _))⟩
end
def a4y:List (TE×TE)->St->Hp->(List (V×V)->Hp->Prop)->Prop
 |[],_,H,Q=>Q [] H
 |(tk,tv)::r,σ,H,Q=>tk σ H fun x H1=>tv σ H1 fun y H2=>a4y r σ H2 fun ps H3=>Q ((x,y)::ps) H3
abbrev VV:List (V×V)->List (Value×Value)->Prop:=Paired fun p q=>o0 p.1 q.1/\o0 p.2 q.2
def PPs(X:Cx)(pos:Pos)(keys:List (Option Expr))(values:List Expr)(trs:List (TE×TE)):Prop:=
 ∀(pins:List (Addr×Obj)) (s:Shared) (σ:St) (H:Hp) (Q:List (V×V)->Hp->Prop),Inv X pins σ H s->a4y trs σ H Q→
  wpAny (model X.prog X.w) X.A (evalPairs (pairTrees keys values X.env pos)) (fun vs s'=>∃ps H',Inv X pins σ H' s'/\VV ps vs/\Q ps H') X.xe s
theorem b3E:PPs X pos [] [] []:=fun pins s σ H Q I h=>pairTrees_nil_walk ⟨[],H,I,.nil,h⟩
variable{trs:List (TE×TE)}
theorem b0T{k v:Expr}{ks:List (Option Expr)}{vs:List Expr}{tk tv:TE}(hk:PE X k tk)(hv:PE X v tv)(hr:PPs X pos ks vs trs):
 PPs X pos (some k::ks) (v::vs) ((tk,tv)::trs):=fun pins s σ H Q I h=>
 pairTrees_cons_walk (thn (hk pins s σ H _ I h) fun u s1 ⟨x,H1,I1,rx,q1⟩=>thn (hv pins s1 σ H1 _ I1 q1) fun w2 s2 ⟨y,H2,I2,ry,q2⟩=>
  thn (hr pins s2 σ H2 _ I2 q2) fun ws s3 ⟨ps,H3,I3,rel,q3⟩=>⟨(x,y)::ps,H3,I3,.cons ⟨rx,ry⟩ rel,q3⟩)
def W1(kvs more:List (Key×V)):List (Key×V):=more.foldl (fun acc kv=>M3 acc kv.1 kv.2) kvs
theorem KV.merge:∀{more:List (Key×V)} {rs:List (Key×Value)} {kvs:List (Key×V)} {vs:List (Key×Value)},KV more rs->KV kvs vs->KV (W1 kvs more) (merged vs rs):=by
 intro more rs kvs vs r;unfold KV at r
 induction r generalizing kvs vs with
 |nil=>intro q;exact q
 | @cons p q ps qs h t ih=>
  intro r0
  have e:KV (M3 kvs p.1 p.2) (stored vs q.1 q.2):=by
   have:=r0.put p.1 h.2
   rw[←h.1];exact this
  exact ih e
theorem T9:∀(more kvs:List (Key×V)),(W1 kvs more).length<=kvs.length+more.length
 |[],kvs=>by show kvs.length<=kvs.length+0;omega
 |p::r,kvs=>by
  have h1:=T9 r (M3 kvs p.1 p.2);have h2:=a0e kvs p.1 p.2
  show(W1 (M3 kvs p.1 p.2) r).length<=_
  rw[length_cons];omega
theorem a3p{P:Program}{w:World}:∀{kvs:List (Key×V)} {ws:List (Value×Value)},VV (kvs.map fun kv=>(kV kv.1,kv.2)) ws->∃rs,Carries (u5 P w) ws rs/\KV kvs rs
 |[],_,r=>by rw[map_nil] at r;cases r;exact⟨[],True.intro,.nil⟩
 | p::kvs,_,r=>by
  rw[map_cons] at r
  cases r with
  | @cons a b as bs h t=>
   obtain⟨rs,c,q⟩:=a3p (P:=P) (w:=w) t;obtain⟨b1,b2⟩:=b;exact⟨(p.1,b2)::rs,⟨a0h h.1,rfl,c⟩,.cons ⟨rfl,h.2⟩ q⟩
def b8r(trs:List (TE×TE)):TE:=fun σ H Q=>∀p,H p=none->a4y trs σ (upd H p (.dK [])) fun ps H2=>H2 p=some (.dK [])/\∃kvs:List (Key×V),ps=kvs.map (fun kv=>(kV kv.1,kv.2))/\kvs.length<=15/\Q (.ref p) (upd H2 p (.dK (W1 [] kvs)))
theorem b3O{keys:List (Option Expr)}{values:List Expr}(h:PPs X pos keys values trs)(hall:keys.all (·.isSome)=true)(hl:keys.length=values.length)(h0:keys≠[])
 (h15:keys.length<=15):PE X (.Dict keys values pos) (b8r trs):=by
 intro pins s σ H Q I q;have hn:=I.hok.fresh (ai s.heap.objs.size);have I1:=I.laid (a:=s.heap.objs.size) (o:=.dK []) (h':=s.heap.push {cls:=.type "dict",data:=.dict #[]}) (t':=s.toks) (fun _ _ q=>Heap.get?_push_of_some _ q) (ai _) (a6v s.heap I.big)
 refine wpAny_Dict_walk (knd:=u5 X.prog X.w) hall hl h0 h15 (thn (h pins _ σ _ _ I1 (q _ hn)) fun ws s2 ⟨ps,H2,I2,rel,e,kvs,ep,lk,q2⟩=>?_)
 subst ep;obtain⟨rs,c,rk⟩:=a3p (P:=X.prog) (w:=X.w) rel;obtain⟨z,hd,vs0,r0,dd⟩:=b5t I2.hok e;cases r0;refine⟨rs,c,dd,fun h' dd' hs=>⟨.ref s.heap.objs.size,_,?_,rfl,q2⟩⟩
 have hz:(W1 [] kvs).length<=sizeLine:=by
  have h1:=T9 kvs [];rw[length_nil] at h1;rw[sizeLine_eq];omega
 have he:∃q,h'.get? s.heap.objs.size=some q:=let⟨q,_,_,hq,_⟩:=dd';⟨q,hq⟩
 exact a5p I2 (by rw[e];exact True.intro) hs he (a7t hz hd (rk.merge .nil) dd')
structure M2(X:Cx)(o:Expr)(m:Str)(apos:Pos)(e f:Expr)(cpos:Pos):Prop where
 base:attributeBase o m X.env (eval o X.env)=eval o X.env
 few:((backTo cpos (starEach [e,f] X.env)).all (fun x=>!x.1)&&(backToKw cpos (keywordEach [] X.env)).all (fun x=>x.1.isSome)
  &&decide (([e,f]:List Expr).length+([]:List Keyword).length+(if([]:List Keyword).isEmpty then 0 else 1)<30))=true
 line:(apos.endLine==cpos.line)=true
 trees:backTo cpos (starEach [e,f] X.env)=[(false,eval e X.env),(false,eval f X.env)]
def IsD(H:Hp)(a:Addr):Prop:=(∃kvs,Rd H a (.dK kvs))∨∃kvs,Rd H a (.dT kvs)
theorem b6W(I:Inv X pins σ H s)(d:IsD H a):
 s.TypeIs (.ref a) "dict"/\(∀b,Value.ref a=.ref b->∃ob,s.heap.get? b=some ob/\ob.dict=none)/\(a==sysModules)=false:=by
 rcases d with⟨kvs,e⟩|⟨kvs,e⟩
 · obtain⟨_,hd,vs,_,dd⟩:=a2f I.hok e;refine⟨dd.typeIs,fun b q=>?_,hd⟩
   cases q;obtain⟨ob,_,_,h1,h2,_⟩:=dd;exact⟨ob,h1,h2.2.1⟩
 · obtain⟨_,hd,xs,_,dd⟩:=a3n I.hok e;refine⟨dd.typeIs,fun b q=>?_,hd⟩
   cases q;obtain⟨ob,_,_,h1,h2,_⟩:=dd;exact⟨ob,h1,h2.2.1⟩
section
variable{d:V}{r:Value}{o:Option V}{E:Value->Shared->Prop}
theorem b7x(hu:A.units+1<cLine)(I:Inv X pins σ H s)(g:a7A H a y o)(ry:o0 y u)(rd:o0 d r)(h:∀w' s',Inv X pins σ H s'->o0 (o.getD d) w'->Q w' s'):
 wpAny (model X.prog X.w) A (call (.builtin "dict.get") [.ref a,u,r]) Q E s:=by
 rcases g with⟨kvs,k,e,ey,l⟩|⟨kvs,k,b,e,ey,eb,l⟩
 · subst ey;obtain⟨z,hd,vs,rel,dd⟩:=a2f I.hok e;refine call_meetsIn PySem.F.slot_dict_get dd.typeIs PySem.F.entry_dict_get (PySem.F.args_dict_get_3 _ _ _) (meets_dict_get_default (u5 X.prog X.w) a (a0h ry) hd r) ⟨_,dd.mapOf,h _ _ (I.tok _) ?_⟩
   rw[l];exact(rel.val k).getD rd
 · subst ey
   cases (show u=Value.ref b from ry)
   obtain⟨z,hd,xs,rel,dd⟩:=a3n I.hok e;refine call_meetsIn PySem.F.slot_dict_get dd.typeIs PySem.F.entry_dict_get (PySem.F.args_dict_get_3 _ _ _) (meetsH_dict_get_default (tupleKind (u5 X.prog X.w)) a b hd r) ⟨tupleKind_room_in1 hu,k,xs,a1O I.hok eb,dd,h _ _ (I.tok _) ?_⟩
   rw[l];exact(rel.val k).getD rd
end
end L2
namespace Att
open PySem PySem.W PySem.Calls PyProof.Rows
variable{P:Params}{h:Heap}
theorem a2j:∀(ns:List Int) (vs:List Value),WellAll P h vs (ns.map WData.int)->IntsAre vs ns:=by
 intro ns
 induction ns with
 |nil=>
  intro vs w;rw[map_nil] at w;cases w;exact .nil
 | cons n ns ih=>
  intro vs w;rw[map_cons] at w
  cases w with
  |cons a b=>
   cases a;exact .cons _ _ (ih _ b)
variable{l:OpenLaw}{n:Nat}
theorem a9c(hn:l.most=some n){args:List WData}{vals:List Value}
 (hpre:l.row.toRowW.claim.pre args=true) (hwl:WellAll P h vals args):
 ∃a vs ns,vals=[Value.ref a]/\args=[WData.list (ns.map WData.int)]/\h.get? a=some {cls:=.type "list",data:=.seq vs.toArray}/\IntsAre vs ns/\ns.length<=n:=by
 have hsh:WShape.hasAll [] args [.list .int]=true:=(pre_splitW hpre).1
 have hc:l.pre.holds [] {args:=args}=true:=(pre_splitW hpre).2
 obtain⟨d,r,rfl,h1,h2⟩:=hasAllW_cons hsh;obtain rfl:=hasAllW_nil h2;obtain⟨xs,rfl,h3⟩:=hasW_list h1;obtain⟨ns,rfl⟩:=items_int h3
 have hlen:ns.length<=n:=by
  unfold OpenLaw.pre at hc
  have h4:(WTm.not (.lt (.lit (.int (n:Int))) (.len (.arg 0)))).holds [] {args:=[.list (ns.map .int)]}=true:=by
   have h4:=(holds_andW hc).1;rw[hn] at h4;exact h4
  have h5:=condW_of h4 (w_not (w_lt w_lit (w_len_list (w_arg rfl))));rw[aa] at h5;refine aX fun q=>?_
  have q':(n:Int)<((ns.length:Nat):Int):=by omega
  first
   |(rw[bn q'] at h5;exact absurd h5 (by decide))
   |(simp at h5;omega)
 cases hwl with
 |cons w1 w2=>
  cases w2
  cases w1 with
  |list ho hall=>exact⟨_,_,ns,rfl,rfl,ho,a2j ns _ hall,hlen⟩
theorem a9i(l:OpenLaw)(args:List WData):l.row.toRowW.claim.post args (.bool true) args=true:=
 postW_of (r:=l.row.toRowW) (X:=(true==true))
  (show WShape.has [] (.bool true) .bool=true by first|rfl|decide|simp[WShape.has,WShape.arms,WShape.armsAll])
  (show(WTm.eq .res (.lit (.bool true))).value [] {args:=args,res:=some (.bool true),after:=args}=some (.bool (true==true)) from w_eq_bool (w_res rfl) w_lit) rfl
variable{q:Program}{loose:List Str}{XP:(Str->Option Value)->Heap->Prop}{YP:World->Heap->Prop}{d:DefRec}
theorem a6J
 (hn:l.most=some n) (hdf:d.params.defaults=[])
 (call:∀(w:World) (s₀ s₁:Shared) (mg mb:Str->Option Value) (fa:Addr) (o:Obj) (pm cd doc:Value) (a:Addr) (vs:List Value) (ns:List Int),
  Ground q loose [] XP w s₀ mg mb s₁.heap->YP w s₁.heap→
  s₁.heap.get? fa=some o->o.data=.func (docDef d.name d.params d.body d.scope pm cd doc)->s₁.heap.CodeRec cd d.name->mg d.name=some (.ref fa)→
  s₁.heap.get? a=some {cls:=.type "list",data:=.seq vs.toArray}->IntsAre vs ns->ns.length<=n->s₁.gens= #[]→
  codeAny (model l.prog w) callerA (.call (.ref fa) ⟨[.ref a],[]⟩) (fun r s'=>r=.ok (.ret (.bool true))/\OldK s₁.heap s'.heap/\s'.os=s₁.os/\AllBare s'.gens) s₁):
 WalkO q loose XP YP l.row.toRowW d [] (fun f vs=>PySem.call f vs):=by
 intro w s₀ s₁ mg mb G Y fa o pm cd doc dV kV ho hd hcd hD hmg hg args vals as hpre hlay hrd hwl hlo;obtain rfl:dV=.none:=Dflts.none hD hdf;obtain rfl:kV=.none:=Dflts.noKw hD;obtain⟨a,vs,ns,rfl,rfl,hobj,hints,hlen⟩:=a9c hn hpre hwl;refine enter_call (codeAny_mono (call w s₀ s₁ mg mb fa o pm cd doc a vs ns G Y ho (fd_plain hd) hcd hmg hobj hints hlen hg) fun r s' hq=>?_)
 obtain⟨rfl,h2,h3,h4⟩:=hq;exact⟨.inl ⟨.bool true,.bool true,[],rfl,fun _=>rfl,.bool true,a9i l _,fun _=>⟨List.Pairwise.nil,fun _ hm=>(nomatch hm)⟩⟩,h2,h3,h4⟩
variable{f:Addr}{C:Addr}{x:Addr}{ox:Obj}{es:List DictEntry}{v:Value}{L:Addr}{o:Obj}{m:Str->Option Value}
end Att
namespace L2
open PySem PySem.Spec PyProof.Rows
theorem a3I:∀{vs:List Value} {ns:List Int},IntsAre vs ns->k7 (ns.map V.int) vs
 |_,_,.nil=>.nil
 |_,_,.cons n t h=>.cons ⟨t,rfl⟩ (a3I h)
def b2S(H:Hp):Prop:=∀b,H b=none∨∃o xs,H b=some (.frz o (.lst xs))
variable{P:Program}{w:World}{K:PySem.W.Frag}{mg:Str->Option Value}{CX:CXT}{a:Addr}{fd:FuncData}{x:Str}{sp:Sp}{vs:List Value}{ns:List Int}
theorem b1z{mb:Str->Option Value}{k:Nat}{fa:Addr}{s₁:Shared}
 (KX:K.In s₁.heap) (hns:s₁.heap.Ns mainGlobals mg) (hb:s₁.heap.Ns builtinsNs mb) (hbb:∀x:Str,x≠"__name__"->mb x=bootBuiltins x) (hlim:s₁.heap.NoLimit) (hg:s₁.gens= #[])
 (ha:s₁.heap.get? a=some {cls:=.type "list",data:=.seq vs.toArray}) (hi:IntsAre vs ns) (hl:ns.length<=sizeLine) (hr:Room k callerA)
 (F:∀base:Heap,K.In base->base.Ns mainGlobals mg->FnOk P w K mg base CX k fa fd [x] sp) (hbind:∀(s:Shared) (u:Value),BindsTo s fd ⟨[u],[]⟩ [(x,u)])
 (hsp:∀H:Hp,b2S H->SqL K H a (ns.map V.int)->sp [.ref a] H (fun v _=>v=.bl true) fun _ _ _=>False)
 (hCX:∀H e s',CX [] H s₁ (fun _ _ _=>False) e s'->False):
 codeAny (model P w) callerA (.call (.ref fa) ⟨[.ref a],[]⟩) (fun r s'=>r=.ok (.ret (.bool true))/\OldK s₁.heap s'.heap/\s'.os=s₁.os/\AllBare s'.gens) s₁:=by
 have rv:=a3I hi;have lenV:=hi.length
 -- from an abstract heap in which nothing but the script may be tracked
 have core:∀H:Hp,b2S H->SqL K H a (ns.map V.int)->HOk P w H s₁.heap->(∀b,H b≠none->b=a)->(H a≠none->K.lookup a=none)→
  codeAny (model P w) callerA (.call (.ref fa) ⟨[.ref a],[]⟩) (fun r s'=>r=.ok (.ret (.bool true))/\OldK s₁.heap s'.heap/\s'.os=s₁.os/\AllBare s'.gens) s₁:=by
  intro H hO hS hok hA hK
  have base_of:∀{b:Addr} {o:Obj},s₁.heap.get? b=some o->H b=none->(a5d s₁.heap H).get? b=some o:=fun e n=>b1K e n
  have noA:∀{b:Addr} {o:Obj} {es:Array DictEntry} {ep:Nat},s₁.heap.get? b=some o->o.data=.dict es ep->H b=none:=fun{b o es ep} e d=>by
   cases q:H b with
   |none=>rfl
   |some u=>
    have e':b=a:=hA b (by rw[q];simp)
    subst e';rw[ha] at e;cases e
    have d':Data.seq vs.toArray _=Data.dict es ep:=d
    cases d'
  have nsK:∀{b:Addr} {m:Str->Option Value},s₁.heap.Ns b m->(a5d s₁.heap H).Ns b m:=fun{b m} ⟨o,es,ep,e,d,r⟩=>⟨o,es,ep,base_of e (noA e d),d,r⟩
  have hKb:K.In (a5d s₁.heap H):=fun b o e=>base_of (KX b o e) (by
   cases q:H b with
   |none=>rfl
   |some u=>
    have e':b=a:=hA b (by rw[q];simp)
    subst e';rw[hK (by rw[q];simp)] at e;cases e)
  have hM:Mod K mg (a5d s₁.heap H):=⟨hKb,nsK hns,⟨mb,nsK hb,hbb⟩,let⟨mc,h1,h2⟩:=hlim;⟨mc,nsK h1,h2⟩⟩
  have e0:Env0 P w K mg (a5d s₁.heap H) callerA [] s₁ H:=⟨rfl,hM,fun b o e=>b3Y e,Nat.le_of_eq (a9A _ _),trivial,fun b hb=>absurd (show b∈([]:List Addr) from hb) (by simp),hok,.of_eq hg⟩
  refine codeAny_mono ((F _ hKb (nsK hns)).run callerA [] s₁ H ⟨[.ref a],[]⟩ [.ref a] [.ref a] _ _ hr e0 (hbind s₁ (.ref a)) (.cons rfl .nil) (hsp H hO hS)) fun r s' h=>?_
  cases r with
  |error e=>exact(hCX H e s' h).elim
  | ok fl=>
   cases fl with
   |next=>exact False.elim h
   |brk=>exact False.elim h
   |cont=>exact False.elim h
   | ret u=>
    obtain⟨v,H',os,bare,un,hok',r',q⟩:=h
    have q':v=.bl true:=q
    subst q';obtain rfl:u=Value.bool true:=r';refine⟨rfl,OldK.of_keep fun b o e=>?_,os,bare⟩
    cases q:H b with
    |none=>exact un.keep b o e q (by intro z;exact absurd (show b∈([]:List Addr) from z) (by simp)) (by simp)
    |some u=>
     rcases hO b with z|⟨ob,xs,z⟩
     · rw[q] at z;cases z
     · have z2:=un.frzs b ob _ z;obtain⟨e1,_⟩:=hok b _ z;obtain⟨e2,_⟩:=hok' b _ z2;rw[e] at e1;cases e1
       exact e2
 cases hk:K.lookup a with
 |some o=>
  -- the script is one of the module's own objects
  have e:=KX a o hk;rw[ha] at e;cases e;refine core (fun _=>none) (fun _=>.inl rfl) (.inr ⟨_,vs.toArray,_,hk,rfl,rfl,rfl,by rw[size_toArray,lenV];exact hl,by simpa using rv⟩) (fun b u z=>by have z':(none:Option HO)=some u:=z;cases z') (fun b z=>absurd rfl z) fun z=>absurd rfl z
 |none=>
  refine core (fun b=>if b=a then some (.frz {cls:=.type "list",data:=.seq vs.toArray} (.lst (ns.map V.int))) else none) (fun b=>?_) (.inl (.inr ⟨{cls:=.type "list",data:=.seq vs.toArray},ay rfl⟩)) (fun b u z=>?_) (fun b z=>?_) fun _=>hk
  · by_cases hb:b=a
    · exact .inr ⟨_,_,ay hb⟩
    · exact .inl (az hb)
  · by_cases hb:b=a
    · have z':=(ay hb).symm.trans z
      cases z';subst hb;exact⟨ha,by rw[aa];exact hl,vs,_,rv,ha⟩
    · have z':=(az hb).symm.trans z
      cases z'
  · by_cases hb:b=a
    · exact hb
    · exact absurd (az hb) z
abbrev KOf{K:PySem.W.Frag}{h:Heap}(_:K.In h):PySem.W.Frag:=K
variable{n:Nat}{q:Program}{loose:List Str}{XP:(Str->Option Value)->Heap->Prop}{YP:World->Heap->Prop}
theorem b2W{l:PySem.W.OpenLaw}{k:Nat}{d:DefRec}{K:Params->PySem.W.Frag}{CX:World->CXT}{sp:World->Sp}
 (hn:l.most=some n) (hn2:n<=sizeLine) (hdf:d.params.defaults=[]) (hr:Room k callerA)
 (hY:∀(w:World) (h:Heap),YP w h->(K w.params).In h)
 (F:∀(w:World) (mg:Str->Option Value) (fa:Addr) (h:Heap),(K w.params).In h->h.Ns mainGlobals mg->mg d.name=some (.ref fa)→
  ∃fd:FuncData,(∀(s:Shared) (u:Value),BindsTo s fd ⟨[u],[]⟩ [(x,u)])∧
   ∀base:Heap,(K w.params).In base->base.Ns mainGlobals mg->FnOk l.prog w (K w.params) mg base (CX w) k fa fd [x] (sp w))
 (hsp:∀(w:World) (H:Hp) (a:Addr) (ns:List Int),ns.length<=n->b2S H->SqL (K w.params) H a (ns.map V.int)->sp w [.ref a] H (fun v _=>v=.bl true) fun _ _ _=>False)
 (hCX:∀(w:World) (H:Hp) (s:Shared) (e:Value) (s':Shared),CX w [] H s (fun _ _ _=>False) e s'->False):
 PySem.W.WalkO q loose XP YP l.row.toRowW d [] (fun f vs=>PySem.call f vs):=by
 refine Att.a6J hn hdf fun w s₀ s₁ mg mb fa o pm cd doc a vs ns G Y ho hd hcd hmg hobj hints hlen hg=>?_
 have KX:=hY w _ Y;obtain⟨fd,hb,hF⟩:=F w mg fa _ KX G.T.g hmg;exact b1z KX G.T.g G.T.b G.T.builtins G.T.nolimit hg hobj hints (aR hlen hn2) hr hF hb (fun H hO hS=>hsp w H a ns hlen hO hS) fun H e s'=>hCX w H s₁ e s'
noncomputable def b4m(s:Stmt)(j:Nat):Stmt:=match s with
 |.ClassDef _ _ _ body _ _ _ _ _ _ _=>body.getD j (.Pass ⟨0,0,0,0⟩)
 |_=>.Pass ⟨0,0,0,0⟩
noncomputable def T1(s:Stmt):Arguments:=match s with
 |.FunctionDef _ a _ _ _ _ _ _ _ _=>a
 |_=>{posonlyargs:=[],args:=[],vararg:=none,kwonlyargs:=[],kw_defaults:=[],kwarg:=none,defaults:=[]}
noncomputable def L7(s:Stmt):List Stmt:=match s with
 |.FunctionDef _ _ b _ _ _ _ _ _ _=>b
 |_=>[]
noncomputable def t8(s:Stmt):Scope:=match s with
 |.FunctionDef _ _ _ _ _ _ sc _ _ _=>sc
 |_=>{kind:=.function,names:=[],isGenerator:=false,isCoroutine:=false}
abbrev CX0:CXT:=fun _ _ _ _ _ _=>False
abbrev E0:XK:=fun _ _ _=>False
variable{X:Cx}
theorem b5p:a3y CX0 X E0:=fun _ _ _ _ _ _ _ h=>h.elim
structure Fun(K:PySem.W.Frag)(x qual:Str)(st:Stmt)(f:Addr)(fd:FuncData):Prop where
 ex:∃(oc:Value) (od:Option Addr) (kV doc pm:Value) (an:Option Addr) (cdv ct:Value) (osl:Array (Option Value)),
  fd=PySem.W.fnOf x qual (T1 st) (L7 st) (t8 st) .none kV doc pm an cdv ct/\K.lookup f=some ⟨oc,od,.func fd,osl⟩/\PySem.W.codeIn K cdv qual=true
 kp:PySem.W.keepIn K (.ref f)=true
variable{qual:Str}{st:Stmt}{N:List Str}{ps:List Str}{oc:Value}{od:Option Addr}{an:Option Addr}{osl:Array (Option Value)}{doc:Value}{pm:Value}{cdv:Value}{ct:Value}
section
variable{base:Heap}
theorem Fun.binds{f:Addr}(F:Fun K x qual st f fd)
 (h:∀(kV doc pm:Value) (an:Option Addr) (cdv ct:Value) (us:List Value),us.length=ps.length->bindArgs (PySem.W.fnOf x qual (T1 st) (L7 st) (t8 st) .none kV doc pm an cdv ct) ⟨us,[]⟩=pure (ps.zip us)):T3 K fd ps []:=by
 obtain⟨oc,od,kV,doc,pm,an,cdv,ct,osl,rfl,lk,hcd⟩:=F.ex;exact .all (h kV doc pm an cdv ct)
theorem b1V{f:Addr}{kV:Value}(l:K.lookup f=some ⟨oc,od,.func (PySem.W.fnOf x qual (T1 st) (L7 st) (t8 st) .none kV doc pm an cdv ct),osl⟩)
 (c:PySem.W.codeIn K cdv qual=true) (k:PySem.W.keepIn K (.ref f)=true):Fun K x qual st f (PySem.W.fnOf x qual (T1 st) (L7 st) (t8 st) .none kV doc pm an cdv ct):=⟨⟨oc,od,kV,doc,pm,an,cdv,ct,osl,rfl,l,c⟩,k⟩
end
variable{A:Around}{pos:Pos}
section
theorem pv(i:Nat)(hN:X.N[i]? =some x:=by rfl)(hv:Vis X.env.scope x:=by first|exact Or.inl rfl|exact Or.inr (Or.inl rfl)|exact Or.inr (Or.inr rfl))(hd:(x==("__debug__":Str))=false:=by decide)
 (hcd:(x==("__classdict__":Str))=false:=by decide):PE X (.Name x pos) (b8k i):=b0Y hN hv hd hcd
end
theorem b6R{A B:Prop}(h:B):if false=true then A else B:=by
 rw[az bx];exact h
theorem b6Q{A B:Prop}(h:A):if true=true then A else B:=by
 rw[ay rfl];exact h
def c1L(H H':Hp):Prop:=∀b o,H b=some o->H' b=some o
variable{H:Hp}{H':Hp}
noncomputable def J1(cells:List (Str×Addr)):List (Str×NameKind)->List (Str×Addr)->List (Str×Addr)
 |[],acc=>acc
 |(n,k)::r,acc=>if k=NameKind.free then(match cells.lookup n with|some c=>J1 cells r ((n,c)::acc)|none=>J1 cells r acc) else J1 cells r acc
theorem V0{cells:List (Str×Addr)}{x:Str}{c:Addr}:∀{l:List (Str×NameKind)} {acc:List (Str×Addr)},(x,c)∈J1 cells l acc->(x,c)∈acc∨((x,NameKind.free)∈l/\cells.lookup x=some c)
 |[],_,h=>.inl h
 | (n, k)::r,acc,h=>by
  unfold J1 at h
  by_cases hk:k=NameKind.free
  · rw [ay hk] at h
    cases e:cells.lookup n with
    |none=>
     rw[e] at h
     rcases V0 h with q|⟨q,z⟩
     · exact .inl q
     · exact .inr ⟨aD _ q,z⟩
    |some d=>
     rw[e] at h
     rcases V0 h with q|⟨q,z⟩
     · rcases aE.mp q with q|q
       · cases q;exact .inr ⟨by rw[hk];exact bh,e⟩
       · exact .inl q
     · exact .inr ⟨aD _ q,z⟩
  · rw[az hk] at h
    rcases V0 h with q|⟨q,z⟩
    · exact .inl q
    · exact .inr ⟨aD _ q,z⟩
theorem a0I{cells:List (Str×Addr)}{p:Str×Addr}:∀{l:List (Str×NameKind)} {acc:List (Str×Addr)},p∈acc->p∈J1 cells l acc
 |[],_,h=>h
 | (n,k)::r,acc,h=>by
  unfold J1
  by_cases hk:k=NameKind.free
  · rw[ay hk]
    cases e:cells.lookup n with
    |none=>exact a0I h
    |some d=>exact a0I (aD _ h)
  · rw[az hk];exact a0I h
theorem a1w{cells:List (Str×Addr)}{x:Str}{c:Addr}(hc:cells.lookup x=some c):∀{l:List (Str×NameKind)} {acc:List (Str×Addr)},(x,NameKind.free)∈l->(x,c)∈J1 cells l acc
 | (n,k)::r,acc,h=>by
  unfold J1
  rcases aE.mp h with q|q
  · cases q;rw[ay rfl,hc];exact a0I bh
  · by_cases hk:k=NameKind.free
    · rw[ay hk]
      cases e:cells.lookup n with
      |none=>exact a1w hc q
      |some d=>exact a1w hc q
    · rw[az hk];exact a1w hc q
theorem a3D{cl:List (Str×Addr)}{c:Addr}:(∀d,(x,d)∈cl->d=c)->(x,c)∈cl->cl.lookup x=some c:=by
 induction cl with
 |nil=>intro _ h;cases h
 |cons p r ih=>
  intro ha h;obtain⟨n,d⟩:=p;rw[lookup_cons]
  by_cases e:x=n
  · subst e;rw[beq_self_eq_true];rw[ha d bh]
  · rw[show(x==n)=false from beq_eq_false_iff_ne.mpr e];refine ih (fun d' hd'=>ha d' (aD _ hd')) ?_
    rcases aE.mp h with q|q
    · cases q;exact absurd rfl e
    · exact q
variable{cells:List (Str×Addr)}{l:List (Str×NameKind)}
theorem a1s{c:Addr}(hl:(x,NameKind.free)∈l)(hc:cells.lookup x=some c):(J1 cells l []).lookup x=some c:=
 a3D (fun d hd=>by
  rcases V0 hd with q|⟨_,z⟩
  · cases q
  · rw[hc] at z;exact(ax z).symm) (a1w hc hl)
theorem O0{c:Addr}(h:(J1 cells l []).lookup x=some c):cells.lookup x=some c:=by
 rcases V0 (PySem.mem_of_lookup h) with q|⟨_,z⟩
 · cases q
 · exact z
theorem a0W{env:Env}{f:Str×NameKind->List (Str×Addr)->Sem (ForInStep (List (Str×Addr)))}
 (hf:∀n k r,f (n,k) r=if(k==NameKind.free)=true then(cellOf env n>>=fun a=>pure (ForInStep.yield ((n,a)::r))) else pure (ForInStep.yield r)):
 ∀(l:List (Str×NameKind)) (acc:List (Str×Addr)),(∀y∈l,y.2=NameKind.free->∃c,env.cells.lookup y.1=some c)->(forIn l acc f:Sem (List (Str×Addr)))=pure (J1 env.cells l acc)
 |[],acc,_=>rfl
 | (n,k)::r,acc,h=>by
  rw[List.forIn_cons,hf];unfold J1
  by_cases hk:k=NameKind.free
  · subst hk;obtain⟨c,hc⟩:=h (n,.free) bh rfl
    have hc':env.cells.lookup n=some c:=hc
    have e1:cellOf env n=pure c:=by unfold cellOf;rw[hc']
    rw[ay (beq_self_eq_true _),ay rfl,e1,hc'];simp only[pure_bind];exact a0W hf r _ fun y hy=>h y (aD _ hy)
  · have hb:¬(k==NameKind.free)=true:=fun z=>hk (by simpa using z)
    rw[az hb,az hk];simp only[pure_bind];exact a0W hf r _ fun y hy=>h y (aD _ hy)
variable{scope:Scope}{env:Env}
theorem a0O(h:∀y∈scope.names,y.2=NameKind.free->∃c,env.cells.lookup y.1=some c):closureFor scope env=pure (J1 env.cells scope.names []):=by
 unfold closureFor
 dsimp only
 rw[a0W (env:=env) (fun n k r=>by rfl) scope.names [] h]
 rfl
theorem a1Z{k:NameKind}(h:(relabel scope env).names.lookup x=some k):(x,k)∈scope.names∨((x,NameKind.free)∈scope.names/\k=.cell):=by
 obtain⟨⟨n,k'⟩,hm,e⟩:=ak.mp (PySem.mem_of_lookup h)
 dsimp only at e
 split at e
 · rename_i hc;cases e
   have hk:k'=NameKind.free:=by simp only[ae,beq_iff_eq] at hc;exact hc.1.1
   exact .inr ⟨hk▸hm,rfl⟩
 · cases e;exact .inl hm
theorem a1m{env:Env}:∀{names:List (Str×NameKind)} {x:Str},names.lookup x=some .free→
 (names.map fun(n,k)=>if(k==NameKind.free&&env.scope.kind==.function&&env.kindOf n==some .cell) then(n,NameKind.cell) else(n,k)).lookup x=some .cell∨
 (names.map fun(n,k)=>if(k==NameKind.free&&env.scope.kind==.function&&env.kindOf n==some .cell) then(n,NameKind.cell) else(n,k)).lookup x=some .free
 |[],_,h=>by simp at h
 | (n,k)::r,x,h=>by
  have ih:= @a1m env r x;rw[map_cons]
  cases hx:x==n with
  |true=>
   simp only[lookup_cons,hx] at h;cases h
   by_cases hc:(NameKind.free==NameKind.free&&env.scope.kind==.function&&env.kindOf n==some .cell)=true
   · refine .inl ?_;simp only[ay hc,lookup_cons,hx]
   · refine .inr ?_;simp only[az hc,lookup_cons,hx]
  |false=>
   simp only[lookup_cons,hx] at h
   by_cases hc:(k==NameKind.free&&env.scope.kind==.function&&env.kindOf n==some .cell)=true
   · simp only[ay hc,lookup_cons,hx];exact ih h
   · simp only[az hc,lookup_cons,hx];exact ih h
structure CompScope(sc scope:Scope)(own frees:List Str):Prop where
 kind:scope.kind=.function
 nocell:∀y∈scope.names,y.2≠.cell
 locs:∀y∈scope.names,y.2=.local->scope.names.lookup y.1=some .local
 out:∀y∈scope.names,y.2=.free->sc.names.lookup y.1=some .cell
 nd:(own++frees).Nodup
 ownL:∀x∈own,scope.names.lookup x=some .local
 fr:∀x∈frees,scope.names.lookup x=some .free
def p0(X:Cx)(own frees:List Str)(scope:Scope)(C:Addr)(s₀:Shared)(H₀:Hp)(ex:List Addr):Cx:=
 { prog:=X.prog,w:=X.w,K:=X.K,mg:=X.mg,base:=X.base,A:=X.A,N:=own++frees,s₀:=s₀,H₀:=H₀,env:=compEnvC scope (J1 X.env.cells scope.names []) C X.env,
   outer:=X.stack,stack:=X.stack,ex:=ex,fn:=fun _=>false,calm:=X.calm,pn:=[],xe:=fun _ _=>False}
noncomputable def D0(own:List Str)(js:List Nat)(σ:St):St:=own.map (fun _=>none)++js.map (fun j=>(σ[j]?).join)
def Wk(σ σ':St):Prop:=σ.length=σ'.length/\∀(i:Nat) (v:V),σ[i]? =some (some v)->σ'[i]? =some (some v)
variable{σ:St}{i:Nat}{v:V}
def a6L(X:Cx)(ifs:List Expr)(t:TT):Prop:=
 ∀(pins:List (Addr×Obj)) (s:Shared) (σ:St) (H:Hp) (Q:Bool->Hp->Prop),Inv X pins σ H s->t σ H Q→
  wpAny (model X.prog X.w) X.A (forIn ifs true fun c r=>if r=true then do let ok←isTrue c X.env (eval c X.env);pure (ForInStep.yield ok) else pure (ForInStep.yield r)) (TP X pins σ Q) X.xe s
theorem b3J:a6L X [] (fun _ H Q=>Q true H):=fun _ _ _ H _ I h=>wpAny_tests_nil ⟨H,I,h⟩
variable{c:Expr}
theorem b3I{t:TT}(h:PT X c t):a6L X [c] t:=fun pins s σ H Q I q=>wpAny_tests_one (h pins s σ H Q I q)
variable{iter:Expr}
section
variable{prog:Program}{R:Result->Shared->Prop}{s:Shared}
theorem a5q{elt target:Expr}{ifs:List Expr}{it acc:Value}(I:Nat->Shared->Prop)
 (turn:∀n s,I n s->wpAny (model prog w) A (pyNext it) (fun r s₁=>match r with
  |none=>R (.ok .next) s₁
  | some v=>wpAny (model prog w) A (letOwnedTupleGo target it v) (fun _ s₁'=>wpAny (model prog w) A (assign target env v) (fun _ s₂=>
   wpAny (model prog w) A (forIn ifs true fun c r=>if r=true then do let ok←isTrue c env (eval c env);pure (ForInStep.yield ok) else pure (ForInStep.yield r)) (fun ok s₃=>
    if ok=true then wpAny (model prog w) A (eval elt env) (fun x s₄=>
     wpAny (model prog w) A (call (.builtin "list.append") [acc,x]) (fun _ s₅=>∃m,m<n/\I m s₅) (fun _ _=>False) s₄) (fun _ _=>False) s₃
    else∃m,m<n/\I m s₃) (fun _ _=>False) s₂) (fun _ _=>False) s₁') (fun _ _=>False) s₁) (fun _ _=>False) s)
 (n:Nat) (h:I n s):codeAny (model prog w) A (.compLoop (.ListComp elt [⟨target,iter,ifs,0⟩] scope pos) 0 it acc env) R s:=by
 have no:∀{α:Type} {t:Sem α} {Q:α->Shared->Prop} {E:Value->Shared->Prop} {s:Shared},wpAny (model prog w) A t Q (fun _ _=>False) s->wpAny (model prog w) A t Q E s:=
  fun h=>wpAny_mono h (fun _ _ q=>q) fun _ _ z=>z.elim
 refine codeAny_loop rfl I (fun n s hI=>?_) n h
 show wpAny _ A ((compTurn (.ListComp elt [⟨target,iter,ifs,0⟩] scope pos) 0 it acc env).onRaise (fun x=>do noteFrame x env;theTreesLotGoes x)) _ _ s
 refine wpAny_noted ?_
 rw[compTurn_list];refine wpAny_bind (wpAny_standAt (wpAny_bind (no (wpAny_mono (turn n s hI) (fun r s₁ h₁=>?_) fun _ _ h'=>h'))))
 cases r with
 |none=>exact wpAny_pure h₁
 | some v=>
  refine wpAny_bind (no (wpAny_mono h₁ (fun _ s₁' h₁'=>?_) fun _ _ h'=>h'))
  refine wpAny_bind (no (wpAny_mono h₁' (fun _ s₂ h₂=>wpAny_bind (no (wpAny_mono h₂ (fun ok s₃ h₃=>?_) fun _ _ h'=>h'))) fun _ _ h'=>h'))
  cases ok with
  |false=>exact wpAny_pure ⟨rfl,h₃⟩
  |true=>
   exact wpAny_bind (wpAny_bind (no (wpAny_mono h₃ (fun x s₄ h₄=>wpAny_bind (no (wpAny_mono h₄ (fun _ s₅ h₅=>wpAny_pure (wpAny_pure ⟨rfl,h₅⟩)) fun _ _ h'=>h'))) fun _ _ h'=>h')))
end
variable{h:Heap}{h':Heap}
def a7G(own:List Str)(js:List Nat)(wi:TI)(g:TG)(tc:TT)(te:TE):TE:=fun σ H Q=>wi σ H fun J H1=>∀D,H1 D=none→
 ∃ W:Nat->Nat->List V->Hp->Prop,(∃m,W 0 m [] (upd H1 D (.lst [])))/\∀i m ys H2,W i m ys H2→
  (J.stop i H2/\Q (.ref D) H2)∨(J.go i H2/\∀x H3,J.yld i H2 x H3->g x (D0 own js σ) H3 fun σ4 H4=>Wk (D0 own js σ) σ4/\tc σ4 H4 fun b H5=>
   if b=true then te σ4 H5 fun y H6=>H6 D=some (.lst ys)/\ys.length<sizeLine/\∃m',m'<m/\W (i+1) m' (ys++[y]) (upd H6 D (.lst (ys++[y])))
   else∃m',m'<m/\W (i+1) m' ys H5)
variable{pins:List (Addr×Obj)}{s:Shared}{C:Addr}{fp:List Addr}{s':Shared}{m:Str->Option Value}
section
variable{elt tg:Expr}{ifs:List Expr}{own frees:List Str}{js:List Nat}{wi:TI}{g:TG}{tc:TT}{te:TE}
theorem b4X(I:Inv X pins σ H s)(S:CompScope X.env.scope scope own frees)(hC:s.heap.objs.size<=C)
 (hf:∀b∈fp,a2l X pins H b) (ho:∀b∈fp,∃o,s.heap.get? b=some o):(p0 X own frees scope C s H fp).Ok:=by
 have cellX:∀x c,(J1 X.env.cells scope.names []).lookup x=some c->X.env.cells.lookup x=some c:=fun x c e=>O0 e
 refine⟨I.ok.mod,S.kind,I.ok.glob,I.ok.blt,hC,fun x y c h1 h2=>I.ok.inj x y c (cellX x c h1) (cellX y c h2),fun x hx=>?_,fun x c h=>(bx h).elim,I.ok.hd,I.ok.frames,.inl rfl,fun b hb=>⟨?_,fun x c e=>(hf b hb).2.2.2.2.1 x c (cellX x c e)⟩,
  I.bs,aR I.ok.bsz I.sz,fun b o e hb=>?_,fun b hb hm=>?_,I.stack,I.stkFree⟩
 · have hx':(relabel scope X.env).names.lookup x=some .cell∨(relabel scope X.env).names.lookup x=some .free:=hx
   have hm:(x,NameKind.free)∈scope.names:=by
    rcases hx' with q|q
    · rcases a1Z q with z|z
      · exact absurd rfl (S.nocell _ z)
      · exact z.1
    · rcases a1Z q with z|z
      · exact z
      · exact z.1
   obtain⟨c,hc⟩:=I.ok.has x (.inl (S.out _ hm rfl));exact⟨c,a1s hm hc⟩
 · intro e;obtain⟨o,q⟩:=ho b hb
   have e':b=C:=e
   have:=Heap.lt_size q
   rw[e'] at this;exact absurd (aC this hC) (aP _)
 · rcases(hf b hb).2.2.2.1 with z|z
   · exact I.ok.noex b o e z
   · exact absurd (aC (aC (Heap.lt_size e) I.ok.bsz) z) (aP _)
 · rcases aE.mp (I.stkSub b hm) with z|z
   · exact(hf b hb).2.1 z
   · exact(hf b hb).2.2.1 z
theorem b2x (I:Inv X pins σ H s) (S:CompScope X.env.scope scope own frees) (hj:frees.map some=js.map (X.N[·]?)) (hC:s.heap.objs.size<=C)
 (hf:∀b∈fp,a2l X pins H b) (ho:∀b∈fp,∃o,s.heap.get? b=some o) (os:s'.os=s.os) (bare:AllBare s'.gens) (k:∀b o,s.heap.get? b=some o->s'.heap.get? b=some o) (un:Un (frs X.stack) fp H H' s.heap s'.heap)
 (hn:s'.heap.Ns C m) (hCn:H' C=none) (hok:HOk X.prog X.w H' s'.heap) (hcl:∀x c,X.env.cells.lookup x=some c->H' c=none):
 Inv (p0 X own frees scope C s H fp) [] (D0 own js σ) H' s':=by
 have hlen:frees.length=js.length:=by have:=congrArg List.length hj;simpa using this
 refine⟨b4X I S hC hf ho,os,bare,un,⟨m,hn,fun i x v h1 h2 h3=>?_⟩,fun x c e=>?_,hCn,fun x c e=>hcl x c (O0 e),fun p hp=>absurd (show p∈([]:List (Addr×Obj)) from hp) (by simp),hok,?_⟩
 · have h1':(own++frees)[i]? =some x:=h1
   unfold D0 at h2
   by_cases hi:i<own.length
   · rw[av (by simpa using hi),aj] at h2
     cases q:own[i]? with
     |none=>rw[q] at h2;cases h2
     |some z=>rw[q] at h2;cases h2
   · have hi':own.length<=i:=aX hi
     rw[aq hi'] at h1'
     rw[aq (by simpa using hi'),aa,aj] at h2
     cases q:js[i-own.length]? with
     |none=>rw[q] at h2;cases h2
     | some j=>
      rw[q] at h2
      have h2':(σ[j]?).join=some v:=ax h2
      have hσ:σ[j]? =some (some v):=by
       cases z:σ[j]? with
       |none=>rw[z] at h2';cases h2'
       |some w'=>rw[z] at h2';exact congrArg some h2'
      have hX:X.N[j]? =some x:=by
       have e:=congrArg (fun l=>l[i-own.length]?) hj
       rw[aj,aj,h1',q] at e
       exact(ax e).symm
      have hm:(x,NameKind.free)∈scope.names:=PySem.mem_of_lookup (S.fr x (aG h1'))
      have ho':=S.out _ hm rfl
      obtain⟨m0,hn0,hl0⟩:=I.loc;obtain⟨u,ru,l⟩:=hl0 j x v hX hσ (.inr (.inl ho'));refine⟨u,ru,?_⟩
      rcases l with⟨q1,_⟩|⟨_,c,e,z⟩
      · have q1':X.env.scope.names.lookup x=some .local:=q1
        rw[ho'] at q1';cases q1'
      · refine .inr ⟨a1m (S.fr x (aG h1')),c,a1s hm e,?_⟩
        obtain⟨o,eo,d⟩:=z;exact⟨o,k c o eo,d⟩
 · obtain⟨v,o,eo,d⟩:=I.cell x c (O0 e);exact⟨v,o,k c o eo,d⟩
 · show(D0 own js σ).length=(own++frees).length
   unfold D0;rw[ap,aa,aa,ap,hlen]
end
variable{Q:Value->Shared->Prop}
section
def c0Z:V->Option Int->Option Int->Hp->VK->Prop:=fun x lo hi H Q=>∃z,x=.str z/\z.length<=sizeLine/\Q (.str (Txt.slice z lo hi)) H
theorem b5L:SlR X c0Z:=by
 intro pins s σ H x v vl vu lo hi sl Q I rx hs pl pu h;obtain⟨z,rfl,hz,q⟩:=h;obtain⟨t,rfl⟩:=rx
 have fin:∀(t':Tok) (k:Nat),EP X pins σ Q (.str (Txt.slice z lo hi) t') {s with toks:=k}:=fun t' k=>⟨.str _,H,I.tok _,⟨_,rfl⟩,q⟩
 refine⟨"str",_,PySem.F.slot_str_getitem.lookup,typeIs_str _ _ _,?_⟩
 obtain⟨o,e1,e2,e3⟩:=hs
 cases pl with
 |none=>
  cases pu with
  |none=>exact wpAny_getItem_str_slice (l:=none) (u:=none) (st:=none) ⟨o,e1,e2,e3⟩ rfl (post_val_or_str ⟨aR (Txt.slice_le z _ _) hz,fun t' k=>fin t' k⟩)
  |int j uj=>exact wpAny_getItem_str_slice (l:=none) (u:=some (j,uj)) (st:=none) ⟨o,e1,e2,e3⟩ rfl (post_val_or_str ⟨aR (Txt.slice_le z _ _) hz,fun t' k=>fin t' k⟩)
 |int i ui=>
  cases pu with
  |none=>exact wpAny_getItem_str_slice (l:=some (i,ui)) (u:=none) (st:=none) ⟨o,e1,e2,e3⟩ rfl (post_val_or_str ⟨aR (Txt.slice_le z _ _) hz,fun t' k=>fin t' k⟩)
  |int j uj=>exact wpAny_getItem_str_slice (l:=some (i,ui)) (u:=some (j,uj)) (st:=none) ⟨o,e1,e2,e3⟩ rfl (post_val_or_str ⟨aR (Txt.slice_le z _ _) hz,fun t' k=>fin t' k⟩)
theorem a3H:∀l:List (Str×Tok),k7 ((l.map (·.1)).map V.str) (strValues l)
 |[]=>.nil
 |(x,t)::r=>.cons ⟨t,rfl⟩ (a3H r)
theorem a3J:∀{xs:List Str} {us:List Value},k7 (xs.map V.str) us->∃l:List (Str×Tok),us=strValues l/\l.map (·.1)=xs
 |[],us,r=>by
  rw[map_nil] at r;cases r;exact⟨[],rfl,rfl⟩
 | x::xs,us,r=>by
  rw[map_cons] at r
  cases r with
  |cons r1 r2=>
   obtain⟨t,rfl⟩:=r1;obtain⟨l,rfl,rfl⟩:=a3J r2;exact⟨(x,t)::l,rfl,rfl⟩
def b5Q:V->List V->Hp->VK->Prop:=fun x vs H Q=>∃z y,x=.str z/\vs=[.str y]/\0<y.length/\z.length+2<=sizeLine/\∀p,H p=none->Q (.ref p) (upd H p (.lst ((Txt.split z y).map V.str)))
theorem b1p:MtR X "str.split" b5Q:=by
 intro pins s σ H x vs v us Q I rx rv h;obtain⟨z,y,rfl,rfl,hy0,hz,q⟩:=h;obtain⟨t,rfl⟩:=rx;obtain⟨u,rfl,tu,rfl⟩:=rv.one
 have hy:(y.length==0)=false:=by
  rw[beq_eq_false_iff_ne];omega
 have fin:∀(l:List (Str×Tok)) (k:Nat),l.map (·.1)=Txt.split z y->EP X pins σ Q (.ref s.heap.objs.size) {s with toks:=k,heap:=s.heap.push {cls:=.type "list",data:=.seq (strValues l).toArray}}:=fun l k e=>by
  refine⟨.ref s.heap.objs.size,upd H s.heap.objs.size (.lst ((Txt.split z y).map V.str)),?_,rfl,q _ (I.hok.fresh (ai _))⟩
  refine I.laid (t':=k) (fun b o e=>Heap.get?_push_of_some _ e) (ai _) ⟨?_,strValues l,0,?_,Heap.get?_push_size _ rfl⟩
  · rw[aa];exact aR (split_le z y) hz
  · rw[←e];exact a3H l
 cases h1:(decide (z.length<y.length)||decide (Builtin.Str.strKind z<Builtin.Str.strKind y))
 · cases hf:(Builtin.Str.occurrences z y 0 z.length (z.length+1)).isEmpty
   · have es:Txt.split z y=Builtin.Str.partsBetween z (Builtin.Str.occurrences z y 0 z.length (z.length+1)) y.length:=(az (ne_true_of_eq_false h1)).trans (az (ne_true_of_eq_false hf))
     refine call_meets PySem.F.slot_str_split (typeIs_str _ _ _) PySem.F.entry_str_split (PySem.F.args_str_split_2 _ _) (meets_str_split_sep z y t tu h1 hy hf (by omega) (by rw[←es];exact aR (split_le z y) hz)) ?_
     show wants _ _ _ {s with toks:=_,heap:=s.heap.push {cls:=.type "list",data:=.seq (strsFrom s.toks (Builtin.Str.partsBetween z (Builtin.Str.occurrences z y 0 z.length (z.length+1)) y.length)).toArray}}
     rw[strsFrom_eq];exact fin (numbered s.toks _) _ ((numbered_texts _ _).trans es.symm)
   · exact call_meets PySem.F.slot_str_split (typeIs_str _ _ _) PySem.F.entry_str_split (PySem.F.args_str_split_2 _ _) (meets_str_split_not_found z y t tu h1 hy hf)
      (fin [(z,t)] s.toks ((az (ne_true_of_eq_false h1)).trans (ay hf)).symm)
 · exact call_meets PySem.F.slot_str_split (typeIs_str _ _ _) PySem.F.entry_str_split (PySem.F.args_str_split_2 _ _) (meets_str_split_cannot_occur z y t tu h1)
    (fin [(z,t)] s.toks (ay h1).symm)
def b3w:V->List V->Hp->VK->Prop:=fun x vs H Q=>∃z y,x=.str z/\vs=[.str y]/\Q (.bl (Txt.startswith z y)) H
theorem a9r:MtR X "str.startswith" b3w:=by
 intro pins s σ H x vs v us Q I rx rv h;obtain⟨z,y,rfl,rfl,q⟩:=h;obtain⟨t,rfl⟩:=rx;obtain⟨u,rfl,tu,rfl⟩:=rv.one;exact call_gives PySem.F.slot_str_startswith (typeIs_str _ _ _) PySem.F.entry_str_startswith (PySem.F.args_str_startswith_2 _ _) (gives_str_startswith z y t tu) ⟨.bl _,H,I,rfl,q⟩
def b8I(K:PySem.W.Frag):V->List V->Hp->VK->Prop:=fun x vs H Q=>∃z p ts,x=.str z/\vs=[.ref p]/\SqL K H p (ts.map V.str)/\JoinOk z ts=true/\Q (.str (Txt.join z ts)) H
theorem b4b:MtR X "str.join" (b8I X.K):=by
 intro pins s σ H x vs v us Q I rx rv h;obtain⟨z,p,ts,rfl,rfl,hp,hok,q⟩:=h;obtain⟨t,rfl⟩:=rx;obtain⟨u,rfl,ru⟩:=rv.one;cases ru;obtain⟨its,r,pl,hz⟩:=I.list hp;obtain⟨l,rfl,e⟩:=a3J r;exact SC.join pl.isList e hok fun t' k=>⟨.str _,H,I.tok _,⟨_,rfl⟩,q⟩
theorem a6F:∀{bs:List Bool} {us:List Value},k7 (bs.map V.bl) us->us=bs.map Value.bool
 |[],us,r=>by
  rw[map_nil] at r;cases r;rfl
 | b::bs,us,r=>by
  rw[map_cons] at r
  cases r with
  |cons r1 r2=>
   cases r1;rw[a6F r2];rfl
theorem a9g(bs:List Bool)(p:Bool->Bool):(List.range bs.length).all (fun i=>p (bs.getD i true))=bs.all p:=by
 induction bs with
 |nil=>rfl
 |cons b r ih=>
  rw[length_cons,List.range_succ_eq_map,all_cons,all_map,all_cons,←ih];rfl
theorem a9f(bs:List Bool)(p:Bool->Bool):(List.range bs.length).any (fun i=>p (bs.getD i true))=bs.any p:=by
 induction bs with
 |nil=>rfl
 |cons b r ih=>
  rw[length_cons,List.range_succ_eq_map,any_cons,List.any_map,any_cons,←ih];rfl
theorem a4o{p:Addr}{bs:List Bool}(hc:X.calm=true)(I:Inv X pins σ H s)(hp:SqL X.K H p (bs.map V.bl)){E:Value->Shared->Prop}{f:(Nat->Bool)->Bool}
 (hq:∀s',Inv X pins σ H s'->Q (.bool (f fun i=>bs.getD i true)) s'):
 wpAny (model X.prog X.w) X.A.in1 (pyIter (.ref p)) (fun it s₂=>∃I fp wr n P St tr,it=.ref I/\Walks X.prog X.w X.A.in1 I fp wr n P St/\St 0 s₂.heap/\TruthOf X.prog X.w X.A.in1 P tr/\n=bs.length∧
  ∀h' tk,(∀b o,b∉wr->s₂.heap.get? b=some o->h'.get? b=some o)->Q (.bool (f tr)) {s₂ with heap:=h',toks:=tk}) E s:=by
 obtain⟨its,r,pl,hz⟩:=I.list hp;have e:=a6F r;subst e
 have hne:p≠s.heap.objs.size:=by
  obtain⟨o,n,e,_⟩:=pl;exact Nat.ne_of_lt (Heap.lt_size e)
 refine wpAny_pyIter_list pl.isList ⟨s.heap.objs.size,_,_,_,_,_,fun i=>bs.getD i true,rfl,Walks.list (A:=X.A.in1) (I.ok.hd hc) s.heap.objs.size p hne (bs.map Value.bool).toArray,⟨⟨_,Heap.get?_push_size _ rfl,rfl,rfl⟩,?_⟩,?_,?_,?_⟩
 · exact pl.isList.at fun o e=>Heap.get?_push_of_some _ e
 · intro i v s' Q' E' hP hQ
   have hP':(bs.map Value.bool).toArray[i]? =some v:=hP
   rw[List.getElem?_toArray,aj] at hP'
   cases q:bs[i]? with
   |none=>rw[q] at hP';cases hP'
   |some b=>
    rw[q] at hP';cases hP'
    have:bs.getD i true=b:=by rw[bD,q];rfl
    have hQ':Q' b s':=this▸hQ
    exact wpAny_truthy_bool hQ'
 · simp
 · intro h' tk k
   exact hq _ (I.kept fun b o e=>k b o (by
    have:=Nat.ne_of_lt (Heap.lt_size e)
    simpa using this) (Heap.get?_push_of_some _ e))
theorem b2C(hc:X.calm=true):B8 X (.builtin "all") (fun xs H Q=>∃(p:Addr) (bs:List Bool),xs=[.ref p]/\SqL X.K H p (bs.map V.bl)/\Q (.bl (bs.all id)) H):=by
 intro pins s σ H xs us Q I r h;obtain⟨p,bs,rfl,hp,q⟩:=h;obtain⟨u,rfl,ru⟩:=M9 r;cases ru;refine call_all_walk (thn (a4o (f:=fun tr=>(List.range bs.length).all tr) (Q:=EP X pins σ Q) hc I hp fun s' I'=>⟨.bl (bs.all id),H,I',?_,q⟩) fun it s2 ⟨i,fp,wr,n,P,St,tr,e1,e2,e3,e4,e5,e6⟩=>⟨i,fp,wr,n,P,St,tr,e1,e2,e3,e4,?_⟩)
 · show Value.bool _=Value.bool _
   exact congrArg Value.bool (a9g bs id)
 · subst e5;exact e6
theorem b2B(hc:X.calm=true):B8 X (.builtin "any") (fun xs H Q=>∃(p:Addr) (bs:List Bool),xs=[.ref p]/\SqL X.K H p (bs.map V.bl)/\Q (.bl (bs.any id)) H):=by
 intro pins s σ H xs us Q I r h;obtain⟨p,bs,rfl,hp,q⟩:=h;obtain⟨u,rfl,ru⟩:=M9 r;cases ru;refine call_any_walk (thn (a4o (f:=fun tr=>(List.range bs.length).any tr) (Q:=EP X pins σ Q) hc I hp fun s' I'=>⟨.bl (bs.any id),H,I',?_,q⟩) fun it s2 ⟨i,fp,wr,n,P,St,tr,e1,e2,e3,e4,e5,e6⟩=>⟨i,fp,wr,n,P,St,tr,e1,e2,e3,e4,?_⟩)
 · show Value.bool _=Value.bool _
   exact congrArg Value.bool (a9f bs id)
 · subst e5;exact e6
theorem a5v:B8 X (.type "int") (fun xs H Q=>∃z n,xs=[.str z]/\z.length<=640/\PySem.intText? z=some n/\Q (.int n) H):=by
 intro pins s σ H xs us Q I r h;obtain⟨z,n,rfl,hz,hn,q⟩:=h;obtain⟨u,rfl,t,rfl⟩:=M9 r;exact PySem.W.KIN.call_text hn hz ⟨.int n,H,I.tok _,⟨_,rfl⟩,q⟩
end
section
theorem Inv.turnedF{t':Nat}(I:Inv X pins σ H s)(hf:∀b∈fp,a2l X pins H b)(k:∀b u,b∉fp->s.heap.get? b=some u->h'.get? b=some u):Inv X pins σ H {s with heap:=h',toks:=t'}:=by
 have nit:∀b u,H b=some u->b∉fp:=fun b u e z=>by rw[(hf b z).1] at e;cases e
 refine I.step (g':=s.gens) (d':=s.drawn) (ch:=fp) (fun b hb=>⟨(hf b hb).2.2.2.1,(hf b hb).2.1,(hf b hb).2.2.2.2.1,(hf b hb).2.2.2.2.2⟩) (fun b o _ _ hc e _=>k b o hc e) (fun b o _ _ hc e _=>⟨o.slots,k b o hc e⟩) (fun _ _ _ _ n=>n)
  (fun b o hc e=>⟨o,k b o hc e⟩) (fun _ _ e=>e) (fun _ _ _ e=>e) (fun b ps e=>⟨#[],by rw[e];simp⟩) (fun m hm=>?_) (fun b u e=>?_) I.bare
 · obtain⟨o,es,ep,ho,r⟩:=hm;exact⟨o,es,ep,k _ o (fun z=>(hf _ z).2.1 rfl) ho,r⟩
 · refine(I.hok b u e).stay (fun c v hc q=>k c v ?_ q) (fun _ q=>q) fun _ _ q=>q
   rcases hc with z|z
   · rw[z];exact nit b u e
   · exact nit c _ z
theorem Inv.turnedN{t':Nat}{T:Addr}{o:HO}(I:Inv X pins σ H s)(hf:∀b∈fp,a2l X pins H b)(k:∀b u,b∉fp->s.heap.get? b=some u->h'.get? b=some u)(hT:s.heap.objs.size<=T)(new:C2 X.prog X.w (upd H T o) h' T o):
 Inv X pins σ (upd H T o) {s with heap:=h',toks:=t'}:=by
 have hn:H T=none:=I.hok.fresh hT
 have nit:∀b u,H b=some u->b∉fp:=fun b u e z=>by rw[(hf b z).1] at e;cases e
 have ne:∀b u,s.heap.get? b=some u->b≠T:=fun b u e=>Nat.ne_of_lt (aC (Heap.lt_size e) hT)
 have up:∀b u,H b=some u->upd H T o b=some u:=fun b u e=>by rw[k8 (u0 e hn)];exact e
 refine I.step (g':=s.gens) (d':=s.drawn) (ch:=fp) (fun b hb=>⟨(hf b hb).2.2.2.1,(hf b hb).2.1,(hf b hb).2.2.2.2.1,(hf b hb).2.2.2.2.2⟩) (fun b u _ _ hc e _=>k b u hc e) (fun b u _ _ hc e _=>⟨u.slots,k b u hc e⟩) (fun b u _ e n=>by rw[k8 (ne b u e)];exact n)
  (fun b u hc e=>⟨u,k b u hc e⟩) (fun b xs e=>up b _ e) (fun b u xs e=>up b _ e) (fun b ps e=>⟨#[],by rw[up b _ e];simp⟩) (fun m hm=>?_) (fun b u e=>?_) I.bare
 · obtain⟨u,es,ep,ho,r⟩:=hm;exact⟨u,es,ep,k _ u (fun z=>(hf _ z).2.1 rfl) ho,r⟩
 · by_cases hb:b=T
   · subst hb;rw[b9] at e;cases e;exact new
   · rw[k8 hb] at e;refine(I.hok b u e).stay (fun c v hc q=>k c v ?_ q) (fun c q=>up c _ q) fun c xs q=>up c _ q
     rcases hc with z|z
     · rw[z];exact nit b u e
     · exact nit c _ z
end
noncomputable def Its(x:Str):It:=⟨fun i _=>i<x.cps.size,fun i H v H'=>H'=H/\∃c,x.cps[i]? =some c/\v=.str ⟨#[c]⟩,fun i _=>i=x.cps.size⟩
variable{tg:Expr}
theorem a5I{K:PySem.W.Frag}{ty:String}(x:Str)(t:Tok)(it:Addr)(hty:["enumerate","zip","dict_itemiterator","dict_reverseitemiterator","odict_iterator","itertools.zip_longest","itertools.pairwise"].contains ty=false)
 (W:∀A:Around,A.handled=none->Walks P w A it [it] [it] x.cps.size (SignAt x) (fun i h=>h.IsStrIter it ty x t i))
 (Sf:∀(A:Around) (i:Nat) (s:Shared) (Q:Value->Shared->Prop) (E:Value->Shared->Prop),s.heap.IsStrIter it ty x t i->Q (.ref it) s->wpAny (model P w) A (pyIter (.ref it)) Q E s):Turn P w K tg (Its x) [it] it (fun i h=>h.IsStrIter it ty x t i) where
 mem:=by simp
 obj:=fun i h st b hb=>by
  have e:b=it:=by simpa using hb
  subst e;obtain⟨o,e,c,d⟩:=st;exact⟨o,e,fun v z=>by rw[d] at z;cases z⟩
 keep:=fun i h h' st k=>let⟨o,e,r⟩:=st;⟨o,k it (by simp) o e,r⟩
 item:=by
  intro X hP hw hK hc i pins s σ H E I hf st hg;subst hP hw hK;refine(W X.A (I.ok.hd hc)).item i s _ _ hg st fun v h' tk hv st' kk=>?_
  obtain⟨c,u,hcx,rfl⟩:=hv
  have I1:Inv X pins σ H {s with heap:=h',toks:=tk}:=I.turnedF hf fun b o hb e=>kk b o hb e
  obtain⟨o,e,hcl,d⟩:=id st';exact⟨_,rfl,a8u (s:={s with heap:=h',toks:=tk}) e hcl d hty ⟨.str ⟨#[c]⟩,H,I1,⟨u,rfl⟩,⟨rfl,c,hcx,rfl⟩,st',fun b hb=>(hf b hb).1⟩⟩
 done:=by
  intro X hP hw hK hc i pins s σ H E I hf st hg;subst hP hw hK
  have hg':i=x.cps.size:=hg
  subst hg';exact(W X.A (I.ok.hd hc)).done s _ _ st fun h' tk k=>⟨rfl,I.turnedF (t':=tk) hf fun b o hb e=>k b o hb e⟩
 self:=fun A i s Q E st h=>Sf A i s Q E st h
variable{tb:TS}
section
def c1m(tl:TE):TI:=fun σ H R=>tl σ H fun x H1=>∃z,x=.str z/\R (Its z) H1
theorem b6e{l:Expr}{tl:TE}(hl:PE X l tl):PI X tg l (c1m tl):=by
 intro pins s σ H R I h;refine thn (hl pins s σ H _ I h) fun v s1 ⟨x,H1,I1,r1,z,e,q⟩=>?_
 subst e;obtain⟨t,rfl⟩:=r1
 have fp:∀b∈[s1.heap.objs.size],a2l X pins H1 b:=fun b hb=>by
  have e:b=s1.heap.objs.size:=by simpa using hb
  subst e;exact I1.fpOk (ai _) (I1.hok.fresh (ai _))
 cases ha:z.cps.all (· <128)
 · exact wpAny_pyIter_wide ha ⟨s1.heap.objs.size,[s1.heap.objs.size],_,_,H1,rfl,I1.kept (t':=s1.toks) fun b o e=>Heap.get?_push_of_some _ e,a5I (ty:="str_iterator") z t _ (by decide) (fun A hA=>Walks.strWide hA _ z t) (fun A i s Q E st h=>wpAny_pyIter_striter_wide st h),
    ⟨_,Heap.get?_push_size _ rfl,rfl,rfl⟩,fp,q⟩
 · exact wpAny_pyIter_ascii ha ⟨s1.heap.objs.size,[s1.heap.objs.size],_,_,H1,rfl,I1.kept (t':=s1.toks) fun b o e=>Heap.get?_push_of_some _ e,a5I (ty:="str_ascii_iterator") z t _ (by decide) (fun A hA=>Walks.strAscii hA _ z t) (fun A i s Q E st h=>wpAny_pyIter_striter_ascii st h),
    ⟨_,Heap.get?_push_size _ rfl,rfl,rfl⟩,fp,q⟩
end
def Ite(K:PySem.W.Frag)(l:Addr):It:=⟨fun i H=>∃xs x,SqL K H l xs/\xs[i]? =some x,fun i H v H'=>∃T x,H T=none/\v=.ref T/\(∀xs,SqL K H l xs->xs[i]? =some x)/\H'=upd H T (.tup [.int i,x]),fun i H=>∃xs,SqL K H l xs/\xs.length<=i⟩
variable{elts:List Expr}
theorem a8U{k:Nat}(e it l:Addr)(hei:e≠it):
 Turn P w K (.Tuple elts k pos) (Ite K l) [e,it] e (fun i h=>(∃old,IsEnum h e it i old)/\h.IsListIter it l i) where
 mem:=by simp
 obj :=fun i h st b hb=>by
  obtain⟨⟨old,he⟩,o,e1,c,d⟩:=st
  rcases aE.mp hb with z|z
  · subst z
    exact⟨_,he,fun v z=>by
     have z':Data.fields _=Data.cell v:=z
     cases z'⟩
  · have z':b=it:=by simpa using z
    subst z';exact⟨o,e1,fun v z=>by rw[d] at z;cases z⟩
 keep:=fun i h h' st k=>by
  obtain⟨⟨old,he⟩,hit⟩:=st;exact⟨⟨old,k e (by simp) _ he⟩,hit.at fun o x=>k it (by simp) o x⟩
 item:=by
  intro X hP hw hK hc i pins s σ H E I hf st hg;subst hP hw hK;obtain⟨⟨old,he⟩,hit⟩:=st;obtain⟨xs,x,hq,hx⟩:=hg;obtain⟨its,rv,p,hz⟩:=I.list hq;obtain⟨u,hu,ru⟩:=rv.get hx
  have helt:e<s.heap.objs.size:=Heap.lt_size he
  refine wpAny_pyNext_enum_item he hit p.isList (x:=u) (by simpa using hu) hei fun h' ho hit' hT hsz hk=>?_
  refine⟨_,rfl,wpAny_letOwnedTupleGo_enum ho fun h2 he2 hs2=>?_⟩
  have kk:∀b o,b∉[e,it]->s.heap.get? b=some o->h2.get? b=some o:=fun b o hb q=>by
   have h1:b≠e:=fun z=>hb (by simp[z])
   have h2':b≠it:=fun z=>hb (by simp[z])
   exact(hs2.2 b h1).trans (hk b o h1 h2' q)
  have hT2:h2.get? s.heap.objs.size=some {cls:=.type "tuple",data:=.seq #[.int i s.toks,u]}:=(hs2.2 _ (Nat.ne_of_gt helt)).trans hT
  have I1:Inv X pins σ (upd H s.heap.objs.size (.tup [.int i,x])) {s with heap:=h2,toks:=s.toks+1}:=
   I.turnedN (fp:=[e,it]) hf kk (ai _) ⟨by show 2<=sizeLine;decide,[.int i s.toks,u],.cons ⟨_,rfl⟩ (.cons ru .nil),_,hT2,rfl,rfl,_,rfl⟩
  refine⟨.ref s.heap.objs.size,_,I1,rfl,⟨s.heap.objs.size,x,I.hok.fresh (ai _),rfl,fun ys hy=>by rw[I.list_inj hy hq];exact hx,rfl⟩,⟨⟨_,by simpa using he2⟩,hit'.at fun o x=>(hs2.2 it (Ne.symm hei)).trans x⟩,fun b hb=>?_⟩
  have hbs:b<s.heap.objs.size:=by
   rcases aE.mp hb with z|z
   · rw[z];exact helt
   · have z':b=it:=by simpa using z
     rw[z'];obtain⟨o,e1,_⟩:=hit;exact Heap.lt_size e1
  rw[k8 (Nat.ne_of_lt hbs)];exact(hf b hb).1
 done:=by
  intro X hP hw hK hc i pins s σ H E I hf st hg;subst hP hw hK;obtain⟨⟨old,he⟩,hit⟩:=st;obtain⟨xs,hq,hx⟩:=hg;obtain⟨its,rv,p,hz⟩:=I.list hq;have hl:=rv.length;exact wpAny_pyNext_enum_end (I.ok.hd hc) he hit p.isList (by simp;omega) fun h' eb=>⟨rfl,I.turnedF (t':=s.toks) hf fun b o hb q=>eb b o (fun z=>hb (by simp[z])) q⟩
 self:=fun A i s Q E st h=>by
  obtain⟨⟨old,he⟩,_⟩:=st;exact wpAny_pyIter_enum he h
variable{ta:TA}{p:Pos}
section
variable{k:Nat}{tpos:Pos}
def b9j(K:PySem.W.Frag)(ta:TA):TI:=fun σ H R=>ta σ H fun vs H1=>∃l xs,vs=[.ref l]/\SqL K H1 l xs/\R (Ite K l) H1
theorem b3L{a:Expr}(hg:Gl X "enumerate")(hm:X.mg "enumerate"=none)(ha:PA X [a] ta)(hs:starEach [a] X.env=[(false,eval a X.env)]:=by rfl):
 PI X (.Tuple elts k tpos) (.Call (.Name "enumerate" p) [a] [] pos) (b9j X.K ta):=by
 intro pins s σ H R I h;refine Call_ (a0f I hg hm boot_enumerate (PyProof.Rows.callWith_type1 (thn (ha pos pins s σ H _ I h) fun us s1 ⟨vs,H1,I1,r1,q1⟩=>?_) hs rfl))
 obtain⟨l,xs,e,hq,q⟩:=q1;subst e;obtain⟨u,rfl,ru⟩:=M9 r1;cases ru;obtain⟨its,rv,pl,hz⟩:=I1.list hq;refine call_enumerate_list pl.isList fun h' he hit hsz hk=>?_
 have I2:Inv X pins σ H1 {s1 with heap:=h'}:=I1.kept (t':=s1.toks) hk
 refine wpAny_pyIter_enum he ⟨s1.heap.objs.size+1,[s1.heap.objs.size+1,s1.heap.objs.size],_,_,H1,rfl,I2,a8U (s1.heap.objs.size+1) s1.heap.objs.size l (Nat.ne_of_gt (aV _)),⟨⟨_,he⟩,hit⟩,fun b hb=>?_,q⟩
 have hb':s1.heap.objs.size<=b:=by
  rcases aE.mp hb with z|z
  · rw[z];exact Nat.le_succ _
  · have z':b=s1.heap.objs.size:=by simpa using z
    rw[z'];exact ai _
 exact I1.fpOk hb' (I1.hok.fresh hb')
end
def b8i:TT:=fun _ H Q=>Q true H
theorem b6c:a6L X [] b8i:=b3J
noncomputable def b7A(sc scope:Scope)(own frees:List Str):Bool:=
 decide (scope.kind=.function)&&scope.names.all (fun y=>decide (y.2≠.cell))&&scope.names.all (fun y=>decide (y.2=.local->scope.names.lookup y.1=some .local))&&
 scope.names.all (fun y=>decide (y.2=.free->sc.names.lookup y.1=some .cell))&&decide ((own++frees).Nodup)&&own.all (fun x=>decide (scope.names.lookup x=some .local))&&frees.all (fun x=>decide (scope.names.lookup x=some .free))
variable{sc:Scope}
theorem b9U{own frees:List Str}(h:b7A sc scope own frees=true):CompScope sc scope own frees:=by
 unfold b7A at h;simp only[ae,bE,bv] at h;obtain⟨⟨⟨⟨⟨⟨a,b⟩,c⟩,d⟩,e⟩,f⟩,g⟩:=h;exact⟨a,b,c,d,e,f,g⟩
variable{pos':Pos}
section
variable{elt:Expr}{ifs:List Expr}{own frees:List Str}{js:List Nat}{wi:TI}{g:TG}{tc:TT}{te:TE}
theorem a4m{Q:VK}{RR:Value->Addr->Result->Shared->Prop}(hcalm:X.calm=true)(hi:PI X tg iter wi)(S:CompScope X.env.scope scope own frees)(hj:frees.map some=js.map (X.N[·]?))
 (hg:∀C s₀ H₀ ex,PG (p0 X own frees scope C s₀ H₀ ex) tg g) (hc:∀C s₀ H₀ ex,a6L (p0 X own frees scope C s₀ H₀ ex) ifs tc) (he:∀C s₀ H₀ ex,PE (p0 X own frees scope C s₀ H₀ ex) elt te)
 (I:Inv X pins σ H s) (h:a7G own js wi g tc te σ H Q)
 (fin:∀D C s5 H4 m5,Inv X pins σ H4 s5->s5.heap.Ns C m5->H4 C=none->X.s₀.heap.objs.size<=C->C≠X.env.locals->(∀x c,X.env.cells.lookup x=some c->c≠C)->(∀p∈X.pn++pins,p.1≠C)->Q (.ref D) H4->RR (.ref D) C (.ok .next) s5):
 wpAny (model X.prog X.w) X.A (eval iter X.env) (fun v s1=>wpAny (model X.prog X.w) X.A (pyIter v) (fun it s2=>wpAny (model X.prog X.w) X.A (newList []) (fun acc s3=>
  wpAny (model X.prog X.w) X.A (newFunctionEnv scope X.env.globals (J1 X.env.cells scope.names []) [] X.env.qual none .none (some X.env)) (fun cenv s4=>
   codeAny (model X.prog X.w) X.A (.compStart (.ListComp elt [⟨tg,iter,ifs,0⟩] scope pos) 0 it acc {cenv with scope:=relabel scope X.env}) (RR acc cenv.locals) s4) X.xe s3) X.xe s2) X.xe s1) X.xe s:=by
 refine thn (hi pins s σ H _ I h) fun v s1 h1=>thn h1 fun itv s2 h2=>?_
 obtain⟨it,fp,tn,J,H2,e,I2,T,st2,f2,R2⟩:=h2;subst e
 have hD:H2 s2.heap.objs.size=none:=I2.hok.fresh (ai _)
 obtain⟨W,⟨m0,w0⟩,turn⟩:=R2 s2.heap.objs.size hD
 have hcells:∀x c,X.env.cells.lookup x=some c->c<s2.heap.objs.size:=fun x c e=>by obtain⟨v,z⟩:=I2.cell x c e;exact z.lt
 refine wpAny_newObj_type (wpAny_newFunctionEnv S.nocell (by intro y hy;simp at hy) (fun h₁ hns₁ hsb₁=>?_) S.kind)
 dsimp only at hns₁ hsb₁⊢
 generalize hHH:s2.heap.push {cls:=.type "list",dict:=none,data:=.seq ([]:List Value).toArray}=HH at hns₁ hsb₁⊢
 have hC:HH.objs.size=s2.heap.objs.size+1:=by rw[←hHH,Heap.size_push]
 have hCle:s2.heap.objs.size<=HH.objs.size:=by rw[hC];exact Nat.le_succ _
 have hDC:s2.heap.objs.size≠HH.objs.size:=by rw[hC];exact Nat.ne_of_lt (aV _)
 have neC:∀b,b<s2.heap.objs.size->b≠HH.objs.size:=fun b hb=>by rw[hC];exact Nat.ne_of_lt (Nat.lt_succ_of_lt hb)
 have old:∀b o,s2.heap.get? b=some o->h₁.get? b=some o:=fun b o e=>hsb₁.extBut b o (neC b (Heap.lt_size e)) (Heap.get?_push_of_some _ (hHH▸Heap.get?_push_of_some _ e))
 have accAt:h₁.get? s2.heap.objs.size=some {cls:=.type "list",dict:=none,data:=.seq ([]:List Value).toArray}:=hsb₁.extBut _ _ hDC (Heap.get?_push_of_some _ (hHH▸Heap.get?_push_size _ rfl))
 have hfo:∀b∈fp,∃o,s2.heap.get? b=some o:=fun b hb=>let⟨o,e,_⟩:=T.obj _ _ st2 b hb;⟨o,e⟩
 have hnD:∀b,b<s2.heap.objs.size->upd H2 s2.heap.objs.size (.lst []) b=H2 b:=fun b hb=>k8 (Nat.ne_of_lt hb)
 have hok1:HOk X.prog X.w (upd H2 s2.heap.objs.size (.lst [])) h₁:=I2.hok.laid old (ai _) ⟨Nat.zero_le _,[],0,.nil,accAt⟩
 have I3:∀s3:Shared,s3={s2 with heap:=h₁,toks:=s2.toks+([]:List (Str×Value)).length}->Inv (p0 X own frees scope HH.objs.size s2 H2 fp) [] (D0 own js σ) (upd H2 s2.heap.objs.size (.lst [])) s3:=by
  rintro s3 rfl;refine b2x I2 S hj hCle f2 hfo rfl I2.bare old (Un.laid old (ai _) hD) hns₁ ?_ hok1 (fun x c e=>?_)
  · rw[k8 (Ne.symm hDC)];exact I2.hok.fresh hCle
  · rw[hnD c (hcells x c e)];exact I2.freeC x c e
 -- what stays true of the iterator's objects
 have stat:∀{H':Hp},(∀b∈fp,H' b=none)->∀b∈fp,a2l (p0 X own frees scope HH.objs.size s2 H2 fp) [] H' b:=fun{H'} hn b hb=>by
  obtain⟨o,q⟩:=hfo b hb;refine⟨hn b hb,neC b (Heap.lt_size q),fun hm=>?_,.inl hb,fun x c e=>(f2 b hb).2.2.2.2.1 x c (O0 e),fun p hp=>absurd (show p∈([]:List (Addr×Obj)) from hp) (by simp)⟩
  rcases aE.mp (I2.stkSub b hm) with z|z
  · exact(f2 b hb).2.1 z
  · exact(f2 b hb).2.2.1 z
 have loop:∀s3:Shared,s3={s2 with heap:=h₁,toks:=s2.toks+([]:List (Str×Value)).length}→
  codeAny (model X.prog X.w) X.A (.compLoop (.ListComp elt [⟨tg,iter,ifs,0⟩] scope pos) 0 (.ref it) (.ref s2.heap.objs.size) (compEnvC scope (J1 X.env.cells scope.names []) HH.objs.size X.env))
   (RR (.ref s2.heap.objs.size) HH.objs.size) s3:=by
  intro s3 hs3
  refine a5q (fun n s'=>∃i ys H',Inv (p0 X own frees scope HH.objs.size s2 H2 fp) [] (D0 own js σ) H' s'/\tn i s'.heap/\(∀b∈fp,H' b=none)/\W i n ys H') ?_ m0
   ⟨0,[],_,I3 s3 hs3,T.keep _ _ _ st2 (fun b hb o e=>by rw[hs3];exact old b o e),fun b hb=>by obtain⟨o,q⟩:=hfo b hb;rw[hnD b (Heap.lt_size q)];exact(f2 b hb).1,w0⟩
  rintro n s4 ⟨i,ys,H4,I4,st4,fr4,w4⟩
  rcases turn i n ys H4 w4 with⟨stop,qn⟩|⟨go,step⟩
  · refine thn (T.done (p0 X own frees scope HH.objs.size s2 H2 fp) rfl rfl rfl hcalm i [] s4 (D0 own js σ) H4 _ I4 (stat fr4) st4 stop) fun r s5 ⟨hr,I5⟩=>?_
    subst hr;obtain⟨m5,hn5,_⟩:=I5.loc
    have ub:Un (frs X.stack) fp H2 H4 s2.heap s5.heap:=I5.base
    refine fin _ _ s5 H4 m5 (I2.call' (ch:=fp) I5.os ub I5.hok I5.bare fun b hb=>⟨(f2 b hb).2.2.2.1,(f2 b hb).2.1,(f2 b hb).2.2.2.2.1,(f2 b hb).2.2.2.2.2⟩) hn5 I5.free (aR I2.sz hCle) ?_ ?_ ?_ qn
    · exact Ne.symm (neC _ I2.lt)
    · exact fun x c e=>neC c (hcells x c e)
    · exact fun p hp=>neC _ (Heap.lt_size (I2.pin p hp).1)
  · refine thn (T.item (p0 X own frees scope HH.objs.size s2 H2 fp) rfl rfl rfl hcalm i [] s4 (D0 own js σ) H4 _ I4 (stat fr4) st4 go) fun r s5 ⟨u,hr,h5⟩=>?_
    subst hr;refine thn h5 fun _ s6 ⟨x,H6,I6,r6,y6,st6,fr6⟩=>?_
    have I6':=I6.pinned (stat fr6) (T.obj _ _ st6)
    refine thn (hg _ _ _ _ _ s6 _ H6 x u _ I6' r6 (step x H6 y6)) fun _ s7 ⟨σ7,H7,I7,wk7,q7⟩=>?_
    refine thn (hc _ _ _ _ _ s7 σ7 H7 _ I7 q7) fun b s8 ⟨H8,I8,q8⟩=>?_
    have again:∀{s9:Shared} {H9:Hp} {zs:List V},Inv (p0 X own frees scope HH.objs.size s2 H2 fp) ([]++a2U fp s6.heap) σ7 H9 s9->(∃m',m'<n/\W (i+1) m' zs H9)→
     ∃m,m<n/\∃i ys H',Inv (p0 X own frees scope HH.objs.size s2 H2 fp) [] (D0 own js σ) H' s9/\tn i s9.heap/\(∀b∈fp,H' b=none)/\W i m ys H':=fun{s9 H9 zs} I9 ⟨m',hm,w9⟩=>by
     refine⟨m',hm,i+1,zs,H9,(I9.weak wk7.1 wk7.2).unpinned,T.keep _ _ _ st6 fun b hb o e=>(I9.pin (b,o) (mem_append_right _ (mem_append_right _ (W3 hb e)))).1,fun b hb=>?_,w9⟩
     obtain⟨o,e,d⟩:=T.obj _ _ st6 b hb;exact(I9.pin (b,o) (mem_append_right _ (mem_append_right _ (W3 hb e)))).2.1
    cases b with
    |false=>
     rw[az bx] at q8⊢;exact again I8 q8
    | true=>
     rw[ay rfl] at q8⊢;refine thn (he _ _ _ _ _ s8 σ7 H8 _ I8 q8) fun y s9 ⟨v9,H9,I9,r9,hD9,hz9,q9⟩=>?_
     refine thn (a3Y (X:=p0 X own frees scope HH.objs.size s2 H2 fp) _ s9 σ7 H9 (.ref s2.heap.objs.size) [v9] (.ref s2.heap.objs.size) [y] (fun _ H'=>∃m',m'<n/\W (i+1) m' (ys++[v9]) H') I9 rfl (.cons r9 .nil)
      ⟨_,ys,v9,rfl,rfl,hD9,hz9,q9⟩) fun _ s10 ⟨_,H10,I10,_,q10⟩=>?_
     exact again I10 q10
 exact codeAny_compStart_list (loop _ rfl) (T.self _ 0 _ _ _ (T.keep _ _ _ st2 fun b hb o e=>old b o e) (loop _ rfl))
theorem a6a(hcalm:X.calm=true)(hi:PI X tg iter wi)(S:CompScope X.env.scope scope own frees)(hj:frees.map some=js.map (X.N[·]?))
 (hg:∀C s₀ H₀ ex,PG (p0 X own frees scope C s₀ H₀ ex) tg g) (hc:∀C s₀ H₀ ex,a6L (p0 X own frees scope C s₀ H₀ ex) ifs tc) (he:∀C s₀ H₀ ex,PE (p0 X own frees scope C s₀ H₀ ex) elt te)
 (hs:∀x,foldedSetIterable iter X.env x=pure x):PE X (.ListComp elt [⟨tg,iter,ifs,0⟩] scope pos) (a7G own js wi g tc te):=by
 intro pins s σ H Q I h;rw[eval_ListComp]
 have hcl:closureFor scope X.env=pure (J1 X.env.cells scope.names []):=a0O fun y hy e=>I.ok.has y.1 (.inl (S.out y hy e))
 refine wpAny_comprehension_free (use:=none) rfl hs hcl S.kind S.locs (a4m hcalm hi S hj hg hc he I h fun D C s5 H4 m5 I5 hn5 c1 c2 c3 c4 c5 q=>?_)
 exact⟨m5,hn5,fun h' hs'=>⟨.ref D,H4,I5.turned (t':=s5.toks) (fun b o hb e=>(hs'.2 b hb).trans e) c1 (Ne.symm (Ne.symm c3)) (.inr c2) c4 c5,rfl,q⟩⟩
theorem b3D{spos:Pos}(hcalm:X.calm=true)(hi:PI X tg iter wi)(S:CompScope X.env.scope scope own frees)(hj:frees.map some=js.map (X.N[·]?))
 (hg:∀C s₀ H₀ ex,PG (p0 X own frees scope C s₀ H₀ ex) tg g) (hc:∀C s₀ H₀ ex,a6L (p0 X own frees scope C s₀ H₀ ex) ifs tc) (he:∀C s₀ H₀ ex,PE (p0 X own frees scope C s₀ H₀ ex) elt te)
 (hs:∀x,foldedSetIterable iter X.env x=pure x) (hN:X.N.Nodup) (hix:X.N[i]? =some x) (hx:Loc X.env.scope x) (hf:X.fn x=true∨X.env.scope.names.lookup x=some .local):
 PS X (.Assign [.Name x pos'] (.ListComp elt [⟨tg,iter,ifs,0⟩] scope pos) spos) (b5I (a7G own js wi g tc te) (b1U i)):=by
 obtain⟨b,hb⟩:∃b,swapsWith (.ListComp elt [⟨tg,iter,ifs,0⟩] scope pos) (some (.Name x pos')) spos.line X.env=pure b:=⟨_,rfl⟩
 cases b with
 |false=>exact b0Q hN hix hx (a6a hcalm hi S hj hg hc he hs) hb hf
 | true=>
  intro pins s σ H Dn I h;rw[exec_Assign_Name_used _ _ _ _ hb]
  have hcl:closureFor scope X.env=pure (J1 X.env.cells scope.names []):=a0O fun y hy e=>I.ok.has y.1 (.inl (S.out y hy e))
  refine wpAny_bind (wpAny_standAt (wpAny_bind ?_))
  show wpAny _ X.A (do let _←comprehension (.ListComp elt [⟨tg,iter,ifs,0⟩] scope pos) scope X.env _ (newList []) false (eval iter X.env) (some (assign (.Name x pos') X.env))) _ _ s
  refine wpAny_bind (wpAny_mono (wpAny_comprehension_free (use:=some (assign (.Name x pos') X.env)) (Q:=fun _ s'=>SP X pins Dn .next s') rfl hs hcl S.kind S.locs
   (a4m hcalm hi S hj hg hc he I h fun D C s5 H4 m5 I5 hn5 c1 c2 c3 c4 c5 q=>?_)) (fun _ s' hq=>wpAny_pure (wpAny_pure hq)) fun _ _ e=>e)
  show wpAny _ X.A (assign (.Name x pos') X.env (.ref D)) _ _ s5
  refine wpAny_assign_Name (a3K (v:=.ref D) I5 hN hix hx rfl (fun s6 I6 ⟨a,sb,ea⟩=>?_) hf)
  have hCa:C≠a:=fun z=>by
   rcases ea with y|y
   · exact c3 (z.trans y)
   · exact c4 x a y z.symm
  exact⟨m5,hn5.sameBut sb hCa,fun h' hs'=>⟨_,H4,I6.turned (t':=s6.toks) (fun b o hb e=>(hs'.2 b hb).trans e) c1 c3 (.inr c2) c4 c5,q⟩⟩
end
def Itz(K:PySem.W.Frag)(l1 l2:Addr):It:=⟨fun i H=>∃xs ys x y,SqL K H l1 xs/\SqL K H l2 ys/\xs[i]? =some x/\ys[i]? =some y,
 fun i H v H'=>∃T x y,H T=none/\v=.ref T/\(∀xs,SqL K H l1 xs->xs[i]? =some x)/\(∀ys,SqL K H l2 ys->ys[i]? =some y)/\H'=upd H T (.tup [x,y]),
 fun i H=>∃xs ys,SqL K H l1 xs/\SqL K H l2 ys/\(xs.length<=i∨ys.length<=i)⟩
theorem a9X{k:Nat}(z TI TO i1 i2 l1 l2:Addr)(D:ZipApart z TI TO i1 i2 l1 l2):
 Turn P w K (.Tuple elts k pos) (Itz K l1 l2) [z,TI,TO,i1,i2] z (fun i h=>IsZip h z TI TO .none/\IsPair h TI (.ref i1) (.ref i2)/\(∃a b,IsPair h TO a b)/\h.IsListIter i1 l1 i/\h.IsListIter i2 l2 i) where
 mem:=by simp
 obj:=fun i h st b hb=>by
  obtain⟨hz,hTI,⟨a,c,hTO⟩,⟨o1,e1,c1,d1⟩,⟨o2,e2,c2,d2⟩⟩:=st;simp only[aE,not_mem_nil,or_false] at hb
  rcases hb with rfl|rfl|rfl|rfl|rfl
  · exact⟨_,hz,fun v q=>by have q':Data.fields _=Data.cell v:=q;cases q'⟩
  · exact⟨_,hTI,fun v q=>by have q':Data.seq _ _=Data.cell v:=q;cases q'⟩
  · exact⟨_,hTO,fun v q=>by have q':Data.seq _ _=Data.cell v:=q;cases q'⟩
  · exact⟨o1,e1,fun v q=>by rw[d1] at q;cases q⟩
  · exact⟨o2,e2,fun v q=>by rw[d2] at q;cases q⟩
 keep:=fun i h h' st k=>by
  obtain⟨hz,hTI,⟨a,c,hTO⟩,h1,h2⟩:=st;exact⟨k z (by simp) _ hz,k TI (by simp) _ hTI,⟨a,c,k TO (by simp) _ hTO⟩,h1.at fun o x=>k i1 (by simp) o x,h2.at fun o x=>k i2 (by simp) o x⟩
 item:=by
  intro X hP hw hK hc i pins s σ H E I hf st hg;subst hP hw hK;obtain⟨hz,hTI,⟨a,c,hTO⟩,h1,h2⟩:=st;obtain⟨xs,ys,x,y,hq1,hq2,hx,hy⟩:=hg;obtain⟨its,rv,p,hz1⟩:=I.list hq1;obtain⟨its',rv',p',hz2⟩:=I.list hq2;obtain⟨u,hu,ru⟩:=rv.get hx;obtain⟨u',hu',ru'⟩:=rv'.get hy
  have hzlt:z<s.heap.objs.size:=Heap.lt_size hz
  refine wpAny_pyNext_zip_item D hz hTI hTO h1 h2 p.isList p'.isList (x:=u) (y:=u') (by simpa using hu) (by simpa using hu') fun h' a1 a2 a3 a4 a5 a6 hk=>?_
  refine⟨_,rfl,wpAny_letOwnedTupleGo_zip a1 fun h3 hz3 hs3=>?_⟩
  have kk:∀b o,b∉[z,TI,TO,i1,i2]->s.heap.get? b=some o->h3.get? b=some o:=fun b o hb q=>by
   have n1:b≠z:=fun w=>hb (by simp[w])
   exact(hs3.2 b n1).trans (hk b o n1 (fun w=>hb (by simp[w])) (fun w=>hb (by simp[w])) (fun w=>hb (by simp[w])) q)
  have hT3:h3.get? s.heap.objs.size=some {cls:=.type "tuple",data:=.seq #[u,u']}:=(hs3.2 _ (Nat.ne_of_gt hzlt)).trans a5
  have I1:Inv X pins σ (upd H s.heap.objs.size (.tup [x,y])) {s with heap:=h3,toks:=s.toks}:=
   I.turnedN (fp:=[z,TI,TO,i1,i2]) hf kk (ai _) ⟨by show 2<=sizeLine;decide,[u,u'],.cons ru (.cons ru' .nil),_,hT3,rfl,rfl,_,rfl⟩
  refine⟨.ref s.heap.objs.size,_,I1,rfl,⟨s.heap.objs.size,x,y,I.hok.fresh (ai _),rfl,fun zs hy=>by rw[I.list_inj hy hq1];exact hx,fun zs hy'=>by rw[I.list_inj hy' hq2];exact hy,rfl⟩,
   ⟨hz3,(hs3.2 _ D.TIz).trans (hk _ _ D.TIz D.TITO D.TIi1 D.TIi2 hTI),⟨_,_,(hs3.2 _ D.TOz).trans a2⟩,a3.at fun o x=>(hs3.2 _ D.i1z).trans x,a4.at fun o x=>(hs3.2 _ D.i2z).trans x⟩,fun b hb=>?_⟩
  have hbs:b<s.heap.objs.size:=by
   obtain⟨o1,e1,_⟩:=h1;obtain⟨o2,e2,_⟩:=h2;simp only[aE,not_mem_nil,or_false] at hb
   rcases hb with rfl|rfl|rfl|rfl|rfl
   · exact hzlt
   · exact Heap.lt_size hTI
   · exact Heap.lt_size hTO
   · exact Heap.lt_size e1
   · exact Heap.lt_size e2
  rw[k8 (Nat.ne_of_lt hbs)];exact(hf b hb).1
 done:=by
  intro X hP hw hK hc i pins s σ H E I hf st hg;subst hP hw hK;obtain⟨hz,hTI,⟨a,c,hTO⟩,h1,h2⟩:=st;obtain⟨xs,ys,hq1,hq2,hx⟩:=hg;obtain⟨its,rv,p,hz1⟩:=I.list hq1;obtain⟨its',rv',p',hz2⟩:=I.list hq2;have hl:=rv.length
  have hl':=rv'.length
  refine wpAny_pyNext_zip_end (I.ok.hd hc) D hz hTI hTO h1 h2 p.isList p'.isList ?_ fun h' eb=>⟨rfl,I.turnedF (t':=s.toks) hf fun b o hb q=>eb b o (fun z=>hb (by simp[z])) (fun z=>hb (by simp[z])) (fun z=>hb (by simp[z])) (fun z=>hb (by simp[z])) q⟩
  rcases hx with hx|hx
  · exact .inl (by simp;omega)
  · exact .inr (by simp;omega)
 self:=fun A i s Q E st h=>wpAny_pyIter_zip st.1 h
section
variable{k:Nat}{tpos:Pos}
def c1k(K:PySem.W.Frag)(ta:TA):TI:=fun σ H R=>ta σ H fun vs H1=>∃l1 l2 xs ys,vs=[.ref l1,.ref l2]/\SqL K H1 l1 xs/\SqL K H1 l2 ys/\R (Itz K l1 l2) H1
theorem b6d{a b:Expr}(hg:Gl X "zip")(hm:X.mg "zip"=none)(ha:PA X [a,b] ta)(hs:starEach [a,b] X.env=(false,eval a X.env)::starEach [b] X.env)(hp:(backTo pos (starEach [b] X.env)).any (·.1)=false):
 PI X (.Tuple elts k tpos) (.Call (.Name "zip" p) [a,b] [] pos) (c1k X.K ta):=by
 intro pins s σ H R I h;refine Call_ (a0f I hg hm boot_zip (PyProof.Rows.callWith_type1 (thn (ha pos pins s σ H _ I h) fun us s1 ⟨vs,H1,I1,r1,q1⟩=>?_) hs hp))
 obtain⟨l1,l2,xs,ys,e,hq1,hq2,q⟩:=q1;subst e;obtain⟨u,u',rfl,ru,ru'⟩:=a7B r1;cases ru;cases ru';obtain⟨its,rv,pl,hz⟩:=I1.list hq1;obtain⟨its',rv',pl',hz'⟩:=I1.list hq2;refine call_zip_2 pl.isList pl'.isList fun h' a1 a2 a3 a4 a5 a6 hk=>?_
 have I2:Inv X pins σ H1 {s1 with heap:=h'}:=I1.kept (t':=s1.toks) hk
 have lt1:l1<s1.heap.objs.size:=by obtain⟨o,e,_⟩:=pl.isList;exact Heap.lt_size e
 have lt2:l2<s1.heap.objs.size:=by obtain⟨o,e,_⟩:=pl'.isList;exact Heap.lt_size e
 refine wpAny_pyIter_zip a1 ⟨s1.heap.objs.size+4,[s1.heap.objs.size+4,s1.heap.objs.size+2,s1.heap.objs.size+3,s1.heap.objs.size,s1.heap.objs.size+1],_,_,H1,rfl,I2,a9X _ _ _ _ _ l1 l2 (zipApart_new lt1 lt2),⟨a1,a2,⟨_,_,a3⟩,a4,a5⟩,fun b hb=>?_,q⟩
 have hb':s1.heap.objs.size<=b:=by
  simp only[aE,not_mem_nil,or_false] at hb
  rcases hb with rfl|rfl|rfl|rfl|rfl
  · exact Nat.le_add_right _ _
  · exact Nat.le_add_right _ _
  · exact Nat.le_add_right _ _
  · exact ai _
  · exact Nat.le_add_right _ _
 exact I1.fpOk hb' (I1.hok.fresh hb')
end
noncomputable def D6(n:Nat)(x:Str):Str:=⟨(List.replicate n x.cps).foldl (· ++ ·) #[]⟩
theorem a4e(x:Array Nat):∀(n:Nat) (a:Array Nat),((List.replicate n x).foldl (· ++ ·) a).toList=a.toList++(List.replicate n x.toList).flatten
 |0,a=>by simp
 |n+1,a=>by rw[replicate_succ,foldl_cons,a4e x n,replicate_succ,flatten_cons];simp
theorem a5L(n:Nat)(x:Str):(D6 n x).cps.toList=(List.replicate n x.cps.toList).flatten:=by
 unfold D6;rw[a4e];simp
theorem a2J(n:Nat)(x:Str):(D6 n x).length=x.length*n:=by
 show(D6 n x).cps.size=x.cps.size*n
 rw[←Array.length_toList,a5L];simp[List.length_flatten,Nat.mul_comm]
theorem a6S(x:Str):D6 1 x=x:=by
 unfold D6;simp
theorem a6T(n:Nat)(x:Str)(h:x.length=0):D6 n x=x:=by
 have h1:(D6 n x).cps.size=0:=by
  have:=a2J n x
  rw[h,Nat.zero_mul] at this;exact this
 have h2:x.cps.size=0:=h
 have e1:=Array.eq_empty_of_size_eq_zero h1;have e2:=Array.eq_empty_of_size_eq_zero h2;cases x
 simp only at e2
 subst e2;generalize hq:D6 n ⟨#[]⟩=q at e1;cases q
 simp only at e1
 rw[e1]
variable{ys:List V}{us:List Value}
section
def b8H:R2:=fun x y H Q=>∃t k,x=.str t/\y=.int k/\ -(2^63)<=k/\k<2^63/\t.length*k.toNat<=sizeLine/\Q (.str (D6 k.toNat t)) H
theorem b3V:OpR X (binaryOp .Mult) b8H:=by
 intro pins s σ H x y v u Q I rx ry h;obtain⟨t,k,rfl,rfl,h1,h2,h3,q⟩:=h;obtain⟨a,rfl⟩:=rx;obtain⟨b,rfl⟩:=ry;refine P.mul_str ?_ ?_ ?_ ?_
 · rw[bF (by omega),bF (by omega)];rfl
 · intro h4 h5 h6
   have hk:0<k:=by omega
   have h8:(t.length:Int)*k<=2^62:=by
    have h9:((t.length*k.toNat:Nat):Int)<=((sizeLine:Nat):Int):=Int.ofNat_le.mpr h3
    rw[Int.natCast_mul,Int.toNat_of_nonneg (by omega),sizeLine_eq] at h9
    exact Int.le_trans h9 (by decide)
   have h7:(t.length:Int)<=(2^63-1)/k:=by
    rw[Int.le_ediv_iff_mul_le hk];omega
   omega
 · intro h4 h5;simp only[Builtin.Str.tooLong,decide_eq_false_iff_not];omega
 · by_cases c1:k<1
   · rw[ay c1]
     have:k.toNat=0:=by omega
     rw[this] at q;exact⟨Nat.zero_le _,.str _,H,I.tok _,⟨_,rfl⟩,q⟩
   · rw [az c1]
     by_cases c2:(k==1||t.length==0)=true
     · rw [ay c2]
       have e:D6 k.toNat t=t:=by
        rw[bw] at c2
        rcases c2 with c|c
        · have:k=1:=by simpa using c
          subst this;exact a6S t
        · exact a6T _ _ (by simpa using c)
       rw[e] at q;exact⟨.str _,H,I,⟨_,rfl⟩,q⟩
     · rw[az c2];refine⟨?_,.str _,H,I.tok _,⟨_,rfl⟩,q⟩
       show(D6 k.toNat t).length<=sizeLine
       rw[a2J];exact h3
def a1a:List V->List V->Bool
 |[],[]=>true
 |x::xs,y::ys=>eqV x y&&a1a xs ys
 |_,_=>false
def a0N(xs ys:List V)(j:Nat):Bool:=match xs[j]?,ys[j]? with
 |some x,some y=>eqV x y
 |_,_=>false
theorem a3x:∀(xs ys:List V),xs.length=ys.length->(List.range xs.length).all (a0N xs ys)=a1a xs ys
 |[],[],_=>rfl
 |[],_::_,h=>by simp at h
 |_::_,[],h=>by simp at h
 | x::xs,y::ys,h=>by
  rw[length_cons,List.range_succ_eq_map,all_cons,all_map];have ih:=a3x xs ys (by simpa using h)
  have e:a0N (x::xs) (y::ys)∘Nat.succ=a0N xs ys:=by
   funext j
   simp[a0N]
  rw[e,ih];simp[a0N,a1a]
theorem a3m:∀{xs ys:List V},xs.length≠ys.length->a1a xs ys=false
 |[],[],h=>absurd rfl h
 |[],_::_,h=>rfl
 |_::_,[],h=>rfl
 |x::xs,y::ys,h=>by
  rw[a1a,a3m (fun e=>h (by simp[e])),Bool.and_false]
theorem a8c{xs:List V}(r:k7 xs us)(r':k7 ys vs)(f:xs.all L9=true)(f':ys.all L9=true)(j:Nat)(h1:j<us.toArray.size)(h2:j<vs.toArray.size):SeqAt.EqAt A s us.toArray[j] vs.toArray[j] (a0N xs ys j):=by
 have l1:=r.length;have l2:=r'.length
 have j1:j<xs.length:=by simp at h1;omega
 have j2:j<ys.length:=by simp at h2;omega
 obtain⟨u,hu,ru⟩:=r.get (af j1)
 obtain⟨v,hv,rv⟩:=r'.get (af j2)
 have e1:us.toArray[j]=u:=by
  have:=(ac.mp hu).2
  simpa using this
 have e2:vs.toArray[j]=v:=by
  have:=(ac.mp hv).2
  simpa using this
 rw[e1,e2]
 have e3:a0N xs ys j=eqV xs[j] ys[j]:=by
  unfold a0N;rw[af j1,af j2]
 rw[e3];exact b2t ru rv (bv.mp f _ (bz j1)) (bv.mp f' _ (bz j2))
def b8J(K:PySem.W.Frag)(neg:Bool):R2:=fun x y H Q=>∃a b xs ys,x=.ref a/\y=.ref b/\SqL K H a xs/\SqL K H b ys/\xs.all L9=true/\ys.all L9=true/\Q (.bl (a1a xs ys !=neg)) H
theorem b6s(hu:X.A.units<cLine):OpR X (compareOp .NotEq) (b8J X.K true):=by
 intro pins s σ H x y v u Q I rx ry h;obtain⟨a,b,xs,ys,rfl,rfl,q1,q2,f1,f2,q⟩:=h;cases rx;cases ry;obtain⟨its,r,pl,hz⟩:=I.list q1;obtain⟨its',r',pl',hz'⟩:=I.list q2;have l1:=r.length;have l2:=r'.length
 by_cases hl:xs.length=ys.length
 · refine SeqAt.RcNeAt.lists (e:=a0N xs ys) pl.isList pl'.isList (by simp;omega) hu (fun j h1 h2=>a8c r r' f1 f2 j h1 h2) X.prog X.w _ _ ⟨.bl _,H,I,rfl,?_⟩
   have e:its.toArray.size=xs.length:=by simp;omega
   rw[e,a3x xs ys hl];rw[show(a1a xs ys !=true)=!a1a xs ys by cases a1a xs ys<;>rfl] at q
   exact q
 · refine SeqAt.RcNeAt.lists_lengths pl.isList pl'.isList (by simp;omega) hu X.prog X.w _ _ ⟨.bl _,H,I,rfl,?_⟩
   rw[a3m hl] at q;exact q
theorem b6w(hu:X.A.units<cLine):OpR X (compareOp .Eq) (b8J X.K false):=by
 intro pins s σ H x y v u Q I rx ry h;obtain⟨a,b,xs,ys,rfl,rfl,q1,q2,f1,f2,q⟩:=h;cases rx;cases ry;obtain⟨its,r,pl,hz⟩:=I.list q1;obtain⟨its',r',pl',hz'⟩:=I.list q2;have l1:=r.length;have l2:=r'.length
 by_cases hl:xs.length=ys.length
 · refine SeqAt.RcAt.lists (e:=a0N xs ys) pl.isList pl'.isList (by simp;omega) hu (fun j h1 h2=>a8c r r' f1 f2 j h1 h2) X.prog X.w _ _ ⟨.bl _,H,I,rfl,?_⟩
   have e:its.toArray.size=xs.length:=by simp;omega
   rw[e,a3x xs ys hl];rw[show(a1a xs ys !=false)=a1a xs ys by cases a1a xs ys<;>rfl] at q
   exact q
 · refine SeqAt.RcAt.lists_lengths pl.isList pl'.isList (by simp;omega) hu X.prog X.w _ _ ⟨.bl _,H,I,rfl,?_⟩
   rw[a3m hl] at q;exact q
end
end L2
namespace PySem
open Sem (wp)
theorem a4Y:typeLookup (.type "list") "keys"=pure none:=by rw[typeLookup_type,builtinLookup_eq_fast];kernel_rfl
variable{A:Around}{s:Shared}{xs:Array Value}
theorem a9t{prog:Program}{w:World}{E:Value->Shared->Prop}{a:Addr}{o:Obj}{k:Nat}{Q:Option Value->Shared->Prop}
 (hx:s.heap.get? a=some o) (hc:o.cls=.type "list") (hdat:o.data=.seq xs k) (hd:o.dict=none) (hA:A.handled=none)
 (h:∀h' tk,(∀b ob,s.heap.get? b=some ob->h'.get? b=some ob)->Q none {s with heap:=h',toks:=tk}):wpAny (model prog w) A (getAttr? (.ref a) "keys") Q E s:=by
 obtain⟨c,dct,dat,sl⟩:=o
 simp only at hc hdat hd
 subst hc hdat hd;obtain⟨hp,g,d,tk,os⟩:=s
 have hT:∀tk',(⟨hp,g,d,tk',os⟩:Shared).TypeIs (.ref a) "list":=fun _=>⟨_,hx,rfl⟩
 have f1:=sub_AttributeError;have f3:=F.slot_list_getattribute.lookup;have f4:=F.slot_list_getattribute.bind (.ref a);have f5:=am_list_getattr_none;unfold getAttr? getAttrBy? getAttrBy
 repeat (any_goals (first|assumption|exact hT _|((with_reducible show wpAny _ _ (call (Value.builtin "list.__getattribute__") _ _) _ _ _);refine call_meets F.slot_list_getattribute (hT _) am_entry_list_getattribute (F.args_list_getattribute_2 _ _) (meets_getattribute_miss_list a xs k sl "keys" _ a4Y (by decide) (by decide)) ⟨hx,hA,fun h' tk' e hx'=>?_⟩)|wp_step))
 obtain⟨t2,u2,he⟩:=hx'.there
 show wpAny _ _ (getattributeRaised _ _ _ _ _ _ _) _ _ _
 unfold getattributeRaised
 repeat (any_goals (first|assumption|wp_step))
 exact h _ _ hx'.keeps
open PyProof.Rows
theorem J5:plainId "dict.update.loop"=true:=by decide+kernel
theorem a0p:entryFor table "dict.update.loop"=some Builtin.«dict.update.loop»:=entryFor_of_tree (by kernel_rfl)
variable{a:Value}{b:Value}{l:Addr}{items:Array Value}{Q:Value->Shared->Prop}
section
variable{prog:Program}{w:World}{K:Type}[DecidableEq K]{knd:KeyKind prog w K}
theorem a7a{E:Value->Shared->Prop}{t:Addr}{Q:List Value->Shared->Prop}(ht:IsTup s.heap t #[a,b])(h:Q [a,b] s):wpAny (model prog w) A (Builtin.Dict.pairItems (.ref t)) Q E s:=by
 obtain⟨o,ho,hc,n,hd⟩:=ht;obtain⟨hp,g,d,tk,os⟩:=s
 have hT:(⟨hp,g,d,tk,os⟩:Shared).TypeIs (.ref t) "tuple":=⟨_,ho,hc⟩
 unfold Builtin.Dict.pairItems
 repeat (any_goals (first|assumption|wp_step))
 rw[hd];exact wpAny_pure (wpAny_pure h)
theorem a9V{d it:Addr}{ps:List (K×Value)}(n1:d≠it)(n2:d≠l)(n3:it≠l)(hsz:items.size=ps.length)(k:Nat):∀(i:Nat) (kvs:List (K×Value)),ps.length-i=k->i<=ps.length->MeetsIn prog w (Builtin.«dict.update.loop» ⟨[.ref d,.ref it,rawInt i,.none],[]⟩)
 (fun A R s=>A.handled=none/\s.heap.IsListIter it l i/\s.heap.IsList l items/\s.heap.DictOf knd d kvs/\kvs.length+(ps.length-i)<=sizeLine∧
  (∀(j:Nat) (p:K×Value),ps[j]? =some p->∃t kv,items[j]? =some (.ref t)/\t≠d/\t≠it/\IsTup s.heap t #[kv,p.2]/\knd.is p.1 kv=true)∧
  ∀h' tk,h'.DictOf knd d (merged kvs (ps.drop i))->(∀b o,b≠d->b≠it->s.heap.get? b=some o->h'.get? b=some o)->R (.ok (.ret .none)) {s with heap:=h',toks:=tk}):=by
 induction k with
 |zero=>
  intro i kvs hk hi A R s h;obtain⟨hA,hit,hl,hd,hz,hq,h⟩:=h
  have hx:items[i]? =none:=by rw[Array.getElem?_eq_none];omega
  have hdr:ps.drop i=[]:=List.drop_eq_nil_of_le (by omega)
  rw[hdr] at h;unfold Builtin.«dict.update.loop»;refine wpAny_bind (wpAny_pyNext_list_end hA hit hl hx fun h' eb=>?_)
  refine wpAny_bind ?_
  unfold Builtin.Dict.addKeywords;refine wpAny_pure (wpAny_pure (h h' s.toks ?_ fun b o n1 n2 e=>eb b o n2 e))
  exact hd.extBut eb n1
 | succ k ih=>
  intro i kvs hk hi A R s h;obtain⟨hA,hit,hl,hd,hz,hq,h⟩:=h
  have hlt:i<ps.length:=by omega
  obtain⟨t,kv,e1,e2,e3,e4,e5⟩:=hq i ps[i] (af hlt)
  have hdr:ps.drop i=ps[i]::ps.drop (i+1):=drop_eq_getElem_cons hlt
  unfold Builtin.«dict.update.loop»;refine wpAny_bind (wpAny_pyNext_list_item hit hl e1 fun h1 st sb=>?_)
  have k1:∀b o,b≠it->s.heap.get? b=some o->h1.get? b=some o:=fun b o n e=>(sb.2 b n).trans e
  refine wpAny_bind (wpAny_holding (wpAny_bind (wpAny_tryCatch (a7a (show IsTup h1 t #[kv,ps[i].2] from let⟨o,ho,r⟩:=e4;⟨o,k1 t o e3 ho,r⟩) ?_))))
  refine wpAny_holding (wpAny_dictSet_pairs (hsz:=by omega) e5 (hd.sameBut sb n1) fun h2 dd sb2=>?_)
  have k2:∀b o,b≠d->b≠it->s.heap.get? b=some o->h2.get? b=some o:=fun b o n n' e=>(sb2.2 b n).trans (k1 b o n' e)
  refine wpAny_pure ⟨plainId_quiet J5 _,codeAny_builtin a0p (by
   rw[Around.under_plainId J5 _,show((i:Nat):Int)+1=((i+1:Nat):Int) by omega]
   refine ih (i+1) (stored kvs ps[i].1 ps[i].2) (by omega) (by omega) A R _ ⟨hA,?_,?_,dd,?_,fun j p hj=>?_,fun h' tk d1 d2=>?_⟩
   · obtain⟨o,ho,r⟩:=st;exact⟨o,(sb2.2 it n1.symm).trans ho,r⟩
   · obtain⟨o,ho,r⟩:=hl;exact⟨o,k2 l o n2.symm n3.symm ho,r⟩
   · have:=stored_length_le kvs ps[i].1 ps[i].2
     omega
   · obtain⟨t,kv,q1,q2,q3,⟨o,ho,r⟩,q5⟩:=hq j p hj;exact⟨t,kv,q1,q2,q3,⟨o,k2 t o q2 q3 ho,r⟩,q5⟩
   · refine h h' tk ?_ fun b o n n' e=>d2 b o n n' (k2 b o n n' e)
     rw[hdr];exact d1)⟩
theorem a2k{E:Value->Shared->Prop}{ol:Obj}{n:Nat}{ps:List (K×Value)}(hA:A.handled=none)(hx:s.heap.get? l=some ol)(hc:ol.cls=.type "list")(hdat:ol.data=.seq items n)(hd:ol.dict=none)(hsz:items.size=ps.length)(hz:ps.length<=sizeLine)
 (hq:∀(j:Nat) (p:K×Value),ps[j]? =some p->∃t kv,items[j]? =some (.ref t)/\IsTup s.heap t #[kv,p.2]/\knd.is p.1 kv=true)
 (h:∀h' tk,h'.DictOf knd s.heap.objs.size (merged [] ps)->(∀b o,s.heap.get? b=some o->h'.get? b=some o)->Q (.ref s.heap.objs.size) {s with heap:=h',toks:=tk}):
 wpAny (model prog w) A (call (.type "dict") [.ref l]) Q E s:=by
 refine callType_codes (Q₁:=fun obj s₁=>obj=.ref s.heap.objs.size/\s₁={s with heap:=s.heap.push {cls:=.type "dict",data:=.dict #[]}}) F.kt_called_dict (F.kt_typeCall_dict_1 _) F.entry_dict_init (kt_code_dict_new _ ⟨rfl,rfl⟩) ?_
 rintro obj s₁ ⟨rfl,rfl⟩
 have hnew:(s.heap.push {cls:=.type "dict",data:=.dict #[]}).DictOf knd s.heap.objs.size []:=Heap.DictOf.new s.heap
 have hx1:(s.heap.push {cls:=.type "dict",data:=.dict #[]}).get? l=some ol:=Heap.get?_push_of_some _ hx
 have ty:Shared.TypeIs {s with heap:=s.heap.push {cls:=.type "dict",data:=.dict #[]}} (.ref l) "list":=⟨_,hx1,hc⟩
 have nl:s.heap.objs.size≠l:=fun e=>absurd (Heap.lt_size hx) (by rw[e];exact aP _)
 refine⟨hnew.typeIs,F.args_dict_init_2 _ _,?_⟩
 unfold Builtin.«dict.__init__»;refine wpAny_bind ?_
 unfold Builtin.Dict.selfAndRest;refine wpAny_bind (wpAny_notOrdered_dict hnew.typeIs ?_)
 show wpAny _ _ (pure (s.heap.objs.size,[Value.ref l])) _ _ _
 refine wpAny_pure ?_
 show wpAny _ _ (Builtin.Dict.updateFrom "dict.__init__" s.heap.objs.size (.ref l) [] .none) _ _ _
 unfold Builtin.Dict.updateFrom;refine wpAny_bind (wpAny_typeOf ty ?_)
 rw[ay (by decide)]
 refine wpAny_bind (a9t hx1 hc hdat hd ?_ fun h1 tk1 k1=>?_)
 · exact hA
 · rw [ay (show(none:Option Value).isNone=true from rfl)]
   have hx2:h1.get? l=some ol:=k1 l _ hx1
   have hd2:h1.DictOf knd s.heap.objs.size []:=hnew.keep k1
   have lt1:s.heap.objs.size<h1.objs.size:=by
    obtain⟨o,_,_,ho,_⟩:=hd2;exact Heap.lt_size ho
   refine wpAny_bind (wpAny_rule (wpAny_bind (wpAny_pyIter_list (items:=items) ⟨ol,hx2,hc,n,hdat⟩ ?_)))
   refine wpAny_pure ⟨plainId_quiet J5 _,codeAny_builtin a0p (by
    rw[Around.under_plainId J5 _];refine a9V (knd:=knd) (d:=s.heap.objs.size) (it:=h1.objs.size) (l:=l) (ps:=ps) (Nat.ne_of_lt lt1) nl (fun e=>absurd (Heap.lt_size hx2) (by rw[←e];exact aP _)) hsz _ 0 [] rfl (Nat.zero_le _) A.in1 _ _ ⟨hA,⟨_,Heap.get?_push_size _ rfl,rfl,rfl⟩,⟨ol,Heap.get?_push_of_some _ hx2,hc,n,hdat⟩,hd2.push _,by simpa using hz,fun j p hj=>?_,fun h' tk d1 d2=>⟨rfl,?_⟩⟩
    · obtain⟨t,kv,q1,⟨o,ho,r⟩,q3⟩:=hq j p hj;have ho1:=k1 t o (Heap.get?_push_of_some _ ho)
      exact⟨t,kv,q1,fun e=>absurd (Heap.lt_size ho) (by rw[e];exact aP _),fun e=>absurd (Heap.lt_size ho1) (by rw[e];exact aP _),⟨o,Heap.get?_push_of_some _ ho1,r⟩,q3⟩
    · refine h h' tk (by rwa [drop_zero] at d1) fun b o e=>d2 b o (fun z=>absurd (Heap.lt_size e) (by rw[z];exact aP _)) (fun z=>?_) (Heap.get?_push_of_some _ (k1 b o (Heap.get?_push_of_some _ e)))
      have:=Heap.lt_size (k1 b o (Heap.get?_push_of_some _ e))
      rw[z] at this;exact absurd this (aP _))⟩
end
end PySem
namespace L2
open PySem PySem.Spec PyProof.Rows
def PrT(H:Hp):List V->List (Key×V)->Prop:=Paired fun y p=>∃t,y=.ref t/\H t=some (.tup [kV p.1,p.2])
section
variable{X:Cx}
theorem b0S{pins:List (Addr×Obj)}{σ:St}{H:Hp}{s:Shared}(I:Inv X pins σ H s):∀{ys:List V} {kvs:List (Key×V)} {its:List Value},PrT H ys kvs->k7 ys its->∃ps:List (Key×Value),KV kvs ps/\ps.length=its.length/\∀(j:Nat) (p:Key×Value),ps[j]? =some p->∃t kv,its[j]? =some (.ref t)/\IsTup s.heap t #[kv,p.2]/\(u5 X.prog X.w).is p.1 kv=true
 |_,_,_,.nil,.nil=>⟨[],.nil,rfl,fun j p h=>by simp at h⟩
 | _,_,_,.cons h t,.cons r q=>by
  obtain⟨ps,k1,k2,k3⟩:=b0S I t q;obtain⟨a,rfl,ha⟩:=h;cases r;obtain⟨_,its,rv,pa⟩:=I.hok a _ ha;obtain⟨u,w,rfl,ru,rw'⟩:=a7B rv;refine⟨(_,w)::ps,.cons ⟨rfl,rw'⟩ k1,by rw[length_cons,length_cons,k2],fun j p hj=>?_⟩
  cases j with
  |zero=>
   cases hj;exact⟨a,u,rfl,pa.tup,a0h ru⟩
  |succ j=>exact k3 j p hj
theorem a5w(hc:X.calm=true):B8 X (.type "dict") (fun xs H Q=>∃p ys kvs,xs=[.ref p]/\SqL X.K H p ys/\PrT H ys kvs/\∀d,H d=none->Q (.ref d) (upd H d (.dK (W1 [] kvs)))):=by
 intro pins s σ H xs us Q I r h;obtain⟨p,ys,kvs,rfl,hq,pr,q⟩:=h;obtain⟨u,rfl,rx⟩:=M9 r;cases rx;obtain⟨its,rv,pl,hz⟩:=I.list hq;obtain⟨o,n,e,c,hd,dat⟩:=pl;obtain⟨ps,k1,k2,k3⟩:=b0S I pr rv;have l1:=rv.length;have l2:=Paired.length pr;refine a2k (knd:=u5 X.prog X.w) (items:=its.toArray) (ps:=ps) (I.ok.hd hc) e c dat hd (by simp[k2]) (by omega) (fun j p hj=>?_) fun h' tk dd kp=>?_
 · obtain⟨t,kv,q1,q2,q3⟩:=k3 j p hj;exact⟨t,kv,by simpa using q1,q2,q3⟩
 · have hl:=T9 kvs [];rw[length_nil] at hl;exact⟨.ref s.heap.objs.size,_,I.laid (t':=tk) (fun b o e=>kp b o e) (ai _) (a7t (by omega) (beq_eq_false_iff_ne.mpr (Nat.ne_of_gt I.big)) (k1.merge .nil) dd),rfl,q _ (I.hok.fresh (ai _))⟩
theorem b2z(hc:X.calm=true):B8 X (.builtin "sum") (fun xs H Q=>∃p,∃is:List Int,xs=[.ref p]/\SqL X.K H p (is.map V.int)/\Q (.int is.sum) H):=by
 intro pins s σ H xs us Q I r h;obtain⟨p,is,rfl,hq,q⟩:=h;obtain⟨u,rfl,rx⟩:=M9 r;cases rx;obtain⟨its,rv,pl,hz⟩:=I.list hq;have hi:=a3j rv;obtain⟨xs,hx⟩:=hi.allInts.items;refine sum_intListG (I.ok.hd hc) (hx▸pl.isList) fun h' tk t' hk=>?_
 have e1:is=xs.toList.map (·.1):=by
  rw[←nums_intItems,←hx];exact(show numsOf its.toArray.toList=is from hi.numsOf).symm
 have e2:preSum (numAt xs) xs.size=is.sum:=by
  rw[preSum_eq,bq (by simp),e1]
 rw[e2];exact⟨.int _,H,I.kept (t':=tk) hk,⟨_,rfl⟩,q⟩
end
end L2
namespace PySem
open Sem (wp)
variable{Q:Value->Shared->Prop}
section
variable{prog:Program}{w:World}{A:Around}{E:Value->Shared->Prop}{s:Shared}{r:Addr}{a b c:Int}{t u v:Tok}{n:Nat}
theorem a3F{Q:List Value->Shared->Prop}(hh:A.handled=none)(hr:IsRange s.heap r a b c t u v)(hsmall:Builtin.Range.small a b c=true)(hn:Builtin.Range.rangeSize a b c=n)(hlen:n<=2^24)
 (hQ:∀(h':Heap) tk acc,(∀b o,s.heap.get? b=some o->h'.get? b=some o)->ItemsOf (fun i v=>∃t,v=.int (a+i*c) t) acc n->Q acc.toList {s with heap:=h',toks:=tk}):wpAny (model prog w) A (collect (.ref r)) Q E s:=by
 unfold collect;refine wpAny_bind (wpAny_runValue (codeAny_builtin F.entry_proto_collect ?_))
 rw[Around.under_plainId F.plain_proto_collect _]
 show wpAny _ A.in1 (newList []>>=fun l=>again (.builtin "list.__iadd__" ⟨[l,.ref r],[]⟩)) _ _ s
 refine wpAny_bind (wpAny_newObj_type ?_)
 have hS:(s.heap.push {cls:=.type "list",data:=.seq ([]:List Value).toArray}).get? s.heap.objs.size=some {cls:=.type "list",data:=.seq ([]:List Value).toArray}:=Heap.get?_push_size _ rfl
 have H:∀R:Result->Shared->Prop,(∀(h':Heap) tk acc' c',(∀b o,b≠s.heap.objs.size->(s.heap.push {cls:=.type "list",data:=.seq ([]:List Value).toArray}).get? b=some o->h'.get? b=some o)->h'.get? s.heap.objs.size=some {cls:=.type "list",dict:=none,data:=.seq acc' c',slots:= #[]}->ItemsOf (fun i v=>∃t,v=.int (a+i*c) t) acc' n->R (.ok (.ret (.ref s.heap.objs.size))) {s with heap:=h',toks:=tk})->codeAny (model prog w) A (.builtin "list.__iadd__" ⟨[.ref s.heap.objs.size,.ref r],[]⟩) R {s with heap:=s.heap.push {cls:=.type "list",data:=.seq ([]:List Value).toArray}}:=fun R hR=>codeAny_builtin F.entry_list_iadd (by
  rw[Around.under_plainId F.plain_list_iadd _];exact wpAny_extend_range (s:={s with heap:=s.heap.push {cls:=.type "list",data:=.seq ([]:List Value).toArray}}) hh (Heap.get?_push_of_some _ hr) hsmall hn hlen s.heap.objs.size _ 0 hS hR)
 refine wpAny_pure ⟨plainId_quiet F.plain_list_iadd _,H _ fun h' tk acc' c' hk hS' hacc=>?_⟩
 show wpAny _ A (load s.heap.objs.size>>=_) _ _ _
 refine wpAny_bind (wpAny_load hS' ?_)
 exact wpAny_pure (hQ h' tk acc' (fun b o e=>hk b o (Nat.ne_of_lt (Heap.lt_size e)) (Heap.get?_push_of_some _ e)) hacc)
theorem a1W{Q₁:Value->Shared->Prop}(hh:A.handled=none)(hr:IsRange s.heap r a b c t u v)(hsmall:Builtin.Range.small a b c=true)(hn:Builtin.Range.rangeSize a b c=n)(hlen:n<=2^24)
 (h:∀(h':Heap) tk acc,(∀b o,s.heap.get? b=some o->h'.get? b=some o)->ItemsOf (fun i v=>∃t,v=.int (a+i*c) t) acc n->Q₁ (.ref h'.objs.size) {s with heap:=h'.push {cls:=.type "tuple",data:=.seq acc},toks:=tk}):
 codeAny (model prog w) A (.call (.builtin "tuple.__new__") ⟨[.type "tuple",.ref r],[]⟩) (wants Q₁ E) s:=by
 refine codeAny_of_tree ?_
 show wpAny _ A.in1 (do checkBuiltinCall "tuple.__new__" ⟨[.type "tuple",.ref r],[]⟩;again (.builtin "tuple.__new__" ⟨[.type "tuple",.ref r],[]⟩)) _ _ s
 refine wpAny_bind (wpAny_of_eq (F.newCall_tuple_1 _) (wpAny_pure ⟨plainId_quiet F.plain_tuple_new _,codeAny_builtin F.entry_tuple_new ?_⟩))
 rw[Around.under_plainId F.plain_tuple_new _];have hsub:=sub_tuple_self;have hinit:=init_tuple_lookup;have hmh:=madeHere_tuple
 have hTI:s.TypeIs (.ref r) "range":=⟨_,hr,rfl⟩
 wp_walk using wpAny_typeOf hTI,a3F (A:=A.in1) hh hr hsmall hn hlen
 intro h' tk acc hk hacc
 show wpAny _ _ (Builtin.Tuple.tupleExact acc.toList.toArray>>=fun v=>ret v) _ _ _
 unfold Builtin.Tuple.tupleExact;refine wpAny_bind (wpAny_newObj_type ?_ (by show acc.toList.toArray.size<=sizeLine;simp only[Array.toArray_toList];rw[hacc.1];exact aR hlen (by decide)))
 refine wpAny_pure ?_
 rw[show acc.toList.toArray=acc by simp]
 exact h h' tk acc hk hacc
theorem a1X(hh:A.handled=none)(hr:IsRange s.heap r a b c t u v)(hsmall:Builtin.Range.small a b c=true)(hn:Builtin.Range.rangeSize a b c=n)(hlen:n<=2^24)
 (hQ:∀(h':Heap) tk acc,(∀b o,s.heap.get? b=some o->h'.get? b=some o)->ItemsOf (fun i v=>∃t,v=.int (a+i*c) t) acc n->Q (.ref h'.objs.size) {s with heap:=h'.push {cls:=.type "tuple",data:=.seq acc},toks:=tk}):wpAny (model prog w) A (call (.type "tuple") [.ref r]) Q E s:=by
 refine callType_codes (Q₁:=fun obj s₁=>s₁.TypeIs obj "tuple"/\Q obj s₁) F.called_tuple (F.typeCall_tuple_1 _) F.entry_object_init
  (a1W (A:=A.in1) hh hr hsmall hn hlen fun h' tk acc hk hacc=>⟨⟨_,Heap.get?_push_size _ rfl,rfl⟩,hQ h' tk acc hk hacc⟩) fun obj s₁ h₁=>?_
 exact⟨h₁.1,F.args_object_init_2 obj _,object_init_meets F.called_tuple.init.lookup F.called_tuple.made (by decide) prog w A.in1 _ s₁ ⟨h₁.1,rfl,h₁.2⟩⟩
end
end PySem
namespace L2
open PySem PySem.Spec PyProof.Rows
section
variable{X:Cx}
theorem a3V{α β:Type}{R:α->β->Prop}:∀{xs:List α} {us:List β},xs.length=us.length->(∀(j:Nat) x u,xs[j]? =some x->us[j]? =some u->R x u)->Paired R xs us
 |[],[],_,_=>.nil
 |[],_::_,h,_=>by cases h
 |_::_,[],h,_=>by cases h
 |x::xs,u::us,h,k=>.cons (k 0 x u rfl rfl) (a3V (Nat.succ.inj h) fun j x u h1 h2=>k (j+1) x u h1 h2)
def b8G:List V->Hp->VK->Prop:=fun xs H Q=>∃i j:Int,xs=[.int i,.int j]/\∀r,H r=none->Q (.ref r) (upd H r (.rng i j))
theorem b2A:B8 X (.type "range") b8G:=by
 intro pins s σ H xs us Q I r h;obtain⟨i,j,rfl,q⟩:=h;obtain⟨u,w',rfl,⟨t,rfl⟩,⟨t',rfl⟩⟩:=a7B r;refine call_range_2 ?_
 exact⟨.ref s.heap.objs.size,_,I.laid (fun b o e=>Heap.get?_push_of_some _ e) (ai _) (show C2 X.prog X.w _ _ _ (.rng i j) from⟨_,_,_,Heap.get?_push_size _ rfl⟩),rfl,q _ (I.hok.fresh (ai _))⟩
def rTR:List V->Hp->VK->Prop:=fun xs H Q=>∃(r:Addr) (lo hi:Int),xs=[.ref r]/\H r=some (.rng lo hi)/\(-(2^62)<=lo/\lo<2^62/\ -(2^62)<=hi/\hi<2^62)/\(hi-lo).toNat<=2^24/\∀t,H t=none->Q (.ref t) (upd H t (.tup ((List.range (hi-lo).toNat).map fun(i:Nat)=>V.int (lo+i))))
theorem a9O(hc:X.calm=true):B8 X (.type "tuple") rTR:=by
 intro pins s σ H xs us Q I r h;obtain⟨ra,lo,hi,rfl,hr,⟨b1,b2,b3,b4⟩,hz,q⟩:=h;obtain⟨u,rfl,rx⟩:=M9 r;cases rx;obtain⟨t,u,v,e⟩:=I.hok ra _ hr;refine a1X (n:=(hi-lo).toNat) (I.ok.hd hc) (show IsRange s.heap ra lo hi 1 t u v from e) (small_one b1 b2 b3 b4) (by rw[rangeSize_one];split<;>omega) hz fun h' tk acc hk hacc=>?_
 have I1:Inv X pins σ H {s with heap:=h',toks:=tk}:=I.kept (t':=tk) hk
 have rel:k7 ((List.range (hi-lo).toNat).map fun(i:Nat)=>V.int (lo+i)) acc.toList:=by
  refine a3V (by rw[aa,aI,Array.length_toList];exact hacc.1.symm) fun j x w h1 h2=>?_
  rw[Array.getElem?_toList] at h2
  obtain⟨t,rfl⟩:=hacc.2 j w h2
  have hj:j<(hi-lo).toNat:=by
   have:=(ac.mp h1).1
   simpa using this
  rw[aj,aJ hj] at h1
  cases h1;refine⟨t,?_⟩
  rw[Int.mul_one]
 refine⟨.ref h'.objs.size,_,I1.laid (t':=tk) (fun b o e=>Heap.get?_push_of_some _ e) (ai _) (show C2 X.prog X.w _ _ _ (.tup _) from⟨by rw[aa,aI];exact aR hz (by decide),acc.toList,rel,by simpa using a1h.new h' acc⟩),rfl,q _ (I1.hok.fresh (ai _))⟩
end
end L2
namespace PySem
open Sem (wp)
variable{l:Addr}{items:Array Value}{Q:Value->Shared->Prop}
section
variable{prog:Program}{w:World}{A:Around}{E:Value->Shared->Prop}{s:Shared}
theorem b4f:typeLookup (.type "list_reverseiterator") "__len__"=pure none:=by rw[typeLookup_type,builtinLookup_eq_fast];kernel_rfl
theorem b1w:typeLookup (.type "list_reverseiterator") "__length_hint__"=pure (some (.builtin "list_reverseiterator.__length_hint__")):=by rw[typeLookup_type,builtinLookup_eq_fast];kernel_rfl
theorem b0B{r:Addr}(hT:s.TypeIs (.ref r) "list_reverseiterator"){Q:Bool->Shared->Prop}(h:Q false s):wpAny (model prog w) A (Builtin.List.listLengthHint (.ref r)) Q E s:=by
 unfold Builtin.List.listLengthHint;refine wpAny_bind (wpAny_specialOf hT b4f ?_)
 show wpAny _ A (specialOf (Value.ref r) (Str.ofString "__length_hint__")>>=_) _ _ _
 refine wpAny_bind (wpAny_specialOf hT b1w ?_)
 generalize hid:("list_reverseiterator.__length_hint__":String)=id0
 wp_delta
 rw[show splitId id0=some ("list_reverseiterator","__length_hint__") from by subst hid;decide+kernel]
 subst hid;refine wpAny_bind (wpAny_isInstance (T:="list_reverseiterator") (b:=true) hT (by rw[isSubtype_type];kernel_rfl) ?_)
 refine wpAny_ite_split (fun hab=>absurd hab (by decide)) (fun _=>?_)
 refine wpAny_ite_split (fun _=>?_) (fun hab=>absurd (by decide+kernel) hab)
 refine wpAny_ite_split (fun hab=>absurd hab (by decide)) (fun _=>?_)
 exact wpAny_pure h
theorem b0A{R:Result->Shared->Prop}{S I:Addr}(hh:A.handled=none)(nSI:S≠I)(nS:l≠S)(nI:l≠I)(hn:items.size<=sizeLine)(res:Value){h0:Heap}
 (done:∀(g:Heap) (acc:Array Value) (c:Nat),(∀b o,b≠S->b≠I->h0.get? b=some o->g.get? b=some o)->g.get? S=some {cls:=.type "list",dict:=none,data:=.seq acc c,slots:= #[]}->acc.toList=items.toList.reverse->R (.ok (.ret res)) {s with heap:=g}):
 ∀(k i:Nat) (h:Heap) (c:Nat) (acc:Array Value),items.size-i=k->i<=items.size->h.IsRevIter I l ((items.size:Int)-1-(i:Int))->h.IsList l items->(∀b o,b≠S->b≠I->h0.get? b=some o->h.get? b=some o)→
  h.get? S=some {cls:=.type "list",dict:=none,data:=.seq acc c,slots:= #[]}->acc.toList=items.toList.reverse.take i->codeAny (model prog w) A (.builtin "list.extend.loop" ⟨[.ref S,.ref I,res],[]⟩) R {s with heap:=h}:=by
 intro k
 induction k with
 |zero=>
  intro i h c acc hk hi st hl kp hS ha
  have e:(items.size:Int)-1-(i:Int)= -1:=by omega
  rw[e] at st;refine codeAny_builtin F.entry_extend_loop ?_
  rw[Around.under_plainId F.plain_extend_loop _]
  show wpAny _ A.in1 (pyNext (.ref I)>>=_) _ _ _
  refine wpAny_bind (wpAny_pyNext_rev_end (s:={s with heap:=h}) (A:=A.in1) hh st fun g eb=>wpAny_pure (done g acc c (fun b o b1 b2 e=>eb b o b2 (kp b o b1 b2 e)) (eb S _ nSI hS) ?_))
  rw[ha];exact bq (by rw[length_reverse,Array.length_toList];omega)
 | succ k ih=>
  intro i h c acc hk hi st hl kp hS ha
  have li:i<items.size:=by omega
  have e:(items.size:Int)-1-(i:Int)=((items.size-1-i:Nat):Int):=by omega
  have hx:items[items.size-1-i]? =some (items[items.size-1-i]'(by omega)):=Array.getElem?_eq_getElem (by omega)
  have zs:acc.size=i:=by rw[←Array.length_toList,ha,aM,length_reverse,Array.length_toList];omega
  rw[e] at st;refine codeAny_builtin F.entry_extend_loop ?_
  rw[Around.under_plainId F.plain_extend_loop _]
  show wpAny _ A.in1 (pyNext (.ref I)>>=_) _ _ _
  refine wpAny_bind (wpAny_pyNext_rev_item (s:={s with heap:=h}) st hl hx fun g st2 k2=>?_)
  have e2:((items.size-1-i:Nat):Int)-1=(items.size:Int)-1-((i+1:Nat):Int):=by omega
  rw[e2] at st2;generalize items[items.size-1-i]'(by omega)=x at hx⊢
  have kk:∀b o,b≠I->h.get? b=some o->g.get? b=some o:=fun b o hb e=>(k2.2 b hb).trans e
  have hS2:=kk S _ nSI hS
  have up:∀b o,b≠S->g.get? b=some o->(g.update S (Obj.mapSeq (·.push x))).get? b=some o:=fun b o hb e=>(Heap.get?_update_other _ _ (Ne.symm hb)).trans e
  show wpAny _ A.in1 (updateSeq S (·.push x)>>=_) _ _ _
  refine wpAny_bind (wpAny_updateSeq hS2 rfl (wpAny_pure ⟨plainId_quiet F.plain_extend_loop _,?_⟩) (by rw[zs];omega) (by show(acc.push x).size<=sizeLine+1;rw[Array.size_push,zs];omega))
  refine ih (i+1) _ _ (acc.push x) (by omega) li (st2.at fun o e=>up I o (Ne.symm nSI) e) (hl.at fun o e=>up l o nS (kk l o nI e)) (fun b o b1 b2 e=>up b o b1 (kk b o b2 (kp b o b1 b2 e))) (Heap.get?_update_self _ hS2 rfl) ?_
  have lr:i<items.toList.reverse.length:=by rw[length_reverse,Array.length_toList];exact li
  rw[Array.toList_push,ha,take_succ_eq_append_getElem lr];congr 2
  have:items.toList.reverse[i]? =some x:=by
   rw[List.getElem?_reverse (by rw[Array.length_toList];exact li),Array.length_toList,Array.getElem?_toList]
   exact hx
  exact(ax ((af lr).symm.trans this)).symm
theorem b3v{R:Result->Shared->Prop}{I S:Addr}{c0:Nat}(hh:A.handled=none)(hv:s.heap.IsRevIter I l ((items.size:Int)-1))(hl:s.heap.IsList l items)(nSI:S≠I)(nS:l≠S)(nI:l≠I)(res:Value)(hS:s.heap.get? S=some {cls:=.type "list",data:=.seq #[] c0})(hn:items.size<=sizeLine)
 (done:∀(g:Heap) (acc:Array Value) (c:Nat),(∀b o,b≠S->b≠I->s.heap.get? b=some o->g.get? b=some o)->g.get? S=some {cls:=.type "list",dict:=none,data:=.seq acc c,slots:= #[]}->acc.toList=items.toList.reverse->R (.ok (.ret res)) {s with heap:=g}):
 wpAny (model prog w) A.in1 (Builtin.List.listExtendWith (.ref S) (.ref I) res) (fun fin s'=>match fin with|.done f=>R (.ok f) s'|.again c'=>c'.quiet=true/\codeAny (model prog w) A c' R s') (fun e s'=>R (.error e) s') s:=by
 unfold Builtin.List.listExtendWith;refine wpAny_bind (wpAny_typeOf (T:="list_reverseiterator") hv.typeIs ?_)
 have n1:Builtin.List.listSameRef (.ref S) (.ref I)=false:=by simp[Builtin.List.listSameRef,nSI]
 have n2:(Value.type "list_reverseiterator"==Value.type "list")=false:=by decide
 have n3:(Value.type "list_reverseiterator"==Value.type "tuple")=false:=by decide
 simp only[n1,n2,n3,Bool.or_false,Bool.false_eq_true,if_false];refine wpAny_bind (wpAny_pyIter_revIter hv ?_)
 refine wpAny_bind (wpAny_holding (b0B hv.typeIs ?_))
 refine wpAny_ite_split (fun hab=>absurd hab (by decide+kernel)) fun _=>wpAny_pure ⟨plainId_quiet F.plain_extend_loop _,?_⟩
 exact b0A (s:=s) (h0:=s.heap) hh nSI nS nI hn res done items.size 0 s.heap c0 #[] (Nat.sub_zero _) (Nat.zero_le _) (by rw[Int.ofNat_zero,Int.sub_zero];exact hv) hl (fun _ _ _ _ e=>e) hS rfl
theorem b0C{I:Addr}(hh:A.handled=none)(hv:s.heap.IsRevIter I l ((items.size:Int)-1))(hl:s.heap.IsList l items)(nI:l≠I)(hn:items.size<=sizeLine)
 (done:∀(g:Heap) (acc:Array Value) (c:Nat),(∀b o,b≠I->s.heap.get? b=some o->g.get? b=some o)->g.get? s.heap.objs.size=some {cls:=.type "list",dict:=none,data:=.seq acc c,slots:= #[]}->acc.toList=items.toList.reverse->Q (.ref s.heap.objs.size) {s with heap:=g}):
 wpAny (model prog w) A (call (.type "list") [.ref I]) Q E s:=by
 refine callType_codes (Q₁:=fun o s1=>o=.ref s.heap.objs.size/\s1={s with heap:=s.heap.push {cls:=.type "list",data:=.seq #[]}}) F.called_list (F.typeCall_list_1 _) F.entry_list_init (code_list_new _ ⟨rfl,rfl⟩) fun o s1 x=>?_
 obtain⟨rfl,rfl⟩:=x
 have hS:(s.heap.push {cls:=.type "list",data:=.seq #[]}).get? s.heap.objs.size=some {cls:=.type "list",data:=.seq #[]}:=Heap.get?_push_size _ rfl
 have lr:I<s.heap.objs.size:=let⟨_,ho,_⟩:=hv;Heap.lt_size ho
 have ld:l<s.heap.objs.size:=let⟨_,ho,_⟩:=hl;Heap.lt_size ho
 refine⟨⟨_,hS,rfl⟩,F.args_list_init_2 _ _,?_⟩
 show wpAny _ _ (do let old←Builtin.List.listItems (.ref s.heap.objs.size);Builtin.List.listUpdate (.ref s.heap.objs.size) (fun _=> #[]);letGo old.toList.reverse;Builtin.List.listExtendWith (.ref s.heap.objs.size) (.ref I) .none) _ _ _
 refine wpAny_bind ?_
 unfold Builtin.List.listItems;refine wpAny_bind (wpAny_seqItems hS rfl (wpAny_pure ?_))
 show wpAny _ _ (updateSeq s.heap.objs.size (fun _=> #[])>>=fun _=>letGo (#[]:Array Value).toList.reverse>>=fun _=>Builtin.List.listExtendWith (.ref s.heap.objs.size) (.ref I) .none) _ _ _
 refine wpAny_bind (wpAny_updateSeq hS rfl (wpAny_bind (wpAny_letGo ?_)))
 have hS2:=Heap.get?_update_self (Obj.mapSeq (fun _=>(#[]:Array Value))) hS rfl
 have up:∀b o,b≠s.heap.objs.size->s.heap.get? b=some o->((s.heap.push {cls:=.type "list",data:=.seq #[]}).update s.heap.objs.size (Obj.mapSeq (fun _=>(#[]:Array Value)))).get? b=some o:=fun b o hb e=>(Heap.get?_update_other _ _ (Ne.symm hb)).trans (Heap.get?_push_of_some _ e)
 refine b3v (A:=A.in1) hh (hv.at fun o e=>up I o (Nat.ne_of_lt lr) e) (hl.at fun o e=>up l o (Nat.ne_of_lt ld) e) (Nat.ne_of_gt lr) (Nat.ne_of_lt ld) nI .none hS2 hn fun g acc c kp hS3 ha=>⟨rfl,?_⟩
 exact done g acc c (fun b o hb e=>kp b o (Nat.ne_of_lt (Heap.lt_size e)) hb (up b o (Nat.ne_of_lt (Heap.lt_size e)) e)) hS3 ha
end
end PySem
namespace L2
open PySem PySem.Spec PyProof.Rows
section
variable{X:Cx}{o:Expr}{to:TE}{p p2 pos pos2:Pos}
def c0M(to:TE):TE:=fun σ H Q=>to σ H fun x H1=>∃l xs,x=.ref l/\H1 l=some (.lst xs)/\∀p,H1 p=none->Q (.ref p) (upd H1 p (.lst xs.reverse))
theorem b6i(hg:Gl X "list")(hm:X.mg "list"=none)(hg2:Gl X "reversed")(hm2:X.mg "reversed"=none)(hc:X.calm=true)(ho:PE X o to)(hp:starEach [o] X.env=[(false,eval o X.env)]):
 PE X (.Call (.Name "list" p) [.Call (.Name "reversed" p2) [o] [] pos2] [] pos) (c0M to):=by
 intro pins s σ H Q I h;refine Call_ (a0f I hg hm boot_list (PyProof.Rows.callWith_type1 ?_ rfl rfl))
 show wpAny _ _ (spliced [(false,eval (.Call (.Name "reversed" p2) [o] [] pos2) X.env)]) _ _ s
 refine Calls.spliced_cons (Call_ (a0f I hg2 hm2 boot_reversed (PyProof.Rows.callWith_type1 ?_ (by rw[hp];rfl) rfl)))
 rw[hp];refine Calls.spliced_cons (thn (ho pins s σ H _ I h) fun v s1 ⟨x,H1,I1,r1,l,xs,ex,hd,q1⟩=>Calls.spliced_nil ?_)
 subst ex;cases r1;obtain⟨z,its,n,vs,e1⟩:=I1.hok l _ hd
 have zl:its.length=xs.length:=(k7.length vs).symm
 have il:s1.heap.IsList l its.toArray:=⟨_,e1,rfl,n,rfl⟩
 have ll:l<s1.heap.objs.size:=Heap.lt_size e1
 refine call_reversed_list il (Calls.spliced_nil ?_)
 refine b0C (I:=s1.heap.objs.size) (l:=l) (items:=its.toArray) (I1.ok.hd hc) ⟨_,Heap.get?_push_size _ rfl,rfl,rfl⟩ (il.at fun o e=>Heap.get?_push_of_some _ e) (Nat.ne_of_lt ll) (by rw[size_toArray,zl];exact z) fun g acc c kp hS ha=>?_
 have kp1:∀b u,s1.heap.get? b=some u->g.get? b=some u:=fun b u e=>kp b u (Nat.ne_of_lt (Heap.lt_size e)) (Heap.get?_push_of_some _ e)
 have gs:s1.heap.objs.size<=(s1.heap.push (revObj l ((its.toArray.size:Int)-1))).objs.size:=by rw[Heap.size_push];exact Nat.le_succ _
 generalize (s1.heap.push (revObj l ((its.toArray.size:Int)-1))).objs.size=S at hS gs⊢;refine⟨.ref S,_,I1.laid (t':=s1.toks) kp1 gs (show C2 X.prog X.w _ _ _ (.lst xs.reverse) from⟨by rw[length_reverse];exact z,its.reverse,c,k7.reverse vs,?_⟩),rfl,q1 S (I1.hok.fresh gs)⟩
 rw[show its.reverse.toArray=acc by apply Array.ext';rw[ha]]
 exact hS
end
section
variable{X:Cx}
theorem flat_strs:∀ts:List Str,(ts.map V.str).all L9=true
 |[]=>rfl
 |_::r=>flat_strs r
end
noncomputable def srt(l:List Int):List Int:=l.mergeSort fun a b=>decide (a<=b)
theorem a5O(l:List Int):(srt l).Perm l:=List.mergeSort_perm _ _
theorem b5K(l:List Int):(srt l).Pairwise (· <= ·):=by
 have:=List.pairwise_mergeSort (le:=fun a b:Int=>decide (a<=b)) (fun a b c h1 h2=>bn (Int.le_trans (aw h1) (aw h2))) (fun a b=>by
  rcases Int.le_total a b with h|h
  · rw[bn h];rfl
  · rw[bn h,Bool.or_true]) l
 exact this.imp fun h=>aw h
theorem b0k{l m:List Int}(p:m.Perm l)(h:m.Pairwise (· <= ·)):m=srt l:=
 List.Perm.eq_of_pairwise (fun a b _ _ h1 h2=>Int.le_antisymm h1 h2) h (b5K l) (p.trans (a5O l).symm)
theorem a2E:∀{us:List Value} {ns:List Int},IntsAre us ns->k7 (ns.map V.int) us
 |_,_,.nil=>.nil
 |_,_,.cons n t h=>.cons ⟨t,rfl⟩ (a2E h)
section
variable{X:Cx}
theorem a6E:B8 X (.builtin "sorted") (fun xs H Q=>∃p,∃is:List Int,xs=[.ref p]/\SqL X.K H p (is.map V.int)/\is.length<64/\∀q,H q=none->Q (.ref q) (upd H q (.lst ((srt is).map V.int)))):=by
 intro pins s σ H xs us Q I r h;obtain⟨p,is,rfl,hq,h64,q⟩:=h;obtain⟨u,rfl,rx⟩:=M9 r;cases rx;obtain⟨its,rv,pl,hz⟩:=I.list hq;have hi:=a3j rv;refine sorted_ints pl.isList hi (by have:=hi.length;omega) fun out ns' a1 a2 a3=>?_
 obtain⟨e,he⟩:=sortedAll_at s.heap its out;have es:=b0k a2 a3;subst es;refine⟨.ref (s.heap.objs.size+1),_,I.laid (t':=s.toks) (fun b o hb=>sortedAll_old hb) (Nat.le_succ _) (show C2 X.prog X.w _ _ _ (.lst ((srt is).map V.int)) from⟨?_,out.toList,e,a2E a1,?_⟩),rfl,q _ (I.hok.fresh (Nat.le_succ _))⟩
 · rw[aa,(a5O is).length_eq,sizeLine_eq]
   have:(64:Nat)<=2^62:=by decide
   omega
 · exact he
end
end L2
namespace EV
open PySem L2
inductive D where
 |non|bl (b:Bool)|int (i:Int)|str (x:Str)|tup (l:List D)|ref (n:Nat)
 deriving Inhabited
mutual
def D.dec:(a b:D)->Decidable (a=b)
  | .non,b=>match b with
    |.non=>Decidable.isTrue rfl
    |.bl _=>Decidable.isFalse (fun h=>nomatch h)|.int _=>Decidable.isFalse (fun h=>nomatch h)|.str _=>Decidable.isFalse (fun h=>nomatch h)|.tup _=>Decidable.isFalse (fun h=>nomatch h)|.ref _=>Decidable.isFalse (fun h=>nomatch h)
  | .bl x,b=>match b with
    |.bl y=>if h:x=y then Decidable.isTrue (by rw[h]) else Decidable.isFalse (fun e=>h (by injection e))
    |.non=>Decidable.isFalse (fun h=>nomatch h)|.int _=>Decidable.isFalse (fun h=>nomatch h)|.str _=>Decidable.isFalse (fun h=>nomatch h)|.tup _=>Decidable.isFalse (fun h=>nomatch h)|.ref _=>Decidable.isFalse (fun h=>nomatch h)
  | .int x,b=>match b with
    |.int y=>if h:x=y then Decidable.isTrue (by rw[h]) else Decidable.isFalse (fun e=>h (by injection e))
    |.non=>Decidable.isFalse (fun h=>nomatch h)|.bl _=>Decidable.isFalse (fun h=>nomatch h)|.str _=>Decidable.isFalse (fun h=>nomatch h)|.tup _=>Decidable.isFalse (fun h=>nomatch h)|.ref _=>Decidable.isFalse (fun h=>nomatch h)
  | .str x,b=>match b with
    |.str y=>if h:x=y then Decidable.isTrue (by rw[h]) else Decidable.isFalse (fun e=>h (by injection e))
    |.non=>Decidable.isFalse (fun h=>nomatch h)|.bl _=>Decidable.isFalse (fun h=>nomatch h)|.int _=>Decidable.isFalse (fun h=>nomatch h)|.tup _=>Decidable.isFalse (fun h=>nomatch h)|.ref _=>Decidable.isFalse (fun h=>nomatch h)
  | .tup x,b=>match b with
    | .tup y=>match D.decs x y with
      |.isTrue h=>Decidable.isTrue (by rw[h])
      |.isFalse h=>Decidable.isFalse (fun e=>h (by injection e))
    |.non=>Decidable.isFalse (fun h=>nomatch h)|.bl _=>Decidable.isFalse (fun h=>nomatch h)|.int _=>Decidable.isFalse (fun h=>nomatch h)|.str _=>Decidable.isFalse (fun h=>nomatch h)|.ref _=>Decidable.isFalse (fun h=>nomatch h)
  | .ref x,b=>match b with
    |.ref y=>if h:x=y then Decidable.isTrue (by rw[h]) else Decidable.isFalse (fun e=>h (by injection e))
    |.non=>Decidable.isFalse (fun h=>nomatch h)|.bl _=>Decidable.isFalse (fun h=>nomatch h)|.int _=>Decidable.isFalse (fun h=>nomatch h)|.str _=>Decidable.isFalse (fun h=>nomatch h)|.tup _=>Decidable.isFalse (fun h=>nomatch h)
def D.decs:(a b:List D)->Decidable (a=b)
  | [],b=>match b with
    |[]=>Decidable.isTrue rfl
    |_::_=>Decidable.isFalse (fun h=>nomatch h)
  | x ::xs,b=>match b with
    |[]=>Decidable.isFalse (fun h=>nomatch h)
    | y ::ys=>match D.dec x y with
      | .isTrue h1=>match D.decs xs ys with
        |.isTrue h2=>Decidable.isTrue (by rw[h1,h2])
        |.isFalse h2=>Decidable.isFalse (fun e=>h2 (by injection e))
      |.isFalse h1=>Decidable.isFalse (fun e=>h1 (by injection e))
end
instance:DecidableEq D:=D.dec
inductive Cell where
 |lst (l:List D)|rol (l:List D)|dict (l:List (D×D))|obj (c:Nat) (fs:List (Str×D))
 deriving DecidableEq
abbrev AH:=List Cell
inductive R(α:Type)where
 |ok (a:α) (h:AH)|no
def R.bind{α β:Type}(r:R α)(k:α->AH->R β):R β:=match r with
 |.ok a h=>k a h
 |.no=>.no
@[simp] theorem b8 {α β:Type} (a:α) (h:AH) (k:α->AH->R β):(R.ok a h).bind k=k a h:=rfl
@[simp] theorem b5d {α β:Type} (k:α->AH->R β):(R.no).bind k=.no:=rfl
mutual
def D.flat:D->Bool
  |.tup l=>D.flats l
  |.ref _=>false
  |_=>true
def D.flats:List D->Bool
  |[]=>true
  |d::r=>d.flat&&D.flats r
end
abbrev SL:Nat:=16777216
noncomputable def o9(c:Cell)(h:AH):R D:=.ok (.ref h.length) (h++[c])
noncomputable def rdL(h:AH)(n:Nat):Option (List D):=match h[n]? with
 |some (.lst l)=>some l
 |some (.rol l)=>some l
 |_=>none
noncomputable def a2r:Int->Bool
 |.ofNat n=>Nat.ble n 18446744073709551615
 |.negSucc n=>Nat.ble n 18446744073709551614
noncomputable def Z5:Int->Bool
 |.ofNat n=>Nat.ble n 16777216
 |.negSucc n=>Nat.ble n 16777216
theorem a2L:∀{i:Int},a2r i=true-> -(2^64)<i/\i<2^64
 |.ofNat n,h=>by
  have h:=Nat.le_of_ble_eq_true h
  show-(2^64)<(n:Int)/\(n:Int)<2^64
  omega
 |.negSucc n,h=>by
  have h:=Nat.le_of_ble_eq_true h;rw[Int.negSucc_eq];omega
theorem u7:∀{i:Int},Z5 i=true-> -(2^62)<=i/\i<2^62
 |.ofNat n,h=>by
  have h:=Nat.le_of_ble_eq_true h
  show-(2^62)<=(n:Int)/\(n:Int)<2^62
  omega
 |.negSucc n,h=>by
  have h:=Nat.le_of_ble_eq_true h;rw[Int.negSucc_eq];omega
def Y5(h:AH):D->D->R D
 |.int i,.int j=>.ok (.int (i+j)) h
 |.str x,.str y=>if x.length+y.length<=SL then .ok (.str (x++y)) h else .no
 |.ref a,.ref b=>match h[a]?,h[b]? with
  |some (.lst xs),some (.lst ys)=>if xs.length+ys.length<=SL then o9 (.lst (xs++ys)) h else .no
  |_,_=>.no
 |_,_=>.no
noncomputable def a6c(h:AH):D->D->R D
 |.int i,.int j=>.ok (.int (i-j)) h
 |_,_=>.no
def U8(h:AH):D->D->R D
 |.int i,.int j=>if(a2r i||a2r j)=true then .ok (.int (i*j)) h else .no
 |.ref a,.int k=>match h[a]? with
  |some (.lst xs)=>if Z5 k=true/\xs.length*k.toNat<=SL then o9 (.lst (List.replicate k.toNat xs).flatten) h else .no
  |_=>.no
 |.str x,.int k=>if Z5 k=true/\x.length*k.toNat<=SL then .ok (.str (D6 k.toNat x)) h else .no
 |_,_=>.no
noncomputable def D1(h:AH):D->D->R D
 |.int i,.int j=>if 0<j/\j<1073741824 then .ok (.int (i/j)) h else .no
 |_,_=>.no
noncomputable def u8(h:AH):D->D->R D
 |.int i,.int j=>if 0<j then .ok (.int (i%j)) h else .no
 |_,_=>.no
noncomputable def eqS:D->D->Option Bool
 |.non,.non=>some true|.non,.int _=>some false|.int _,.non=>some false|.non,.bl _=>some false|.bl _,.non=>some false|.non,.str _=>some false|.str _,.non=>some false
 |.int i,.int j=>some (decide (i=j))|.bl i,.bl j=>some (decide (i=j))|.str i,.str j=>some (decide (i=j))
 |.int _,.str _=>some false|.str _,.int _=>some false|.bl _,.str _=>some false|.str _,.bl _=>some false
 |_,_=>none
noncomputable def E4(p:Int->Int->Bool)(h:AH):D->D->R D
 |.int i,.int j=>.ok (.bl (p i j)) h
 |_,_=>.no
noncomputable def a4R(i j:Str):Bool:=!(Builtin.Str.occurrences j i 0 j.length 1).isEmpty
noncomputable def B7:D->Bool
 |.non=>true|.bl _=>true|.int _=>true|.str _=>true
 |_=>false
noncomputable def eqF:D->D->Bool
 |.non,.non=>true
 |.bl a,.bl b=>a==b
 |.bl a,.int b=>(if a then 1 else 0)==b
 |.int a,.bl b=>a==(if b then 1 else 0)
 |.int a,.int b=>a==b
 |.str a,.str b=>a==b
 |_,_=>false
def inD(x:D)(xs:List D):Bool:=xs.any fun y=>eqF y x
def a9H:List D->List D->Bool
 |[],[]=>true
 |x::xs,y::ys=>eqF x y&&a9H xs ys
 |_,_=>false
def a9G(h:AH):D->D->Option Bool
 |.ref i,.ref j=>match rdL h i,rdL h j with
  |some xs,some ys=>if xs.all B7&&ys.all B7 then some (a9H xs ys) else none
  |_,_=>none
 |_,_=>none
def K4(h:AH)(a b:D):R D:=match eqS a b with
 |some c=>.ok (.bl c) h
 |none=>match a9G h a b with
  |some c=>.ok (.bl (c !=false)) h
  |none=>.no
def a1p(h:AH)(a b:D):R D:=match eqS a b with
 |some c=>.ok (.bl (!c)) h
 |none=>match a9G h a b with
  |some c=>.ok (.bl (c !=true)) h
  |none=>.no
noncomputable def G2:D->Option Key
 |.int i=>some (.inl i)
 |.str x=>some (.inr x)
 |_=>none
def E6:List D->Option (List Key)
 |[]=>some []
 |d::r=>match G2 d,E6 r with
  |some k,some ks=>some (k::ks)
  |_,_=>none
def G5:D->Option Bool
 |.int _=>some false
 |.str _=>some false
 |.tup l=>if(E6 l).isSome then some true else none
 |_=>none
def w8(k:D)(kvs:List (D×D)):Bool:=(G5 k).isSome&&kvs.all fun p=>G5 p.1==G5 k
noncomputable def n9(kvs:List (D×D))(k:D):Option D:=(kvs.find? fun p=>decide (p.1=k)).map (·.2)
noncomputable def Y8(kvs:List (D×D))(k v:D):List (D×D):=if(kvs.any fun p=>decide (p.1=k))=true then kvs.map (fun p=>if p.1=k then(p.1,v) else p) else kvs++[(k,v)]
def V9(neg:Bool)(h:AH):D->D->R D
 |.str i,.str j=>.ok (.bl (a4R i j !=neg)) h
 |x,.tup xs=>if B7 x&&xs.all B7 then .ok (.bl (inD x xs !=neg)) h else .no
 |x,.ref n=>match h[n]? with
  |some (.lst xs)=>if B7 x&&xs.all B7 then .ok (.bl (inD x xs !=neg)) h else .no
  |some (.rol xs)=>if B7 x&&xs.all B7 then .ok (.bl (inD x xs !=neg)) h else .no
  |some (.dict kvs)=>if w8 x kvs then .ok (.bl ((n9 kvs x).isSome !=neg)) h else .no
  |_=>.no
 |_,_=>.no
inductive B where
 |add|sub|mul|div|mod|eq|ne|lt|le|gt|ge|isin|notin
 deriving DecidableEq
def op2(o:B)(h:AH)(a b:D):R D:=match o with
 |.add=>Y5 h a b|.sub=>a6c h a b|.mul=>U8 h a b|.div=>D1 h a b|.mod=>u8 h a b
 |.eq=>K4 h a b|.ne=>a1p h a b
 |.lt=>E4 (fun i j=>decide (i<j)) h a b|.le=>E4 (fun i j=>decide (i<=j)) h a b|.gt=>E4 (fun i j=>decide (j<i)) h a b|.ge=>E4 (fun i j=>decide (j<=i)) h a b
 |.isin=>V9 false h a b|.notin=>V9 true h a b
def ixD (h:AH):D->D->R D
 |.tup xs,.int i=>match atI xs i with
  |some d=>.ok d h
  |none=>.no
 |.str x,.int i=>if x.length<=SL then(match atI x.cps.toList i with
  |some c=>.ok (.str ⟨#[c]⟩) h
  |none=>.no) else .no
 | .ref n,k=>match h[n]? with
  | some (.lst xs)=>(match k with
   |.int i=>(match atI xs i with
    |some d=>.ok d h
    |none=>.no)
   |_=>.no)
  | some (.rol xs)=>(match k with
   |.int i=>(match atI xs i with
    |some d=>.ok d h
    |none=>.no)
   |_=>.no)
  |some (.dict kvs)=>if w8 k kvs then(match n9 kvs k with
   |some d=>.ok d h
   |none=>.no) else .no
  |_=>.no
 |_,_=>.no
def U0(xs:List D)(lo hi:Option Int):List D:=(xs.drop (HT.sIx xs.length 0 lo)).take (HT.sIx xs.length xs.length hi-HT.sIx xs.length 0 lo)
def slD(h:AH)(lo hi:Option Int):D->R D
 |.str x=>if x.length<=SL then .ok (.str (Txt.slice x lo hi)) h else .no
 |.ref n=>match rdL h n with
  |some xs=>o9 (.lst (U0 xs lo hi)) h
  |none=>.no
 |_=>.no
noncomputable def a0j(h:AH)(f:Str):D->R D
 | .ref n=>match h[n]? with
  |some (.obj _ fs)=>(match fs.lookup f with
   |some d=>.ok d h
   |none=>.no)
  |_=>.no
 |_=>.no
inductive Bi where
 |len|str|int|list|tuple|all|any|max|sum|sorted|dict
 deriving DecidableEq
noncomputable def a6H:List D->Option (List Bool)
 |[]=>some []
 |.bl b::r=>(a6H r).map (b:: ·)
 |_::_=>none
noncomputable def a2I:List D->Option (List Str)
 |[]=>some []
 |.str x::r=>(a2I r).map (x:: ·)
 |_::_=>none
noncomputable def a1u:List D->Option (List Int)
 |[]=>some []
 |.int i::r=>(a1u r).map (i:: ·)
 |_::_=>none
def a5X:List D->Option (List (D×D))
 |[]=>some []
 |.tup [k,v]::r=>if(G2 k).isSome then(a5X r).map ((k,v):: ·) else none
 |_::_=>none
def biD (b:Bi) (h:AH):List D->R D
 | [.str x]=>match b with
  |.len=>if x.length<=SL then .ok (.int x.length) h else .no
  |.int=>if x.length<=640 then(match PySem.intText? x with
   |some n=>.ok (.int n) h
   |none=>.no) else .no
  |_=>.no
 |[.tup xs]=>match b with
  |.len=>.ok (.int xs.length) h
  |.list=>o9 (.lst xs) h
  |.tuple=>.ok (.tup xs) h
  |_=>.no
 |[.int i]=>match b with
  |.str=>if i.natAbs.log2<1920 then .ok (.str (toString i)) h else .no
  |.int=>.ok (.int i) h
  |_=>.no
 |[.bl k]=>match b with
  |.int=>.ok (.int (if k then 1 else 0)) h
  |_=>.no
 | [.ref n]=>match h[n]? with
  |some (.dict kvs)=>(match b with
   |.len=>if w8 (.int 0) kvs then .ok (.int kvs.length) h else .no
   |_=>.no)
  | _=>match rdL h n with
   | some xs=>(match b with
    |.len=>.ok (.int xs.length) h
    |.list=>o9 (.lst xs) h
    |.tuple=>.ok (.tup xs) h
    |.all=>(match a6H xs with
     |some bs=>.ok (.bl (bs.all id)) h
     |none=>.no)
    |.any=>(match a6H xs with
     |some bs=>.ok (.bl (bs.any id)) h
     |none=>.no)
    |.sum=>(match a1u xs with
     |some is=>.ok (.int is.sum) h
     |none=>.no)
    |.sorted=>(match a1u xs with
     |some is=>if is.length<64 then o9 (.lst ((srt is).map .int)) h else .no
     |none=>.no)
    |.dict=>(match a5X xs with
     |some kvs=>o9 (.dict (kvs.foldl (fun a p=>Y8 a p.1 p.2) [])) h
     |none=>.no)
    |_=>.no)
   |none=>.no
 |[.int i,.int j]=>match b with
  |.max=>.ok (.int (if j>i then j else i)) h
  |_=>.no
 |_=>.no
inductive Mt where
 |append|split|join|starts|extend
 deriving DecidableEq
def mtD (b:Mt) (h:AH):D->List D->R D
 | .ref n,[d]=>match b,h[n]? with
  |.append,some (.lst xs)=>if xs.length<SL then .ok .non (h.set n (.lst (xs++[d]))) else .no
  | .extend,some (.lst xs)=>(match d with
   |.ref k=>(match h[k]? with
    |some (.lst ys)=>if xs.length+ys.length<=SL then .ok .non (h.set n (.lst (xs++ys))) else .no
    |_=>.no)
   |_=>.no)
  |_,_=>.no
 |.str x,[.str y]=>match b with
  |.split=>if 0<y.length/\x.length+2<=SL then o9 (.lst ((Txt.split x y).map D.str)) h else .no
  |.starts=>.ok (.bl (Txt.startswith x y)) h
  |_=>.no
 | .str x,[.ref n]=>match b with
  | .join=>(match rdL h n with
   |some xs=>(match a2I xs with
    |some ts=>if JoinOk x ts=true then .ok (.str (Txt.join x ts)) h else .no
    |none=>.no)
   |none=>.no)
  |_=>.no
 |_,_=>.no
def mtT(b:Mt)(h:AH):D->Bool
 |.str _=>match b with
  |.split=>true|.join=>true|.starts=>true
  |_=>false
 |.ref n=>match b with
  |.append=>(rdL h n).isSome
  |.extend=>(rdL h n).isSome
  |_=>false
 |_=>false
def a6x(h:AH):D->D->D->R D
 |.ref n,k,x=>match h[n]? with
  |some (.dict kvs)=>if w8 k kvs&&(G2 k).isSome then .ok ((n9 kvs k).getD x) h else .no
  |_=>.no
 |_,_,_=>.no
noncomputable def b1I(h:AH):D->Bool
 |.ref n=>match h[n]? with
  |some (.dict _)=>true
  |_=>false
 |_=>false
def O5 (h:AH) (o i v:D):R Unit:=match o with
 | .ref n=>match h[n]? with
  | some (.lst xs)=>(match i with
   |.int k=>(match ixN xs.length k with
    |some j=>.ok () (h.set n (.lst (xs.set j v)))
    |none=>.no)
   |_=>.no)
  |some (.dict kvs)=>if w8 i kvs=true/\kvs.length<SL then .ok () (h.set n (.dict (Y8 kvs i v))) else .no
  |_=>.no
 |_=>.no
noncomputable def a3T(f:Str)(v:D):List (Str×D)->List (Str×D)
 |[]=>[(f,v)]
 |(g,x)::r=>if g=f then(g,v)::r else(g,x)::a3T f v r
def a4E(h:AH)(o:D)(f:Str)(v:D):R Unit:=match o with
 |.ref n=>match h[n]? with
  |some (.obj c fs)=>if fs.length<1000 then .ok () (h.set n (.obj c (a3T f v fs))) else .no
  |_=>.no
 |_=>.no
theorem D.ind{P:D->Prop}{Q:List D->Prop}(h0:P .non)(h1:∀b,P (.bl b))(h2:∀i,P (.int i))(h3:∀x,P (.str x))(h4:∀l,Q l->P (.tup l))(h5:∀n,P (.ref n))(q0:Q [])(q1:∀d r,P d->Q r->Q (d::r)):
 (∀d,P d)/\∀l,Q l:=
 ⟨fun d=>D.rec (motive_1:=P) (motive_2:=Q) h0 h1 h2 h3 h4 h5 q0 q1 d,fun l=>by
  induction l with
  |nil=>exact q0
  |cons d r ih=>exact q1 d r (D.rec (motive_1:=P) (motive_2:=Q) h0 h1 h2 h3 h4 h5 q0 q1 d) ih⟩
mutual
def Rp(m:List Addr)(H:Hp):D->V->Prop
  |.non,v=>v=.non
  |.bl b,v=>v=.bl b
  |.int i,v=>v=.int i
  |.str x,v=>v=.str x
  |.tup l,v=>∃a vs,v=.ref a/\H a=some (.tup vs)/\Rps m H l vs
  |.ref n,v=>∃a,v=.ref a/\m[n]? =some a
def Rps(m:List Addr)(H:Hp):List D->List V->Prop
  |[],vs=>vs=[]
  |d::r,vs=>∃v t,vs=v::t/\Rp m H d v/\Rps m H r t
end
def Im:HO->Prop
 |.tup _=>True
 |.xd _=>True
 |_=>False
abbrev KIm(H H':Hp):Prop:=∀b o,Im o->H b=some o->H' b=some o
structure Keep(m m':List Addr)(H H':Hp):Prop where
 im:∀b o,Im o->H b=some o->H' b=some o
 out:∀b o,b∉m->H b=some o->H' b=some o
 fr:∀a,a∈m'->a∈m∨H a=none
theorem Keep.refl(m:List Addr)(H:Hp):Keep m m H H:=⟨fun _ _ _ h=>h,fun _ _ _ h=>h,fun _ h=>.inl h⟩
variable{m:List Addr}{m1:List Addr}{H:Hp}{H1:Hp}
theorem Keep.trans{m2:List Addr}{H2:Hp}(a:Keep m m1 H H1)(b:Keep m1 m2 H1 H2):Keep m m2 H H2:=by
 refine⟨fun c o i h=>b.im c o i (a.im c o i h),fun c o n h=>b.out c o (fun z=>?_) (a.out c o n h),fun c h=>?_⟩
 · rcases a.fr c z with q|q
   · exact n q
   · rw[h] at q;cases q
 · rcases b.fr c h with q|q
   · exact a.fr c q
   · by_cases hc:c∈m
     · exact .inl hc
     · cases e:H c with
       |none=>exact .inr rfl
       |some o=>rw[a.out c o hc e] at q;cases q
theorem Keep.new{p:Addr}{o:HO}(hp:H p=none):Keep m m H (upd H p o):=
 ⟨fun b ob _ h=>by rw[k8 (u0 h hp)];exact h,fun b ob _ h=>by rw[k8 (u0 h hp)];exact h,fun _ h=>.inl h⟩
theorem Keep.newc{p:Addr}{o:HO}(hp:H p=none):Keep m (m++[p]) H (upd H p o):=
 ⟨fun b ob _ h=>by rw[k8 (u0 h hp)];exact h,fun b ob _ h=>by rw[k8 (u0 h hp)];exact h,fun a h=>by
  rcases aK.mp h with q|q
  · exact .inl q
  · simp at q;subst q;exact .inr hp⟩
variable{o':HO}
theorem Keep.put{p:Addr}{o:HO}{k:Nat}(hm:m[k]? =some p)(hp:H p=some o)(ni:¬Im o):Keep m m H (upd H p o'):=by
 refine⟨fun b ob i h=>?_,fun b ob n h=>?_,fun _ h=>.inl h⟩
 · have:b≠p:=fun e=>by rw[e,hp] at h;cases h;exact ni i
   rw[k8 this];exact h
 · have:b≠p:=fun e=>n (by rw[e];exact aG hm)
   rw[k8 this];exact h
theorem Keep.tup{m m':List Addr}{H H':Hp}(k:Keep m m' H H'){a:Addr}{vs:List V}(h:H a=some (.tup vs)):H' a=some (.tup vs):=k.im a _ trivial h
abbrev Pre(m m':List Addr):Prop:=∃t,m'=m++t
theorem Pre.refl(m:List Addr):Pre m m:=⟨[],by simp⟩
theorem Pre.trans{a b c:List Addr}(h:Pre a b)(k:Pre b c):Pre a c:=by
 obtain⟨t,rfl⟩:=h;obtain⟨u,rfl⟩:=k;exact⟨t++u,by simp⟩
theorem Pre.snoc(m:List Addr)(p:Addr):Pre m (m++[p]):=⟨[p],rfl⟩
variable{m':List Addr}{n:Nat}
theorem Pre.get(h:Pre m m'){a:Addr}(e:m[n]? =some a):m'[n]? =some a:=by
 obtain⟨t,rfl⟩:=h;rw[av (ac.mp e).1];exact e
variable{H':Hp}
theorem a2t(p:Pre m m')(k:KIm H H'):(∀d v,Rp m H d v->Rp m' H' d v)/\∀l vs,Rps m H l vs->Rps m' H' l vs:=by
 refine D.ind (P:=fun d=>∀v,Rp m H d v->Rp m' H' d v) (Q:=fun l=>∀vs,Rps m H l vs->Rps m' H' l vs) ?_ ?_ ?_ ?_ ?_ ?_ ?_ ?_
 · intro v h;exact h
 · intro b v h;exact h
 · intro b v h;exact h
 · intro b v h;exact h
 · rintro l ih v ⟨a,vs,rfl,e,q⟩;exact⟨a,vs,rfl,k _ _ trivial e,ih vs q⟩
 · rintro n v ⟨a,rfl,e⟩;exact⟨a,rfl,p.get e⟩
 · intro vs h;exact h
 · rintro d r ih ihs vs ⟨v,t,rfl,q1,q2⟩;exact⟨v,t,rfl,ih v q1,ihs t q2⟩
variable{d:D}
theorem Rp.mono{v:V}(h:Rp m H d v)(p:Pre m m')(k:Keep m m' H H'):Rp m' H' d v:=(a2t p k.im).1 d v h
theorem Rp.mono'{v:V}(h:Rp m H d v)(p:Pre m m')(k:KIm H H'):Rp m' H' d v:=(a2t p k).1 d v h
variable{l:List D}{vs:List V}
theorem Rps.mono(h:Rps m H l vs)(p:Pre m m')(k:Keep m m' H H'):Rps m' H' l vs:=(a2t p k.im).2 l vs h
theorem Rps.mono'(h:Rps m H l vs)(p:Pre m m')(k:KIm H H'):Rps m' H' l vs:=(a2t p k).2 l vs h
theorem a4H:(∀d v,D.flat d=true->Rp m H d v->Rp m' H d v)/\∀l vs,D.flats l=true->Rps m H l vs->Rps m' H l vs:=by
 refine D.ind (P:=fun d=>∀v,D.flat d=true->Rp m H d v->Rp m' H d v) (Q:=fun l=>∀vs,D.flats l=true->Rps m H l vs->Rps m' H l vs) ?_ ?_ ?_ ?_ ?_ ?_ ?_ ?_
 · intro v _ h;exact h
 · intro b v _ h;exact h
 · intro b v _ h;exact h
 · intro b v _ h;exact h
 · rintro l ih v f ⟨a,vs,rfl,e,q⟩;exact⟨a,vs,rfl,e,ih vs f q⟩
 · intro n v f;exact absurd f (by simp[D.flat])
 · intro vs _ h;exact h
 · rintro d r ih ihs vs f ⟨v,t,rfl,q1,q2⟩;rw[D.flats,ae] at f;exact⟨v,t,rfl,ih v f.1 q1,ihs t f.2 q2⟩
section
theorem Rps.len:∀{l:List D} {vs:List V},Rps m H l vs->vs.length=l.length
 |[],vs,h=>by rw[show vs=[] from h];rfl
 |d::r,vs,⟨v,t,e,_,q⟩=>by rw[e,length_cons,length_cons,Rps.len q]
theorem Rps.get:∀{l:List D} {vs:List V} {i:Nat} {d:D},Rps m H l vs->l[i]? =some d->∃v,vs[i]? =some v/\Rp m H d v
 |d'::r,vs,0,d,⟨v,t,e,q,_⟩,h=>by
  simp at h;subst h;exact⟨v,by rw[e];rfl,q⟩
 |d'::r,vs,i+1,d,⟨v,t,e,_,q⟩,h=>by
  obtain⟨w,h1,h2⟩:=Rps.get (i:=i) q (by simpa using h)
  exact⟨w,by rw[e];simpa using h1,h2⟩
 |[],_,_,_,_,h=>by simp at h
theorem Rps.app:∀{l l':List D} {vs vs':List V},Rps m H l vs->Rps m H l' vs'->Rps m H (l++l') (vs++vs')
 |[],_,vs,_,h,k=>by rw[show vs=[] from h];exact k
 |d::r,_,vs,_,⟨v,t,e,q1,q2⟩,k=>by subst e;exact⟨v,_,rfl,q1,Rps.app q2 k⟩
theorem Rps.snoc{v:V}(h:Rps m H l vs)(q:Rp m H d v):Rps m H (l++[d]) (vs++[v]):=h.app ⟨v,[],rfl,q,rfl⟩
theorem Rps.drop:∀{l:List D} {vs:List V} (n:Nat),Rps m H l vs->Rps m H (l.drop n) (vs.drop n)
 |[],vs,n,h=>by rw[show vs=[] from h];simp[Rps]
 |d::r,vs,0,h=>h
 |d::r,vs,n+1,⟨v,t,e,_,q⟩=>by subst e;exact Rps.drop n q
theorem Rps.take:∀{l:List D} {vs:List V} (n:Nat),Rps m H l vs->Rps m H (l.take n) (vs.take n)
 |[],vs,n,h=>by rw[show vs=[] from h];simp[Rps]
 |d::r,vs,0,h=>by simp[Rps]
 |d::r,vs,n+1,⟨v,t,e,q1,q⟩=>by subst e;exact⟨v,_,rfl,q1,Rps.take n q⟩
theorem Rps.set:∀{l:List D} {vs:List V} {d:D} {v:V} (n:Nat),Rps m H l vs->Rp m H d v->Rps m H (l.set n d) (vs.set n v)
 |[],vs,_,_,n,h,_=>by rw[show vs=[] from h];simp[Rps]
 |d::r,vs,_,_,0,⟨v,t,e,q1,q⟩,k=>by subst e;exact⟨_,t,rfl,k,q⟩
 |d::r,vs,_,_,n+1,⟨v,t,e,q1,q⟩,k=>by subst e;exact⟨v,_,rfl,q1,Rps.set n q k⟩
theorem Rps.rep{l:List D}{vs:List V}(h:Rps m H l vs):∀k:Nat,Rps m H (List.replicate k l).flatten (List.replicate k vs).flatten
 |0=>rfl
 |k+1=>by
  rw[replicate_succ,replicate_succ,flatten_cons,flatten_cons];exact h.app (Rps.rep h k)
theorem Rps.strs:∀{ts:List Str},Rps m H (ts.map D.str) (ts.map V.str)
 |[]=>rfl
 |x::r=>⟨_,_,rfl,rfl,Rps.strs⟩
theorem Rps.cut(h:Rps m H l vs)(lo hi:Option Int):Rps m H (U0 l lo hi) (a9L vs lo hi):=by
 unfold U0 a9L;rw[h.len];exact(h.drop _).take _
theorem Rps.at{i:Int}(h:Rps m H l vs)(e:atI l i=some d):∃v,atI vs i=some v/\Rp m H d v:=by
 unfold atI at e⊢;rw[h.len]
 cases q:ixN l.length i with
 |none=>rw[q] at e;cases e
 |some j=>rw[q] at e;exact h.get e
theorem a5Q:∀{l:List D} {ts:List Str} {vs:List V},a2I l=some ts->Rps m H l vs->vs=ts.map V.str
 |[],ts,vs,e,h=>by cases e;exact h
 |d::r,ts,vs,e,⟨v,t,ev,q1,q2⟩=>by
  subst ev
  cases d<;>simp only[a2I] at e<;>try cases e
  rename_i x
  cases q:a2I r with
  |none=>rw[q] at e;cases e
  |some us=>rw[q] at e;cases e;rw[a5Q q q2,show v=V.str x from q1];rfl
theorem a4F:∀{l:List D} {ts:List Bool} {vs:List V},a6H l=some ts->Rps m H l vs->vs=ts.map V.bl
 |[],ts,vs,e,h=>by cases e;exact h
 |d::r,ts,vs,e,⟨v,t,ev,q1,q2⟩=>by
  subst ev
  cases d<;>simp only[a6H] at e<;>try cases e
  rename_i x
  cases q:a6H r with
  |none=>rw[q] at e;cases e
  |some us=>rw[q] at e;cases e;rw[a4F q q2,show v=V.bl x from q1];rfl
end
structure Gm where
 K:PySem.W.Frag
 cA:Nat->Addr
 ob:List Nat
 xs:List Nat
def Fl(m:List Addr)(H:Hp):List (Str×D)->List (Str×V)->Prop:=Paired fun p q=>p.1=q.1/\Rp m H p.2 q.2
def DK(m:List Addr)(H:Hp):List (D×D)->List (Key×V)->Prop:=Paired fun p q=>G2 p.1=some q.1/\Rp m H p.2 q.2
def DT(m:List Addr)(H:Hp):List (D×D)->List (List Key×V)->Prop:=Paired fun p q=>(∃l,p.1=.tup l/\E6 l=some q.1)/\Rp m H p.2 q.2
def D8(Γ:Gm)(m:List Addr)(H:Hp)(a:Addr):Cell->Prop
 |.lst l=>∃vs,H a=some (.lst vs)/\Rps m H l vs
 |.rol l=>∃vs,SqL Γ.K H a vs/\Rps m H l vs/\∃o,H a=some (.frz o (.lst vs))
 |.dict l=>(∃kvs,H a=some (.dK kvs)/\DK m H l kvs)∨∃kvs,H a=some (.dT kvs)/\DT m H l kvs
 |.obj c fs=>∃dx gs,H a=some (.ins (Γ.cA c) dx gs)/\Fl m H fs gs/\c∈Γ.ob
variable{Γ:Gm}
theorem D8.there{a:Addr}{c:Cell}(h:D8 Γ m H a c):∃o,H a=some o/\¬Im o:=by
 cases c with
 |lst l=>obtain⟨vs,e,_⟩:=h;exact⟨_,e,fun z=>z⟩
 |rol l=>obtain⟨vs,_,_,o,e⟩:=h;exact⟨_,e,fun z=>z⟩
 |dict l=>
  rcases h with⟨kvs,e,_⟩|⟨kvs,e,_⟩
  · exact⟨_,e,fun z=>z⟩
  · exact⟨_,e,fun z=>z⟩
 |obj c fs=>obtain⟨dx,gs,e,_⟩:=h;exact⟨_,e,fun z=>z⟩
theorem Fl.mono{fs:List (Str×D)}{gs:List (Str×V)}(h:Fl m H fs gs)(p:Pre m m')(k:KIm H H'):Fl m' H' fs gs:=Paired.mapP h fun _ _ z=>⟨z.1,z.2.mono' p k⟩
variable{gs:List (Key×V)}
theorem DK.mono{fs:List (D×D)}(h:DK m H fs gs)(p:Pre m m')(k:KIm H H'):DK m' H' fs gs:=Paired.mapP h fun _ _ z=>⟨z.1,z.2.mono' p k⟩
theorem DT.mono{fs:List (D×D)}{gs:List (List Key×V)}(h:DT m H fs gs)(p:Pre m m')(k:KIm H H'):DT m' H' fs gs:=Paired.mapP h fun _ _ z=>⟨z.1,z.2.mono' p k⟩
theorem D8.mono'{a:Addr}{c:Cell}(h:D8 Γ m H a c)(p:Pre m m')(k:KIm H H')(e:H' a=H a):D8 Γ m' H' a c:=by
 cases c with
 |lst l=>obtain⟨vs,q,r⟩:=h;exact⟨vs,e.trans q,r.mono' p k⟩
 |rol l=>obtain⟨vs,s,r,o,q⟩:=h;exact⟨vs,.inl (.inr ⟨o,e.trans q⟩),r.mono' p k,o,e.trans q⟩
 |dict l=>
  rcases h with⟨kvs,q,r⟩|⟨kvs,q,r⟩
  · exact .inl ⟨kvs,e.trans q,r.mono p k⟩
  · exact .inr ⟨kvs,e.trans q,r.mono p k⟩
 |obj c fs=>obtain⟨dx,gs,q,r,z⟩:=h;exact⟨dx,gs,e.trans q,r.mono p k,z⟩
theorem D8.mono{a:Addr}{c:Cell}(h:D8 Γ m H a c)(p:Pre m m')(k:Keep m m' H H')(e:H' a=H a):D8 Γ m' H' a c:=h.mono' p k.im e
structure Sim(Γ:Gm)(ah:AH)(m:List Addr)(H:Hp):Prop where
 len:m.length=ah.length
 nd:m.Nodup
 cell:∀(n:Nat) (a:Addr) (c:Cell),m[n]? =some a->ah[n]? =some c->D8 Γ m H a c
section
variable{ah:AH}
theorem Sim.at(s:Sim Γ ah m H){a:Addr}{c:Cell}(h:m[n]? =some a)(e:ah[n]? =some c):D8 Γ m H a c:=s.cell n a c h e
theorem Sim.has(s:Sim Γ ah m H){a:Addr}(h:m[n]? =some a):∃c,ah[n]? =some c:=by
 have h:=(ac.mp h).1
 rw[s.len] at h;exact⟨ah[n],af h⟩
theorem Sim.fresh(s:Sim Γ ah m H){p:Addr}(hp:H p=none):p∉m:=fun hm=>by
 obtain⟨n,hn⟩:=bm hm
 obtain⟨c,hc⟩:=s.has hn;obtain⟨o,e,_⟩:=(s.at hn hc).there;rw[hp] at e;cases e
theorem Sim.keep(s:Sim Γ ah m H)(k:Keep m m H H')(e:∀(n:Nat) (a:Addr),m[n]? =some a->H' a=H a):Sim Γ ah m H':=
 ⟨s.len,s.nd,fun n a c h q=>(s.at h q).mono (Pre.refl m) k (e n a h)⟩
theorem Sim.same(s:Sim Γ ah m H)(k:c1L H H'):Sim Γ ah m H':=
 s.keep ⟨fun b o _ h=>k b o h,fun b o _ h=>k b o h,fun _ h=>.inl h⟩ fun n a h=>by
  obtain⟨c,hc⟩:=s.has h;obtain⟨o,e,_⟩:=(s.at h hc).there;rw[e];exact k a o e
theorem Sim.new{p:Addr}{o:HO}(s:Sim Γ ah m H)(hp:H p=none):Sim Γ ah m (upd H p o):=s.same fun b ob h=>by rw[k8 (u0 h hp)];exact h
theorem a0S{m:List Addr}{p:Addr}(nd:m.Nodup)(hp:p∉m):(m++[p]).Nodup:=by
 rw[nodup_append];refine⟨nd,by simp,fun a ha b hb=>?_⟩
 simp at hb;subst hb
 rintro rfl;exact hp ha
theorem Sim.alloc{p:Addr}{o:HO}{c:Cell}(s:Sim Γ ah m H)(hp:H p=none)(h:D8 Γ (m++[p]) (upd H p o) p c):Sim Γ (ah++[c]) (m++[p]) (upd H p o):=by
 refine⟨by simp[s.len],a0S s.nd (s.fresh hp),fun n a c' hn hc=>?_⟩
 by_cases hl:n<m.length
 · rw[av hl] at hn
   rw[av (by rw[←s.len];exact hl)] at hc
   have ok:=s.at hn hc;refine ok.mono (Pre.snoc m p) (Keep.newc hp) ?_
   obtain⟨o',e,_⟩:=ok.there;rw[k8 (u0 e hp)]
 · have hn':n=m.length:=by
    have:=(ac.mp hn).1
    simp at this;omega
   subst hn';rw[aq (ai _)] at hn
   rw[s.len,aq (ai _)] at hc
   simp at hn hc;subst hn;subst hc
   exact h
theorem Sim.write{k:Nat}{q:Addr}{o:HO}{c:Cell}(s:Sim Γ ah m H)(hk:m[k]? =some q)(hq:H q=some o)(ni:¬Im o)(h:D8 Γ m (upd H q o') q c):Sim Γ (ah.set k c) m (upd H q o'):=by
  refine⟨by simp[s.len],s.nd,fun n a c' hn hc=>?_⟩
  by_cases e:n=k
  · subst e;rw[hk] at hn;cases hn
    rw[List.getElem?_set_self (by rw[←s.len];exact(ac.mp hk).1)] at hc
    cases hc;exact h
  · rw[List.getElem?_set_ne (Ne.symm e)] at hc
    have ne:a≠q:=fun z=>by subst z;exact e (nodup_ixA s.nd hn hk)
    exact(s.at hn hc).mono (Pre.refl m) (Keep.put hk hq ni) (k8 ne)
where
  nodup_ixA {m:List Addr} (hN:m.Nodup) {i j:Nat} {x:Addr} (a:m[i]? =some x) (b:m[j]? =some x):i=j:=by
    obtain⟨h1,e1⟩:=ac.mp a
    obtain⟨h2,e2⟩:=ac.mp b
    exact(getElem_inj hN).mp (e1.trans e2.symm)
theorem Sim.lst(s:Sim Γ ah m H){n:Nat}{l:List D}(e:ah[n]? =some (.lst l)){v:V}(r:Rp m H (.ref n) v):∃a vs,v=.ref a/\m[n]? =some a/\H a=some (.lst vs)/\Rps m H l vs:=by
 obtain⟨a,rfl,hm⟩:=r;obtain⟨vs,e1,e2⟩:=s.at hm e;exact⟨a,vs,rfl,hm,e1,e2⟩
theorem Sim.rdL(s:Sim Γ ah m H)(e:rdL ah n=some l){v:V}(r:Rp m H (.ref n) v):∃a vs,v=.ref a/\m[n]? =some a/\SqL Γ.K H a vs/\Rps m H l vs:=by
 obtain⟨a,rfl,hm⟩:=r;unfold EV.rdL at e
 split at e
 · rename_i l' q;cases e;obtain⟨vs,e1,e2⟩:=s.at hm q;exact⟨a,vs,rfl,hm,.inl (.inl e1),e2⟩
 · rename_i l' q;cases e;obtain⟨vs,e1,e2,_⟩:=s.at hm q;exact⟨a,vs,rfl,hm,e1,e2⟩
 · cases e
end
abbrev t9:=List (Option D)
structure EnvRel(m:List Addr)(H:Hp)(env:t9)(σ:St):Prop where
 len:env.length=σ.length
 val:∀(i:Nat) (d:D),env[i]? =some (some d)->∃v,σ[i]? =some (some v)/\Rp m H d v
variable{env:t9}{σ:St}
theorem EnvRel.mono(h:EnvRel m H env σ)(p:Pre m m')(k:Keep m m' H H'):EnvRel m' H' env σ:=
 ⟨h.len,fun i d e=>let⟨v,a,b⟩:=h.val i d e;⟨v,a,b.mono p k⟩⟩
variable{i:Nat}
theorem EnvRel.set(h:EnvRel m H env σ){v:V}(r:Rp m H d v):EnvRel m H (env.set i (some d)) (σ.set i (some v)):=by
 refine⟨by simp[h.len],fun j d' e=>?_⟩
 by_cases q:j=i
 · subst q
   by_cases hl:j<env.length
   · rw[List.getElem?_set_self hl] at e
     cases e;exact⟨v,List.getElem?_set_self (by rw[←h.len];exact hl),r⟩
   · rw[aZ (by simp;omega)] at e;cases e
 · rw[List.getElem?_set_ne (Ne.symm q)] at e⊢
   exact h.val j d' e
structure Rel(Γ:Gm)(env:t9)(ah:AH)(σ:St)(H:Hp)(m:List Addr):Prop where
 sim:Sim Γ ah m H
 env:EnvRel m H env σ
def d9(Γ:Gm)(E:XK)(m:List Addr)(H:Hp)(r:R D)(Q:VK):Prop:=match r with
 |.ok d ah'=>∀m' H' v,Pre m m'->Keep m m' H H'->Sim Γ ah' m' H'->Rp m' H' d v->Q v H'
 |.no=>False
def i9{α:Type}(Γ:Gm)(E:XK)(m:List Addr)(H:Hp)(r:R α)(Q:α->AH->List Addr->Hp->Prop):Prop:=match r with
 |.ok a ah'=>∀m' H',Pre m m'->Keep m m' H H'->Sim Γ ah' m' H'->Q a ah' m' H'
 |.no=>False
variable{r:R D}{Q:VK}{α:Type}{β:Type}{ah:AH}
section
variable{E:XK}
theorem d9.later(h:d9 Γ E m H r Q)(p:Pre m m')(k:Keep m m' H H'):d9 Γ E m' H' r Q:=by
 cases r with
 |ok d ah=>exact fun m2 H2 v p2 k2 s2 r2=>h m2 H2 v (p.trans p2) (k.trans k2) s2 r2
 |no=>exact h
theorem d9.bind{r:R α}{f:α->AH->R D}(h:d9 Γ E m H (r.bind f) Q):i9 Γ E m H r (fun a ah1 m1 H1=>d9 Γ E m1 H1 (f a ah1) Q):=by
 cases r with
 |ok d ah=>exact fun m2 H2 p2 k2 s2=>d9.later h p2 k2
 |no=>exact h
theorem i9.later{r:R α}{Q:α->AH->List Addr->Hp->Prop}(h:i9 Γ E m H r Q)(p:Pre m m')(k:Keep m m' H H'):i9 Γ E m' H' r Q:=by
 cases r with
 |ok d ah=>exact fun m2 H2 p2 k2 s2=>h m2 H2 (p.trans p2) (k.trans k2) s2
 |no=>exact h
theorem i9.bind{r:R α}{f:α->AH->R β}{Q:β->AH->List Addr->Hp->Prop}(h:i9 Γ E m H (r.bind f) Q):i9 Γ E m H r (fun a ah1 m1 H1=>i9 Γ E m1 H1 (f a ah1) Q):=by
 cases r with
 |ok d ah=>exact fun m2 H2 p2 k2 s2=>i9.later h p2 k2
 |no=>exact h
theorem i9.val{P:D->AH->List Addr->Hp->Prop}(h:i9 Γ E m H r P)(k:∀d ah1 m1 H1 v,Pre m m1->Keep m m1 H H1->Sim Γ ah1 m1 H1->Rp m1 H1 d v->P d ah1 m1 H1->Q v H1):d9 Γ E m H r Q:=by
 cases r with
 |ok d ah=>exact fun m2 H2 v p2 k2 s2 r2=>k d ah m2 H2 v p2 k2 s2 r2 (h m2 H2 p2 k2 s2)
 |no=>exact h
theorem d9.ok{v:V}(h:d9 Γ E m H (.ok d ah) Q)(s:Sim Γ ah m H)(r:Rp m H d v):Q v H:=h m H v (Pre.refl m) (Keep.refl m H) s r
theorem d9.newc{c:Cell}{p:Addr}{o:HO}(h:d9 Γ E m H (o9 c ah) Q)(s:Sim Γ ah m H)(hp:H p=none)(ok:D8 Γ (m++[p]) (upd H p o) p c):Q (.ref p) (upd H p o):=by
 refine h (m++[p]) (upd H p o) (.ref p) (Pre.snoc m p) (Keep.newc hp) (s.alloc hp ok) ⟨p,rfl,?_⟩
 rw[←s.len,aq (ai _)];simp
theorem d9.newt{p:Addr}(h:d9 Γ E m H (.ok (.tup l) ah) Q)(s:Sim Γ ah m H)(hp:H p=none)(r:Rps m H l vs):Q (.ref p) (upd H p (.tup vs)):=
 h m _ (.ref p) (Pre.refl m) (Keep.new hp) (s.new hp) ⟨p,vs,rfl,b9,r.mono (Pre.refl m) (Keep.new hp)⟩
end
open PySem PySem.Spec L2
open PyProof.Rows hiding St
theorem O4:SL=sizeLine:=by rw[sizeLine_eq]
theorem a2P{l:List α}{x:α}(h:l[n]? =some x):l.set n x=l:=by
 refine ext_getElem? fun i=>?_
 by_cases e:i=n
 · subst e;rw[List.getElem?_set_self (ac.mp h).1,h]
 · rw[List.getElem?_set_ne (Ne.symm e)]
variable{op:CmpOp}{pins:List (Addr×Obj)}{kvs:List (D×D)}
section
variable{X:Cx}{E:XK}
noncomputable def rOf(Γ:Gm)(E:XK)(g:AH->D->D->R D):R2:=fun x y H Q=>∃d1 d2 ah m,Sim Γ ah m H/\Rp m H d1 x/\Rp m H d2 y/\d9 Γ E m H (g ah d1 d2) Q
theorem OpR.imp{f:Value->Value->Sem Value}{r r':R2}(h:OpR X f r)(i:∀x y H Q,r' x y H Q->r x y H Q):OpR X f r':=fun pins s σ H x y v u Q I rx ry q=>h pins s σ H x y v u Q I rx ry (i _ _ _ _ q)
theorem b9Q:OpR X (binaryOp .Add) (rOf Γ E Y5):=by
 refine OpR.imp (b6y.or (a7c.or b6x)) ?_
 rintro x y H Q ⟨d1,d2,ah,m,s,r1,r2,q⟩;unfold Y5 at q
 split at q
 · cases r1;cases r2
   exact .inl ⟨_,_,rfl,rfl,q.ok s rfl⟩
 · cases r1;cases r2
   split at q
   · rename_i h;exact .inr (.inl ⟨_,_,rfl,rfl,by rw[←O4];exact h,q.ok s rfl⟩)
   · exact q.elim
 · split at q
   · rename_i e1 e2
     split at q
     · rename_i h;obtain⟨a,vs,rfl,ha,h1,q1⟩:=s.lst e1 r1;obtain⟨b,ws,rfl,hb,h2,q2⟩:=s.lst e2 r2;refine .inr (.inr ⟨a,b,vs,ws,rfl,rfl,h1,h2,by rw[q1.len,q2.len,←O4];exact h,fun p hp=>q.newc s hp ⟨_,b9,?_⟩⟩)
       exact(q1.app q2).mono (Pre.snoc m p) (Keep.newc hp)
     · exact q.elim
   · exact q.elim
 · exact q.elim
theorem b9J:OpR X (binaryOp .Sub) (rOf Γ E a6c):=by
 refine OpR.imp b6q ?_
 rintro x y H Q ⟨d1,d2,ah,m,s,r1,r2,q⟩;unfold a6c at q
 split at q
 · cases r1;cases r2
   exact⟨_,_,rfl,rfl,q.ok s rfl⟩
 · exact q.elim
theorem b9K:OpR X (binaryOp .Mult) (rOf Γ E U8):=by
 refine OpR.imp ((b6t.or b6r).or b3V) ?_
 rintro x y H Q ⟨d1,d2,ah,m,s,r1,r2,q⟩;unfold U8 at q
 split at q
 · cases r1;cases r2
   split at q
   · rename_i h;rw[bw] at h;exact .inl (.inl ⟨_,_,rfl,rfl,h.imp a2L a2L,q.ok s rfl⟩)
   · exact q.elim
 · split at q
   · rename_i e1
     split at q
     · rename_i h;obtain⟨a,vs,rfl,ha,h1,q1⟩:=s.lst e1 r1;cases r2;refine .inl (.inr ⟨a,_,vs,rfl,rfl,h1,(by have:=u7 h.1;omega),(by have:=u7 h.1;omega),by rw[q1.len,←O4];exact h.2,fun p hp=>q.newc s hp ⟨_,b9,?_⟩⟩)
       exact(q1.rep _).mono (Pre.snoc m p) (Keep.newc hp)
     · exact q.elim
   · exact q.elim
 · cases r1;cases r2
   split at q
   · rename_i h;exact .inr ⟨_,_,rfl,rfl,(by have:=u7 h.1;omega),(by have:=u7 h.1;omega),by rw[←O4];exact h.2,q.ok s rfl⟩
   · exact q.elim
 · exact q.elim
theorem b9O:OpR X (binaryOp .FloorDiv) (rOf Γ E D1):=by
 refine OpR.imp b3W ?_
 rintro x y H Q ⟨d1,d2,ah,m,s,r1,r2,q⟩;unfold D1 at q
 split at q
 · cases r1;cases r2
   split at q
   · rename_i h;exact⟨_,_,rfl,rfl,h,q.ok s rfl⟩
   · exact q.elim
 · exact q.elim
theorem b9L:OpR X (binaryOp .Mod) (rOf Γ E u8):=by
 refine OpR.imp b6u ?_
 rintro x y H Q ⟨d1,d2,ah,m,s,r1,r2,q⟩;unfold u8 at q
 split at q
 · cases r1;cases r2
   split at q
   · rename_i h;exact⟨_,_,rfl,rfl,h,q.ok s rfl⟩
   · exact q.elim
 · exact q.elim
theorem c1v{x y:V}{b:Bool}(h:b=true↔x=y):b=decide (x=y):=by
 by_cases e:x=y
 · rw[bn e];exact h.mpr e
 · rw[bF e]
   cases b with
   |false=>rfl
   |true=>exact absurd (h.mp rfl) e
theorem b2r{d1 d2:D}{x y:V}{b:Bool}(e:eqS d1 d2=some b)(r1:Rp m H d1 x)(r2:Rp m H d2 y):scal x y=true/\b=decide (x=y):=by
 unfold eqS at e
 split at e<;>first|(cases e;done)|(cases e;cases r1;cases r2;refine⟨rfl,?_⟩;first|rfl|(refine c1v ⟨fun h=>?_,fun h=>?_⟩<;>first|(rw[aw h])|(injection h with h;exact bn h)))
theorem a8F{p:Int->Int->Bool}(h:OpR X (compareOp op) (rI0 fun i j=>.bl (p i j))):OpR X (compareOp op) (rOf Γ E (E4 p)):=by
 refine OpR.imp h ?_
 rintro x y H Q ⟨d1,d2,ah,m,s,r1,r2,q⟩;unfold E4 at q
 split at q
 · cases r1;cases r2
   exact⟨_,_,rfl,rfl,q.ok s rfl⟩
 · exact q.elim
theorem Q9{x:V}(r:Rp m H d x)(f:B7 d=true):L9 x=true:=by
 cases d<;>first|(cases r;rfl)|(simp[B7] at f)
theorem G3{m:List Addr}{H:Hp}:∀{l:List D} {vs:List V},Rps m H l vs->l.all B7=true->vs.all L9=true
 |[],vs,h,_=>by rw[show vs=[] from h];rfl
 |d::r,vs,⟨v,t,e,q1,q2⟩,f=>by
  subst e;rw[all_cons,ae] at f⊢;exact⟨Q9 q1 f.1,G3 q2 f.2⟩
theorem b2s{e:D}{x y:V}(r1:Rp m H d x)(r2:Rp m H e y)(f1:B7 d=true)(f2:B7 e=true):eqF d e=eqV x y:=by
 cases d<;>first|(simp[B7] at f1;done)|(cases e<;>first|(simp[B7] at f2;done)|(cases r1;cases r2;rfl))
theorem a0i{m:List Addr}{H:Hp}{d:D}{x:V}(r:Rp m H d x)(f:B7 d=true):∀{l:List D} {vs:List V},Rps m H l vs->l.all B7=true->inD d l=inV x vs
 |[],vs,h,_=>by rw[show vs=[] from h];rfl
 |e::t,vs,⟨v,u,ev,q1,q2⟩,fl=>by
  subst ev;rw[all_cons,ae] at fl;have ih:=a0i r f q2 fl.2;unfold inD inV at ih⊢;rw[any_cons,any_cons,b2s q1 r fl.1 f,ih]
theorem a8E{m:List Addr}{H:Hp}:∀{xs ys:List D} {vs ws:List V},Rps m H xs vs->Rps m H ys ws->xs.all B7=true->ys.all B7=true->a9H xs ys=a1a vs ws
 |[],[],vs,ws,h1,h2,_,_=>by rw[show vs=[] from h1,show ws=[] from h2];rfl
 |[],y::ys,vs,ws,h1,⟨v,t,e,_,_⟩,_,_=>by rw[show vs=[] from h1,e];rfl
 |x::xs,[],vs,ws,⟨v,t,e,_,_⟩,h2,_,_=>by rw[show ws=[] from h2,e];rfl
 |x::xs,y::ys,vs,ws,⟨v,t,e,q1,q2⟩,⟨v',t',e',q1',q2'⟩,f,f'=>by
  subst e e';rw[all_cons,ae] at f f';rw[a9H,a1a,b2s q1 q1' f.1 f'.1,a8E q2 q2' f.2 f'.2]
theorem a8D{e:D}{x y:V}{c:Bool}(s:Sim Γ ah m H)(r1:Rp m H d x)(r2:Rp m H e y)(h:a9G ah d e=some c):∃a b xs ys,x=.ref a/\y=.ref b/\SqL Γ.K H a xs/\SqL Γ.K H b ys/\xs.all L9=true/\ys.all L9=true/\a1a xs ys=c:=by
 unfold a9G at h
 split at h
 · split at h
   · rename_i xs ys e1 e2
     split at h
     · rename_i hf;cases h;rw[ae] at hf;obtain⟨a,vs,rfl,_,h1,q1⟩:=s.rdL e1 r1;obtain⟨b,ws,rfl,_,h2,q2⟩:=s.rdL e2 r2;exact⟨a,b,vs,ws,rfl,rfl,h1,h2,G3 q1 hf.1,G3 q2 hf.2,(a8E q1 q2 hf.1 hf.2).symm⟩
     · cases h
   · cases h
 · cases h
theorem hu1(h:n+8<cLine):n+1<cLine:=Nat.lt_of_le_of_lt (by omega) h
theorem c1u(hu:X.A.units+8<cLine)(hK:X.K=Γ.K):OpR X (compareOp .Eq) (rOf Γ E K4):=by
 refine OpR.imp (b8W.or (b6w (X:=X) (by omega))) ?_
 rintro x y H Q ⟨d1,d2,ah,m,s,r1,r2,q⟩;unfold K4 at q
 split at q
 · rename_i c e;obtain⟨h1,h2⟩:=b2r e r1 r2;exact .inl ⟨h1,by rw[←h2];exact q.ok s rfl⟩
 · split at q
   · rename_i c e;obtain⟨a,b,xs,ys,e1,e2,s1,s2,f1,f2,z⟩:=a8D s r1 r2 e;exact .inr ⟨a,b,xs,ys,e1,e2,by rw[hK];exact s1,by rw[hK];exact s2,f1,f2,by rw[z];exact q.ok s rfl⟩
   · exact q.elim
theorem c1s(hu:X.A.units+8<cLine)(hK:X.K=Γ.K):OpR X (compareOp .NotEq) (rOf Γ E a1p):=by
 refine OpR.imp (b8R.or (b6s (X:=X) (by omega))) ?_
 rintro x y H Q ⟨d1,d2,ah,m,s,r1,r2,q⟩;unfold a1p at q
 split at q
 · rename_i c e;obtain⟨h1,h2⟩:=b2r e r1 r2;exact .inl ⟨h1,by rw[←h2];exact q.ok s rfl⟩
 · split at q
   · rename_i c e;obtain⟨a,b,xs,ys,e1,e2,s1,s2,f1,f2,z⟩:=a8D s r1 r2 e;exact .inr ⟨a,b,xs,ys,e1,e2,by rw[hK];exact s1,by rw[hK];exact s2,f1,f2,by rw[z];exact q.ok s rfl⟩
   · exact q.elim
theorem b5P{s:Shared}{a:Addr}(I:Inv X pins σ H s)(h:H a=some (.dK [])):Inv X pins σ (upd H a (.dT [])) s:=by
 obtain⟨z,hd,vs,rel,o,es,ep,ho,hx,hdt,hes,hp,hh⟩:=I.hok a _ h;cases rel
 have e0:es.toList=[]:=by cases q:es.toList with
  |nil=>rfl
  |cons x r=>rw[q] at hp;cases hp
 exact I.write (x:=a) (e:=a) (h':=s.heap) (t':=s.toks) (by rw[h];trivial) (.inl rfl) (fun b u _ q=>q) ⟨o,ho⟩ ⟨z,hd,[],.nil,o,es,ep,ho,hx,hdt,e0,nodup_nil⟩
theorem b0G{s:Shared}{a:Addr}(I:Inv X pins σ H s)(h:H a=some (.dT [])):Inv X pins σ (upd H a (.dK [])) s:=by
 obtain⟨z,hd,xs,rel,o,es,ep,ho,hx,hdt,hes,hh⟩:=I.hok a _ h;cases rel
 have e0:es= #[]:=Array.toList_inj.mp hes
 subst e0;refine I.write (x:=a) (e:=a) (h':=s.heap) (t':=s.toks) (by rw[h];trivial) (.inl rfl) (fun b u _ q=>q) ⟨o,ho⟩ ⟨z,hd,[],.nil,o,#[],ep,ho,hx,hdt,fun e he=>?_,.nil,nodup_nil⟩
 simp at he
theorem W5{v:V}{k:Key}(e:G2 d=some k)(r:Rp m H d v):v=kV k:=by
 cases d<;>simp only[G2] at e<;>first|(cases e;done)|(cases e;cases r;rfl)
theorem a3f{m:List Addr}{H:Hp}:∀{l:List D} {vs:List V} {ks:List Key},E6 l=some ks->Rps m H l vs->vs=ks.map kV
 |[],vs,ks,e,h=>by cases e;exact h
 |d::r,vs,ks,e,⟨v,t,ev,q1,q2⟩=>by
  subst ev;unfold E6 at e
  split at e
  · rename_i k ks' e1 e2;cases e;rw[map_cons,W5 e1 q1,a3f e2 q2]
  · cases e
theorem a0g{a b:D}{k:Key}(h1:G2 a=some k)(h2:G2 b=some k):a=b:=by
 cases a<;>simp only[G2] at h1<;>first|(cases h1;done)|(cases h1;cases b<;>simp only[G2] at h2<;>first|(cases h2;done)|(cases h2;rfl))
theorem a1N:∀{a b:List D} {k:List Key},E6 a=some k->E6 b=some k->a=b
 |[],[],_,_,_=>rfl
 |[],y::ys,k,h1,h2=>by
  cases h1;unfold E6 at h2
  split at h2<;>cases h2
 |x::xs,[],k,h1,h2=>by
  cases h2;unfold E6 at h1
  split at h1<;>cases h1
 |x::xs,y::ys,k,h1,h2=>by
  unfold E6 at h1 h2
  split at h1
  · rename_i k1 ks1 e1 e2;cases h1
    split at h2
    · rename_i k2 ks2 e3 e4;cases h2;rw[a0g e1 e3,a1N e2 e4]
    · cases h2
  · cases h1
theorem a4Z(h:G5 d=some false):∃k,G2 d=some k:=by
 cases d<;>simp only[G5] at h<;>first|(cases h;done)|exact⟨_,rfl⟩|(split at h<;>cases h)
theorem a3g(h:G5 d=some true):∃l ks,d=.tup l/\E6 l=some ks:=by
 cases d<;>simp only[G5] at h<;>first|(cases h;done)|skip
 rename_i l
 split at h
 · rename_i e;obtain⟨ks,hk⟩:=Option.isSome_iff_exists.mp e;exact⟨l,ks,rfl,hk⟩
 · cases h
theorem DK.val{l:List (D×D)}{kvs:List (Key×V)}(r:DK m H l kvs){k:Key}(e:G2 d=some k):
 (∀c,n9 l d=some c->∃v,U2 kvs k=some v/\Rp m H c v)/\(n9 l d=none->U2 kvs k=none):=by
 induction r with
 |nil=>exact⟨fun c h=>(by cases h),fun _=>rfl⟩
 | @cons p q ps qs h t ih=>
  by_cases z:p.1=d
  · have z':q.1=k:=by have:=h.1;rw[z,e] at this;exact(ax this).symm
    rw[Z3 z',show n9 (p::ps) d=some p.2 from by simp[n9,List.find?_cons,z]]
    exact⟨fun c hc=>by cases hc;exact⟨q.2,rfl,h.2⟩,fun hc=>by cases hc⟩
  · have z':¬q.1=k:=fun y=>z (a0g (by rw[h.1,y]) e)
    rw[Z4 z',show n9 (p::ps) d=n9 ps d from by simp[n9,List.find?_cons,z]]
    exact ih
theorem DT.val{l:List (D×D)}{kvs:List (List Key×V)}(r:DT m H l kvs){d:List D}{k:List Key}(e:E6 d=some k):
 (∀c,n9 l (.tup d)=some c->∃v,U2 kvs k=some v/\Rp m H c v)/\(n9 l (.tup d)=none->U2 kvs k=none):=by
 induction r with
 |nil=>exact⟨fun c h=>(by cases h),fun _=>rfl⟩
 | @cons p q ps qs h t ih=>
  obtain⟨⟨l',e1,e2⟩,h2⟩:=h
  by_cases z:p.1=.tup d
  · have z':q.1=k:=by rw[e1] at z;injection z with z;rw[z,e] at e2;exact(ax e2).symm
    rw[Z3 z',show n9 (p::ps) (.tup d)=some p.2 from by simp[n9,List.find?_cons,z]]
    exact⟨fun c hc=>by cases hc;exact⟨q.2,rfl,h2⟩,fun hc=>by cases hc⟩
  · have z':¬q.1=k:=fun y=>z (e1.trans (congrArg D.tup (a1N (e2.trans (congrArg some y)) e)))
    rw[Z4 z',show n9 (p::ps) (.tup d)=n9 ps (.tup d) from by simp[n9,List.find?_cons,z]]
    exact ih
theorem DK.put {l:List (D×D)} {kvs:List (Key×V)} (r:DK m H l kvs) {c:D} {k:Key} {v:V} (e:G2 d=some k) (rv:Rp m H c v):DK m H (Y8 l d c) (M3 kvs k v):=by
 have any:(l.any fun p=>decide (p.1=d))=kvs.any fun p=>decide (p.1=k):=by
  induction r with
  |nil=>rfl
  | @cons p q ps qs h t ih=>
   rw[any_cons,any_cons,ih];congr 1;refine decide_eq_decide.mpr ⟨fun(z:p.1=d)=>?_,fun(z:q.1=k)=>a0g (by rw[h.1,z]) e⟩
   have:=h.1;rw[z,e] at this;exact(ax this).symm
 unfold Y8 M3;rw[any]
 split
 · clear any
   induction r with
   |nil=>exact .nil
   | @cons p q ps qs h t ih=>
    rename_i hh;rw[map_cons,map_cons];refine .cons ?_ ?_
    · by_cases z:p.1=d
      · have z':q.1=k:=by have:=h.1;rw[z,e] at this;exact(ax this).symm
        rw[ay z,ay z'];exact⟨h.1,rv⟩
      · have z':¬q.1=k:=fun y=>z (a0g (by rw[h.1,y]) e)
        rw[az z,az z'];exact h
    · clear hh ih h
      induction t with
      |nil=>exact .nil
      | @cons p q ps qs h t ih=>
       rw[map_cons,map_cons];refine .cons ?_ ih
       by_cases z:p.1=d
       · have z':q.1=k:=by have:=h.1;rw[z,e] at this;exact(ax this).symm
         rw[ay z,ay z'];exact⟨h.1,rv⟩
       · have z':¬q.1=k:=fun y=>z (a0g (by rw[h.1,y]) e)
         rw[az z,az z'];exact h
 · exact Paired.snoc r ⟨e,rv⟩
theorem DT.put{l:List (D×D)}{kvs:List (List Key×V)}(r:DT m H l kvs){d:List D}{c:D}{k:List Key}{v:V}(e:E6 d=some k)(rv:Rp m H c v):DT m H (Y8 l (.tup d) c) (M3 kvs k v):=by
 have one:∀{p:D×D} {q:List Key×V},(∃l,p.1=.tup l/\E6 l=some q.1)->(p.1=.tup d↔q.1=k):=by
  rintro p q ⟨l',e1,e2⟩;refine⟨fun(z:p.1=.tup d)=>?_,fun(z:q.1=k)=>e1.trans (congrArg D.tup (a1N (e2.trans (congrArg some z)) e))⟩
  rw[e1] at z;injection z with z;rw[z,e] at e2;exact(ax e2).symm
 have any:(l.any fun p=>decide (p.1=.tup d))=kvs.any fun p=>decide (p.1=k):=by
  induction r with
  |nil=>rfl
  | @cons p q ps qs h t ih=>
   rw[any_cons,any_cons,ih];congr 1;exact decide_eq_decide.mpr (one h.1)
 unfold Y8 M3;rw[any]
 split
 · have go:∀{l:List (D×D)} {kvs:List (List Key×V)},DT m H l kvs->DT m H (l.map fun p=>if p.1=.tup d then(p.1,c) else p) (kvs.map fun p=>if p.1=k then(p.1,v) else p):=by
    intro l kvs r
    induction r with
    |nil=>exact .nil
    | @cons p q ps qs h t ih=>
     rw[map_cons,map_cons];refine .cons ?_ ih
     by_cases z:p.1=.tup d
     · rw[ay z,ay ((one h.1).mp z)];exact⟨h.1,rv⟩
     · rw[az z,az fun y=>z ((one h.1).mpr y)];exact h
   exact go r
 · exact Paired.snoc r ⟨⟨d,rfl,e⟩,rv⟩
theorem Q1{s:Shared}{k:D}(I:Inv X pins σ H s)(S:Sim Γ ah m H)(e:ah[n]? =some (.dict kvs))(ok:w8 k kvs=true){a:Addr}(hm:m[n]? =some a):
 ∃H',Inv X pins σ H' s/\Keep m m H H'/\Sim Γ ah m H'/\((∃ks gs,G2 k=some ks/\H' a=some (.dK gs)/\DK m H' kvs gs)∨∃l ks gs,k=.tup l/\E6 l=some ks/\H' a=some (.dT gs)/\DT m H' kvs gs):=by
 unfold w8 at ok;rw[ae] at ok;obtain⟨ok1,ok2⟩:=ok;obtain⟨b,hb⟩:=Option.isSome_iff_exists.mp ok1
 rcases S.at hm e with⟨gs,h1,h2⟩|⟨gs,h1,h2⟩
 · cases b with
   |false=>
    obtain⟨ks,hk⟩:=a4Z hb;exact⟨H,I,Keep.refl m H,S,.inl ⟨ks,gs,hk,h1,h2⟩⟩
   | true=>
    obtain⟨l,ks,rfl,hk⟩:=a3g hb
    cases h2 with
    |nil=>
     have kp:Keep m m H (upd H a (.dT [])):=Keep.put hm h1 fun z=>z
     have S':=S.write (o':=.dT []) (c:=.dict []) hm h1 (fun z=>z) (.inr ⟨[],b9,.nil⟩)
     rw[show ah.set n (.dict [])=ah from a2P e] at S';exact⟨_,b5P I h1,kp,S',.inr ⟨l,ks,[],rfl,hk,b9,.nil⟩⟩
    | @cons p q ps qs h t=>
     rw[all_cons,ae,hb] at ok2
     exfalso
     have:=eq_of_beq ok2.1
     obtain⟨l',ks',e1,_⟩:=a3g this;have h1:=h.1;rw[e1] at h1;cases h1
 · cases b with
   |true=>
    obtain⟨l,ks,rfl,hk⟩:=a3g hb;exact⟨H,I,Keep.refl m H,S,.inr ⟨l,ks,gs,rfl,hk,h1,h2⟩⟩
   | false=>
    obtain⟨ks,hk⟩:=a4Z hb
    cases h2 with
    |nil=>
     have kp:Keep m m H (upd H a (.dK [])):=Keep.put hm h1 fun z=>z
     have S':=S.write (o':=.dK []) (c:=.dict []) hm h1 (fun z=>z) (.inl ⟨[],b9,.nil⟩)
     rw[show ah.set n (.dict [])=ah from a2P e] at S';exact⟨_,b0G I h1,kp,S',.inl ⟨ks,[],hk,b9,.nil⟩⟩
    | @cons p q ps qs h t=>
     rw[all_cons,ae,hb] at ok2
     exfalso
     have:=eq_of_beq ok2.1
     obtain⟨ks',hk'⟩:=a4Z this;obtain⟨⟨l',e1,_⟩,_⟩:=h;rw[e1] at hk';cases hk'
end
variable{o:B}{h:AH}{ds:List D}{f:Str}
section
variable{X:Cx}{E:XK}
theorem a3t(b:Bool):(b !=false)=b:=by cases b<;>rfl
theorem a3s(b:Bool):(b !=true)=!b:=by cases b<;>rfl
theorem DK.some_eq{l:List (D×D)}{kvs:List (Key×V)}(r:DK m H l kvs){k:Key}(e:G2 d=some k):(n9 l d).isSome=(U2 kvs k).isSome:=by
 obtain⟨h1,h2⟩:=r.val e
 cases q:n9 l d with
 |none=>rw[h2 q];rfl
 |some c=>obtain⟨v,hv,_⟩:=h1 c q;rw[hv];rfl
theorem DT.some_eq{l:List (D×D)}{kvs:List (List Key×V)}(r:DT m H l kvs){d:List D}{k:List Key}(e:E6 d=some k):(n9 l (.tup d)).isSome=(U2 kvs k).isSome:=by
 obtain⟨h1,h2⟩:=r.val e
 cases q:n9 l (.tup d) with
 |none=>rw[h2 q];rfl
 |some c=>obtain⟨v,hv,_⟩:=h1 c q;rw[hv];rfl
theorem a1z{k:D}{x:V}{a:Addr}(kp:Keep m m H H')(r:Rp m H k x)
 (h:(∃ks gs,G2 k=some ks/\H' a=some (.dK gs)/\DK m H' kvs gs)∨∃l ks gs,k=.tup l/\E6 l=some ks/\H' a=some (.dT gs)/\DT m H' kvs gs):
 ∃o,a7A H' a x o/\(n9 kvs k).isSome=o.isSome/\∀c,n9 kvs k=some c->∃v,o=some v/\Rp m H' c v:=by
 rcases h with⟨ks,gs,hk,ha,dk⟩|⟨l,ks,gs,rfl,hk,ha,dt⟩
 · obtain⟨h1,h2⟩:=dk.val hk;exact⟨U2 gs ks,.inl ⟨gs,ks,.inl ha,W5 hk r,rfl⟩,dk.some_eq hk,fun c hc=>h1 c hc⟩
 · obtain⟨h1,h2⟩:=dt.val hk;obtain⟨b,vs,rfl,hb,rs⟩:=r;have hv:=a3f hk rs;subst hv;exact⟨U2 gs ks,.inr ⟨gs,ks,b,.inl ha,rfl,kp.tup hb,rfl⟩,dt.some_eq hk,fun c hc=>h1 c hc⟩
theorem c1t(hu:X.A.units+8<cLine)(hK:X.K=Γ.K):OpR X (compareOp .In) (rOf Γ E (V9 false)):=by
 rintro pins s σ H x y v u Q I rx ry ⟨d1,d2,ah,m,S,r1,r2,q⟩;unfold V9 at q
 split at q
 · cases r1;cases r2
   rw[a3t] at q;exact a9o pins s σ H _ _ v u Q I rx ry ⟨_,_,rfl,rfl,q.ok S rfl⟩
 · split at q
   · rename_i h;rw[ae] at h;obtain⟨a,vs,rfl,h1,q1⟩:=r2;refine a0z pins s σ H _ _ v u Q I rx ry ⟨a,vs,rfl,.inr (.inl (.inl h1)),Q9 r1 h.1,G3 q1 h.2,?_⟩
     rw[a3t,a0i r1 h.1 q1 h.2] at q;exact q.ok S rfl
   · exact q.elim
 · split at q
   · rename_i xs e
     split at q
     · rename_i h;rw[ae] at h;obtain⟨a,vs,rfl,_,h1,q1⟩:=S.lst e r2;refine a0z pins s σ H _ _ v u Q I rx ry ⟨a,vs,rfl,.inl (.inl (.inl h1)),Q9 r1 h.1,G3 q1 h.2,?_⟩
       rw[a3t,a0i r1 h.1 q1 h.2] at q;exact q.ok S rfl
     · exact q.elim
   · rename_i xs e
     split at q
     · rename_i h;rw[ae] at h;obtain⟨a,vs,rfl,_,h1,q1⟩:=S.rdL (l:=xs) (by unfold rdL;rw[e]) r2
       refine a0z pins s σ H _ _ v u Q I rx ry ⟨a,vs,rfl,.inl (by rw[hK];exact h1),Q9 r1 h.1,G3 q1 h.2,?_⟩
       rw[a3t,a0i r1 h.1 q1 h.2] at q;exact q.ok S rfl
     · exact q.elim
   · rename_i kvs e
     split at q
     · rename_i h;obtain⟨a,rfl,hm⟩:=r2;obtain⟨H',I',kp,S',hd⟩:=Q1 I S e h hm;obtain⟨o,g,h1,_⟩:=a1z kp r1 hd
       cases (show u=Value.ref a from ry)
       refine c1w (hu1 hu) I' g rx fun s' I''=>⟨.bl o.isSome,H',I'',rfl,?_⟩
       rw[a3t,h1] at q;exact q m H' _ (Pre.refl m) kp S' rfl
     · exact q.elim
   · exact q.elim
 · exact q.elim
theorem b4P(hu:X.A.units+8<cLine)(hK:X.K=Γ.K):OpR X (compareOp .NotIn) (rOf Γ E (V9 true)):=by
 rintro pins s σ H x y v u Q I rx ry ⟨d1,d2,ah,m,S,r1,r2,q⟩;unfold V9 at q
 split at q
 · cases r1;cases r2
   rw[a3s] at q;exact a4O pins s σ H _ _ v u Q I rx ry ⟨_,_,rfl,rfl,q.ok S rfl⟩
 · split at q
   · rename_i h;rw[ae] at h;obtain⟨a,vs,rfl,h1,q1⟩:=r2;refine N3 pins s σ H _ _ v u Q I rx ry ⟨a,vs,rfl,.inr (.inl (.inl h1)),Q9 r1 h.1,G3 q1 h.2,?_⟩
     rw[a3s,a0i r1 h.1 q1 h.2] at q;exact q.ok S rfl
   · exact q.elim
 · split at q
   · rename_i xs e
     split at q
     · rename_i h;rw[ae] at h;obtain⟨a,vs,rfl,_,h1,q1⟩:=S.lst e r2;refine N3 pins s σ H _ _ v u Q I rx ry ⟨a,vs,rfl,.inl (.inl (.inl h1)),Q9 r1 h.1,G3 q1 h.2,?_⟩
       rw[a3s,a0i r1 h.1 q1 h.2] at q;exact q.ok S rfl
     · exact q.elim
   · rename_i xs e
     split at q
     · rename_i h;rw[ae] at h;obtain⟨a,vs,rfl,_,h1,q1⟩:=S.rdL (l:=xs) (by unfold rdL;rw[e]) r2
       refine N3 pins s σ H _ _ v u Q I rx ry ⟨a,vs,rfl,.inl (by rw[hK];exact h1),Q9 r1 h.1,G3 q1 h.2,?_⟩
       rw[a3s,a0i r1 h.1 q1 h.2] at q;exact q.ok S rfl
     · exact q.elim
   · rename_i kvs e
     split at q
     · rename_i h;obtain⟨a,rfl,hm⟩:=r2;obtain⟨H',I',kp,S',hd⟩:=Q1 I S e h hm;obtain⟨o,g,h1,_⟩:=a1z kp r1 hd
       cases (show u=Value.ref a from ry)
       refine b4T (hu1 hu) I' g rx fun s' I''=>⟨.bl (!o.isSome),H',I'',rfl,?_⟩
       rw[a3s,h1] at q;exact q m H' _ (Pre.refl m) kp S' rfl
     · exact q.elim
   · exact q.elim
 · exact q.elim
noncomputable def B.cmp:B->Option CmpOp
 |.eq=>some .Eq|.ne=>some .NotEq|.lt=>some .Lt|.le=>some .LtE|.gt=>some .Gt|.ge=>some .GtE|.isin=>some .In|.notin=>some .NotIn
 |_=>none
noncomputable def B.bin:B->Option Operator
 |.add=>some .Add|.sub=>some .Sub|.mul=>some .Mult|.div=>some .FloorDiv|.mod=>some .Mod
 |_=>none
theorem b9P{op:Operator}(h:o.bin=some op):OpR X (binaryOp op) (rOf Γ E (op2 o)):=by
 cases o<;>cases h
 · exact b9Q
 · exact b9J
 · exact b9K
 · exact b9O
 · exact b9L
theorem a1U(hu:X.A.units+8<cLine)(hK:X.K=Γ.K)(h:o.cmp=some op):OpR X (compareOp op) (rOf Γ E (op2 o)):=by
 cases o<;>cases h
 · exact c1u hu hK
 · exact c1s hu hK
 · exact a8F b8S
 · exact a8F b8T
 · exact a8F b8U
 · exact a8F b8V
 · exact c1t hu hK
 · exact b4P hu hK
theorem b9M (hu:X.A.units+8<cLine) (hK:X.K=Γ.K):IxR X (rOf Γ E ixD):=by
  rintro value slice pins s σ H x y v u Q I rx ry ⟨d1,d2,ah,m,S,r1,r2,q⟩ hs;unfold ixD at q
  split at q
  · split at q
    · rename_i d e;obtain⟨a,vs,rfl,h1,q1⟩:=r1;cases r2;obtain⟨w,hw,rw'⟩:=q1.at e;exact ix_tup value slice pins s σ H _ _ v u Q I rx ry ⟨a,vs,_,w,rfl,rfl,.inl (.inl h1),hw,q.ok S rw'⟩ hs
    · exact q.elim
  · split at q
    · rename_i hl
      split at q
      · rename_i c e
        cases r1;cases r2
        exact ix_str value slice pins s σ H _ _ v u Q I rx ry ⟨_,_,c,rfl,rfl,by rw[←O4];exact hl,e,q.ok S rfl⟩ hs
      · exact q.elim
    · exact q.elim
  · split at q
    · rename_i xs e
      split at q
      · split at q
        · rename_i d e2;obtain⟨a,vs,rfl,_,h1,q1⟩:=S.lst e r1;cases r2;obtain⟨w,hw,rw'⟩:=q1.at e2;exact a8i value slice pins s σ H _ _ v u Q I rx ry ⟨a,vs,_,w,rfl,rfl,.inl (.inl h1),hw,q.ok S rw'⟩ hs
        · exact q.elim
      · exact q.elim
    · rename_i xs e
      split at q
      · split at q
        · rename_i d e2;obtain⟨a,vs,rfl,_,h1,q1⟩:=S.rdL (l:=xs) (by unfold rdL;rw[e]) r1
          cases r2;obtain⟨w,hw,rw'⟩:=q1.at e2;exact a8i value slice pins s σ H _ _ v u Q I rx ry ⟨a,vs,_,w,rfl,rfl,by rw[hK];exact h1,hw,q.ok S rw'⟩ hs
        · exact q.elim
      · exact q.elim
    · rename_i kvs e
      split at q
      · rename_i h
        split at q
        · rename_i d e2;obtain⟨a,rfl,hm⟩:=r1;obtain⟨H',I',kp,S',hd⟩:=Q1 I S e h hm;obtain⟨o,g,h1,h2⟩:=a1z kp r2 hd;obtain⟨w,hw,rw'⟩:=h2 d e2;subst hw
          cases (show v=Value.ref a from rx)
          refine ixd_tail (a6w I' g) hs ?_
          exact a9K (hu1 hu) I' g ry fun w' s' I'' r''=>⟨w,H',I'',r'',q m H' _ (Pre.refl m) kp S' rw'⟩
        · exact q.elim
      · exact q.elim
    · exact q.elim
  · exact q.elim
where
  ixd_tail {value slice:Expr} {v u:Value} {Q:Value->Shared->Prop} {s:Shared} (hT:s.TypeIs v "dict") (hs:subscripted slice false v u=operate [v,u] (getItem v u)) (h:wpAny (model X.prog X.w) X.A (getItem v u) Q X.xe s):
      wpAny (model X.prog X.w) X.A (subscriptTail value slice v u) Q X.xe s:=by
    unfold subscriptTail;refine wpAny_bind ?_
    rw[getitemInPython_of_ne hT.not_modules];refine wpAny_bind (wpAny_specialOf hT PySem.F.slot_dict_getitem.lookup ?_)
    have fin:wpAny (model X.prog X.w) X.A (subscripted slice false v u) (fun r s₃=>wpAny (model X.prog X.w) X.A (letTemporaryGo value v r>>=fun _=>pure r) Q X.xe s₃) X.xe s:=by
      rw[hs];exact wpAny_operating (wpAny_mono h (fun r s₃ h₃=>wpAny_bind (wpAny_letTemporaryGo (wpAny_pure h₃))) fun _ _ x=>x)
    first
      |exact wpAny_pure (wpAny_bind fin)
      |exact wpAny_bind (wpAny_pure (wpAny_bind fin))
      |exact wpAny_bind fin
theorem c1r(hK:X.K=Γ.K):SlR X (fun x lo hi H Q=>∃d ah m,Sim Γ ah m H/\Rp m H d x/\d9 Γ E m H (slD ah lo hi d) Q):=by
 rintro pins s σ H x v vl vu lo hi sl Q I rx hs pl pu ⟨d,ah,m,S,r,q⟩;unfold slD at q
 split at q
 · split at q
   · rename_i hl;cases r;exact b5L pins s σ H _ v vl vu lo hi sl Q I rx hs pl pu ⟨_,rfl,by rw[←O4];exact hl,q.ok S rfl⟩
   · exact q.elim
 · split at q
   · rename_i xs e;obtain⟨a,vs,rfl,_,h1,q1⟩:=S.rdL e r;refine b3o pins s σ H _ v vl vu lo hi sl Q I rx hs pl pu ⟨a,vs,rfl,by rw[hK];exact h1,fun p hp=>q.newc S hp ⟨_,b9,(q1.cut lo hi).mono (Pre.snoc m p) (Keep.newc hp)⟩⟩
   · exact q.elim
 · exact q.elim
def rBi(Γ:Gm)(E:XK)(b:Bi):List V->Hp->VK->Prop:=fun xs H Q=>∃ds ah m,Sim Γ ah m H/\Rps m H ds xs/\d9 Γ E m H (biD b ah ds) Q
theorem Q2{xs:List V}(h:Rps m H [d] xs):∃x,xs=[x]/\Rp m H d x:=by
 obtain⟨v,t,rfl,q,e⟩:=h;exact⟨v,by rw[show t=[] from e],q⟩
theorem b8E{e:D}{xs:List V}(h:Rps m H [d,e] xs):∃x y,xs=[x,y]/\Rp m H d x/\Rp m H e y:=by
 obtain⟨v,t,rfl,q,h2⟩:=h;obtain⟨y,rfl,q2⟩:=Q2 h2;exact⟨v,y,rfl,q,q2⟩
theorem b9Z(hK:X.K=Γ.K):B8 X (.builtin "len") (rBi Γ E .len):=by
 rintro pins s σ H xs us Q I r ⟨ds,ah,m,S,rs,q⟩;unfold biD at q
 split at q
 · obtain⟨x,rfl,r1⟩:=Q2 rs;cases r1
   simp only at q
   split at q
   · rename_i hl;exact a5u pins s σ H _ us Q I r ⟨_,rfl,by rw[←O4];exact hl,q.ok S rfl⟩
   · exact q.elim
 · obtain⟨x,rfl,a,vs,rfl,h1,q1⟩:=Q2 rs;exact a1C pins s σ H _ us Q I r ⟨a,vs,rfl,.inr (.inl (.inl h1)),by rw[q1.len];exact q.ok S rfl⟩
 · exact q.elim
 · exact q.elim
 · rename_i n;obtain⟨x,rfl,r1⟩:=Q2 rs
   split at q
   · rename_i kvs e
     simp only at q
     split at q
     · rename_i h;obtain⟨a,rfl,hm⟩:=r1;obtain⟨H',I',kp,S',hd⟩:=Q1 I S e h hm
       rcases hd with⟨ks,gs,hk,ha,dk⟩|⟨l,ks,gs,e0,_⟩
       · obtain⟨u,rfl,ru⟩:=M9 r
         cases (show u=Value.ref a from ru)
         refine b9T I' (.inl ha) fun t s' I''=>⟨.int gs.length,H',I'',⟨t,rfl⟩,?_⟩
         rw[←Paired.length dk];exact q m H' _ (Pre.refl m) kp S' rfl
       · cases e0
     · exact q.elim
   · split at q
     · rename_i ys e
       simp only at q
       obtain⟨a,vs,rfl,_,h1,q1⟩:=S.rdL e r1;exact a1C pins s σ H _ us Q I r ⟨a,vs,rfl,.inl (by rw[hK];exact h1),by rw[q1.len];exact q.ok S rfl⟩
     · exact q.elim
 · exact q.elim
 · exact q.elim
theorem b9X:B8 X (.type "str") (rBi Γ E .str):=by
 rintro pins s σ H xs us Q I r ⟨ds,ah,m,S,rs,q⟩;unfold biD at q
 split at q<;>(try exact q.elim)
 · simp only at q
   split at q
   · rename_i hl;obtain⟨x,rfl,r1⟩:=Q2 rs;cases r1;exact a5t pins s σ H _ us Q I r ⟨_,rfl,hl,q.ok S rfl⟩
   · exact q.elim
 · split at q
   · exact q.elim
   · split at q<;>exact q.elim
theorem c0a:B8 X (.type "int") (rBi Γ E .int):=by
 rintro pins s σ H xs us Q I r ⟨ds,ah,m,S,rs,q⟩;unfold biD at q
 split at q<;>(try exact q.elim)
 · simp only at q
   split at q
   · rename_i hl
     split at q
     · rename_i n e;obtain⟨x,rfl,r1⟩:=Q2 rs;cases r1;exact a5v pins s σ H _ us Q I r ⟨_,n,rfl,hl,e,q.ok S rfl⟩
     · exact q.elim
   · exact q.elim
 · obtain⟨x,rfl,r1⟩:=Q2 rs;cases r1;exact a4n pins s σ H _ us Q I r (.inl ⟨_,rfl,q.ok S rfl⟩)
 · obtain⟨x,rfl,r1⟩:=Q2 rs;cases r1;exact a4n pins s σ H _ us Q I r (.inr ⟨_,rfl,q.ok S rfl⟩)
 · split at q
   · exact q.elim
   · split at q<;>exact q.elim
theorem b7C(hK:X.K=Γ.K):B8 X (.type "list") (rBi Γ E .list):=by
 rintro pins s σ H xs us Q I r ⟨ds,ah,m,S,rs,q⟩;unfold biD at q
 split at q<;>(try exact q.elim)
 · obtain⟨x,rfl,a,vs,rfl,h1,q1⟩:=Q2 rs;exact a1B pins s σ H _ us Q I r ⟨a,vs,rfl,.inr (.inl (.inl h1)),fun p hp=>q.newc S hp ⟨_,b9,q1.mono (Pre.snoc m p) (Keep.newc hp)⟩⟩
 · split at q
   · exact q.elim
   · split at q
     · rename_i ys e;obtain⟨x,rfl,r1⟩:=Q2 rs;obtain⟨a,vs,rfl,_,h1,q1⟩:=S.rdL e r1;exact a1B pins s σ H _ us Q I r ⟨a,vs,rfl,.inl (by rw[hK];exact h1),fun p hp=>d9.newc q S hp ⟨_,b9,q1.mono (Pre.snoc m p) (Keep.newc hp)⟩⟩
     · exact q.elim
theorem b4Y(hK:X.K=Γ.K):B8 X (.type "tuple") (rBi Γ E .tuple):=by
 rintro pins s σ H xs us Q I r ⟨ds,ah,m,S,rs,q⟩;unfold biD at q
 split at q<;>(try exact q.elim)
 · obtain⟨x,rfl,a,vs,rfl,h1,q1⟩:=Q2 rs;exact a0P pins s σ H _ us Q I r ⟨a,vs,rfl,.inr ⟨.inl (.inl h1),d9.ok q S ⟨a,vs,rfl,h1,q1⟩⟩⟩
 · split at q
   · exact q.elim
   · split at q
     · rename_i ys e;obtain⟨x,rfl,r1⟩:=Q2 rs;obtain⟨a,vs,rfl,_,h1,q1⟩:=S.rdL e r1;exact a0P pins s σ H _ us Q I r ⟨a,vs,rfl,.inl ⟨by rw[hK];exact h1,fun p hp=>d9.newt q S hp q1⟩⟩
     · exact q.elim
theorem a1H{m:List Addr}{H:Hp}:∀{l:List D} {is:List Int} {vs:List V},a1u l=some is->Rps m H l vs->vs=is.map V.int
 |[],is,vs,h,r=>by cases h;exact r
 |d::l,is,vs,h,⟨v,t,e,q1,q2⟩=>by
  cases d<;>simp only[a1u] at h<;>first|(cases h;done)|skip
  obtain⟨is',h1,rfl⟩:=Option.map_eq_some_iff.mp h;cases q1;rw[e,a1H h1 q2];rfl
theorem b0R{m:List Addr}{H:Hp}:∀{l:List D} {kvs:List (D×D)} {vs:List V},a5X l=some kvs->Rps m H l vs->∃gs,PrT H vs gs/\DK m H kvs gs
 |[],kvs,vs,h,r=>by cases h;rw[show vs=[] from r];exact⟨[],.nil,.nil⟩
 |d::l,kvs,vs,h,⟨v,t,e,q1,q2⟩=>by
  unfold a5X at h
  split at h
  · rename_i e0;cases e0
  · rename_i k x r e0;cases e0
    split at h
    · rename_i hk;obtain⟨kvs',h1,rfl⟩:=Option.map_eq_some_iff.mp h;obtain⟨gs,g1,g2⟩:=b0R h1 q2;obtain⟨kk,hk⟩:=Option.isSome_iff_exists.mp hk;obtain⟨a,ws,rfl,ha,rs⟩:=q1;obtain⟨y,z,rfl,r1,r2⟩:=b8E rs
      have:=W5 hk r1
      subst this;rw[e];exact⟨(kk,z)::gs,.cons ⟨a,rfl,ha⟩ g1,.cons ⟨hk,r2⟩ g2⟩
    · cases h
  · cases h
theorem b2u(h:DK m H kvs gs):∀{acc:List (D×D)} {ag:List (Key×V)},DK m H acc ag->DK m H (kvs.foldl (fun a p=>Y8 a p.1 p.2) acc) (W1 ag gs):=by
 unfold DK at h
 induction h with
 |nil=>exact fun r=>r
 |cons h t ih=>exact fun r=>ih (DK.put r h.1 h.2)
theorem a3P{m:List Addr}{H:Hp}:∀l:List Int,Rps m H (l.map .int) (l.map V.int)
 |[]=>rfl
 |_::l=>⟨_,_,rfl,rfl,a3P l⟩
theorem b2D(hK:X.K=Γ.K):B8 X (.builtin "sorted") (rBi Γ E .sorted):=by
 rintro pins s σ H xs us Q I r ⟨ds,ah,m,S,rs,q⟩;unfold biD at q
 split at q<;>(try exact q.elim)
 split at q
 · exact q.elim
 · split at q
   · rename_i ys e
     simp only at q
     split at q
     · rename_i is e2
       split at q
       · rename_i h64;obtain⟨x,rfl,r1⟩:=Q2 rs;obtain⟨a,vs,rfl,_,h1,q1⟩:=S.rdL e r1;rw[a1H e2 q1] at h1;exact a6E pins s σ H _ us Q I r ⟨a,is,rfl,by rw[hK];exact h1,h64,fun p hp=>q.newc S hp ⟨_,b9,a3P _⟩⟩
       · exact q.elim
     · exact q.elim
   · exact q.elim
theorem b9W(hc:X.calm=true)(hK:X.K=Γ.K):B8 X (.builtin "sum") (rBi Γ E .sum):=by
 rintro pins s σ H xs us Q I r ⟨ds,ah,m,S,rs,q⟩;unfold biD at q
 split at q<;>(try exact q.elim)
 split at q
 · exact q.elim
 · split at q
   · rename_i ys e
     simp only at q
     split at q
     · rename_i is e2;obtain⟨x,rfl,r1⟩:=Q2 rs;obtain⟨a,vs,rfl,_,h1,q1⟩:=S.rdL e r1;rw[a1H e2 q1] at h1;exact b2z hc pins s σ H _ us Q I r ⟨a,is,rfl,by rw[hK];exact h1,q.ok S rfl⟩
     · exact q.elim
   · exact q.elim
theorem b7D(hc:X.calm=true)(hK:X.K=Γ.K):B8 X (.type "dict") (rBi Γ E .dict):=by
 rintro pins s σ H xs us Q I r ⟨ds,ah,m,S,rs,q⟩;unfold biD at q
 split at q<;>(try exact q.elim)
 split at q
 · exact q.elim
 · split at q
   · rename_i ys e
     simp only at q
     split at q
     · rename_i kvs e2;obtain⟨x,rfl,r1⟩:=Q2 rs;obtain⟨a,vs,rfl,_,h1,q1⟩:=S.rdL e r1;obtain⟨gs,g1,g2⟩:=b0R e2 q1;exact a5w hc pins s σ H _ us Q I r ⟨a,vs,gs,rfl,by rw[hK];exact h1,g1,fun d hd=>q.newc S hd (.inl ⟨_,b9,(b2u g2 .nil).mono (Pre.snoc m d) (Keep.newc (m:=m) hd).im⟩)⟩
     · exact q.elim
   · exact q.elim
theorem c0c(hc:X.calm=true)(hK:X.K=Γ.K):B8 X (.builtin "all") (rBi Γ E .all):=by
 rintro pins s σ H xs us Q I r ⟨ds,ah,m,S,rs,q⟩;unfold biD at q
 split at q<;>(try exact q.elim)
 split at q
 · exact q.elim
 · split at q
   · rename_i ys e
     simp only at q
     split at q
     · rename_i bs e2;obtain⟨x,rfl,r1⟩:=Q2 rs;obtain⟨a,vs,rfl,_,h1,q1⟩:=S.rdL e r1;rw[a4F e2 q1] at h1;exact b2C hc pins s σ H _ us Q I r ⟨a,bs,rfl,by rw[hK];exact h1,q.ok S rfl⟩
     · exact q.elim
   · exact q.elim
theorem c0b(hc:X.calm=true)(hK:X.K=Γ.K):B8 X (.builtin "any") (rBi Γ E .any):=by
 rintro pins s σ H xs us Q I r ⟨ds,ah,m,S,rs,q⟩;unfold biD at q
 split at q<;>(try exact q.elim)
 split at q
 · exact q.elim
 · split at q
   · rename_i ys e
     simp only at q
     split at q
     · rename_i bs e2;obtain⟨x,rfl,r1⟩:=Q2 rs;obtain⟨a,vs,rfl,_,h1,q1⟩:=S.rdL e r1;rw[a4F e2 q1] at h1;exact b2B hc pins s σ H _ us Q I r ⟨a,bs,rfl,by rw[hK];exact h1,q.ok S rfl⟩
     · exact q.elim
   · exact q.elim
theorem b9Y(hc:X.calm=true):B8 X (.builtin "max") (rBi Γ E .max):=by
 rintro pins s σ H xs us Q I r ⟨ds,ah,m,S,rs,q⟩;unfold biD at q
 split at q<;>(try exact q.elim)
 · split at q
   · exact q.elim
   · split at q<;>exact q.elim
 · obtain⟨x,y,rfl,r1,r2⟩:=b8E rs
   cases r1;cases r2
   exact a9P hc pins s σ H _ us Q I r ⟨_,_,rfl,q.ok S rfl⟩
def rMt(Γ:Gm)(E:XK)(b:Mt):V->List V->Hp->VK->Prop:=fun x xs H Q=>∃d ds ah m,Sim Γ ah m H/\Rp m H d x/\Rps m H ds xs/\d9 Γ E m H (mtD b ah d ds) Q
theorem b1v:MtR X "list.append" (rMt Γ E .append):=by
 rintro pins s σ H x xs v us Q I rx r ⟨d,ds,ah,m,S,rd,rs,q⟩;unfold mtD at q
 split at q<;>(try exact q.elim)
 · rename_i n e0;obtain⟨y,rfl,r1⟩:=Q2 rs
   split at q
   · rename_i l e
     split at q
     · rename_i hl;obtain⟨a,vs,rfl,hm,h1,q1⟩:=S.lst e rd;refine a3Y pins s σ H _ _ v us Q I rx r ⟨a,vs,y,rfl,rfl,h1,by rw[q1.len,←O4];exact hl,?_⟩
       have kp:Keep m m H (upd H a (.lst (vs++[y]))):=Keep.put hm h1 fun z=>z
       exact q m _ _ (Pre.refl m) kp (S.write hm h1 (fun z=>z) ⟨_,b9,(q1.snoc r1).mono (Pre.refl m) kp⟩) rfl
     · exact q.elim
   · contradiction
   · exact q.elim
theorem b1u:MtR X "list.extend" (rMt Γ E .extend):=by
 rintro pins s σ H x xs v us Q I rx r ⟨d,ds,ah,m,S,rd,rs,q⟩;unfold mtD at q
 split at q<;>(try exact q.elim)
 · rename_i n e0;obtain⟨y,rfl,r1⟩:=Q2 rs
   split at q
   · contradiction
   · rename_i l e
     split at q
     · split at q
       · rename_i ys e2
         split at q
         · rename_i hl;obtain⟨a,vs,rfl,hm,h1,q1⟩:=S.lst e rd;obtain⟨b,ws,rfl,hm2,h2,q2⟩:=S.lst e2 r1;refine a9s pins s σ H _ _ v us Q I rx r ⟨a,b,vs,ws,rfl,rfl,h1,h2,by rw[q1.len,q2.len,←O4];exact hl,?_⟩
           have kp:Keep m m H (upd H a (.lst (vs++ws))):=Keep.put hm h1 fun z=>z
           exact q m _ _ (Pre.refl m) kp (S.write hm h1 (fun z=>z) ⟨_,b9,(q1.app q2).mono (Pre.refl m) kp⟩) rfl
         · exact q.elim
       · exact q.elim
     · exact q.elim
   · exact q.elim
theorem b4d:MtR X "str.split" (rMt Γ E .split):=by
 rintro pins s σ H x xs v us Q I rx r ⟨d,ds,ah,m,S,rd,rs,q⟩;unfold mtD at q
 split at q<;>(try exact q.elim)
 · simp only at q
   split at q
   · rename_i h;obtain⟨y,rfl,r1⟩:=Q2 rs
     cases rd;cases r1
     refine b1p pins s σ H _ _ v us Q I rx r ⟨_,_,rfl,rfl,h.1,by rw[←O4];exact h.2,fun p hp=>q.newc S hp ⟨_,b9,Rps.strs⟩⟩
   · exact q.elim
theorem b1t:MtR X "str.startswith" (rMt Γ E .starts):=by
 rintro pins s σ H x xs v us Q I rx r ⟨d,ds,ah,m,S,rd,rs,q⟩;unfold mtD at q
 split at q<;>(try exact q.elim)
 · obtain⟨y,rfl,r1⟩:=Q2 rs
   cases rd;cases r1
   exact a9r pins s σ H _ _ v us Q I rx r ⟨_,_,rfl,rfl,q.ok S rfl⟩
theorem b6E(hK:X.K=Γ.K):MtR X "str.join" (rMt Γ E .join):=by
 rintro pins s σ H x xs v us Q I rx r ⟨d,ds,ah,m,S,rd,rs,q⟩;unfold mtD at q
 split at q<;>(try exact q.elim)
 · simp only at q
   split at q
   · rename_i l e
     split at q
     · rename_i ts e2
       split at q
       · rename_i hj;obtain⟨y,rfl,r1⟩:=Q2 rs;obtain⟨a,vs,rfl,_,h1,q1⟩:=S.rdL e r1;rw[a5Q e2 q1] at h1;cases rd;exact b4b pins s σ H _ _ v us Q I rx r ⟨_,a,ts,rfl,rfl,by rw[hK];exact h1,hj,q.ok S rfl⟩
       · exact q.elim
     · exact q.elim
   · exact q.elim
theorem c0X(hu:X.A.units+8<cLine):b8c X (fun o i v H Q=>∃d1 d2 d3 ah m,Sim Γ ah m H/\Rp m H d1 o/\Rp m H d2 i/\Rp m H d3 v/\i9 Γ E m H (O5 ah d1 d2 d3) (fun _ _ _ H'=>Q H')):=by
 rintro pins s σ H o i v ov iv u Q I ro ri rv ⟨d1,d2,d3,ah,m,S,r1,r2,r3,q⟩;unfold O5 at q
 split at q
 · split at q
   · rename_i xs e
     split at q
     · rename_i k
       split at q
       · rename_i j e2;obtain⟨a,vs,rfl,hm,h1,q1⟩:=S.lst e r1;cases r2;refine b0r pins s σ H _ _ _ ov iv u Q I ro ri rv ⟨a,vs,_,j,rfl,rfl,h1,by rw[q1.len];exact e2,?_⟩
         have kp:Keep m m H (upd H a (.lst (vs.set j v))):=Keep.put hm h1 fun z=>z
         exact q m _ (Pre.refl m) kp (S.write hm h1 (fun z=>z) ⟨_,b9,(q1.set j r3).mono (Pre.refl m) kp⟩)
       · exact q.elim
     · exact q.elim
   · rename_i kvs e
     split at q
     · rename_i h;obtain⟨a,rfl,hm⟩:=r1
       cases (show ov=Value.ref a from ro)
       obtain⟨H',I',kp,S',hd⟩:=Q1 I S e h.1 hm
       have r3':=r3.mono (Pre.refl m) kp
       rcases hd with⟨ks,gs,hk,ha,dk⟩|⟨l,ks,gs,rfl,hk,ha,dt⟩
       · have kp2:Keep m m H' (upd H' a (.dK (M3 gs ks v))):=Keep.put hm ha fun z=>z
         refine a4k (v:=v) (H':=upd H' a (.dK (M3 gs ks v))) (hu1 hu) I' (.inl ⟨gs,ks,ha,W5 hk r2,by rw[←Paired.length dk,←O4];exact h.2,rfl⟩) ri rv fun s' I''=>⟨_,I'',?_⟩
         exact q m _ (Pre.refl m) (kp.trans kp2) (S'.write hm ha (fun z=>z) (.inl ⟨_,b9,(dk.put hk r3').mono (Pre.refl m) kp2.im⟩))
       · have kp2:Keep m m H' (upd H' a (.dT (M3 gs ks v))):=Keep.put hm ha fun z=>z
         obtain⟨b,vs,rfl,hb,rs⟩:=r2;have hv:=a3f hk rs;subst hv;refine a4k (v:=v) (H':=upd H' a (.dT (M3 gs ks v))) (hu1 hu) I' (.inr ⟨gs,ks,b,ha,rfl,kp.tup hb,by rw[←Paired.length dt,←O4];exact h.2,rfl⟩) ri rv fun s' I''=>⟨_,I'',?_⟩
         exact q m _ (Pre.refl m) (kp.trans kp2) (S'.write hm ha (fun z=>z) (.inr ⟨_,b9,(dt.put hk r3').mono (Pre.refl m) kp2.im⟩))
     · exact q.elim
   · exact q.elim
 · exact q.elim
theorem Fl.put{v:V}(r:Rp m H d v){fs:List (Str×D)}{gs:List (Str×V)}(h:Fl m H fs gs):Fl m H (a3T f d fs) (V6 f v gs):=by
 induction h with
 |nil=>exact .cons ⟨rfl,r⟩ .nil
 | @cons p q ps qs h t ih=>
  obtain⟨n,x⟩:=p;obtain⟨n',x'⟩:=q
  have e:n=n':=h.1
  subst e;unfold a3T V6
  split
  · exact .cons ⟨rfl,r⟩ t
  · exact .cons h ih
theorem Fl.look{fs:List (Str×D)}{gs:List (Str×V)}(h:Fl m H fs gs)(e:fs.lookup f=some d):∃v,gs.lookup f=some v/\Rp m H d v:=by
 induction h with
 |nil=>cases e
 | @cons p q ps qs h t ih=>
  obtain⟨n,x⟩:=p;obtain⟨n',x'⟩:=q
  have e1:n=n':=h.1
  subst e1;rw[lookup_cons] at e⊢
  cases z:f==n with
  |true=>rw[z] at e;cases e;exact⟨x',rfl,h.2⟩
  |false=>rw[z] at e;exact ih e
end
set_option genInjectivity false
mutual
inductive Pat where
  |nm (i:Nat)|tp (ps:Pats)
inductive Pats where
  |nil|cons (p:Pat) (r:Pats)
end
mutual
inductive E where
  |v (i:Nat)|k (d:D)|bin (o:B) (a b:E)|isN (a:E)|notN (a:E)|neg (a:E)|nt (a:E)|an (a b:E)|orr (a b:E)|chn (o p:B) (a b c:E)
  |ix (a b:E)|sl (a:E) (lo hi:O)|fld (a:E) (f:Str)|lst (es:Es)|tup (es:Es)|dnew|call (f:Nat) (es:Es)|mk (c:Nat) (es:Es)|bi (b:Bi) (es:Es)|mt (b:Mt) (o:E) (es:Es)
  |comp (p:Pat) (it:I) (n:Nat) (fr:List Nat) (t:T) (e:E)|gin (neg:Bool) (a:E) (ds:List D)|gdin (neg:Bool) (a:E) (kvs:List (D×D))|gdix (a:E) (kvs:List (D×D))|dlit (kvs:List (D×D))|dget (a k x:E)|rvs (a:E)|trng (a b:E)|ife (t:T) (a b:E)|rev (a:E)
inductive Es where
  |nil|cons (e:E) (r:Es)
inductive T where
  |yes|val (e:E)|cmp (o:B) (a b:E)|isN (a:E)|notN (a:E)|chn (o p:B) (a b c:E)|an (a b:T)|orr (a b:T)|nt (a:T)
inductive O where
  |no|at(e:E)
inductive I where
  |seq (e:E)|rng1 (a:E)|gsq (ds:List D)|rng2 (a b:E)|enum (e:E)|zip (a b:E)
end
mutual
inductive S where
  |set (i:Nat) (e:E)|ex (e:E)|ret (e:E)|iff (t:T) (a b:Ss)|for (p:Pat) (it:I) (b:Ss)|whl (t:T) (b:Ss)|bad|six (a i v:E)|sfl (a:E) (f:Str) (v:E)
inductive Ss where
  |nil|cons (s:S) (r:Ss)
end
set_option genInjectivity true
inductive Out where
 |nx (env:t9)|rt (d:D)
abbrev CF:=Nat->List D->AH->R D
structure CT where
 init:Nat->Nat
mutual
def J2:Pat->D->t9->Option t9
  |.nm i,d,env=>some (env.set i (some d))
  | .tp ps,d,env=>match d with
    |.tup ds=>M8 ps ds env
    |_=>none
def M8:Pats->List D->t9->Option t9
  | .nil,ds,env=>match ds with
    |[]=>some env
    |_::_=>none
  | .cons p r,ds,env=>match ds with
    |[]=>none
    | d::t=>match J2 p d env with
      |some env'=>M8 r t env'
      |none=>none
end
noncomputable def gOk(g:List (Nat×Cell))(h:AH):Bool:=g.all fun p=>decide (h[p.1]? =some p.2)
noncomputable def asB(r:R D):R Bool:=r.bind fun d h=>match d with
 |.bl b=>.ok b h
 |_=>.no
def Z0(g:List (Nat×Cell))(p:Pat)(body:t9->AH->R Out):List D->t9->AH->R Out
 |[],env,h=>if gOk g h=true then .ok (.nx env) h else .no
 | x::r,env,h=>if gOk g h=true then(match J2 p x env with
  |none=>.no
  |some env'=>(body env' h).bind fun o h'=>match o with
   |.nx env''=>Z0 g p body r env'' h'
   |.rt d=>.ok (.rt d) h') else .no
def T2(g:List (Nat×Cell))(p:Pat)(t:t9->AH->R Bool)(elt:t9->AH->R D)(env0:t9):List D->List D->AH->R (List D)
 |[],acc,h=>if gOk g h=true then .ok acc h else .no
 | x::r,acc,h=>if gOk g h=true then(match J2 p x env0 with
  |none=>.no
  |some env=>(t env h).bind fun b h1=>if b=true then((elt env h1).bind fun d h2=>if acc.length<SL then T2 g p t elt env0 r (acc++[d]) h2 else .no)
   else T2 g p t elt env0 r acc h1) else .no
def a4v:Nat:=1000000
noncomputable def a2D(t:t9->AH->R Bool)(body:t9->AH->R Out):Nat->t9->AH->R Out
 |0,_,_=>.no
 |n+1,env,h=>(t env h).bind fun b h1=>if b=true then((body env h1).bind fun o h'=>match o with
  |.nx env''=>a2D t body n env'' h'
  |.rt d=>.ok (.rt d) h') else .ok (.nx env) h1
noncomputable def y0:Nat->List D->List D
 |_,[]=>[]
 |n,x::r=>.tup [.int n,x]::y0 (n+1) r
noncomputable def Y1(x:Str):List D:=x.cps.toList.map fun c=>.str ⟨#[c]⟩
noncomputable def L8(lo:Int)(n:Nat):List D:=(List.range n).map fun i=>.int (lo+(i:Nat))
abbrev Its:=List D×List (Nat×Cell)
def V5(h:AH):D->R Its
 |.str x=>.ok (Y1 x,[]) h
 |.tup l=>.ok (l,[]) h
 |.ref n=>match h[n]? with
  |some (.lst l)=>.ok (l,[(n,.lst l)]) h
  |some (.rol l)=>.ok (l,[(n,.rol l)]) h
  |_=>.no
 |_=>.no
def a6Y(h:AH):D->D->R Its
 |.int i,.int j=>if Z5 i=true/\Z5 j=true then .ok (L8 i (j-i).toNat,[]) h else .no
 |_,_=>.no
def Y7(h:AH):D->R Its
 |.ref n=>match h[n]? with
  |some (.lst l)=>.ok (y0 0 l,[(n,.lst l)]) h
  |some (.rol l)=>.ok (y0 0 l,[(n,.rol l)]) h
  |_=>.no
 |_=>.no
noncomputable def a6m(h:AH)(n:Nat):Option (List D×Cell):=match h[n]? with
 |some (.lst l)=>some (l,.lst l)
 |some (.rol l)=>some (l,.rol l)
 |_=>none
noncomputable def a1i:List D->List D->List D
 |x::xs,y::ys=>.tup [x,y]::a1i xs ys
 |_,_=>[]
def b2T(h:AH):D->D->R Its
 |.ref i,.ref j=>match a6m h i,a6m h j with
  |some a,some b=>.ok (a1i a.1 b.1,[(i,a.2),(j,b.2)]) h
  |_,_=>.no
 |_,_=>.no
def a5J(h:AH):D->D->R D
 |.int i,.int j=>if(Z5 i=true/\Z5 j=true)/\(j-i).toNat<=16777216 then .ok (.tup (L8 i (j-i).toNat)) h else .no
 |_,_=>.no
def b0F(h:AH):D->R D
 |.ref n=>match h[n]? with
  |some (.lst xs)=>o9 (.lst xs.reverse) h
  |_=>.no
 |_=>.no
noncomputable def B0(n:Nat)(fr:List Nat)(env:t9):t9:=List.replicate n none++fr.map fun j=>(env[j]?).join
noncomputable def a8n(r:R D):R (Option Int):=r.bind fun d h=>match d with
 |.int i=>.ok (some i) h
 |_=>.no
section
variable(ct:CT)(c:CF)
mutual
def ev:E->t9->AH->R D
  | .v i,env,h=>match env[i]? with
    |some (some d)=>.ok d h
    |_=>.no
  |.k d,_,h=>.ok d h
  |.bin o a b,env,h=>(ev a env h).bind fun x h1=>(ev b env h1).bind fun y h2=>op2 o h2 x y
  |.isN a,env,h=>(ev a env h).bind fun x h1=>.ok (.bl (decide (x=.non))) h1
  |.notN a,env,h=>(ev a env h).bind fun x h1=>.ok (.bl (!decide (x=.non))) h1
  | .neg a,env,h=>(ev a env h).bind fun x h1=>match x with
    |.int i=>.ok (.int (-i)) h1
    |_=>.no
  |.nt a,env,h=>(asB (ev a env h)).bind fun b h1=>.ok (.bl (!b)) h1
  |.an a b,env,h=>(asB (ev a env h)).bind fun x h1=>if x=true then ev b env h1 else .ok (.bl false) h1
  |.orr a b,env,h=>(asB (ev a env h)).bind fun x h1=>if x=true then .ok (.bl true) h1 else ev b env h1
  |.chn o p a b e,env,h=>(ev a env h).bind fun x h1=>(ev b env h1).bind fun y h2=>(asB (op2 o h2 x y)).bind fun k h3=>if k=true then(ev e env h3).bind fun z h4=>op2 p h4 y z else .ok (.bl false) h3
  |.ix a b,env,h=>(ev a env h).bind fun x h1=>(ev b env h1).bind fun y h2=>ixD h2 x y
  |.sl a lo hi,env,h=>(ev a env h).bind fun x h1=>(evo lo env h1).bind fun l h2=>(evo hi env h2).bind fun u h3=>slD h3 l u x
  |.fld a f,env,h=>(ev a env h).bind fun x h1=>a0j h1 f x
  |.lst es,env,h=>(evs es env h).bind fun ds h1=>if ds.length<=SL then o9 (.lst ds) h1 else .no
  |.tup es,env,h=>(evs es env h).bind fun ds h1=>if ds.length<=SL then .ok (.tup ds) h1 else .no
  |.dnew,_,h=>o9 (.dict []) h
  |.call f es,env,h=>(evs es env h).bind fun ds h1=>c f ds h1
  | .mk k es,env,h=>(evs es env h).bind fun ds h1=>(c (ct.init k) (.ref h1.length::ds) (h1++[.obj k []])).bind fun r h2=>match r with
    |.non=>.ok (.ref h1.length) h2
    |_=>.no
  |.bi b es,env,h=>(evs es env h).bind fun ds h1=>biD b h1 ds
  |.mt b o es,env,h=>(ev o env h).bind fun x h1=>if mtT b h1 x=true then(evs es env h1).bind fun ds h2=>mtD b h2 x ds else .no
  |.comp p it n fr t e,env,h=>(evi it env h).bind fun x h1=>(T2 x.2 p (tst t) (ev e) (B0 n fr env) x.1 [] h1).bind fun ds h2=>o9 (.lst ds) h2
  |.gin neg a ds,env,h=>(ev a env h).bind fun x h1=>if B7 x=true/\ds.all B7=true then .ok (.bl (inD x ds !=neg)) h1 else .no
  |.gdin neg a kvs,env,h=>(ev a env h).bind fun x h1=>if(G2 x).isSome=true then .ok (.bl ((n9 kvs x).isSome !=neg)) h1 else .no
  | .gdix a kvs,env,h=>(ev a env h).bind fun x h1=>if(G2 x).isSome=true then(match n9 kvs x with
    |some d=>.ok d h1
    |none=>.no) else .no
  |.dlit kvs,_,h=>o9 (.dict kvs) h
  |.dget a k x,env,h=>(ev a env h).bind fun o h1=>if b1I h1 o=true then(ev k env h1).bind fun y h2=>(ev x env h2).bind fun z h3=>a6x h3 o y z else .no
  |.trng a b,env,h=>(ev a env h).bind fun x h1=>(ev b env h1).bind fun y h2=>a5J h2 x y
  |.ife t a b,env,h=>(tst t env h).bind fun x h1=>if x=true then ev a env h1 else ev b env h1
  |.rev a,env,h=>(ev a env h).bind fun x h1=>b0F h1 x
  | .rvs a,env,h=>(ev a env h).bind fun x h1=>match x with
    | .ref n=>(match h1[n]? with
      |some (.lst l)=>.ok .non (h1.set n (.lst l.reverse))
      |_=>.no)
    |_=>.no
def evs:Es->t9->AH->R (List D)
  |.nil,_,h=>.ok [] h
  |.cons e r,env,h=>(ev e env h).bind fun d h1=>(evs r env h1).bind fun ds h2=>.ok (d::ds) h2
def tst:T->t9->AH->R Bool
  |.yes,_,h=>.ok true h
  |.val e,env,h=>asB (ev e env h)
  |.cmp o a b,env,h=>asB ((ev a env h).bind fun x h1=>(ev b env h1).bind fun y h2=>op2 o h2 x y)
  |.isN a,env,h=>(ev a env h).bind fun x h1=>.ok (decide (x=.non)) h1
  |.notN a,env,h=>(ev a env h).bind fun x h1=>.ok (!decide (x=.non)) h1
  |.chn o p a b e,env,h=>asB ((ev a env h).bind fun x h1=>(ev b env h1).bind fun y h2=>(asB (op2 o h2 x y)).bind fun k h3=>if k=true then(ev e env h3).bind fun z h4=>op2 p h4 y z else .ok (.bl false) h3)
  |.an a b,env,h=>(tst a env h).bind fun x h1=>if x=true then tst b env h1 else .ok false h1
  |.orr a b,env,h=>(tst a env h).bind fun x h1=>if x=true then .ok true h1 else tst b env h1
  |.nt a,env,h=>(tst a env h).bind fun x h1=>.ok (!x) h1
def evo:O->t9->AH->R (Option Int)
  |.no,_,h=>.ok none h
  |.at e,env,h=>a8n (ev e env h)
def evi:I->t9->AH->R Its
  |.seq e,env,h=>(ev e env h).bind fun d h1=>V5 h1 d
  |.gsq ds,_,h=>.ok (ds,[]) h
  |.rng1 a,env,h=>(ev a env h).bind fun d h1=>a6Y h1 (.int 0) d
  |.rng2 a b,env,h=>(ev a env h).bind fun x h1=>(ev b env h1).bind fun y h2=>a6Y h2 x y
  |.enum e,env,h=>(ev e env h).bind fun d h1=>Y7 h1 d
  |.zip a b,env,h=>(ev a env h).bind fun x h1=>(ev b env h1).bind fun y h2=>b2T h2 x y
end
mutual
def ex:S->t9->AH->R Out
  |.set i e,env,h=>(ev ct c e env h).bind fun d h1=>.ok (.nx (env.set i (some d))) h1
  |.ex e,env,h=>(ev ct c e env h).bind fun _ h1=>.ok (.nx env) h1
  |.ret e,env,h=>(ev ct c e env h).bind fun d h1=>.ok (.rt d) h1
  |.iff t a b,env,h=>(tst ct c t env h).bind fun x h1=>if x=true then exs a env h1 else exs b env h1
  |.for p it b,env,h=>(evi ct c it env h).bind fun x h1=>Z0 x.2 p (exs b) x.1 env h1
  |.whl t b,env,h=>a2D (tst ct c t) (exs b) a4v env h
  |.bad,_,_=>.no
  |.six a i v,env,h=>(ev ct c v env h).bind fun x h1=>(ev ct c a env h1).bind fun o h2=>(ev ct c i env h2).bind fun k h3=>(O5 h3 o k x).bind fun _ h4=>.ok (.nx env) h4
  |.sfl a f v,env,h=>(ev ct c v env h).bind fun x h1=>(ev ct c a env h1).bind fun o h2=>(a4E h2 o f x).bind fun _ h3=>.ok (.nx env) h3
def exs:Ss->t9->AH->R Out
  |.nil,env,h=>.ok (.nx env) h
  | .cons s r,env,h=>(ex s env h).bind fun o h1=>match o with
    |.nx env'=>exs r env' h1
    |.rt d=>.ok (.rt d) h1
end
end
structure Fn where
 np:Nat
 ns:Nat
 gc:Nat
 body:Ss
noncomputable def Cell.flat:Cell->Bool
 |.lst l=>D.flats l
 |.dict l=>l.all fun p=>p.1.flat&&p.2.flat
 |_=>false
def gcR (n:Nat) (h:AH):R D->R D
 | .ok d h'=>if n=0 then .ok d h' else if n=1 then(if h'.take h.length=h/\d.flat=true then .ok d h else .no)
  else(match d with
   |.ref k=>(match h'[k]? with
    |some c=>if h'.take h.length=h/\h.length<=k/\c.flat=true then .ok (.ref h.length) (h++[c]) else .no
    |none=>.no)
   |_=>.no)
 |.no=>.no
def b0(ct:CT)(F:Nat->Option Fn):Nat->CF
 |0=>fun _ _ _=>.no
 | k+1=>fun f ds h=>match F f with
  |none=>.no
  |some fd=>if ds.length=fd.np then gcR fd.gc h (match exs ct (b0 ct F k) fd.body (ds.map some++List.replicate (fd.ns-fd.np) none) h with
   |.ok (.nx _) h'=>.ok .non h'
   |.ok (.rt d) h'=>.ok d h'
   |.no=>.no) else .no
structure GT where
 fn:List (Str×Nat×Nat)
 scal:List (Str×D)
 tups:List (Str×List D)
 dicts:List (Str×List (D×D))
 obj:List (Str×Nat)
 atts:List Str
 blt:List Str
noncomputable def c0e:Operator->Option B
 |.Add=>some .add|.Sub=>some .sub|.Mult=>some .mul|.FloorDiv=>some .div|.Mod=>some .mod
 |_=>none
noncomputable def a7w:CmpOp->Option B
 |.Eq=>some .eq|.NotEq=>some .ne|.Lt=>some .lt|.LtE=>some .le|.Gt=>some .gt|.GtE=>some .ge|.In=>some .isin|.NotIn=>some .notin
 |_=>none
noncomputable def b1G(sc:Scope)(x:Str):Bool:=match sc.names.lookup x with
 |some .local=>true|some .cell=>true|some .free=>true
 |_=>false
noncomputable def J3(sc:Scope)(x:Str):Bool:=decide (sc.names.lookup x=some .globalImplicit)&&decide (x≠"__debug__")&&decide (x≠"__name__")
def slot(N:List Str)(sc:Scope)(x:Str):Option Nat:=if b1G sc x&&decide (x≠"__debug__")&&decide (x≠"__classdict__") then N.idxOf? x else none
noncomputable def b1H(dfn:Bool)(sc:Scope)(x:Str):Bool:=match sc.names.lookup x with
 |some .local=>true|some .cell=>dfn
 |_=>false
def a2N(dfn:Bool)(N:List Str)(sc:Scope)(x:Str):Option Nat:=if b1H dfn sc x then N.idxOf? x else none
noncomputable def b7G(x:Str):Option Bi:=if x="len" then some .len else if x="str" then some .str else if x="int" then some .int else if x="tuple" then some .tuple else if x="list" then some .list
 else if x="all" then some .all else if x="any" then some .any else if x="max" then some .max else if x="sum" then some .sum else if x="sorted" then some .sorted else if x="dict" then some .dict else none
noncomputable def b6B(x:Str):Option Mt:=if x="append" then some .append else if x="extend" then some .extend else if x="split" then some .split else if x="join" then some .join else if x="startswith" then some .starts else none
noncomputable def o5:Expr->Bool
 |.Starred _ _=>false
 |_=>true
noncomputable def V7:Expr->Bool
 |.Call (.Name _ _) [] [] _=>false
 |_=>true
noncomputable def a2y:Expr->Bool
 |.Slice .. =>false
 |_=>true
noncomputable def a1q:Expr->Bool
 |.Set .. =>false
 |_=>true
noncomputable def a7Y(sc scope:Scope):Scope:={scope with names:=scope.names.map fun(n,k)=>if(k==NameKind.free&&sc.kind==.function&&sc.names.lookup n==some .cell) then(n,NameKind.cell) else(n,k)}
noncomputable def b6b:Expr->Bool
 |.Name .. =>true|.Call .. =>true|.Subscript .. =>true|.Attribute .. =>true
 |_=>false
mutual
def a9Q (dfn:Bool) (N:List Str) (sc:Scope):Nat->Expr->Option Pat
  |0,_=>none
  | n+1,e=>match e with
    |.Name x _=>(a2N dfn N sc x).map .nm
    |.Tuple es _ _=>(a3r dfn N sc n es).map .tp
    |_=>none
def a3r (dfn:Bool) (N:List Str) (sc:Scope):Nat->List Expr->Option Pats
  |0,_=>none
  | n +1,es=>match es with
    |[]=>some .nil
    | e::r=>match a9Q dfn N sc n e,a3r dfn N sc n r with
      |some p,some ps=>some (.cons p ps)
      |_,_=>none
end
mutual
def J6:Pat->List Nat
  |.nm i=>[i]
  |.tp ps=>a0y ps
def a0y:Pats->List Nat
  |.nil=>[]
  |.cons p r=>J6 p++a0y r
end
mutual
def t7:Nat->Expr->List Str
  |0,_=>[]
  | n+1,e=>match e with
    |.Name x _=>[x]
    |.Tuple es _ _=>a3U n es
    |_=>[]
def a3U:Nat->List Expr->List Str
  |0,_=>[]
  | n+1,es=>match es with
    |[]=>[]
    |e::r=>t7 n e++a3U n r
end
noncomputable def C6(scope:Scope):List Str:=(scope.names.filter fun y=>decide (y.2=.free)).map (·.1)
noncomputable def b4n(N:List Str):List Str->Option (List Nat)
 |[]=>some []
 |x::r=>match N.idxOf? x,b4n N r with
  |some i,some is=>some (i::is)
  |_,_=>none
structure Rec where
 E:List Str->Scope->Expr->Option E
 Es:List Str->Scope->List Expr->Option Es
 T:List Str->Scope->Expr->Option T
 O:List Str->Scope->Option Expr->Option O
 I:List Str->Scope->Expr->Expr->Option I
noncomputable def b6V:Expr->Bool
 |.Constant k _ _=>(match k with
  |.none=>true
  |_=>false)
 |_=>false
noncomputable def a7d:CmpOp->Option Bool
 |.Is=>some true
 |.IsNot=>some false
 |_=>none
noncomputable def b8v:Expr->Option (Option Expr×Option Expr)
 |.Slice lo hi st _=>(match st with
  |none=>some (lo,hi)
  |some _=>none)
 |_=>none
noncomputable def b8A:Const->Option E
 |.int i=>some (.k (.int i))
 |.str x=>some (.k (.str x))
 |.bool b=>some (.k (.bl b))
 |.none=>some (.k .non)
 |_=>none
noncomputable def sUn(G:GT)(r:Rec)(N:List Str)(sc:Scope)(a:Expr):UnaryOp->Option E
 |.USub=>(r.E N sc a).map .neg
 |.Not=>(r.E N sc a).map .nt
 |_=>none
noncomputable def sBo (G : GT) (r:Rec) (N:List Str) (sc:Scope) (p:Pos) (op:BoolOp):List Expr->Option E
 |[]=>none
 | a :: t => match t with
   |[]=>r.E N sc a
   | b::l=>match op with
     |.And=>(match r.E N sc a,r.E N sc (.BoolOp .And (b::l) p) with
             |some x,some y=>some (.an x y)
             |_,_=>none)
     |.Or=>(match r.E N sc a,r.E N sc (.BoolOp .Or (b::l) p) with
             |some x,some y=>some (.orr x y)
             |_,_=>none)
def b8C (G:GT) (r:Rec) (N:List Str) (sc:Scope) (a:Expr) (op:CmpOp) (b:Expr):Option E:=
 if b6V b&&(a7d op).isSome then(match a7d op with
  |some true=>(r.E N sc a).map .isN
  |_=>(r.E N sc a).map .notN) else
 if a1q b then(match a7w op,r.E N sc a,r.E N sc b with
  |some o,some x,some y=>some (.bin o x y)
  | some o,some x,none=>(match b with
   |.Name y _=>if J3 sc y then(match op,G.tups.lookup y with
    |.In,some ds=>some (.gin false x ds)
    |.NotIn,some ds=>some (.gin true x ds)
    |.In,none=>(G.dicts.lookup y).map (.gdin false x)
    |.NotIn,none=>(G.dicts.lookup y).map (.gdin true x)
    |_,_=>none) else none
   |_=>none)
  |_,_,_=>none) else none
def b8B(G:GT)(r:Rec)(N:List Str)(sc:Scope)(a:Expr)(op op':CmpOp)(b d:Expr):Option E:=if a1q d then(match a7w op,a7w op',r.E N sc a,r.E N sc b,r.E N sc d with
 |some o,some p,some x,some y,some z=>some (.chn o p x y z)
 |_,_,_,_,_=>none) else none
def sSl (G:GT) (r:Rec) (N:List Str) (sc:Scope) (a b:Expr):Option E:=match b8v b with
 | some (lo,hi)=>(match r.E N sc a,r.O N sc lo,r.O N sc hi with
         |some x,some l,some u=>some (.sl x l u)
         |_,_,_=>none)
 |none=>if a2y b then(match r.E N sc a,r.E N sc b with
     |some x,some y=>some (.ix x y)
     | none,some y=>(match a with
       |.Name z _=>if J3 sc z then(G.dicts.lookup z).map (.gdix y) else none
       |_=>none)
     |_,_=>none) else none
noncomputable def b7y:Expr->Option Str
 |.Constant k _ _=>(match k with
  |.str x=>some x
  |_=>none)
 |_=>none
noncomputable def b7z:Expr->Option Int
 |.Constant k _ _=>(match k with
  |.int i=>some i
  |_=>none)
 |_=>none
def a9J:List (Option Expr)->List Expr->Option (List (D×D))
 |[],vs=>if vs.isEmpty then some [] else none
 | k::ks,vs=>(match vs with
  |[]=>none
  |v::r=>(match k.bind b7y,b7z v,a9J ks r with
   |some x,some i,some l=>some ((.str x,.int i)::l)
   |_,_,_=>none))
noncomputable def a4S:List D->Bool
 |[]=>true
 |d::r=>!(r.any fun e=>decide (e=d))&&a4S r
def b7v(kvs:List (D×D)):Bool:=decide (kvs.length<=15)&&a4S (kvs.map (·.1))
noncomputable def b2Y:List Expr->Option (Expr×Expr)
 |[]=>none
 |a::r=>(match r with
  |[]=>none
  |b::q=>if q.isEmpty then some (a,b) else none)
noncomputable def b1m:List Expr->Option Expr
 |[]=>none
 |a::r=>if r.isEmpty then some a else none
noncomputable def b4a:Expr->Option Str
 |.Name x _=>some x
 |_=>none
def b0z(as:List Expr):Option (Expr×Expr):=match b1m as with
 |some e=>(match e with
  |.Call f bs ks _=>if ks.isEmpty&&decide (b4a f=some "range") then b2Y bs else none
  |_=>none)
 |none=>none
def b0E(as:List Expr):Option Expr:=match b1m as with
 |some e=>(match e with
  |.Call f bs ks _=>if ks.isEmpty&&decide (b4a f=some "reversed") then b1m bs else none
  |_=>none)
 |none=>none
def sCn (G:GT) (r:Rec) (N:List Str) (sc:Scope) (x:Str) (as:List Expr):Option E:=if J3 sc x then(match G.fn.lookup x with
 |some (f,np)=>if as.length=np&&decide (as≠[]) then(r.Es N sc as).map (.call f) else none
 | none=>match G.obj.lookup x with
  |some k=>if as=[] then some (.mk k .nil) else none
  | none=>if G.blt.contains x then(match(if decide (x="tuple")&&J3 sc "range"&&G.blt.contains "range" then b0z as else none) with
   |some (a,b)=>if o5 a&&o5 b then(match r.E N sc a,r.E N sc b with
    |some y,some z=>some (.trng y z)
    |_,_=>none) else none
   |none=>match(if decide (x="list")&&J3 sc "reversed"&&G.blt.contains "reversed" then b0E as else none) with
   |some a=>if o5 a then(r.E N sc a).map .rev else none
   |none=>match b7G x with
   |some b=>if as≠[] then(r.Es N sc as).map (.bi b) else none
   |none=>none) else none) else none
def b8z(G:GT)(r:Rec)(N:List Str)(sc:Scope)(o:Expr)(as:List Expr):Option E:=match b2Y as with
 |some (a,b)=>if o5 a&&o5 b then(match r.E N sc o,r.E N sc a,r.E N sc b with
  |some x,some y,some z=>some (.dget x y z)
  |_,_,_=>none) else none
 |none=>none
def sCa(G:GT)(r:Rec)(N:List Str)(sc:Scope)(o:Expr)(m:Str)(apos:Pos)(as:List Expr)(cpos:Pos):Option E:=if V7 o&&(apos.endLine==cpos.line)&&decide (m="get") then b8z G r N sc o as else if V7 o&&(apos.endLine==cpos.line)&&decide (m="reverse") then(if as.isEmpty then(r.E N sc o).map .rvs else none) else if V7 o&&(apos.endLine==cpos.line)&&decide (as.length<20)&&decide (as≠[]) then(match b6B m,r.E N sc o,r.Es N sc as with
 |some b,some x,some xs=>some (.mt b x xs)
 |_,_,_=>none) else none
def sLc (G:GT) (r:Rec) (N:List Str) (sc:Scope) (elt tg iter:Expr) (ifs:List Expr) (scope:Scope):Option E:=match r.I N sc tg iter with
 | some it=>match b4n N (C6 scope) with
  | some js=>if b7A sc scope (t7 8 tg) (C6 scope)&&a1q iter then(match a9Q false (t7 8 tg++C6 scope) (a7Y sc scope) 8 tg,r.E (t7 8 tg++C6 scope) (a7Y sc scope) elt with
   |some p,some x=>if(J6 p).all (fun i=>decide (i<(t7 8 tg).length)) then(match ifs with
    |[]=>some (.comp p it (t7 8 tg).length js .yes x)
    |[t]=>(r.T (t7 8 tg++C6 scope) (a7Y sc scope) t).map fun z=>.comp p it (t7 8 tg).length js z x
    |_=>none) else none
   |_,_=>none) else none
  |none=>none
 |none=>none
def sE (G:GT) (r:Rec) (N:List Str) (sc:Scope) (e:Expr):Option E:=match e with
 |.Constant k _ _=>b8A k
 |.Name x _=>match slot N sc x with
  |some i=>some (.v i)
  |none=>if J3 sc x then(G.scal.lookup x).map .k else none
 |.BinOp a op b _=>match c0e op,r.E N sc a,r.E N sc b with
  |some o,some x,some y=>some (.bin o x y)
  |_,_,_=>none
 |.UnaryOp op a _=>sUn G r N sc a op
 |.BoolOp op l p=>sBo G r N sc p op l
 | .Compare a ops bs _=>(match ops with
  |[]=>none
  | op::t=>(match bs with
   |[]=>none
   | b::u=>(match t with
    |[]=>(match u with
     |[]=>b8C G r N sc a op b
     |_::_=>none)
    |op'::t'=>(match u with
     |[]=>none
     |d::u'=>if t'.isEmpty&&u'.isEmpty then b8B G r N sc a op op' b d else none))))
 |.Subscript a b _=>sSl G r N sc a b
 |.IfExp t a b _=>(match r.T N sc t,r.E N sc a,r.E N sc b with
  |some z,some x,some y=>some (.ife z x y)
  |_,_,_=>none)
 |.Attribute a f _=>if V7 a&&G.atts.contains f then(r.E N sc a).map (.fld · f) else none
 |.List es _=>(r.Es N sc es).map .lst
 |.Tuple es _ _=>(r.Es N sc es).map .tup
 | .Dict ks vs _=>(match ks with
  |[]=>(match vs with
   |[]=>some .dnew
   |_::_=>none)
  |_::_=>(a9J ks vs).bind fun kvs=>if b7v kvs then some (.dlit kvs) else none)
 |.Call f as ks cpos=>if ks.isEmpty then(match f with
  |.Name x _=>sCn G r N sc x as
  |.Attribute o m apos=>sCa G r N sc o m apos as cpos
  |_=>none) else none
 |.ListComp elt gens scope _=>(match gens with
  |[]=>none
  |g::t=>if t.isEmpty&&decide (g.is_async=0) then sLc G r N sc elt g.target g.iter g.ifs scope else none)
 |_=>none
def sEs(G:GT)(r:Rec)(N:List Str)(sc:Scope)(es:List Expr):Option Es:=match es with
 |[]=>some .nil
 |e::l=>if o5 e then(match r.E N sc e,r.Es N sc l with
  |some x,some xs=>some (.cons x xs)
  |_,_=>none) else none
def sTd(G:GT)(r:Rec)(N:List Str)(sc:Scope)(e:Expr):Option T:=if b6b e then(r.E N sc e).map .val else none
def b8x (G:GT) (r:Rec) (N:List Str) (sc:Scope) (a:Expr) (op:CmpOp) (b:Expr):Option T:=
 if b6V b&&(a7d op).isSome then(match a7d op with
  |some true=>(r.E N sc a).map .isN
  |_=>(r.E N sc a).map .notN) else
 if a1q b then(match a7w op,r.E N sc a,r.E N sc b with
  |some o,some x,some y=>some (.cmp o x y)
  | some o,some x,none=>(match b with
   |.Name y _=>if J3 sc y then(match op,G.tups.lookup y with
    |.In,some ds=>some (.val (.gin false x ds))
    |.NotIn,some ds=>some (.val (.gin true x ds))
    |.In,none=>(G.dicts.lookup y).map fun kvs=>.val (.gdin false x kvs)
    |.NotIn,none=>(G.dicts.lookup y).map fun kvs=>.val (.gdin true x kvs)
    |_,_=>none) else none
   |_=>none)
  |_,_,_=>none) else none
def b8w(G:GT)(r:Rec)(N:List Str)(sc:Scope)(a:Expr)(op op':CmpOp)(b d:Expr):Option T:=if a1q d then(match a7w op,a7w op',r.E N sc a,r.E N sc b,r.E N sc d with
 |some o,some p,some x,some y,some z=>some (.chn o p x y z)
 |_,_,_,_,_=>none) else none
def sT (G:GT) (r:Rec) (N:List Str) (sc:Scope) (e:Expr):Option T:=match e with
 |.UnaryOp op a p=>(match op with
  |.Not=>(r.T N sc a).map .nt
  |op=>sTd G r N sc (.UnaryOp op a p))
 | .BoolOp op l p=>(match l with
  |[]=>sTd G r N sc (.BoolOp op [] p)
  | a::t=>(match t with
   |[]=>r.T N sc a
   | b::l=>(match op with
    |.And=>(match r.T N sc a,r.T N sc (.BoolOp .And (b::l) p) with
     |some x,some y=>some (.an x y)
     |_,_=>none)
    |.Or=>(match r.T N sc a,r.T N sc (.BoolOp .Or (b::l) p) with
     |some x,some y=>some (.orr x y)
     |_,_=>none))))
 | .Compare a ops bs p=>(match ops with
  |[]=>none
  | op::t=>(match bs with
   |[]=>none
   | b::u=>(match t with
    |[]=>(match u with
     |[]=>b8x G r N sc a op b
     |_::_=>none)
    |op'::t'=>(match u with
     |[]=>none
     |d::u'=>if t'.isEmpty&&u'.isEmpty then b8w G r N sc a op op' b d else none))))
 |e=>sTd G r N sc e
noncomputable def sO(G:GT)(r:Rec)(N:List Str)(sc:Scope)(o:Option Expr):Option O:=match o with
 |none=>some .no
 |some e=>(r.E N sc e).map .at
def sI (G:GT) (r:Rec) (N:List Str) (sc:Scope) (tg e:Expr):Option I:=match e with
 | .Call (.Name x p) as [] q=>if J3 sc x&&G.blt.contains x&&decide (x="range") then(match as with
  |[a]=>if o5 a then(r.E N sc a).map .rng1 else none
  |[a,b]=>if o5 a&&o5 b then(match r.E N sc a,r.E N sc b with
   |some u,some v=>some (.rng2 u v)
   |_,_=>none) else none
  |_=>none)
  else if J3 sc x&&G.blt.contains x&&decide (x="enumerate") then(match as,tg with
   |[a],.Tuple _ _ _=>if o5 a then(r.E N sc a).map .enum else none
   |_,_=>none)
  else if J3 sc x&&G.blt.contains x&&decide (x="zip") then(match as,tg with
   |[a,b],.Tuple _ _ _=>if o5 a&&o5 b then(match r.E N sc a,r.E N sc b with
    |some u,some v=>some (.zip u v)
    |_,_=>none) else none
   |_,_=>none)
  else(r.E N sc (.Call (.Name x p) as [] q)).map .seq
 |.Name x p=>(match(if J3 sc x then G.tups.lookup x else none) with
  |some ds=>some (.gsq ds)
  |none=>(r.E N sc (.Name x p)).map .seq)
 |e=>(r.E N sc e).map .seq
def cR(G:GT):Nat->Rec
 |0=>⟨fun _ _ _=>none,fun _ _ _=>none,fun _ _ _=>none,fun _ _ _=>none,fun _ _ _ _=>none⟩
 |n+1=>⟨sE G (cR G n),sEs G (cR G n),sT G (cR G n),sO G (cR G n),sI G (cR G n)⟩
abbrev cE(G:GT)(N:List Str)(sc:Scope)(n:Nat)(e:Expr):Option E:=(cR G n).E N sc e
abbrev cEs(G:GT)(N:List Str)(sc:Scope)(n:Nat)(es:List Expr):Option Es:=(cR G n).Es N sc es
abbrev cT(G:GT)(N:List Str)(sc:Scope)(n:Nat)(e:Expr):Option T:=(cR G n).T N sc e
abbrev cO(G:GT)(N:List Str)(sc:Scope)(n:Nat)(o:Option Expr):Option O:=(cR G n).O N sc o
abbrev cI(G:GT)(N:List Str)(sc:Scope)(n:Nat)(tg e:Expr):Option I:=(cR G n).I N sc tg e
noncomputable def T8(e:Expr):Bool:=match e with
 |.ListComp .. =>false|.SetComp .. =>false|.DictComp .. =>false
 |_=>true
noncomputable def b9e(e:Expr):Bool:=match e with
 |.ListComp .. =>true
 |_=>false
def sAs (G:GT) (N:List Str) (sc:Scope) (e:Expr):Expr->Option S
 | .Name x _=>(match a2N true N sc x,cE G N sc 40 e with
         |some i,some y=>if T8 e||b9e e then some (.set i y) else none
         |_,_=>none)
 |.Subscript a i _=>(match cE G N sc 40 a,cE G N sc 40 i,cE G N sc 40 e with
         |some x,some k,some y=>if T8 e&&a2y i then some (.six x k y) else none
         |_,_,_=>none)
 |.Attribute a f _=>(match cE G N sc 40 a,cE G N sc 40 e with
         |some x,some y=>if T8 e&&G.atts.contains f then some (.sfl x f y) else none
         |_,_=>none)
 |_=>none
def sS(G:GT)(N:List Str)(sc:Scope)(r:List Stmt->Option Ss)(s:Stmt):Option S:=match s with
 |.Assign tgs e _=>(match tgs with
  |[]=>none
  |t::u=>if u.isEmpty then sAs G N sc e t else none)
 |.Expr e _=>if T8 e then(cE G N sc 40 e).map .ex else none
 |.Return o _=>(match o with
  |some e=>(cE G N sc 40 e).map .ret
  |none=>none)
 |.If t a b _=>match cT G N sc 40 t,r a,r b with
  |some z,some x,some y=>some (.iff z x y)
  |_,_,_=>none
 |.For tg it b els _=>if els.isEmpty then(match a9Q true N sc 8 tg,cI G N sc 40 tg it,r b with
  |some p,some i,some y=>if a1q it then some (.for p i y) else none
  |_,_,_=>none) else none
 |.While t b els _=>if els.isEmpty then(match cT G N sc 40 t,r b with
  |some z,some y=>some (.whl z y)
  |_,_=>none) else none
 |.Raise _ _ _=>some .bad
 |_=>none
def sSs(G:GT)(N:List Str)(sc:Scope)(r:List Stmt->Option Ss):List Stmt->Option Ss
 |[]=>some .nil
 |s::l=>match sS G N sc r s,sSs G N sc r l with
  |some x,some y=>some (.cons x y)
  |_,_=>none
def cSs(G:GT)(N:List Str)(sc:Scope):Nat->List Stmt->Option Ss
 |0=>fun _=>none
 |n+1=>sSs G N sc (cSs G N sc n)
noncomputable def TEv(Γ:Gm)(E:XK)(f:t9->AH->R D):TE:=fun σ H Q=>∃env ah m,Rel Γ env ah σ H m/\d9 Γ E m H (f env ah) Q
noncomputable def TAv(Γ:Gm)(E:XK)(f:t9->AH->R (List D)):TA:=fun σ H Q=>∃env ah m,Rel Γ env ah σ H m/\i9 Γ E m H (f env ah) (fun ds _ m1 H1=>∀vs,Rps m1 H1 ds vs->Q vs H1)
noncomputable def TTv(Γ:Gm)(E:XK)(f:t9->AH->R Bool):TT:=fun σ H Q=>∃env ah m,Rel Γ env ah σ H m/\i9 Γ E m H (f env ah) (fun b _ _ H1=>Q b H1)
noncomputable def TOv(Γ:Gm)(E:XK)(f:t9->AH->R (Option Int)):TO:=fun σ H Q=>∃env ah m,Rel Γ env ah σ H m/\i9 Γ E m H (f env ah) (fun b _ _ H1=>Q b H1)
variable{t':TE}{es:List Expr}{st:Stmt}{Q':VK}{x:Str}
section
variable{X:Cx}{E:XK}{e a b d:Expr}{pos:Pos}
theorem PE.imp{t:TE}(h:PE X e t)(i:∀σ H Q,t' σ H Q->t σ H Q):PE X e t':=fun pins s σ H Q I q=>h pins s σ H Q I (i _ _ _ q)
theorem PT.imp{t t':TT}(h:PT X e t)(i:∀σ H Q,t' σ H Q->t σ H Q):PT X e t':=fun pins s σ H Q I q=>h pins s σ H Q I (i _ _ _ q)
theorem PW.imp{t t':TT}(h:PW X e t)(i:∀σ H Q,t' σ H Q->t σ H Q):PW X e t':=fun w pins s σ H Q I q=>h w pins s σ H Q I (i _ _ _ q)
theorem PA.imp{t t':TA}(h:PA X es t)(i:∀σ H Q,t' σ H Q->t σ H Q):PA X es t':=fun p pins s σ H Q I q=>h p pins s σ H Q I (i _ _ _ q)
theorem PO.imp{e:Option Expr}{t t':TO}(h:PO X e t)(i:∀σ H Q,t' σ H Q->t σ H Q):PO X e t':=fun pins s σ H Q I q=>h pins s σ H Q I (i _ _ _ q)
theorem PS.imp{t t':TS}(h:PS X st t)(i:∀D σ H,t' D σ H->t D σ H):PS X st t':=fun pins s σ H D I q=>h pins s σ H D I (i _ _ _ q)
theorem PSs.imp{st:List Stmt}{t t':TS}(h:PSs X st t)(i:∀D σ H,t' D σ H->t D σ H):PSs X st t':=fun pins s σ H D I q=>h pins s σ H D I (i _ _ _ q)
theorem Rel.on{ah1:AH}(r:Rel Γ env ah σ H m)(p:Pre m m1)(k:Keep m m1 H H1)(s:Sim Γ ah1 m1 H1):Rel Γ env ah1 σ H1 m1:=⟨s,r.env.mono p k⟩
theorem d9.first{f:D->AH->R D}(rl:Rel Γ env ah σ H m)(h:d9 Γ E m H (r.bind f) Q)
 (k:∀d ah1 m1 H1 v,Pre m m1->Keep m m1 H H1->Rel Γ env ah1 σ H1 m1->Rp m1 H1 d v->d9 Γ E m1 H1 (f d ah1) Q->Q' v H1):d9 Γ E m H r Q':=
 h.bind.val fun d ah1 m1 H1 v p kp s r q=>k d ah1 m1 H1 v p kp (rl.on p kp s) r q
theorem i9.first{f:D->AH->R β}{P:β->AH->List Addr->Hp->Prop}(rl:Rel Γ env ah σ H m)(h:i9 Γ E m H (r.bind f) P)
 (k:∀d ah1 m1 H1 v,Pre m m1->Keep m m1 H H1->Rel Γ env ah1 σ H1 m1->Rp m1 H1 d v->i9 Γ E m1 H1 (f d ah1) P->Q' v H1):d9 Γ E m H r Q':=
 h.bind.val fun d ah1 m1 H1 v p kp s r q=>k d ah1 m1 H1 v p kp (rl.on p kp s) r q
theorem i9.mp{r:R α}{P P':α->AH->List Addr->Hp->Prop}(h:i9 Γ E m H r P)(k:∀a ah1 m1 H1,Pre m m1->Keep m m1 H H1->Sim Γ ah1 m1 H1->P a ah1 m1 H1->P' a ah1 m1 H1):i9 Γ E m H r P':=by
 cases r with
 |ok d ah=>exact fun m2 H2 p2 k2 s2=>k d ah m2 H2 p2 k2 s2 (h m2 H2 p2 k2 s2)
 |no=>exact h
theorem d9.mp(h:d9 Γ E m H r Q)(k:∀v H',Q v H'->Q' v H'):d9 Γ E m H r Q':=by
 cases r with
 |ok d ah=>exact fun m2 H2 v p2 k2 s2 r2=>k v H2 (h m2 H2 v p2 k2 s2 r2)
 |no=>exact h
theorem i9.ok{a:α}{P:α->AH->List Addr->Hp->Prop}(h:i9 Γ E m H (.ok a ah) P)(s:Sim Γ ah m H):P a ah m H:=h m H (Pre.refl m) (Keep.refl m H) s
theorem i9.bool{P:Bool->AH->List Addr->Hp->Prop}(h:i9 Γ E m H (asB r) P):d9 Γ E m H r (fun x H1=>∃k,x=.bl k/\∃ah1 m1,Pre m m1/\Keep m m1 H H1/\Sim Γ ah1 m1 H1/\P k ah1 m1 H1):=by
 unfold asB at h;refine h.bind.val fun d ah1 m1 H1 v p kp s r q=>?_
 cases d<;>first|exact q.elim|skip
 rename_i k;exact⟨k,r,ah1,m1,p,kp,s,q.ok s⟩
theorem a_v(hN:X.N[i]? =some x)(hv:Vis X.env.scope x)(hd:(x==("__debug__":Str))=false)(hcd:(x==("__classdict__":Str))=false)(c:CF)(ct:CT):PE X (.Name x pos) (TEv Γ E (ev ct c (.v i))):=by
 refine PE.imp (b0Y hN hv hd hcd) ?_
 rintro σ H Q ⟨env,ah,m,rl,q⟩;unfold ev at q
 split at q
 · rename_i d e;obtain⟨v,h1,h2⟩:=rl.env.val i d e;exact⟨v,h1,q.ok rl.sim h2⟩
 · exact q.elim
theorem a_k{dd:D}{v:V}(h:PE X e (tC v))(hr:∀m H,Rp m H dd v)(c:CF)(ct:CT):PE X e (TEv Γ E (ev ct c (.k dd))):=by
 refine PE.imp h ?_
 rintro σ H Q ⟨env,ah,m,rl,q⟩;unfold ev at q;exact q.ok rl.sim (hr m H)
end
variable{op':CmpOp}{p2:Pos}
section
variable{X:Cx}{Ex:XK}{e a b d:Expr}{pos:Pos}{ct:CT}{c:CF}{x y z:E}
theorem two{r:R2}{g:AH->D->D->R D}(ha:PE X a (TEv Γ Ex (ev ct c x)))(hb:PE X b (TEv Γ Ex (ev ct c y))):∀σ H Q,TEv Γ Ex (fun env h=>(ev ct c x env h).bind fun u h1=>(ev ct c y env h1).bind fun v h2=>g h2 u v) σ H Q→
 tOp (rOf Γ Ex g) (TEv Γ Ex (ev ct c x)) (TEv Γ Ex (ev ct c y)) σ H Q:=by
 rintro σ H Q ⟨env,ah,m,rl,q⟩;refine⟨env,ah,m,rl,d9.first rl q fun d1 ah1 m1 H1 v1 p1 k1 rl1 r1 q1=>?_⟩
 refine⟨env,ah1,m1,rl1,d9.first rl1 q1 fun d2 ah2 m2 H2 v2 p2 k2 rl2 r2 q2=>?_⟩
 exact⟨d1,d2,ah2,m2,rl2.sim,r1.mono p2 k2,r2,q2⟩
theorem c0G{op:Operator}(h:o.bin=some op)(ha:PE X a (TEv Γ Ex (ev ct c x)))(hb:PE X b (TEv Γ Ex (ev ct c y))):PE X (.BinOp a op b pos) (TEv Γ Ex (ev ct c (.bin o x y))):=by
 refine PE.imp (b8O (b9P (Γ:=Γ) (E:=Ex) h) ha hb) fun σ H Q q=>two (r:=rOf Γ Ex (op2 o)) ha hb σ H Q ?_
 simpa only[TEv,ev] using q
theorem c0E(hu:X.A.units+8<cLine)(hK:X.K=Γ.K)(h:o.cmp=some op)(ha:PE X a (TEv Γ Ex (ev ct c x)))(hb:PE X b (TEv Γ Ex (ev ct c y)))(hm:behindInMarks op b=false):PE X (.Compare a [op] [b] pos) (TEv Γ Ex (ev ct c (.bin o x y))):=by
 refine PE.imp (a4M (a1U (Γ:=Γ) (E:=Ex) hu hK h) ha hb hm) fun σ H Q q=>two (r:=rOf Γ Ex (op2 o)) ha hb σ H Q ?_
 simpa only[TEv,ev] using q
theorem a2p{f:t9->AH->R D}{t:TE}(h:∀σ H Q,TEv Γ Ex f σ H Q->t σ H Q):∀σ H Q,TTv Γ Ex (fun env h=>asB (f env h)) σ H Q->b0g t σ H Q:=by
 rintro σ H Q ⟨env,ah,m,rl,q⟩;exact h σ H _ ⟨env,ah,m,rl,q.bool.mp fun v H1 ⟨k,e,_,_,_,_,_,w⟩=>⟨k,e,w⟩⟩
theorem b7Y(hu:X.A.units+8<cLine)(hK:X.K=Γ.K)(h:o.cmp=some op)(ha:PE X a (TEv Γ Ex (ev ct c x)))(hb:PE X b (TEv Γ Ex (ev ct c y)))(hm:behindInMarks op b=false):PT X (.Compare a [op] [b] pos) (TTv Γ Ex (tst ct c (.cmp o x y))):=by
 refine PT.imp (a4L (a1U (Γ:=Γ) (E:=Ex) hu hK h) ha hb hm) fun σ H Q q=>a2p (two (r:=rOf Γ Ex (op2 o)) ha hb) σ H Q ?_
 simpa only[TTv,tst] using q
theorem a4G{d:D}{v:V}(r:Rp m H d v):decide (v=.non)=decide (d=.non):=by
 cases d with
 |non=>cases r;rfl
 |bl _=>cases r;rfl
 |int _=>cases r;rfl
 |str _=>cases r;rfl
 |tup _=>obtain⟨_,_,rfl,_⟩:=r;rfl
 |ref _=>obtain⟨_,rfl,_⟩:=r;rfl
theorem c0A{j p'}(ha:PE X a (TEv Γ Ex (ev ct c x))):PE X (.Compare a [.Is] [.Constant .none j p'] pos) (TEv Γ Ex (ev ct c (.isN x))):=by
 refine PE.imp (b1g (b1i ha)) ?_
 rintro σ H Q ⟨env,ah,m,rl,q⟩;rw[ev] at q;refine⟨env,ah,m,rl,d9.first rl q fun d1 ah1 m1 H1 v1 p1 k1 rl1 r1 q1=>?_⟩
 rw[a4G r1];exact q1.ok rl1.sim rfl
theorem b7P{j p'}(ha:PE X a (TEv Γ Ex (ev ct c x))):PE X (.Compare a [.IsNot] [.Constant .none j p'] pos) (TEv Γ Ex (ev ct c (.notN x))):=by
 refine PE.imp (b1g (a8b ha)) ?_
 rintro σ H Q ⟨env,ah,m,rl,q⟩;rw[ev] at q;refine⟨env,ah,m,rl,d9.first rl q fun d1 ah1 m1 H1 v1 p1 k1 rl1 r1 q1=>?_⟩
 rw[a4G r1];exact q1.ok rl1.sim rfl
theorem b7Q{j p'}(ha:PE X a (TEv Γ Ex (ev ct c x))):PT X (.Compare a [.Is] [.Constant .none j p'] pos) (TTv Γ Ex (tst ct c (.isN x))):=by
 refine PT.imp (b0L (b1i ha)) ?_
 rintro σ H Q ⟨env,ah,m,rl,q⟩;rw[tst] at q;refine⟨env,ah,m,rl,i9.first rl q fun d1 ah1 m1 H1 v1 p1 k1 rl1 r1 q1=>?_⟩
 rw[a4G r1];exact⟨_,rfl,q1.ok rl1.sim⟩
theorem b5j{j p'}(ha:PE X a (TEv Γ Ex (ev ct c x))):PT X (.Compare a [.IsNot] [.Constant .none j p'] pos) (TTv Γ Ex (tst ct c (.notN x))):=by
 refine PT.imp (b0L (a8b ha)) ?_
 rintro σ H Q ⟨env,ah,m,rl,q⟩;rw[tst] at q;refine⟨env,ah,m,rl,i9.first rl q fun d1 ah1 m1 H1 v1 p1 k1 rl1 r1 q1=>?_⟩
 rw[a4G r1];exact⟨_,rfl,q1.ok rl1.sim⟩
theorem c0y(ha:PE X a (TEv Γ Ex (ev ct c x))):PE X (.UnaryOp .USub a pos) (TEv Γ Ex (ev ct c (.neg x))):=by
 refine PE.imp (b8M b5x ha) ?_
 rintro σ H Q ⟨env,ah,m,rl,q⟩;rw[ev] at q;refine⟨env,ah,m,rl,d9.first rl q fun d1 ah1 m1 H1 v1 p1 k1 rl1 r1 q1=>?_⟩
 cases d1<;>first|exact q1.elim|skip
 cases r1;exact⟨_,rfl,q1.ok rl1.sim rfl⟩
theorem d9.firstB{f:Bool->AH->R D}(rl:Rel Γ env ah σ H m)(h:d9 Γ Ex m H ((asB r).bind f) Q)
 (k:∀b ah1 m1 H1,Pre m m1->Keep m m1 H H1->Rel Γ env ah1 σ H1 m1->d9 Γ Ex m1 H1 (f b ah1) Q->Q' (.bl b) H1):d9 Γ Ex m H r Q':=by
 refine h.bind.bool.mp fun v H1 hh=>?_
 obtain⟨b,rfl,ah2,m2,p2,k2,s2,w⟩:=hh;exact k b ah2 m2 H1 p2 k2 (rl.on p2 k2 s2) w
theorem c1D(ha:PE X a (TEv Γ Ex (ev ct c x))):PE X (.UnaryOp .Not a pos) (TEv Γ Ex (ev ct c (.nt x))):=by
 refine PE.imp (b6k ha) ?_
 rintro σ H Q ⟨env,ah,m,rl,q⟩;rw[ev] at q;exact⟨env,ah,m,rl,d9.firstB rl q fun b ah1 m1 H1 p1 k1 rl1 q1=>⟨b,rfl,q1.ok rl1.sim rfl⟩⟩
theorem c1I{d5:List Expr}(ha:PE X a (TEv Γ Ex (ev ct c x)))(hb:PE X (.BoolOp .And (b::d5) pos) (TEv Γ Ex (ev ct c y))):PE X (.BoolOp .And (a::b::d5) pos) (TEv Γ Ex (ev ct c (.an x y))):=by
 refine PE.imp (b6p ha hb) ?_
 rintro σ H Q ⟨env,ah,m,rl,q⟩;rw[ev] at q;refine⟨env,ah,m,rl,d9.firstB rl q fun k ah1 m1 H1 p1 k1 rl1 q1=>⟨k,rfl,?_⟩⟩
 cases k with
 |true=>rw[ay rfl] at q1⊢;exact⟨env,ah1,m1,rl1,q1⟩
 |false=>rw[az (by decide)] at q1⊢;exact q1.ok rl1.sim rfl
theorem c0u{d5:List Expr}(ha:PE X a (TEv Γ Ex (ev ct c x)))(hb:PE X (.BoolOp .Or (b::d5) pos) (TEv Γ Ex (ev ct c y))):PE X (.BoolOp .Or (a::b::d5) pos) (TEv Γ Ex (ev ct c (.orr x y))):=by
 refine PE.imp (b8N ha hb) ?_
 rintro σ H Q ⟨env,ah,m,rl,q⟩;rw[ev] at q;refine⟨env,ah,m,rl,d9.firstB rl q fun k ah1 m1 H1 p1 k1 rl1 q1=>⟨k,rfl,?_⟩⟩
 cases k with
 |true=>rw[ay rfl] at q1⊢;exact q1.ok rl1.sim rfl
 |false=>rw[az (by decide)] at q1⊢;exact⟨env,ah1,m1,rl1,q1⟩
variable{t u:T}{v:List Expr}
theorem c0p(he:∀whole,isTrue e X.env whole=(do let v←whole;standAt e.pos;holding [v] (truthy v)))(ha:PE X e (TEv Γ Ex (ev ct c x))):PT X e (TTv Γ Ex (tst ct c (.val x))):=by
 refine PT.imp (b0J ha he) ?_
 rintro σ H Q ⟨env,ah,m,rl,q⟩;rw[tst] at q;refine⟨env,ah,m,rl,q.bool.mp fun v H1 hh=>?_⟩
 obtain⟨b,rfl,ah2,m2,p2,k2,s2,w⟩:=hh;exact⟨b,rfl,w⟩
theorem TTv.next{r:R Bool}{f:Bool->AH->R Bool}{Q Q':Bool->Hp->Prop}(rl:Rel Γ env ah σ H m)(h:i9 Γ Ex m H (r.bind f) (fun b _ _ H1=>Q b H1))
 (k:∀b ah1 m1 H1,Pre m m1->Keep m m1 H H1->Rel Γ env ah1 σ H1 m1->i9 Γ Ex m1 H1 (f b ah1) (fun b _ _ H1=>Q b H1)->Q' b H1):i9 Γ Ex m H r (fun b _ _ H1=>Q' b H1):=
 h.bind.mp fun b ah1 m1 H1 p1 k1 s1 q1=>k b ah1 m1 H1 p1 k1 (rl.on p1 k1 s1) q1
theorem c0w(ha:PT X a (TTv Γ Ex (tst ct c t))):PT X (.UnaryOp .Not a pos) (TTv Γ Ex (tst ct c (.nt t))):=by
 refine PT.imp (b5W ha) ?_
 rintro σ H Q ⟨env,ah,m,rl,q⟩;rw[tst] at q;exact⟨env,ah,m,rl,TTv.next rl q fun b ah1 m1 H1 p1 k1 rl1 q1=>q1.ok rl1.sim⟩
theorem c0I{d5:List Expr}(ha:PT X a (TTv Γ Ex (tst ct c t)))(hb:PW X (.BoolOp .And (b::d5) pos) (TTv Γ Ex (tst ct c u))):PW X (.BoolOp .And (a::b::d5) pos) (TTv Γ Ex (tst ct c (.an t u))):=by
 refine PW.imp (b5S ha hb) ?_
 rintro σ H Q ⟨env,ah,m,rl,q⟩;rw[tst] at q;refine⟨env,ah,m,rl,TTv.next rl q fun k ah1 m1 H1 p1 k1 rl1 q1=>?_⟩
 cases k with
 |true=>rw[ay rfl] at q1⊢;exact⟨env,ah1,m1,rl1,q1⟩
 |false=>rw[az (by decide)] at q1⊢;exact q1.ok rl1.sim
theorem c0v{d5:List Expr}(ha:PT X a (TTv Γ Ex (tst ct c t)))(hb:PW X (.BoolOp .Or (b::d5) pos) (TTv Γ Ex (tst ct c u))):PW X (.BoolOp .Or (a::b::d5) pos) (TTv Γ Ex (tst ct c (.orr t u))):=by
 refine PW.imp (b8K ha hb) ?_
 rintro σ H Q ⟨env,ah,m,rl,q⟩;rw[tst] at q;refine⟨env,ah,m,rl,TTv.next rl q fun k ah1 m1 H1 p1 k1 rl1 q1=>?_⟩
 cases k with
 |true=>rw[ay rfl] at q1⊢;exact q1.ok rl1.sim
 |false=>rw[az (by decide)] at q1⊢;exact⟨env,ah1,m1,rl1,q1⟩
theorem c0B(hc:PT X e (TTv Γ Ex (tst ct c t)))(ha:PE X a (TEv Γ Ex (ev ct c x)))(hb:PE X b (TEv Γ Ex (ev ct c y))):PE X (.IfExp e a b pos) (TEv Γ Ex (ev ct c (.ife t x y))):=by
 refine PE.imp (b1d hc ha hb) ?_
 rintro σ H Q ⟨env,ah,m,rl,q⟩;rw[ev] at q;refine⟨env,ah,m,rl,q.bind.mp fun k ah1 m1 H1 p1 k1 s1 q1=>?_⟩
 cases k with
 |true=>rw[ay rfl] at q1⊢;exact⟨env,ah1,m1,rl.on p1 k1 s1,q1⟩
 |false=>rw[az (by decide)] at q1⊢;exact⟨env,ah1,m1,rl.on p1 k1 s1,q1⟩
theorem b5u{p:B}{op op':CmpOp}(ha:PE X a (TEv Γ Ex (ev ct c x))):∀σ H Q,TEv Γ Ex (fun env h=>(ev ct c x env h).bind fun x1 h1=>(ev ct c y env h1).bind fun y1 h2=>(asB (op2 o h2 x1 y1)).bind fun k h3=>if k=true then(ev ct c z env h3).bind fun z1 h4=>op2 p h4 y1 z1 else .ok (.bl false) h3) σ H Q→
 a6Q (rOf Γ Ex (op2 o)) (rOf Γ Ex (op2 p)) (TEv Γ Ex (ev ct c x)) (TEv Γ Ex (ev ct c y)) (TEv Γ Ex (ev ct c z)) σ H Q:=by
 rintro σ H Q ⟨env,ah,m,rl,q⟩;refine⟨env,ah,m,rl,d9.first rl q fun d1 ah1 m1 H1 v1 p1 k1 rl1 r1 q1=>?_⟩
 refine⟨env,ah1,m1,rl1,d9.first rl1 q1 fun d2 ah2 m2 H2 v2 p2 k2 rl2 r2 q2=>?_⟩
 refine⟨d1,d2,ah2,m2,rl2.sim,r1.mono p2 k2,r2,d9.firstB rl2 q2 fun k ah3 m3 H3 p3 k3 rl3 q3=>⟨k,rfl,?_⟩⟩
 cases k with
 |false=>rw[az (by decide)] at q3⊢;exact q3.ok rl3.sim rfl
 |true=>
  rw[ay rfl] at q3⊢;refine⟨env,ah3,m3,rl3,d9.first rl3 q3 fun d4 ah4 m4 H4 v4 p4 k4 rl4 r4 q4=>?_⟩
  exact⟨d2,d4,ah4,m4,rl4.sim,r2.mono (p3.trans p4) (k3.trans k4),r4,q4⟩
theorem c0F{p:B}(hu:X.A.units+8<cLine)(hK:X.K=Γ.K)(h:o.cmp=some op)(h':p.cmp=some op')(ha:PE X a (TEv Γ Ex (ev ct c x)))(hb:PE X b (TEv Γ Ex (ev ct c y)))(hd:PE X d (TEv Γ Ex (ev ct c z)))(hm:lastMarks [op,op'] [b,d]=false):
 PE X (.Compare a [op,op'] [b,d] pos) (TEv Γ Ex (ev ct c (.chn o p x y z))):=by
 refine PE.imp (b1h (a1U (Γ:=Γ) (E:=Ex) hu hK h) (a1U (Γ:=Γ) (E:=Ex) hu hK h') ha hb hd hm) fun σ H Q q=>b5u (op:=op) (op':=op') ha σ H Q ?_
 simpa only[TEv,ev] using q
theorem b7Z{p:B}(hu:X.A.units+8<cLine)(hK:X.K=Γ.K)(h:o.cmp=some op)(h':p.cmp=some op')(ha:PE X a (TEv Γ Ex (ev ct c x)))(hb:PE X b (TEv Γ Ex (ev ct c y)))(hd:PE X d (TEv Γ Ex (ev ct c z)))(hm:lastMarks [op,op'] [b,d]=false):
 PT X (.Compare a [op,op'] [b,d] pos) (TTv Γ Ex (tst ct c (.chn o p x y z))):=by
 refine PT.imp (b0M (a1U (Γ:=Γ) (E:=Ex) hu hK h) (a1U (Γ:=Γ) (E:=Ex) hu hK h') ha hb hd hm) fun σ H Q q=>a2p (b5u (op:=op) (op':=op') (o:=o) (p:=p) (y:=y) (z:=z) ha) σ H Q ?_
 simpa only[TTv,tst] using q
theorem c1G(hu:X.A.units+8<cLine)(hK:X.K=Γ.K)(ha:PE X a (TEv Γ Ex (ev ct c x)))(hb:PE X b (TEv Γ Ex (ev ct c y)))(hs:a2C b):PE X (.Subscript a b pos) (TEv Γ Ex (ev ct c (.ix x y))):=by
 refine PE.imp (b5o (b9M (Γ:=Γ) (E:=Ex) hu hK) ha hb hs) fun σ H Q q=>two (r:=rOf Γ Ex ixD) ha hb σ H Q ?_
 simpa only[TEv,ev] using q
theorem c1C:PO X none (TOv Γ Ex (evo ct c .no)):=by
 refine PO.imp b3G ?_
 rintro σ H Q ⟨env,ah,m,rl,q⟩;rw[evo] at q;exact q.ok rl.sim
theorem c1B(ha:PE X a (TEv Γ Ex (ev ct c x))):PO X (some a) (TOv Γ Ex (evo ct c (.at x))):=by
 refine PO.imp (b3F ha) ?_
 rintro σ H Q ⟨env,ah,m,rl,q⟩;rw[evo,a8n] at q;refine⟨env,ah,m,rl,i9.first rl q fun d1 ah1 m1 H1 v1 p1 k1 rl1 r1 q1=>?_⟩
 cases d1<;>first|exact q1.elim|skip
 cases r1;exact⟨_,rfl,q1.ok rl1.sim⟩
variable{l h:Option Expr}{ol oh:O}
theorem c1A(hK:X.K=Γ.K)(ha:PE X a (TEv Γ Ex (ev ct c x)))(hl:PO X l (TOv Γ Ex (evo ct c ol)))(hh:PO X h (TOv Γ Ex (evo ct c oh))):PE X (.Subscript a (.Slice l h none p2) pos) (TEv Γ Ex (ev ct c (.sl x ol oh))):=by
 refine PE.imp (b1a (c1r (Γ:=Γ) (E:=Ex) hK) ha hl hh) ?_
 rintro σ H Q ⟨env,ah,m,rl,q⟩;rw[ev] at q;refine⟨env,ah,m,rl,d9.first rl q fun d1 ah1 m1 H1 v1 p1 k1 rl1 r1 q1=>?_⟩
 refine⟨env,ah1,m1,rl1,q1.bind.mp fun lo ah2 m2 H2 p2 k2 s2 q2=>?_⟩
 refine⟨env,ah2,m2,rl1.on p2 k2 s2,q2.bind.mp fun hi ah3 m3 H3 p3 k3 s3 q3=>?_⟩
 exact⟨d1,ah3,m3,s3,r1.mono (p2.trans p3) (k2.trans k3),q3⟩
variable{xs:Es}
theorem c0x:PA X [] (TAv Γ Ex (evs ct c .nil)):=by
 refine PA.imp a0R ?_
 rintro σ H Q ⟨env,ah,m,rl,q⟩;rw[evs] at q;exact q.ok rl.sim [] rfl
theorem b7W(ha:PE X a (TEv Γ Ex (ev ct c x)))(hr:PA X es (TAv Γ Ex (evs ct c xs)))(hs:starEach (a::es) X.env=(false,eval a X.env)::starEach es X.env):PA X (a::es) (TAv Γ Ex (evs ct c (.cons x xs))):=by
 refine PA.imp (L5 ha hr hs) ?_
 rintro σ H Q ⟨env,ah,m,rl,q⟩;rw[evs] at q;refine⟨env,ah,m,rl,i9.first rl q fun d1 ah1 m1 H1 v1 p1 k1 rl1 r1 q1=>?_⟩
 refine⟨env,ah1,m1,rl1,q1.bind.mp fun ds ah2 m2 H2 p2 k2 s2 q2=>fun vs rs=>?_⟩
 exact q2.ok s2 (v1::vs) ⟨v1,vs,rfl,r1.mono p2 k2,rs⟩
theorem c0z(ha:PA X es (TAv Γ Ex (evs ct c xs))):PE X (.List es pos) (TEv Γ Ex (ev ct c (.lst xs))):=by
 refine PE.imp (b6m ha) ?_
 rintro σ H Q ⟨env,ah,m,rl,q⟩;rw[ev] at q;refine⟨env,ah,m,rl,q.bind.mp fun ds ah1 m1 H1 p1 k1 s1 q1=>fun vs rs=>?_⟩
 split at q1
 · rename_i hl;exact⟨by rw[rs.len,←O4];exact hl,fun p hp=>q1.newc s1 hp ⟨_,b9,rs.mono (Pre.snoc m1 p) (Keep.newc hp)⟩⟩
 · exact q1.elim
theorem c0q{k:Nat}(ha:PA X es (TAv Γ Ex (evs ct c xs))):PE X (.Tuple es k pos) (TEv Γ Ex (ev ct c (.tup xs))):=by
 refine PE.imp (b6h ha) ?_
 rintro σ H Q ⟨env,ah,m,rl,q⟩;rw[ev] at q;refine⟨env,ah,m,rl,q.bind.mp fun ds ah1 m1 H1 p1 k1 s1 q1=>fun vs rs=>?_⟩
 split at q1
 · rename_i hl;exact⟨by rw[rs.len,←O4];exact hl,fun p hp=>q1.newt s1 hp rs⟩
 · exact q1.elim
theorem b7T:PE X (.Dict [] [] pos) (TEv Γ Ex (ev ct c .dnew)):=by
 refine PE.imp b1e ?_
 rintro σ H Q ⟨env,ah,m,rl,q⟩;rw[ev] at q;exact fun p hp=>q.newc rl.sim hp (.inl ⟨[],b9,.nil⟩)
theorem c0H{b:Bi}(ha:PA X es (TAv Γ Ex (evs ct c xs))):∀σ H Q,TEv Γ Ex (ev ct c (.bi b xs)) σ H Q->tCB (rBi Γ Ex b) (TAv Γ Ex (evs ct c xs)) σ H Q:=by
 rintro σ H Q ⟨env,ah,m,rl,q⟩;rw[ev] at q;exact⟨env,ah,m,rl,q.bind.mp fun ds ah1 m1 H1 p1 k1 s1 q1=>fun vs rs=>⟨ds,ah1,m1,s1,rs,q1⟩⟩
end
noncomputable def a4C(Γ:Gm)(c:CF)(f np:Nat):Sp:=fun vs H Q E=>∃ds ah m,ds.length=np/\Rps m H ds vs/\Sim Γ ah m H/\d9 Γ E m H (c f ds ah) Q
theorem c9{a:Expr}{env:Env}(h:o5 a=true):starEach (a::es) env=(false,eval a env)::starEach es env:=by
 cases a<;>first|rfl|cases h
theorem U5{pos:Pos}{env:Env}:∀{es:List Expr},es.all o5=true->(backTo pos (starEach es env)).any (·.1)=false
 |[],_=>rfl
 |a::es,h=>by
  rw[all_cons,ae] at h;rw[c9 h.1];exact U5 (es:=es) h.2
theorem a3M{pos:Pos}{env:Env}:∀{es:List Expr},es.all o5=true->(backTo pos (starEach es env)).all (fun x=>!x.1)=true
 |[],_=>rfl
 |a::es,h=>by
  rw[all_cons,ae] at h;rw[c9 h.1];exact a3M (es:=es) h.2
theorem Y3{o:Expr}{env:Env}{w:Sem Value}(h:V7 o=true):attributeBase o f env w=w:=by
 unfold attributeBase
 split
 · cases h
 · rfl
def a9S(P:Program)(w:World)(K:PySem.W.Frag)(a:Addr)(gs:List (Key×V)):Prop:=(a==sysModules)=false/\∃vs,KV gs vs/\∀h:Heap,K.In h->h.DictOf (u5 P w) a vs
structure Cxt(X:Cx)(Γ:Gm)(G:GT)(ct:CT)(c:CF)(Ex:XK)(N:List Str)(sc:Scope)(dfn:Bool):Prop where
 hN:X.N=N
 nd:N.Nodup
 sc:X.env.scope=sc
 calm:X.calm=true
 hu:X.A.units+8<cLine
 K:X.K=Γ.K
 fnb:dfn=true->∀x,X.fn x=true
 scal:∀x d,G.scal.lookup x=some d->∃u v,X.mg x=some u/\o0 v u/\∀m H,Rp m H d v
 tups:∀x ds,G.tups.lookup x=some ds->∃a vs,X.mg x=some (.ref a)/\(∀H,SqT X.K H a vs)/\∀m H,Rps m H ds vs
 dicts:∀x kvs,G.dicts.lookup x=some kvs->∃a gs,X.mg x=some (.ref a)/\a9S X.prog X.w X.K a gs/\∀m H,DK m H kvs gs
 blt:∀x,G.blt.contains x=true->X.mg x=none
 fn:∀x f np,G.fn.lookup x=some (f,np)->∃k a fd ps,ps.length=np/\Room k X.A/\X.mg x=some (.ref a)/\PySem.W.keepIn X.K (.ref a)=true/\T3 X.K fd ps []/\FnOk X.prog X.w X.K X.mg X.base CX0 k a fd ps (a4C Γ c f np)/\∀ds h,ds.length≠np->c f ds h=.no
 obj:∀x k,G.obj.lookup x=some k->k∈Γ.ob/\∃r a fd ps,ps.length=1/\Room (r+1) X.A/\Mk X.K (Γ.cA k) a/\X.mg x=some (.ref (Γ.cA k))/\T3 X.K fd ps []/\FnOk X.prog X.w X.K X.mg X.base CX0 r a fd ps (a4C Γ c (ct.init k) 1)
 att:∀k,k∈Γ.ob->Cls X.K (Γ.cA k)/\∀f,G.atts.contains f=true->a0w X.K (Γ.cA k) f
variable{np:Nat}{neg:Bool}{ad:Addr}{apos:Pos}
section
variable{X:Cx}{G:GT}{ct:CT}{c:CF}{Ex:XK}{N:List Str}{sc:Scope}{dfn:Bool}{e a b:Expr}{pos p:Pos}{x y z:E}{xs:Es}
theorem W7{n:Str}(h:J3 sc n=true):sc.names.lookup n=some .globalImplicit/\(n==("__debug__":Str))=false/\n≠"__name__":=by
 unfold J3 at h;rw[ae,ae] at h;exact⟨aw h.1.1,beq_eq_false_iff_ne.mpr (aw h.1.2),aw h.2⟩
theorem Cxt.gl(C:Cxt X Γ G ct c Ex N sc dfn){n:Str}(h:J3 sc n=true):Gl X n:=by
 show X.env.scope.names.lookup n=_
 rw[C.sc];exact(W7 h).1
theorem Cxt.vis(C:Cxt X Γ G ct c Ex N sc dfn){n:Str}(h:b1G sc n=true):Vis X.env.scope n:=by
 rw[C.sc];unfold b1G at h;unfold Vis
 split at h
 · rename_i e;exact .inl e
 · rename_i e;exact .inr (.inl e)
 · rename_i e;exact .inr (.inr e)
 · cases h
theorem a5c{N:List Str}{n:Str}(h:N.idxOf? n=some i):N[i]? =some n:=by
 unfold List.idxOf? at h;rw[List.findIdx?_eq_some_iff_getElem] at h
 obtain⟨h1,h2,_⟩:=h;rw[af h1]
 exact congrArg some (eq_of_beq h2)
theorem b8a{n:Str}{f:Nat}(C:Cxt X Γ G ct c Ex N sc dfn)(hf:G.fn.lookup n=some (f,np))(hg:J3 sc n=true)(hp:(a::es).all o5=true)(ha:PA X (a::es) (TAv Γ Ex (evs ct c xs))):
 PE X (.Call (.Name n p) (a::es) [] pos) (TEv Γ Ex (ev ct c (.call f xs))):=by
 obtain⟨k,ad,fd,ps,h1,h2,h3,h4,h5,h6,h7⟩:=C.fn n f np hf;rw[all_cons,ae] at hp;refine PE.imp (b3P h6 h2 (C.gl hg) h3 h4 h5 .nil b5p ha (W7 hg).2.1 (c9 hp.1) (U5 hp.2)) ?_
 rintro σ H Q ⟨env,ah,m,rl,q⟩;rw[ev] at q;refine⟨env,ah,m,rl,q.bind.mp fun ds ah1 m1 H1 p1 k1 s1 q1=>fun vs rs=>⟨ds,ah1,m1,?_,by rw[bj];exact rs,s1,q1⟩⟩
 by_cases hl:ds.length=np
 · exact hl
 · rw[h7 ds ah1 hl] at q1;exact q1.elim
theorem c1F{n:Str}{k:Nat}(C:Cxt X Γ G ct c Ex N sc dfn)(hf:G.obj.lookup n=some k)(hg:J3 sc n=true):PE X (.Call (.Name n p) [] [] pos) (TEv Γ Ex (ev ct c (.mk k .nil))):=by
 obtain⟨hk,r,ad,fd,ps,h1,h2,h3,h4,h5,h6⟩:=C.obj n k hf;refine PE.imp (b1b h3 h6 h2 (C.gl hg) h4 h5 .nil b5p (W7 hg).2.1) ?_
 rintro σ H Q ⟨env,ah,m,rl,q⟩;rw[ev,evs,b8] at q;intro x dx hx hdx hne
 have kp:Keep m (m++[x]) H (upd (upd H dx (.own x)) x (.ins (Γ.cA k) dx [])):=(Keep.new hdx).trans (Keep.newc (by rw[k8 (Ne.symm hne)];exact hx))
 have s1:Sim Γ (ah++[.obj k []]) (m++[x]) (upd (upd H dx (.own x)) x (.ins (Γ.cA k) dx [])):=(rl.sim.new (o:=.own x) hdx).alloc (by rw[k8 (Ne.symm hne)];exact hx) ⟨dx,[],b9,.nil,hk⟩
 refine⟨[.ref ah.length],ah++[.obj k []],m++[x],rfl,⟨.ref x,[],rfl,⟨x,rfl,?_⟩,rfl⟩,s1,?_⟩
 · rw[←rl.sim.len,aq (ai _)];simp
 · refine(q.bind.later (Pre.snoc m x) kp).val fun d ah1 m1 H1 v p1 k1 s1 r1 q1=>?_
   cases d<;>first|exact q1.elim|skip
   cases r1;refine⟨rfl,q1.ok s1 ⟨x,rfl,p1.get ?_⟩⟩
   rw[←rl.sim.len,aq (ai _)];simp
theorem c0D(C:Cxt X Γ G ct c Ex N sc dfn)(hb:V7 a=true)(hf:G.atts.contains f=true)(ha:PE X a (TEv Γ Ex (ev ct c x))):PE X (.Attribute a f pos) (TEv Γ Ex (ev ct c (.fld x f))):=by
 refine PE.imp (b6n (pos:=pos) ha (Y3 (f:=f) hb)) ?_
 rintro σ H Q ⟨env,ah,m,rl,q⟩;rw[ev] at q;refine⟨env,ah,m,rl,d9.first rl q fun d1 ah1 m1 H1 v1 p1 k1 rl1 r1 q1=>?_⟩
 unfold a0j at q1
 split at q1
 · split at q1
   · rename_i k fs e2
     split at q1
     · rename_i d e3;obtain⟨ad,rfl,hm1⟩:=r1;obtain⟨dx,gs,g1,g2,g3⟩:=rl1.sim.at hm1 e2;obtain⟨w,hw,rw'⟩:=g2.look e3;obtain⟨a1,a2⟩:=C.att k g3;exact⟨ad,Γ.cA k,dx,gs,w,rfl,g1,a1,a2 f hf,hw,q1.ok rl1.sim rw'⟩
     · exact q1.elim
   · exact q1.elim
 · exact q1.elim
theorem a8v(h1:∀H,SqT X.K H ad vs)(h2:∀m H,Rps m H ds vs):∀σ H Q,TEv Γ Ex (ev ct c (.gin neg x ds)) σ H Q->tOp (rIn X.K neg) (TEv Γ Ex (ev ct c x)) (tC (.ref ad)) σ H Q:=by
 rintro σ H Q ⟨env,ah,m,rl,q⟩;rw[ev] at q;refine⟨env,ah,m,rl,d9.first rl q fun d1 ah1 m1 H1 v1 p1 k1 rl1 r1 q1=>?_⟩
 split at q1
 · rename_i hf;refine⟨ad,vs,rfl,.inr (h1 H1),Q9 r1 hf.1,G3 (h2 m1 H1) hf.2,?_⟩
   rw[a0i r1 hf.1 (h2 m1 H1) hf.2] at q1
   cases neg with
   |false=>rw[a3t] at q1;exact q1.ok rl1.sim rfl
   |true=>rw[a3s] at q1;exact q1.ok rl1.sim rfl
 · exact q1.elim
theorem b5w{n:Str}(C:Cxt X Γ G ct c Ex N sc dfn)(ho:(op=.In/\neg=false)∨(op=.NotIn/\neg=true))(hg:J3 sc n=true)(ht:G.tups.lookup n=some ds)(ha:PE X a (TEv Γ Ex (ev ct c x))):
 PE X (.Compare a [op] [.Name n p] pos) (TEv Γ Ex (ev ct c (.gin neg x ds)))/\PT X (.Compare a [op] [.Name n p] pos) (TTv Γ Ex (tst ct c (.val (.gin neg x ds)))):=by
 obtain⟨ad,vs,h1,h2,h3⟩:=C.tups n ds ht
 have hb:PE X (.Name n p) (tC (.ref ad)):=a1n (C.gl hg) h1 rfl (W7 hg).2.1
 have ho':OpR X (compareOp op) (rIn X.K neg):=by
  rcases ho with⟨rfl,rfl⟩|⟨rfl,rfl⟩
  · exact a0z
  · exact N3
 refine⟨PE.imp (a4M ho' ha hb rfl) (a8v h2 h3),PT.imp (a4L ho' ha hb rfl) fun σ H Q q=>a2p (a8v (neg:=neg) h2 h3) σ H Q ?_⟩
 simpa only[TTv,tst] using q
def rMd(a:Addr)(gs:List (Key×V))(neg:Bool):R2:=fun x y H Q=>∃k,x=kV k/\y=.ref a/\Q (.bl ((U2 gs k).isSome !=neg)) H
theorem b6v(d:a9S X.prog X.w X.K ad gs):OpR X (compareOp .In) (rMd ad gs false):=by
 intro pins s σ H x y v u Q I rx ry h;obtain⟨k,rfl,rfl,q⟩:=h;cases ry;obtain⟨hd,vs,rel,dd⟩:=d;refine wpAny_in_of (a0h rx) hd (dd _ I.kIn).mapOf ?_
 rw[←(rel.val k).isSome_eq];rw[a3t] at q;exact⟨.bl _,H,I.tok _,rfl,q⟩
theorem a9n(d:a9S X.prog X.w X.K ad gs):OpR X (compareOp .NotIn) (rMd ad gs true):=by
 intro pins s σ H x y v u Q I rx ry h;obtain⟨k,rfl,rfl,q⟩:=h;cases ry;obtain⟨hd,vs,rel,dd⟩:=d;refine wpAny_notIn_of (a0h rx) hd (dd _ I.kIn).mapOf ?_
 rw[←(rel.val k).isSome_eq];rw[a3s] at q;exact⟨.bl _,H,I.tok _,rfl,q⟩
def rMx(a:Addr)(gs:List (Key×V)):R2:=fun x y H Q=>∃k v,x=.ref a/\y=kV k/\U2 gs k=some v/\Q v H
theorem c1j(d:a9S X.prog X.w X.K ad gs):IxR X (rMx ad gs):=by
 rintro value slice pins s σ H x y v u Q I rx ry ⟨k,z,rfl,rfl,hz,q⟩ hs;cases rx;obtain⟨hd,vs,rel,dd⟩:=d;have dd:=dd _ I.kIn;obtain⟨w',hw,rw'⟩:=a0J.some_of (v:=z) (o:=valueAt vs k) (by rw[←hz];exact rel.val k)
 exact b9M.ixd_tail dd.typeIs hs (wpAny_getItem_of (a0h ry) dd.mapOf hw ⟨z,H,I.tok _,rw',q⟩)
theorem a6p(h2:∀m H,DK m H kvs gs):∀σ H Q,TEv Γ Ex (ev ct c (.gdin neg x kvs)) σ H Q->tOp (rMd ad gs neg) (TEv Γ Ex (ev ct c x)) (tC (.ref ad)) σ H Q:=by
 rintro σ H Q ⟨env,ah,m,rl,q⟩;rw[ev] at q;refine⟨env,ah,m,rl,d9.first rl q fun d1 ah1 m1 H1 v1 p1 k1 rl1 r1 q1=>?_⟩
 split at q1
 · rename_i hf;obtain⟨k,hk⟩:=Option.isSome_iff_exists.mp hf;refine⟨k,W5 hk r1,rfl,?_⟩
   rw[(h2 m1 H1).some_eq hk] at q1;exact q1.ok rl1.sim rfl
 · exact q1.elim
theorem b2R{n:Str}(C:Cxt X Γ G ct c Ex N sc dfn)(ho:(op=.In/\neg=false)∨(op=.NotIn/\neg=true))(hg:J3 sc n=true)(ht:G.dicts.lookup n=some kvs)(ha:PE X a (TEv Γ Ex (ev ct c x))):
 PE X (.Compare a [op] [.Name n p] pos) (TEv Γ Ex (ev ct c (.gdin neg x kvs)))/\PT X (.Compare a [op] [.Name n p] pos) (TTv Γ Ex (tst ct c (.val (.gdin neg x kvs)))):=by
 obtain⟨ad,gs,h1,h2,h3⟩:=C.dicts n kvs ht
 have hb:PE X (.Name n p) (tC (.ref ad)):=a1n (C.gl hg) h1 rfl (W7 hg).2.1
 have ho':OpR X (compareOp op) (rMd ad gs neg):=by
  rcases ho with⟨rfl,rfl⟩|⟨rfl,rfl⟩
  · exact b6v h2
  · exact a9n h2
 refine⟨PE.imp (a4M ho' ha hb rfl) (a6p h3),PT.imp (a4L ho' ha hb rfl) fun σ H Q q=>a2p (a6p (neg:=neg) (ad:=ad) h3) σ H Q ?_⟩
 simpa only[TTv,tst] using q
theorem b7R{n:Str}(C:Cxt X Γ G ct c Ex N sc dfn)(hg:J3 sc n=true)(ht:G.dicts.lookup n=some kvs)(hb:PE X b (TEv Γ Ex (ev ct c y)))(hs:a2C b):
 PE X (.Subscript (.Name n p) b pos) (TEv Γ Ex (ev ct c (.gdix y kvs))):=by
 obtain⟨ad,gs,h1,h2,h3⟩:=C.dicts n kvs ht
 have ha:PE X (.Name n p) (tC (.ref ad)):=a1n (C.gl hg) h1 rfl (W7 hg).2.1
 refine PE.imp (b5o (c1j h2) ha hb hs) ?_
 rintro σ H Q ⟨env,ah,m,rl,q⟩;rw[ev] at q;refine⟨env,ah,m,rl,d9.first rl q fun d1 ah1 m1 H1 v1 p1 k1 rl1 r1 q1=>?_⟩
 split at q1
 · rename_i hf;obtain⟨k,hk⟩:=Option.isSome_iff_exists.mp hf
   split at q1
   · rename_i d hd;obtain⟨v,hv,rv⟩:=((h3 m1 H1).val hk).1 d hd;exact⟨k,v,rfl,W5 hk r1,hv,q1.ok rl1.sim rv⟩
   · exact q1.elim
 · exact q1.elim
theorem c1H{n:Str}{b:Bi}(C:Cxt X Γ G ct c Ex N sc dfn)(hb:b7G n=some b)(hg:J3 sc n=true)(hm:X.mg n=none)(hp:(a::es).all o5=true)(ha:PA X (a::es) (TAv Γ Ex (evs ct c xs))):
 PE X (.Call (.Name n p) (a::es) [] pos) (TEv Γ Ex (ev ct c (.bi b xs))):=by
 obtain⟨_,hd,hn⟩:=W7 hg;rw[all_cons,ae] at hp;have s1:=c9 (es:=es) (env:=X.env) hp.1;have s2:=U5 (pos:=pos) (env:=X.env) hp.2
 have go:∀{b:Bi} {t:TE},PE X (.Call (.Name n p) (a::es) [] pos) (tCB (rBi Γ Ex b) (TAv Γ Ex (evs ct c xs)))->PE X (.Call (.Name n p) (a::es) [] pos) (TEv Γ Ex (ev ct c (.bi b xs))):=fun h=>PE.imp h (c0H ha)
 unfold b7G at hb
 repeat' split at hb
 all_goals (first|(cases hb;done)|(cases hb;rename_i e;subst e))
 · exact go (t:=tCB (rBi Γ Ex .len) (TAv Γ Ex (evs ct c xs))) (U7 (b9Z C.K) (C.gl hg) hm PySem.boot_len ha hn hd s1 s2)
 · exact go (t:=tCB (rBi Γ Ex .len) (TAv Γ Ex (evs ct c xs))) (K8 b9X (C.gl hg) hm PyProof.Rows.boot_str ha hn hd s1 s2)
 · exact go (t:=tCB (rBi Γ Ex .len) (TAv Γ Ex (evs ct c xs))) (K8 c0a (C.gl hg) hm PyProof.Rows.boot_int ha hn hd s1 s2)
 · exact go (t:=tCB (rBi Γ Ex .len) (TAv Γ Ex (evs ct c xs))) (K8 (b4Y C.K) (C.gl hg) hm PyProof.Rows.boot_tuple ha hn hd s1 s2)
 · exact go (t:=tCB (rBi Γ Ex .len) (TAv Γ Ex (evs ct c xs))) (K8 (b7C C.K) (C.gl hg) hm PyProof.Rows.boot_list ha hn hd s1 s2)
 · exact go (t:=tCB (rBi Γ Ex .len) (TAv Γ Ex (evs ct c xs))) (U7 (c0c C.calm C.K) (C.gl hg) hm PyProof.Rows.boot_all ha hn hd s1 s2)
 · exact go (t:=tCB (rBi Γ Ex .len) (TAv Γ Ex (evs ct c xs))) (U7 (c0b C.calm C.K) (C.gl hg) hm PyProof.Rows.boot_any ha hn hd s1 s2)
 · exact go (t:=tCB (rBi Γ Ex .len) (TAv Γ Ex (evs ct c xs))) (U7 (b9Y C.calm) (C.gl hg) hm PyProof.Rows.boot_max ha hn hd s1 s2)
 · exact go (t:=tCB (rBi Γ Ex .len) (TAv Γ Ex (evs ct c xs))) (U7 (b9W C.calm C.K) (C.gl hg) hm PyProof.Rows.boot_sum ha hn hd s1 s2)
 · exact go (t:=tCB (rBi Γ Ex .len) (TAv Γ Ex (evs ct c xs))) (U7 (b2D C.K) (C.gl hg) hm PyProof.Rows.boot_sorted ha hn hd s1 s2)
 · exact go (t:=tCB (rBi Γ Ex .len) (TAv Γ Ex (evs ct c xs))) (K8 (b7D C.calm C.K) (C.gl hg) hm PyProof.Rows.boot_dict ha hn hd s1 s2)
theorem a3c{b:Mt}{T:String}(hK:X.K=Γ.K)(hT:(T="list"/\(b=.append∨b=.extend))∨(T="str"/\(b=.split∨b=.join∨b=.starts))):∀σ H Q,TEv Γ Ex (ev ct c (.mt b x xs)) σ H Q->tBM X.K T (rMt Γ Ex b) (TEv Γ Ex (ev ct c x)) (TAv Γ Ex (evs ct c xs)) σ H Q:=by
 rintro σ H Q ⟨env,ah,m,rl,q⟩;rw[ev] at q;refine⟨env,ah,m,rl,d9.first rl q fun d1 ah1 m1 H1 v1 p1 k1 rl1 r1 q1=>?_⟩
 split at q1
 · rename_i ht;refine⟨?_,env,ah1,m1,rl1,q1.bind.mp fun ds ah2 m2 H2 p2 k2 s2 q2=>fun vs rs=>⟨d1,ds,ah2,m2,s2,r1.mono p2 k2,rs,q2⟩⟩
   unfold mtT at ht
   split at ht
   · cases r1
     rcases hT with⟨rfl,rfl|rfl⟩|⟨rfl,_⟩
     · cases ht
     · cases ht
     · rfl
   · rename_i n
     rcases hT with⟨rfl,hb⟩|⟨rfl,rfl|rfl|rfl⟩
     · have hs:(rdL ah1 n).isSome=true:=by rcases hb with rfl|rfl<;>exact ht
       obtain⟨l,hl⟩:=Option.isSome_iff_exists.mp hs;obtain⟨ad,vs,rfl,_,h1,_⟩:=rl1.sim.rdL hl r1;exact .inl ⟨rfl,vs,by rw[hK];exact h1⟩
     · cases ht
     · cases ht
     · cases ht
   · cases ht
 · exact q1.elim
theorem c1E{n:Str}{b:Mt}(C:Cxt X Γ G ct c Ex N sc dfn)(hb:b6B n=some b)(hpb:V7 e=true)(hline:(apos.endLine==pos.line)=true)(hlen:(a::es).length<20)(hp:(a::es).all o5=true)(ho:PE X e (TEv Γ Ex (ev ct c x)))(ha:PA X (a::es) (TAv Γ Ex (evs ct c xs))):
 PE X (.Call (.Attribute e n apos) (a::es) [] pos) (TEv Γ Ex (ev ct c (.mt b x xs))):=by
 have hp':=hp
 rw[all_cons,ae] at hp;have s1:=c9 (es:=es) (env:=X.env) hp.1;have s2:=U5 (pos:=pos) (env:=X.env) hp.2;have hbase:=Y3 (f:=n) (env:=X.env) (w:=eval e X.env) hpb
 have hfew:((backTo pos (starEach (a::es) X.env)).all (fun x=>!x.1)&&(backToKw pos (keywordEach [] X.env)).all (fun x=>x.1.isSome)
  &&decide ((a::es).length+([]:List Keyword).length+(if([]:List Keyword).isEmpty then 0 else 1)<30))=true:=by
  rw[ae,ae];refine⟨⟨a3M hp',rfl⟩,bn ?_⟩
  show(a::es).length+0+0<30
  omega
 unfold b6B at hb
 repeat' split at hb
 all_goals (first|(cases hb;done)|(cases hb;rename_i e0;subst e0))
 · exact PE.imp (a6b PySem.F.plainAttrs_list PySem.F.slot_list_append PySem.F.type_list_append (b1v (Γ:=Γ) (E:=Ex)) ho ha hbase hfew hline s1 s2) (a3c C.K (.inl ⟨rfl,.inl rfl⟩))
 · exact PE.imp (a6b PySem.F.plainAttrs_list PySem.F.slot_list_extend PySem.F.type_list_extend (b1u (Γ:=Γ) (E:=Ex)) ho ha hbase hfew hline s1 s2) (a3c C.K (.inl ⟨rfl,.inr rfl⟩))
 · exact PE.imp (a6b PySem.F.plainAttrs_str PySem.F.slot_str_split PySem.F.type_str_split (b4d (Γ:=Γ) (E:=Ex)) ho ha hbase hfew hline s1 s2) (a3c C.K (.inr ⟨rfl,.inl rfl⟩))
 · exact PE.imp (a6b PySem.F.plainAttrs_str PySem.F.slot_str_join PySem.F.type_str_join (b6E (Γ:=Γ) (E:=Ex) C.K) ho ha hbase hfew hline s1 s2) (a3c C.K (.inr ⟨rfl,.inr (.inl rfl)⟩))
 · exact PE.imp (a6b PySem.F.plainAttrs_str PySem.F.slot_str_startswith PySem.F.type_str_startswith (b1t (Γ:=Γ) (E:=Ex)) ho ha hbase hfew hline s1 s2) (a3c C.K (.inr ⟨rfl,.inr (.inr rfl)⟩))
end
end EV
namespace L2
open PySem PySem.Spec PyProof.Rows
theorem a3d:∀(gs acc:List (Key×V)),((acc++gs).map (·.1)).Nodup->W1 acc gs=acc++gs
 |[],acc,_=>by rw[bj];rfl
 | g::gs,acc,h=>by
  have h2:((acc++[g]++gs).map (·.1)).Nodup:=by rw[aA];exact h
  have hn:(acc.any fun kv=>decide (kv.1=g.1))=false:=by
   rw[List.any_eq_false];intro p hp
   have e:p.1≠g.1:=by
    rw[ao,nodup_append] at h;exact h.2.2 p.1 (ak.mpr ⟨p,hp,rfl⟩) g.1 (by simp)
   simp[e]
  show W1 (M3 acc g.1 g.2) gs=_
  rw[show M3 acc g.1 g.2=acc++[g] by unfold M3;rw[hn];rfl,a3d gs _ h2,aA]
  rfl
variable{H:Hp}
theorem a8Q{p:Addr}{a b:HO}:upd (upd H p a) p b=upd H p b:=by
 funext x
 by_cases h:x=p
 · subst h;rw[b9,b9]
 · rw[k8 h,k8 h,k8 h]
noncomputable def b5H(X:Cx)(td ty tx:TE):TE:=fun σ H Q=>td σ H fun x H1=>∃a,x=.ref a/\IsD H1 a/\ty σ H1 fun y H2=>tx σ H2 fun z H3=>∃H4,(∀pins σ s,Inv X pins σ H3 s->Inv X pins σ H4 s)/\∃o,a7A H4 a y o/\Q (o.getD z) H4
variable{X:Cx}{e:Expr}{apos:Pos}
theorem b1f{o f:Expr}{cpos:Pos}{td ty tx:TE}(hu:X.A.units+1<cLine)(ho:PE X o td)(he:PE X e ty)(hf:PE X f tx)(m:M2 X o "get" apos e f cpos):PE X (.Call (.Attribute o "get" apos) [e,f] [] cpos) (b5H X td ty tx):=by
 intro pins s σ H Q I h;refine wpAny_Call_method m.base m.few m.line PySem.F.plainAttrs_dict PySem.F.slot_dict_get PySem.F.type_dict_get (thn (ho pins s σ H _ I h) fun u s1 hh=>?_)
 obtain⟨x,H1,I1,rx,a,ex,d,q1⟩:=hh;subst ex;obtain rfl:u=Value.ref a:=rx;obtain⟨t1,t2,_⟩:=b6W I1 d;refine⟨t1,t2,?_⟩
 rw[m.trees];refine Calls.callWith_builtin rfl (Calls.evalArgs_plain (Calls.spliced_cons (thn (he pins s1 σ H1 _ I1 q1) fun iv s2 hh2=>?_)))
 obtain⟨y,H2,I2,ry,q2⟩:=hh2;refine Calls.spliced_cons (thn (hf pins s2 σ H2 _ I2 q2) fun fv s3 hh3=>Calls.spliced_nil ?_)
 obtain⟨z,H3,I3,rz,H4,iv4,ov,g,q3⟩:=hh3;exact b7x hu (iv4 _ _ _ I3) g ry rz fun w' s4 I4 rw'=>⟨_,H4,I4,rw',q3⟩
end L2
namespace EV
open PySem PySem.Spec L2
open PyProof.Rows hiding St
noncomputable def kDg:Key->D
 |.inl i=>.int i
 |.inr x=>.str x
theorem a3X:∀{l:List D},a4S l=true->l.Nodup
 |[],_=>.nil
 |d::r,h=>by
  rw[a4S,ae] at h;refine aY.mpr ⟨fun m=>?_,a3X h.2⟩
  have:=h.1
  rw[any_eq_true.mpr ⟨d,m,bn rfl⟩] at this;cases this
variable{kvs:List (D×D)}{m:List Addr}{H:Hp}{apos:Pos}
section
variable{X:Cx}{Γ:Gm}{G:GT}{ct:CT}{c:CF}{Ex:XK}{N:List Str}{sc:Scope}{dfn:Bool}{e a b:Expr}{pos p:Pos}{x y z:E}
theorem b4V{e:Expr}{x:Str}(h:b7y e=some x):∃k q,e=.Constant (.str x) k q:=by
 unfold b7y at h
 split at h
 · split at h
   · cases h;exact⟨_,_,rfl⟩
   · cases h
 · cases h
theorem b4W{e:Expr}{i:Int}(h:b7z e=some i):∃k q,e=.Constant (.int i) k q:=by
 unfold b7z at h
 split at h
 · split at h
   · cases h;exact⟨_,_,rfl⟩
   · cases h
 · cases h
theorem b5s:∀{ks:List (Option Expr)} {vs:List Expr} {kvs:List (D×D)},a9J ks vs=some kvs->∃trs gs,PPs X pos ks vs trs/\ks.all (·.isSome)=true/\ks.length=vs.length/\ks.length=kvs.length/\gs.length=kvs.length/\kvs.map (·.1)=(gs.map (·.1)).map kDg∧
 (∀σ H Q,Q (gs.map fun kv=>(kV kv.1,kv.2)) H->a4y trs σ H Q)/\∀m H,DK m H kvs gs
 |[],vs,kvs,h=>by
  unfold a9J at h
  split at h
  · rename_i e
    cases isEmpty_iff.mp e
    cases h;exact⟨[],[],b3E,rfl,rfl,rfl,rfl,rfl,fun _ _ _ q=>q,fun _ _=>.nil⟩
  · cases h
 |k::ks,vs,kvs,h=>by
  unfold a9J at h
  split at h
  · cases h
  · rename_i v r
    split at h
    · rename_i s i l h1 h2 h3;cases h;obtain⟨e,rfl,h1⟩:=Option.bind_eq_some_iff.mp h1;obtain⟨_,_,rfl⟩:=b4V h1;obtain⟨_,_,rfl⟩:=b4W h2;obtain⟨trs,gs,g1,g2,g3,g4,g5,g6,g7,g8⟩:=b5s h3;exact⟨(tC (.str s),tC (.int i))::trs,(.inr s,.int i)::gs,b0T b0Z b1c g1,g2,congrArg (· +1) g3,congrArg (· +1) g4,congrArg (· +1) g5,by rw[map_cons,g6];rfl,fun σ H Q q=>g7 σ H _ q,fun m H=>.cons ⟨rfl,rfl⟩ (g8 m H)⟩
    · cases h
theorem b7U{ks:List (Option Expr)}{vs:List Expr}(h0:ks≠[])(h:a9J ks vs=some kvs)(hk:b7v kvs=true):PE X (.Dict ks vs pos) (TEv Γ Ex (ev ct c (.dlit kvs))):=by
 unfold b7v at hk;rw[ae] at hk;have h15:=aw hk.1;obtain⟨trs,gs,g1,g2,g3,g4,g5,g6,g7,g8⟩:=b5s (X:=X) (pos:=pos) h
 have nd:(gs.map (·.1)).Nodup:=by
  have:=a3X hk.2
  rw[g6] at this;exact List.Pairwise.of_map _ (fun a b h e=>h (by rw[e])) this
 refine PE.imp (b3O g1 g2 g3 h0 (by omega)) ?_
 rintro σ H Q ⟨env,ah,m,rl,q⟩;rw[ev] at q;intro p hp;refine g7 σ _ _ ⟨b9,gs,rfl,by omega,?_⟩
 rw[a8Q,a3d gs [] nd];exact q.newc rl.sim hp (.inl ⟨gs,b9,g8 _ _⟩)
theorem b9S{k:D}:∀{kvs:List (D×D)} {gs:List (List Key×V)},DT m H kvs gs->w8 k kvs=true->(G2 k).isSome=true->kvs.isEmpty=true
 |_,_,.nil,_,_=>rfl
 |p::ps,_,.cons h t,hk,hs=>by
  obtain⟨⟨l,e1,e2⟩,_⟩:=h;unfold w8 at hk;rw[all_cons,e1] at hk;simp only[G5,e2,Option.isSome_some,if_true] at hk
  cases k<;>simp[G2,G5] at hk hs
theorem b7V (C:Cxt X Γ G ct c Ex N sc dfn) (hpb:V7 e=true) (hline:(apos.endLine==pos.line)=true) (hpa:o5 a=true) (hpc:o5 b=true) (ho:PE X e (TEv Γ Ex (ev ct c x))) (ha:PE X a (TEv Γ Ex (ev ct c y))) (hb:PE X b (TEv Γ Ex (ev ct c z))):
 PE X (.Call (.Attribute e "get" apos) [a,b] [] pos) (TEv Γ Ex (ev ct c (.dget x y z))):=by
 have t:backTo pos (starEach [a,b] X.env)=[(false,eval a X.env),(false,eval b X.env)]:=by rw[c9 hpa,c9 hpc];rfl
 refine PE.imp (b1f (hu1 C.hu) ho ha hb ⟨Y3 hpb,by rw[t];rfl,hline,t⟩) ?_
 rintro σ H Q ⟨env,ah,m,rl,q⟩;rw[ev] at q;refine⟨env,ah,m,rl,d9.first rl q fun d1 ah1 m1 H1 v1 p1 k1 rl1 r1 q1=>?_⟩
 split at q1
 · rename_i hd; unfold b1I at hd
   split at hd
   · rename_i n
     split at hd
     · rename_i kvs0 e0;obtain⟨ad,rfl,hm⟩:=r1;refine⟨ad,rfl,?_,env,ah1,m1,rl1,d9.first rl1 q1 fun d2 ah2 m2 H2 v2 p2 k2 rl2 r2 q2=>⟨env,ah2,m2,rl2,d9.first rl2 q2 fun d3 ah3 m3 H3 v3 p3 k3 rl3 r3 q3=>?_⟩⟩
       · rcases rl1.sim.at hm e0 with⟨kvs,h1,_⟩|⟨kvs,h1,_⟩
         · exact .inl ⟨kvs,.inl h1⟩
         · exact .inr ⟨kvs,.inl h1⟩
       · unfold a6x at q3
         simp only at q3
         split at q3
         · rename_i kvs e3
           split at q3
           · rename_i hk;rw[ae] at hk;obtain⟨hk1,hk2⟩:=hk;obtain⟨k,hk⟩:=Option.isSome_iff_exists.mp hk2;have hm3:=p3.get (p2.get hm)
             rcases rl3.sim.at hm3 e3 with⟨gs,h1,h2⟩|⟨gs,h1,h2⟩
             · obtain⟨o,g,o1,o2⟩:=a1z (Keep.refl m3 H3) (r2.mono p3 k3) (.inl ⟨k,gs,hk,h1,h2⟩);refine⟨H3,fun _ _ _ z=>z,o,g,?_⟩
               cases hg:n9 kvs d2 with
               |none=>
                rw[hg] at o1 q3
                cases o with
                |none=>exact q3.ok rl3.sim r3
                |some w=>cases o1
               |some w=>
                rw[hg] at q3;obtain⟨v,rfl,rv⟩:=o2 w hg;exact q3.ok rl3.sim rv
             · have e0:=isEmpty_iff.mp (b9S h2 hk1 hk2);subst e0;cases h2
               have kp:Keep m3 m3 H3 (upd H3 ad (.dK [])):=Keep.put hm3 h1 fun z=>z
               have S':=rl3.sim.write (o':=.dK []) (c:=.dict []) hm3 h1 (fun z=>z) (.inl ⟨[],b9,.nil⟩)
               rw[show ah3.set n (.dict [])=ah3 from a2P e3] at S';refine⟨upd H3 ad (.dK []),fun _ _ _ I=>b0G I h1,none,.inl ⟨[],k,.inl b9,W5 hk (r2.mono p3 k3),rfl⟩,?_⟩
               exact q3 m3 _ _ (Pre.refl m3) kp S' (r3.mono (Pre.refl m3) kp)
           · exact q3.elim
         · exact q3.elim
     · cases hd
   · cases hd
 · exact q1.elim
end
theorem a7R{m:List Addr}{H:Hp}{lo:Int}:∀l:List Nat,Rps m H (l.map fun i=>D.int (lo+(i:Nat))) (l.map fun(i:Nat)=>V.int (lo+i))
 |[]=>rfl
 |_::r=>⟨_,_,rfl,rfl,a7R r⟩
variable{X:Cx}{Γ:Gm}{G:GT}{ct:CT}{c:CF}{Ex:XK}{N:List Str}{sc:Scope}{dfn:Bool}{pos:Pos}{pos2:Pos}{p2:Pos}
theorem b7M{a b:Expr}{p:Pos}{x y:E}(C:Cxt X Γ G ct c Ex N sc dfn)(hg:J3 sc "tuple"=true)(hm:X.mg "tuple"=none)(hg2:J3 sc "range"=true)(hm2:X.mg "range"=none)(hp:o5 a=true)(hpb:o5 b=true)(ha:PE X a (TEv Γ Ex (ev ct c x)))(hb:PE X b (TEv Γ Ex (ev ct c y))):
 PE X (.Call (.Name "tuple" p) [.Call (.Name "range" p2) [a,b] [] pos2] [] pos) (TEv Γ Ex (ev ct c (.trng x y))):=by
 have hr:PE X (.Call (.Name "range" p2) [a,b] [] pos2) (tCB b8G (b0h (TEv Γ Ex (ev ct c x)) (b0h (TEv Γ Ex (ev ct c y)) b5F))):=K8 b2A (C.gl hg2) hm2 boot_range (L5 ha (L5 hb a0R (c9 hpb)) (c9 hp)) (by decide) (by decide) (c9 hp) (U5 (by simp[hpb]))
 refine PE.imp (K8 (a9O C.calm) (C.gl hg) hm PyProof.Rows.boot_tuple (L5 hr a0R (c9 rfl)) (by decide) (by decide) (c9 rfl) rfl) ?_
 rintro σ H Q ⟨env,ah,m,rl,q⟩;rw[ev] at q;refine⟨env,ah,m,rl,d9.first rl q fun d1 ah1 m1 H1 v1 p1 k1 rl1 r1 q1=>⟨env,ah1,m1,rl1,d9.first rl1 q1 fun d2 ah2 m2 H2 v2 p2 k2 rl2 r2 q2=>?_⟩⟩
 unfold a5J at q2
 split at q2
 · rename_i i j;cases r1;cases r2
   split at q2
   · rename_i hh;refine⟨i,j,rfl,fun r hr=>⟨r,i,j,rfl,b9,⟨(u7 hh.1.1).1,(u7 hh.1.1).2,(u7 hh.1.2).1,(u7 hh.1.2).2⟩,hh.2,fun t ht=>?_⟩⟩
     exact(q2.later (Pre.refl m2) (Keep.new hr)).newt (rl2.sim.new hr) ht (a7R _)
   · exact q2.elim
 · exact q2.elim
theorem Rps.rev{m:List Addr}{H:Hp}:∀{l:List D} {vs:List V},Rps m H l vs->Rps m H l.reverse vs.reverse
 |[],_,h=>by cases h;rfl
 |d::l,_,⟨v,vs,e,h1,h2⟩=>by
  subst e;rw[reverse_cons,reverse_cons];exact(Rps.rev h2).snoc h1
theorem c0t{a:Expr}{p:Pos}{x:E}(C:Cxt X Γ G ct c Ex N sc dfn)(hg:J3 sc "list"=true)(hm:X.mg "list"=none)(hg2:J3 sc "reversed"=true)(hm2:X.mg "reversed"=none)(hp:o5 a=true)(ha:PE X a (TEv Γ Ex (ev ct c x))):
 PE X (.Call (.Name "list" p) [.Call (.Name "reversed" p2) [a] [] pos2] [] pos) (TEv Γ Ex (ev ct c (.rev x))):=by
 refine PE.imp (b6i (C.gl hg) hm (C.gl hg2) hm2 C.calm ha (c9 hp)) ?_
 rintro σ H Q ⟨env,ah,m,rl,q⟩;rw[ev] at q;refine⟨env,ah,m,rl,d9.first rl q fun d1 ah1 m1 H1 v1 p1 k1 rl1 r1 q1=>?_⟩
 unfold b0F at q1
 split at q1
 · split at q1
   · rename_i e;obtain⟨ad,vs,rfl,_,h1,rs⟩:=rl1.sim.lst e r1;exact⟨ad,vs,rfl,h1,fun p hp=>q1.newc rl1.sim hp ⟨_,b9,rs.rev.mono (Pre.snoc m1 p) (Keep.newc hp)⟩⟩
   · exact q1.elim
 · exact q1.elim
section
variable{e a b:Expr}{p:Pos}{x y z:E}
theorem c0s(C:Cxt X Γ G ct c Ex N sc dfn)(hpb:V7 e=true)(hline:(apos.endLine==pos.line)=true)(ho:PE X e (TEv Γ Ex (ev ct c x))):PE X (.Call (.Attribute e "reverse" apos) [] [] pos) (TEv Γ Ex (ev ct c (.rvs x))):=by
 refine PE.imp (b6o PySem.F.plainAttrs_list PySem.F.slot_list_reverse PySem.F.type_list_reverse a7e ho (Y3 hpb) hline) ?_
 rintro σ H Q ⟨env,ah,m,rl,q⟩;rw[ev] at q;refine⟨env,ah,m,rl,d9.first rl q fun d1 ah1 m1 H1 v1 p1 k1' rl1 r1 q1=>?_⟩
 split at q1
 · split at q1
   · rename_i l e0;obtain⟨ad,vs,rfl,hm,h1,rs⟩:=rl1.sim.lst e0 r1
     have kp:Keep m1 m1 H1 (upd H1 ad (.lst vs.reverse)):=Keep.put hm h1 fun z=>z
     exact⟨.inl ⟨rfl,vs,.inl (.inl h1)⟩,ad,vs,rfl,rfl,h1,q1 m1 _ _ (Pre.refl m1) kp (rl1.sim.write hm h1 (fun z=>z) ⟨_,b9,rs.rev.mono (Pre.refl m1) kp⟩) rfl⟩
   · exact q1.elim
 · exact q1.elim
end
noncomputable def TGv(Γ:Gm)(p:Pat):TG:=fun v σ H Q=>∃env d m env',EnvRel m H env σ/\Rp m H d v/\J2 p d env=some env'/\∀σ',EnvRel m H env' σ'->σ'.length=σ.length->(∀(j:Nat),j∉J6 p->σ'[j]? =σ[j]?)->Q σ' H
noncomputable def c1K(Γ:Gm)(p:Pats):TGs:=fun vs σ H Q=>∃env ds m env',EnvRel m H env σ/\Rps m H ds vs/\M8 p ds env=some env'/\∀σ',EnvRel m H env' σ'->σ'.length=σ.length->(∀(j:Nat),j∉a0y p->σ'[j]? =σ[j]?)->Q σ' H
noncomputable def a2v:Pats->Nat
 |.nil=>0
 |.cons _ r=>a2v r+1
theorem a1f:∀(ps:Pats) {ds:List D} {env env':t9},M8 ps ds env=some env'->ds.length=a2v ps
 |.nil,ds,env,env',h=>by
  cases ds with
  |nil=>rfl
  |cons d r=>simp only[M8] at h;cases h
 | .cons p r,ds,env,env',h=>by
  cases ds with
  |nil=>simp only[M8] at h;cases h
  |cons d t=>
   simp only[M8] at h
   split at h
   · rw[length_cons,a1f r h];rfl
   · cases h
variable{es:List Expr}{i:Nat}{n:Nat}{cc:Cell}{ah:AH}{K:PySem.W.Frag}{l:List D}{m0:List Addr}{H0:Hp}{vs:List V}{z:Str}{lo:Int}{ds:List D}{elts:List Expr}{kk:Nat}{tp:Pos}
section
theorem PG.imp{e:Expr}{t t':TG}(h:PG X e t)(i:∀v σ H Q,t' v σ H Q->t v σ H Q):PG X e t':=fun pins s σ H v u Q I r q=>h pins s σ H v u Q I r (i _ _ _ _ q)
theorem PGs.imp{t t':TGs}(h:PGs X es t)(i:∀v σ H Q,t' v σ H Q->t v σ H Q):PGs X es t':=fun pins s σ H v u Q I r q=>h pins s σ H v u Q I r (i _ _ _ _ q)
theorem a3v{env:Env}:∀{es:List Expr},(assignEach es env).length=es.length
 |[]=>rfl
 |e::r=>by
  have:=a3v (env:=env) (es:=r)
  cases e<;>simp only[assignEach,length_cons]<;>rw[this]
theorem Cxt.loc(C:Cxt X Γ G ct c Ex N sc dfn){n:Str}(h:b1H dfn sc n=true):Loc X.env.scope n/\(X.fn n=true∨X.env.scope.names.lookup n=some .local):=by
 rw[C.sc];unfold b1H at h;unfold L2.Loc
 split at h
 · rename_i e;exact⟨.inl e,.inr e⟩
 · rename_i e;exact⟨.inr e,.inl (C.fnb h n)⟩
 · cases h
theorem a2M(C:Cxt X Γ G ct c Ex N sc dfn){n:Str}(h:a2N dfn N sc n=some i):X.N[i]? =some n/\Loc X.env.scope n/\(X.fn n=true∨X.env.scope.names.lookup n=some .local):=by
 unfold a2N at h
 split at h
 · rename_i hl;rw[C.hN];exact⟨a5c h,C.loc hl⟩
 · cases h
theorem b5v (C:Cxt X Γ G ct c Ex N sc dfn):∀n,(∀e p,a9Q dfn N sc n e=some p->PG X e (TGv Γ p)/\o5 e=true)/\∀es ps,a3r dfn N sc n es=some ps->PGs X es (c1K Γ ps)/\a2v ps=es.length/\(assignEach es X.env).findIdx? (·.1)=none:=by
 intro n
 induction n with
 |zero=>exact⟨fun e p h=>(by simp only[a9Q] at h;cases h),fun es ps h=>(by simp only[a3r] at h;cases h)⟩
 | succ n ih=>
  obtain⟨ih1,ih2⟩:=ih;refine⟨fun e p h=>?_,fun es ps h=>?_⟩
  · cases e<;>simp only[a9Q] at h<;>first|(cases h;done)|skip
    · rename_i nm pos
      cases hs:a2N dfn N sc nm with
      |none=>rw[hs] at h;cases h
      |some i=>
       rw[hs] at h;cases h
       obtain⟨h1,h2,h3⟩:=a2M C hs;refine⟨PG.imp (b3N (by rw[C.hN];exact C.nd) h1 h2 h3) ?_,rfl⟩
       rintro v σ H Q ⟨env,d,m,env',er,r,hb,q⟩;simp only[J2] at hb;cases hb;exact q _ (er.set r) (by simp) fun j hj=>List.getElem?_set_ne (fun e=>hj (by simp[J6,e]))
    · rename_i es k pos
      cases hs:a3r dfn N sc n es with
      |none=>rw[hs] at h;cases h
      |some ps=>
       rw[hs] at h;cases h
       obtain⟨h1,h2,h3⟩:=ih2 es ps hs;refine⟨PG.imp (b6f C.calm h1 a3v h3) ?_,rfl⟩
       rintro v σ H Q ⟨env,d,m,env',er,r,hb,q⟩;simp only[J2] at hb
       cases d<;>first|(cases hb;done)|skip
       rename_i ds;obtain⟨a,vs,rfl,ha,rs⟩:=r;refine⟨a,vs,rfl,.inl (.inl ha),by rw[rs.len,a1f ps hb,h2],env,ds,m,env',er,rs,hb,fun σ' r' l' s'=>q σ' r' l' s'⟩
  · cases es with
    | nil=>
     simp only[a3r] at h;cases h;refine⟨PGs.imp b3M ?_,rfl,rfl⟩
     rintro vs σ H Q ⟨env,ds,m,env',er,rs,hb,q⟩;have hl:=a1f .nil hb
     have:vs=[]:=length_eq_zero_iff.mp (rs.len.trans hl)
     subst this
     cases ds with
     |nil=>
      simp only[M8] at hb;cases hb;exact⟨rfl,q σ er rfl fun _ _=>rfl⟩
     |cons d r=>cases hl
    |cons e r=>
     simp only[a3r] at h
     split at h
     · rename_i p ps' h1 h2;cases h;obtain⟨g1,g2⟩:=ih1 e p h1;obtain⟨g3,g4,g5⟩:=ih2 r ps' h2
       have hst:(assignEach (e::r) X.env)=(false,assign e X.env)::assignEach r X.env:=by cases e<;>first|rfl|cases g2
       refine⟨PGs.imp (b0X g1 g3 (by rw[hst];rfl)) ?_,by simp only[a2v,length_cons,g4],by rw[hst,List.findIdx?_cons,g5];rfl⟩
       rintro vs σ H Q ⟨env,ds,m,env',er,rs,hb,q⟩
       cases ds with
       |nil=>simp only[M8] at hb;cases hb
       |cons d t=>
        simp only[M8] at hb
        split at hb
        · rename_i env1 hb1;obtain⟨v,vt,rfl,rd,rt⟩:=rs;refine⟨v,vt,rfl,env,d,m,env1,er,rd,hb1,fun σ1 er1 l1 s1=>⟨env1,t,m,env',er1,rt,hb,fun σ' er' l' s'=>q σ' er' (l'.trans l1) fun j hj=>?_⟩⟩
          simp only[a0y,aK,not_or] at hj;rw[s' j hj.2,s1 j hj.1]
        · cases hb
     · cases h
def a7z(Γ:Gm)(J:It)(its:List D)(g:List (Nat×Cell))(m0:List Addr)(H0:Hp):Prop:=∀(i:Nat) (ah:AH) (m:List Addr) (H:Hp),Pre m0 m->Keep m0 m H0 H->Sim Γ ah m H->gOk g ah=true→
 (i=its.length->J.stop i H)/\∀d,its[i]? =some d->J.go i H/\∀v H',J.yld i H v H'->Keep m m H H'/\Sim Γ ah m H'/\Rp m H' d v
def TIv(Γ:Gm)(E:XK)(f:t9->AH->R Its):TI:=fun σ H R=>∃env ah m,Rel Γ env ah σ H m/\i9 Γ E m H (f env ah) (fun x ah1 m1 H1=>Sim Γ ah1 m1 H1->∀J,a7z Γ J x.1 x.2 m1 H1->R J H1)
theorem b7e(h:gOk [(n,cc)] ah=true):ah[n]? =some cc:=by
 unfold gOk at h;rw[all_cons,ae] at h;exact aw h.1
theorem O3(hK:K=Γ.K){a:Addr}(h:cc=.lst l∨cc=.rol l)(S:Sim Γ ah m H)(hm:m[n]? =some a)(e:ah[n]? =some cc):∃vs,SqL K H a vs/\Rps m H l vs:=by
 have:rdL ah n=some l:=by
  unfold rdL
  rcases h with rfl|rfl<;>rw[e]
 obtain⟨a',vs,e1,e2,e3,e4⟩:=S.rdL this ⟨a,rfl,hm⟩;rw[hm] at e2;cases e2;exact⟨vs,by rw[hK];exact e3,e4⟩
theorem a8k(hK:K=Γ.K){a:Addr}(h:cc=.lst l∨cc=.rol l)(hm:m0[n]? =some a):a7z Γ (Itl K a) l [(n,cc)] m0 H0:=by
 intro i ah m H p k0 S g;obtain⟨vs,h1,h2⟩:=O3 hK h S (p.get hm) (b7e g);refine⟨fun hi=>⟨vs,h1,by rw[h2.len,hi];exact ai _⟩,fun d hd=>?_⟩
 obtain⟨v,hv,rv⟩:=h2.get hd;refine⟨⟨vs,v,h1,hv⟩,?_⟩
 rintro w H' ⟨rfl,hw⟩
 have:=hw vs h1
 rw[hv] at this;cases this;exact⟨Keep.refl _ _,S,rv⟩
theorem a4i:∀{l:List D} {n i:Nat} {d:D},(y0 n l)[i]? =some d->∃x,l[i]? =some x/\d=.tup [.int ((n+i:Nat):Int),x]
 |[],_,_,_,h=>by simp[y0] at h
 |x::r,n,0,d,h=>by
  simp only[y0,List.getElem?_cons_zero] at h
  cases h;exact⟨x,rfl,rfl⟩
 |x::r,n,i+1,d,h=>by
  simp only[y0,List.getElem?_cons_succ] at h
  obtain⟨y,h1,h2⟩:=a4i h;exact⟨y,by simpa using h1,by rw[h2];congr 3;omega⟩
theorem a4h:∀{l:List D} {n:Nat},(y0 n l).length=l.length
 |[],_=>rfl
 |x::r,n=>by simp only[y0,length_cons,a4h]
theorem a8l(hK:K=Γ.K){a:Addr}(h:cc=.lst l∨cc=.rol l)(hm:m0[n]? =some a):a7z Γ (Ite K a) (y0 0 l) [(n,cc)] m0 H0:=by
 intro i ah m H p k0 S g;obtain⟨vs,h1,h2⟩:=O3 hK h S (p.get hm) (b7e g);refine⟨fun hi=>⟨vs,h1,by rw[h2.len,hi,a4h];exact ai _⟩,fun d hd=>?_⟩
 obtain⟨x,hx,rfl⟩:=a4i hd;obtain⟨v,hv,rv⟩:=h2.get hx;refine⟨⟨vs,v,h1,hv⟩,?_⟩
 rintro w H' ⟨T,y,hT,rfl,hw,rfl⟩
 have:=hw vs h1
 rw[hv] at this;cases this;refine⟨Keep.new hT,S.new hT,T,[.int i,v],rfl,b9,.int i,[v],rfl,?_,v,[],rfl,rv.mono (Pre.refl m) (Keep.new hT),rfl⟩
 show V.int (i:Int)=V.int ((0+i:Nat):Int)
 rw[aB]
theorem b6T{a:Addr}(ha:H0 a=some (.tup vs))(r:Rps m0 H0 l vs):a7z Γ (Itt K a) l [] m0 H0:=by
 intro i ah m H p k0 S g;have h1:=k0.tup ha;have h2:=r.mono p k0;refine⟨fun hi=>⟨vs,.inl (.inl h1),by rw[h2.len,hi];exact ai _⟩,fun d hd=>?_⟩
 obtain⟨v,hv,rv⟩:=h2.get hd;refine⟨⟨vs,v,.inl (.inl h1),hv⟩,?_⟩
 rintro w H' ⟨rfl,hw⟩
 have:=hw vs (.inl (.inl h1))
 rw[hv] at this;cases this;exact⟨Keep.refl _ _,S,rv⟩
theorem b6U:a7z Γ (L2.Its z) (Y1 z) [] m0 H0:=by
 intro i ah m H p k0 S g;refine⟨fun hi=>?_,fun d hd=>?_⟩
 · show i=z.cps.size
   rw[hi];simp[Y1]
 · unfold Y1 at hd;rw[aj] at hd
   cases hc:z.cps.toList[i]? with
   |none=>rw[hc] at hd;cases hd
   | some cc=>
    rw[hc] at hd;cases hd
    have hi:i<z.cps.size:=by
     have:=(ac.mp hc).1
     simpa using this
    refine⟨hi,?_⟩
    rintro v H' ⟨rfl,c',h1,rfl⟩;rw[Array.getElem?_toList] at hc
    rw[hc] at h1;cases h1;exact⟨Keep.refl _ _,S,rfl⟩
theorem b1F:a7z Γ (Itr lo n) (L8 lo n) [] m0 H0:=by
 intro i ah m H p k0 S g;refine⟨fun hi=>?_,fun d hd=>?_⟩
 · show n<=i
   rw[hi];simp[L8]
 · unfold L8 at hd;rw[aj] at hd
   cases hc:(List.range n)[i]? with
   |none=>rw[hc] at hd;cases hd
   |some j=>
    rw[hc] at hd;cases hd;obtain⟨h1,h2⟩:=ac.mp hc
    rw[List.getElem_range] at h2;rw[aI] at h1;subst h2;refine⟨h1,?_⟩
    rintro v H' ⟨rfl,rfl⟩;exact⟨Keep.refl _ _,S,rfl⟩
variable{tg a b:Expr}{x y:E}{p:Pos}
theorem c0r(C:Cxt X Γ G ct c Ex N sc dfn)(ha:PE X a (TEv Γ Ex (ev ct c x))):PI X tg a (TIv Γ Ex (evi ct c (.seq x))):=by
 intro pins s σ H R I ⟨env,ah,m,rl,q⟩;rw[evi] at q
 cases hr:ev ct c x env ah with
 | ok d ah1=>
  rw[hr,b8] at q;unfold V5 at q
  split at q
  · refine b6e ha pins s σ H R I ⟨env,ah,m,rl,?_⟩
    rw[hr];intro m1 H1 v p1 k1 s1 r1;cases r1;exact⟨_,rfl,(q m1 H1 p1 k1 s1) s1 _ b6U⟩
  · refine b0W ha pins s σ H R I ⟨env,ah,m,rl,?_⟩
    rw[hr];intro m1 H1 v p1 k1 s1 r1;obtain⟨ad,vs,rfl,h1,q1⟩:=r1;exact⟨ad,rfl,⟨vs,.inl (.inl h1)⟩,(q m1 H1 p1 k1 s1) s1 _ (b6T h1 q1)⟩
  · rename_i n;refine b3K ha pins s σ H R I ⟨env,ah,m,rl,?_⟩
    rw[hr];intro m1 H1 v p1 k1 s1 r1
    split at q
    · rename_i l e;obtain⟨ad,vs,rfl,hm,h1,q1⟩:=s1.lst e r1;exact⟨ad,rfl,⟨vs,.inl (.inl h1)⟩,(q m1 H1 p1 k1 s1) s1 _ (a8k C.K (.inl rfl) hm)⟩
    · rename_i l e;obtain⟨ad,vs,rfl,hm,h1,q1⟩:=s1.rdL (l:=l) (by unfold rdL;rw[e]) r1
      exact⟨ad,rfl,⟨vs,by rw[C.K];exact h1⟩,(q m1 H1 p1 k1 s1) s1 _ (a8k C.K (.inr rfl) hm)⟩
    · exact q.elim
  · exact q.elim
 |no=>rw[hr] at q;exact q.elim
theorem c0C{n:Str}(C:Cxt X Γ G ct c Ex N sc dfn)(hg:J3 sc n=true)(ht:G.tups.lookup n=some ds):PI X tg (.Name n p) (TIv Γ Ex (evi ct c (.gsq ds))):=by
 obtain⟨ad,vs,h1,h2,h3⟩:=C.tups n ds ht
 have hb:PE X (.Name n p) (tC (.ref ad)):=a1n (C.gl hg) h1 rfl (W7 hg).2.1
 intro pins s σ H R I ⟨env,ah,m,rl,q⟩;refine b0W hb pins s σ H R I ⟨ad,rfl,⟨vs,h2 H⟩,?_⟩
 rw[evi] at q;refine q.ok rl.sim rl.sim _ ?_
 intro i ah m H p k0 S g;refine⟨fun hi=>⟨vs,h2 H,by rw[(h3 m H).len,hi];exact ai _⟩,fun d hd=>?_⟩
 obtain⟨v,hv,rv⟩:=(h3 m H).get hd;refine⟨⟨vs,v,h2 H,hv⟩,?_⟩
 rintro w H' ⟨rfl,hw⟩
 have:=hw vs (h2 H')
 rw[hv] at this;cases this;exact⟨Keep.refl _ _,S,rv⟩
theorem b7O(C:Cxt X Γ G ct c Ex N sc dfn)(hg:J3 sc "range"=true)(hm:X.mg "range"=none)(hp:o5 a=true)(ha:PE X a (TEv Γ Ex (ev ct c x))):PI X tg (.Call (.Name "range" p) [a] [] pos) (TIv Γ Ex (evi ct c (.rng1 x))):=by
 intro pins s σ H R I ⟨env,ah,m,rl,q⟩;refine a9l (C.gl hg) hm (L5 ha a0R (c9 hp)) (c9 hp) pins s σ H R I ⟨env,ah,m,rl,?_⟩
 rw[evi] at q;refine i9.first rl q fun d1 ah1 m1 H1 v1 p1 k1 rl1 r1 q1=>?_
 unfold a6Y at q1
 split at q1
 · rename_i i j e1;cases e1;cases r1
   split at q1
   · rename_i hh;refine⟨j,rfl,(u7 hh.2).1,(u7 hh.2).2,?_⟩
     have:=q1.ok rl1.sim rl1.sim (Itr 0 (j-0).toNat) b1F
     rwa [Int.sub_zero] at this
   · exact q1.elim
 · exact q1.elim
theorem b7N(C:Cxt X Γ G ct c Ex N sc dfn)(hg:J3 sc "range"=true)(hm:X.mg "range"=none)(hp:o5 a=true)(hpb:o5 b=true)(ha:PE X a (TEv Γ Ex (ev ct c x)))(hb:PE X b (TEv Γ Ex (ev ct c y))):PI X tg (.Call (.Name "range" p) [a,b] [] pos) (TIv Γ Ex (evi ct c (.rng2 x y))):=by
 intro pins s σ H R I ⟨env,ah,m,rl,q⟩;refine a9k (C.gl hg) hm (L5 ha (L5 hb a0R (c9 hpb)) (c9 hp)) (by rw[c9 hp,c9 hpb];rfl) (c9 hpb) pins s σ H R I ⟨env,ah,m,rl,?_⟩
 rw[evi] at q;refine i9.first rl q fun d1 ah1 m1 H1 v1 p1 k1 rl1 r1 q1=>?_
 refine⟨env,ah1,m1,rl1,i9.first rl1 q1 fun d2 ah2 m2 H2 v2 p2 k2 rl2 r2 q2=>?_⟩
 unfold a6Y at q2
 split at q2
 · cases r1;cases r2
   split at q2
   · rename_i hh;exact⟨_,_,rfl,⟨(u7 hh.1).1,(u7 hh.1).2,(u7 hh.2).1,(u7 hh.2).2⟩,q2.ok rl2.sim rl2.sim _ b1F⟩
   · exact q2.elim
 · exact q2.elim
theorem c1o{g:Nat×Cell}{g':List (Nat×Cell)}(h:gOk (g::g') ah=true):ah[g.1]? =some g.2/\gOk g' ah=true:=by
 unfold gOk at h⊢;rw[all_cons,ae] at h;exact⟨aw h.1,h.2⟩
theorem a6l{a:List D×Cell}(h:a6m ah n=some a):ah[n]? =some a.2/\(a.2=.lst a.1∨a.2=.rol a.1):=by
 unfold a6m at h
 split at h
 · rename_i l e;cases h;exact⟨e,.inl rfl⟩
 · rename_i l e;cases h;exact⟨e,.inr rfl⟩
 · cases h
theorem a5E:∀{l l':List D} {i:Nat} {d:D},(a1i l l')[i]? =some d->∃x y,l[i]? =some x/\l'[i]? =some y/\d=.tup [x,y]
 |[],l',i,d,h=>by simp[a1i] at h
 |x::xs,[],i,d,h=>by simp[a1i] at h
 |x::xs,y::ys,0,d,h=>by
  simp only[a1i,List.getElem?_cons_zero] at h
  cases h;exact⟨x,y,rfl,rfl,rfl⟩
 |x::xs,y::ys,i+1,d,h=>by
  simp only[a1i,List.getElem?_cons_succ] at h
  obtain⟨a,b,h1,h2,h3⟩:=a5E h;exact⟨a,b,by simpa using h1,by simpa using h2,h3⟩
theorem a5D:∀{l l':List D},l.length<=(a1i l l').length∨l'.length<=(a1i l l').length
 |[],l'=>.inl (Nat.zero_le _)
 |x::xs,[]=>.inr (Nat.zero_le _)
 |x::xs,y::ys=>by
  simp only[a1i,length_cons]
  rcases a5D (l:=xs) (l':=ys) with h|h
  · exact .inl (Nat.succ_le_succ h)
  · exact .inr (Nat.succ_le_succ h)
theorem b6S(hK:K=Γ.K){n':Nat}{a a':Addr}{l':List D}{cc':Cell}(h:cc=.lst l∨cc=.rol l)(h':cc'=.lst l'∨cc'=.rol l')(hm:m0[n]? =some a)(hm':m0[n']? =some a'):
 a7z Γ (Itz K a a') (a1i l l') [(n,cc),(n',cc')] m0 H0:=by
 intro i ah m H p k0 S g;obtain⟨g1,g2⟩:=c1o g;obtain⟨vs,h1,h2⟩:=O3 hK h S (p.get hm) g1;obtain⟨ws,h3,h4⟩:=O3 hK h' S (p.get hm') (b7e g2);refine⟨fun hi=>⟨vs,ws,h1,h3,?_⟩,fun d hd=>?_⟩
 · rw[h2.len,h4.len,hi];exact a5D
 · obtain⟨x,y,hx,hy,rfl⟩:=a5E hd;obtain⟨v,hv,rv⟩:=h2.get hx;obtain⟨u,hu,ru⟩:=h4.get hy;refine⟨⟨vs,ws,v,u,h1,h3,hv,hu⟩,?_⟩
   rintro w H' ⟨T,z,z',hT,rfl,hw,hw',rfl⟩;have e1:=hw vs h1;have e2:=hw' ws h3;rw[hv] at e1;rw[hu] at e2;cases e1;cases e2;exact⟨Keep.new hT,S.new hT,T,[v,u],rfl,b9,v,[u],rfl,rv.mono (Pre.refl m) (Keep.new hT),u,[],rfl,ru.mono (Pre.refl m) (Keep.new hT),rfl⟩
theorem c0o(C:Cxt X Γ G ct c Ex N sc dfn)(hg:J3 sc "zip"=true)(hm:X.mg "zip"=none)(hp:o5 a=true)(hpb:o5 b=true)(ha:PE X a (TEv Γ Ex (ev ct c x)))(hb:PE X b (TEv Γ Ex (ev ct c y))):PI X (.Tuple elts kk tp) (.Call (.Name "zip" p) [a,b] [] pos) (TIv Γ Ex (evi ct c (.zip x y))):=by
 intro pins s σ H R I ⟨env,ah,m,rl,q⟩;refine b6d (C.gl hg) hm (L5 ha (L5 hb a0R (c9 hpb)) (c9 hp)) (c9 hp) (U5 (by simp[hpb])) pins s σ H R I ⟨env,ah,m,rl,?_⟩
 rw[evi] at q;refine i9.first rl q fun d1 ah1 m1 H1 v1 p1 k1 rl1 r1 q1=>?_
 refine⟨env,ah1,m1,rl1,i9.first rl1 q1 fun d2 ah2 m2 H2 v2 p2 k2 rl2 r2 q2=>?_⟩
 unfold b2T at q2
 split at q2
 · split at q2
   · rename_i e1 e2;obtain⟨c1,w1⟩:=a6l e1;obtain⟨c2,w2⟩:=a6l e2;obtain⟨ad,rfl,hm1⟩:=r1.mono p2 k2;obtain⟨ad',rfl,hm2⟩:=r2;obtain⟨vs,h1,_⟩:=O3 C.K w1 rl2.sim hm1 c1;obtain⟨ws,h2,_⟩:=O3 C.K w2 rl2.sim hm2 c2;exact⟨ad,ad',vs,ws,rfl,h1,h2,q2.ok rl2.sim rl2.sim _ (b6S C.K w1 w2 hm1 hm2)⟩
   · exact q2.elim
 · exact q2.elim
theorem b7S(C:Cxt X Γ G ct c Ex N sc dfn)(hg:J3 sc "enumerate"=true)(hm:X.mg "enumerate"=none)(hp:o5 a=true)(ha:PE X a (TEv Γ Ex (ev ct c x))):PI X (.Tuple elts kk tp) (.Call (.Name "enumerate" p) [a] [] pos) (TIv Γ Ex (evi ct c (.enum x))):=by
 intro pins s σ H R I ⟨env,ah,m,rl,q⟩;refine b3L (C.gl hg) hm (L5 ha a0R (c9 hp)) (c9 hp) pins s σ H R I ⟨env,ah,m,rl,?_⟩
 rw[evi] at q;refine i9.first rl q fun d1 ah1 m1 H1 v1 p1 k1 rl1 r1 q1=>?_
 unfold Y7 at q1
 split at q1
 · split at q1
   · rename_i l e;obtain⟨ad,vs,rfl,hm,h1,_⟩:=rl1.sim.lst e r1;exact⟨ad,vs,rfl,.inl (.inl h1),q1.ok rl1.sim rl1.sim _ (a8l C.K (.inl rfl) hm)⟩
   · rename_i l e;obtain⟨ad,vs,rfl,hm,h1,_⟩:=rl1.sim.rdL (l:=l) (by unfold rdL;rw[e]) r1
     exact⟨ad,vs,rfl,by rw[C.K];exact h1,q1.ok rl1.sim rl1.sim _ (a8l C.K (.inr rfl) hm)⟩
   · exact q1.elim
 · exact q1.elim
end
variable{env:t9}{σ:St}{own:List Str}{js:List Nat}{p:Pat}{α:Type}{Q:VK}{it:I}{e:E}{elt:Expr}{iter:Expr}{tg:Expr}{ifs:List Expr}{scope:Scope}{frees:List Str}{op:CmpOp}{o:B}{β:Type}
section
theorem a6u(h:EnvRel m H env σ)(own:List Str)(js:List Nat):EnvRel m H (B0 own.length js env) (D0 own js σ):=by
 refine⟨by simp[B0,D0],fun i d e=>?_⟩
 unfold B0 at e;unfold D0
 by_cases hi:i<own.length
 · rw[av (by simpa using hi),bK,ay hi] at e
   cases e
 · have hi':own.length<=i:=aX hi
   rw[aq (by simpa using hi'),bu,aj] at e
   rw[aq (by simpa using hi'),aa,aj]
   cases hj:js[i-own.length]? with
   |none=>rw[hj] at e;cases e
   | some j=>
    rw[hj] at e
    have e':(env[j]?).join=some d:=ax e
    have e2:env[j]? =some (some d):=by
     cases q:env[j]? with
     |none=>rw[q] at e';cases e'
     |some z=>rw[q] at e';exact congrArg some e'
    obtain⟨v,h1,h2⟩:=h.val j d e2;exact⟨v,by rw[Option.map_some,h1];rfl,h2⟩
theorem b2U{σ4:St}(hp:(J6 p).all (fun i=>decide (i<own.length))=true)(hl:σ4.length=(D0 own js σ).length)(hs:∀(j:Nat),j∉J6 p->σ4[j]? =(D0 own js σ)[j]?):Wk (D0 own js σ) σ4:=by
 refine⟨hl.symm,fun i v h=>?_⟩
 rw[hs i]
 · exact h
 · intro hm
   have:=aw (bv.mp hp i hm)
   unfold D0 at h;rw[av (by simpa using this),aj] at h
   cases q:own[i]? with
   |none=>rw[q] at h;cases h
   |some z=>rw[q] at h;cases h
theorem a8d{r:R α}{f:α->AH->R D}(h:d9 Γ Ex m H (r.bind f) Q):∃a ah,r=.ok a ah/\d9 Γ Ex m H (f a ah) Q:=by
 cases r with
 |ok a ah=>exact⟨a,ah,rfl,h⟩
 |no=>exact h.elim
theorem a6z {t:T} (hp:(J6 p).all (fun i=>decide (i<own.length))=true):∀σ H Q,TEv Γ Ex (ev ct c (.comp p it own.length js t e)) σ H Q->a7G own js (TIv Γ Ex (evi ct c it)) (TGv Γ p) (TTv Γ E0 (tst ct c t)) (TEv Γ E0 (ev ct c e)) σ H Q:=by
 rintro σ H Q ⟨env,ah,m,rl,q⟩;rw[ev] at q;refine⟨env,ah,m,rl,q.bind.mp fun x ah1 m1 H1 p1 k1 s1 q1=>fun _ J hJ D hD=>?_⟩
 have er1:=rl.env.mono p1 k1
 refine⟨fun i mm ys H2=>mm=x.1.length-i/\i<=x.1.length/\∃acc ah2 m2,Sim Γ ah2 m2 H2/\Pre m1 m2/\Keep m1 m2 H1 H2/\D∉m2/\H2 D=some (.lst ys)/\Rps m2 H2 acc ys∧
  d9 Γ Ex m1 H1 ((T2 x.2 p (tst ct c t) (ev ct c e) (B0 own.length js env) (x.1.drop i) acc ah2).bind fun ds h2=>o9 (.lst ds) h2) Q,?_,?_⟩
 · exact⟨_,rfl,Nat.zero_le _,[],ah1,m1,s1.new hD,Pre.refl _,Keep.new hD,s1.fresh hD,b9,rfl,q1⟩
 · rintro i mm ys H2 ⟨hmm,hil,acc,ah2,m2,s2,p2,k2,nD,hD2,rs2,q2⟩
   by_cases hend:i=x.1.length
   · refine .inl ?_
     rw[hend,drop_length] at q2;obtain⟨ds,ah3,e3,q3⟩:=a8d q2;unfold T2 at e3
     split at e3
     · rename_i hgk;cases e3;refine⟨(hJ i ah2 m2 H2 p2 k2 s2 hgk).1 hend,?_⟩
       have sm:Sim Γ (ah2++[.lst acc]) (m2++[D]) H2:=by
        refine⟨by simp[s2.len],a0S s2.nd nD,fun n a cc hn hcc=>?_⟩
        have kk:Keep m2 m2 H2 H2:=Keep.refl _ _
        by_cases hl:n<m2.length
        · rw[av hl] at hn
          rw[av (by rw[←s2.len];exact hl)] at hcc
          exact(s2.at hn hcc).mono' (Pre.snoc m2 D) (fun _ _ _ z=>z) rfl
        · have hn':n=m2.length:=by
           have:=(ac.mp hn).1
           simp at this;omega
          subst hn';rw[aq (ai _)] at hn
          rw[s2.len,aq (ai _)] at hcc
          simp at hn hcc;subst hn;subst hcc
          exact⟨ys,hD2,rs2.mono' (Pre.snoc m2 D) fun _ _ _ z=>z⟩
       refine q3 (m2++[D]) H2 (.ref D) (p2.trans (Pre.snoc m2 D)) ⟨k2.im,k2.out,fun a ha=>?_⟩ sm ⟨D,rfl,?_⟩
       · rcases aK.mp ha with z|z
         · exact k2.fr a z
         · simp at z;subst z;exact .inr hD
       · rw[←s2.len,aq (ai _)];simp
     · cases e3
   · refine .inr ?_
     have hlt:i<x.1.length:=Nat.lt_of_le_of_ne hil hend
     have hdi:x.1[i]? =some x.1[i]:=af hlt
     rw[drop_eq_getElem_cons hlt] at q2;generalize hdd:x.1[i]=dd at q2 hdi;obtain⟨ds,ah3,e3,q3⟩:=a8d q2;unfold T2 at e3
     split at e3
     · rename_i hgk;obtain⟨go,yl⟩:=(hJ i ah2 m2 H2 p2 k2 s2 hgk).2 dd hdi;refine⟨go,fun v H3 hy=>?_⟩
       obtain⟨k3,s3,r3⟩:=yl v H3 hy
       split at e3
       · cases e3
       · rename_i envb hb
         have er3:EnvRel m2 H3 (B0 own.length js env) (D0 own js σ):=a6u ((er1.mono p2 k2).mono (Pre.refl m2) k3) own js
         refine⟨_,dd,m2,envb,er3,r3,hb,fun σ4 er4 l4 s4=>⟨b2U hp l4 s4,envb,ah2,m2,⟨s3,er4⟩,?_⟩⟩
         have hD3:H3 D=some (.lst ys):=k3.out D _ nD hD2
         have ab:∀{m9:List Addr} {H9:Hp},Pre m2 m9->Keep m2 m9 H3 H9->D∉m9/\H9 D=some (.lst ys):=fun{m9 H9} p9 k9=>
          ⟨fun z=>(k9.fr D z).elim nD fun y=>(by rw[hD3] at y;cases y),k9.out D _ nD hD3⟩
         cases ht:tst ct c t envb ah2 with
         |no=>rw[ht] at e3;cases e3
         | ok bb ah4=>
          rw[ht,b8] at e3;intro m5 H5 p5 k5 s5;obtain⟨nD5,hD5⟩:=ab p5 k5;have k25:=k3.trans k5
          cases bb with
          |false=>
           rw[az (by decide)] at e3
           refine b6R ⟨x.1.length-(i+1),by omega,rfl,hlt,acc,ah4,m5,s5,p2.trans p5,k2.trans k25,nD5,hD5,rs2.mono p5 k25,?_⟩
           rw[e3];exact q3
          | true=>
           rw[ay rfl] at e3;refine b6Q ⟨envb,ah4,m5,⟨s5,er4.mono p5 k5⟩,?_⟩
           cases hv:ev ct c e envb ah4 with
           |no=>rw[hv] at e3;cases e3
           | ok d6 ah6=>
            rw[hv,b8] at e3
            split at e3
            · rename_i hz;intro m6 H6 v6 p6 k6 s6 r6;have k36:=k5.trans k6;obtain⟨nD6,hD6⟩:=ab (p5.trans p6) k36;have rs6:=rs2.mono (p5.trans p6) (k25.trans k6)
              have im6:KIm H6 (upd H6 D (.lst (ys++[v6]))):=fun b o io hbo=>by
               have:b≠D:=fun z=>by rw[z,hD6] at hbo;cases hbo;exact io
               rw[k8 this];exact hbo
              refine⟨hD6,by rw[rs6.len,←O4];exact hz,x.1.length-(i+1),by omega,rfl,hlt,acc++[d6],ah6,m6,?_,p2.trans (p5.trans p6),?_,nD6,b9,(rs6.snoc r6).mono' (Pre.refl m6) im6,?_⟩
              · refine⟨s6.len,s6.nd,fun n a cc hn hcc=>(s6.at hn hcc).mono' (Pre.refl m6) im6 ?_⟩
                exact k8 fun z=>nD6 (by rw[←z];exact aG hn)
              · have kall:=k2.trans (k25.trans k6);refine⟨fun b o io hb=>im6 b o io (kall.im b o io hb),fun b o nb hb=>?_,kall.fr⟩
                rw[k8 (u0 hb hD)];exact kall.out b o nb hb
              · rw[e3];exact q3
            · cases e3
     · cases e3
theorem b7X{t:T}(C:Cxt X Γ G ct c Ex N sc dfn)(hi:PI X tg iter (TIv Γ Ex (evi ct c it)))(S:CompScope X.env.scope scope own frees)(hj:frees.map some=js.map (X.N[·]?))
 (hg:∀C s₀ H₀ ex,PG (p0 X own frees scope C s₀ H₀ ex) tg (TGv Γ p)) (hc:∀C s₀ H₀ ex,a6L (p0 X own frees scope C s₀ H₀ ex) ifs (TTv Γ E0 (tst ct c t))) (he:∀C s₀ H₀ ex,PE (p0 X own frees scope C s₀ H₀ ex) elt (TEv Γ E0 (ev ct c e)))
 (hs:∀x,foldedSetIterable iter X.env x=pure x) (hp:(J6 p).all (fun i=>decide (i<own.length))=true):PE X (.ListComp elt [⟨tg,iter,ifs,0⟩] scope pos) (TEv Γ Ex (ev ct c (.comp p it own.length js t e))):=by
 exact PE.imp (a6a C.calm hi S hj hg hc he hs) (a6z hp)
theorem Cxt.comp(C:Cxt X Γ G ct c Ex N sc dfn)(S:CompScope sc scope own frees)(D:Addr)(s₀:Shared)(H₀:Hp)(ex:List Addr):Cxt (p0 X own frees scope D s₀ H₀ ex) Γ G ct c E0 (own++frees) (a7Y sc scope) false where
 hN:=rfl
 nd:=S.nd
 sc:=by rw[←C.sc];rfl
 calm:=C.calm
 hu:=C.hu
 K:=C.K
 fnb:=fun h=>by cases h
 scal:=C.scal
 tups:=C.tups
 dicts:=C.dicts
 blt:=C.blt
 fn:=C.fn
 obj:=C.obj
 att:=C.att
theorem a8q:∀{l:List Str} {js:List Nat},b4n N l=some js->l.map some=js.map (N[·]?)
 |[],js,h=>by cases h;rfl
 |x::r,js,h=>by
  unfold b4n at h
  split at h
  · rename_i i is h1 h2;cases h;rw[map_cons,map_cons,a5c h1,a8q h2]
  · cases h
theorem a0G(h:a7w op=some o):o.cmp=some op:=by cases op<;>cases h<;>rfl
theorem b5e{op:Operator}(h:c0e op=some o):o.bin=some op:=by cases op<;>cases h<;>rfl
theorem Q7{b:Expr}(h:a1q b=true):behindInMarks op b=false:=by cases b<;>first|rfl|cases h
theorem a0T{e:Expr}{env:Env}(h:a1q e=true):∀x,foldedSetIterable e env x=pure x:=by intro x;cases e<;>first|rfl|cases h
theorem a2Z{b:Expr}(h:a2y b=true):a2C b:=by intro o i;cases b<;>first|rfl|cases h
def a1F(Γ:Gm)(G:GT)(ct:CT)(c:CF)(n:Nat):Prop:=∀(X:Cx) (Ex:XK) (N:List Str) (sc:Scope) (dfn:Bool),Cxt X Γ G ct c Ex N sc dfn→
 (∀e x,cE G N sc n e=some x->PE X e (TEv Γ Ex (ev ct c x)))/\(∀es xs,cEs G N sc n es=some xs->PA X es (TAv Γ Ex (evs ct c xs))/\es.all o5=true)∧
 (∀e t,cT G N sc n e=some t->PT X e (TTv Γ Ex (tst ct c t))/\∀op l p,e=.BoolOp op l p->PW X e (TTv Γ Ex (tst ct c t)))/\(∀o x,cO G N sc n o=some x->PO X o (TOv Γ Ex (evo ct c x)))∧
 ∀tg e it,cI G N sc n tg e=some it->PI X tg e (TIv Γ Ex (evi ct c it))
theorem b2O:a1F Γ G ct c 0:=fun X Ex N sc dfn C=>
 ⟨fun e x h=>absurd (show none=some x from h) (by simp),fun e x h=>absurd (show none=some x from h) (by simp),fun e x h=>absurd (show none=some x from h) (by simp),fun e x h=>absurd (show none=some x from h) (by simp),fun tg e x h=>absurd (show none=some x from h) (by simp)⟩
theorem b2F(ih:a1F Γ G ct c n)(C:Cxt X Γ G ct c Ex N sc dfn):∀es xs,cEs G N sc (n+1) es=some xs->PA X es (TAv Γ Ex (evs ct c xs))/\es.all o5=true:=by
 intro es xs h;obtain⟨i1,i2,_⟩:=ih X Ex N sc dfn C
 replace h:sEs G (cR G n) N sc es=some xs:=h
 unfold sEs at h
 split at h
 · cases h;exact⟨c0x,rfl⟩
 · split at h
   · rename_i hp
     split at h
     · rename_i x xs' h1 h2;cases h;obtain⟨g1,g2⟩:=i2 _ xs' h2;exact⟨b7W (i1 _ x h1) g1 (c9 hp),by rw[all_cons,hp,g2];rfl⟩
     · cases h
   · cases h
theorem map_some{o:Option α}{f:α->β}{b:β}(h:o.map f=some b):∃a,o=some a/\f a=b:=Option.map_eq_some_iff.mp h
theorem b5a(ih:a1F Γ G ct c n)(C:Cxt X Γ G ct c Ex N sc dfn):∀o x,cO G N sc (n+1) o=some x->PO X o (TOv Γ Ex (evo ct c x)):=by
 intro o x h;obtain⟨i1,i2,_⟩:=ih X Ex N sc dfn C
 replace h:sO G (cR G n) N sc o=some x:=h
 unfold sO at h
 split at h
 · cases h;exact c1C
 · obtain⟨y,h1,rfl⟩:=map_some h;exact c1B (i1 _ y h1)
theorem b5b(ih:a1F Γ G ct c n)(C:Cxt X Γ G ct c Ex N sc dfn):∀tg e it,cI G N sc (n+1) tg e=some it->PI X tg e (TIv Γ Ex (evi ct c it)):=by
 intro tg e it h;obtain⟨i1,i2,_⟩:=ih X Ex N sc dfn C
 have seq:∀{e:Expr} {it:I},(cE G N sc n e).map I.seq=some it->PI X tg e (TIv Γ Ex (evi ct c it)):=by
  intro e it h;obtain⟨x,h1,rfl⟩:=map_some h;exact c0r C (i1 _ _ h1)
 replace h:sI G (cR G n) N sc tg e=some it:=h
 unfold sI at h
 split at h
 · split at h
   · rename_i hc;rw[ae,ae] at hc;obtain⟨⟨hg,hb⟩,hx⟩:=hc;have hx:=aw hx;subst hx;have hm:=C.blt _ hb
     split at h
     · split at h
       · rename_i hp;obtain⟨x,h1,rfl⟩:=map_some h;exact b7O C hg hm hp (i1 _ _ h1)
       · cases h
     · split at h
       · rename_i hp;rw[ae] at hp
         split at h
         · rename_i h1 h2;cases h;exact b7N C hg hm hp.1 hp.2 (i1 _ _ h1) (i1 _ _ h2)
         · cases h
       · cases h
     · cases h
   · split at h
     · rename_i hc;rw[ae,ae] at hc;obtain⟨⟨hg,hb⟩,hx⟩:=hc;have hx:=aw hx;subst hx;have hm:=C.blt _ hb
       split at h
       · split at h
         · rename_i hp;obtain⟨x,h1,rfl⟩:=map_some h;exact b7S C hg hm hp (i1 _ _ h1)
         · cases h
       · cases h
     · split at h
       · rename_i hc;rw[ae,ae] at hc;obtain⟨⟨hg,hb⟩,hx⟩:=hc;have hx:=aw hx;subst hx;have hm:=C.blt _ hb
         split at h
         · split at h
           · rename_i hp;rw[ae] at hp
             split at h
             · rename_i h1 h2;cases h;exact c0o C hg hm hp.1 hp.2 (i1 _ _ h1) (i1 _ _ h2)
             · cases h
           · cases h
         · cases h
       · exact seq h
 · rename_i x p
   split at h
   · rename_i ds hd
     split at hd
     · rename_i hg;cases h;exact c0C C hg hd
     · cases hd
   · exact seq h
 · exact seq h
theorem b9s{a b:Expr}{x:E}(ih:a1F Γ G ct c n)(C:Cxt X Γ G ct c Ex N sc dfn)(h1:cE G N sc n a=some x){k:E->α}{y:α}(h:(match b with
       | .Name y _=>if J3 sc y then(match op,G.tups.lookup y with
         |.In,some ds=>some (k (.gin false x ds))
         |.NotIn,some ds=>some (k (.gin true x ds))
         |.In,none=>(G.dicts.lookup y).map fun kvs=>k (.gdin false x kvs)
         |.NotIn,none=>(G.dicts.lookup y).map fun kvs=>k (.gdin true x kvs)
         |_,_=>none) else none
       |_=>none)=some y):∃g,y=k g/\PE X (.Compare a [op] [b] pos) (TEv Γ Ex (ev ct c g))/\PT X (.Compare a [op] [b] pos) (TTv Γ Ex (tst ct c (.val g))):=by
 obtain⟨i1,i2,_⟩:=ih X Ex N sc dfn C
 split at h
 · split at h
   · rename_i hg
     split at h
     · rename_i ds hd;cases h;exact⟨_,rfl,b5w C (.inl ⟨rfl,rfl⟩) hg hd (i1 _ _ h1)⟩
     · rename_i ds hd;cases h;exact⟨_,rfl,b5w C (.inr ⟨rfl,rfl⟩) hg hd (i1 _ _ h1)⟩
     · obtain⟨kvs,hd,rfl⟩:=map_some h;exact⟨_,rfl,b2R C (.inl ⟨rfl,rfl⟩) hg hd (i1 _ _ h1)⟩
     · obtain⟨kvs,hd,rfl⟩:=map_some h;exact⟨_,rfl,b2R C (.inr ⟨rfl,rfl⟩) hg hd (i1 _ _ h1)⟩
     · cases h
   · cases h
 · cases h
theorem a8m{b:Expr}(h:b6V b=true):∃p q,b=.Constant .none p q:=by
 cases b<;>first|(cases h;done)|skip
 rename_i k p q
 cases k<;>first|(cases h;done)|exact⟨_,_,rfl⟩
theorem b1k(h:a7d op=some true):op=.Is:=by cases op<;>first|rfl|(cases h;done)
theorem b1l(h:(a7d op).isSome=true)(h':a7d op=some true->False):op=.IsNot:=by cases op<;>first|rfl|(cases h;done)|exact(h' rfl).elim
theorem b3q{b:Expr}{lo hi:Option Expr}(h:b8v b=some (lo,hi)):∃p,b=.Slice lo hi none p:=by
 cases b<;>first|(cases h;done)|skip
 rename_i a c st p
 cases st<;>first|(cases h;done)|(cases h;exact⟨_,rfl⟩)
theorem b4Z (ih:a1F Γ G ct c n) (C:Cxt X Γ G ct c Ex N sc dfn):∀e t,cT G N sc (n+1) e=some t->PT X e (TTv Γ Ex (tst ct c t))/\∀op l p,e=.BoolOp op l p->PW X e (TTv Γ Ex (tst ct c t)):=by
 intro e t h;obtain⟨i1,i2,i3,_⟩:=ih X Ex N sc dfn C
 replace h:sT G (cR G n) N sc e=some t:=h
 have dflt:∀{e:Expr},sTd G (cR G n) N sc e=some t->PT X e (TTv Γ Ex (tst ct c t))/\∀op l p,e=.BoolOp op l p->PW X e (TTv Γ Ex (tst ct c t)):=by
  intro e h;unfold sTd at h
  split at h
  · rename_i hp;obtain⟨y,h1,rfl⟩:=map_some h;refine⟨c0p ?_ (i1 _ y h1),fun _ _ _ z=>?_⟩
    · intro whole
      cases e<;>first|rfl|(cases hp;done)
    · subst z;cases hp
  · cases h
 unfold sT at h
 split at h
 · split at h
   · obtain⟨y,h1,rfl⟩:=map_some h;exact⟨c0w (i3 _ y h1).1,fun _ _ _ z=>nomatch z⟩
   · exact dflt h
 · rename_i op l p
   split at h
   · exact dflt h
   · split at h
     · rename_i a _
       have g:PW X (.BoolOp op [a] p) (TTv Γ Ex (tst ct c t)):=by
        cases op
        · exact b3z (i3 _ t h).1
        · exact b5R (i3 _ t h).1
       exact⟨g.pt,fun _ _ _ _=>g⟩
     · split at h
       · split at h
         · rename_i h1 h2;cases h;have g:=c0I (i3 _ _ h1).1 ((i3 _ _ h2).2 _ _ _ rfl);exact⟨g.pt,fun _ _ _ _=>g⟩
         · cases h
       · split at h
         · rename_i h1 h2;cases h;have g:=c0v (i3 _ _ h1).1 ((i3 _ _ h2).2 _ _ _ rfl);exact⟨g.pt,fun _ _ _ _=>g⟩
         · cases h
 · split at h
   · cases h
   · split at h
     · cases h
     · split at h
       · split at h
         · unfold b8x at h
           split at h
           · rename_i hc;rw[ae] at hc;obtain⟨p,q,rfl⟩:=a8m hc.1
             split at h
             · rename_i ho
               cases b1k ho
               obtain⟨y,h1,rfl⟩:=map_some h;exact⟨b7Q (i1 _ y h1),fun _ _ _ z=>nomatch z⟩
             · rename_i ho
               cases b1l hc.2 ho
               obtain⟨y,h1,rfl⟩:=map_some h;exact⟨b5j (i1 _ y h1),fun _ _ _ z=>nomatch z⟩
           · split at h
             · rename_i hs
               split at h
               · rename_i h0 h1 h2;cases h;exact⟨b7Y C.hu C.K (a0G h0) (i1 _ _ h1) (i1 _ _ h2) (Q7 hs),fun _ _ _ z=>nomatch z⟩
               · rename_i h0 h1 h2;obtain⟨gg,rfl,_,g⟩:=b9s (k:=T.val) ih C h1 h;exact⟨g,fun _ _ _ z=>nomatch z⟩
               · cases h
             · cases h
         · cases h
       · split at h
         · cases h
         · split at h
           · rename_i ht;rw[ae] at ht;obtain⟨t1,t2⟩:=ht
             cases isEmpty_iff.mp t1
             cases isEmpty_iff.mp t2
             unfold b8w at h
             split at h
             · rename_i hs
               split at h
               · rename_i h0 h0' h1 h2 h3;cases h;exact⟨b7Z C.hu C.K (a0G h0) (a0G h0') (i1 _ _ h1) (i1 _ _ h2) (i1 _ _ h3) (Q7 hs),fun _ _ _ z=>nomatch z⟩
               · cases h
             · cases h
           · cases h
 · exact dflt h
end
variable{x:Str}{as:List Expr}
section
theorem a7C{l:List Expr}{a b:Expr}(h:b2Y l=some (a,b)):l=[a,b]:=by
 unfold b2Y at h
 split at h
 · cases h
 · split at h
   · cases h
   · split at h
     · rename_i e
       cases isEmpty_iff.mp e
       cases h;rfl
     · cases h
theorem a4P{l:List Expr}{a:Expr}(h:b1m l=some a):l=[a]:=by
 unfold b1m at h
 split at h
 · cases h
 · split at h
   · rename_i e
     cases isEmpty_iff.mp e
     cases h;rfl
   · cases h
theorem a8e{e:Expr}(h:b4a e=some x):∃p,e=.Name x p:=by
 unfold b4a at h
 split at h
 · cases h;exact⟨_,rfl⟩
 · cases h
theorem b0y{a b:Expr}(h:b0z as=some (a,b)):∃p q,as=[.Call (.Name "range" p) [a,b] [] q]:=by
 unfold b0z at h
 split at h
 · rename_i h1
   cases a4P h1
   split at h
   · split at h
     · rename_i hc;rw[ae] at hc
       cases isEmpty_iff.mp hc.1
       obtain⟨p,rfl⟩:=a8e (aw hc.2)
       cases a7C h
       exact⟨_,_,rfl⟩
     · cases h
   · cases h
 · cases h
theorem b0D{a:Expr}(h:b0E as=some a):∃p q,as=[.Call (.Name "reversed" p) [a] [] q]:=by
 unfold b0E at h
 split at h
 · rename_i h1
   cases a4P h1
   split at h
   · split at h
     · rename_i hc;rw[ae] at hc
       cases isEmpty_iff.mp hc.1
       obtain⟨p,rfl⟩:=a8e (aw hc.2)
       cases a4P h
       exact⟨_,_,rfl⟩
     · cases h
   · cases h
 · cases h
theorem a2g{x:E}(ih:a1F Γ G ct c n)(C:Cxt X Γ G ct c Ex N sc dfn)(h:sLc G (cR G n) N sc elt tg iter ifs scope=some x):
 ∃p it js t y,x=.comp p it (t7 8 tg).length js t y/\PI X tg iter (TIv Γ Ex (evi ct c it))/\CompScope X.env.scope scope (t7 8 tg) (C6 scope)/\(C6 scope).map some=js.map (X.N[·]?)∧
  (∀D s₀ H₀ ex,PG (p0 X (t7 8 tg) (C6 scope) scope D s₀ H₀ ex) tg (TGv Γ p))/\(∀D s₀ H₀ ex,a6L (p0 X (t7 8 tg) (C6 scope) scope D s₀ H₀ ex) ifs (TTv Γ E0 (tst ct c t)))/\(∀D s₀ H₀ ex,PE (p0 X (t7 8 tg) (C6 scope) scope D s₀ H₀ ex) elt (TEv Γ E0 (ev ct c y)))∧
  (∀v,foldedSetIterable iter X.env v=pure v)/\(J6 p).all (fun i=>decide (i<(t7 8 tg).length))=true:=by
 obtain⟨i1,i2,i3,i4,i5⟩:=ih X Ex N sc dfn C;unfold sLc at h
 split at h
 · rename_i it hit
   split at h
   · rename_i js hjs
     split at h
     · rename_i hc;rw[ae] at hc
       have S0:CompScope sc scope (t7 8 tg) (C6 scope):=b9U hc.1
       have S:CompScope X.env.scope scope (t7 8 tg) (C6 scope):=by rw[C.sc];exact S0
       have hj:(C6 scope).map some=js.map (X.N[·]?):=by rw[C.hN];exact a8q hjs
       split at h
       · rename_i p y hp hy
         split at h
         · rename_i hall
           have pg:∀D s₀ H₀ ex,PG (p0 X (t7 8 tg) (C6 scope) scope D s₀ H₀ ex) tg (TGv Γ p):=fun D s₀ H₀ ex=>((b5v (C.comp S0 D s₀ H₀ ex) 8).1 tg p hp).1
           have pe:∀D s₀ H₀ ex,PE (p0 X (t7 8 tg) (C6 scope) scope D s₀ H₀ ex) elt (TEv Γ E0 (ev ct c y)):=fun D s₀ H₀ ex=>(ih _ _ _ _ _ (C.comp S0 D s₀ H₀ ex)).1 elt y hy
           split at h
           · cases h;refine⟨p,it,js,.yes,y,rfl,i5 _ _ _ hit,S,hj,pg,fun D s₀ H₀ ex=>?_,pe,a0T hc.2,hall⟩
             intro pins s σ H Q I q;refine b6c pins s σ H Q I ?_
             obtain⟨env,ah,m,rl,q⟩:=q;rw[tst] at q;exact q.ok rl.sim
           · obtain⟨z,h1,rfl⟩:=map_some h;exact⟨p,it,js,z,y,rfl,i5 _ _ _ hit,S,hj,pg,fun D s₀ H₀ ex=>b3I ((ih _ _ _ _ _ (C.comp S0 D s₀ H₀ ex)).2.2.1 _ z h1).1,pe,a0T hc.2,hall⟩
           · cases h
         · cases h
       · cases h
     · cases h
   · cases h
 · cases h
theorem b5c (ih:a1F Γ G ct c n) (C:Cxt X Γ G ct c Ex N sc dfn):∀e x,cE G N sc (n+1) e=some x->PE X e (TEv Γ Ex (ev ct c x)):=by
 intro e x h;obtain⟨i1,i2,i3,i4,i5⟩:=ih X Ex N sc dfn C
 replace h:sE G (cR G n) N sc e=some x:=h
 unfold sE at h
 split at h
 · unfold b8A at h
   split at h
   · cases h;exact a_k (dd:=.int _) b1c (fun _ _=>rfl) c ct
   · cases h;exact a_k (dd:=.str _) b0Z (fun _ _=>rfl) c ct
   · cases h;exact a_k (dd:=.bl _) b8P (fun _ _=>rfl) c ct
   · cases h;exact a_k (dd:=.non) b6l (fun _ _=>rfl) c ct
   · cases h
 · -- Name
   split at h
   · rename_i i hs;cases h;unfold slot at hs
     split at hs
     · rename_i hv;rw[ae,ae] at hv;exact a_v (by rw[C.hN];exact a5c hs) (C.vis hv.1.1) (beq_eq_false_iff_ne.mpr (aw hv.1.2)) (beq_eq_false_iff_ne.mpr (aw hv.2)) c ct
     · cases hs
   · split at h
     · rename_i hg;obtain⟨d,h1,rfl⟩:=map_some h;obtain⟨u,v,s1,s2,s3⟩:=C.scal _ d h1;exact a_k (a1n (C.gl hg) s1 s2 (W7 hg).2.1) s3 c ct
     · cases h
 · split at h
   · rename_i h0 h1 h2;cases h;exact c0G (b5e h0) (i1 _ _ h1) (i1 _ _ h2)
   · cases h
 · unfold sUn at h
   split at h
   · obtain⟨y,h1,rfl⟩:=map_some h;exact c0y (i1 _ y h1)
   · obtain⟨y,h1,rfl⟩:=map_some h;exact c1D (i1 _ y h1)
   · cases h
 · unfold sBo at h
   split at h
   · cases h
   · split at h
     · exact b6j (i1 _ x h)
     · split at h
       · split at h
         · rename_i h1 h2;cases h;exact c1I (i1 _ _ h1) (i1 _ _ h2)
         · cases h
       · split at h
         · rename_i h1 h2;cases h;exact c0u (i1 _ _ h1) (i1 _ _ h2)
         · cases h
 · split at h
   · cases h
   · split at h
     · cases h
     · split at h
       · split at h
         · unfold b8C at h
           split at h
           · rename_i hc;rw[ae] at hc;obtain⟨p,q,rfl⟩:=a8m hc.1
             split at h
             · rename_i ho
               cases b1k ho
               obtain⟨y,h1,rfl⟩:=map_some h;exact c0A (i1 _ y h1)
             · rename_i ho
               cases b1l hc.2 ho
               obtain⟨y,h1,rfl⟩:=map_some h;exact b7P (i1 _ y h1)
           · split at h
             · rename_i hs
               split at h
               · rename_i h0 h1 h2;cases h;exact c0E C.hu C.K (a0G h0) (i1 _ _ h1) (i1 _ _ h2) (Q7 hs)
               · rename_i h0 h1 h2;obtain⟨gg,rfl,g,_⟩:=b9s (k:=fun g=>g) ih C h1 h
                 exact g
               · cases h
             · cases h
         · cases h
       · split at h
         · cases h
         · split at h
           · rename_i ht;rw[ae] at ht;obtain⟨t1,t2⟩:=ht
             cases isEmpty_iff.mp t1
             cases isEmpty_iff.mp t2
             unfold b8B at h
             split at h
             · rename_i hs
               split at h
               · rename_i h0 h0' h1 h2 h3;cases h;exact c0F C.hu C.K (a0G h0) (a0G h0') (i1 _ _ h1) (i1 _ _ h2) (i1 _ _ h3) (Q7 hs)
               · cases h
             · cases h
           · cases h
 · unfold sSl at h
   split at h
   · rename_i hs0;obtain⟨q,rfl⟩:=b3q hs0
     split at h
     · rename_i h1 h2 h3;cases h;exact c1A C.K (i1 _ _ h1) (i4 _ _ h2) (i4 _ _ h3)
     · cases h
   · split at h
     · rename_i hs
       split at h
       · rename_i h1 h2;cases h;exact c1G C.hu C.K (i1 _ _ h1) (i1 _ _ h2) (a2Z hs)
       · rename_i h1 h2
         split at h
         · split at h
           · rename_i hg;obtain⟨kvs,hd,rfl⟩:=map_some h;exact b7R C hg hd (i1 _ _ h2) (a2Z hs)
           · cases h
         · cases h
       · cases h
     · cases h
 · split at h
   · rename_i h1 h2 h3;cases h;exact c0B (i3 _ _ h1).1 (i1 _ _ h2) (i1 _ _ h3)
   · cases h
 · split at h
   · rename_i hb;rw[ae] at hb;obtain⟨y,h1,rfl⟩:=map_some h;exact c0D C hb.1 hb.2 (i1 _ y h1)
   · cases h
 · obtain⟨y,h1,rfl⟩:=map_some h;exact c0z (i2 _ y h1).1
 · obtain⟨y,h1,rfl⟩:=map_some h;exact c0q (i2 _ y h1).1
 · split at h
   · split at h
     · cases h;exact b7T
     · cases h
   · obtain⟨kvs,h1,h⟩:=Option.bind_eq_some_iff.mp h
     split at h
     · rename_i hk;cases h;exact b7U (cons_ne_nil _ _) h1 hk
     · cases h
 · rename_i f as ks cpos
   split at h
   · rename_i hk0
     cases isEmpty_iff.mp hk0
     split at h
     · rename_i nm np0;unfold sCn at h
       split at h
       · rename_i hg
         split at h
         · rename_i f np hf
           split at h
           · rename_i hl;obtain⟨y,h1,rfl⟩:=map_some h;obtain⟨g1,g2⟩:=i2 _ y h1;rw[ae] at hl;have hne:=aw hl.2
             cases as with
             |nil=>exact absurd rfl hne
             |cons a r=>exact b8a C hf hg g2 g1
           · cases h
         · split at h
           · rename_i k hk
             split at h
             · rename_i he;cases h;subst he;exact c1F C hk hg
             · cases h
           · split at h
             · rename_i hb;have hm:=C.blt _ hb
               split at h
               · rename_i hq
                 split at hq
                 · rename_i hc;rw[ae,ae] at hc;obtain⟨⟨c1,c2⟩,c3⟩:=hc
                   cases aw c1
                   obtain⟨pp,qq,rfl⟩:=b0y hq
                   split at h
                   · rename_i hp;rw[ae] at hp
                     split at h
                     · rename_i h3 h4;cases h;exact b7M C hg hm c2 (C.blt _ c3) hp.1 hp.2 (i1 _ _ h3) (i1 _ _ h4)
                     · cases h
                   · cases h
                 · cases hq
               · split at h
                 · rename_i hq
                   split at hq
                   · rename_i hc;rw[ae,ae] at hc;obtain⟨⟨c1,c2⟩,c3⟩:=hc
                     cases aw c1
                     obtain⟨pp,qq,rfl⟩:=b0D hq
                     split at h
                     · rename_i hp;obtain⟨y,h1,rfl⟩:=map_some h;exact c0t C hg hm c2 (C.blt _ c3) hp (i1 _ y h1)
                     · cases h
                   · cases hq
                 · split at h
                   · rename_i b hbi
                     split at h
                     · rename_i hne;obtain⟨y,h1,rfl⟩:=map_some h;obtain⟨g1,g2⟩:=i2 _ y h1
                       cases as with
                       |nil=>exact absurd rfl hne
                       |cons a r=>exact c1H C hbi hg hm g2 g1
                     · cases h
                   · cases h
             · cases h
       · cases h
     · rename_i o mm apos;unfold sCa at h
       split at h
       · rename_i hc;rw[ae,ae] at hc;obtain⟨⟨c1,c2⟩,c3⟩:=hc
         cases aw c3
         unfold b8z at h
         split at h
         · rename_i h2
           cases a7C h2
           split at h
           · rename_i hp;rw[ae] at hp
             split at h
             · rename_i h3 h4 h5;cases h;exact b7V C c1 c2 hp.1 hp.2 (i1 _ _ h3) (i1 _ _ h4) (i1 _ _ h5)
             · cases h
           · cases h
         · cases h
       split at h
       · rename_i hc;rw[ae,ae] at hc;obtain⟨⟨c1,c2⟩,c3⟩:=hc
         cases aw c3
         split at h
         · rename_i he
           cases isEmpty_iff.mp he
           obtain⟨y,h1,rfl⟩:=map_some h;exact c0s C c1 c2 (i1 _ _ h1)
         · cases h
       split at h
       · rename_i hc;rw[ae,ae,ae] at hc;obtain⟨⟨⟨c1,c2⟩,c3⟩,c4⟩:=hc;have c3:=aw c3;have c4:=aw c4
         split at h
         · rename_i h0 h1 h2;cases h;obtain⟨g1,g2⟩:=i2 _ _ h2
           cases as with
           |nil=>exact absurd rfl c4
           |cons a r=>exact c1E C h0 c1 c2 c3 g2 (i1 _ _ h1) g1
         · cases h
       · cases h
     · cases h
   · cases h
 · split at h
   · cases h
   · rename_i g t
     split at h
     · rename_i hg0;rw[ae] at hg0;obtain⟨tg,iter,ifs,a⟩:=g
       cases isEmpty_iff.mp hg0.1
       have ha:a=0:=aw hg0.2
       subst ha;obtain⟨p,it,js,t,y,rfl,j1,j2,j3,j4,j5,j6,j7,j8⟩:=a2g ih C h;exact b7X C j1 j2 j3 j4 j5 j6 j7 j8
     · cases h
 · cases h
theorem a1g:∀n,a1F Γ G ct c n
 |0=>b2O
 |n+1=>fun X Ex N sc dfn C=>⟨b5c (a1g n) C,b2F (a1g n) C,b4Z (a1g n) C,b5a (a1g n) C,b5b (a1g n) C⟩
end
def SQ(D:Ends):Out->AH->List Addr->Hp->Prop:=fun o _ m1 H1=>match o with
 |.nx env'=>∀σ',EnvRel m1 H1 env' σ'->D.nx σ' H1
 |.rt d=>∀v,Rp m1 H1 d v->D.rt v H1
noncomputable def TSv(Γ:Gm)(E:XK)(f:t9->AH->R Out):TS:=fun D σ H=>∃env ah m,Rel Γ env ah σ H m/\i9 Γ E m H (f env ah) (SQ D)
variable{st:Stmt}{tt:Expr}{f:Str}
section
variable{e a b:Expr}{p':Pos}{x y z:E}
theorem a2q{e:Expr}{t:Option Expr}{l:Nat}{env:Env}(h:T8 e=true):swapsWith e t l env=pure false:=by cases e<;>first|rfl|cases h
theorem c0i{n:Str}(C:Cxt X Γ G ct c Ex N sc true)(hs:a2N true N sc n=some i)(hw:T8 e=true)(he:PE X e (TEv Γ Ex (ev ct c x))):PS X (.Assign [.Name n p'] e pos) (TSv Γ Ex (ex ct c (.set i x))):=by
 obtain⟨h1,h2,h3⟩:=a2M C hs;refine PS.imp (b0Q (by rw[C.hN];exact C.nd) h1 h2 he (a2q hw) h3) ?_
 rintro D σ H ⟨env,ah,m,rl,q⟩;rw[ex] at q;refine⟨env,ah,m,rl,i9.first rl q fun d1 ah1 m1 H1 v1 p1 k1 rl1 r1 q1=>?_⟩
 exact q1.ok rl1.sim _ (rl1.env.set r1)
theorem b7H{n:Str}{k:Nat}{cpos:Pos}(C:Cxt X Γ G ct c Ex N sc true)(hs:a2N true N sc n=some i)(h:cE G N sc (k+1) (.ListComp elt [⟨tg,iter,ifs,0⟩] scope cpos)=some x):PS X (.Assign [.Name n p'] (.ListComp elt [⟨tg,iter,ifs,0⟩] scope cpos) pos) (TSv Γ Ex (ex ct c (.set i x))):=by
 obtain⟨h1,h2,h3⟩:=a2M C hs;obtain⟨p,it,js,t,y,rfl,j1,j2,j3,j4,j5,j6,j7,j8⟩:=a2g (a1g k) C (show sLc G (cR G k) N sc elt tg iter ifs scope=some x from h);refine PS.imp (b3D C.calm j1 j2 j3 j4 j5 j6 j7 (by rw[C.hN];exact C.nd) h1 h2 h3) ?_
 rintro D σ H ⟨env,ah,m,rl,q⟩;rw[ex] at q;refine a6z j8 σ H _ ⟨env,ah,m,rl,i9.first rl q fun d1 ah1 m1 H1 v1 p1 k1 rl1 r1 q1=>?_⟩
 exact q1.ok rl1.sim _ (rl1.env.set r1)
theorem c1y(hw:T8 e=true)(he:PE X e (TEv Γ Ex (ev ct c x))):PS X (.Expr e pos) (TSv Γ Ex (ex ct c (.ex x))):=by
 refine PS.imp (b3C he (a2q hw)) ?_
 rintro D σ H ⟨env,ah,m,rl,q⟩;rw[ex] at q;refine⟨env,ah,m,rl,i9.first rl q fun d1 ah1 m1 H1 v1 p1 k1 rl1 r1 q1=>?_⟩
 exact q1.ok rl1.sim _ rl1.env
theorem c0j(he:PE X e (TEv Γ Ex (ev ct c x))):PS X (.Return (some e) pos) (TSv Γ Ex (ex ct c (.ret x))):=by
 refine PS.imp (b5X he) ?_
 rintro D σ H ⟨env,ah,m,rl,q⟩;rw[ex] at q;refine⟨env,ah,m,rl,i9.first rl q fun d1 ah1 m1 H1 v1 p1 k1 rl1 r1 q1=>?_⟩
 exact q1.ok rl1.sim _ r1
theorem c0m:PS X st (TSv Γ Ex (ex ct c .bad)):=by
 rintro pins s σ H D I ⟨env,ah,m,rl,q⟩;rw[ex] at q;exact q.elim
variable{t:T}{as bs:List Stmt}{sa sb:Ss}
theorem c0k:PSs X [] (TSv Γ Ex (exs ct c .nil)):=by
 refine PSs.imp b3B ?_
 rintro D σ H ⟨env,ah,m,rl,q⟩;rw[exs] at q;exact q.ok rl.sim σ rl.env
theorem b7J{s:S}(h1:PS X st (TSv Γ Ex (ex ct c s)))(h2:PSs X as (TSv Γ Ex (exs ct c sa))):PSs X (st::as) (TSv Γ Ex (exs ct c (.cons s sa))):=by
 refine PSs.imp (b0O h1 h2) ?_
 rintro D σ H ⟨env,ah,m,rl,q⟩;rw[exs] at q;refine⟨env,ah,m,rl,q.bind.mp fun o ah1 m1 H1 p1 k1 s1 q1=>?_⟩
 cases o with
 |nx env'=>exact fun σ' er=>⟨env',ah1,m1,⟨s1,er⟩,q1⟩
 |rt d=>exact q1.ok s1
theorem c1x(hc:PT X tt (TTv Γ Ex (tst ct c t)))(ha:PSs X as (TSv Γ Ex (exs ct c sa)))(hb:PSs X bs (TSv Γ Ex (exs ct c sb))):PS X (.If tt as bs pos) (TSv Γ Ex (ex ct c (.iff t sa sb))):=by
 refine PS.imp (b8L hc ha hb) ?_
 rintro D σ H ⟨env,ah,m,rl,q⟩;rw[ex] at q;refine⟨env,ah,m,rl,q.bind.mp fun k ah1 m1 H1 p1 k1 s1 q1=>?_⟩
 cases k with
 |true=>exact b6Q ⟨env,ah1,m1,rl.on p1 k1 s1,q1⟩
 |false=>exact b6R ⟨env,ah1,m1,rl.on p1 k1 s1,q1⟩
theorem c0l{it:Expr}{ii:I}(C:Cxt X Γ G ct c Ex N sc true)(own:PassesOwn (model X.prog X.w) X.A X.env X.xe)(hi:PI X tg it (TIv Γ Ex (evi ct c ii)))(hg:PG X tg (TGv Γ p))(hb:PSs X bs (TSv Γ Ex (exs ct c sb)))(hs:a1q it=true):
 PS X (.For tg it bs [] pos) (TSv Γ Ex (ex ct c (.for p ii sb))):=by
 refine PS.imp (b5Y own C.calm hi hg hb (a0T hs)) ?_
 rintro D σ H ⟨env,ah,m,rl,q⟩;rw[ex] at q;refine⟨env,ah,m,rl,q.bind.mp fun x ah1 m1 H1 p1 k1 s1 q1=>fun _ J hJ=>?_⟩
 refine⟨fun i mm σ H2=>mm=x.1.length-i/\i<=x.1.length/\∃env ah2 m2,Rel Γ env ah2 σ H2 m2/\Pre m1 m2/\Keep m1 m2 H1 H2/\i9 Γ Ex m2 H2 (Z0 x.2 p (exs ct c sb) (x.1.drop i) env ah2) (SQ D),?_,?_⟩
 · exact⟨_,rfl,Nat.zero_le _,env,ah1,m1,rl.on p1 k1 s1,Pre.refl _,Keep.refl _ _,q1⟩
 · rintro i mm σ H2 ⟨hmm,hil,env,ah2,m2,rl2,p2,k2,q2⟩
   by_cases hend:i=x.1.length
   · refine .inl ?_
     rw[hend,drop_length] at q2;unfold Z0 at q2
     split at q2
     · rename_i hgk;exact⟨(hJ i ah2 m2 H2 p2 k2 rl2.sim hgk).1 hend,q2.ok rl2.sim σ rl2.env⟩
     · exact q2.elim
   · refine .inr ?_
     have hlt:i<x.1.length:=Nat.lt_of_le_of_ne hil hend
     have hdi:x.1[i]? =some x.1[i]:=af hlt
     rw[drop_eq_getElem_cons hlt] at q2;generalize x.1[i]=dd at q2 hdi;unfold Z0 at q2
     split at q2
     · rename_i hgk;obtain⟨go,yl⟩:=(hJ i ah2 m2 H2 p2 k2 rl2.sim hgk).2 dd hdi;refine⟨go,fun σ' H'=>∃m',m'<mm/\(m'=x.1.length-(i+1)/\i+1<=x.1.length/\∃env ah2 m2,Rel Γ env ah2 σ' H' m2/\Pre m1 m2/\Keep m1 m2 H1 H'/\i9 Γ Ex m2 H' (Z0 x.2 p (exs ct c sb) (x.1.drop (i+1)) env ah2) (SQ D)),fun σ' H' h=>h,fun v H3 hy=>?_⟩
       obtain⟨k3,s3,r3⟩:=yl v H3 hy
       split at q2
       · exact q2.elim
       · rename_i envb hb;refine⟨env,dd,m2,envb,rl2.env.mono (Pre.refl m2) k3,r3,hb,fun σ4 er4 l4 s4=>⟨envb,ah2,m2,⟨s3,er4⟩,?_⟩⟩
         refine(q2.later (Pre.refl m2) k3).bind.mp fun o ah5 m5 H5 p5 k5 s5 q5=>?_
         cases o with
         |nx env'=>exact fun σ' er'=>⟨_,by omega,rfl,hlt,env',ah5,m5,⟨s5,er'⟩,p2.trans p5,k2.trans (k3.trans k5),q5⟩
         |rt d=>exact q5.ok s5
     · exact q2.elim
theorem c0f(own:PassesOwn (model X.prog X.w) X.A X.env X.xe)(hc:PT X tt (TTv Γ Ex (tst ct c t)))(hb:PSs X bs (TSv Γ Ex (exs ct c sb))):PS X (.While tt bs [] pos) (TSv Γ Ex (ex ct c (.whl t sb))):=by
 refine PS.imp (b0P own hc hb) ?_
 rintro D σ H ⟨env,ah,m,rl,q⟩;rw[ex] at q;refine⟨fun n σ H2=>∃env ah2 m2,Rel Γ env ah2 σ H2 m2/\i9 Γ Ex m2 H2 (a2D (tst ct c t) (exs ct c sb) n env ah2) (SQ D),⟨_,env,ah,m,rl,q⟩,?_⟩
 rintro n σ H2 ⟨env,ah2,m2,rl2,q2⟩
 cases n with
 |zero=>exact q2.elim
 | succ n=>
  unfold a2D at q2;refine⟨env,ah2,m2,rl2,q2.bind.mp fun k ah3 m3 H3 p3 k3 s3 q3=>?_⟩
  have rl3:=rl2.on p3 k3 s3
  cases k with
  |false=>exact b6R (i9.ok q3 s3 σ rl3.env)
  |true=>
   refine b6Q ⟨fun σ' H'=>∃m',m'<n+1/\∃env ah2 m2,Rel Γ env ah2 σ' H' m2/\i9 Γ Ex m2 H' (a2D (tst ct c t) (exs ct c sb) m' env ah2) (SQ D),fun σ' H' h=>h,env,ah3,m3,rl3,?_⟩
   refine i9.mp (i9.bind q3) fun o ah5 m5 H5 p5 k5 s5 q5=>?_
   cases o with
   |nx env'=>exact fun σ' er'=>⟨n,aV n,env',ah5,m5,⟨s5,er'⟩,q5⟩
   |rt d=>exact q5.ok s5
theorem c0g{o k:Expr}(C:Cxt X Γ G ct c Ex N sc true)(ho:PE X o (TEv Γ Ex (ev ct c x)))(hk:PE X k (TEv Γ Ex (ev ct c y)))(hv:PE X e (TEv Γ Ex (ev ct c z)))(hw:T8 e=true)(hns:a2y k=true):PS X (.Assign [.Subscript o k p'] e pos) (TSv Γ Ex (ex ct c (.six x y z))):=by
 have hg:PG X (.Subscript o k p') (b9v (TEv Γ Ex (ev ct c x)) (TEv Γ Ex (ev ct c y)) _):=b6g ho hk (c0X (Γ:=Γ) (E:=Ex) C.hu) (by intro v;cases k<;>first|rfl|cases hns)
 refine PS.imp (b6a hv hg (show swapsWith e (some (.Subscript o k p')) pos.line X.env=pure false from a2q hw) (by cases e<;>rfl) rfl) ?_
 rintro D σ H ⟨env,ah,m,rl,q⟩;rw[ex] at q;refine⟨env,ah,m,rl,i9.first rl q fun d1 ah1 m1 H1 v1 p1 k1 rl1 r1 q1=>?_⟩
 refine⟨env,ah1,m1,rl1,i9.first rl1 q1 fun d2 ah2 m2 H2 v2 p2 k2 rl2 r2 q2=>?_⟩
 refine⟨env,ah2,m2,rl2,i9.first rl2 q2 fun d3 ah3 m3 H3 v3 p3 k3 rl3 r3 q3=>?_⟩
 refine⟨d2,d3,d1,ah3,m3,rl3.sim,r2.mono p3 k3,r3,r1.mono (p2.trans p3) (k2.trans k3),q3.bind.mp fun _ ah4 m4 H4 p4 k4 s4 q4=>?_⟩
 exact q4.ok s4 σ (rl3.env.mono p4 k4)
theorem c0h{o:Expr}(C:Cxt X Γ G ct c Ex N sc true)(ho:PE X o (TEv Γ Ex (ev ct c x)))(hv:PE X e (TEv Γ Ex (ev ct c z)))(hw:T8 e=true)(hf:G.atts.contains f=true):PS X (.Assign [.Attribute o f p'] e pos) (TSv Γ Ex (ex ct c (.sfl x f z))):=by
 refine PS.imp (b5Z ho hv (a2q hw)) ?_
 rintro D σ H ⟨env,ah,m,rl,q⟩;rw[ex] at q;refine⟨env,ah,m,rl,i9.first rl q fun d1 ah1 m1 H1 v1 p1 k1 rl1 r1 q1=>?_⟩
 refine⟨env,ah1,m1,rl1,i9.first rl1 q1 fun d2 ah2 m2 H2 v2 p2 k2 rl2 r2 q2=>?_⟩
 unfold a4E at q2
 split at q2
 · split at q2
   · rename_i k fs e2
     split at q2
     · rename_i hl;obtain⟨ad,rfl,hm⟩:=r2;obtain⟨dx,gs,g1,g2,g3⟩:=rl2.sim.at hm e2;obtain⟨a1,a2⟩:=C.att k g3
       have kp:Keep m2 m2 H2 (upd H2 ad (.ins (Γ.cA k) dx (V6 f v1 gs))):=Keep.put hm g1 fun z=>z
       refine⟨ad,Γ.cA k,dx,gs,rfl,g1,a1,a2 f hf,by rw[←Paired.length g2];exact hl,?_⟩
       have s3:=rl2.sim.write (c:=.obj k (a3T f d1 fs)) hm g1 (fun z=>z) ⟨dx,_,b9,(Fl.put (r1.mono p2 k2) g2).mono (Pre.refl m2) kp.im,g3⟩
       exact i9.ok (i9.later q2 (Pre.refl m2) kp) s3 σ (rl2.env.mono (Pre.refl m2) kp)
     · exact q2.elim
   · exact q2.elim
 · exact q2.elim
end
structure Cxs(X:Cx)(Γ:Gm)(G:GT)(ct:CT)(c:CF)(Ex:XK)(N:List Str)(sc1:Scope):Prop extends Cxt X Γ G ct c Ex N sc1 true where
 own:PassesOwn (model X.prog X.w) X.A X.env X.xe
section
theorem b4i{k:Nat}{gens:List Comprehension}{y:E}(h:cE G N sc (k+1) (.ListComp elt gens scope pos)=some y):∃tg iter ifs,gens=[⟨tg,iter,ifs,0⟩]:=by
 cases gens with
 |nil=>exact absurd (show none=some y from h) (by simp)
 |cons g t=>
  replace h:(if t.isEmpty&&decide (g.is_async=0) then sLc G (cR G k) N sc elt g.target g.iter g.ifs scope else none)=some y:=h
  split at h
  · rename_i hg;rw[ae] at hg;obtain⟨tg,iter,ifs,a⟩:=g
    cases isEmpty_iff.mp hg.1
    have ha:a=0:=aw hg.2
    subst ha;exact⟨_,_,_,rfl⟩
  · cases h
theorem b8y (C:Cxs X Γ G ct c Ex N sc) {r:List Stmt->Option Ss} (hr:∀l ss,r l=some ss->PSs X l (TSv Γ Ex (exs ct c ss))):∀st s,sS G N sc r st=some s->PS X st (TSv Γ Ex (ex ct c s)):=by
 intro st s h;obtain⟨i1,i2,i3,i4,i5⟩:=a1g 40 X Ex N sc true C.toCxt;unfold sS at h
 split at h
 · rename_i tgs e pe
   split at h
   · cases h
   · split at h
     · rename_i hu
       cases isEmpty_iff.mp hu
       unfold sAs at h
       split at h
       · rename_i x px
         split at h
         · rename_i i y h1 h2
           split at h
           · rename_i hw;cases h
             by_cases hn:T8 e=true
             · exact c0i C.toCxt h1 hn (i1 _ _ h2)
             · rw[bw] at hw
               have hl:b9e e=true:=hw.resolve_left hn
               cases e<;>first|(cases hl;done)|skip
               obtain⟨tg,iter,ifs,rfl⟩:=b4i h2;exact b7H C.toCxt h1 h2
           · cases h
         · cases h
       · split at h
         · rename_i h1 h2 h3
           split at h
           · rename_i hw;cases h;rw[ae] at hw;exact c0g C.toCxt (i1 _ _ h1) (i1 _ _ h2) (i1 _ _ h3) hw.1 hw.2
           · cases h
         · cases h
       · split at h
         · rename_i h1 h2
           split at h
           · rename_i hw;cases h;rw[ae] at hw;exact c0h C.toCxt (i1 _ _ h1) (i1 _ _ h2) hw.1 hw.2
           · cases h
         · cases h
       · cases h
     · cases h
 · split at h
   · rename_i hw;obtain⟨y,h1,rfl⟩:=map_some h;exact c1y hw (i1 _ _ h1)
   · cases h
 · split at h
   · obtain⟨y,h1,rfl⟩:=map_some h;exact c0j (i1 _ _ h1)
   · cases h
 · split at h
   · rename_i h1 h2 h3;cases h;exact c1x (i3 _ _ h1).1 (hr _ _ h2) (hr _ _ h3)
   · cases h
 · split at h
   · rename_i hel
     cases isEmpty_iff.mp hel
     split at h
     · rename_i h1 h2 h3
       split at h
       · rename_i hs;cases h;exact c0l C.toCxt C.own (i5 _ _ _ h2) ((b5v C.toCxt 8).1 _ _ h1).1 (hr _ _ h3) hs
       · cases h
     · cases h
   · cases h
 · split at h
   · rename_i hel
     cases isEmpty_iff.mp hel
     split at h
     · rename_i h1 h2;cases h;exact c0f C.own (i3 _ _ h1).1 (hr _ _ h2)
     · cases h
   · cases h
 · cases h;exact c0m
 · cases h
theorem b0t(C:Cxs X Γ G ct c Ex N sc){r:List Stmt->Option Ss}(hr:∀l ss,r l=some ss->PSs X l (TSv Γ Ex (exs ct c ss))):∀l ss,sSs G N sc r l=some ss->PSs X l (TSv Γ Ex (exs ct c ss))
 |[],ss,h=>by unfold sSs at h;cases h;exact c0k
 |st::l,ss,h=>by
  unfold sSs at h
  split at h
  · rename_i h1 h2;cases h;exact b7J (b8y C hr _ _ h1) (b0t C hr l _ h2)
  · cases h
theorem b2E(C:Cxs X Γ G ct c Ex N sc):∀n l ss,cSs G N sc n l=some ss->PSs X l (TSv Γ Ex (exs ct c ss))
 |0,l,ss,h=>absurd (show none=some ss from h) (by simp)
 |n+1,l,ss,h=>b0t C (b2E C n) l ss h
end
structure RowOk(K:PySem.W.Frag)(G:GT)(F:Nat->Option Fn)(x qual:Str)(id np0:Nat)(f:Addr)(fd:FuncData)(st:Stmt)(N ps:List Str):Prop where
 fn:Fun K x qual st f fd
 sc:FnScope N ps (t8 st)
 bd:T3 K fd ps []
 np:ps.length=np0
 F:∃fn,F id=some fn/\fn.np=np0/\fn.ns=N.length/\cSs G N (t8 st) 20 (L7 st)=some fn.body
structure Stat(P:Program)(w:World)(Γ:Gm)(G:GT)(ct:CT)(F:Nat->Option Fn)(mg:Str->Option Value):Prop where
 scal:∀x d,G.scal.lookup x=some d->∃u v,mg x=some u/\o0 v u/\∀m H,Rp m H d v
 tups:∀x ds,G.tups.lookup x=some ds->∃a vs,mg x=some (.ref a)/\(∀H,SqT Γ.K H a vs)/\∀m H,Rps m H ds vs
 dicts:∀x kvs,G.dicts.lookup x=some kvs->∃a gs,mg x=some (.ref a)/\a9S P w Γ.K a gs/\∀m H,DK m H kvs gs
 blt:∀x,G.blt.contains x=true->mg x=none
 fn:∀x id np,G.fn.lookup x=some (id,np)->∃f fd st N ps,mg x=some (.ref f)/\RowOk Γ.K G F x x id np f fd st N ps
 obj:∀x k,G.obj.lookup x=some k->k∈Γ.ob/\mg x=some (.ref (Γ.cA k))/\∃f fd st N ps qual,Mk Γ.K (Γ.cA k) f/\RowOk Γ.K G F "__init__" qual (ct.init k) 1 f fd st N ps
 att:∀k,k∈Γ.ob->Cls Γ.K (Γ.cA k)/\∀f,G.atts.contains f=true->a0w Γ.K (Γ.cA k) f
variable{np:Nat}{m':List Addr}{H':Hp}{id:Nat}
section
variable{P:Program}{w:World}{F:Nat->Option Fn}{mg:Str->Option Value}
theorem a9I{ns:Nat}(rs:Rps m H ds vs)(hn:ns=N.length)(hd:ds.length=np):EnvRel m H (ds.map some++List.replicate (ns-np) none) (L2.a1j N vs):=by
 unfold L2.a1j;refine⟨by simp[rs.len,hn,hd],fun i d e=>?_⟩
 by_cases hi:i<ds.length
 · rw[av (by simpa using hi),aj] at e
   rw[av (by simpa [rs.len] using hi),aj]
   cases hd':ds[i]? with
   |none=>rw[hd'] at e;cases e
   |some d'=>
    rw[hd'] at e;cases e;obtain⟨v,h1,h2⟩:=rs.get hd';exact⟨v,by rw[h1];rfl,h2⟩
 · rw[aq (by simpa using hi),bK] at e
   split at e<;>cases e
noncomputable def b8Q:R Out->R D
 |.ok (.nx _) h=>.ok .non h
 |.ok (.rt d) h=>.ok d h
 |.no=>.no
theorem a3q(n:Nat)(f:Nat)(ds:List D)(h:AH):b0 ct F (n+1) f ds h=match F f with
 |none=>.no
 |some fd=>if ds.length=fd.np then gcR fd.gc h (b8Q (exs ct (b0 ct F n) fd.body (ds.map some++List.replicate (fd.ns-fd.np) none) h)) else .no:=by
 show(match F f with
  |none=>R.no
  |some fd=>if ds.length=fd.np then gcR fd.gc h (match exs ct (b0 ct F n) fd.body (ds.map some++List.replicate (fd.ns-fd.np) none) h with
   |.ok (.nx _) h'=>.ok .non h'
   |.ok (.rt d) h'=>.ok d h'
   |.no=>.no) else .no)=_
 cases F f with
 |none=>rfl
 |some fd=>
  simp only
  generalize exs ct (b0 ct F n) fd.body (ds.map some++List.replicate (fd.ns-fd.np) none) h=r
  cases r with
  |ok o h=>cases o<;>rfl
  |no=>rfl
theorem a7S:(∀d v v' m0 H0,m0.length=n->Rp m0 H0 d v'->Rp m' H d v->Rp (m'.take n) H d v)/\∀l vs vs' m0 H0,m0.length=n->Rps m0 H0 l vs'->Rps m' H l vs->Rps (m'.take n) H l vs:=by
 refine D.ind (P:=fun d=>∀v v' m0 H0,m0.length=n->Rp m0 H0 d v'->Rp m' H d v->Rp (m'.take n) H d v) (Q:=fun l=>∀vs vs' m0 H0,m0.length=n->Rps m0 H0 l vs'->Rps m' H l vs->Rps (m'.take n) H l vs) ?_ ?_ ?_ ?_ ?_ ?_ ?_ ?_
 · intro v v' m0 H0 _ _ h;exact h
 · intro b v v' m0 H0 _ _ h;exact h
 · intro b v v' m0 H0 _ _ h;exact h
 · intro b v v' m0 H0 _ _ h;exact h
 · rintro l ih v v' m0 H0 hn ⟨a',vs',_,_,q'⟩ ⟨a,vs,rfl,e,q⟩;exact⟨a,vs,rfl,e,ih vs vs' m0 H0 hn q' q⟩
 · rintro k v v' m0 H0 hn ⟨a',_,e'⟩ ⟨a,rfl,e⟩;refine⟨a,rfl,?_⟩
   have:=(ac.mp e').1
   rw[bJ (by omega)];exact e
 · intro vs vs' m0 H0 _ _ h;exact h
 · rintro d r ih ihs vs vs' m0 H0 hn ⟨v',t',_,q1',q2'⟩ ⟨v,t,rfl,q1,q2⟩;exact⟨v,t,rfl,ih v v' m0 H0 hn q1' q1,ihs t t' m0 H0 hn q2' q2⟩
theorem a2b{α β β':Type}{R R':α->β->Prop}{R0:α->β'->Prop}(f:∀a b b',R0 a b'->R a b->R' a b):∀{l:List α} {l':List β'} {l2:List β},Paired R0 l l'->Paired R l l2->Paired R' l l2
 |_,_,_,.nil,.nil=>.nil
 |_,_,_,.cons h t,.cons h' t'=>.cons (f _ _ _ h h') (a2b f t t')
theorem a9N{a a0:Addr}{c:Cell}(hn:m.length=n)(h0:D8 Γ m H0 a0 c)(h:D8 Γ m' H a c):D8 Γ (m'.take n) H a c:=by
 have rp:=fun d v v' (h1:Rp m H0 d v') (h2:Rp m' H d v)=>(a7S (m':=m') (n:=n) (H:=H)).1 d v v' m H0 hn h1 h2
 have rps:=fun d v v' (h1:Rps m H0 d v') (h2:Rps m' H d v)=>(a7S (m':=m') (n:=n) (H:=H)).2 d v v' m H0 hn h1 h2
 have pr:∀{κ κ' κ'':Type} {l:List (κ×D)} {l':List (κ'×V)} {l2:List (κ''×V)} {A:κ->κ'->Prop} {B:κ->κ''->Prop},Paired (fun p q=>A p.1 q.1/\Rp m H0 p.2 q.2) l l'->Paired (fun p q=>B p.1 q.1/\Rp m' H p.2 q.2) l l2->Paired (fun p q=>B p.1 q.1/\Rp (m'.take n) H p.2 q.2) l l2:=
  fun h0 h=>a2b (fun a b b' x y=>⟨y.1,rp _ _ _ x.2 y.2⟩) h0 h
 cases c with
 |lst l=>obtain⟨vs',_,r'⟩:=h0;obtain⟨vs,e,r⟩:=h;exact⟨vs,e,rps _ _ _ r' r⟩
 |rol l=>obtain⟨vs',_,r',_⟩:=h0;obtain⟨vs,e,r,z⟩:=h;exact⟨vs,e,rps _ _ _ r' r,z⟩
 |dict l=>
  rcases h with⟨kvs,e,r⟩|⟨kvs,e,r⟩
  · rcases h0 with⟨kvs',_,r'⟩|⟨kvs',_,r'⟩
    · exact .inl ⟨kvs,e,pr (A:=fun p q=>G2 p=some q) (B:=fun p q=>G2 p=some q) r' r⟩
    · exact .inl ⟨kvs,e,pr (A:=fun(p:D) q=>∃l,p=D.tup l/\E6 l=some q) (B:=fun p q=>G2 p=some q) r' r⟩
  · rcases h0 with⟨kvs',_,r'⟩|⟨kvs',_,r'⟩
    · exact .inr ⟨kvs,e,pr (A:=fun p q=>G2 p=some q) (B:=fun(p:D) q=>∃l,p=D.tup l/\E6 l=some q) r' r⟩
    · exact .inr ⟨kvs,e,pr (A:=fun(p:D) q=>∃l,p=D.tup l/\E6 l=some q) (B:=fun(p:D) q=>∃l,p=D.tup l/\E6 l=some q) r' r⟩
 |obj k fs=>obtain⟨dx',gs',_,r',_⟩:=h0;obtain⟨dx,gs,e,r,z⟩:=h;exact⟨dx,gs,e,pr (A:=fun p q=>p=q) (B:=fun p q=>p=q) r' r,z⟩
theorem Sim.drop{ah':AH}(s:Sim Γ ah m H)(s':Sim Γ ah' m' H')(p:Pre m m')(k:Keep m m' H H')(h:ah'.take ah.length=ah):Sim Γ ah m H':=by
 have hm:m'.take ah.length=m:=by
  obtain⟨t,rfl⟩:=p;rw[←s.len,List.take_left]
 refine⟨s.len,s.nd,fun n a c hn hc=>?_⟩
 have hl:=(ac.mp hc).1
 have hc':ah'[n]? =some c:=by
  rw[←h,bJ hl] at hc
  exact hc
 have:=a9N (n:=ah.length) s.len (s.at hn hc) (s'.at (p.get hn) hc')
 rwa [hm] at this
theorem a9F{a:Addr}{c:Cell}(f:c.flat=true)(h:D8 Γ m H a c):D8 Γ m' H a c:=by
 cases c with
 |lst l=>obtain⟨vs,e,r⟩:=h;exact⟨vs,e,(a4H (m':=m')).2 _ _ f r⟩
 | dict l=>
  have go:∀{κ:Type} {A:D->κ->Prop} {l:List (D×D)} {l2:List (κ×V)},(l.all fun p=>p.1.flat&&p.2.flat)=true->Paired (fun p q=>A p.1 q.1/\Rp m H p.2 q.2) l l2->Paired (fun p q=>A p.1 q.1/\Rp m' H p.2 q.2) l l2:=by
   intro κ A l l2 hf hp
   induction hp with
   |nil=>exact .nil
   |cons h t ih=>
    rw[all_cons,ae,ae] at hf;exact .cons ⟨h.1,(a4H (m':=m')).1 _ _ hf.1.2 h.2⟩ (ih hf.2)
  rcases h with⟨kvs,e,r⟩|⟨kvs,e,r⟩
  · exact .inl ⟨kvs,e,go (A:=fun p q=>G2 p=some q) f r⟩
  · exact .inr ⟨kvs,e,go (A:=fun(p:D) q=>∃l,p=D.tup l/\E6 l=some q) f r⟩
 |_=>cases f
theorem b9t {E :XK} {g:Nat} {r:R Out} (s:Sim Γ ah m H) (h:d9 Γ E m H (gcR g ah (b8Q r)) Q):i9 Γ E m H r (SQ {nx:=fun _ H'=>Q .non H',rt:=Q}):=by
 have main : ∀{d:D} {ah':AH},d9 Γ E m H (gcR g ah (.ok d ah')) Q->∀m' H' v,Pre m m'->Keep m m' H H'->Sim Γ ah' m' H'->Rp m' H' d v->Q v H':=by
  intro d ah' h m' H' v p k s' rv;unfold gcR at h
  simp only at h
  split at h
  · exact h m' H' v p k s' rv
  · split at h
    · split at h
      · rename_i hh;exact h m H' v (Pre.refl m) ⟨k.im,k.out,fun _ z=>.inl z⟩ (s.drop s' p k hh.1) ((a4H (m':=m)).1 d v hh.2 rv)
      · exact h.elim
    · split at h
      · rename_i kk
        split at h
        · rename_i c hc
          split at h
          · rename_i hh;obtain⟨a,rfl,ha⟩:=rv;have s0:=s.drop s' p k hh.1
            have hna:a∉m:=fun z=>by
             obtain⟨i,hi⟩:=bm z
             have e1:=p.get hi;have hlt:=(ac.mp hi).1
             obtain⟨h1,e1⟩:=ac.mp e1
             obtain⟨h2,e2⟩:=ac.mp ha
             have:=(getElem_inj s'.nd).mp (e1.trans e2.symm)
             have hl:=s.len;omega
            have Hn:H a=none:=by
             rcases k.fr a (aG ha) with z|z
             · exact absurd z hna
             · exact z
            refine h (m++[a]) H' (.ref a) (Pre.snoc m a) ⟨k.im,k.out,fun b hb=>?_⟩ ?_ ⟨a,rfl,?_⟩
            · rcases aK.mp hb with z|z
              · exact .inl z
              · simp at z;subst z;exact .inr Hn
            · refine⟨by simp[s.len],a0S s.nd hna,fun n b cc hn hcc=>?_⟩
              by_cases hl:n<m.length
              · rw[av hl] at hn
                rw[av (by rw[←s.len];exact hl)] at hcc
                exact(s0.at hn hcc).mono' (Pre.snoc m a) (fun _ _ _ z=>z) rfl
              · have hn':n=m.length:=by
                 have:=(ac.mp hn).1
                 simp at this;omega
                subst hn';rw[aq (ai _)] at hn
                rw[s.len,aq (ai _)] at hcc
                simp at hn hcc;subst hn;subst hcc
                exact a9F hh.2.2 (s'.at ha hc)
            · rw[←s.len,aq (ai _)];simp
          · exact h.elim
        · exact h.elim
      · exact h.elim
 cases r with
 |ok o ah'=>
  cases o with
  |nx env=>exact fun m' H' p k s' σ' _=>main h m' H' .non p k s' rfl
  |rt d=>exact fun m' H' p k s' v rv=>main h m' H' v p k s' rv
 |no=>exact h.elim
theorem a5g(S:Stat P w Γ G ct F mg)(ih1:∀x id np,G.fn.lookup x=some (id,np)->∃f fd ps,ps.length=np/\mg x=some (.ref f)/\PySem.W.keepIn Γ.K (.ref f)=true/\T3 Γ.K fd ps []/\∀base,FnOk P w Γ.K mg base CX0 (2*n+6) f fd ps (a4C Γ (b0 ct F n) id np))
 (ih2:∀x k,G.obj.lookup x=some k->k∈Γ.ob/\mg x=some (.ref (Γ.cA k))/\∃f fd ps,ps.length=1/\Mk Γ.K (Γ.cA k) f/\T3 Γ.K fd ps []/\∀base,FnOk P w Γ.K mg base CX0 (2*n+6) f fd ps (a4C Γ (b0 ct F n) (ct.init k) 1))
 (ar:∀x id np,G.fn.lookup x=some (id,np)->∀ds h,ds.length≠np->b0 ct F n id ds h=.no)
 {qual:Str} {f:Addr} {fd:FuncData} {ps:List Str} (R:RowOk Γ.K G F x qual id np f fd st N ps) (base:Heap):FnOk P w Γ.K mg base CX0 (2*(n+1)+6) f fd ps (a4C Γ (b0 ct F (n+1)) id np):=by
 obtain⟨fn,F1,F2,F3,F4⟩:=R.F;obtain⟨oc,od,kV,doc,pm,an,cdv,ct',osl,rfl,lk,hcd⟩:=R.fn.ex;refine b9x (k:=2*n+7) lk hcd R.sc (fun vs H Q E h=>?_) fun A outer s H vs Q E hr hsp=>?_
 · obtain⟨ds,ah,m,h1,h2,_⟩:=h;rw[h2.len,h1,R.np]
 · obtain⟨ds,ah,m,h1,h2,h3,h4⟩:=hsp
   have C:Cxt (a7v CX0 P w Γ.K mg base N qual (t8 st) f cdv A outer s H E) Γ G ct (b0 ct F n) E N (t8 st) true:=by
    refine⟨rfl,R.sc.nd,rfl,rfl,?_,rfl,fun _ _=>rfl,S.scal,S.tups,S.dicts,S.blt,fun y i j hy=>?_,fun y k hy=>?_,S.att⟩
    · exact Nat.lt_of_le_of_lt (Nat.add_le_add_left (by decide:8<=64) _) hr.units
    · obtain⟨f',fd',ps',a1,a2,a3,a4,a5⟩:=ih1 y i j hy;exact⟨2*n+6,f',fd',ps',a1,hr.mono (by omega),a2,a3,a4,a5 base,ar y i j hy⟩
    · obtain⟨b1,b2,f',fd',ps',a1,a2,a3,a4⟩:=ih2 y k hy;exact⟨b1,2*n+6,f',fd',ps',a1,hr.mono (by omega),a2,b2,a3,a4 base⟩
   have Cs:Cxs (a7v CX0 P w Γ.K mg base N qual (t8 st) f cdv A outer s H E) Γ G ct (b0 ct F n) E N (t8 st):=by
    exact⟨C,PassesOwn.leaving⟩
   refine⟨_,b2E Cs 20 _ _ F4,ds.map some++List.replicate (fn.ns-fn.np) none,ah,m,⟨h3,a9I h2 F3 (by rw[h1,F2])⟩,?_⟩
   rw[a3q,F1] at h4
   simp only at h4
   rw[ay (by rw[h1,F2])] at h4
   exact b9t h3 h4
theorem b2N(S:Stat P w Γ G ct F mg):∀n x id np,G.fn.lookup x=some (id,np)->∀ds h,ds.length≠np->b0 ct F n id ds h=.no
 |0,_,_,_,_,_,_,_=>rfl
 |n+1,x,id,np,hx,ds,h,hl=>by
  obtain⟨_,_,_,_,_,_,R⟩:=S.fn x id np hx;obtain⟨fn,F1,F2,_⟩:=R.F;rw[a3q,F1]
  simp only
  rw[az (by rw[F2];exact hl)]
theorem b7f(S:Stat P w Γ G ct F mg):∀n,(∀x id np,G.fn.lookup x=some (id,np)->∃f fd ps,ps.length=np/\mg x=some (.ref f)/\PySem.W.keepIn Γ.K (.ref f)=true/\T3 Γ.K fd ps []/\∀base,FnOk P w Γ.K mg base CX0 (2*n+6) f fd ps (a4C Γ (b0 ct F n) id np))∧
 (∀x k,G.obj.lookup x=some k->k∈Γ.ob/\mg x=some (.ref (Γ.cA k))/\∃f fd ps,ps.length=1/\Mk Γ.K (Γ.cA k) f/\T3 Γ.K fd ps []/\∀base,FnOk P w Γ.K mg base CX0 (2*n+6) f fd ps (a4C Γ (b0 ct F n) (ct.init k) 1)):=by
 have zero:∀{k:Nat} {f:Addr} {fd:FuncData} {ps:List Str} {id np:Nat} {base:Heap},FnOk P w Γ.K mg base CX0 k f fd ps (a4C Γ (b0 ct F 0) id np):=fun{k f fd ps id np base}=>
  ⟨fun vs H Q E h=>by obtain⟨_,_,_,_,_,_,z⟩:=h;exact z.elim,fun A outer s H args us vs Q E _ _ _ _ h=>by obtain⟨_,_,_,_,_,_,z⟩:=h;exact z.elim⟩
 intro n
 induction n with
 |zero=>
  refine⟨fun x id np hx=>?_,fun x k hk=>?_⟩
  · obtain⟨f,fd,st,N,ps,g,R⟩:=S.fn x id np hx;exact⟨f,fd,ps,R.np,g,R.fn.kp,R.bd,fun base=>zero⟩
  · obtain⟨o1,o2,f,fd,st,N,ps,qual,M,R⟩:=S.obj x k hk;exact⟨o1,o2,f,fd,ps,R.np,M,R.bd,fun base=>zero⟩
 |succ n ih=>
  refine⟨fun x id np hx=>?_,fun x k hk=>?_⟩
  · obtain⟨f,fd,st,N,ps,g,R⟩:=S.fn x id np hx;exact⟨f,fd,ps,R.np,g,R.fn.kp,R.bd,fun base=>a5g S ih.1 ih.2 (b2N S n) R base⟩
  · obtain⟨o1,o2,f,fd,st,N,ps,qual,M,R⟩:=S.obj x k hk;exact⟨o1,o2,f,fd,ps,R.np,M,R.bd,fun base=>a5g S ih.1 ih.2 (b2N S n) R base⟩
end
end EV
namespace L2T
open PySem
abbrev cd(z:Str):List Nat:=z.cps.toList
variable{x:Str}
theorem a1e{y:Str}(h:cd x=cd y):x=y:=by
 cases x;cases y
 exact congrArg Str.mk (Array.toList_inj.mp h)
theorem K2(x y:Str):cd (x++y)=cd x++cd y:=by
 show(x.cps++y.cps).toList=_
 simp
theorem r8(x:Str):(cd x).length=x.length:=by simp[cd,Str.length]
noncomputable def jn(c:Nat):List (List Nat)->List Nat
 |[]=>[]
 |[x]=>x
 |x::y::r=>x++c::jn c (y::r)
theorem a2A(c:Nat):∀ps:List Str,cd (Str.join ⟨#[c]⟩ ps)=jn c (ps.map cd)
 |[]=>rfl
 |[x]=>rfl
 |x::y::r=>by
  show cd (x++⟨#[c]⟩++Str.join ⟨#[c]⟩ (y::r))=cd x++c::jn c ((y::r).map cd)
  rw[K2,K2,a2A c (y::r)];simp[cd]
theorem a4l{c:Nat}:∀{p q a b:List Nat},c∉p->c∉q->p++c::a=q++c::b->p=q/\a=b
 |[],[],a,b,_,_,h=>⟨rfl,by simpa using h⟩
 |[],y::q,a,b,_,hq,h=>by
  have e:c=y:=(List.cons.inj h).1
  exact absurd (by rw[e];exact bh) hq
 |x::p,[],a,b,hp,_,h=>by
  have e:x=c:=(List.cons.inj h).1
  exact absurd (by rw[←e];exact bh) hp
 |x::p,y::q,a,b,hp,hq,h=>by
  obtain⟨e1,e2⟩:=List.cons.inj h;obtain⟨e3,e4⟩:=a4l (fun z=>hp (aD _ z)) (fun z=>hq (aD _ z)) e2
  exact⟨by rw[e1,e3],e4⟩
theorem b1C{c:Nat}:∀{ps qs:List (List Nat)},ps≠[]->qs≠[]->(∀p∈ps,c∉p)->(∀q∈qs,c∉q)->jn c ps=jn c qs->ps=qs
 |[],_,h,_,_,_,_=>absurd rfl h
 |_::_,[],_,h,_,_,_=>absurd rfl h
 |[x],[y],_,_,_,_,h=>by rw[show x=y from h]
 |[x],y::z::r,_,_,hp,_,h=>by
  have h':x=y++c::jn c (z::r):=h
  exact absurd (by rw[h'];simp) (hp x bh)
 |x::y::r,[z],_,_,_,hq,h=>by
  have h':x++c::jn c (y::r)=z:=h
  exact absurd (by rw[←h'];simp) (hq z bh)
 |x::y::r,z::u::t,_,_,hp,hq,h=>by
  obtain⟨e1,e2⟩:=a4l (hp x bh) (hq z bh) h;have e3:=b1C (cons_ne_nil _ _) (cons_ne_nil _ _) (fun p hp'=>hp p (aD _ hp')) (fun q hq'=>hq q (aD _ hq')) e2
  rw[e1,e3]
theorem a8g:∀{ps qs:List Str},ps.map cd=qs.map cd->ps=qs
 |[],[],_=>rfl
 |[],_::_,h=>by cases h
 |_::_,[],h=>by cases h
 |x::r,y::t,h=>by
  obtain⟨e1,e2⟩:=List.cons.inj h;rw[a1e e1,a8g e2]
variable{c:Nat}
theorem a2K{ps:List Str}(hn:ps≠[])(hf:∀p∈ps,c∉cd p)(h:cd x=jn c (ps.map cd)):Txt.split x ⟨#[c]⟩=ps:=by
 have h1:=StrLaws.join_split x ⟨#[c]⟩
 have h2:jn c ((Txt.split x ⟨#[c]⟩).map cd)=jn c (ps.map cd):=by rw[←a2A,h1,h]
 have h3:Txt.split x ⟨#[c]⟩≠[]:=fun e=>by
  have:=PyProof.Rows.split_pos x ⟨#[c]⟩
  rw[e] at this;exact absurd this (by decide)
 refine a8g (b1C (fun e=>h3 (List.map_eq_nil_iff.mp e)) (fun e=>hn (List.map_eq_nil_iff.mp e)) (fun p hp=>?_) (fun p hp=>?_) h2)
 · obtain⟨q,hq,rfl⟩:=ak.mp hp;exact StrLaws.split_free x c q hq
 · obtain⟨q,hq,rfl⟩:=ak.mp hp;exact hf q hq
def b9B:Str:="0123456789"
noncomputable def a1k:Str:="abcdefghijklmnopqrstuvwxyz0123456789"
def O7(c:Nat):Bool:=decide (c∈cd a1k)
def Q8(c:Nat):Bool:=decide (c∈cd b9B)
theorem a5j(c:Nat):Q8 c=true↔48<=c/\c<=57:=by
 unfold Q8;rw[decide_eq_true_iff,show cd b9B=List.range' 48 10 from by decide+kernel,List.mem_range'_1]
 exact and_congr_right fun _=>Nat.lt_succ_iff
def l0(z:Str):Bool:=decide (1<=z.length)&&decide (z.length<=12)&&(cd z).all O7
noncomputable def a2c(z:Str):Bool:=decide (1<=z.length)&&decide (z.length<=5)&&(cd z).all Q8&&(decide (z="0")||!decide ((cd z).head? =some 48))
noncomputable def U9(z:Str):Option Int:=if(cd z).all Q8=true then(if z=""∨5<z.length∨((cd z).head? =some 48/\1<z.length) then none else some ((NumText.digitsVal (cd z):Nat):Int)) else none
noncomputable def tl(z:Str):Str:=⟨((cd z).drop 1).toArray⟩
theorem a8L(z:Str):cd (tl z)=(cd z).drop 1:=by simp[tl,cd]
def a3O(z:Str):Bool:=if(cd z).head? =some 45 then(!decide (z="-0")&&a2c (tl z)) else a2c z
def a0K(z:Str):Option Int:=if(cd z).head? =some 45 then(match U9 (tl z) with|none=>none|some n=>if n=0 then none else some (-n)) else U9 z
theorem a9w(z:Str):z=""↔z.length=0:=by
 constructor
 · rintro rfl;rfl
 · intro h;refine a1e ?_
   have:(cd z).length=0:=by rw[r8];exact h
   rw[length_eq_zero_iff.mp this];rfl
variable{z:Str}
theorem a3w(h:(cd z).all Q8=true):NumText.AllDigits (cd z):=fun c hc=>(a5j c).mp (bv.mp h c hc)
theorem a4j:∀(cs:List Nat) (a:Nat),a<=cs.foldl (fun acc c=>acc*10+(c-48)) a
 |[],a=>ai _
 |c::r,a=>aR (by omega) (a4j r (a*10+(c-48)))
theorem a7u{r:List Nat}(h:48<c):0<NumText.digitsVal (c::r):=by
 unfold NumText.digitsVal;rw[foldl_cons];exact aC (by omega) (a4j r (0*10+(c-48)))
theorem a2X:a2c z=(U9 z).isSome:=by
 unfold a2c U9
 by_cases h:(cd z).all Q8=true
 · rw [ay h,h]
   by_cases q:z=""∨5<z.length∨((cd z).head? =some 48/\1<z.length)
   · rw[ay q]
     show _=false
     rcases q with q|q|⟨q1,q2⟩
     · rw[a9w] at q;simp[q]
     · simp[show¬z.length<=5 by omega]
     · have ne:¬z="0":=by rintro rfl;exact absurd q2 (by decide)
       simp[q1,ne]
   · rw [az q]
     show _=true
     have q1:¬z.length=0:=fun e=>q (.inl ((a9w z).mpr e))
     have q2:z.length<=5:=aX fun e=>q (.inr (.inl e))
     have q3:z="0"∨¬(cd z).head? =some 48:=by
      by_cases e:(cd z).head? =some 48
      · left
        have l:z.length=1:=by
         have k:¬1<z.length:=fun e'=>q (.inr (.inr ⟨e,e'⟩))
         omega
        refine a1e ?_
        have l':(cd z).length=1:=by rw[r8];exact l
        obtain⟨x,hx⟩:=List.length_eq_one_iff.mp l';rw[hx] at e⊢
        have e':x=48:=by simpa using e
        rw[e']
        decide+kernel
      · exact .inr e
     have a1:1<=z.length:=by omega
     rcases q3 with q3|q3
     · rw[q3];decide+kernel
     · simp[a1,q2,q3]
 · rw[az h]
   show _=false
   simp[show(cd z).all Q8=false from by simpa using h]
variable{n:Int}
theorem a2x (h:U9 z=some n):intText? z=some n/\z.length<=640/\0<=n/\(n=0↔z="0"):=by
 unfold U9 at h
 by_cases q:(cd z).all Q8=true
 · rw[ay q] at h
   by_cases p:z=""∨5<z.length∨((cd z).head? =some 48/\1<z.length)
   · rw[ay p] at h;cases h
   · rw [az p] at h;cases h
     have p1:¬z.length=0:=fun e=>p (.inl ((a9w z).mpr e))
     have p2:z.length<=5:=aX fun e=>p (.inr (.inl e))
     have ne:cd z≠[]:=fun e=>p1 (by rw[←r8,e];rfl)
     refine⟨PySem.intText_digits (a3w q) ne (by omega),by omega,Int.natCast_nonneg _,?_,?_⟩
     · intro e
       have e0:NumText.digitsVal (cd z)=0:=by omega
       cases hz:cd z with
       |nil=>exact absurd hz ne
       | cons c r=>
        have hc:c=48:=by
         have:=(a3w q) c (by rw[hz];exact bh)
         rw[hz] at e0
         by_cases k:48<c
         · exact absurd (a7u (r:=r) k) (by omega)
         · omega
        have hl:¬1<z.length:=fun e'=>p (.inr (.inr ⟨by rw[hz,hc];rfl,e'⟩))
        have hr:r=[]:=by
         have:(cd z).length=r.length+1:=by rw[hz];rfl
         rw[r8] at this;exact length_eq_zero_iff.mp (by omega)
        refine a1e ?_
        rw[hz,hc,hr]
        decide+kernel
     · rintro rfl
       decide+kernel
 · rw[az q] at h;cases h
theorem a5P:a3O z=(a0K z).isSome:=by
 unfold a3O a0K
 by_cases h:(cd z).head? =some 45
 · rw [ay h,ay h,a2X]
   have hz:(z="-0")↔tl z="0":=by
    constructor
    · rintro rfl;decide+kernel
    · intro e;refine a1e ?_
      have e1:(cd z).drop 1=cd "0":=by rw[←a8L,e]
      cases hc:cd z with
      |nil=>rw[hc] at h;cases h
      |cons c r=>
       rw[hc] at h e1
       have hc':c=45:=by simpa using h
       have hr:r=cd "0":=e1
       rw[hc',hr]
       decide+kernel
   cases q:U9 (tl z) with
   |none=>simp
   |some n=>
    obtain⟨_,_,_,k⟩:=a2x q
    by_cases e:n=0
    · simp[e,hz,k.mp e]
    · have k':¬tl z="0":=fun z'=>e (k.mpr z')
      simp[e,hz,k']
 · rw[az h,az h];exact a2X
theorem a2s(h:a0K z=some n):intText? z=some n/\z.length<=640:=by
 unfold a0K at h
 by_cases q:(cd z).head? =some 45
 · rw [ay q] at h
   cases e:U9 (tl z) with
   |none=>rw[e] at h;cases h
   |some m=>
    rw[e] at h
    dsimp only at h
    by_cases m0:m=0
    · rw[ay m0] at h;cases h
    · rw [az m0] at h;cases h
      cases hc:cd z with
      |nil=>rw[hc] at q;cases q
      |cons c r=>
       have hc':c=45:=by rw[hc] at q;simpa using q
       have ht:cd (tl z)=r:=by rw[a8L,hc];rfl
       unfold U9 at e
       by_cases f:(cd (tl z)).all Q8=true
       · rw[ay f] at e
         by_cases p:tl z=""∨5<(tl z).length∨((cd (tl z)).head? =some 48/\1<(tl z).length)
         · rw[ay p] at e;cases e
         · rw[az p] at e;cases e
           have l2:(tl z).length<=5:=aX fun k=>p (.inr (.inl k))
           have l3:z.length=(tl z).length+1:=by rw[←r8 z,←r8 (tl z),ht,hc];rfl
           have ne:r≠[]:=fun k=>p (.inl ((a9w _).mpr (by rw[←r8,ht,k];rfl)))
           refine⟨?_,by omega⟩
           rw[ht];exact PySem.intText_neg (by rw[←hc'];exact hc) (ht▸a3w f) ne (by omega)
       · rw[az f] at e;cases e
 · rw[az q] at h;exact⟨(a2x h).1,(a2x h).2.1⟩
end L2T
namespace EV
open PySem L2
noncomputable def abc:Str:="abcdefghijklmnopqrstuvwxyz"
def cA:E:=(.comp (.nm 0) (.rng1 (.v 1)) 1 [3,2,1] .yes (.bin .mul (.ix (.v 2) (.v 1)) (.bin .sub (.v 3) (.v 0))))
def cS:E:=(.comp (.nm 0) (.rng1 (.v 4)) 1 [0,2] .yes (.ix (.bin .add (.v 2) (.k (.str "0123456789"))) (.bin .mod (.bin .add (.bin .div (.v 1) (.k (.int (16224)))) (.bin .mul (.k (.int (7))) (.v 0))) (.k (.int (36))))))
def cB:E:=(.comp (.nm 0) (.rng1 (.v 1)) 1 [3,2,5,6] .yes (.bin .add (.bin .add (.sl (.v 4) .no (.at (.v 3))) (.ix (.v 2) (.bin .mod (.bin .add (.v 1) (.bin .mul (.k (.int (5))) (.v 0))) (.k (.int (26)))))) (.sl (.v 4) (.at (.v 3)) .no)))
def wE:E:=(.ix (.lst (.cons (.k (.int (0))) (.cons (.bin .mod (.bin .div (.v 5) (.k (.int (4)))) (.k (.int (20)))) (.cons (.bin .mod (.bin .div (.v 5) (.k (.int (4)))) (.k (.int (1000)))) (.cons (.bin .mod (.bin .div (.v 5) (.k (.int (4)))) (.k (.int (99999)))) .nil))))) (.bin .mod (.v 5) (.k (.int (4)))))
def wB:Ss:=(.cons (.set 5 (.call 202 (.cons (.v 0) (.cons (.bin .add (.v 4) (.k (.int (10)))) .nil)))) (.cons (.ex (.mt .append (.v 3) (.cons wE .nil))) .nil))
def b0q:E:=(.ix (.lst (.cons (.k (.str "above")) (.cons (.k (.str "below")) .nil))) (.bin .mod (.bin .div (.v 4) (.k (.int (4)))) (.k (.int (2)))))
def b8Z:Ss:=(.cons (.ex (.mt .append (.v 2) (.cons (.tup (.cons (.ix (.ix (.v 1) (.v 3)) (.k (.int (0)))) (.cons (.v 5) (.cons (.call 205 (.cons (.bin .div (.v 4) (.k (.int (8)))) .nil)) (.cons (.call 205 (.cons (.bin .div (.v 4) (.k (.int (8000)))) .nil)) .nil))))) .nil))) .nil)
def mkB:Ss:=(.cons (.set 4 (.call 202 (.cons (.v 0) (.cons (.bin .add (.v 3) (.k (.int (40)))) .nil)))) (.cons (.iff (.cmp .eq (.bin .mod (.v 4) (.k (.int (4)))) (.k (.int (1)))) (.cons (.set 5 b0q) b8Z) .nil) .nil))
def b0N:Ss:=(.cons (.iff (.cmp .gt (.bin .mod (.bin .div (.v 4) (.k (.int (2)))) (.k (.int (3)))) (.k (.int (0)))) (.cons (.ex (.mt .append (.v 2) (.cons (.tup (.cons (.ix (.ix (.v 1) (.v 3)) (.k (.int (0)))) (.cons (.v 5) (.cons (.call 205 (.cons (.bin .div (.v 4) (.k (.int (6)))) .nil)) .nil)))) .nil))) .nil) .nil) .nil)
def ptB:Ss:=(.cons (.set 4 (.call 202 (.cons (.v 0) (.cons (.bin .add (.v 3) (.k (.int (70)))) .nil)))) (.cons (.for (.nm 5) (.seq (.sl (.lst (.cons (.k (.str "above")) (.cons (.k (.str "below")) .nil))) (.at (.bin .mod (.v 4) (.k (.int (2))))) .no)) b0N) .nil))
noncomputable def jnD:List (D×D):=[((.str "both"),(.int (4))),((.str "back"),(.int (2))),((.str "none"),(.int (1))),((.str "clear"),(.int (1)))]
noncomputable def jnE:E:=(.lst (.cons (.k (.str "both")) (.cons (.k (.str "back")) (.cons (.k (.str "none")) (.cons (.k (.str "both")) (.cons (.k (.str "clear")) (.cons (.k (.str "both")) .nil)))))))
noncomputable def wyE:E:=(.lst (.cons (.k (.str "left")) (.cons (.k (.str "right")) (.cons (.k (.str "either")) .nil))))
def fcE:E:=(.comp (.nm 0) (.rng1 (.v 8)) 1 [6,1] .yes (.ix (.ix (.v 2) (.bin .mod (.bin .div (.v 1) (.bin .add (.bin .mul (.bin .mul (.v 0) (.v 0)) (.k (.int (31)))) (.k (.int (7))))) (.bi .len (.cons (.v 2) .nil)))) (.k (.int (0)))))
def lB5:Ss:=(.cons (.ex (.mt .append (.v 4) (.cons (.tup (.cons (.ix (.v 3) (.v 5)) (.cons (.v 7) (.cons (.ix wyE (.bin .mod (.bin .div (.v 6) (.k (.int (6)))) (.k (.int (3))))) (.cons (.v 9) .nil))))) .nil))) .nil)
def lB4:Ss:=(.cons (.set 9 (.bi .tuple (.cons fcE .nil))) lB5)
def lB3:Ss:=(.cons (.set 8 (.ix (.dlit jnD) (.v 7))) lB4)
def lB:Ss:=(.cons (.set 6 (.call 202 (.cons (.v 0) (.cons (.bin .add (.v 5) (.k (.int (100)))) .nil)))) (.cons (.set 7 (.ix jnE (.bin .mod (.v 6) (.k (.int (6)))))) lB3))
def smE:E:=(.comp (.nm 0) (.rng1 (.bin .add (.k (.int (1))) (.bin .mod (.v 6) (.k (.int (5)))))) 1 [6,1] .yes (.ix (.ix (.v 2) (.bin .mod (.bin .div (.v 1) (.bin .add (.bin .mul (.v 0) (.k (.int (13)))) (.k (.int (5))))) (.bi .len (.cons (.v 2) .nil)))) (.k (.int (0)))))
def kB:Ss:=(.cons (.set 6 (.call 202 (.cons (.v 0) (.cons (.bin .add (.v 4) (.k (.int (130)))) .nil)))) (.cons (.set 7 smE) (.cons (.ex (.mt .append (.v 3) (.cons (.tup (.cons (.v 5) (.cons (.bi .tuple (.cons (.v 7) .nil)) .nil))) .nil))) .nil)))
def feE:E:=(.comp (.tp (.cons (.nm 0) (.cons (.nm 1) .nil))) (.enum (.call 203 (.cons (.bin .div (.v 6) (.k (.int (3)))) (.cons (.bin .add (.k (.int (1))) (.bin .mod (.v 6) (.k (.int (3))))) .nil)))) 2 [6] .yes (.tup (.cons (.v 1) (.cons (.bin .gt (.bin .mod (.bin .div (.v 2) (.bin .add (.v 0) (.k (.int (5))))) (.k (.int (4)))) (.k (.int (0)))) .nil))))
def gpE:E:=(.comp (.tp (.cons (.nm 0) (.cons (.nm 1) .nil))) (.enum (.v 4)) 2 [6] (.cmp .eq (.bin .mod (.bin .div (.v 2) (.bin .add (.bin .mul (.k (.int (7))) (.v 0)) (.k (.int (9))))) (.k (.int (4)))) (.k (.int (0)))) (.ix (.v 1) (.k (.int (0)))))
def hB4:Ss:=(.cons (.set 9 gpE) (.cons (.set 10 (.call 206 (.cons (.v 2) (.cons (.v 3) .nil)))) (.cons (.set 11 (.call 207 (.cons (.v 2) (.cons (.v 3) .nil)))) (.cons (.ret (.tup (.cons (.v 3) (.cons (.v 10) (.cons (.v 11) (.cons (.v 4) (.cons (.v 9) (.cons (.v 5) (.cons (.v 7) (.cons (.v 8) .nil)))))))))) .nil))))
def hB3:Ss:=(.cons (.set 7 feE) (.cons (.set 8 (.call 211 (.cons (.call 201 (.cons (.v 0) (.cons (.k (.int (3))) .nil))) (.cons (.v 1) (.cons (.v 3) (.cons (.v 4) (.cons (.v 5) (.cons (.v 7) .nil)))))))) hB4))
def hB2:Ss:=(.cons (.set 4 (.call 208 (.cons (.call 201 (.cons (.v 0) (.cons (.k (.int (1))) .nil))) (.cons (.v 3) .nil)))) (.cons (.set 5 (.call 209 (.cons (.call 201 (.cons (.v 0) (.cons (.k (.int (2))) .nil))) (.cons (.v 3) .nil)))) (.cons (.set 6 (.call 202 (.cons (.call 201 (.cons (.v 0) (.cons (.k (.int (2))) .nil))) (.cons (.k (.int (5))) .nil)))) hB3)))
def b4o:E:=(.bin .add (.bin .add (.bin .add (.k (.str "shape ")) (.v 0)) (.k (.str " "))) (.bi .str (.cons (.v 1) .nil)))
def b9q:E:=(.comp (.tp (.cons (.nm 0) (.cons (.nm 1) .nil))) (.seq (.ix (.v 0) (.k (.int (0))))) 2 [] .yes b4o)
def b4q:Ss:=(.cons (.set 6 (.bin .add (.bin .add (.call 213 (.cons (.v 4) .nil)) (.k (.str " "))) (.call 213 (.cons (.v 5) .nil)))) (.cons (.ex (.mt .append (.v 2) (.cons (.bin .add (.bin .add (.bin .add (.bin .add (.bin .add (.k (.str "mark ")) (.v 1)) (.k (.str " "))) (.v 3)) (.k (.str " "))) (.v 6)) .nil))) .nil))
def b7a:E:=(.bin .add (.bin .add (.bin .add (.bin .add (.bin .add (.k (.str "point ")) (.v 0)) (.k (.str " "))) (.v 1)) (.k (.str " "))) (.call 213 (.cons (.v 2) .nil)))
def b9p:E:=(.comp (.tp (.cons (.nm 0) (.cons (.nm 1) (.cons (.nm 2) .nil)))) (.seq (.ix (.v 0) (.k (.int (2))))) 3 [] .yes b7a)
def b9k:E:=(.bin .add (.lst (.cons (.k (.str "letter")) (.cons (.v 1) (.cons (.v 7) (.cons (.v 8) .nil))))) (.bi .list (.cons (.v 9) .nil)))
def b4p:Ss:=(.cons (.ex (.mt .append (.v 2) (.cons (.mt .join (.k (.str " ")) (.cons b9k .nil)) .nil))) .nil)
def b9o:E:=(.comp (.nm 0) (.seq (.ix (.v 0) (.k (.int (4))))) 1 [] .yes (.bin .add (.k (.str "gap ")) (.v 0)))
def b6Y:E:=(.bin .add (.lst (.cons (.k (.str "class")) (.cons (.v 0) .nil))) (.bi .list (.cons (.v 1) .nil)))
def b9n:E:=(.comp (.tp (.cons (.nm 0) (.cons (.nm 1) .nil))) (.seq (.ix (.v 0) (.k (.int (5))))) 2 [] .yes (.mt .join (.k (.str " ")) (.cons b6Y .nil)))
def b6Z:E:=(.bin .add (.bin .add (.bin .add (.k (.str "feature ")) (.v 0)) (.k (.str " "))) (.ix (.lst (.cons (.k (.str "off")) (.cons (.k (.str "on")) .nil))) (.bi .int (.cons (.v 1) .nil))))
def b9m:E:=(.comp (.tp (.cons (.nm 0) (.cons (.nm 1) .nil))) (.seq (.ix (.v 0) (.k (.int (6))))) 2 [] .yes b6Z)
noncomputable def b9l:E:=(.comp (.nm 0) (.seq (.ix (.v 0) (.k (.int (7))))) 1 [] .yes (.call 214 (.cons (.v 0) .nil)))
noncomputable def htP(a b c d:Nat):Pat:=.tp (.cons (.nm a) (.cons (.nm b) (.cons (.nm c) (.cons (.nm d) .nil))))
def c8E:E:=(.ix (.lst (.cons (.k (.int (0))) (.cons (.k (.int (1))) (.cons (.k (.int (1))) (.cons (.k (.int (1))) (.cons (.k (.int (2))) (.cons (.k (.int (2))) (.cons (.k (.int (3))) (.cons (.k (.int (4))) .nil))))))))) (.bin .mod (.v 7) (.k (.int (8)))))
def cB3:Ss:=(.cons (.ex (.mt .append (.v 3) (.cons (.tup (.cons (.ix (.ix (.v 2) (.bin .mod (.bin .div (.v 7) (.k (.int (8)))) (.bi .len (.cons (.v 2) .nil)))) (.k (.int (0)))) (.cons (.trng (.v 4) (.bin .add (.v 4) (.v 8))) .nil))) .nil))) (.cons (.set 4 (.bin .add (.v 4) (.v 8))) .nil))
def cB2:Ss:=(.cons (.iff (.cmp .eq (.v 4) (.k (.int (0)))) (.cons (.set 8 (.bi .max (.cons (.k (.int (1))) (.cons (.v 8) .nil)))) .nil) .nil) cB3)
def cB1:Ss:=(.cons (.set 7 (.call 202 (.cons (.v 6) (.cons (.bin .add (.v 5) (.k (.int (400)))) .nil)))) (.cons (.set 8 c8E) cB2))
def hoB:Ss:=(.cons (.iff (.cmp .gt (.bi .len (.cons (.ix (.v 3) (.k (.int (1)))) .nil)) (.k (.int (0)))) (.cons (.ex (.mt .append (.v 1) (.cons (.ix (.ix (.v 3) (.k (.int (1)))) (.k (.int (0)))) .nil))) (.cons (.set 2 (.ix (.ix (.v 3) (.k (.int (1)))) (.neg (.k (.int (1)))))) .nil)) (.cons (.ex (.mt .append (.v 1) (.cons (.v 2) .nil))) .nil)) .nil)
def lhB:Ss:=(.cons (.ex (.mt .append (.v 1) (.cons (.ife (.cmp .eq (.bi .len (.cons (.v 4) .nil)) (.k (.int (0)))) (.v 2) (.ix (.v 4) (.k (.int (0))))) .nil))) (.cons (.set 2 (.bin .add (.v 2) (.bi .len (.cons (.v 4) .nil)))) .nil))
def wyA:E:=(.call 202 (.cons (.call 201 (.cons (.v 0) (.cons (.bin .mod (.v 5) (.bi .max (.cons (.k (.int (1))) (.cons (.bi .len (.cons (.v 0) .nil)) .nil)))) .nil))) (.cons (.bin .add (.v 5) (.k (.int (500)))) .nil)))
noncomputable def wyC:Ss:=(.cons (.ex (.mt .append (.v 2) (.cons (.v 3) .nil))) .nil)
def wyB:S:=(.iff (.cmp .lt (.bin .mod (.v 6) (.k (.int (4)))) (.bin .add (.k (.int (1))) (.bin .mod (.v 4) (.k (.int (3)))))) (.cons (.set 3 (.ix (.lst (.cons (.k (.str "left")) (.cons (.k (.str "right")) .nil))) (.bin .mod (.bin .div (.v 6) (.k (.int (4)))) (.k (.int (2)))))) .nil) .nil)
def brN:S:=(.iff (.orr (.cmp .eq (.bi .len (.cons (.v 4) .nil)) (.k (.int (0)))) (.cmp .ne (.ix (.ix (.v 4) (.neg (.k (.int (1))))) (.k (.int (0)))) (.v 7))) (.cons (.ex (.mt .append (.v 4) (.cons (.tup (.cons (.v 7) (.cons (.lst .nil) .nil))) .nil))) .nil) .nil)
noncomputable def brA:Ss:=(.cons (.ex (.mt .append (.ix (.ix (.v 4) (.neg (.k (.int (1))))) (.k (.int (1)))) (.cons (.v 5) .nil))) .nil)
noncomputable def brO:E:=(.ix (.v 2) (.ix (.v 3) (.v 5)))
def brB:Ss:=(.cons (.iff (.cmp .notin (.ix (.v 6) (.k (.int (0)))) (.fld (.v 0) "marks")) (.cons (.set 7 brO) (.cons brN brA)) .nil) .nil)
def soB:Ss:=(.cons (.iff (.cmp .eq (.v 6) (.k (.str "right"))) (.cons (.ex (.mt .extend (.v 5) (.cons (.rev (.v 7)) .nil))) .nil) (.cons (.ex (.mt .extend (.v 5) (.cons (.v 7) .nil))) .nil)) .nil)
def soR:S:=(.iff (.cmp .eq (.v 3) (.k (.str "right"))) (.cons (.set 4 (.rev (.v 4))) .nil) .nil)
def bsB:Ss:=(.cons (.six (.v 3) (.v 5) (.tup (.cons (.v 4) (.cons (.k (.int (0))) .nil)))) (.cons (.set 4 (.bin .add (.v 4) (.ix (.fld (.v 0) "shapes") (.ix (.ix (.v 1) (.v 5)) (.k (.int (0))))))) .nil))
noncomputable def laA:Ss:=(.cons (.set 9 (.ix (.v 4) (.v 7))) (.cons (.set 5 (.call 39 (.cons (.v 9) (.cons (.call 38 (.cons (.v 0) (.cons (.ix (.v 8) (.k (.int (0)))) .nil))) .nil)))) .nil))
noncomputable def laM:Ss:=(.cons (.set 10 (.ix (.fld (.v 0) "marks") (.ix (.v 8) (.k (.int (0)))))) (.cons (.set 9 (.call 41 (.cons (.ix (.v 5) (.ix (.v 10) (.k (.int (0))))) (.cons (.ix (.v 10) (.k (.int (1)))) .nil)))) (.cons (.six (.v 5) (.ix (.v 10) (.k (.int (0)))) (.call 40 (.cons (.v 9) (.cons (.ix (.v 10) (.k (.int (2)))) .nil)))) .nil)))
def laB:Ss:=(.cons (.iff (.cmp .isin (.v 7) (.v 4)) laA laM) (.cons (.ex (.mt .append (.v 6) (.cons (.v 9) .nil))) .nil))
noncomputable def lwK:E:=(.comp (.nm 0) (.seq (.v 4)) 1 [] .yes (.bi .len (.cons (.ix (.v 0) (.k (.int (1)))) .nil)))
def W9:Fn:=⟨1,1,2,(.cons (.ret (.comp (.nm 0) (.seq (.mt .split (.v 0) (.cons (.k (.str " ")) .nil))) 1 [] (.cmp .ne (.v 0) (.k (.str ""))) (.v 0))) .nil)⟩
def a0D:Fn:=⟨2,2,1,(.cons (.ret (.bi .all (.cons (.comp (.nm 0) (.seq (.v 0)) 1 [1] .yes (.bin .isin (.v 0) (.v 1))) .nil))) .nil)⟩
noncomputable def a0E:Fn:=⟨1,1,1,(.cons (.ret (.an (.chn .le .le (.k (.int (1))) (.bi .len (.cons (.v 0) .nil)) (.k (.int (12)))) (.call 2 (.cons (.v 0) (.cons (.k (.str "abcdefghijklmnopqrstuvwxyz0123456789")) .nil))))) .nil)⟩
def S9:Fn:=⟨1,1,1,(.cons (.iff (.orr (.nt (.chn .le .le (.k (.int (1))) (.bi .len (.cons (.v 0) .nil)) (.k (.int (5))))) (.nt (.val (.call 2 (.cons (.v 0) (.cons (.k (.str "0123456789")) .nil)))))) (.cons (.ret (.k (.bl false))) .nil) .nil) (.cons (.ret (.orr (.bin .eq (.v 0) (.k (.str "0"))) (.bin .ne (.ix (.v 0) (.k (.int (0)))) (.k (.str "0"))))) .nil))⟩
def C9:Fn:=⟨1,1,1,(.cons (.iff (.val (.mt .starts (.v 0) (.cons (.k (.str "-")) .nil))) (.cons (.ret (.an (.bin .ne (.v 0) (.k (.str "-0"))) (.call 4 (.cons (.sl (.v 0) (.at (.k (.int (1)))) .no) .nil)))) .nil) .nil) (.cons (.ret (.call 4 (.cons (.v 0) .nil))) .nil))⟩
noncomputable def M6:Fn:=⟨1,1,1,(.cons (.ret (.sl (.v 0) (.at (.bi .len (.cons (.k (.str "@")) .nil))) .no)) .nil)⟩
noncomputable def M4:Fn:=⟨1,1,1,(.cons (.ret (.an (.mt .starts (.v 0) (.cons (.k (.str "@")) .nil)) (.call 3 (.cons (.call 6 (.cons (.v 0) .nil)) .nil)))) .nil)⟩
noncomputable def a1T:Fn:=⟨1,1,1,(.cons (.ret (.orr (.call 3 (.cons (.v 0) .nil)) (.call 7 (.cons (.v 0) .nil)))) .nil)⟩
noncomputable def a0m:Fn:=⟨1,1,1,(.cons (.ret (.bi .all (.cons (.comp (.nm 0) (.seq (.v 0)) 1 [] .yes (.call 3 (.cons (.v 0) .nil))) .nil))) .nil)⟩
noncomputable def E9:Fn:=⟨1,1,1,(.cons (.ret (.bi .all (.cons (.comp (.nm 0) (.seq (.v 0)) 1 [] .yes (.call 5 (.cons (.v 0) .nil))) .nil))) .nil)⟩
noncomputable def a0n:Fn:=⟨1,1,1,(.cons (.ret (.bi .all (.cons (.comp (.nm 0) (.seq (.v 0)) 1 [] .yes (.call 8 (.cons (.v 0) .nil))) .nil))) .nil)⟩
noncomputable def M1:Fn:=⟨1,1,0,(.cons (.sfl (.v 0) "shapes" .dnew) (.cons (.sfl (.v 0) "marks" .dnew) (.cons (.sfl (.v 0) "points" .dnew) (.cons (.sfl (.v 0) "letters" .dnew) (.cons (.sfl (.v 0) "gaps" (.lst .nil)) (.cons (.sfl (.v 0) "classes" .dnew) (.cons (.sfl (.v 0) "features" .dnew) (.cons (.sfl (.v 0) "rules" (.lst .nil)) .nil))))))))⟩
def S8:Fn:=⟨1,6,0,(.cons (.set 1 (.mk 6 .nil)) (.cons (.for (.tp (.cons (.nm 2) (.cons (.nm 3) .nil))) (.enum (.mt .split (.v 0) (.cons (.k (.str "\n")) .nil))) (.cons (.set 4 (.call 1 (.cons (.v 3) .nil))) (.cons (.iff (.cmp .gt (.bi .len (.cons (.v 4) .nil)) (.k (.int (0)))) (.cons (.set 5 (.call 13 (.cons (.v 1) (.cons (.v 4) .nil)))) (.cons (.iff (.notN (.v 5)) (.cons .bad .nil) .nil) .nil)) .nil) .nil))) (.cons (.ret (.v 1)) .nil)))⟩
def C8:Fn:=⟨2,3,0,(.cons (.set 2 (.ix (.v 1) (.k (.int (0))))) (.cons (.iff (.cmp .eq (.v 2) (.k (.str "shape"))) (.cons (.ret (.call 17 (.cons (.v 0) (.cons (.v 1) .nil)))) .nil) .nil) (.cons (.iff (.cmp .eq (.v 2) (.k (.str "mark"))) (.cons (.ret (.call 19 (.cons (.v 0) (.cons (.v 1) .nil)))) .nil) .nil) (.cons (.iff (.cmp .eq (.v 2) (.k (.str "point"))) (.cons (.ret (.call 20 (.cons (.v 0) (.cons (.v 1) .nil)))) .nil) .nil) (.cons (.iff (.cmp .eq (.v 2) (.k (.str "letter"))) (.cons (.ret (.call 22 (.cons (.v 0) (.cons (.v 1) .nil)))) .nil) .nil) (.cons (.iff (.cmp .eq (.v 2) (.k (.str "gap"))) (.cons (.ret (.call 23 (.cons (.v 0) (.cons (.v 1) .nil)))) .nil) .nil) (.cons (.iff (.cmp .eq (.v 2) (.k (.str "class"))) (.cons (.ret (.call 24 (.cons (.v 0) (.cons (.v 1) .nil)))) .nil) .nil) (.cons (.iff (.cmp .eq (.v 2) (.k (.str "feature"))) (.cons (.ret (.call 25 (.cons (.v 0) (.cons (.v 1) .nil)))) .nil) .nil) (.cons (.iff (.cmp .eq (.v 2) (.k (.str "rule"))) (.cons (.ret (.call 26 (.cons (.v 0) (.cons (.v 1) .nil)))) .nil) .nil) (.cons (.ret (.k (.str "row"))) .nil))))))))))⟩
noncomputable def T0:Fn:=⟨3,3,1,(.cons (.iff (.val (.v 0)) (.cons (.ret (.k (.str "twice"))) .nil) .nil) (.cons (.iff (.nt (.val (.v 1))) (.cons (.ret (.k (.str "name"))) .nil) .nil) (.cons (.iff (.val (.v 2)) (.cons (.ret (.k (.str "many"))) .nil) .nil) (.cons (.ret (.k .non)) .nil))))⟩
def N9:Fn:=⟨2,2,1,(.cons (.ret (.bi .all (.cons (.comp (.nm 0) (.seq (.v 1)) 1 [0] .yes (.bin .isin (.v 0) (.fld (.v 1) "shapes"))) .nil))) .nil)⟩
noncomputable def a0B:Fn:=⟨1,1,1,(.cons (.ret (.tup (.cons (.bi .int (.cons (.ix (.v 0) (.k (.int (0)))) .nil)) (.cons (.bi .int (.cons (.ix (.v 0) (.k (.int (1)))) .nil)) .nil)))) .nil)⟩
def N5:Fn:=⟨2,4,0,(.cons (.iff (.orr (.cmp .ne (.bi .len (.cons (.v 1) .nil)) (.k (.int (3)))) (.orr (.nt (.val (.call 3 (.cons (.ix (.v 1) (.k (.int (1)))) .nil)))) (.nt (.val (.call 4 (.cons (.ix (.v 1) (.k (.int (2)))) .nil)))))) (.cons (.ret (.k (.str "row"))) .nil) .nil) (.cons (.set 2 (.ix (.v 1) (.k (.int (1))))) (.cons (.set 3 (.call 14 (.cons (.bin .isin (.v 2) (.fld (.v 0) "shapes")) (.cons (.k (.bl true)) (.cons (.bin .ge (.bi .len (.cons (.fld (.v 0) "shapes") .nil)) (.k (.int (60)))) .nil))))) (.cons (.iff (.isN (.v 3)) (.cons (.six (.fld (.v 0) "shapes") (.v 2) (.bi .int (.cons (.ix (.v 1) (.k (.int (2)))) .nil))) .nil) .nil) (.cons (.ret (.v 3)) .nil)))))⟩
def G7:Fn:=⟨2,2,1,(.cons (.iff (.orr (.cmp .ne (.bi .len (.cons (.v 0) .nil)) (.bin .add (.k (.int (3))) (.v 1))) (.nt (.val (.call 3 (.cons (.ix (.v 0) (.k (.int (1)))) .nil))))) (.cons (.ret (.k (.bl false))) .nil) .nil) (.cons (.ret (.an (.gin false (.ix (.v 0) (.k (.int (2)))) [(.str "above"),(.str "below")]) (.call 10 (.cons (.sl (.v 0) (.at (.k (.int (3)))) .no) .nil)))) .nil))⟩
def S7:Fn:=⟨2,4,0,(.cons (.iff (.nt (.val (.call 18 (.cons (.v 1) (.cons (.k (.int (4))) .nil))))) (.cons (.ret (.k (.str "row"))) .nil) .nil) (.cons (.set 2 (.ix (.v 1) (.k (.int (1))))) (.cons (.set 3 (.call 14 (.cons (.bin .isin (.v 2) (.fld (.v 0) "marks")) (.cons (.bin .isin (.v 2) (.fld (.v 0) "shapes")) (.cons (.k (.bl false)) .nil))))) (.cons (.iff (.isN (.v 3)) (.cons (.six (.fld (.v 0) "marks") (.v 2) (.tup (.cons (.ix (.v 1) (.k (.int (2)))) (.cons (.call 16 (.cons (.sl (.v 1) (.at (.k (.int (3)))) (.at (.k (.int (5))))) .nil)) (.cons (.call 16 (.cons (.sl (.v 1) (.at (.k (.int (5)))) (.at (.k (.int (7))))) .nil)) .nil))))) .nil) .nil) (.cons (.ret (.v 3)) .nil)))))⟩
def N6:Fn:=⟨2,5,0,(.cons (.iff (.nt (.val (.call 18 (.cons (.v 1) (.cons (.k (.int (2))) .nil))))) (.cons (.ret (.k (.str "row"))) .nil) .nil) (.cons (.set 2 (.ix (.v 1) (.k (.int (1))))) (.cons (.set 3 (.tup (.cons (.v 2) (.cons (.ix (.v 1) (.k (.int (2)))) .nil)))) (.cons (.set 4 (.call 14 (.cons (.bin .isin (.v 3) (.fld (.v 0) "points")) (.cons (.bin .isin (.v 2) (.fld (.v 0) "shapes")) (.cons (.k (.bl false)) .nil))))) (.cons (.iff (.isN (.v 4)) (.cons (.six (.fld (.v 0) "points") (.v 3) (.call 16 (.cons (.sl (.v 1) (.at (.k (.int (3)))) (.at (.k (.int (5))))) .nil))) .nil) .nil) (.cons (.ret (.v 4)) .nil))))))⟩
def E1:Fn:=⟨1,2,1,(.cons (.iff (.orr (.cmp .lt (.bi .len (.cons (.v 0) .nil)) (.k (.int (4)))) (.nt (.val (.call 3 (.cons (.ix (.v 0) (.k (.int (1)))) .nil))))) (.cons (.ret (.k (.bl false))) .nil) .nil) (.cons (.iff (.orr (.val (.gdin true (.ix (.v 0) (.k (.int (2)))) [((.str "none"),(.int (1))),((.str "clear"),(.int (1))),((.str "back"),(.int (2))),((.str "both"),(.int (4)))])) (.val (.gin true (.ix (.v 0) (.k (.int (3)))) [(.str "left"),(.str "right"),(.str "either")]))) (.cons (.ret (.k (.bl false))) .nil) .nil) (.cons (.set 1 (.sl (.v 0) (.at (.k (.int (4)))) .no)) (.cons (.ret (.an (.bin .eq (.bi .len (.cons (.v 1) .nil)) (.gdix (.ix (.v 0) (.k (.int (2)))) [((.str "none"),(.int (1))),((.str "clear"),(.int (1))),((.str "back"),(.int (2))),((.str "both"),(.int (4)))])) (.call 9 (.cons (.v 1) .nil)))) .nil))))⟩
def L6:Fn:=⟨2,5,0,(.cons (.iff (.nt (.val (.call 21 (.cons (.v 1) .nil)))) (.cons (.ret (.k (.str "row"))) .nil) .nil) (.cons (.set 2 (.ix (.v 1) (.k (.int (1))))) (.cons (.set 3 (.sl (.v 1) (.at (.k (.int (4)))) .no)) (.cons (.set 4 (.call 14 (.cons (.bin .isin (.v 2) (.fld (.v 0) "letters")) (.cons (.call 15 (.cons (.v 0) (.cons (.v 3) .nil))) (.cons (.bin .ge (.bi .len (.cons (.fld (.v 0) "letters") .nil)) (.k (.int (24)))) .nil))))) (.cons (.iff (.isN (.v 4)) (.cons (.six (.fld (.v 0) "letters") (.v 2) (.tup (.cons (.ix (.v 1) (.k (.int (2)))) (.cons (.ix (.v 1) (.k (.int (3)))) (.cons (.bi .tuple (.cons (.v 3) .nil)) .nil))))) .nil) .nil) (.cons (.ret (.v 4)) .nil))))))⟩
def X0:Fn:=⟨2,4,0,(.cons (.iff (.orr (.cmp .ne (.bi .len (.cons (.v 1) .nil)) (.k (.int (2)))) (.nt (.val (.call 3 (.cons (.ix (.v 1) (.k (.int (1)))) .nil))))) (.cons (.ret (.k (.str "row"))) .nil) .nil) (.cons (.set 2 (.ix (.v 1) (.k (.int (1))))) (.cons (.set 3 (.call 14 (.cons (.bin .isin (.v 2) (.fld (.v 0) "gaps")) (.cons (.bin .isin (.v 2) (.fld (.v 0) "letters")) (.cons (.k (.bl false)) .nil))))) (.cons (.iff (.isN (.v 3)) (.cons (.ex (.mt .append (.fld (.v 0) "gaps") (.cons (.v 2) .nil))) .nil) .nil) (.cons (.ret (.v 3)) .nil)))))⟩
def N7:Fn:=⟨2,5,0,(.cons (.set 2 (.sl (.v 1) (.at (.k (.int (2)))) .no)) (.cons (.iff (.orr (.nt (.chn .le .le (.k (.int (1))) (.bi .len (.cons (.v 2) .nil)) (.k (.int (20))))) (.nt (.val (.call 9 (.cons (.sl (.v 1) (.at (.k (.int (1)))) .no) .nil))))) (.cons (.ret (.k (.str "row"))) .nil) .nil) (.cons (.set 3 (.ix (.v 1) (.k (.int (1))))) (.cons (.set 4 (.call 14 (.cons (.bin .isin (.v 3) (.fld (.v 0) "classes")) (.cons (.call 15 (.cons (.v 0) (.cons (.v 2) .nil))) (.cons (.bin .ge (.bi .len (.cons (.fld (.v 0) "classes") .nil)) (.k (.int (20)))) .nil))))) (.cons (.iff (.isN (.v 4)) (.cons (.six (.fld (.v 0) "classes") (.v 3) (.bi .tuple (.cons (.v 2) .nil))) .nil) .nil) (.cons (.ret (.v 4)) .nil))))))⟩
def K0:Fn:=⟨2,4,0,(.cons (.iff (.orr (.cmp .ne (.bi .len (.cons (.v 1) .nil)) (.k (.int (3)))) (.orr (.nt (.val (.call 3 (.cons (.ix (.v 1) (.k (.int (1)))) .nil)))) (.val (.gin true (.ix (.v 1) (.k (.int (2)))) [(.str "on"),(.str "off")])))) (.cons (.ret (.k (.str "row"))) .nil) .nil) (.cons (.set 2 (.ix (.v 1) (.k (.int (1))))) (.cons (.set 3 (.call 14 (.cons (.bin .isin (.v 2) (.fld (.v 0) "features")) (.cons (.k (.bl true)) (.cons (.bin .ge (.bi .len (.cons (.fld (.v 0) "features") .nil)) (.k (.int (10)))) .nil))))) (.cons (.iff (.isN (.v 3)) (.cons (.six (.fld (.v 0) "features") (.v 2) (.bin .eq (.ix (.v 1) (.k (.int (2)))) (.k (.str "on")))) .nil) .nil) (.cons (.ret (.v 3)) .nil)))))⟩
def a0k:Fn:=⟨2,8,0,(.cons (.iff (.nt (.val (.call 27 (.cons (.v 1) .nil)))) (.cons (.ret (.k (.str "row"))) .nil) .nil) (.cons (.set 2 (.ix (.v 1) (.k (.int (1))))) (.cons (.set 3 (.ix (.v 1) (.k (.int (2))))) (.cons (.set 4 (.call 28 (.cons (.v 1) .nil))) (.cons (.set 5 (.bin .add (.bin .add (.ix (.v 4) (.k (.int (0)))) (.ix (.v 4) (.k (.int (1))))) (.ix (.v 4) (.k (.int (2)))))) (.cons (.set 6 (.an (.bin .isin (.v 3) (.fld (.v 0) "features")) (.an (.call 29 (.cons (.v 0) (.cons (.v 5) .nil))) (.call 15 (.cons (.v 0) (.cons (.ix (.v 4) (.k (.int (3)))) .nil)))))) (.cons (.set 7 (.call 14 (.cons (.call 31 (.cons (.v 0) (.cons (.v 2) .nil))) (.cons (.v 6) (.cons (.bin .ge (.bi .len (.cons (.fld (.v 0) "rules") .nil)) (.k (.int (30)))) .nil))))) (.cons (.iff (.isN (.v 7)) (.cons (.ex (.mt .append (.fld (.v 0) "rules") (.cons (.tup (.cons (.v 2) (.cons (.v 3) (.cons (.bi .tuple (.cons (.ix (.v 4) (.k (.int (0)))) .nil)) (.cons (.bi .tuple (.cons (.ix (.v 4) (.k (.int (1)))) .nil)) (.cons (.bi .tuple (.cons (.ix (.v 4) (.k (.int (2)))) .nil)) (.cons (.bi .tuple (.cons (.ix (.v 4) (.k (.int (3)))) .nil)) .nil))))))) .nil))) .nil) .nil) (.cons (.ret (.v 7)) .nil)))))))))⟩
def M5:Fn:=⟨1,2,1,(.cons (.iff (.nt (.val (.call 9 (.cons (.sl (.v 0) (.at (.k (.int (1)))) (.at (.k (.int (3))))) .nil)))) (.cons (.ret (.k (.bl false))) .nil) .nil) (.cons (.set 1 (.call 28 (.cons (.v 0) .nil))) (.cons (.iff (.orr (.isN (.v 1)) (.orr (.cmp .gt (.bi .len (.cons (.ix (.v 1) (.k (.int (0)))) .nil)) (.k (.int (3)))) (.cmp .gt (.bi .len (.cons (.ix (.v 1) (.k (.int (2)))) .nil)) (.k (.int (3)))))) (.cons (.ret (.k (.bl false))) .nil) .nil) (.cons (.iff (.orr (.nt (.chn .le .le (.k (.int (1))) (.bi .len (.cons (.ix (.v 1) (.k (.int (1)))) .nil)) (.k (.int (4))))) (.nt (.chn .le .le (.k (.int (1))) (.bi .len (.cons (.ix (.v 1) (.k (.int (3)))) .nil)) (.k (.int (3)))))) (.cons (.ret (.k (.bl false))) .nil) .nil) (.cons (.ret (.an (.call 11 (.cons (.bin .add (.bin .add (.ix (.v 1) (.k (.int (0)))) (.ix (.v 1) (.k (.int (1))))) (.ix (.v 1) (.k (.int (2))))) .nil)) (.call 9 (.cons (.ix (.v 1) (.k (.int (3)))) .nil)))) .nil)))))⟩
def X1:Fn:=⟨1,4,0,(.cons (.set 1 (.lst (.cons (.lst .nil) .nil))) (.cons (.set 2 (.lst .nil)) (.cons (.for (.nm 3) (.seq (.sl (.v 0) (.at (.k (.int (3)))) .no)) (.cons (.iff (.cmp .isin (.v 3) (.tup (.cons (.k (.str "/")) (.cons (.k (.str ">")) .nil)))) (.cons (.ex (.mt .append (.v 2) (.cons (.v 3) .nil))) (.cons (.ex (.mt .append (.v 1) (.cons (.lst .nil) .nil))) .nil)) (.cons (.ex (.mt .append (.ix (.v 1) (.neg (.k (.int (1))))) (.cons (.v 3) .nil))) .nil)) .nil)) (.cons (.iff (.cmp .ne (.v 2) (.lst (.cons (.k (.str "/")) (.cons (.k (.str "/")) (.cons (.k (.str ">")) .nil))))) (.cons (.ret (.k .non)) .nil) .nil) (.cons (.ret (.v 1)) .nil)))))⟩
noncomputable def a0l:Fn:=⟨2,2,1,(.cons (.ret (.bi .all (.cons (.comp (.nm 0) (.seq (.v 1)) 1 [0] .yes (.call 30 (.cons (.v 1) (.cons (.v 0) .nil)))) .nil))) .nil)⟩
def a0Z:Fn:=⟨2,2,1,(.cons (.iff (.val (.call 7 (.cons (.v 1) .nil))) (.cons (.ret (.bin .isin (.call 6 (.cons (.v 1) .nil)) (.fld (.v 0) "classes"))) .nil) .nil) (.cons (.ret (.bin .isin (.v 1) (.fld (.v 0) "shapes"))) .nil))⟩
def a0Y:Fn:=⟨2,2,1,(.cons (.ret (.bi .any (.cons (.comp (.nm 0) (.seq (.fld (.v 0) "rules")) 1 [1] .yes (.bin .eq (.ix (.v 0) (.k (.int (0)))) (.v 1))) .nil))) .nil)⟩
def E7:Fn:=⟨1,4,2,(.cons (.set 1 (.lst .nil)) (.cons (.set 2 (.k .non)) (.cons (.for (.nm 3) (.seq (.v 0)) hoB) (.cons (.ret (.v 1)) .nil))))⟩
def F6:Fn:=⟨4,8,2,(.cons (.set 4 (.call 34 (.cons (.v 0) (.cons (.v 1) (.cons (.v 2) .nil))))) (.cons soR (.cons (.set 5 (.lst .nil)) (.cons (.for (.tp (.cons (.nm 6) (.cons (.nm 7) .nil))) (.seq (.v 4)) soB) (.cons (.ret (.v 5)) .nil)))))⟩
def E8:Fn:=⟨3,8,0,(.cons (.set 3 (.call 33 (.cons (.v 1) .nil))) (.cons (.set 4 (.lst .nil)) (.cons (.for (.tp (.cons (.nm 5) (.cons (.nm 6) .nil))) (.enum (.v 1)) brB) (.cons (.ret (.v 4)) .nil))))⟩
def a3k:Fn:=⟨4,11,2,(.cons (.set 4 (.call 37 (.cons (.v 0) (.cons (.v 1) (.cons (.call 35 (.cons (.v 0) (.cons (.v 1) (.cons (.v 2) (.cons (.v 3) .nil))))) .nil))))) (.cons (.set 5 (.call 39 (.cons (.tup (.cons (.k (.int (0))) (.cons (.k (.int (0))) .nil))) (.cons .dnew .nil)))) (.cons (.set 6 (.lst .nil)) (.cons (.for (.tp (.cons (.nm 7) (.cons (.nm 8) .nil))) (.enum (.v 1)) laB) (.cons (.ret (.v 6)) .nil)))))⟩
def F7:Fn:=⟨3,6,2,(.cons (.set 3 .dnew) (.cons (.set 4 (.k (.int (0)))) (.cons (.for (.nm 5) (.seq (.v 2)) bsB) (.cons (.ret (.v 3)) .nil))))⟩
def J0:Fn:=⟨2,2,2,(.cons (.ret (.bi .dict (.cons (.comp (.nm 0) (.gsq [(.str "above"),(.str "below")]) 1 [0,1] (.cmp .isin (.tup (.cons (.v 2) (.cons (.v 0) .nil))) (.fld (.v 1) "points")) (.tup (.cons (.v 0) (.cons (.ix (.fld (.v 1) "points") (.tup (.cons (.v 2) (.cons (.v 0) .nil)))) .nil)))) .nil))) .nil)⟩
noncomputable def O2:Fn:=⟨2,2,2,(.cons (.ret (.bi .dict (.cons (.comp (.nm 0) (.gsq [(.str "above"),(.str "below")]) 1 [1,0] .yes (.tup (.cons (.v 0) (.cons (.call 40 (.cons (.v 2) (.cons (.dget (.v 1) (.v 0) (.tup (.cons (.k (.int (0))) (.cons (.k (.int (0))) .nil)))) .nil))) .nil)))) .nil))) .nil)⟩
def a0X:Fn:=⟨2,2,1,(.cons (.ret (.tup (.cons (.bin .add (.ix (.v 0) (.k (.int (0)))) (.ix (.v 1) (.k (.int (0))))) (.cons (.bin .add (.ix (.v 0) (.k (.int (1)))) (.ix (.v 1) (.k (.int (1))))) .nil)))) .nil)⟩
def a0C:Fn:=⟨2,2,1,(.cons (.ret (.tup (.cons (.bin .sub (.ix (.v 0) (.k (.int (0)))) (.ix (.v 1) (.k (.int (0))))) (.cons (.bin .sub (.ix (.v 0) (.k (.int (1)))) (.ix (.v 1) (.k (.int (1))))) .nil)))) .nil)⟩
def O8:Fn:=⟨2,2,1,(.cons (.ret (.bi .sum (.cons (.comp (.nm 0) (.seq (.v 1)) 1 [0] (.cmp .notin (.ix (.v 0) (.k (.int (0)))) (.fld (.v 1) "marks")) (.ix (.fld (.v 1) "shapes") (.ix (.v 0) (.k (.int (0)))))) .nil))) .nil)⟩
def x0:Fn:=⟨2,2,1,(.cons (.iff (.cmp .lt (.v 1) (.bi .len (.cons (.v 0) .nil))) (.cons (.ret (.ix (.v 0) (.v 1))) .nil) .nil) (.cons (.ret (.k (.int (0)))) .nil))⟩
def o3:Fn:=⟨2,2,1,(.cons (.ret (.bin .mod (.bin .mul (.bin .mul (.bin .add (.bin .mod (.v 0) (.k (.int (2305843009213693951)))) (.k (.int (1)))) (.bin .add (.bin .mul (.v 1) (.v 1)) (.k (.int (48271))))) (.k (.int (40692)))) (.k (.int (2147483399))))) .nil)⟩
def n8:Fn:=⟨2,7,2,(.cons (.set 2 (.k (.str abc))) (.cons (.set 3 (.bin .mod (.bin .div (.v 0) (.k (.int (4)))) (.k (.int (26))))) (.cons (.iff (.an (.cmp .eq (.bin .mod (.v 0) (.k (.int (4)))) (.k (.int (0)))) (.cmp .lt (.v 1) (.k (.int (13))))) (.cons (.ret cA) .nil) .nil) (.cons (.set 4 (.bin .mod (.bin .div (.v 0) (.k (.int (104)))) (.k (.int (12))))) (.cons (.set 5 (.bin .mod (.bin .div (.v 0) (.k (.int (1248)))) (.bin .add (.v 4) (.k (.int (1)))))) (.cons (.set 6 (.mt .join (.k (.str "")) (.cons cS .nil))) (.cons (.ret cB) .nil)))))))⟩
def v8:Fn:=⟨1,6,2,(.cons (.set 1 (.call 202 (.cons (.v 0) (.cons (.k (.int (1))) .nil)))) (.cons (.set 2 (.call 203 (.cons (.bin .div (.v 1) (.k (.int (13)))) (.cons (.bin .add (.k (.int (4))) (.bin .mod (.v 1) (.k (.int (13))))) .nil)))) (.cons (.set 3 (.lst .nil)) (.cons (.for (.nm 4) (.rng1 (.bi .len (.cons (.v 2) .nil))) wB) (.cons (.ret (.comp (.tp (.cons (.nm 0) (.cons (.nm 1) .nil))) (.zip (.v 2) (.v 3)) 2 [] .yes (.tup (.cons (.v 0) (.cons (.v 1) .nil))))) .nil)))))⟩
def u6:Fn:=⟨1,1,1,(.cons (.ret (.tup (.cons (.bin .sub (.bin .mod (.v 0) (.k (.int (41)))) (.k (.int (20)))) (.cons (.ix (.lst (.cons (.k (.int (0))) (.cons (.bin .mod (.bin .div (.v 0) (.k (.int (41)))) (.k (.int (99999)))) (.cons (.neg (.bin .mod (.bin .div (.v 0) (.k (.int (41)))) (.k (.int (99999))))) .nil)))) (.bin .mod (.bin .div (.v 0) (.k (.int (7)))) (.k (.int (3))))) .nil)))) .nil)⟩
def z5:Fn:=⟨2,6,2,(.cons (.set 2 (.lst .nil)) (.cons (.for (.nm 3) (.rng1 (.bi .len (.cons (.v 1) .nil))) mkB) (.cons (.ret (.v 2)) .nil)))⟩
def w5:Fn:=⟨2,6,2,(.cons (.set 2 (.lst .nil)) (.cons (.for (.nm 3) (.rng1 (.bi .len (.cons (.v 1) .nil))) ptB) (.cons (.ret (.v 2)) .nil)))⟩
def v0:Fn:=⟨2,10,2,(.cons (.set 2 (.call 202 (.cons (.v 0) (.cons (.k (.int (2))) .nil)))) (.cons (.set 3 (.call 203 (.cons (.bin .div (.v 2) (.k (.int (6)))) (.cons (.bin .add (.k (.int (1))) (.bin .mod (.v 2) (.k (.int (6))))) .nil)))) (.cons (.set 4 (.lst .nil)) (.cons (.for (.nm 5) (.rng1 (.bi .len (.cons (.v 3) .nil))) lB) (.cons (.ret (.v 4)) .nil)))))⟩
def v5:Fn:=⟨2,8,2,(.cons (.set 2 (.call 202 (.cons (.v 0) (.cons (.k (.int (3))) .nil)))) (.cons (.set 3 (.lst .nil)) (.cons (.for (.tp (.cons (.nm 4) (.cons (.nm 5) .nil))) (.enum (.call 203 (.cons (.bin .div (.v 2) (.k (.int (4)))) (.cons (.bin .add (.k (.int (1))) (.bin .mod (.v 2) (.k (.int (3))))) .nil)))) kB) (.cons (.ret (.v 3)) .nil))))⟩
def Y6:Fn:=⟨5,9,1,(.cons (.set 5 (.lst .nil)) (.cons (.for (.nm 6) (.rng1 (.v 1)) (.cons (.set 7 (.bin .div (.v 0) (.bin .add (.bin .mul (.bin .mul (.v 6) (.v 6)) (.k (.int (17)))) (.k (.int (3)))))) (.cons (.iff (.cmp .eq (.bin .mod (.v 7) (.k (.int (3)))) (.k (.int (0)))) (.cons (.ex (.mt .append (.v 5) (.cons (.bin .add (.k (.str "@")) (.ix (.ix (.v 4) (.bin .mod (.bin .div (.v 7) (.k (.int (3)))) (.bi .len (.cons (.v 4) .nil)))) (.k (.int (0))))) .nil))) .nil) (.cons (.iff (.cmp .eq (.bin .mod (.v 7) (.k (.int (3)))) (.k (.int (1)))) (.cons (.set 8 (.ix (.ix (.v 3) (.bin .mod (.bin .div (.v 7) (.k (.int (3)))) (.bi .len (.cons (.v 3) .nil)))) (.k (.int (3))))) (.cons (.ex (.mt .append (.v 5) (.cons (.ix (.v 8) (.bin .mod (.bin .div (.v 7) (.k (.int (50)))) (.bi .len (.cons (.v 8) .nil)))) .nil))) .nil)) (.cons (.ex (.mt .append (.v 5) (.cons (.ix (.ix (.v 2) (.bin .mod (.bin .div (.v 7) (.k (.int (3)))) (.bi .len (.cons (.v 2) .nil)))) (.k (.int (0)))) .nil))) .nil)) .nil)) .nil))) (.cons (.ret (.bi .tuple (.cons (.v 5) .nil))) .nil)))⟩
def z4:Fn:=⟨6,17,2,(.cons (.set 6 (.lst .nil)) (.cons (.for (.tp (.cons (.nm 7) (.cons (.nm 8) .nil))) (.enum (.call 203 (.cons (.call 202 (.cons (.v 0) (.cons (.k (.int (4))) .nil))) (.cons (.v 1) .nil)))) (.cons (.set 9 (.call 202 (.cons (.v 0) (.cons (.bin .add (.v 7) (.k (.int (160)))) .nil)))) (.cons (.set 10 (.call 202 (.cons (.v 0) (.cons (.bin .add (.v 7) (.k (.int (190)))) .nil)))) (.cons (.set 11 (.lst (.cons (.ix (.lst (.cons (.k (.int (0))) (.cons (.k (.int (0))) (.cons (.k (.int (0))) (.cons (.k (.int (1))) (.cons (.k (.int (2))) (.cons (.k (.int (3))) .nil))))))) (.bin .mod (.v 9) (.k (.int (6))))) (.cons (.ix (.lst (.cons (.k (.int (1))) (.cons (.k (.int (2))) (.cons (.k (.int (1))) (.cons (.k (.int (2))) (.cons (.k (.int (3))) (.cons (.k (.int (4))) (.cons (.k (.int (1))) .nil)))))))) (.bin .mod (.bin .div (.v 9) (.k (.int (6)))) (.k (.int (7))))) (.cons (.ix (.lst (.cons (.k (.int (0))) (.cons (.k (.int (0))) (.cons (.k (.int (0))) (.cons (.k (.int (1))) (.cons (.k (.int (2))) (.cons (.k (.int (3))) .nil))))))) (.bin .mod (.bin .div (.v 9) (.k (.int (42)))) (.k (.int (6))))) .nil))))) (.cons (.set 12 (.call 210 (.cons (.v 10) (.cons (.ix (.v 11) (.k (.int (0)))) (.cons (.v 2) (.cons (.v 3) (.cons (.v 4) .nil))))))) (.cons (.set 13 (.call 210 (.cons (.bin .add (.bin .div (.v 10) (.k (.int (11)))) (.bin .mul (.k (.int (5))) (.v 7))) (.cons (.ix (.v 11) (.k (.int (1)))) (.cons (.v 2) (.cons (.v 3) (.cons (.v 4) .nil))))))) (.cons (.set 14 (.call 210 (.cons (.bin .add (.bin .div (.v 10) (.k (.int (101)))) (.k (.int (3)))) (.cons (.ix (.v 11) (.k (.int (2)))) (.cons (.v 2) (.cons (.v 3) (.cons (.v 4) .nil))))))) (.cons (.set 15 (.ix (.lst (.cons (.k (.int (1))) (.cons (.k (.int (1))) (.cons (.k (.int (1))) (.cons (.k (.int (2))) (.cons (.bin .add (.k (.int (2))) (.bi .int (.cons (.bin .eq (.v 7) (.k (.int (0)))) .nil))) .nil)))))) (.bin .mod (.bin .div (.v 9) (.k (.int (252)))) (.k (.int (5)))))) (.cons (.set 16 (.bi .tuple (.cons (.comp (.nm 0) (.rng1 (.v 15)) 1 [9,2] .yes (.ix (.ix (.v 2) (.bin .mod (.bin .div (.v 1) (.bin .add (.bin .mul (.v 0) (.k (.int (7)))) (.k (.int (3))))) (.bi .len (.cons (.v 2) .nil)))) (.k (.int (0))))) .nil))) (.cons (.ex (.mt .append (.v 6) (.cons (.tup (.cons (.v 8) (.cons (.ix (.ix (.v 5) (.bin .mod (.bin .div (.v 9) (.k (.int (1260)))) (.bi .len (.cons (.v 5) .nil)))) (.k (.int (0)))) (.cons (.v 12) (.cons (.v 13) (.cons (.v 14) (.cons (.v 16) .nil))))))) .nil))) .nil)))))))))) (.cons (.ret (.v 6)) .nil)))⟩
def F5:Fn:=⟨2,12,0,(.cons (.set 2 (.call 201 (.cons (.v 0) (.cons (.k (.int (0))) .nil)))) (.cons (.set 3 (.call 204 (.cons (.v 2) .nil))) hB2))⟩
def w6:Fn:=⟨1,1,1,(.cons (.ret (.bin .add (.bin .add (.bi .str (.cons (.ix (.v 0) (.k (.int (0)))) .nil)) (.k (.str " "))) (.bi .str (.cons (.ix (.v 0) (.k (.int (1)))) .nil)))) .nil)⟩
def V2:Fn:=⟨1,2,1,(.cons (.set 1 (.bin .add (.bin .add (.bin .add (.lst (.cons (.k (.str "rule")) (.cons (.ix (.v 0) (.k (.int (0)))) (.cons (.ix (.v 0) (.k (.int (1)))) .nil)))) (.bi .list (.cons (.ix (.v 0) (.k (.int (2)))) .nil))) (.lst (.cons (.k (.str "/")) .nil))) (.bi .list (.cons (.ix (.v 0) (.k (.int (3)))) .nil)))) (.cons (.ret (.mt .join (.k (.str " ")) (.cons (.bin .add (.bin .add (.bin .add (.bin .add (.v 1) (.lst (.cons (.k (.str "/")) .nil))) (.bi .list (.cons (.ix (.v 0) (.k (.int (4)))) .nil))) (.lst (.cons (.k (.str ">")) .nil))) (.bi .list (.cons (.ix (.v 0) (.k (.int (5)))) .nil))) .nil))) .nil))⟩
def C1:Fn:=⟨1,10,1,(.cons (.set 2 b9q) (.cons (.for (htP 1 3 4 5) (.seq (.ix (.v 0) (.k (.int (1))))) b4q) (.cons (.set 2 (.bin .add (.v 2) b9p)) (.cons (.for (htP 1 7 8 9) (.seq (.ix (.v 0) (.k (.int (3))))) b4p) (.cons (.set 2 (.bin .add (.v 2) b9o)) (.cons (.set 2 (.bin .add (.v 2) b9n)) (.cons (.set 2 (.bin .add (.v 2) b9m)) (.cons (.ret (.mt .join (.k (.str "\n")) (.cons (.bin .add (.v 2) b9l) .nil))) .nil))))))))⟩
def D2:Fn:=⟨3,9,2,(.cons (.set 3 (.lst .nil)) (.cons (.set 4 (.k (.int (0)))) (.cons (.for (.tp (.cons (.nm 5) (.cons (.nm 6) .nil))) (.enum (.sl (.v 0) (.at (.v 1)) (.at (.bin .add (.v 1) (.k (.int (50))))))) cB1) (.cons (.ret (.v 3)) .nil))))⟩
def F0:Fn:=⟨2,7,2,(.cons (.set 2 (.lst .nil)) (.cons (.set 3 (.k (.str "left"))) (.cons (.set 4 (.call 202 (.cons (.call 201 (.cons (.v 0) (.cons (.k (.int (4))) .nil))) (.cons (.k (.int (9))) .nil)))) (.cons (.for (.nm 5) (.rng1 (.v 1)) (.cons (.set 6 wyA) (.cons wyB wyC))) (.cons (.ret (.v 2)) .nil)))))⟩
def F8:Fn:=⟨1,5,2,(.cons (.set 1 (.lst .nil)) (.cons (.set 2 (.neg (.k (.int (1))))) (.cons (.for (.tp (.cons (.nm 3) (.cons (.nm 4) .nil))) (.seq (.v 0)) lhB) (.cons (.ret (.v 1)) .nil))))⟩
def G4:Fn:=⟨1,1,2,(.cons (.ret (.comp (.nm 0) (.seq (.v 0)) 1 [] .yes (.ix (.lst (.cons (.k (.str "left")) (.cons (.k (.str "right")) .nil))) (.bi .int (.cons (.bin .eq (.v 0) (.k (.str "left"))) .nil))))) .nil)⟩
def M0:Fn:=⟨4,12,1,(.cons (.set 4 (.call 219 (.cons (.v 0) .nil))) (.cons (.set 5 (.bi .sorted (.cons (.v 3) .nil))) (.cons (.set 6 (.bi .list (.cons (.v 3) .nil))) (.cons (.iff (.cmp .eq (.v 2) (.k (.str "right"))) (.cons (.ex (.rvs (.v 6))) .nil) .nil) (.cons (.set 7 (.lst .nil)) (.cons (.set 8 (.k (.int (0)))) (.cons (.whl (.cmp .lt (.v 8) (.bi .len (.cons (.v 6) .nil))) (.cons (.set 9 (.v 8)) (.cons (.set 10 (.ix (.v 1) (.ix (.v 4) (.ix (.v 5) (.v 8))))) (.cons (.whl (.an (.cmp .lt (.v 9) (.bi .len (.cons (.v 6) .nil))) (.cmp .eq (.ix (.v 1) (.ix (.v 4) (.ix (.v 5) (.v 9)))) (.v 10))) (.cons (.set 9 (.bin .add (.v 9) (.k (.int (1))))) .nil)) (.cons (.set 11 (.sl (.v 6) (.at (.v 8)) (.at (.v 9)))) (.cons (.iff (.cmp .ne (.v 10) (.v 2)) (.cons (.ex (.rvs (.v 11))) .nil) .nil) (.cons (.set 7 (.bin .add (.v 7) (.v 11))) (.cons (.set 8 (.v 9)) .nil)))))))) (.cons (.ret (.bin .eq (.v 7) (.v 5))) .nil))))))))⟩
def a6q:Fn:=⟨1,15,0,(.cons (.set 1 (.call 212 (.cons (.v 0) (.cons (.k (.int (0))) .nil)))) (.cons (.set 2 (.call 12 (.cons (.call 215 (.cons (.v 1) .nil)) .nil))) (.cons (.set 3 (.bi .dict (.cons (.ix (.v 1) (.k (.int (0)))) .nil))) (.cons (.set 4 (.call 217 (.cons (.v 0) (.cons (.k (.int (5))) (.cons (.ix (.v 1) (.k (.int (0)))) .nil))))) (.cons (.set 5 (.call 218 (.cons (.v 0) (.cons (.bi .sum (.cons (.comp (.nm 0) (.seq (.v 4)) 1 [] .yes (.bi .len (.cons (.ix (.v 0) (.k (.int (1)))) .nil))) .nil)) .nil)))) (.cons (.set 6 (.call 42 (.cons (.v 2) (.cons (.v 4) .nil)))) (.cons (.for (.tp (.cons (.nm 7) (.cons (.nm 8) .nil))) (.seq (.lst (.cons (.tup (.cons (.k (.str "left")) (.cons (.k (.str "right")) .nil))) (.cons (.tup (.cons (.k (.str "right")) (.cons (.k (.str "left")) .nil))) .nil)))) (.cons (.set 9 (.call 35 (.cons (.v 2) (.cons (.v 4) (.cons (.v 5) (.cons (.v 7) .nil)))))) (.cons (.set 10 (.call 36 (.cons (.v 2) (.cons (.v 4) (.cons (.v 5) (.cons (.v 7) .nil)))))) (.cons (.iff (.cmp .ne (.call 35 (.cons (.v 2) (.cons (.v 4) (.cons (.call 220 (.cons (.v 5) .nil)) (.cons (.v 8) .nil))))) (.rev (.v 9))) (.cons (.ret (.k (.bl false))) .nil) .nil) (.cons (.set 11 (.call 36 (.cons (.v 2) (.cons (.v 4) (.cons (.call 220 (.cons (.v 5) .nil)) (.cons (.v 8) .nil)))))) (.cons (.for (.nm 12) (.seq (.v 9)) (.cons (.set 13 (.bin .add (.ix (.ix (.v 10) (.v 12)) (.k (.int (0)))) (.ix (.v 3) (.ix (.ix (.v 4) (.v 12)) (.k (.int (0))))))) (.cons (.iff (.cmp .ne (.bin .add (.ix (.ix (.v 11) (.v 12)) (.k (.int (0)))) (.v 13)) (.v 6)) (.cons (.ret (.k (.bl false))) .nil) .nil) .nil))) (.cons (.set 14 (.call 35 (.cons (.v 2) (.cons (.v 4) (.cons (.comp (.nm 0) (.seq (.v 5)) 1 [7] .yes (.v 1)) (.cons (.v 7) .nil)))))) (.cons (.iff (.cmp .ne (.ix (.lst (.cons (.v 14) (.cons (.rev (.v 14)) .nil))) (.bi .int (.cons (.bin .eq (.v 7) (.k (.str "right"))) .nil))) (.bi .sorted (.cons (.v 9) .nil))) (.cons (.ret (.k (.bl false))) .nil) .nil) (.cons (.iff (.nt (.val (.call 221 (.cons (.v 4) (.cons (.v 5) (.cons (.v 7) (.cons (.v 9) .nil))))))) (.cons (.ret (.k (.bl false))) .nil) .nil) .nil))))))))) (.cons (.ret (.k (.bl true))) .nil))))))))⟩
end EV
namespace K42
open PySem L2 EV
noncomputable def top(i:Nat):Stmt:=PySem.Challenge.pw_glyphhall_k42_seen_from_the_other_side.main.body.getD i (.Pass ⟨0,0,0,0⟩)
noncomputable def fe(x:Str)(a b:Nat):Str×Nat×Nat:=(x,a,b)
def se(x:Str)(d:D):Str×D:=(x,d)
def fns:List (Str×Nat×Nat):=[fe "words_of" 1 1,fe "made_of" 2 2,fe "is_name" 3 1,fe "is_number" 4 1,fe "is_signed_number" 5 1,fe "class_of_item" 6 1,fe "is_class_item" 7 1,fe "is_item" 8 1,fe "all_names" 9 1,fe "all_signed_numbers" 10 1,fe "all_items" 11 1,fe "read_hall" 12 1,fe "take_row" 13 2,fe "first_due" 14 3,fe "has_shapes" 15 2,fe "pair_of" 16 1,fe "take_shape" 17 2,fe "has_side_form" 18 2,fe "take_mark" 19 2,fe "take_point" 20 2,fe "has_letter_form" 21 1,fe "take_letter" 22 2,fe "take_gap" 23 2,fe "take_class" 24 2,fe "take_feature" 25 2,fe "take_rule" 26 2,fe "has_rule_form" 27 1,fe "rule_parts" 28 1,fe "has_items" 29 2,fe "has_item" 30 2,fe "has_rule" 31 2,fe "homes_of" 33 1,fe "base_runs" 34 3,fe "seen_order" 35 4,fe "laid" 36 4,fe "base_spots" 37 3,fe "points_of" 38 2,fe "feet_on" 39 2,fe "plus" 40 2,fe "minus" 41 2,fe "width_of" 42 2,fe "_law_cell_at" 201 2,fe "_law_mixed" 202 2,fe "_law_names_by" 203 2,fe "_law_shapes_by" 204 1,fe "_law_spot_by" 205 1,fe "_law_marks_by" 206 2,fe "_law_points_by" 207 2,fe "_law_letters_by" 208 2,fe "_law_classes_by" 209 2,fe "_law_items_by" 210 5,fe "_law_rules_by" 211 6,fe "_law_hall_by" 212 2,fe "_law_pair_text" 213 1,fe "_law_rule_text" 214 1,fe "_law_hall_text" 215 1,fe "_law_cells_by" 217 3,fe "_law_ways_by" 218 2,fe "_law_homes" 219 1,fe "_law_turned" 220 1,fe "_law_back" 221 4,fe "law" 222 1]
def G:GT:={
 fn:=fns
 scal:=[se "FIGURES" (.str "0123456789"),se "NAME_SIGNS" (.str "abcdefghijklmnopqrstuvwxyz0123456789"),se "CLASS_SIGN" (.str "@"),se "LONGEST_NAME" (.int 12),se "LONGEST_NUMBER" (.int 5),se "MOST_SHAPES" (.int 60),se "MOST_LETTERS" (.int 24),se "MOST_CLASSES" (.int 20),se "MOST_FEATURES" (.int 10),se "MOST_RULES" (.int 30),se "MOST_IN_CLASS" (.int 20),se "MOST_AROUND" (.int 3),se "MOST_IN_CORE" (.int 4),se "MOST_TOLD" (.int 3)]
 tups:=[("SIDES",[.str "above",.str "below"]),("WAYS",[.str "left",.str "right",.str "either"]),("SWITCHES",[.str "on",.str "off"])]
 dicts:=[("SHAPES_OF_JOIN",[(.str "none",.int 1),(.str "clear",.int 1),(.str "back",.int 2),(.str "both",.int 4)])]
 obj:=[("Hall",6)]
 atts:=["shapes","marks","points","letters","gaps","classes","features","rules"]
 blt:=["len","str","int","list","tuple","all","any","isinstance","bool","range","enumerate","zip","dict","reversed","sum","max","sorted"]}
def F(i:Nat):Option Fn:=match i with
 |1=>some W9
 |2=>some a0D
 |3=>some a0E
 |4=>some S9
 |5=>some C9
 |6=>some M6
 |7=>some M4
 |8=>some a1T
 |9=>some a0m
 |10=>some E9
 |11=>some a0n
 |12=>some S8
 |13=>some C8
 |14=>some T0
 |15=>some N9
 |16=>some a0B
 |17=>some N5
 |18=>some G7
 |19=>some S7
 |20=>some N6
 |21=>some E1
 |22=>some L6
 |23=>some X0
 |24=>some N7
 |25=>some K0
 |26=>some a0k
 |27=>some M5
 |28=>some X1
 |29=>some a0l
 |30=>some a0Z
 |31=>some a0Y
 |33=>some E7
 |34=>some E8
 |35=>some F6
 |36=>some a3k
 |37=>some F7
 |38=>some J0
 |39=>some O2
 |40=>some a0X
 |41=>some a0C
 |42=>some O8
 |201=>some x0
 |202=>some o3
 |203=>some n8
 |204=>some v8
 |205=>some u6
 |206=>some z5
 |207=>some w5
 |208=>some v0
 |209=>some v5
 |210=>some Y6
 |211=>some z4
 |212=>some F5
 |213=>some w6
 |214=>some V2
 |215=>some C1
 |217=>some D2
 |218=>some F0
 |219=>some F8
 |220=>some G4
 |221=>some M0
 |222=>some a6q
 |32=>some M1
 |_=>none
def ct:CT:=⟨fun _=>32⟩
abbrev SH:Stmt:=b4m (top 34) 0
theorem bd0{P:List Value->Prop}(h:P []):∀us,us.length=0->P us:=fun us e=>List.eq_nil_of_length_eq_zero e▸h
theorem bdS{P:List Value->Prop}{n:Nat}(h:∀a us,us.length=n->P (a::us)):∀us,us.length=n+1->P us:=fun us e=>by
 cases us with
 |nil=>cases e
 |cons a r=>exact h a r (Nat.succ.inj e)
theorem bd1{P:List Value->Prop}(h:∀a,P [a]):∀us,us.length=1->P us:=bdS fun a=>bd0 (P:=fun l=>P (a::l)) (h a)
theorem bd2{P:List Value->Prop}(h:∀a b,P [a,b]):∀us,us.length=2->P us:=bdS fun a=>bd1 (P:=fun l=>P (a::l)) (h a)
theorem bd3{P:List Value->Prop}(h:∀a b c,P [a,b,c]):∀us,us.length=3->P us:=bdS fun a=>bd2 (P:=fun l=>P (a::l)) (h a)
theorem bd4{P:List Value->Prop}(h:∀a b c d,P [a,b,c,d]):∀us,us.length=4->P us:=bdS fun a=>bd3 (P:=fun l=>P (a::l)) (h a)
theorem bd5{P:List Value->Prop}(h:∀a b c d e,P [a,b,c,d,e]):∀us,us.length=5->P us:=bdS fun a=>bd4 (P:=fun l=>P (a::l)) (h a)
theorem bd6{P:List Value->Prop}(h:∀a b c d e f,P [a,b,c,d,e,f]):∀us,us.length=6->P us:=bdS fun a=>bd5 (P:=fun l=>P (a::l)) (h a)
abbrev Bd(x q:Str)(st:Stmt)(ps:List Str):Prop:=∀(kV doc pm:Value) (an:Option Addr) (cdv ct:Value) (us:List Value),us.length=ps.length->bindArgs (PySem.W.fnOf x q (T1 st) (L7 st) (t8 st) .none kV doc pm an cdv ct) ⟨us,[]⟩=pure (ps.zip us)
def pO(st:Stmt):List Str:=(T1 st).args.map (·.arg)
def nO(st:Stmt):List Str:=pO st++((t8 st).names.filter fun y=>(y.2==.local||y.2==.cell)&&!(pO st).contains y.1).map (·.1)
structure Rw(x:Str)(st:Stmt)(id np:Nat)(f:Fn):Prop where
 a:FnScope (nO st) (pO st) (t8 st)
 b:Bd x x st (pO st)
 p:(pO st).length=np
 i:F id=some f
 q:f.np=np
 s:f.ns=(nO st).length
 c:cSs G (nO st) (t8 st) 20 (L7 st)=some f.body
local macro_rules | `(tactic| ac_rfl) => `(tactic| exact ⟨⟨rfl, rfl, rfl, by decide +kernel, by kernel_rfl, by decide +kernel, by decide +kernel⟩, fun _ _ _ _ _ _ => by first | exact bd1 fun _ => rfl | exact bd2 fun _ _ => rfl | exact bd3 fun _ _ _ => rfl | exact bd4 fun _ _ _ _ => rfl | exact bd5 fun _ _ _ _ _ => rfl | exact bd6 fun _ _ _ _ _ _ => rfl, by kernel_rfl, rfl, rfl, by kernel_rfl, by kernel_rfl⟩)
theorem R1:Rw "words_of" (top 9) 1 1 W9:=by ac_rfl
theorem R2:Rw "made_of" (top 10) 2 2 a0D:=by ac_rfl
theorem R3:Rw "is_name" (top 11) 3 1 a0E:=by ac_rfl
theorem R4:Rw "is_number" (top 12) 4 1 S9:=by ac_rfl
theorem R5:Rw "is_signed_number" (top 13) 5 1 C9:=by ac_rfl
theorem R6:Rw "class_of_item" (top 14) 6 1 M6:=by ac_rfl
theorem R7:Rw "is_class_item" (top 15) 7 1 M4:=by ac_rfl
theorem R8:Rw "is_item" (top 16) 8 1 a1T:=by ac_rfl
theorem R9:Rw "all_names" (top 17) 9 1 a0m:=by ac_rfl
theorem R10:Rw "all_signed_numbers" (top 18) 10 1 E9:=by ac_rfl
theorem R11:Rw "all_items" (top 19) 11 1 a0n:=by ac_rfl
theorem R12:Rw "read_hall" (top 35) 12 1 S8:=by ac_rfl
theorem R13:Rw "take_row" (top 36) 13 2 C8:=by ac_rfl
theorem R14:Rw "first_due" (top 37) 14 3 T0:=by ac_rfl
theorem R15:Rw "has_shapes" (top 38) 15 2 N9:=by ac_rfl
theorem R16:Rw "pair_of" (top 39) 16 1 a0B:=by ac_rfl
theorem R17:Rw "take_shape" (top 40) 17 2 N5:=by ac_rfl
theorem R18:Rw "has_side_form" (top 41) 18 2 G7:=by ac_rfl
theorem R19:Rw "take_mark" (top 42) 19 2 S7:=by ac_rfl
theorem R20:Rw "take_point" (top 43) 20 2 N6:=by ac_rfl
theorem R21:Rw "has_letter_form" (top 44) 21 1 E1:=by ac_rfl
theorem R22:Rw "take_letter" (top 45) 22 2 L6:=by ac_rfl
theorem R23:Rw "take_gap" (top 46) 23 2 X0:=by ac_rfl
theorem R24:Rw "take_class" (top 47) 24 2 N7:=by ac_rfl
theorem R25:Rw "take_feature" (top 48) 25 2 K0:=by ac_rfl
theorem R26:Rw "take_rule" (top 49) 26 2 a0k:=by ac_rfl
theorem R27:Rw "has_rule_form" (top 50) 27 1 M5:=by ac_rfl
theorem R28:Rw "rule_parts" (top 51) 28 1 X1:=by ac_rfl
theorem R29:Rw "has_items" (top 52) 29 2 a0l:=by ac_rfl
theorem R30:Rw "has_item" (top 53) 30 2 a0Z:=by ac_rfl
theorem R31:Rw "has_rule" (top 54) 31 2 a0Y:=by ac_rfl
theorem R33:Rw "homes_of" (top 56) 33 1 E7:=by ac_rfl
theorem R34:Rw "base_runs" (top 59) 34 3 E8:=by ac_rfl
theorem R35:Rw "seen_order" (top 58) 35 4 F6:=by ac_rfl
theorem R36:Rw "laid" (top 61) 36 4 a3k:=by ac_rfl
theorem R37:Rw "base_spots" (top 62) 37 3 F7:=by ac_rfl
theorem R38:Rw "points_of" (top 63) 38 2 J0:=by ac_rfl
theorem R39:Rw "feet_on" (top 64) 39 2 O2:=by ac_rfl
theorem R40:Rw "plus" (top 65) 40 2 a0X:=by ac_rfl
theorem R41:Rw "minus" (top 66) 41 2 a0C:=by ac_rfl
theorem R42:Rw "width_of" (top 67) 42 2 O8:=by ac_rfl
theorem c2f:Rw "_law_cell_at" (top 69) 201 2 x0:=by ac_rfl
theorem c2e:Rw "_law_mixed" (top 70) 202 2 o3:=by ac_rfl
theorem c2d:Rw "_law_names_by" (top 71) 203 2 n8:=by ac_rfl
theorem c2c:Rw "_law_shapes_by" (top 72) 204 1 v8:=by ac_rfl
theorem c2b:Rw "_law_spot_by" (top 73) 205 1 u6:=by ac_rfl
theorem c2a:Rw "_law_marks_by" (top 74) 206 2 z5:=by ac_rfl
theorem c1Z:Rw "_law_points_by" (top 75) 207 2 w5:=by ac_rfl
theorem c1Y:Rw "_law_letters_by" (top 76) 208 2 v0:=by ac_rfl
theorem c1X:Rw "_law_classes_by" (top 77) 209 2 v5:=by ac_rfl
theorem c1W:Rw "_law_items_by" (top 78) 210 5 Y6:=by ac_rfl
theorem c1V:Rw "_law_rules_by" (top 79) 211 6 z4:=by ac_rfl
theorem c1U:Rw "_law_hall_by" (top 80) 212 2 F5:=by ac_rfl
theorem c1T:Rw "_law_pair_text" (top 81) 213 1 w6:=by ac_rfl
theorem c1S:Rw "_law_rule_text" (top 82) 214 1 V2:=by ac_rfl
theorem c1R:Rw "_law_hall_text" (top 83) 215 1 C1:=by ac_rfl
theorem c1Q:Rw "_law_cells_by" (top 84) 217 3 D2:=by ac_rfl
theorem c1P:Rw "_law_ways_by" (top 85) 218 2 F0:=by ac_rfl
theorem c1O:Rw "_law_homes" (top 86) 219 1 F8:=by ac_rfl
theorem c1N:Rw "_law_turned" (top 87) 220 1 G4:=by ac_rfl
theorem c1M:Rw "_law_back" (top 88) 221 4 M0:=by ac_rfl
theorem a5C:Rw "law" (top 89) 222 1 a6q:=by ac_rfl
theorem AH:FnScope ["self"] ["self"] (t8 SH):=⟨rfl,rfl,rfl,by decide+kernel,rfl,by decide+kernel,by decide+kernel⟩
theorem BH:Bd "__init__" "Hall.__init__" SH ["self"]:=fun _ _ _ _ _ _=>bd1 fun _=>rfl
theorem CH:cSs G ["self"] (t8 SH) 20 (L7 SH)=some M1.body:=by kernel_rfl
open PySem.W (nsIn codeIn keepIn findIn)
section
variable{K:PySem.W.Frag}{x:Str}
structure DfE(K:PySem.W.Frag)(x:Str)(st:Stmt):Prop where
 ex:∃f fd,nsIn K mainGlobals x=some (some (.ref f))/\Fun K x x st f fd
theorem b9y{st:Stmt}{f:Addr}{oc:Value}{od an:Option Addr}{osl:Array (Option Value)}{kV doc pm cdv ct:Value}(e1:nsIn K mainGlobals x=some (some (.ref f)))(e2:K.lookup f=some ⟨oc,od,.func (PySem.W.fnOf x x (T1 st) (L7 st) (t8 st) .none kV doc pm an cdv ct),osl⟩)(e3:codeIn K cdv x=true)(e4:keepIn K (.ref f)=true):DfE K x st:=⟨f,_,e1,b1V e2 e3 e4⟩
structure StrE(K:PySem.W.Frag)(x y:Str):Prop where
 ex:∃t,nsIn K mainGlobals x=some (some (.str y t))
theorem b5J{y:Str}{t:Tok}(e1:nsIn K mainGlobals x=some (some (.str y t))):StrE K x y:=⟨t,e1⟩
structure IntE(K:PySem.W.Frag)(x:Str)(i:Int):Prop where
 ex:∃t,nsIn K mainGlobals x=some (some (.int i t))
theorem b6X{i:Int}{t:Tok}(e1:nsIn K mainGlobals x=some (some (.int i t))):IntE K x i:=⟨t,e1⟩
structure TupE(K:PySem.W.Frag)(x:Str)(vs:List V):Prop where
 ex:∃a,nsIn K mainGlobals x=some (some (.ref a))/\∀H,SqT K H a vs
theorem b3a{a:Addr}{d:Option Addr}{n:Nat}{sl:Array (Option Value)}{y z:Str}{t u:Tok}(e1:nsIn K mainGlobals x=some (some (.ref a)))(e2:K.lookup a=some ⟨.type "tuple",d,.seq #[.str y t,.str z u] n,sl⟩):TupE K x [.str y,.str z]:=
 ⟨a,e1,fun H=>.inr ⟨_,_,_,e2,rfl,rfl,by show 2<=sizeLine;decide,.cons ⟨_,rfl⟩ (.cons ⟨_,rfl⟩ .nil)⟩⟩
theorem b2Z{a:Addr}{d:Option Addr}{n:Nat}{sl:Array (Option Value)}{y z v:Str}{t u r:Tok}(e1:nsIn K mainGlobals x=some (some (.ref a)))(e2:K.lookup a=some ⟨.type "tuple",d,.seq #[.str y t,.str z u,.str v r] n,sl⟩):TupE K x [.str y,.str z,.str v]:=
 ⟨a,e1,fun H=>.inr ⟨_,_,_,e2,rfl,rfl,by show 3<=sizeLine;decide,.cons ⟨_,rfl⟩ (.cons ⟨_,rfl⟩ (.cons ⟨_,rfl⟩ .nil))⟩⟩
structure DicE(K:PySem.W.Frag)(P:Program)(w:World)(x:Str)(gs:List (Key×V)):Prop where
 ex:∃a,nsIn K mainGlobals x=some (some (.ref a))/\a9S P w K a gs
theorem b4S{P:Program}{w:World}{a:Addr}{ep:Nat}{h1 h2 h3 h4:Int}{y1 y2 y3 y4:Str}{i1 i2 i3 i4:Int}{t1 t2 t3 t4 u1 u2 u3 u4:Tok}(e1:nsIn K mainGlobals x=some (some (.ref a)))
 (e2:K.lookup a=some ⟨.type "dict",none,.dict #[⟨h1,.str y1 t1,.int i1 u1⟩,⟨h2,.str y2 t2,.int i2 u2⟩,⟨h3,.str y3 t3,.int i3 u3⟩,⟨h4,.str y4 t4,.int i4 u4⟩] ep,#[]⟩) (ha:(a==sysModules)=false)
 (q1:h1=hashStr w y1) (q2:h2=hashStr w y2) (q3:h3=hashStr w y3) (q4:h4=hashStr w y4) (nd:([.inr y1,.inr y2,.inr y3,.inr y4]:List Key).Nodup):DicE K P w x [(.inr y1,.int i1),(.inr y2,.int i2),(.inr y3,.int i3),(.inr y4,.int i4)]:=by
 refine⟨a,e1,ha,[(.inr y1,.int i1 u1),(.inr y2,.int i2 u2),(.inr y3,.int i3 u3),(.inr y4,.int i4 u4)],?_,fun h kin=>⟨_,_,_,kin a _ e2,⟨rfl,rfl,rfl⟩,rfl,?_,?_,nd⟩⟩
 · exact .cons ⟨rfl,_,rfl⟩ (.cons ⟨rfl,_,rfl⟩ (.cons ⟨rfl,_,rfl⟩ (.cons ⟨rfl,_,rfl⟩ .nil)))
 · intro e he;simp only[List.mem_toArray,aE,not_mem_nil,or_false] at he
   rcases he with rfl|rfl|rfl|rfl
   · exact⟨.inr y1,strKind_is P w y1 t1,q1⟩
   · exact⟨.inr y2,strKind_is P w y2 t2,q2⟩
   · exact⟨.inr y3,strKind_is P w y3 t3,q3⟩
   · exact⟨.inr y4,strKind_is P w y4 t4,q4⟩
 · exact .cons (strKind_is P w y1 t1) rfl (.cons (strKind_is P w y2 t2) rfl (.cons (strKind_is P w y3 t3) rfl (.cons (strKind_is P w y4 t4) rfl .nil)))
structure HallE(K:PySem.W.Frag)(C:Addr):Prop where
 ex:∃f fd,Mk K C f/\Fun K "__init__" "Hall.__init__" SH f fd
theorem b4t{C f:Addr}{oc:Value}{od an:Option Addr}{osl:Array (Option Value)}{kV doc pm cdv ct:Value}(m1:PySem.W.makesIn K C=true)(m2:findIn K (.ref C) "__init__"=some (some (.ref f)))(m3:PySem.W.isFn K (.ref f)=true)(m4:keepIn K (.ref C)=true)
 (e2:K.lookup f=some ⟨oc,od,.func (PySem.W.fnOf "__init__" "Hall.__init__" (T1 SH) (L7 SH) (t8 SH) .none kV doc pm an cdv ct),osl⟩) (e3:codeIn K cdv "Hall.__init__"=true) (e4:keepIn K (.ref f)=true):HallE K C:=⟨f,_,⟨m1,m2,m3,m4⟩,b1V e2 e3 e4⟩
end
theorem G9{α:Type}{x y:Str}{a b:α}{l:List (Str×α)}(h:((y,a)::l).lookup x=some b):(x=y/\a=b)∨l.lookup x=some b:=by
 rw[lookup_cons] at h
 split at h
 · rename_i e;exact .inl ⟨eq_of_beq e,ax h⟩
 · exact .inr h
theorem a6j{α:Type}{x:Str}{b:α}(h:([]:List (Str×α)).lookup x=some b):False:=by simp at h
section
variable{K:PySem.W.Frag}{P:Program}{w:World}{h:Heap}{mg:Str->Option Value}
theorem row{x:Str}{st:Stmt}{id np:Nat}{fn:Fn}(X:K.In h)(Gg:h.Ns mainGlobals mg)(d:DfE K x st)(R:Rw x st id np fn):∃f fd st N ps,mg x=some (.ref f)/\RowOk K G F x x id np f fd st N ps:=by
 obtain⟨f,fd,e,F⟩:=d.ex;exact⟨f,fd,st,_,_,PySem.W.mg_of X Gg e,F,R.a,F.binds R.b,R.p,fn,R.i,R.q,R.s,R.c⟩
def a5B(K:PySem.W.Frag)(mg:Str->Option Value):List (Str×Nat×Nat)->Prop
 |[]=>True
 |p::l=>(∃f fd st N ps,mg p.1=some (.ref f)/\RowOk K G F p.1 p.1 p.2.1 p.2.2 f fd st N ps)/\a5B K mg l
theorem i6{p:Str×Nat×Nat}{l:List (Str×Nat×Nat)}(h:∃f fd st N ps,mg p.1=some (.ref f)/\RowOk K G F p.1 p.1 p.2.1 p.2.2 f fd st N ps)(r:a5B K mg l):a5B K mg (p::l):=⟨h,r⟩
theorem a7U:∀{l:List (Str×Nat×Nat)},a5B K mg l->∀x id np,l.lookup x=some (id,np)->∃f fd st N ps,mg x=some (.ref f)/\RowOk K G F x x id np f fd st N ps
 |[],_,x,id,np,h=>(a6j h).elim
 |(y,a,b)::l,r,x,id,np,h=>by
  rcases G9 h with⟨rfl,e⟩|h
  · cases e;exact r.1
  · exact a7U r.2 x id np h
variable{c6:Addr}(k6:nsIn K mainGlobals "Hall"=some (some (.ref c6)))(f1:DfE K "words_of" (top 9))(f2:DfE K "made_of" (top 10))(f3:DfE K "is_name" (top 11))(f4:DfE K "is_number" (top 12))(f5:DfE K "is_signed_number" (top 13))(f6:DfE K "class_of_item" (top 14))(f7:DfE K "is_class_item" (top 15))(f8:DfE K "is_item" (top 16))(f9:DfE K "all_names" (top 17))(f10:DfE K "all_signed_numbers" (top 18))(f11:DfE K "all_items" (top 19))(f12:DfE K "read_hall" (top 35))(f13:DfE K "take_row" (top 36))(f14:DfE K "first_due" (top 37))(f15:DfE K "has_shapes" (top 38))(f16:DfE K "pair_of" (top 39))(f17:DfE K "take_shape" (top 40))(f18:DfE K "has_side_form" (top 41))(f19:DfE K "take_mark" (top 42))(f20:DfE K "take_point" (top 43))(f21:DfE K "has_letter_form" (top 44))(f22:DfE K "take_letter" (top 45))(f23:DfE K "take_gap" (top 46))(f24:DfE K "take_class" (top 47))(f25:DfE K "take_feature" (top 48))(f26:DfE K "take_rule" (top 49))(f27:DfE K "has_rule_form" (top 50))(f28:DfE K "rule_parts" (top 51))(f29:DfE K "has_items" (top 52))(f30:DfE K "has_item" (top 53))(f31:DfE K "has_rule" (top 54))(f33:DfE K "homes_of" (top 56))(f34:DfE K "base_runs" (top 59))(f35:DfE K "seen_order" (top 58))(f36:DfE K "laid" (top 61))(f37:DfE K "base_spots" (top 62))(f38:DfE K "points_of" (top 63))(f39:DfE K "feet_on" (top 64))(f40:DfE K "plus" (top 65))(f41:DfE K "minus" (top 66))(f42:DfE K "width_of" (top 67))(f201:DfE K "_law_cell_at" (top 69))(f202:DfE K "_law_mixed" (top 70))(f203:DfE K "_law_names_by" (top 71))(f204:DfE K "_law_shapes_by" (top 72))(f205:DfE K "_law_spot_by" (top 73))(f206:DfE K "_law_marks_by" (top 74))(f207:DfE K "_law_points_by" (top 75))(f208:DfE K "_law_letters_by" (top 76))(f209:DfE K "_law_classes_by" (top 77))(f210:DfE K "_law_items_by" (top 78))(f211:DfE K "_law_rules_by" (top 79))(f212:DfE K "_law_hall_by" (top 80))(f213:DfE K "_law_pair_text" (top 81))(f214:DfE K "_law_rule_text" (top 82))(f215:DfE K "_law_hall_text" (top 83))(f217:DfE K "_law_cells_by" (top 84))(f218:DfE K "_law_ways_by" (top 85))(f219:DfE K "_law_homes" (top 86))(f220:DfE K "_law_turned" (top 87))(f221:DfE K "_law_back" (top 88))(f222:DfE K "law" (top 89))(c_FIGURES:StrE K "FIGURES" "0123456789")(c_NAME_SIGNS:StrE K "NAME_SIGNS" "abcdefghijklmnopqrstuvwxyz0123456789")(c_CLASS_SIGN:StrE K "CLASS_SIGN" "@")(c_LONGEST_NAME:IntE K "LONGEST_NAME" 12)(c_LONGEST_NUMBER:IntE K "LONGEST_NUMBER" 5)(c_MOST_SHAPES:IntE K "MOST_SHAPES" 60)(c_MOST_LETTERS:IntE K "MOST_LETTERS" 24)(c_MOST_CLASSES:IntE K "MOST_CLASSES" 20)(c_MOST_FEATURES:IntE K "MOST_FEATURES" 10)(c_MOST_RULES:IntE K "MOST_RULES" 30)(c_MOST_IN_CLASS:IntE K "MOST_IN_CLASS" 20)(c_MOST_AROUND:IntE K "MOST_AROUND" 3)(c_MOST_IN_CORE:IntE K "MOST_IN_CORE" 4)(c_MOST_TOLD:IntE K "MOST_TOLD" 3)(t_SIDES:TupE K "SIDES" [.str "above",.str "below"])(t_SWITCHES:TupE K "SWITCHES" [.str "on",.str "off"])(t_WAYS:TupE K "WAYS" [.str "left",.str "right",.str "either"])(dJ:DicE K P w "SHAPES_OF_JOIN" [(.inr "none",.int 1),(.inr "clear",.int 1),(.inr "back",.int 2),(.inr "both",.int 4)])(hall:HallE K c6)(cl:Cls K c6)(n_shapes:findIn K (.ref c6) "shapes"=some none)(n_marks:findIn K (.ref c6) "marks"=some none)(n_points:findIn K (.ref c6) "points"=some none)(n_letters:findIn K (.ref c6) "letters"=some none)(n_gaps:findIn K (.ref c6) "gaps"=some none)(n_classes:findIn K (.ref c6) "classes"=some none)(n_features:findIn K (.ref c6) "features"=some none)(n_rules:findIn K (.ref c6) "rules"=some none)(b_len:nsIn K mainGlobals "len"=some none)(b_str:nsIn K mainGlobals "str"=some none)(b_int:nsIn K mainGlobals "int"=some none)(b_list:nsIn K mainGlobals "list"=some none)(b_tuple:nsIn K mainGlobals "tuple"=some none)(b_all:nsIn K mainGlobals "all"=some none)(b_any:nsIn K mainGlobals "any"=some none)(b_isinstance:nsIn K mainGlobals "isinstance"=some none)(b_bool:nsIn K mainGlobals "bool"=some none)(b_range:nsIn K mainGlobals "range"=some none)(b_enumerate:nsIn K mainGlobals "enumerate"=some none)(b_zip:nsIn K mainGlobals "zip"=some none)(b_dict:nsIn K mainGlobals "dict"=some none)(b_reversed:nsIn K mainGlobals "reversed"=some none)(b_sum:nsIn K mainGlobals "sum"=some none)(b_max:nsIn K mainGlobals "max"=some none)(b_sorted:nsIn K mainGlobals "sorted"=some none)
include k6 f1 f2 f3 f4 f5 f6 f7 f8 f9 f10 f11 f12 f13 f14 f15 f16 f17 f18 f19 f20 f21 f22 f23 f24 f25 f26 f27 f28 f29 f30 f31 f33 f34 f35 f36 f37 f38 f39 f40 f41 f42 f201 f202 f203 f204 f205 f206 f207 f208 f209 f210 f211 f212 f213 f214 f215 f217 f218 f219 f220 f221 f222 c_FIGURES c_NAME_SIGNS c_CLASS_SIGN c_LONGEST_NAME c_LONGEST_NUMBER c_MOST_SHAPES c_MOST_LETTERS c_MOST_CLASSES c_MOST_FEATURES c_MOST_RULES c_MOST_IN_CLASS c_MOST_AROUND c_MOST_IN_CORE c_MOST_TOLD t_SIDES t_SWITCHES t_WAYS dJ hall cl n_shapes n_marks n_points n_letters n_gaps n_classes n_features n_rules b_len b_str b_int b_list b_tuple b_all b_any b_isinstance b_bool b_range b_enumerate b_zip b_dict b_reversed b_sum b_max b_sorted
theorem b3k(X:K.In h)(Gg:h.Ns mainGlobals mg):Stat P w ⟨K,fun _=>c6,[6],[]⟩ G ct F mg where
 scal:=fun x d hx=>by
  have S:∀{x y:Str},StrE K x y->∃u v,mg x=some u/\o0 v u/\∀m H,Rp m H (.str y) v:=fun e=>by
   obtain⟨t,e⟩:=e.ex;exact⟨_,.str _,PySem.W.mg_of X Gg e,⟨t,rfl⟩,fun _ _=>rfl⟩
  have I:∀{x:Str} {i:Int},IntE K x i->∃u v,mg x=some u/\o0 v u/\∀m H,Rp m H (.int i) v:=fun e=>by
   obtain⟨t,e⟩:=e.ex;exact⟨_,.int _,PySem.W.mg_of X Gg e,⟨t,rfl⟩,fun _ _=>rfl⟩
  unfold G se at hx
  simp only at hx
  rcases G9 hx with⟨rfl,rfl⟩|hx
  · exact S c_FIGURES
  rcases G9 hx with⟨rfl,rfl⟩|hx
  · exact S c_NAME_SIGNS
  rcases G9 hx with⟨rfl,rfl⟩|hx
  · exact S c_CLASS_SIGN
  rcases G9 hx with⟨rfl,rfl⟩|hx
  · exact I c_LONGEST_NAME
  rcases G9 hx with⟨rfl,rfl⟩|hx
  · exact I c_LONGEST_NUMBER
  rcases G9 hx with⟨rfl,rfl⟩|hx
  · exact I c_MOST_SHAPES
  rcases G9 hx with⟨rfl,rfl⟩|hx
  · exact I c_MOST_LETTERS
  rcases G9 hx with⟨rfl,rfl⟩|hx
  · exact I c_MOST_CLASSES
  rcases G9 hx with⟨rfl,rfl⟩|hx
  · exact I c_MOST_FEATURES
  rcases G9 hx with⟨rfl,rfl⟩|hx
  · exact I c_MOST_RULES
  rcases G9 hx with⟨rfl,rfl⟩|hx
  · exact I c_MOST_IN_CLASS
  rcases G9 hx with⟨rfl,rfl⟩|hx
  · exact I c_MOST_AROUND
  rcases G9 hx with⟨rfl,rfl⟩|hx
  · exact I c_MOST_IN_CORE
  rcases G9 hx with⟨rfl,rfl⟩|hx
  · exact I c_MOST_TOLD
  exact(a6j hx).elim
 tups:=fun x ds hx=>by
  unfold G at hx
  simp only at hx
  rcases G9 hx with⟨rfl,rfl⟩|hx
  · obtain⟨a,e,s⟩:=t_SIDES.ex;exact⟨a,_,PySem.W.mg_of X Gg e,s,fun _ _=>⟨.str "above",_,rfl,rfl,⟨.str "below",_,rfl,rfl,rfl⟩⟩⟩
  rcases G9 hx with⟨rfl,rfl⟩|hx
  · obtain⟨a,e,s⟩:=t_WAYS.ex;exact⟨a,_,PySem.W.mg_of X Gg e,s,fun _ _=>⟨.str "left",_,rfl,rfl,⟨.str "right",_,rfl,rfl,⟨.str "either",_,rfl,rfl,rfl⟩⟩⟩⟩
  rcases G9 hx with⟨rfl,rfl⟩|hx
  · obtain⟨a,e,s⟩:=t_SWITCHES.ex;exact⟨a,_,PySem.W.mg_of X Gg e,s,fun _ _=>⟨.str "on",_,rfl,rfl,⟨.str "off",_,rfl,rfl,rfl⟩⟩⟩
  exact(a6j hx).elim
 dicts:=fun x kvs hx=>by
  unfold G at hx
  simp only at hx
  rcases G9 hx with⟨rfl,rfl⟩|hx
  · obtain⟨a,e,d⟩:=dJ.ex;exact⟨a,_,PySem.W.mg_of X Gg e,d,fun _ _=>.cons ⟨rfl,rfl⟩ (.cons ⟨rfl,rfl⟩ (.cons ⟨rfl,rfl⟩ (.cons ⟨rfl,rfl⟩ .nil)))⟩
  exact(a6j hx).elim
 blt:=fun x hx=>by
  rw[List.contains_iff_mem] at hx;unfold G at hx;simp only[aE,not_mem_nil,or_false] at hx
  rcases hx with rfl|rfl|rfl|rfl|rfl|rfl|rfl|rfl|rfl|rfl|rfl|rfl|rfl|rfl|rfl|rfl|rfl
  · exact PySem.W.ns_none_of X Gg b_len
  · exact PySem.W.ns_none_of X Gg b_str
  · exact PySem.W.ns_none_of X Gg b_int
  · exact PySem.W.ns_none_of X Gg b_list
  · exact PySem.W.ns_none_of X Gg b_tuple
  · exact PySem.W.ns_none_of X Gg b_all
  · exact PySem.W.ns_none_of X Gg b_any
  · exact PySem.W.ns_none_of X Gg b_isinstance
  · exact PySem.W.ns_none_of X Gg b_bool
  · exact PySem.W.ns_none_of X Gg b_range
  · exact PySem.W.ns_none_of X Gg b_enumerate
  · exact PySem.W.ns_none_of X Gg b_zip
  · exact PySem.W.ns_none_of X Gg b_dict
  · exact PySem.W.ns_none_of X Gg b_reversed
  · exact PySem.W.ns_none_of X Gg b_sum
  · exact PySem.W.ns_none_of X Gg b_max
  · exact PySem.W.ns_none_of X Gg b_sorted
 fn:=fun x id np hx=>a7U (l:=fns) (i6 (row X Gg f1 R1) (i6 (row X Gg f2 R2) (i6 (row X Gg f3 R3) (i6 (row X Gg f4 R4) (i6 (row X Gg f5 R5) (i6 (row X Gg f6 R6) (i6 (row X Gg f7 R7) (i6 (row X Gg f8 R8) (i6 (row X Gg f9 R9) (i6 (row X Gg f10 R10) (i6 (row X Gg f11 R11) (i6 (row X Gg f12 R12) (i6 (row X Gg f13 R13) (i6 (row X Gg f14 R14) (i6 (row X Gg f15 R15) (i6 (row X Gg f16 R16) (i6 (row X Gg f17 R17) (i6 (row X Gg f18 R18) (i6 (row X Gg f19 R19) (i6 (row X Gg f20 R20) (i6 (row X Gg f21 R21) (i6 (row X Gg f22 R22) (i6 (row X Gg f23 R23) (i6 (row X Gg f24 R24) (i6 (row X Gg f25 R25) (i6 (row X Gg f26 R26) (i6 (row X Gg f27 R27) (i6 (row X Gg f28 R28) (i6 (row X Gg f29 R29) (i6 (row X Gg f30 R30) (i6 (row X Gg f31 R31) (i6 (row X Gg f33 R33) (i6 (row X Gg f34 R34) (i6 (row X Gg f35 R35) (i6 (row X Gg f36 R36) (i6 (row X Gg f37 R37) (i6 (row X Gg f38 R38) (i6 (row X Gg f39 R39) (i6 (row X Gg f40 R40) (i6 (row X Gg f41 R41) (i6 (row X Gg f42 R42) (i6 (row X Gg f201 c2f) (i6 (row X Gg f202 c2e) (i6 (row X Gg f203 c2d) (i6 (row X Gg f204 c2c) (i6 (row X Gg f205 c2b) (i6 (row X Gg f206 c2a) (i6 (row X Gg f207 c1Z) (i6 (row X Gg f208 c1Y) (i6 (row X Gg f209 c1X) (i6 (row X Gg f210 c1W) (i6 (row X Gg f211 c1V) (i6 (row X Gg f212 c1U) (i6 (row X Gg f213 c1T) (i6 (row X Gg f214 c1S) (i6 (row X Gg f215 c1R) (i6 (row X Gg f217 c1Q) (i6 (row X Gg f218 c1P) (i6 (row X Gg f219 c1O) (i6 (row X Gg f220 c1N) (i6 (row X Gg f221 c1M) (i6 (row X Gg f222 a5C) (True.intro))))))))))))))))))))))))))))))))))))))))))))))))))))))))))))))) x id np hx
 obj:=fun x k hx=>by
  unfold G at hx
  simp only at hx
  rcases G9 hx with⟨rfl,rfl⟩|hx
  · obtain⟨f,fd,M,F⟩:=hall.ex;exact⟨by simp,PySem.W.mg_of X Gg k6,f,fd,SH,["self"],["self"],"Hall.__init__",M,F,AH,F.binds BH,rfl,M1,rfl,rfl,rfl,CH⟩
  exact(a6j hx).elim
 att:=fun k hk=>by
  refine⟨cl,fun f hf=>?_⟩
  rw[List.contains_iff_mem] at hf;unfold G at hf;simp only[aE,not_mem_nil,or_false] at hf
  rcases hf with rfl|rfl|rfl|rfl|rfl|rfl|rfl|rfl
  · exact n_shapes
  · exact n_marks
  · exact n_points
  · exact n_letters
  · exact n_gaps
  · exact n_classes
  · exact n_features
  · exact n_rules
theorem b3l:∃cA,DfE K "law" (top 89)/\∀{h:Heap} {mg:Str->Option Value},K.In h->h.Ns mainGlobals mg->Stat P w ⟨K,cA,[6],[]⟩ G ct F mg:=⟨_,f222,fun X Gg=>b3k k6 f1 f2 f3 f4 f5 f6 f7 f8 f9 f10 f11 f12 f13 f14 f15 f16 f17 f18 f19 f20 f21 f22 f23 f24 f25 f26 f27 f28 f29 f30 f31 f33 f34 f35 f36 f37 f38 f39 f40 f41 f42 f201 f202 f203 f204 f205 f206 f207 f208 f209 f210 f211 f212 f213 f214 f215 f217 f218 f219 f220 f221 f222 c_FIGURES c_NAME_SIGNS c_CLASS_SIGN c_LONGEST_NAME c_LONGEST_NUMBER c_MOST_SHAPES c_MOST_LETTERS c_MOST_CLASSES c_MOST_FEATURES c_MOST_RULES c_MOST_IN_CLASS c_MOST_AROUND c_MOST_IN_CORE c_MOST_TOLD t_SIDES t_SWITCHES t_WAYS dJ hall cl n_shapes n_marks n_points n_letters n_gaps n_classes n_features n_rules b_len b_str b_int b_list b_tuple b_all b_any b_isinstance b_bool b_range b_enumerate b_zip b_dict b_reversed b_sum b_max b_sorted X Gg⟩
end
open PyProof.Rows hiding St
theorem b8h{l:PySem.W.OpenLaw}{n k:Nat}{q:Program}{loose:List Str}{XP:(Str->Option Value)->Heap->Prop}{YP:World->Heap->Prop}{d:DefRec}{K:Params->PySem.W.Frag}{CX:World->CXT}{sp:PySem.W.Frag->Sp}{x:Str}
 (hn:l.most=some n) (hn2:n<=sizeLine) (hdf:d.params.defaults=[]) (hr:Room k callerA)
 (hY:∀(w:World) (h:Heap),YP w h->(K w.params).In h)
 (F:∀(w:World) (mg:Str->Option Value) (fa:Addr) (h:Heap),(K w.params).In h->h.Ns mainGlobals mg->mg d.name=some (.ref fa)→
  ∃fd:FuncData,(∀(s:Shared) (u:Value),BindsTo s fd ⟨[u],[]⟩ [(x,u)])∧
   ∀base:Heap,(K w.params).In base->base.Ns mainGlobals mg->FnOk l.prog w (K w.params) mg base (CX w) k fa fd [x] (sp (K w.params)))
 (hsp:∀(w:World) (H:Hp) (a:Addr) (ns:List Int),ns.length<=n->b2S H->SqL (K w.params) H a (ns.map V.int)->sp (K w.params) [.ref a] H (fun v _=>v=.bl true) fun _ _ _=>False)
 (hCX:∀(w:World) (H:Hp) (s:Shared) (e:Value) (s':Shared),CX w [] H s (fun _ _ _=>False) e s'->False):
 PySem.W.WalkO q loose XP YP l.row.toRowW d [] (fun f vs=>PySem.call f vs):=
 b2W (K:=K) (CX:=CX) (sp:=fun w=>sp (K w.params)) hn hn2 hdf hr hY F hsp hCX
def spK(K:PySem.W.Frag):Sp:=fun vs H Q E=>∀cA,a4C ⟨K,cA,[6],[]⟩ (b0 ct F 20) 222 1 vs H Q E
theorem b7g{K:PySem.W.Frag}{P:Program}{w:World}{cA:Nat->Addr}{h:Heap}{mg:Str->Option Value}{fa:Addr}(D:DfE K "law" (top 89))(S:Stat P w ⟨K,cA,[6],[]⟩ G ct F mg)(X:K.In h)(Gg:h.Ns mainGlobals mg)(hmg:mg "law"=some (.ref fa)):
 ∃fd,(∀(s:Shared) (u:Value),BindsTo s fd ⟨[u],[]⟩ [("_law_script",u)])/\∀base:Heap,FnOk P w K mg base CX0 46 fa fd ["_law_script"] (spK K):=by
 obtain⟨f,fd,e,Fn⟩:=D.ex;have e0:=hmg.symm.trans (PySem.W.mg_of X Gg e);cases e0
 have R:RowOk K G F "law" "law" 222 1 fa fd (top 89) (nO (top 89)) (pO (top 89)):=⟨Fn,a5C.a,Fn.binds a5C.b,a5C.p,a6q,a5C.i,a5C.q,a5C.s,a5C.c⟩
 refine⟨fd,fun s u=>?_,fun base=>?_⟩
 · obtain⟨oc,od,kV,doc,pm,an,cdv,ct,osl,rfl,lk,hcd⟩:=Fn.ex;exact .of_eq (a5C.b kV doc pm an cdv ct [u] rfl)
 · have ih:=b7f S 19;have g:=a5g S ih.1 ih.2 (b2N S 19) R base;exact⟨fun vs H Q E hh=>g.len vs H Q E (hh cA),fun A outer s H args us vs Q E a1 a2 a3 a4 hh=>g.run A outer s H args us vs Q E a1 a2 a3 a4 (hh cA)⟩
noncomputable def isL(o:Obj):Bool:=match o.cls with
 |.type n=>n=="list"
 |_=>false
def b1n(K:PySem.W.Frag):Bool:=K.all fun p=>!isL p.2
theorem b3Z{K:PySem.W.Frag}(h:b1n K=true){a:Addr}{o:Obj}(e:K.lookup a=some o):o.cls≠.type "list":=by
 intro z
 have hm:∃b,(b,o)∈K:=by
  clear h
  induction K with
  |nil=>cases e
  |cons p r ih=>
   rw[lookup_cons] at e
   split at e
   · cases e;exact⟨p.1,bh⟩
   · obtain⟨b,hb⟩:=ih e;exact⟨b,aD _ hb⟩
 obtain⟨b,hb⟩:=hm
 have:=bv.mp h (b,o) hb
 unfold isL at this
 simp only at this
 rw[z] at this
 simp at this
theorem a5R(m:List Addr)(H:Hp):∀ns:List Int,Rps m H (ns.map D.int) (ns.map V.int)
 |[]=>rfl
 |n::r=>⟨_,_,rfl,rfl,a5R m H r⟩
theorem b6I{K:PySem.W.Frag}{H:Hp}{a:Addr}{ns:List Int}(LT:∀ns:List Int,ns.length<=63->∃h',b0 ct F 20 222 [.ref 0] [.rol (ns.map .int)]=.ok (.bl true) h')(nl:b1n K=true)(hl:ns.length<=63)(hO:b2S H)(hS:SqL K H a (ns.map V.int)):
 spK K [.ref a] H (fun v _=>v=.bl true) fun _ _ _=>False:=by
 intro cA;obtain⟨h',e⟩:=LT ns hl
 have hf:∃o,H a=some (.frz o (.lst (ns.map V.int))):=by
  rcases hS with hS|⟨o,its,n,hk,hc,_⟩
  · rcases hS with hS|hS
    · rcases hO a with z|⟨o,xs,z⟩
      · rw[hS] at z;cases z
      · rw[hS] at z;cases z
    · exact hS
  · exact absurd hc (b3Z nl hk)
 refine⟨[.ref 0],[.rol (ns.map .int)],[a],rfl,⟨_,_,rfl,⟨a,rfl,rfl⟩,rfl⟩,⟨rfl,by simp,fun n b c hn hc=>?_⟩,?_⟩
 · cases n with
   |zero=>
    cases hn;cases hc;obtain⟨o,hf⟩:=hf;exact⟨_,hS,a5R _ _ _,o,hf⟩
   |succ n=>simp at hn
 · rw[e];exact fun m' H' v _ _ _ rv=>rv
end K42
namespace EV
open PySem L2 L2T
noncomputable def O6:R Out->R D
 |.ok (.nx _) h=>.ok .non h
 |.ok (.rt d) h=>.ok d h
 |.no=>.no
theorem a0L:∀{a b:List Char},a.map Char.toNat=b.map Char.toNat->a=b
 |[],[],_=>rfl
 |[],_::_,h=>by simp at h
 |_::_,[],h=>by simp at h
 |x::xs,y::ys,h=>by
  rw[map_cons,map_cons] at h
  injection h with h1 h2
  rw[a0L h2,Char.ext (UInt32.toNat_inj.mp h1)]
theorem a4Q{a b:String}:(Str.ofString a=Str.ofString b)=(a=b):=propext ⟨fun h=>by
 rw[Str.ofString_eq_toList,Str.ofString_eq_toList] at h
 injection h with h
 have:=congrArg Array.toList h
 exact String.toList_inj.mp (a0L (by simpa using this)),fun h=>by rw[h]⟩
theorem sl1:(1<=SL)=True:=eq_true (by decide)
theorem sl2:(2<=SL)=True:=eq_true (by decide)
theorem sl3:(3<=SL)=True:=eq_true (by decide)
theorem sl4:(4<=SL)=True:=eq_true (by decide)
theorem sl5:(5<=SL)=True:=eq_true (by decide)
theorem sl6:(6<=SL)=True:=eq_true (by decide)
variable{env:t9}{h:AH}
theorem b3S:O6 (.ok (.nx env) h)=.ok .non h:=rfl
variable{d:D}
theorem b3R:O6 (.ok (.rt d) h)=.ok d h:=rfl
theorem b3T:O6 .no=.no:=rfl
structure PF(F:Nat->Option Fn):Prop where
 f1:F 1=some W9
 f2:F 2=some a0D
 f3:F 3=some a0E
 f4:F 4=some S9
 f5:F 5=some C9
 f6:F 6=some M6
 f7:F 7=some M4
 f8:F 8=some a1T
 f9:F 9=some a0m
 f10:F 10=some E9
 f11:F 11=some a0n
 f12:F 12=some S8
 f13:F 13=some C8
 f14:F 14=some T0
 f15:F 15=some N9
 f16:F 16=some a0B
 f17:F 17=some N5
 f18:F 18=some G7
 f19:F 19=some S7
 f20:F 20=some N6
 f21:F 21=some E1
 f22:F 22=some L6
 f23:F 23=some X0
 f24:F 24=some N7
 f25:F 25=some K0
 f26:F 26=some a0k
 f27:F 27=some M5
 f28:F 28=some X1
 f29:F 29=some a0l
 f30:F 30=some a0Z
 f31:F 31=some a0Y
 f32:F 32=some M1
variable{n:Nat}{ds:List D}{p:Pat}{c:CF}{l:List D}{α:Type}{g:AH}{r:R D}{i:Nat}{o:B}{f:Str}{neg:Bool}{kvs:List (D×D)}{u:Ss}{it:I}{h1:AH}
section
variable{ct:CT}{F:Nat->Option Fn}
theorem l7{f:Nat}{fd:Fn}(hF:F f=some fd)(hl:ds.length=fd.np):b0 ct F (n+1) f ds h=gcR fd.gc h (O6 (exs ct (b0 ct F n) fd.body (ds.map some++List.replicate (fd.ns-fd.np) none) h)):=by
 show(match F f with
  |none=>R.no
  |some fd=>if ds.length=fd.np then gcR fd.gc h (match exs ct (b0 ct F n) fd.body (ds.map some++List.replicate (fd.ns-fd.np) none) h with
   |.ok (.nx _) h'=>.ok .non h'
   |.ok (.rt d) h'=>.ok d h'
   |.no=>.no) else .no)=_
 rw[hF]
 simp only
 rw[ay hl];generalize exs ct (b0 ct F n) fd.body (ds.map some++List.replicate (fd.ns-fd.np) none) h=r
 cases r with
 |ok o h=>cases o<;>rfl
 |no=>rfl
theorem a1c{g:List (Nat×Cell)}{p:Pat}{t:t9->AH->R Bool}{e:t9->AH->R D}{env0:t9}{h:AH}(hg:gOk g h=true)(B:D->Bool)(f:D->D)(env:D->t9):
 ∀(l acc:List D),(∀x∈l,J2 p x env0=some (env x)/\t (env x) h=.ok (B x) h/\(B x=true->e (env x) h=.ok (f x) h))->acc.length+l.length<=SL->T2 g p t e env0 l acc h=.ok (acc++(l.filter B).map f) h
 |[],acc,_,_=>by rw[T2,ay hg];simp
 | x::r,acc,hx,hl=>by
  obtain⟨h1,h2,h3⟩:=hx x bh;have ih:=fun acc' hl'=>a1c hg B f env r acc' (fun y hy=>hx y (aD _ hy)) hl'
  rw[T2,ay hg,h1]
  simp only
  rw[h2,b8];rw[length_cons] at hl
  cases hb:B x with
  |true=>
   rw[ay rfl,h3 hb,b8,ay (by omega),ih _ (by simp;omega),List.filter_cons_of_pos hb]
   simp
  |false=>
   rw[az (by simp),ih _ (by omega),List.filter_cons_of_neg (by simp[hb])]
theorem a9M{g:List (Nat×Cell)}{e:t9->AH->R D}{env0:t9}(hg:gOk g h=true)(f:D->D)(env:D->t9)(l:List D)(hx:∀x∈l,J2 p x env0=some (env x)/\e (env x) h=.ok (f x) h)(hl:l.length<=SL):
 T2 g p (tst ct c .yes) e env0 l [] h=.ok (l.map f) h:=by
 have:=a1c (t:=tst ct c .yes) hg (fun _=>true) f env l [] (fun x hx'=>⟨(hx x hx').1,by simp only[tst],fun _=>(hx x hx').2⟩) (by simpa using hl)
 rw[this,List.filter_eq_self.mpr (fun _ _=>rfl),nil_append]
theorem a6G{α:Type}(P:α->Bool):∀l:List α,a6H (l.map fun x=>D.bl (P x))=some (l.map P)
 |[]=>rfl
 |x::r=>by rw[map_cons,a6H,a6G P r];rfl
theorem a1G:∀l:List Str,a2I (l.map D.str)=some l
 |[]=>rfl
 |x::r=>by rw[map_cons,a2I,a1G r];rfl
theorem a2u:rdL (h++[.lst l]) h.length=some l:=by
 unfold rdL;simp
theorem b6{c:Cell}:(h++[c])[h.length]? =some c:=by simp
theorem a5z{P:α->Bool}{l:List α}:biD .all (h++[.lst (l.map fun x=>D.bl (P x))]) [.ref h.length]=.ok (.bl (l.all P)) (h++[.lst (l.map fun x=>D.bl (P x))]):=by
 simp only[biD,b6,a2u,a6G];congr 2;simp[all_map]
theorem gc1(hd:d.flat=true):gcR 1 h (.ok d (h++g))=.ok d h:=by
 unfold gcR
 simp only
 rw[az (by decide)]
 simp[hd]
theorem J9(hd:d.flat=true):gcR 1 h (.ok d h)=.ok d h:=by
 have:=gc1 (h:=h) (g:=[]) hd
 simpa using this
theorem gc0:gcR 0 h r=r:=by
 cases r<;>rfl
noncomputable def L3(row:Str):List Str:=(Txt.split row " ").filter fun w=>decide (w≠"")
theorem a2a(c:Nat):∀cs:List Nat,∃ps:List (List Nat),ps≠[]/\(∀p∈ps,c∉p)/\jn c ps=cs
 |[]=>⟨[[]],by simp,by simp,rfl⟩
 | x ::cs=>by
  obtain⟨ps,h1,h2,h3⟩:=a2a c cs
  by_cases hx:x=c
  · subst hx;refine⟨[]::ps,by simp,fun p hp=>?_,?_⟩
    · rcases aE.mp hp with rfl|hp
      · simp
      · exact h2 p hp
    · cases ps with
      |nil=>exact absurd rfl h1
      |cons p r=>rw[←h3];rfl
  · cases ps with
    |nil=>exact absurd rfl h1
    |cons p r=>
     refine⟨(x::p)::r,by simp,fun q hq=>?_,?_⟩
     · rcases aE.mp hq with rfl|hq
       · intro hc
         rcases aE.mp hc with e|e
         · exact hx e.symm
         · exact h2 p bh e
       · exact h2 q (aD _ hq)
     · rw[←h3]
       cases r<;>rfl
theorem b1B(c:Nat):∀ps:List (List Nat),ps.length<=(jn c ps).length+1
 |[]=>by simp
 |[x]=>by simp
 |x::y::r=>by
  have:=b1B c (y::r)
  show(y::r).length+1<=(x++c::jn c (y::r)).length+1
  simp only[ap,length_cons] at this⊢;omega
theorem a8X(x:Str)(c:Nat):(Txt.split x ⟨#[c]⟩).length<=x.length+1:=by
 obtain⟨ps,h1,h2,h3⟩:=a2a c (cd x)
 have e:(ps.map fun p=>(⟨p.toArray⟩:Str)).map cd=ps:=by
  rw[aH];refine List.map_id'' (fun p=>?_) ps
  simp[cd]
 rw[a2K (ps:=ps.map fun p=>(⟨p.toArray⟩:Str)) (by simpa using h1) (fun p hp=>by
  obtain⟨q,hq,rfl⟩:=ak.mp hp
  simpa [cd] using h2 q hq) (by rw[e,h3]),aa,←r8,←h3]
 exact b1B c ps
theorem I0:∀l:List Str,D.flats (l.map D.str)=true
 |[]=>rfl
 |x::r=>by rw[map_cons,D.flats,I0 r];rfl
section
variable{a b e:E}{t:T}
theorem b7l:ev ct c (.v i) env h=(match env[i]? with
 |some (some d)=>.ok d h
 |_=>.no):=by(rw[ev];try rfl)
theorem c1q:ev ct c (.k d) env h=.ok d h:=by(rw[ev];try rfl)
theorem b7t:ev ct c (.bin o a b) env h=(ev ct c a env h).bind fun x h1=>(ev ct c b env h1).bind fun y h2=>op2 o h2 x y:=by(rw[ev];try rfl)
theorem b7p:ev ct c (.isN a) env h=(ev ct c a env h).bind fun x h1=>.ok (.bl (decide (x=.non))) h1:=by(rw[ev];try rfl)
theorem b4F:ev ct c (.notN a) env h=(ev ct c a env h).bind fun x h1=>.ok (.bl (!decide (x=.non))) h1:=by(rw[ev];try rfl)
theorem b9D:ev ct c (.nt a) env h=(asB (ev ct c a env h)).bind fun b h1=>.ok (.bl (!b)) h1:=by(rw[ev];try rfl)
theorem b9I:ev ct c (.an a b) env h=(asB (ev ct c a env h)).bind fun x h1=>if x=true then ev ct c b env h1 else .ok (.bl false) h1:=by(rw[ev];try rfl)
theorem b7n:ev ct c (.orr a b) env h=(asB (ev ct c a env h)).bind fun x h1=>if x=true then .ok (.bl true) h1 else ev ct c b env h1:=by(rw[ev];try rfl)
theorem b7s{p:B}:ev ct c (.chn o p a b e) env h=(ev ct c a env h).bind fun x h1=>(ev ct c b env h1).bind fun y h2=>(asB (op2 o h2 x y)).bind fun k h3=>if k=true then(ev ct c e env h3).bind fun z h4=>op2 p h4 y z else .ok (.bl false) h3:=by(rw[ev];try rfl)
theorem b9G:ev ct c (.ix a b) env h=(ev ct c a env h).bind fun x h1=>(ev ct c b env h1).bind fun y h2=>ixD h2 x y:=by(rw[ev];try rfl)
theorem b9C{lo hi:O}:ev ct c (.sl a lo hi) env h=(ev ct c a env h).bind fun x h1=>(evo ct c lo env h1).bind fun l h2=>(evo ct c hi env h2).bind fun u h3=>slD h3 l u x:=by(rw[ev];try rfl)
theorem b7r:ev ct c (.fld a f) env h=(ev ct c a env h).bind fun x h1=>a0j h1 f x:=by(rw[ev];try rfl)
theorem b2o{es:Es}:ev ct c (.lst es) env h=(evs ct c es env h).bind fun ds h1=>if ds.length<=SL then o9 (.lst ds) h1 else .no:=by(rw[ev];try rfl)
theorem b7m{es:Es}:ev ct c (.tup es) env h=(evs ct c es env h).bind fun ds h1=>if ds.length<=SL then .ok (.tup ds) h1 else .no:=by(rw[ev];try rfl)
theorem b4I:ev ct c .dnew env h=o9 (.dict []) h:=by(rw[ev];try rfl)
theorem b7o:ev ct c (.neg a) env h=(ev ct c a env h).bind fun x h1=>(match x with
 |.int i=>.ok (.int (-i)) h1
 |_=>.no):=by(rw[ev];try rfl)
theorem b4L{f:Nat}{es:Es}:ev ct c (.call f es) env h=(evs ct c es env h).bind fun ds h1=>c f ds h1:=by(rw[ev];try rfl)
theorem b9F{k:Nat}{es:Es}:ev ct c (.mk k es) env h=(evs ct c es env h).bind fun ds h1=>(c (ct.init k) (.ref h1.length::ds) (h1++[.obj k []])).bind fun r h2=>(match r with
 |.non=>.ok (.ref h1.length) h2
 |_=>.no):=by(rw[ev];try rfl)
theorem b9H{b:Bi}{es:Es}:ev ct c (.bi b es) env h=(evs ct c es env h).bind fun ds h1=>biD b h1 ds:=by(rw[ev];try rfl)
theorem b9E{b:Mt}{o:E}{es:Es}:ev ct c (.mt b o es) env h=(ev ct c o env h).bind fun x h1=>if mtT b h1 x=true then(evs ct c es env h1).bind fun ds h2=>mtD b h2 x ds else .no:=by(rw[ev];try rfl)
theorem b7q:ev ct c (.gin neg a ds) env h=(ev ct c a env h).bind fun x h1=>if B7 x=true/\ds.all B7=true then .ok (.bl (inD x ds !=neg)) h1 else .no:=by(rw[ev];try rfl)
theorem b4H:ev ct c (.gdin neg a kvs) env h=(ev ct c a env h).bind fun x h1=>if(G2 x).isSome=true then .ok (.bl ((n9 kvs x).isSome !=neg)) h1 else .no:=by(rw[ev];try rfl)
theorem b4G:ev ct c (.gdix a kvs) env h=(ev ct c a env h).bind fun x h1=>if(G2 x).isSome=true then(match n9 kvs x with
 |some d=>.ok d h1
 |none=>.no) else .no:=by(rw[ev];try rfl)
theorem b4C:evs ct c .nil env h=.ok [] h:=by(rw[evs];try rfl)
theorem b2k{r:Es}:evs ct c (.cons e r) env h=(ev ct c e env h).bind fun d h1=>(evs ct c r env h1).bind fun ds h2=>.ok (d::ds) h2:=by(rw[evs];try rfl)
theorem a7D:tst ct c .yes env h=.ok true h:=by(rw[tst];try rfl)
theorem b3b:tst ct c (.val e) env h=asB (ev ct c e env h):=by(rw[tst];try rfl)
theorem b3d:tst ct c (.cmp o a b) env h=asB ((ev ct c a env h).bind fun x h1=>(ev ct c b env h1).bind fun y h2=>op2 o h2 x y):=by(rw[tst];try rfl)
theorem b3c:tst ct c (.isN a) env h=(ev ct c a env h).bind fun x h1=>.ok (decide (x=.non)) h1:=by(rw[tst];try rfl)
theorem a9Z:tst ct c (.notN a) env h=(ev ct c a env h).bind fun x h1=>.ok (!decide (x=.non)) h1:=by(rw[tst];try rfl)
theorem b3e{p:B}:tst ct c (.chn o p a b e) env h=asB ((ev ct c a env h).bind fun x h1=>(ev ct c b env h1).bind fun y h2=>(asB (op2 o h2 x y)).bind fun k h3=>if k=true then(ev ct c e env h3).bind fun z h4=>op2 p h4 y z else .ok (.bl false) h3):=by(rw[tst];try rfl)
theorem b5A{u:T}:tst ct c (.an t u) env h=(tst ct c t env h).bind fun x h1=>if x=true then tst ct c u env h1 else .ok false h1:=by(rw[tst];try rfl)
theorem a4w{u:T}:tst ct c (.orr t u) env h=(tst ct c t env h).bind fun x h1=>if x=true then .ok true h1 else tst ct c u env h1:=by(rw[tst];try rfl)
theorem b5z:tst ct c (.nt t) env h=(tst ct c t env h).bind fun x h1=>.ok (!x) h1:=by(rw[tst];try rfl)
theorem b7j:evo ct c .no env h=.ok none h:=by(rw[evo];try rfl)
theorem b7k:evo ct c (.at e) env h=a8n (ev ct c e env h):=by(rw[evo];try rfl)
theorem b4l{i:Int}:a8n (.ok (.int i) h)=.ok (some i) h:=rfl
theorem a0t{b:Bool}:asB (.ok (.bl b) h)=.ok b h:=rfl
theorem a0F:evi ct c (.seq e) env h=(ev ct c e env h).bind fun d h1=>V5 h1 d:=by(rw[evi];try rfl)
theorem b2m:evi ct c (.enum e) env h=(ev ct c e env h).bind fun d h1=>Y7 h1 d:=by(rw[evi];try rfl)
theorem a6t:evi ct c (.rng1 a) env h=(ev ct c a env h).bind fun d h1=>a6Y h1 (.int 0) d:=by(rw[evi];try rfl)
theorem b4D:evi ct c (.zip a b) env h=(ev ct c a env h).bind fun x h1=>(ev ct c b env h1).bind fun y h2=>b2T h2 x y:=by(rw[evi];try rfl)
theorem b2h:ex ct c (.set i e) env h=(ev ct c e env h).bind fun d h1=>.ok (.nx (env.set i (some d))) h1:=by(rw[ex];try rfl)
theorem b2j:ex ct c (.ex e) env h=(ev ct c e env h).bind fun _ h1=>.ok (.nx env) h1:=by(rw[ex];try rfl)
theorem b2i:ex ct c (.ret e) env h=(ev ct c e env h).bind fun d h1=>.ok (.rt d) h1:=by(rw[ex];try rfl)
theorem a3l{v:Ss}:ex ct c (.iff t u v) env h=(tst ct c t env h).bind fun x h1=>if x=true then exs ct c u env h1 else exs ct c v env h1:=by(rw[ex];try rfl)
theorem a5l:ex ct c (.for p it u) env h=(evi ct c it env h).bind fun x h1=>Z0 x.2 p (exs ct c u) x.1 env h1:=by(rw[ex];try rfl)
theorem b7h{i v:E}:ex ct c (.six a i v) env h=(ev ct c v env h).bind fun x h1=>(ev ct c a env h1).bind fun o h2=>(ev ct c i env h2).bind fun k h3=>(O5 h3 o k x).bind fun _ h4=>.ok (.nx env) h4:=by(rw[ex];try rfl)
theorem b7i{v:E}:ex ct c (.sfl a f v) env h=(ev ct c v env h).bind fun x h1=>(ev ct c a env h1).bind fun o h2=>(a4E h2 o f x).bind fun _ h3=>.ok (.nx env) h3:=by(rw[ex];try rfl)
theorem a2z:exs ct c .nil env h=.ok (.nx env) h:=by(rw[exs];try rfl)
theorem O9{s:S}{r:Ss}:exs ct c (.cons s r) env h=(ex ct c s env h).bind fun o h1=>(match o with
 |.nx env'=>exs ct c r env' h1
 |.rt d=>.ok (.rt d) h1):=by(rw[exs];try rfl)
theorem a5n{fr:List Nat}{x:Its}{h2:AH}(hi:evi ct c it env h=.ok x h1)(hc:T2 x.2 p (tst ct c t) (ev ct c e) (B0 n fr env) x.1 [] h1=.ok ds h2):ev ct c (.comp p it n fr t e) env h=.ok (.ref h2.length) (h2++[.lst ds]):=by
 rw[ev,hi,b8,hc];rfl
end
section
variable{e:E}{t:T}
theorem K1{fr:List Nat}{g:List (Nat×Cell)}(hi:evi ct c it env h=.ok (l,g) h1)(hg:gOk g h1=true)(B:D->Bool)(f:D->D)(envf:D->t9)
 (hx:∀x∈l,J2 p x (B0 n fr env)=some (envf x)/\tst ct c t (envf x) h1=.ok (B x) h1/\(B x=true->ev ct c e (envf x) h1=.ok (f x) h1)) (hl:l.length<=SL):ev ct c (.comp p it n fr t e) env h=.ok (.ref h1.length) (h1++[.lst ((l.filter B).map f)]):=
 a5n (x:=(l,g)) hi (a1c hg B f envf l [] hx (by simpa using hl))
theorem A9{fr:List Nat}{g:List (Nat×Cell)}(hi:evi ct c it env h=.ok (l,g) h1)(hg:gOk g h1=true)(f:D->D)(envf:D->t9)
 (hx:∀x∈l,J2 p x (B0 n fr env)=some (envf x)/\ev ct c e (envf x) h1=.ok (f x) h1) (hl:l.length<=SL):ev ct c (.comp p it n fr .yes e) env h=.ok (.ref h1.length) (h1++[.lst (l.map f)]):=
 a5n (x:=(l,g)) hi (a9M hg f envf l hx hl)
end
theorem gc2{k:Nat}{c:Cell}(hk:(h++g)[k]? =some c)(hl:h.length<=k)(hc:c.flat=true):gcR 2 h (.ok (.ref k) (h++g))=.ok (.ref h.length) (h++[c]):=by
 unfold gcR;simp only[hk];simp[hl,hc]
end
end EV
local macro_rules
  | `(tactic| simp_arith [$ls,*]) => `(tactic| simp only [EV.b7l, EV.c1q, EV.b7t, EV.b7p, EV.b4F, EV.b9D, EV.b9I, EV.b7n, EV.b7s, EV.b9G, EV.b9C, EV.b7r, EV.b2o, EV.b7m, EV.b4I, EV.b7o, EV.b4L, EV.b9F, EV.b9H, EV.b9E, EV.b7q, EV.b4H, EV.b4G, EV.b4C, EV.b2k, EV.a7D, EV.b3b, EV.b3d, EV.b3c, EV.a9Z, EV.b3e, EV.b5A, EV.a4w, EV.b5z, EV.b7j, EV.b7k, EV.b4l, EV.a0t, EV.a0F, EV.b2m, EV.a6t, EV.b4D, EV.b2h, EV.b2j, EV.b2i, EV.a3l, EV.a5l, EV.b7h, EV.b7i, EV.a2z, EV.O9, EV.b8, EV.b5d,
      map_cons, map_nil, cons_append, nil_append, List.getElem?_cons_zero, List.getElem?_cons_succ, List.set_cons_zero, List.set_cons_succ, List.replicate, length_cons, length_nil, if_true, if_false, Bool.false_eq_true, Bool.true_eq_false, EV.b3R, EV.b3S, EV.b3T, Nat.reduceSub, Nat.reduceAdd, Nat.reduceLT, aB, Nat.zero_le, EV.a4Q, String.reduceEq, EV.sl1, EV.sl2, EV.sl3, EV.sl4, EV.sl5, EV.sl6, $ls,*])
namespace EV
open PySem L2 L2T
variable{z:Str}{i:Nat}{h:AH}{xs:List D}{w:Nat}{d:D}{n:Nat}{row:Str}{id:Nat}{ws:List Str}
section
variable{ct:CT}{F:Nat->Option Fn}
noncomputable def due(a b c:Bool):Option Str:=if a then some "twice" else if !b then some "name" else if c then some "many" else none
noncomputable def Z1:Option Str->D
 |some x=>.str x
 |none=>.non
theorem a0r(o:Option Str):decide (Z1 o=.non)=o.isNone:=by cases o<;>simp[Z1]
theorem a0q{a b c:Bool}(h:due a b c=none):a=false/\b=true/\c=false:=by
 cases a<;>cases b<;>cases c<;>simp[due] at h⊢
theorem a6U{c:Nat}:Txt.startswith z ⟨#[c]⟩=decide ((cd z).head? =some c):=by
 have:=StrLaws.subAt_one z c 0
 unfold Txt.startswith;rw[Bool.eq_iff_iff,ae,decide_eq_true_iff,this,decide_eq_true_iff]
 show(cd z)[0]? =some c↔_
 rw[List.head?_eq_getElem?]
theorem b0n(z:Str)(h:1<=z.length):Txt.slice z (some 1) none=tl z:=by
 rw[PyProof.Rows.slice_from_eq (b:=z.length) (by decide) (by omega) rfl]
 unfold tl;congr 2
 have:(z.cps.toList.drop 1).length=z.length-1:=by rw[bH,show z.cps.toList.length=z.length from r8 z]
 show List.take ((z.length:Int)-1).toNat (List.drop 1 z.cps.toList)=_
 exact bq (by omega)
theorem ix_str{c:Nat}(hl:z.length<=SL)(hc:(cd z)[i]? =some c):ixD h (.str z) (.int (i:Nat))=.ok (.str ⟨#[c]⟩) h:=by
 have hi:=(ac.mp hc).1
 have:atI z.cps.toList (i:Int)=some c:=by
  show(ixN (cd z).length (i:Int)).bind (fun j=>(cd z)[j]?)=some c
  have e:ixN (cd z).length (i:Int)=some i:=by
   unfold ixN;rw[ay (by omega),ay (by omega)]
   simp
  rw[e];exact hc
 simp only[ixD,ay hl,this]
theorem B6(hw:h[w]? =some (.lst xs))(hd:xs[i]? =some d):ixD h (.ref w) (.int (i:Nat))=.ok d h:=by
 have hi:=(ac.mp hd).1
 have:atI xs (i:Int)=some d:=by
  show(ixN xs.length (i:Int)).bind (fun j=>xs[j]?)=some d
  have e:ixN xs.length (i:Int)=some i:=by
   unfold ixN;rw[ay (by omega),ay (by omega)]
   simp
  rw[e];exact hd
 simp only[ixD,hw,this]
variable(W:PF F)
include W
theorem a5F(hr:row.length<=100000):b0 ct F (n+1) 1 [.str row] h=.ok (.ref h.length) (h++[.lst ((L3 row).map .str)]):=by
 rw[l7 W.f1 rfl]
 have hs:(Txt.split row " ").length<=SL:=aR (a8X row 32) (by show _<=16777216;omega)
 simp only[W9];simp_arith[];rw[K1 (l:=(Txt.split row " ").map D.str) (g:=[(h.length,.lst ((Txt.split row " ").map D.str))]) (h1:=h++[.lst ((Txt.split row " ").map D.str)]) ?_ (by simp[gOk]) (fun d=>match d with|.str w=>decide (w≠"")|_=>false) id (fun d=>[some d]) ?_ (by simpa using hs)]
 · simp_arith[]
   have e:List.map id (List.filter (fun d=>match d with|D.str w=>decide (w≠"")|_=>false) ((Txt.split row " ").map D.str))=(L3 row).map D.str:=by
    rw[map_id,filter_map];rfl
   rw[e,aA];exact gc2 (by simp) (by simp) (I0 _)
 · simp_arith[mtT,mtD,o9];rw[ay ⟨by decide,by show _<=16777216;omega⟩]
   simp only[b8,V5,b6]
 · intro x hx;obtain⟨w,_,rfl⟩:=ak.mp hx;refine⟨rfl,?_,fun _=>?_⟩
   · simp_arith[op2,a1p,eqS];simp
   · simp_arith[id]
theorem a3e{g:Str}(hz:z.length<=100000):b0 ct F (n+1) 2 [.str z,.str g] h=.ok (.bl ((cd z).all fun c=>decide (c∈cd g))) h:=by
 rw[l7 W.f2 rfl];simp only[a0D];simp_arith[];rw[A9 (l:=Y1 z) (g:=[]) (h1:=h) ?_ (by simp[gOk]) (fun d=>match d with|.str w=>.bl (a4R w g)|_=>.non) (fun d=>[some d,some (.str g)]) ?_ (by unfold Y1;rw[aa,show z.cps.toList.length=z.length from r8 z];show _<=16777216;omega)]
 · have e:(Y1 z).map (fun d=>match d with|D.str w=>D.bl (a4R w g)|_=>D.non)=(cd z).map fun c=>D.bl (decide (c∈cd g)):=by
    unfold Y1;rw[aH];refine bf fun c _=>?_
    simp only[Function.comp,a4R];rw[StrLaws.found_one]
   rw[e];simp_arith[a5z];exact gc1 rfl
 · simp_arith[V5]
 · intro x hx;unfold Y1 at hx;obtain⟨w,_,rfl⟩:=ak.mp hx;refine⟨rfl,?_⟩
   simp_arith[op2,V9];simp
theorem L1(hz:z.length<=100000):b0 ct F (n+2) 3 [.str z] h=.ok (.bl (l0 z)) h:=by
 rw[l7 W.f3 rfl];simp only[a0E]
 have hl:z.length<=SL:=by show _<=16777216;omega
 simp_arith[biD,ay hl,op2,E4,a3e W hz]
 have e:l0 z=(decide ((1:Int)<=(z.length:Int))&&(decide ((z.length:Int)<=12)&&(cd z).all O7)):=by
  unfold l0;rw[Bool.and_assoc];congr 1
  · exact decide_eq_decide.mpr (by omega)
  · congr 1;exact decide_eq_decide.mpr (by omega)
 rw[e]
 by_cases h1:(1:Int)<=(z.length:Int)
 · by_cases h2:(z.length:Int)<=12
   · simp only[h1,h2,decide_true,if_true,Bool.true_and,b8,a0t];exact J9 rfl
   · simp only[h1,h2,decide_true,decide_false,if_true,Bool.true_and,Bool.false_and,b8,a0t,Bool.false_eq_true,if_false];exact J9 rfl
 · simp only[h1,decide_false,Bool.false_and,b8,a0t,Bool.false_eq_true,if_false];exact J9 rfl
theorem J8(hz:z.length<=100000):b0 ct F (n+2) 4 [.str z] h=.ok (.bl (a2c z)) h:=by
 rw[l7 W.f4 rfl];simp only[S9]
 have hl:z.length<=SL:=by show _<=16777216;omega
 have hm:∀h,b0 ct F (n+1) 2 [.str z,.str "0123456789"] h=.ok (.bl ((cd z).all Q8)) h:=fun h=>a3e W hz
 simp_arith[biD,ay hl,op2,E4,hm]
 have e:a2c z=(decide ((1:Int)<=(z.length:Int))&&(decide ((z.length:Int)<=5)&&((cd z).all Q8&&(decide (z="0")||!decide ((cd z).head? =some 48))))):=by
  unfold a2c;rw[Bool.and_assoc,Bool.and_assoc];congr 1
  · exact decide_eq_decide.mpr (by omega)
  · congr 1;exact decide_eq_decide.mpr (by omega)
 rw[e]
 by_cases h1:(1:Int)<=(z.length:Int)
 · by_cases h2:(z.length:Int)<=5
   · simp_arith[hm,h1,h2,decide_true,if_true,Bool.true_and,b8,a0t,Bool.not_true,Bool.false_eq_true,if_false,op2]
     cases hf:(cd z).all Q8 with
     |false=>
      simp_arith[hm,Bool.not_false,if_true,Bool.false_and,b8,op2];exact J9 rfl
     | true=>
      obtain⟨c,r,hc⟩:∃c r,cd z=c::r:=by
       cases hq:cd z with
       |nil=>have:=r8 z;rw[hq] at this;simp at this;omega
       |cons c r=>exact⟨c,r,rfl⟩
      have hix:ixD h (.str z) (.int 0)=.ok (.str ⟨#[c]⟩) h:=ix_str (i:=0) hl (by rw[hc];rfl)
      have h0:decide ((⟨#[c]⟩:Str)="0")=decide ((cd z).head? =some 48):=by
       rw[hc];refine decide_eq_decide.mpr ?_
       rw[show(Str.ofString "0")=⟨#[48]⟩ from rfl];simp
      simp_arith[hm,Bool.not_true,Bool.false_eq_true,if_false,Bool.true_and,b8,K4,a1p,eqS,a0t,hix,h0,op2]
      cases hz0:decide (z="0") with
      |true=>
       simp_arith[hm,if_true,Bool.true_or,op2];exact J9 rfl
      |false=>
       simp_arith[hm,Bool.false_eq_true,if_false,Bool.false_or,op2];exact J9 rfl
   · simp_arith[hm,h1,h2,decide_true,decide_false,if_true,Bool.true_and,Bool.false_and,b8,a0t,Bool.false_eq_true,if_false,Bool.not_false,op2];exact J9 rfl
 · simp_arith[hm,h1,decide_false,Bool.false_and,b8,a0t,Bool.false_eq_true,if_false,Bool.not_false,if_true,op2];exact J9 rfl
theorem a5b(hz:z.length<=100000):b0 ct F (n+3) 5 [.str z] h=.ok (.bl (a3O z)) h:=by
 rw[l7 W.f5 rfl];simp only[C9]
 have hl:z.length<=SL:=by show _<=16777216;omega
 have hst:Txt.startswith z "-"=decide ((cd z).head? =some 45):=a6U
 simp_arith[mtT,mtD,op2,a1p,eqS,slD,ay hl,hst,J8 W hz];unfold a3O
 by_cases h1:(cd z).head? =some 45
 · have hl1:1<=z.length:=by
    rw[←r8]
    cases hq:cd z with
    |nil=>rw[hq] at h1;cases h1
    |cons c r=>simp
   have ht:(tl z).length<=100000:=by rw[←r8,a8L,bH,r8];omega
   simp_arith[h1,decide_true,if_true,b0n z hl1,J8 W ht,b8,J8 W hz]
   cases hz0:decide (z="-0") with
   |true=>
    simp_arith[Bool.not_true,Bool.false_eq_true,if_false,Bool.false_and];exact J9 rfl
   |false=>
    simp_arith[Bool.not_false,if_true,Bool.true_and];exact J9 rfl
 · simp_arith[h1,decide_false,Bool.false_eq_true,if_false,J8 W hz];exact J9 rfl
theorem C7{a b c:Bool}:b0 ct F (n+1) 14 [.bl a,.bl b,.bl c] h=.ok (Z1 (due a b c)) h:=by
 rw[l7 W.f14 rfl];simp only[T0];simp_arith[]
 cases a<;>cases b<;>cases c<;>exact J9 rfl
theorem a4u{k:Nat}{P:Str->Bool}{fd:Fn}(hF:F id=some fd)(hb:fd=⟨1,1,1,(.cons (.ret (.bi .all (.cons (.comp (.nm 0) (.seq (.v 0)) 1 [] .yes (.call k (.cons (.v 0) .nil))) .nil))) .nil)⟩)
 (hw:h[w]? =some (.lst (ws.map D.str))) (hl:ws.length<=SL) (hP:∀x∈ws,b0 ct F n k [.str x] h=.ok (.bl (P x)) h):b0 ct F (n+1) id [.ref w] h=.ok (.bl (ws.all P)) h:=by
  subst hb;rw[l7 hF rfl];simp_arith[];rw[A9 (l:=ws.map D.str) (g:=[(w,.lst (ws.map D.str))]) (h1:=h) ?_ (by simp[gOk,hw]) (fun d=>match d with|.str x=>.bl (P x)|_=>.non) (fun d=>[some d]) ?_ (by simpa using hl)]
  · have e:(ws.map D.str).map (fun d=>match d with|D.str x=>D.bl (P x)|_=>D.non)=ws.map fun x=>D.bl (P x):=by
      rw[aH];rfl
    rw[e];simp_arith[a5z];exact gc1 rfl
  · simp_arith[V5,hw]
  · intro x hx;obtain⟨y,hy,rfl⟩:=ak.mp hx;refine⟨rfl,?_⟩
    simp_arith[hP y hy]
theorem a1E(hw:h[w]? =some (.lst (ws.map D.str)))(hl:ws.length<=SL)(hs:∀x∈ws,x.length<=100000):b0 ct F (n+3) 9 [.ref w] h=.ok (.bl (ws.all l0)) h:=
 a4u (n:=n+2) W W.f9 rfl hw hl fun x hx=>L1 W (hs x hx)
theorem a3G(hw:h[w]? =some (.lst (ws.map D.str)))(hl:ws.length<=SL)(hs:∀x∈ws,x.length<=100000):b0 ct F (n+4) 10 [.ref w] h=.ok (.bl (ws.all a3O)) h:=
 a4u (n:=n+3) W W.f10 rfl hw hl fun x hx=>a5b W (hs x hx)
end
structure HD where
 shapes:List (Str×D):=[]
 marks:List (Str×D):=[]
 points:List ((Str×Str)×D):=[]
 letters:List (Str×D):=[]
 gaps:List Str:=[]
 classes:List (Str×D):=[]
 features:List (Str×D):=[]
 rules:List (Str×List D):=[]
noncomputable def kd(l:List (Str×D)):List (D×D):=l.map fun p=>(.str p.1,p.2)
noncomputable def pd(l:List ((Str×Str)×D)):List (D×D):=l.map fun p=>(.tup [.str p.1.1,.str p.1.2],p.2)
noncomputable def rd(l:List (Str×List D)):List D:=l.map fun r=>.tup (.str r.1::r.2)
noncomputable def a1Q(n:Nat):List (Str×D):=[("shapes",.ref (n+1)),("marks",.ref (n+2)),("points",.ref (n+3)),("letters",.ref (n+4)),("gaps",.ref (n+5)),("classes",.ref (n+6)),("features",.ref (n+7)),("rules",.ref (n+8))]
structure HallAt(h:AH)(n:Nat)(H:HD):Prop where
 o:h[n]? =some (.obj 6 (a1Q n))
 c1:h[n+1]? =some (.dict (kd H.shapes))
 c2:h[n+2]? =some (.dict (kd H.marks))
 c3:h[n+3]? =some (.dict (pd H.points))
 c4:h[n+4]? =some (.dict (kd H.letters))
 c5:h[n+5]? =some (.lst (H.gaps.map .str))
 c6:h[n+6]? =some (.dict (kd H.classes))
 c7:h[n+7]? =some (.dict (kd H.features))
 c8:h[n+8]? =some (.lst (rd H.rules))
structure Fr(n:Nat)(h h':AH):Prop where
 len:h.length<=h'.length
 get:∀i,i<h.length->(i<n∨n+8<i)->h'[i]? =h[i]?
theorem Fr.refl(n:Nat)(h:AH):Fr n h h:=⟨ai _,fun _ _ _=>rfl⟩
variable{h':AH}
theorem Fr.trans{h'':AH}(a:Fr n h h')(b:Fr n h' h''):Fr n h h'':=
 ⟨aR a.len b.len,fun i hi hn=>(b.get i (aC hi a.len) hn).trans (a.get i hi hn)⟩
theorem Fr.app(n:Nat)(h g:AH):Fr n h (h++g):=⟨by simp,fun i hi _=>av hi⟩
theorem Fr.set{k:Nat}{c:Cell}(h1:n<=k)(h2:k<=n+8):Fr n h (h.set k c):=⟨by simp,fun i hi hn=>List.getElem?_set_ne (by omega)⟩
variable{g:AH}
theorem b5{c:Cell}(e:h[i]? =some c):(h++g)[i]? =some c:=by
 rw[av (ac.mp e).1]
 exact e
theorem HallAt.app{H:HD}(A:HallAt h n H)(g:AH):HallAt (h++g) n H:=
 ⟨b5 A.o,b5 A.c1,b5 A.c2,b5 A.c3,b5 A.c4,b5 A.c5,b5 A.c6,b5 A.c7,b5 A.c8⟩
variable{c':Cell}
theorem b7{k:Nat}{c:Cell}(hne:k≠i)(e:h[i]? =some c):(h.set k c')[i]? =some c:=by
 rw[List.getElem?_set_ne hne]
 exact e
theorem u9{c:Cell}(e:h[i]? =some c):(h.set i c')[i]? =some c':=List.getElem?_set_self (ac.mp e).1
theorem HallAt.s1{H:HD}(A:HallAt h n H)(l:List (Str×D)):HallAt (h.set (n+1) (.dict (kd l))) n {H with shapes:=l}:=
 ⟨b7 (by omega) A.o,u9 A.c1,b7 (by omega) A.c2,b7 (by omega) A.c3,b7 (by omega) A.c4,b7 (by omega) A.c5,b7 (by omega) A.c6,b7 (by omega) A.c7,b7 (by omega) A.c8⟩
theorem HallAt.s2{H:HD}(A:HallAt h n H)(l:List (Str×D)):HallAt (h.set (n+2) (.dict (kd l))) n {H with marks:=l}:=
 ⟨b7 (by omega) A.o,b7 (by omega) A.c1,u9 A.c2,b7 (by omega) A.c3,b7 (by omega) A.c4,b7 (by omega) A.c5,b7 (by omega) A.c6,b7 (by omega) A.c7,b7 (by omega) A.c8⟩
theorem HallAt.s3{H:HD}(A:HallAt h n H)(l:List ((Str×Str)×D)):HallAt (h.set (n+3) (.dict (pd l))) n {H with points:=l}:=
 ⟨b7 (by omega) A.o,b7 (by omega) A.c1,b7 (by omega) A.c2,u9 A.c3,b7 (by omega) A.c4,b7 (by omega) A.c5,b7 (by omega) A.c6,b7 (by omega) A.c7,b7 (by omega) A.c8⟩
theorem HallAt.s4{H:HD}(A:HallAt h n H)(l:List (Str×D)):HallAt (h.set (n+4) (.dict (kd l))) n {H with letters:=l}:=
 ⟨b7 (by omega) A.o,b7 (by omega) A.c1,b7 (by omega) A.c2,b7 (by omega) A.c3,u9 A.c4,b7 (by omega) A.c5,b7 (by omega) A.c6,b7 (by omega) A.c7,b7 (by omega) A.c8⟩
theorem HallAt.s6{H:HD}(A:HallAt h n H)(l:List (Str×D)):HallAt (h.set (n+6) (.dict (kd l))) n {H with classes:=l}:=
 ⟨b7 (by omega) A.o,b7 (by omega) A.c1,b7 (by omega) A.c2,b7 (by omega) A.c3,b7 (by omega) A.c4,b7 (by omega) A.c5,u9 A.c6,b7 (by omega) A.c7,b7 (by omega) A.c8⟩
theorem HallAt.s7{H:HD}(A:HallAt h n H)(l:List (Str×D)):HallAt (h.set (n+7) (.dict (kd l))) n {H with features:=l}:=
 ⟨b7 (by omega) A.o,b7 (by omega) A.c1,b7 (by omega) A.c2,b7 (by omega) A.c3,b7 (by omega) A.c4,b7 (by omega) A.c5,b7 (by omega) A.c6,u9 A.c7,b7 (by omega) A.c8⟩
theorem HallAt.fld1{H:HD}(A:HallAt h n H):a0j h "shapes" (.ref n)=.ok (.ref (n+1)) h:=by simp only[a0j,A.o];rfl
theorem HallAt.fld2{H:HD}(A:HallAt h n H):a0j h "marks" (.ref n)=.ok (.ref (n+2)) h:=by simp only[a0j,A.o];rfl
theorem HallAt.fld3{H:HD}(A:HallAt h n H):a0j h "points" (.ref n)=.ok (.ref (n+3)) h:=by simp only[a0j,A.o];rfl
theorem HallAt.fld4{H:HD}(A:HallAt h n H):a0j h "letters" (.ref n)=.ok (.ref (n+4)) h:=by simp only[a0j,A.o];rfl
theorem HallAt.fld5{H:HD}(A:HallAt h n H):a0j h "gaps" (.ref n)=.ok (.ref (n+5)) h:=by simp only[a0j,A.o];rfl
theorem HallAt.fld6{H:HD}(A:HallAt h n H):a0j h "classes" (.ref n)=.ok (.ref (n+6)) h:=by simp only[a0j,A.o];rfl
theorem HallAt.fld7{H:HD}(A:HallAt h n H):a0j h "features" (.ref n)=.ok (.ref (n+7)) h:=by simp only[a0j,A.o];rfl
theorem W4(k:Str)(l:List (Str×D)):w8 (.str k) (kd l)=true:=by
 simp[w8,kd,G5]
theorem a4X(a b:Str)(l:List ((Str×Str)×D)):w8 (.tup [.str a,.str b]) (pd l)=true:=by
 simp[w8,pd,G5,E6,G2]
theorem a7r(k:Str):∀l:List (Str×D),(n9 (kd l) (.str k)).isSome=decide (k∈l.map (·.1))
 |[]=>rfl
 | p ::r=>by
  have ih:=a7r k r;unfold n9 kd at ih⊢;rw[map_cons,List.find?_cons]
  by_cases e:p.1=k
  · simp[e]
  · have e':¬(D.str p.1=D.str k):=fun z=>e (by injection z)
    simp only[e',decide_false];rw[ih]
    exact decide_eq_decide.mpr ⟨fun z=>by simp[z],fun z=>by
     rw[map_cons] at z
     rcases aE.mp z with z|z
     · exact absurd z.symm e
     · exact z⟩
theorem b1S(a b:Str):∀l:List ((Str×Str)×D),(n9 (pd l) (.tup [.str a,.str b])).isSome=decide ((a,b)∈l.map (·.1))
 |[]=>rfl
 | p ::r=>by
  have ih:=b1S a b r;unfold n9 pd at ih⊢;rw[map_cons,List.find?_cons]
  by_cases e:p.1=(a,b)
  · simp[e]
  · have e':¬(D.tup [.str p.1.1,.str p.1.2]=D.tup [.str a,.str b]):=fun z=>e (by
     injection z with z
     injection z with z1 z2
     injection z1 with z1
     injection z2 with z2
     injection z2 with z2
     exact Prod.ext z1 z2)
    simp only[e',decide_false];rw[ih]
    exact decide_eq_decide.mpr ⟨fun z=>by simp[z],fun z=>by
     rw[map_cons] at z
     rcases aE.mp z with z|z
     · exact absurd z.symm e
     · exact z⟩
theorem a6Z{k:Str}{l:List (Str×D)}(h:k∉l.map (·.1)):Y8 (kd l) (.str k) d=kd (l++[(k,d)]):=by
 unfold Y8;rw[az]
 · simp[kd]
 · intro z;rw[any_eq_true] at z;obtain⟨p,hp,e⟩:=z;unfold kd at hp;obtain⟨q,hq,rfl⟩:=ak.mp hp;have e:=aw e
   injection e with e
   exact h (ak.mpr ⟨q,hq,e⟩)
variable{a:Str}{b:Str}
theorem b5T{l:List ((Str×Str)×D)}(h:(a,b)∉l.map (·.1)):Y8 (pd l) (.tup [.str a,.str b]) d=pd (l++[((a,b),d)]):=by
 unfold Y8;rw[az]
 · simp[pd]
 · intro z;rw[any_eq_true] at z;obtain⟨p,hp,e⟩:=z;unfold pd at hp;obtain⟨q,hq,rfl⟩:=ak.mp hp;have e:=aw e
   injection e with e
   injection e with e1 e2
   injection e1 with e1
   injection e2 with e2
   injection e2 with e2
   exact h (ak.mpr ⟨q,hq,Prod.ext e1 e2⟩)
theorem a1v{l:List (Str×D)}{k:Str}(e:h[n]? =some (.dict (kd l))):V9 false h (.str k) (.ref n)=.ok (.bl (decide (k∈l.map (·.1)))) h:=by
 simp only[V9,e,W4,if_true,a7r];simp
theorem b9f{l:List ((Str×Str)×D)}(e:h[n]? =some (.dict (pd l))):V9 false h (.tup [.str a,.str b]) (.ref n)=.ok (.bl (decide ((a,b)∈l.map (·.1)))) h:=by
 simp only[V9,e,a4X,if_true,b1S];simp
theorem a4V{l:List (Str×D)}(e:h[n]? =some (.dict (kd l))):biD .len h [.ref n]=.ok (.int l.length) h:=by
 have:w8 (.int 0) (kd l)=true:=by simp[w8,kd,G5]
 simp only[biD,e,this,if_true];simp[kd]
variable{l:List D}
theorem z9(e:h[n]? =some (.lst l)):biD .len h [.ref n]=.ok (.int l.length) h:=by
 have:rdL h n=some l:=by unfold rdL;rw[e]
 simp only[biD,e,this]
section
variable{ct:CT}{F:Nat->Option Fn}(W:PF F)
include W
theorem b1N:b0 ct F (n+1) 32 [.ref h.length] (h++[.obj 6 []])=.ok .non (h++[.obj 6 (a1Q h.length),.dict [],.dict [],.dict [],.dict [],.lst [],.dict [],.dict [],.lst []]):=by
 rw[l7 W.f32 rfl];simp only[M1];rw[gc0]
 have hs:∀(x z:Cell) (t:AH),(h++x::t).set h.length z=h++z::t:=fun x z t=>by
  rw[set_append_right _ _ (ai _)];simp
 have hg:∀(x:Cell) (t:AH),(h++x::t)[h.length]? =some x:=fun x t=>by simp
 simp_arith[o9,a4E,hs,hg,aA,a3T];simp only[ap,length_cons,length_nil,a1Q]
end
theorem v7(i:Int)(k:Nat)(hi:i=(k:Nat))(hw:h[w]? =some (.lst xs))(hd:xs[k]? =some d):ixD h (.ref w) (.int i)=.ok d h:=by
 subst hi;exact B6 hw hd
theorem Z7{l:List (Str×D)}{k:Str}(e:h[n]? =some (.dict (kd l)))(hk:k∉l.map (·.1))(hl:l.length<SL):O5 h (.ref n) (.str k) d=.ok () (h.set n (.dict (kd (l++[(k,d)])))):=by
 simp only[O5,e];rw[ay ⟨W4 _ _,by simpa [kd] using hl⟩,a6Z hk]
theorem a9a{l:List ((Str×Str)×D)}(e:h[n]? =some (.dict (pd l)))(hk:(a,b)∉l.map (·.1))(hl:l.length<SL):O5 h (.ref n) (.tup [.str a,.str b]) d=.ok () (h.set n (.dict (pd (l++[((a,b),d)])))):=by
 simp only[O5,e];rw[ay ⟨a4X _ _ _,by simpa [pd] using hl⟩,b5T hk]
theorem a7n{v:Int}(hl:b.length<=640)(hv:intText? b=some v):biD .int h [.str b]=.ok (.int v) h:=by
 simp only[biD,ay hl,hv]
theorem V3(k:Nat)(xs:List D):U0 xs (some (k:Int)) none=xs.drop k:=by
 unfold U0 HT.sIx
 simp only
 rw[az (by omega)]
 show(xs.drop (min k xs.length)).take (xs.length-min k xs.length)=xs.drop k
 by_cases h:k<=xs.length
 · rw[bo h];exact bq (by simp)
 · rw[Nat.min_eq_right (by omega),drop_length,List.drop_of_length_le (by omega)];simp
theorem a1V(k l:Nat)(xs:List D)(hk:k<=l)(hl:l<=xs.length):U0 xs (some (k:Int)) (some (l:Int))=(xs.drop k).take (l-k):=by
 unfold U0 HT.sIx
 simp only
 rw[az (by omega),az (by omega)]
 show(xs.drop (min k xs.length)).take (min l xs.length-min k xs.length)=_
 rw[bo (show k<=xs.length by omega),bo hl]
theorem T7{lo hi:Option Int}(hw:h[w]? =some (.lst xs)):slD h lo hi (.ref w)=.ok (.ref h.length) (h++[.lst (U0 xs lo hi)]):=by
 have:rdL h w=some xs:=by unfold rdL;rw[hw]
 simp only[slD,this,o9]
theorem a2n(hw:h[w]? =some (.lst xs)):biD .tuple h [.ref w]=.ok (.tup xs) h:=by
 have:rdL h w=some xs:=by unfold rdL;rw[hw]
 simp only[biD,hw,this]
variable{x:Str}{wy:Str}
section
variable{ct:CT}{F:Nat->Option Fn}(W:PF F)
include W
theorem a3z{k:Nat}{H:HD}{v:Int}(A:HallAt h n H)(hw:h[w]? =some (.lst [.str x,.str a,.str b]))(ha:l0 a=true)(hal:a.length<=100000)(hb:U9 b=some v):
 b0 ct F (k+3) 17 [.ref n,.ref w] h=match due (decide (a∈H.shapes.map (·.1))) true (decide ((60:Int)<=(H.shapes.length:Int))) with
  |some f=>.ok (.str f) h
  |none=>.ok .non (h.set (n+1) (.dict (kd (H.shapes++[(a,.int v)])))):=by
 obtain⟨hv,hbl,_,_⟩:=a2x hb
 have hbn:a2c b=true:=by rw[a2X,hb];rfl
 rw[l7 W.f17 rfl];simp only[N5];rw[gc0];simp_arith[z9 hw,op2,a1p,eqS,v7 1 1 rfl hw rfl,v7 2 2 rfl hw rfl,L1 W hal,J8 W (show b.length<=100000 by omega),ha,hbn,A.fld1,a1v A.c1,a4V A.c1,E4,C7 W,a0r,a7n hbl hv,Int.cast_ofNat_Int,decide_true,Bool.not_true]
 cases hd:due (decide (a∈H.shapes.map (·.1))) true (decide ((60:Int)<=(H.shapes.length:Int))) with
 |some f=>simp_arith[Option.isNone_some,Z1]
 |none=>
  obtain⟨d1,_,d2⟩:=a0q hd;have d2:=of_decide_eq_false d2;simp_arith[Option.isNone_none,Z7 A.c1 (of_decide_eq_false d1) (show _<16777216 by omega),Z1]
theorem a2h{k:Nat}{H:HD}(A:HallAt h n H)(hw:h[w]? =some (.lst [.str x,.str a,.str b]))(ha:l0 a=true)(hal:a.length<=100000)(hb:b="on"∨b="off"):
 b0 ct F (k+3) 25 [.ref n,.ref w] h=match due (decide (a∈H.features.map (·.1))) true (decide ((10:Int)<=(H.features.length:Int))) with
  |some f=>.ok (.str f) h
  |none=>.ok .non (h.set (n+7) (.dict (kd (H.features++[(a,.bl (decide (b="on")))])))):=by
 have hin:inD (.str b) [.str "on",.str "off"]=true:=by
  rcases hb with rfl|rfl<;>decide
 rw[l7 W.f25 rfl];simp only[K0];rw[gc0];simp_arith[z9 hw,op2,a1p,K4,eqS,v7 1 1 rfl hw rfl,v7 2 2 rfl hw rfl,L1 W hal,ha,A.fld7,a1v A.c7,a4V A.c7,E4,C7 W,a0r,hin,B7,all_cons,all_nil,Bool.and_self,and_self,bne_self_eq_false,Int.cast_ofNat_Int,decide_true,Bool.not_true]
 cases hd:due (decide (a∈H.features.map (·.1))) true (decide ((10:Int)<=(H.features.length:Int))) with
 |some f=>simp_arith[Option.isNone_some,Z1]
 |none=>
  obtain⟨d1,_,d2⟩:=a0q hd;have d2:=of_decide_eq_false d2;simp_arith[Option.isNone_none,op2,K4,eqS,v7 2 2 rfl hw rfl,A.fld7,Z7 A.c7 (of_decide_eq_false d1) (show _<16777216 by omega),Z1]
theorem a0M{k:Nat}{H:HD}(A:HallAt h n H)(hw:h[w]? =some (.lst (ws.map .str)))(hl:ws.length<=SL):b0 ct F (k+1) 15 [.ref n,.ref w] h=.ok (.bl (ws.all fun x=>decide (x∈H.shapes.map (·.1)))) h:=by
 rw[l7 W.f15 rfl];simp only[N9];simp_arith[];rw[A9 (l:=ws.map D.str) (g:=[(w,.lst (ws.map D.str))]) (h1:=h) ?_ (by simp[gOk,hw]) (fun d=>match d with|.str x=>.bl (decide (x∈H.shapes.map (·.1)))|_=>.non) (fun d=>[some d,some (.ref n)]) ?_ (by simpa using hl)]
 · have e:(ws.map D.str).map (fun d=>match d with|D.str x=>D.bl (decide (x∈H.shapes.map (·.1)))|_=>D.non)=ws.map fun x=>D.bl (decide (x∈H.shapes.map (·.1))):=by
    rw[aH];rfl
   rw[e];simp_arith[a5z];exact gc1 rfl
 · simp_arith[V5,hw]
 · intro x hx;obtain⟨y,hy,rfl⟩:=ak.mp hx;refine⟨rfl,?_⟩
   simp_arith[op2,A.fld1,a1v A.c1]
noncomputable def a6n:List (D×D):=[(.str "none",.int 1),(.str "clear",.int 1),(.str "back",.int 2),(.str "both",.int 4)]
theorem a3E{k:Nat}{j:Str}{d5:List Str}(hw:h[w]? =some (.lst (.str x::.str a::.str j::.str wy::d5.map .str)))(ha:l0 a=true)(hal:a.length<=100000)(hj:n9 a6n (.str j)=some (.int d5.length))(hy:inD (.str wy) [.str "left",.str "right",.str "either"]=true)
 (hr:d5.all l0=true) (hrl:∀y∈d5,y.length<=100000) (hrs:d5.length<=100000):b0 ct F (k+4) 21 [.ref w] h=.ok (.bl true) h:=by
 rw[l7 W.f21 rfl];simp only[E1]
 have e4:∀xs,U0 xs (some 4) none=xs.drop 4:=V3 4
 have hn:b0 ct F (k+3) 9 [.ref h.length] (h++[.lst (d5.map .str)])=.ok (.bl (d5.all l0)) (h++[.lst (d5.map .str)]):=a1E W b6 (by show _<=16777216;omega) hrl
 have hlen:decide (((d5.length+1+1+1+1:Nat):Int)<4)=false:=bF (by omega)
 unfold a6n at hj;simp_arith[z9 hw,op2,E4,hlen,aa,v7 1 1 rfl hw rfl,v7 2 2 rfl hw rfl,v7 3 3 rfl hw rfl,L1 W hal,ha,G2,Option.isSome_some,hj,hy,B7,all_cons,all_nil,Bool.and_self,and_self,bne_self_eq_false,Bool.not_true,T7 hw,e4,drop_succ_cons,drop_zero,z9 b6,v7 2 2 rfl (b5 (g:=[.lst (d5.map .str)]) hw) rfl,K4,eqS,decide_true,hn,hr];exact gc1 rfl
theorem a2H{k:Nat}{H:HD}{j:Str}{d5:List Str}(A:HallAt h n H)(hw:h[w]? =some (.lst (.str x::.str a::.str j::.str wy::d5.map .str)))(ha:l0 a=true)(hal:a.length<=100000)(hj:n9 a6n (.str j)=some (.int d5.length))(hy:inD (.str wy) [.str "left",.str "right",.str "either"]=true)
 (hr:d5.all l0=true) (hrl:∀y∈d5,y.length<=100000) (hrs:d5.length<=100000):
 b0 ct F (k+5) 22 [.ref n,.ref w] h=match due (decide (a∈H.letters.map (·.1))) (d5.all fun x=>decide (x∈H.shapes.map (·.1))) (decide ((24:Int)<=(H.letters.length:Int))) with
  |some f=>.ok (.str f) (h++[.lst (d5.map .str)])
  |none=>.ok .non ((h++[Cell.lst (d5.map .str)]).set (n+4) (.dict (kd (H.letters++[(a,D.tup [.str j,.str wy,.tup (d5.map .str)])])))):=by
 rw[l7 W.f22 rfl];simp only[L6];rw[gc0]
 have e4:∀xs,U0 xs (some 4) none=xs.drop 4:=V3 4
 have A1:=A.app [.lst (d5.map .str)];have hw1:=b5 (g:=[.lst (d5.map .str)]) hw;have hs:=a0M (ct:=ct) (k:=k+3) W A1 (b6 (h:=h)) (by show _<=16777216;omega)
 simp_arith[a3E W hw ha hal hj hy hr hrl hrs,Bool.not_true,v7 1 1 rfl hw rfl,T7 hw,e4,drop_succ_cons,drop_zero,op2,A1.fld4,a1v A1.c4,a4V A1.c4,E4,hs,C7 W,a0r]
 cases hd:due (decide (a∈H.letters.map (·.1))) (d5.all fun x=>decide (x∈H.shapes.map (·.1))) (decide ((24:Int)<=(H.letters.length:Int))) with
 |some f=>simp_arith[Option.isNone_some,Z1]
 |none=>
  obtain⟨d1,_,d2⟩:=a0q hd;have d2:=of_decide_eq_false d2;simp_arith[Option.isNone_none,v7 2 2 rfl hw1 rfl,v7 3 3 rfl hw1 rfl,a2n b6,A1.fld4,Z7 A1.c4 (of_decide_eq_false d1) (show _<16777216 by omega),Z1]
theorem a3B{k:Nat}{H:HD}{d5:List Str}(A:HallAt h n H)(hw:h[w]? =some (.lst (.str x::.str a::d5.map .str)))(ha:l0 a=true)(hal:a.length<=100000)
 (hr:d5.all l0=true) (hrl:∀y∈d5,y.length<=100000) (hr1:1<=d5.length) (hr2:d5.length<=20):
 b0 ct F (k+5) 24 [.ref n,.ref w] h=match due (decide (a∈H.classes.map (·.1))) (d5.all fun x=>decide (x∈H.shapes.map (·.1))) (decide ((20:Int)<=(H.classes.length:Int))) with
  |some f=>.ok (.str f) (h++[.lst (d5.map .str),.lst (.str a::d5.map .str)])
  |none=>.ok .non ((h++[Cell.lst (d5.map .str),Cell.lst (.str a::d5.map .str)]).set (n+6) (.dict (kd (H.classes++[(a,D.tup (d5.map .str))])))):=by
 rw[l7 W.f24 rfl];simp only[N7];rw[gc0]
 have e1:∀xs,U0 xs (some 1) none=xs.drop 1:=V3 1
 have e2:∀xs,U0 xs (some 2) none=xs.drop 2:=V3 2
 have hw1:=b5 (g:=[.lst (d5.map .str)]) hw;have hw2:=b5 (g:=[.lst (.str a::d5.map .str)]) hw1;have A2:=(A.app [.lst (d5.map .str)]).app [.lst (.str a::d5.map .str)]
 have hq:(h++[Cell.lst (d5.map .str)]++[.lst (.str a::d5.map .str)])[h.length]? =some (.lst (d5.map .str)):=b5 b6
 have hs:=a0M (ct:=ct) (k:=k+3) W A2 hq (by show _<=16777216;omega)
 have hn:b0 ct F (k+4) 9 [.ref (h++[Cell.lst (d5.map .str)]).length] (h++[Cell.lst (d5.map .str)]++[.lst (.str a::d5.map .str)])=.ok (.bl true) (h++[Cell.lst (d5.map .str)]++[.lst (.str a::d5.map .str)]):=by
  have:=a1E (ct:=ct) (n:=k+1) (ws:=a::d5) W (b6 (h:=h++[Cell.lst (d5.map .str)]) (c:=.lst (.str a::d5.map .str))) (by show _<=16777216;simp;omega) (fun y hy=>by
   rcases aE.mp hy with rfl|hy
   · exact hal
   · exact hrl y hy)
  rw[all_cons,ha,hr] at this;exact this
 have l1:decide ((1:Int)<=(d5.length:Int))=true:=bn (by omega)
 have l2:decide ((d5.length:Int)<=20)=true:=bn (by omega)
 simp_arith[T7 hw,e2,drop_succ_cons,drop_zero,z9 b6,aa,op2,E4,l1,l2,Bool.not_true,T7 hw1,e1,hn,v7 1 1 rfl hw2 rfl,A2.fld6,a1v A2.c6,a4V A2.c6,hs,C7 W,a0r];rw[show h++[Cell.lst (d5.map D.str),.lst (.str a::d5.map .str)]=h++[Cell.lst (d5.map .str)]++[.lst (.str a::d5.map .str)] by simp]
 cases hd:due (decide (a∈H.classes.map (·.1))) (d5.all fun x=>decide (x∈H.shapes.map (·.1))) (decide ((20:Int)<=(H.classes.length:Int))) with
 |some f=>simp_arith[Option.isNone_some,Z1]
 |none=>
  obtain⟨d1,_,d2⟩:=a0q hd;have d2:=of_decide_eq_false d2;simp_arith[Option.isNone_none,a2n hq,A2.fld6,Z7 A2.c6 (of_decide_eq_false d1) (show _<16777216 by omega),Z1]
end
theorem N4{l:AH}:(h++l)[h.length+i]? =l[i]? :=by
 rw[aq (by omega)]
 congr 1;omega
variable{j:Nat}{f:Str}{core:List Str}{aft:List Str}{told:List Str}
theorem b1T{l:AH}:(h++l)[h.length]? =l[0]? :=N4 (i:=0)
theorem b5i{a b:Nat}{ys:List D}(h1:g[a]? =some (.lst xs))(h2:g[b]? =some (.lst ys))(hl:xs.length+ys.length<=100000):Y5 g (.ref a) (.ref b)=.ok (.ref g.length) (g++[.lst (xs++ys)]):=by
 simp only[Y5,h1,h2];rw[ay (by show _<=16777216;omega)]
 rfl
theorem b7E:(true !=false)=true:=rfl
variable{y:Str}
section
variable{ct:CT}{F:Nat->Option Fn}(W:PF F)
include W
theorem a4N{k:Nat}{i j:Int}(hw:h[w]? =some (.lst [.str a,.str b]))(ha:a0K a=some i)(hb:a0K b=some j):b0 ct F (k+1) 16 [.ref w] h=.ok (.tup [.int i,.int j]) h:=by
 obtain⟨a1,a2⟩:=a2s ha;obtain⟨b1,b2⟩:=a2s hb;rw[l7 W.f16 rfl];simp only[a0B];simp_arith[v7 0 0 rfl hw rfl,v7 1 1 rfl hw rfl,a7n a2 a1,a7n b2 b1];exact J9 rfl
theorem a1l{k:Nat}{sd:Str}{c:Int}(hw:h[w]? =some (.lst (.str x::.str a::.str sd::ws.map .str)))(ha:l0 a=true)(hal:a.length<=100000)(hs:inD (.str sd) [.str "above",.str "below"]=true)(hc:c=ws.length)(hn:ws.all a3O=true)(hwl:∀y∈ws,y.length<=100000)(hl:ws.length<=100000):b0 ct F (k+5) 18 [.ref w,.int c] h=.ok (.bl true) h:=by
 subst hc;rw[l7 W.f18 rfl];simp only[G7]
 have e3:∀xs,U0 xs (some 3) none=xs.drop 3:=V3 3
 have hg:=a3G (ct:=ct) (n:=k) (ws:=ws) W (b6 (h:=h) (c:=.lst (ws.map .str))) (by show _<=16777216;omega) hwl
 rw[hn] at hg
 have hd:decide (((ws.length+1+1+1:Nat):Int)=3+(ws.length:Int))=true:=bn (by omega)
 simp_arith[z9 hw,aa,op2,Y5,a1p,eqS,hd,Bool.not_true,v7 1 1 rfl hw rfl,v7 2 2 rfl hw rfl,L1 W hal,ha,hs,B7,all_cons,all_nil,Bool.and_self,and_self,b7E,T7 hw,e3,drop_succ_cons,drop_zero,hg];exact gc1 rfl
theorem a3A{k:Nat}{H:HD}{sd c:Str}{i j:Int}(A:HallAt h n H)(hw:h[w]? =some (.lst [.str x,.str a,.str sd,.str b,.str c]))(ha:l0 a=true)(hal:a.length<=100000)(hs:inD (.str sd) [.str "above",.str "below"]=true)(hb:a0K b=some i)(hc:a0K c=some j)(hl:H.points.length<=100000):
 ∃h',b0 ct F (k+6) 20 [.ref n,.ref w] h=.ok (Z1 (due (decide ((a,sd)∈H.points.map (·.1))) (decide (a∈H.shapes.map (·.1))) false)) h'/\Fr n h h'∧
  HallAt h' n (if(due (decide ((a,sd)∈H.points.map (·.1))) (decide (a∈H.shapes.map (·.1))) false).isNone then{H with points:=H.points++[((a,sd),.tup [.int i,.int j])]} else H):=by
 obtain⟨_,b2⟩:=a2s hb;obtain⟨_,c2⟩:=a2s hc
 have hf:b0 ct F (k+5) 18 [.ref w,.int 2] h=.ok (.bl true) h:=a1l (ws:=[b,c]) W hw ha hal hs rfl (by simp[a5P,hb,hc]) (fun y hy=>by
  rcases aE.mp hy with rfl|hy
  · omega
  · rw[aO] at hy;subst hy;omega) (by simp)
 rw[l7 W.f20 rfl];simp only[N6];rw[gc0];simp_arith[hf,Bool.not_true,v7 1 1 rfl hw rfl,v7 2 2 rfl hw rfl,op2,A.fld3,b9f A.c3,A.fld1,a1v A.c1,C7 W,a0r];generalize hd:due (decide ((a,sd)∈H.points.map (·.1))) (decide (a∈H.shapes.map (·.1))) false=du
 cases du with
 |some f=>
  simp_arith[Option.isNone_some,Z1];exact⟨h,rfl,Fr.refl n h,A⟩
 |none=>
  obtain⟨d1,_,_⟩:=a0q hd
  have e35:U0 [.str x,.str a,.str sd,.str b,.str c] (some 3) (some 5)=[.str b,.str c]:=a1V 3 5 _ (by decide) (by simp)
  have A1:=A.app [.lst [.str b,.str c]];simp_arith[Option.isNone_none,T7 hw,e35,a4N W (b6 (h:=h)) hb hc,A1.fld3,a9a A1.c3 (of_decide_eq_false d1) (show _<16777216 by omega),Z1]
  exact⟨_,rfl,(Fr.app n h _).trans (Fr.set (by omega) (by omega)),A1.s3 _⟩
end
variable{text:Str}
section
variable{ct:CT}{F:Nat->Option Fn}
def a0u(ct:CT)(F:Nat->Option Fn)(d:Nat)(H:HD)(ws:List Str)(du:Option Str)(H':HD):Prop:=∀(h:AH) (n w:Nat),HallAt h n H->h[w]? =some (.lst (ws.map .str))->∃h',b0 ct F d 13 [.ref n,.ref w] h=.ok (Z1 du) h'/\Fr n h h'/\HallAt h' n H'
inductive Reads(ct:CT)(F:Nat->Option Fn)(d:Nat):HD->List Str->HD->Prop
 |nil (H:HD):Reads ct F d H [] H
 |take {H H1 H':HD} {row:Str} {d5:List Str} (hl:row.length<=100000) (hw:L3 row≠[]) (k:a0u ct F d H (L3 row) none H1) (t:Reads ct F d H1 d5 H'):Reads ct F d H (row::d5) H'
def rhB:Ss:=(.cons (.set 4 (.call 1 (.cons (.v 3) .nil))) (.cons (.iff (.cmp .gt (.bi .len (.cons (.v 4) .nil)) (.k (.int (0)))) (.cons (.set 5 (.call 13 (.cons (.v 1) (.cons (.v 4) .nil)))) (.cons (.iff (.notN (.v 5)) (.cons .bad .nil) .nil) .nil)) .nil) .nil))
variable(W:PF F)
include W
theorem b4g{d:Nat}{R:List Str}{H H':HD}{rows:List Str}(q:Reads ct F (d+1) H rows H'):∀(p:Nat) (h:AH) (e2 e3 e4 e5:Option D),HallAt h n H->h[n+9]? =some (.lst (R.map .str))→
 ∃h',Fr n h h'/\HallAt h' n H'/\∃a2 a3 a4 a5,Z0 [(n+9,.lst (R.map .str))] (.tp (.cons (.nm 2) (.cons (.nm 3) .nil))) (exs ct (b0 ct F (d+1)) rhB) (y0 p (rows.map D.str)) [some (.str text),some (.ref n),e2,e3,e4,e5] h=.ok (.nx [some (.str text),some (.ref n),a2,a3,a4,a5]) h':=by
 have step:∀{h:AH} {e2 e3 e4 e5:Option D} {row:Str} {d5:List D} {p:Nat},h[n+9]? =some (.lst (R.map .str))→
  Z0 [(n+9,.lst (R.map .str))] (.tp (.cons (.nm 2) (.cons (.nm 3) .nil))) (exs ct (b0 ct F (d+1)) rhB) (.tup [.int p,.str row]::d5) [some (.str text),some (.ref n),e2,e3,e4,e5] h=
  (exs ct (b0 ct F (d+1)) rhB [some (.str text),some (.ref n),some (.int p),some (.str row),e4,e5] h).bind fun o h'=>match o with
   |.nx env''=>Z0 [(n+9,.lst (R.map .str))] (.tp (.cons (.nm 2) (.cons (.nm 3) .nil))) (exs ct (b0 ct F (d+1)) rhB) d5 env'' h'
   |.rt d=>.ok (.rt d) h':=fun{h e2 e3 e4 e5 row d5 p} hs=>by
  rw[Z0,ay (by simp[gOk,hs])]
  rfl
 induction q with
 |nil H=>
  intro p h e2 e3 e4 e5 A hs;refine⟨h,Fr.refl n h,A,e2,e3,e4,e5,?_⟩
  rw[map_nil,y0,Z0,ay (by simp[gOk,hs])]
 | @take H H1 H' row d5 hl hw k t ih=>
  intro p h e2 e3 e4 e5 A hs;obtain⟨h1,k1,k2,k3⟩:=k (h++[.lst ((L3 row).map .str)]) n h.length (A.app _) b6
  have hs1:h1[n+9]? =some (.lst (R.map .str)):=by
   have hs0:=b5 (g:=[Cell.lst ((L3 row).map .str)]) hs;rw[k2.get (n+9) (ac.mp hs0).1 (by omega)]
   exact hs0
  obtain⟨h',f1,A',e2',e3',e4',e5',m⟩:=ih (p+1) h1 (some (.int p)) (some (.str row)) (some (.ref h.length)) (some .non) k3 hs1
  have hp:decide ((0:Int)<(((L3 row).map D.str).length:Int))=true:=bn (by
   cases hq:L3 row with
   |nil=>exact absurd hq hw
   |cons a b=>simp)
  have e:exs ct (b0 ct F (d+1)) rhB [some (.str text),some (.ref n),some (.int p),some (.str row),e4,e5] h=.ok (.nx [some (.str text),some (.ref n),some (.int p),some (.str row),some (.ref h.length),some .non]) h1:=by
   simp only[rhB];simp_arith[a5F W hl,z9 b6,op2,E4,hp,k1,Z1,decide_true,Bool.not_true]
  refine⟨h',((Fr.app n h _).trans k2).trans f1,A',e2',e3',e4',e5',?_⟩
  rw[map_cons,y0,step hs,e,b8];exact m
theorem b4y(f:Fr h.length h h'):h'.take h.length=h:=by
 refine ext_getElem? fun i=>?_
 by_cases hi:i<h.length
 · rw[bJ hi,f.get i hi (.inl hi)]
 · rw[aZ (by simp;omega),aZ (by omega)]
theorem a4K{d:Nat}{H':HD}(hin:ct.init 6=32)(ht:text.length<=10000000)(q:Reads ct F (d+1) {} (Txt.split text "\n") H'):
 ∃h',h'.take h.length=h/\HallAt h' h.length H'/\b0 ct F (d+2) 12 [.str text] h=.ok (.ref h.length) h':=by
 rw[l7 W.f12 rfl]
 have hf:S8=⟨1,6,0,(.cons (.set 1 (.mk 6 .nil)) (.cons (.for (.tp (.cons (.nm 2) (.cons (.nm 3) .nil))) (.enum (.mt .split (.v 0) (.cons (.k (.str "\n")) .nil))) rhB) (.cons (.ret (.v 1)) .nil)))⟩:=rfl
 simp only[hf];rw[gc0]
 have A0:HallAt (h++[.obj 6 (a1Q h.length),.dict [],.dict [],.dict [],.dict [],.lst [],.dict [],.dict [],.lst []]) h.length {}:=⟨b1T,N4,N4,N4,N4,N4,N4,N4,N4⟩
 have hlen:(h++[Cell.obj 6 (a1Q h.length),.dict [],.dict [],.dict [],.dict [],.lst [],.dict [],.dict [],.lst []]).length=h.length+9:=by simp
 have hnew:=b1N (ct:=ct) (n:=d) (h:=h) W;generalize hg:h++[Cell.obj 6 (a1Q h.length),.dict [],.dict [],.dict [],.dict [],.lst [],.dict [],.dict [],.lst []]=g at*
 have A1:=A0.app [.lst ((Txt.split text "\n").map .str)]
 have hs:(g++[Cell.lst ((Txt.split text "\n").map .str)])[h.length+9]? =some (.lst ((Txt.split text "\n").map .str)):=by rw[←hlen];exact b6
 obtain⟨h',f1,A',e2,e3,e4,e5,m⟩:=b4g (d:=d) (R:=Txt.split text "\n") (text:=text) W q 0 (g++[.lst ((Txt.split text "\n").map .str)]) none none none none A1 hs
 have fr:Fr h.length h h':=by
  refine Fr.trans ?_ f1
  rw[←hg];exact(Fr.app _ h _).trans (Fr.app _ _ _)
 refine⟨h',b4y W fr,A',?_⟩
 have hsp:mtD .split g (.str text) [.str "\n"]=.ok (.ref g.length) (g++[.lst ((Txt.split text "\n").map .str)]):=by
  simp only[mtD];rw[ay ⟨by decide,by show _<=16777216;omega⟩]
  rfl
 have hen:Y7 (g++[.lst ((Txt.split text "\n").map .str)]) (.ref g.length)=.ok (y0 0 ((Txt.split text "\n").map .str),[(h.length+9,.lst ((Txt.split text "\n").map .str))]) (g++[.lst ((Txt.split text "\n").map .str)]):=by
  simp only[Y7,hlen,hs]
 simp_arith[hin,hnew,mtT,hsp,hen,m]
end
noncomputable def dg(n:Nat):Str:=Str.ofString (toString (n:Int))
def lt(i:Nat):Nat:=97+i
theorem b2Q:∀i:Fin 26,(cd abc)[i.val]? =some (lt i.val)/\O7 (lt i.val)=true:=by decide+kernel
def nm(stem:Str)(k:Nat):Str:=(⟨#[lt (7*k%26)]⟩++stem)++dg (k*13%61)
variable{stem:Str}
theorem a3b(h:l0 z=true):1<=z.length/\z.length<=12:=by
 unfold l0 at h;rw[ae,ae] at h;exact⟨aw h.1.1,aw h.1.2⟩
section
variable{ct:CT}{F:Nat->Option Fn}(W:PF F)
include W
section
variable{k:Nat}{d5:List D}
theorem b0c(hw:h[w]? =some (.lst (.str "shape"::d5))):b0 ct F (k+1) 13 [.ref n,.ref w] h=b0 ct F k 17 [.ref n,.ref w] h:=by
 rw[l7 W.f13 rfl];simp only[C8];rw[gc0];simp_arith[v7 0 0 rfl hw rfl,op2,K4,eqS,decide_true,decide_false];generalize b0 ct F k 17 [.ref n,.ref w] h=r
 cases r<;>simp_arith[]
theorem b0d(hw:h[w]? =some (.lst (.str "point"::d5))):b0 ct F (k+1) 13 [.ref n,.ref w] h=b0 ct F k 20 [.ref n,.ref w] h:=by
 rw[l7 W.f13 rfl];simp only[C8];rw[gc0];simp_arith[v7 0 0 rfl hw rfl,op2,K4,eqS,decide_true,decide_false];generalize b0 ct F k 20 [.ref n,.ref w] h=r
 cases r<;>simp_arith[]
theorem a8V(hw:h[w]? =some (.lst (.str "letter"::d5))):b0 ct F (k+1) 13 [.ref n,.ref w] h=b0 ct F k 22 [.ref n,.ref w] h:=by
 rw[l7 W.f13 rfl];simp only[C8];rw[gc0];simp_arith[v7 0 0 rfl hw rfl,op2,K4,eqS,decide_true,decide_false];generalize b0 ct F k 22 [.ref n,.ref w] h=r
 cases r<;>simp_arith[]
theorem b0e(hw:h[w]? =some (.lst (.str "class"::d5))):b0 ct F (k+1) 13 [.ref n,.ref w] h=b0 ct F k 24 [.ref n,.ref w] h:=by
 rw[l7 W.f13 rfl];simp only[C8];rw[gc0];simp_arith[v7 0 0 rfl hw rfl,op2,K4,eqS,decide_true,decide_false];generalize b0 ct F k 24 [.ref n,.ref w] h=r
 cases r<;>simp_arith[]
theorem a6O(hw:h[w]? =some (.lst (.str "feature"::d5))):b0 ct F (k+1) 13 [.ref n,.ref w] h=b0 ct F k 25 [.ref n,.ref w] h:=by
 rw[l7 W.f13 rfl];simp only[C8];rw[gc0];simp_arith[v7 0 0 rfl hw rfl,op2,K4,eqS,decide_true,decide_false];generalize b0 ct F k 25 [.ref n,.ref w] h=r
 cases r<;>simp_arith[]
end
def b9V{α:Type}(o:Option Str)(a b:α):α:=match o with
 |none=>a
 |some _=>b
variable{d:Nat}{H:HD}
theorem b0f{v:Int}(ha:l0 a=true)(hb:U9 b=some v):a0u ct F (d+9) H [("shape":Str),a,b] (due (decide (a∈H.shapes.map (·.1))) true (decide ((60:Int)<=(H.shapes.length:Int))))
 (b9V (due (decide (a∈H.shapes.map (·.1))) true (decide ((60:Int)<=(H.shapes.length:Int)))) {H with shapes:=H.shapes++[(a,.int v)]} H):=by
 intro h n w A hw
 have:=a3z (ct:=ct) (k:=d+5) W A hw ha (by have:=a3b ha;omega) hb
 rw[b0c W hw,this];generalize due (decide (a∈H.shapes.map (·.1))) true (decide ((60:Int)<=(H.shapes.length:Int)))=du
 cases du with
 |none=>exact⟨_,rfl,Fr.set (by omega) (by omega),A.s1 _⟩
 |some f=>exact⟨_,rfl,Fr.refl n h,A⟩
theorem a6P(ha:l0 a=true)(hb:b="on"∨b="off"):a0u ct F (d+9) H [("feature":Str),a,b] (due (decide (a∈H.features.map (·.1))) true (decide ((10:Int)<=(H.features.length:Int))))
 (b9V (due (decide (a∈H.features.map (·.1))) true (decide ((10:Int)<=(H.features.length:Int)))) {H with features:=H.features++[(a,.bl (decide (b="on")))]} H):=by
 intro h n w A hw
 have:=a2h (ct:=ct) (k:=d+5) W A hw ha (by have:=a3b ha;omega) hb
 rw[a6O W hw,this];generalize due (decide (a∈H.features.map (·.1))) true (decide ((10:Int)<=(H.features.length:Int)))=du
 cases du with
 |none=>exact⟨_,rfl,Fr.set (by omega) (by omega),A.s7 _⟩
 |some f=>exact⟨_,rfl,Fr.refl n h,A⟩
end
theorem n4(x y:Str):(x++y).length=x.length+y.length:=by rw[←r8,K2,ap,r8,r8]
theorem b0m{i:Int}(h: -1000000000000<=i/\i<=1000000000000):a2r i=true:=by
 cases i with
 |ofNat n=>
  refine Nat.ble_eq_true_of_le ?_
  have:(n:Int)<=1000000000000:=h.2
  omega
 |negSucc n=>
  refine Nat.ble_eq_true_of_le ?_
  have:=h.1
  rw[Int.negSucc_eq] at this;omega
theorem a0x(h:n<=1000000):Z5 (n:Int)=true:=Nat.ble_eq_true_of_le (by omega)
theorem W0{i j:Int}(hj: -1000000000000<=j/\j<=1000000000000):U8 h (.int i) (.int j)=.ok (.int (i*j)) h:=by
 simp only[U8];rw[ay (by rw[b0m hj,Bool.or_true])]
theorem a7f{i j:Int}(hj:0<j):u8 h (.int i) (.int j)=.ok (.int (i%j)) h:=by
 simp only[u8];rw[ay hj]
theorem b7w{i j:Int}(hj:0<j)(h2:j<1073741824):D1 h (.int i) (.int j)=.ok (.int (i/j)) h:=by
 simp only[D1];rw[ay ⟨hj,h2⟩]
theorem o6{i j:Int}:Y5 h (.int i) (.int j)=.ok (.int (i+j)) h:=rfl
theorem o8(hl:x.length+y.length<=100000):Y5 h (.str x) (.str y)=.ok (.str (x++y)) h:=by
 simp only[Y5];rw[ay (by show _<=16777216;omega)]
theorem F9(b:Nat)(hb:0<b){a:Nat}:u8 h (.int (a:Int)) (.int (b:Int))=.ok (.int ((a%b:Nat):Int)) h:=by
 rw[a7f (by omega)]
 congr 2
theorem Q0(b:Nat)(hb:0<b)(h2:b<1073741824){a:Nat}:D1 h (.int (a:Int)) (.int (b:Int))=.ok (.int ((a/b:Nat):Int)) h:=by
 rw[b7w (by omega) (by omega)]
 congr 2
noncomputable def mx(c j:Int):Int:=(c%2305843009213693951+1)*(j*j+48271)*40692%2147483399
theorem b6A(c j:Int):0<=mx c j:=Int.emod_nonneg _ (by decide)
variable{sep:Str}{ts:List Str}
theorem a5a(h:(ts.map (·.length)).sum+ts.length*sep.length<=1000000):JoinOk sep ts=true:=by
 unfold JoinOk;rw[StrLaws.joinTotal];simp only[Builtin.Str.tooLong,Bool.not_eq_true',decide_eq_false_iff_not]
 have:sizeLine=16777216:=by decide
 omega
theorem a6D:∀ps:List Str,cd (Str.join "" ps)=(ps.map cd).flatten
 |[]=>rfl
 |[x]=>by show cd x=_;simp
 |x::y::r=>by
  show cd (x++Str.ofString ""++Str.join "" (y::r))=_
  rw[K2,K2,a6D (y::r),show cd (Str.ofString "")=[] from rfl,bj];rfl
theorem b7B(n:Nat)(x:Str):cd (D6 n x)=(List.replicate n (cd x)).flatten:=by
  show(D6 n x).cps.toList=_
  unfold D6;rw[foldl_app'];simp[cd]
where
  foldl_app' {x:Array Nat}:∀{n:Nat} {a:Array Nat},((List.replicate n x).foldl (· ++ ·) a).toList=a.toList++(List.replicate n x.toList).flatten
    |0,a=>by simp
    |n+1,a=>by rw[replicate_succ,foldl_cons,foldl_app',replicate_succ,flatten_cons];simp
theorem a8K(ts:List Str):cd (Txt.join "" ts)=(ts.map cd).flatten:=by
 show cd (Builtin.Str.glued "" _)=_
 rw[StrLaws.glued_eq_join];exact a6D ts
theorem b8u{p:Nat}(h:p<=z.length):cd (Txt.slice z none (some (p:Int)))=(cd z).take p:=by
 have e:Txt.slice z none (some (p:Int))=⟨((z.cps.toList.drop (0:Int).toNat).take ((p:Int)-0).toNat).toArray⟩:=beq_iff_eq.mp (PyProof.Rows.slice_closes_to ⟨by omega,by have:=r8 z;show(p:Int)<=((cd z).length:Int);omega⟩)
 rw[e];simp[cd]
theorem b3p{p:Nat}(h:p<=z.length):cd (Txt.slice z (some (p:Int)) none)=(cd z).drop p:=by
 rw[PyProof.Rows.slice_from_eq (b:=z.length) (by omega) (by omega) rfl]
 show((cd z).drop ((p:Int).toNat)).take (((z.length:Int)-p).toNat)=_
 rw[Int.toNat_natCast];exact bq (by rw[bH,r8];omega)
variable{c:CF}{env:t9}{ns:List Int}
section
variable{ct:CT}{F:Nat->Option Fn}
theorem seq{s:S}{T:Ss}{env':t9}(e:ex ct c s env h=.ok (.nx env') h'):exs ct c (.cons s T) env h=exs ct c T env' h':=by rw[O9,e,b8]
theorem Y2{k f:Nat}(hF:F f=some x0)(hr:h[n]? =some (.rol (ns.map .int))):∃a,b0 ct F (k+1) f [.ref n,.int (j:Int)] h=.ok (.int a) h:=by
 rw[l7 hF rfl];simp only[x0]
 have rl:rdL h n=some (ns.map .int):=by unfold rdL;rw[hr]
 have le:biD .len h [.ref n]=.ok (.int (ns.length:Int)) h:=by simp only[biD,hr,rl,aa]
 by_cases lt:(j:Int)<(ns.length:Int)
 · have lt':j<ns.length:=by omega
   have ix:ixD h (.ref n) (.int (j:Int))=.ok (.int ns[j]) h:=by
    have:atI (ns.map D.int) (j:Int)=some (.int ns[j]):=by
     show(ixN (ns.map D.int).length (j:Int)).bind (fun j=>(ns.map D.int)[j]?)=_
     have e:ixN (ns.map D.int).length (j:Int)=some j:=by
      unfold ixN;rw[aa,ay (by omega),ay (by omega)]
      simp
     rw[e]
     show(ns.map D.int)[j]? =_
     rw[aj,af lt']
     rfl
    simp only[ixD,hr,this]
   refine⟨ns[j],?_⟩
   simp_arith[le,op2,E4,lt,decide_true,ix];exact J9 rfl
 · refine⟨0,?_⟩
   simp_arith[le,op2,E4,lt,decide_false];exact J9 rfl
theorem C0{k f:Nat}{c j:Int}(hF:F f=some o3)(hj:0<=j/\j<=1000):∃M:Nat,b0 ct F (k+1) f [.int c,.int j] h=.ok (.int (M:Int)) h:=by
 obtain⟨M,hM⟩:=Int.eq_ofNat_of_zero_le (b6A c j);refine⟨M,?_⟩
 rw[←hM,l7 hF rfl];simp only[o3]
 have hjj:0<=j*j/\j*j<=1000000:=⟨Int.mul_nonneg hj.1 hj.1,by
  have:=Int.mul_le_mul hj.2 hj.2 hj.1 (by decide)
  omega⟩
 simp_arith[op2,a7f (h:=h) (i:=c) (j:=2305843009213693951) (by decide),Y5,W0 (h:=h) (i:=j) (j:=j) (by omega),W0 (h:=h) (i:=c%2305843009213693951+1) (j:=j*j+48271) (by omega),W0 (h:=h) (i:=(c%2305843009213693951+1)*(j*j+48271)) (j:=40692) (by decide),a7f (h:=h) (i:=(c%2305843009213693951+1)*(j*j+48271)*40692) (j:=2147483399) (by decide)]
 exact J9 rfl
end
variable{α:Type}
theorem W6{a:Option α}:(some a).join=a:=rfl
theorem a8N:abc.length=26:=by decide+kernel
theorem b7L:abc.length<=SL:=by rw[a8N];show 26<=16777216;omega
theorem b6H{a b:Nat}(h:lt a=lt b):a=b:=by unfold lt at h;omega
theorem a8h(h:i<26):O7 (lt i)=true:=(b2Q ⟨i,h⟩).2
def nmA(f m i:Nat):Str:=D6 (m-i) ⟨#[lt f]⟩
theorem a7y(f m i:Nat):cd (nmA f m i)=List.replicate (m-i) (lt f):=by
 unfold nmA;rw[b7B]
 show(List.replicate _ [lt f]).flatten=_
 simp
noncomputable def nmB(stem:Str)(p f i:Nat):Str:=(Txt.slice stem none (some (p:Int))++⟨#[lt ((f+5*i)%26)]⟩)++Txt.slice stem (some (p:Int)) none
theorem a5r{p f:Nat}(h:p<=stem.length):cd (nmB stem p f i)=(cd stem).take p++lt ((f+5*i)%26)::(cd stem).drop p:=by
 unfold nmB;rw[K2,K2,b8u h,b3p h]
 show(cd stem).take p++[lt ((f+5*i)%26)]++(cd stem).drop p=_
 simp
theorem a0A{α β:Type}(f:α->β):∀{l:List α},l.Nodup->(∀a∈l,∀b∈l,f a=f b->a=b)->(l.map f).Nodup
 |[],_,_=>nodup_nil
 |x::r,h,hi=>by
  have h:=aY.mp h;rw[map_cons];refine aY.mpr ⟨fun m=>?_,a0A f h.2 fun a ha b hb=>hi a (.tail _ ha) b (.tail _ hb)⟩
  obtain⟨y,hy,e⟩:=ak.mp m;rw[hi y (.tail _ hy) x (.head _) e] at hy;exact h.1 hy
structure Nms(ns:List Str)(m:Nat):Prop where
 len:ns.length=m
 nd:ns.Nodup
 ok:∀n∈ns,l0 n=true
theorem c1h{f m:Nat}(hf:f<26)(hm:m<13):Nms ((List.range m).map (nmA f m)) m:=by
 refine⟨by simp,a0A _ nodup_range fun a ha b hb e=>?_,fun n hn=>?_⟩
 · have ha:=aN.mp ha;have hb:=aN.mp hb;have e:=congrArg (fun z=>(cd z).length) e
   simp only[a7y,bu] at e;omega
 · obtain⟨i,hi,rfl⟩:=ak.mp hn;have hi:=aN.mp hi
   have l:(nmA f m i).length=m-i:=by rw[←r8,a7y,bu]
   unfold l0;rw[l,a7y];rw[bn (show 1<=m-i by omega),bn (show m-i<=12 by omega)]
   simp only[Bool.true_and];refine bv.mpr fun c hc=>?_
   rw[(List.mem_replicate.mp hc).2];exact a8h hf
theorem c1g{p f m:Nat}(hs:stem.length<=11)(hst:(cd stem).all O7=true)(hp:p<=stem.length)(hm:m<=26):Nms ((List.range m).map (nmB stem p f)) m:=by
 refine⟨by simp,a0A _ nodup_range fun a ha b hb e=>?_,fun n hn=>?_⟩
 · have ha:=aN.mp ha;have hb:=aN.mp hb;have e:=congrArg cd e;rw[a5r hp,a5r hp] at e;have e:=List.append_cancel_left e
   injection e with e _
   have e:=b6H e;omega
 · obtain⟨i,hi,rfl⟩:=ak.mp hn
   have lt':((cd stem).take p++lt ((f+5*i)%26)::(cd stem).drop p).length=stem.length+1:=by
    rw[ap,length_cons,aM,bH,r8];omega
   have l:(nmB stem p f i).length=stem.length+1:=by rw[←r8,a5r hp,lt']
   unfold l0;rw[l,a5r hp,bn (show 1<=stem.length+1 by omega),bn (show stem.length+1<=12 by omega)]
   simp only[Bool.true_and];refine bv.mpr fun c hc=>?_
   rcases aK.mp hc with q|q
   · exact bv.mp hst c (List.mem_of_mem_take q)
   · rcases aE.mp q with q|q
     · rw[q];exact a8h (Nat.mod_lt _ (by decide))
     · exact bv.mp hst c (List.mem_of_mem_drop q)
variable{e:E}
section
variable{ct:CT}{F:Nat->Option Fn}
theorem a1J{m:Nat}(hm:m<=1000000):a6Y h (.int 0) (.int (m:Int))=.ok ((List.range m).map fun i=>.int ((0:Int)+(i:Nat)),[]) h:=by
 simp only[a6Y];rw[ay ⟨by decide,a0x hm⟩]
 show R.ok (L8 0 (((m:Int)-0).toNat),[]) h=_
 rw[Int.sub_zero,Int.toNat_natCast];rfl
theorem a0s{fr:List Nat}{a:E}{m:Nat}(f:Nat->D)(ha:ev ct c a env h=.ok (.int (m:Int)) h)(hm:m<=1000000)
 (hx:∀i,i<m->ev ct c e (some (.int (i:Int))::fr.map fun j=>(env[j]?).join) h=.ok (f i) h):ev ct c (.comp (.nm 0) (.rng1 a) 1 fr .yes e) env h=.ok (.ref h.length) (h++[.lst ((List.range m).map f)]):=by
 rw[A9 (l:=(List.range m).map fun i=>.int ((0:Int)+(i:Nat))) (g:=[]) (h1:=h) ?_ rfl (fun d=>match d with|.int i=>f i.toNat|_=>.non) (fun d=>some d::fr.map fun j=>(env[j]?).join) ?_ ?_]
 · congr 3;rw[aH];refine congrArg (fun g=>Cell.lst (List.map g (List.range m))) (funext fun i=>?_)
   simp
 · rw[a6t,ha,b8,a1J hm]
 · intro x hx';obtain⟨i,hi,rfl⟩:=ak.mp hx';refine⟨rfl,?_⟩
   have z:(0:Int)+(i:Nat)=((i:Nat):Int):=by omega
   rw[z,hx i (aN.mp hi)];simp
 · rw[aa,aI]
   show _<=16777216
   omega
theorem b1E(hi:i<26):ixD h (.str abc) (.int (i:Int))=.ok (.str ⟨#[lt i]⟩) h:=ix_str b7L (b2Q ⟨i,hi⟩).1
theorem b0o:a1k.length<=SL:=by rw[show a1k.length=36 by decide+kernel];show 36<=16777216;omega
def a1A(c i:Nat):Nat:=(cd a1k).getD ((c/16224+7*i)%36) 0
theorem a6A(c i:Nat):(cd a1k)[(c/16224+7*i)%36]? =some (a1A c i)/\O7 (a1A c i)=true:=by
 have lt:(c/16224+7*i)%36<(cd a1k).length:=by rw[r8,show a1k.length=36 by decide+kernel];exact Nat.mod_lt _ (by decide)
 unfold a1A;rw[bD,af lt]
 exact⟨rfl,bn (bz lt)⟩
theorem a0c{k f c m:Nat}(hF:F f=some n8)(hm:m<=26):∃ns,Nms ns m/\b0 ct F (k+1) f [.int (c:Int),.int (m:Int)] h=.ok (.ref h.length) (h++[.lst (ns.map .str)]):=by
 have d4:D1 h (.int (c:Int)) (.int 4)=.ok (.int ((c/4:Nat):Int)) h:=Q0 4 (by decide) (by decide)
 have m26:∀(a:Nat) (h:AH),u8 h (.int (a:Int)) (.int 26)=.ok (.int ((a%26:Nat):Int)) h:=fun a h=>F9 26 (by decide)
 have m4:u8 h (.int (c:Int)) (.int 4)=.ok (.int ((c%4:Nat):Int)) h:=F9 4 (by decide)
 have d104:D1 h (.int (c:Int)) (.int 104)=.ok (.int ((c/104:Nat):Int)) h:=Q0 104 (by decide) (by decide)
 have m12:u8 h (.int ((c/104:Nat):Int)) (.int 12)=.ok (.int ((c/104%12:Nat):Int)) h:=F9 12 (by decide)
 have d1248:D1 h (.int (c:Int)) (.int 1248)=.ok (.int ((c/1248:Nat):Int)) h:=Q0 1248 (by decide) (by decide)
 have f26:c/4%26<26:=Nat.mod_lt _ (by decide)
 have s12:c/104%12<12:=Nat.mod_lt _ (by decide)
 rw[l7 hF rfl];simp only[n8]
 show∃ns,Nms ns m/\gcR 2 h (O6 (exs ct (b0 ct F k) _ [some (.int (c:Int)),some (.int (m:Int)),none,none,none,none,none] h))=_
 rw[seq (env':=[some (.int (c:Int)),some (.int (m:Int)),some (.str abc),none,none,none,none]) (h':=h) (by simp_arith[])]
 rw[seq (env':=[some (.int (c:Int)),some (.int (m:Int)),some (.str abc),some (.int ((c/4%26:Nat):Int)),none,none,none]) (h':=h) (by simp_arith[op2,d4,m26])]
 generalize hf:c/4%26=f1 at f26
 by_cases hc:((c%4:Nat):Int)=0/\(m:Int)<13
 · obtain⟨h1,h2⟩:=hc
   have q0:K4 h (.int ((c%4:Nat):Int)) (.int 0)=.ok (.bl true) h:=by rw[h1];rfl
   refine⟨_,c1h (m:=m) f26 (by omega),?_⟩
   have cm:ev ct (b0 ct F k) cA [some (.int (c:Int)),some (.int (m:Int)),some (.str abc),some (.int (f1:Int)),none,none,none] h=.ok (.ref h.length) (h++[.lst ((List.range m).map fun i=>.str (nmA f1 m i))]):=by
    unfold cA;refine a0s (fun i=>.str (nmA f1 m i)) (by simp_arith[]) (by omega) fun i hi=>?_
    have sb:a6c h (.int (m:Int)) (.int (i:Int))=.ok (.int ((m-i:Nat):Int)) h:=by
     show R.ok (D.int ((m:Int)-(i:Int))) h=_
     congr 2;omega
    have ml:U8 h (.str ⟨#[lt f1]⟩) (.int ((m-i:Nat):Int))=.ok (.str (nmA f1 m i)) h:=by
     simp only[U8]
     have l1:(⟨#[lt f1]⟩:Str).length*(((m-i:Nat):Int)).toNat<=SL:=by
      rw[Int.toNat_natCast]
      show 1*(m-i)<=16777216
      omega
     rw[ay ⟨a0x (by omega),l1⟩]
     exact congrArg (fun z=>R.ok (D.str (D6 z ⟨#[lt f1]⟩)) h) (Int.toNat_natCast _)
    simp_arith[op2,b1E f26,sb,ml,W6]
   simp_arith[op2,m4,q0,E4,h2,decide_true,cm]
   have e:((List.range m).map (nmA f1 m)).map D.str=(List.range m).map fun i=>D.str (nmA f1 m i):=by rw[aH];rfl
   rw[e];exact gc2 (by simp) (ai _) (by rw[←e];exact I0 _)
 · have tt:∀T,exs ct (b0 ct F k) (.cons (.iff (.an (.cmp .eq (.bin .mod (.v 0) (.k (.int (4)))) (.k (.int (0)))) (.cmp .lt (.v 1) (.k (.int (13))))) (.cons (.ret cA) .nil) .nil) T) [some (.int (c:Int)),some (.int (m:Int)),some (.str abc),some (.int (f1:Int)),none,none,none] h=exs ct (b0 ct F k) T [some (.int (c:Int)),some (.int (m:Int)),some (.str abc),some (.int (f1:Int)),none,none,none] h:=fun T=>by
    refine seq ?_
    by_cases h1:((c%4:Nat):Int)=0
    · have h2:¬(m:Int)<13:=fun z=>hc ⟨h1,z⟩
      have q0:K4 h (.int ((c%4:Nat):Int)) (.int 0)=.ok (.bl true) h:=by rw[h1];rfl
      simp_arith[op2,m4,q0,E4,h2,decide_false]
    · have q0:K4 h (.int ((c%4:Nat):Int)) (.int 0)=.ok (.bl false) h:=by simp only[K4,eqS,h1,decide_false]
      simp_arith[op2,m4,q0]
   rw[tt];rw[seq (env':=[some (.int (c:Int)),some (.int (m:Int)),some (.str abc),some (.int (f1:Int)),some (.int ((c/104%12:Nat):Int)),none,none]) (h':=h) (by simp_arith[op2,d104,m12])]
   generalize c/104%12=sz at s12
   have a1:((sz:Nat):Int)+1=((sz+1:Nat):Int):=by omega
   rw[seq (env':=[some (.int (c:Int)),some (.int (m:Int)),some (.str abc),some (.int (f1:Int)),some (.int (sz:Int)),some (.int ((c/1248%(sz+1):Nat):Int)),none]) (h':=h) (by simp_arith[op2,d1248,o6,a1,F9 (sz+1) (by omega)])]
   have pl:c/1248%(sz+1)<=sz:=Nat.le_of_lt_succ (Nat.mod_lt _ (by omega))
   generalize c/1248%(sz+1)=p at pl
   have cs:ev ct (b0 ct F k) cS [some (.int (c:Int)),some (.int (m:Int)),some (.str abc),some (.int (f1:Int)),some (.int (sz:Int)),some (.int (p:Int)),none] h=.ok (.ref h.length) (h++[.lst ((List.range sz).map fun i=>.str ⟨#[a1A c i]⟩)]):=by
    unfold cS;refine a0s (fun i=>.str ⟨#[a1A c i]⟩) (by simp_arith[]) (by omega) fun i hi=>?_
    have ad:Y5 h (.str abc) (.str "0123456789")=.ok (.str a1k) h:=by
     rw[o8 (by rw[a8N,show(Str.ofString "0123456789").length=10 by decide+kernel];decide)]
     rfl
    have d16:D1 h (.int (c:Int)) (.int 16224)=.ok (.int ((c/16224:Nat):Int)) h:=Q0 16224 (by decide) (by decide)
    have m7:U8 h (.int 7) (.int (i:Int))=.ok (.int ((7*i:Nat):Int)) h:=by rw[W0 (by omega)];congr 2
    have a2:((c/16224:Nat):Int)+((7*i:Nat):Int)=((c/16224+7*i:Nat):Int):=by omega
    have m36:u8 h (.int ((c/16224+7*i:Nat):Int)) (.int 36)=.ok (.int (((c/16224+7*i)%36:Nat):Int)) h:=F9 36 (by decide)
    simp_arith[op2,ad,d16,m7,o6,a2,m36,ix_str b0o (a6A c i).1,W6]
   have es:((List.range sz).map fun i=>D.str ⟨#[a1A c i]⟩)=((List.range sz).map fun i=>(⟨#[a1A c i]⟩:Str)).map D.str:=by rw[aH];rfl
   rw[es] at cs;generalize hts:(List.range sz).map (fun i=>(⟨#[a1A c i]⟩:Str))=ts at cs
   have tl:ts.length=sz:=by rw[←hts];simp
   have t1:∀t∈ts,t.length=1/\(cd t).all O7=true:=fun t ht=>by
    rw[←hts] at ht;obtain⟨i,_,rfl⟩:=ak.mp ht;exact⟨rfl,by show([a1A c i]:List Nat).all O7=true;rw[all_cons,(a6A c i).2];rfl⟩
   have sm:∀l:List Str,(∀t∈l,t.length=1)->(l.map (·.length)).sum=l.length:=fun l=>by
    induction l with
    |nil=>intro _;rfl
    |cons x r ih=>intro hh;rw[map_cons,sum_cons,ih (fun t ht=>hh t (.tail _ ht)),hh x (.head _),length_cons];exact Nat.add_comm 1 _
   have jo:JoinOk "" ts=true:=a5a (by rw[sm ts fun t ht=>(t1 t ht).1,show(Str.ofString "").length=0 from rfl];omega)
   have jn:mtD .join (h++[.lst (ts.map .str)]) (.str "") [.ref h.length]=.ok (.str (Txt.join "" ts)) (h++[.lst (ts.map .str)]):=by
    simp only[mtD,a2u,a1G];rw[ay jo]
   have sl:(Txt.join "" ts).length=sz:=by
    rw[←r8,a8K,List.length_flatten,aH,←tl];exact(congrArg List.sum (bf fun t _=>r8 t)).trans (sm ts fun t ht=>(t1 t ht).1)
   have ss:(cd (Txt.join "" ts)).all O7=true:=by
    rw[a8K];refine bv.mpr fun x hx=>?_
    obtain⟨q,hq,hm⟩:=mem_flatten.mp hx;obtain⟨t,ht,rfl⟩:=ak.mp hq;exact bv.mp (t1 t ht).2 x hm
   generalize Txt.join "" ts=stem at jn sl ss;rw[seq (env':=[some (.int (c:Int)),some (.int (m:Int)),some (.str abc),some (.int (f1:Int)),some (.int (sz:Int)),some (.int (p:Int)),some (.str stem)]) (h':=h++[.lst (ts.map .str)]) (by simp_arith[mtT,cs,jn])]
   refine⟨_,c1g (stem:=stem) (p:=p) (f:=f1) (m:=m) (by omega) ss (by omega) hm,?_⟩
   have hg:∃t,h++[Cell.lst (ts.map .str)]=h++t:=⟨_,rfl⟩
   have tk:(h++[Cell.lst (ts.map D.str)]).length=h.length+1:=by simp
   have wS:stem.length<=SL:=by show _<=16777216;omega
   have cm:∀g,ev ct (b0 ct F k) cB [some (.int (c:Int)),some (.int (m:Int)),some (.str abc),some (.int (f1:Int)),some (.int (sz:Int)),some (.int (p:Int)),some (.str stem)] g=.ok (.ref g.length) (g++[.lst ((List.range m).map fun i=>.str (nmB stem p f1 i))]):=fun g=>by
    unfold cB;refine a0s (fun i=>.str (nmB stem p f1 i)) (by simp_arith[]) (by omega) fun i hi=>?_
    have m5:U8 g (.int 5) (.int (i:Int))=.ok (.int ((5*i:Nat):Int)) g:=by rw[W0 (by omega)];congr 2
    have a2:((f1:Nat):Int)+((5*i:Nat):Int)=((f1+5*i:Nat):Int):=by omega
    have l1:=Txt.slice_le stem none (some (p:Int));have l2:=Txt.slice_le stem (some (p:Int)) none
    have x1:(⟨#[lt ((f1+5*i)%26)]⟩:Str).length=1:=rfl
    simp_arith[W6,slD,ay wS,op2,m5,o6,a2,m26,b1E (h:=g) (i:=(f1+5*i)%26) (Nat.mod_lt _ (by decide)),o8 (h:=g) (x:=Txt.slice stem none (some (p:Int))) (y:=⟨#[lt ((f1+5*i)%26)]⟩) (by omega),o8 (h:=g) (x:=Txt.slice stem none (some (p:Int))++⟨#[lt ((f1+5*i)%26)]⟩) (y:=Txt.slice stem (some (p:Int)) none) (by rw[n4];omega)]
    rfl
   simp_arith[cm]
   have e:((List.range m).map (nmB stem p f1)).map D.str=(List.range m).map fun i=>D.str (nmB stem p f1 i):=by rw[aH];rfl
   rw[e,aA];exact gc2 (by simp) (by simp) (by rw[←e];exact I0 _)
end
structure Pf(h0 h:AH):Prop where
 len:h0.length<=h.length
 get:∀i,i<h0.length->h[i]? =h0[i]?
theorem Pf.refl(h:AH):Pf h h:=⟨ai _,fun _ _=>rfl⟩
variable{h0:AH}
theorem Pf.app(p:Pf h0 h)(t:AH):Pf h0 (h++t):=⟨by rw[ap];have:=p.len;omega,fun i hi=>by rw[av (aC hi p.len)];exact p.get i hi⟩
theorem Pf.set(p:Pf h0 h){c:Cell}(hn:h0.length<=n):Pf h0 (h.set n c):=⟨by rw[List.length_set];exact p.len,fun i hi=>by rw[List.getElem?_set_ne (by omega)];exact p.get i hi⟩
theorem Pf.trans{a b c:AH}(p:Pf a b)(q:Pf b c):Pf a c:=⟨aR p.len q.len,fun i hi=>(q.get i (aC hi p.len)).trans (p.get i hi)⟩
theorem Pf.take{h0 h:AH}(p:Pf h0 h):h.take h0.length=h0:=by
 refine ext_getElem? fun i=>?_
 by_cases hi:i<h0.length
 · rw[bJ hi,p.get i hi]
 · rw[aZ (by simp;omega),aZ (by omega)]
theorem Pf.at(p:Pf h0 h){c:Cell}(e:h0[i]? =some c):h[i]? =some c:=by
 rw[p.get i (ac.mp e).1];exact e
theorem a1R{k:Nat}{c:Cell}(p:Pf h0 h)(hk:h[k]? =some c)(hl:h0.length<=k)(hc:c.flat=true):gcR 2 h0 (.ok (.ref k) h)=.ok (.ref h0.length) (h0++[c]):=by
 unfold gcR;simp only[hk];simp[hl,hc,p.take]
theorem b9u(p:Pf h0 h)(hd:d.flat=true):gcR 1 h0 (.ok d h)=.ok d h0:=by
 unfold gcR
 simp only
 rw[az (by decide)]
 simp[hd,p.take]
variable{M:Nat}
section
variable{ct:CT}{F:Nat->Option Fn}
theorem z3{g:List (Nat×Cell)}{p:Pat}{body:t9->AH->R Out}(P:Nat->t9->AH->Prop)(gk:∀j env h,P j env h->gOk g h=true):∀(l:List D) (i:Nat) (env:t9) (h:AH),
 (∀j x env h,l[j]? =some x->P (i+j) env h->∃env1 env' h',J2 p x env=some env1/\body env1 h=.ok (.nx env') h'/\P (i+j+1) env' h')->P i env h->∃env' h',Z0 g p body l env h=.ok (.nx env') h'/\P (i+l.length) env' h'
 |[],i,env,h,_,q=>⟨env,h,by rw[Z0,ay (gk _ _ _ q)],q⟩
 | x::r,i,env,h,st,q=>by
  obtain⟨env1,env',h',b1,b2,q'⟩:=st 0 x env h rfl q
  obtain⟨env2,h2,e2,q2⟩:=z3 P gk r (i+1) env' h' (fun j y env h hj hq=>by
   have:=st (j+1) y env h (by simpa using hj) (by rw[show i+(j+1)=i+1+j by omega];exact hq)
   rw[show i+(j+1)+1=i+1+j+1 by omega] at this
   exact this) q'
  refine⟨env2,h2,?_,by rw[length_cons,show i+(r.length+1)=i+1+r.length by omega];exact q2⟩
  rw[Z0,ay (gk _ _ _ q),b1]
  simp only
  rw[b2];exact e2
theorem K3(e:h[n]? =some (.lst xs))(hl:xs.length<1000000):mtD .append h (.ref n) [d]=.ok .non (h.set n (.lst (xs++[d]))):=by
 simp only[mtD,e];rw[ay (show xs.length<16777216 by omega)]
theorem z7(e:h[n]? =some (.lst xs)):mtT .append h (.ref n)=true:=by
 simp only[mtT,rdL,e,Option.isSome_some]
theorem a2T{m:Nat}{x:D}(h:((List.range m).map fun i=>D.int ((0:Int)+(i:Nat)))[j]? =some x):j<m/\x=.int (j:Int):=by
 have hj:j<m:=by
  have:=(ac.mp h).1
  simpa using this
 refine⟨hj,?_⟩
 rw[aj,aJ hj] at h
 have h:=ax h;rw[←h]
 show D.int (0+(j:Int))=_
 rw[Int.zero_add]
noncomputable def shD(sh:List (Str×Nat)):List D:=sh.map fun p=>.tup [.str p.1,.int (p.2:Int)]
structure Shs(sh:List (Str×Nat)):Prop where
 lo:4<=sh.length
 hi:sh.length<=16
 nd:(sh.map (·.1)).Nodup
 ok:∀p∈sh,l0 p.1=true/\p.2<99999
theorem D3:∀{l:List D},(∀d∈l,d.flat=true)->D.flats l=true
 |[],_=>rfl
 |d::r,h=>by rw[D.flats,h d (.head _),D3 fun x hx=>h x (.tail _ hx)];rfl
theorem b1W(sh:List (Str×Nat)):D.flats (shD sh)=true:=D3 fun d hd=>by
 obtain⟨p,_,rfl⟩:=ak.mp hd;rfl
theorem a2m:∀(ns:List Str) (ws:List Nat),a1i (ns.map .str) (ws.map fun w=>.int ((w:Nat):Int))=shD (ns.zip ws)
 |[],_=>rfl
 |_::_,[]=>rfl
 |n::ns,w::ws=>by
  show D.tup [.str n,.int ((w:Nat):Int)]::a1i _ _=_
  rw[a2m ns ws];rfl
theorem b4z{l:List Nat}(hl:l.length=4):∃w,(l.map fun w=>D.int ((w:Nat):Int))[i%4]? =some (.int ((w:Nat):Int))/\w∈l:=by
 have lt:i%4<l.length:=by rw[hl];exact Nat.mod_lt _ (by decide)
 exact⟨l[i%4],by rw[aj,af lt];rfl,bz lt⟩
theorem a9U(he:env[5]? =some (some (.int (M:Int)))):∃w t,w<99999/\ev ct c wE env h=.ok (.int ((w:Nat):Int)) (h++[t]):=by
 have d4:∀h,D1 h (.int (M:Int)) (.int 4)=.ok (.int ((M/4:Nat):Int)) h:=fun h=>Q0 4 (by decide) (by decide)
 have m4:∀h,u8 h (.int (M:Int)) (.int 4)=.ok (.int ((M%4:Nat):Int)) h:=fun h=>F9 4 (by decide)
 have m20:∀(a:Nat) h,u8 h (.int (a:Int)) (.int 20)=.ok (.int ((a%20:Nat):Int)) h:=fun a h=>F9 20 (by decide)
 have m1000:∀(a:Nat) h,u8 h (.int (a:Int)) (.int 1000)=.ok (.int ((a%1000:Nat):Int)) h:=fun a h=>F9 1000 (by decide)
 have m9:∀(a:Nat) h,u8 h (.int (a:Int)) (.int 99999)=.ok (.int ((a%99999:Nat):Int)) h:=fun a h=>F9 99999 (by decide)
 obtain⟨w,h1,h2⟩:=b4z (l:=[0,M/4%20,M/4%1000,M/4%99999]) (i:=M) rfl;refine⟨w,.lst [.int ((0:Nat):Int),.int ((M/4%20:Nat):Int),.int ((M/4%1000:Nat):Int),.int ((M/4%99999:Nat):Int)],?_,?_⟩
 · simp only[aE,not_mem_nil,or_false] at h2
   rcases h2 with rfl|rfl|rfl|rfl
   · decide
   · exact Nat.lt_trans (Nat.mod_lt _ (show 0<20 by decide)) (by decide)
   · exact Nat.lt_trans (Nat.mod_lt _ (show 0<1000 by decide)) (by decide)
   · exact Nat.mod_lt _ (by decide)
 · unfold wE
   have hx:ixD (h++[.lst [.int 0,.int ((M/4%20:Nat):Int),.int ((M/4%1000:Nat):Int),.int ((M/4%99999:Nat):Int)]]) (.ref h.length) (.int ((M%4:Nat):Int))=.ok (.int ((w:Nat):Int)) (h++[.lst [.int 0,.int ((M/4%20:Nat):Int),.int ((M/4%1000:Nat):Int),.int ((M/4%99999:Nat):Int)]]):=B6 b6 h1
   simp_arith[he,op2,d4,m4,m20,m1000,m9,o9,hx];rfl
variable(f202:F 202=some o3)(f203:F 203=some n8)
include f202 f203
theorem a8Z{k:Nat}{c:Int}(hF:F 204=some v8):∃sh,Shs sh/\b0 ct F (k+2) 204 [.int c] h=.ok (.ref h.length) (h++[.lst (shD sh)]):=by
 obtain⟨M,hM⟩:=C0 (ct:=ct) (k:=k) (c:=c) (j:=1) (h:=h) f202 (by decide)
 have d13:D1 h (.int (M:Int)) (.int 13)=.ok (.int ((M/13:Nat):Int)) h:=Q0 13 (by decide) (by decide)
 have m13:u8 h (.int (M:Int)) (.int 13)=.ok (.int ((M%13:Nat):Int)) h:=F9 13 (by decide)
 have a4:(4:Int)+((M%13:Nat):Int)=((4+M%13:Nat):Int):=by omega
 have m16:M%13<13:=Nat.mod_lt _ (by decide)
 obtain⟨ns,nk,hN⟩:=a0c (ct:=ct) (k:=k) (c:=M/13) (m:=4+M%13) (h:=h) f203 (by omega)
 generalize hm:4+M%13=m at nk hN a4;rw[l7 hF rfl];simp only[v8]
 show∃sh,Shs sh/\gcR 2 h (O6 (exs ct (b0 ct F (k+1)) _ [some (.int c),none,none,none,none,none] h))=_
 rw[seq (env':=[some (.int c),some (.int (M:Int)),none,none,none,none]) (h':=h) (by simp_arith[hM])]
 rw[seq (env':=[some (.int c),some (.int (M:Int)),some (.ref h.length),none,none,none]) (h':=h++[.lst (ns.map .str)]) (by simp_arith[op2,d13,m13,o6,a4,hN])]
 have l1:(h++[Cell.lst (ns.map D.str)]).length=h.length+1:=by simp
 rw[seq (env':=[some (.int c),some (.int (M:Int)),some (.ref h.length),some (.ref (h.length+1)),none,none]) (h':=h++[.lst (ns.map .str)]++[.lst []]) (by simp_arith[o9,l1])]
 have gN:(h++[Cell.lst (ns.map D.str)]++[Cell.lst []])[h.length]? =some (.lst (ns.map .str)):=b5 b6
 have gW:(h++[Cell.lst (ns.map D.str)]++[Cell.lst []])[h.length+1]? =some (.lst []):=by rw[←l1];exact b6
 have pf:Pf h (h++[Cell.lst (ns.map D.str)]++[Cell.lst []]):=((Pf.refl h).app _).app _
 generalize h++[Cell.lst (ns.map D.str)]++[Cell.lst []]=g at gN gW pf
 have len:biD .len g [.ref h.length]=.ok (.int (m:Int)) g:=by rw[z9 gN,aa,nk.len]
 obtain⟨env',g',e1,ws,e4,e5,rfl,q2,q3,q4,q5,q6⟩:=z3 (g:=[]) (p:=.nm 4) (body:=exs ct (b0 ct F (k+1)) wB) (fun j env hh=>∃ws:List Nat,∃e4 e5,env=[some (.int c),some (.int (M:Int)),some (.ref h.length),some (.ref (h.length+1)),e4,e5]/\Pf h hh/\hh[h.length]? =some (.lst (ns.map .str))/\hh[h.length+1]? =some (.lst (ws.map fun w=>.int ((w:Nat):Int)))/\ws.length=j/\∀w∈ws,w<99999) (fun _ _ _ _=>rfl) ((List.range m).map fun i=>.int ((0:Int)+(i:Nat))) 0 [some (.int c),some (.int (M:Int)),some (.ref h.length),some (.ref (h.length+1)),none,none] g (fun j x env hh hx hP=>by
  obtain⟨ws,e4,e5,rfl,p1,p2,p3,p4,p5⟩:=hP;obtain⟨hj,rfl⟩:=a2T hx;rw[aB] at p4⊢
  have a10:((j:Nat):Int)+10=((j+10:Nat):Int):=by omega
  obtain⟨N,hN⟩:=C0 (ct:=ct) (k:=k) (c:=c) (j:=((j+10:Nat):Int)) (h:=hh) f202 (by omega)
  obtain⟨w,t,w1,w2⟩:=a9U (ct:=ct) (c:=b0 ct F (k+1)) (M:=N) (env:=[some (.int c),some (.int (M:Int)),some (.ref h.length),some (.ref (h.length+1)),some (.int (j:Int)),some (.int (N:Int))]) (h:=hh) rfl;refine⟨_,[some (.int c),some (.int (M:Int)),some (.ref h.length),some (.ref (h.length+1)),some (.int (j:Int)),some (.int (N:Int))],(hh++[t]).set (h.length+1) (.lst ((ws.map fun w=>D.int ((w:Nat):Int))++[.int ((w:Nat):Int)])),rfl,?_,ws++[w],_,_,rfl,(p1.app _).set (Nat.le_succ _),b7 (by omega) (b5 p2),?_,by rw[ap,p4];rfl,fun x hx=>?_⟩
  · show exs ct (b0 ct F (k+1)) wB [some (.int c),some (.int (M:Int)),some (.ref h.length),some (.ref (h.length+1)),some (.int (j:Int)),e5] hh=_
    unfold wB;rw[seq (env':=[some (.int c),some (.int (M:Int)),some (.ref h.length),some (.ref (h.length+1)),some (.int (j:Int)),some (.int (N:Int))]) (h':=hh) (by simp_arith[op2,o6,a10,hN])]
    simp_arith[z7 p3,w2,K3 (b5 (g:=[t]) p3) (by rw[aa,p4];omega)]
  · rw[u9 (b5 p3)];simp
  · rcases aK.mp hx with hx|hx
    · exact p5 x hx
    · rw[aO.mp hx];exact w1) ⟨[],none,none,rfl,pf,gN,gW,rfl,fun _ h=>nomatch h⟩
 rw[aa,aI,aB] at q5;rw[seq (env':=[some (.int c),some (.int (M:Int)),some (.ref h.length),some (.ref (h.length+1)),e4,e5]) (h':=g') (by simp_arith[len,a1J (h:=g) (m:=m) (by omega),e1])]
 have cz:=A9 (ct:=ct) (c:=b0 ct F (k+1)) (p:=.tp (.cons (.nm 0) (.cons (.nm 1) .nil))) (it:=.zip (.v 2) (.v 3)) (n:=2) (fr:=[]) (e:=.tup (.cons (.v 0) (.cons (.v 1) .nil))) (env:=[some (.int c),some (.int (M:Int)),some (.ref h.length),some (.ref (h.length+1)),e4,e5]) (h:=g') (l:=a1i (ns.map .str) (ws.map fun w=>.int ((w:Nat):Int))) (g:=[(h.length,.lst (ns.map .str)),(h.length+1,.lst (ws.map fun w=>.int ((w:Nat):Int)))]) (h1:=g') (by simp_arith[b2T,a6m,q3,q4]) (by simp[gOk,q3,q4]) id (fun d=>match d with|.tup [a,b]=>[some a,some b]|_=>[]) (fun x hx=>by
  rw[a2m] at hx;obtain⟨p,_,rfl⟩:=ak.mp hx;refine⟨rfl,?_⟩
  simp_arith[id]) (by
  rw[a2m];unfold shD;rw[aa,List.length_zip]
  show _<=16777216
  have:=nk.len
  omega)
 rw[map_id,a2m] at cz
 have zl:(ns.zip ws).length=m:=by rw[List.length_zip,nk.len,q5];omega
 have zf:(ns.zip ws).map (·.1)=ns:=by
  rw[List.map_fst_zip];rw[nk.len,q5];exact ai _
 refine⟨ns.zip ws,⟨by omega,by omega,by rw[zf];exact nk.nd,fun p hp=>⟨nk.ok _ (of_mem_zip hp).1,q6 _ (of_mem_zip hp).2⟩⟩,?_⟩
 simp_arith[cz];exact a1R (q2.app _) b6 q2.len (b1W _)
end
noncomputable def spD(p:Int×Int):D:=.tup [.int p.1,.int p.2]
def a0v(p:Int×Int):Prop:=(-99999<=p.1/\p.1<=99999)/\ -99999<=p.2/\p.2<=99999
structure Mk where
 n:Str
 s:Str
 a:Int×Int
 b:Int×Int
def mkD(m:Mk):D:=.tup [.str m.n,.str m.s,spD m.a,spD m.b]
def Y4(s:Str):Prop:=s="above"∨s="below"
variable{sh:List (Str×Nat)}
theorem a6V(hj:j<sh.length):(shD sh)[j]? =some (.tup [.str (sh[j]).1,.int ((sh[j]).2:Int)]):=by
 unfold shD;rw[aj,af hj]
 rfl
theorem ix_tup(hd:xs[i]? =some d):ixD h (.tup xs) (.int (i:Nat))=.ok d h:=by
 have hi:=(ac.mp hd).1
 have:atI xs (i:Int)=some d:=by
  show(ixN xs.length (i:Int)).bind (fun j=>xs[j]?)=some d
  have e:ixN xs.length (i:Int)=some i:=by
   unfold ixN;rw[ay (by omega),ay (by omega)]
   simp
  rw[e];exact hd
 simp only[ixD,this]
theorem a2F{a:D}{r:List D}:ixD h (.tup (a::r)) (.int 0)=.ok a h:=ix_tup (i:=0) rfl
variable{β:Type}{s:Nat}
section
variable{ct:CT}{F:Nat->Option Fn}
theorem a4A{k m:Nat}(hF:F 205=some u6):∃p,a0v p/\b0 ct F (k+1) 205 [.int (m:Int)] h=.ok (spD p) h:=by
 have m41:∀h,u8 h (.int (m:Int)) (.int 41)=.ok (.int ((m%41:Nat):Int)) h:=fun h=>F9 41 (by decide)
 have d41:∀h,D1 h (.int (m:Int)) (.int 41)=.ok (.int ((m/41:Nat):Int)) h:=fun h=>Q0 41 (by decide) (by decide)
 have d7:∀h,D1 h (.int (m:Int)) (.int 7)=.ok (.int ((m/7:Nat):Int)) h:=fun h=>Q0 7 (by decide) (by decide)
 have m9:∀(a:Nat) h,u8 h (.int (a:Int)) (.int 99999)=.ok (.int ((a%99999:Nat):Int)) h:=fun a h=>F9 99999 (by decide)
 have m3:∀(a:Nat) h,u8 h (.int (a:Int)) (.int 3)=.ok (.int ((a%3:Nat):Int)) h:=fun a h=>F9 3 (by decide)
 have sb:∀h,a6c h (.int ((m%41:Nat):Int)) (.int 20)=.ok (.int (((m%41:Nat):Int)-20)) h:=fun h=>rfl
 have l9:m/41%99999<99999:=Nat.mod_lt _ (by decide)
 have l41:m%41<41:=Nat.mod_lt _ (by decide)
 have ix:∃y:Int,(-99999<=y/\y<=99999)/\([.int 0,.int ((m/41%99999:Nat):Int),.int (-((m/41%99999:Nat):Int))]:List D)[m/7%3]? =some (.int y):=by
  have:m/7%3=0∨m/7%3=1∨m/7%3=2:=by omega
  rcases this with e|e|e<;>rw[e]
  · exact⟨0,by decide,rfl⟩
  · exact⟨_,by omega,rfl⟩
  · exact⟨_,by omega,rfl⟩
 obtain⟨y,y1,y2⟩:=ix;refine⟨(((m%41:Nat):Int)-20,y),⟨by simp only;omega,y1⟩,?_⟩
 have hx:ixD (h++[.lst [.int 0,.int ((m/41%99999:Nat):Int),.int (-((m/41%99999:Nat):Int))]]) (.ref h.length) (.int ((m/7%3:Nat):Int))=.ok (.int y) (h++[.lst [.int 0,.int ((m/41%99999:Nat):Int),.int (-((m/41%99999:Nat):Int))]]):=B6 b6 y2
 rw[l7 hF rfl];simp only[u6];simp_arith[op2,m41,sb,d41,m9,d7,m3,o9,hx];exact gc1 rfl
theorem b3s(he:env[4]? =some (some (.int (M:Int)))):∃s t,Y4 s/\ev ct c b0q env h=.ok (.str s) (h++[t]):=by
 have d4:∀h,D1 h (.int (M:Int)) (.int 4)=.ok (.int ((M/4:Nat):Int)) h:=fun h=>Q0 4 (by decide) (by decide)
 have m2:∀(a:Nat) h,u8 h (.int (a:Int)) (.int 2)=.ok (.int ((a%2:Nat):Int)) h:=fun a h=>F9 2 (by decide)
 have ix:∃s:Str,Y4 s/\([.str "above",.str "below"]:List D)[M/4%2]? =some (.str s):=by
  have:M/4%2=0∨M/4%2=1:=by omega
  rcases this with e|e<;>rw[e]
  · exact⟨"above",.inl rfl,rfl⟩
  · exact⟨"below",.inr rfl,rfl⟩
 obtain⟨s,s1,s2⟩:=ix;refine⟨s,.lst [.str "above",.str "below"],s1,?_⟩
 have hx:ixD (h++[.lst [.str "above",.str "below"]]) (.ref h.length) (.int ((M/4%2:Nat):Int))=.ok (.str s) (h++[.lst [.str "above",.str "below"]]):=B6 b6 s2
 unfold b0q;simp_arith[he,op2,d4,m2,o9,hx]
theorem b1Z(ms:List Mk):D.flats (ms.map mkD)=true:=D3 fun d hd=>by
 obtain⟨p,_,rfl⟩:=ak.mp hd;rfl
theorem a5K{f:α->β}{l:List α}(hj:j<l.length){r:List β}(h:r.Sublist ((l.take j).map f)):r.Sublist ((l.take (j+1)).map f)/\(r++[f l[j]]).Sublist ((l.take (j+1)).map f):=by
 rw[take_succ_eq_append_getElem hj,ao];exact⟨h.trans (List.sublist_append_left _ _),h.append (List.Sublist.refl _)⟩
variable(f202:F 202=some o3)(f205:F 205=some u6)
include f202 f205
theorem b1r{k:Nat}{c:Int}(hF:F 206=some z5)(hs:Shs sh)(hh:h[s]? =some (.lst (shD sh))):∃ms:List Mk,(ms.map (·.n)).Sublist (sh.map (·.1))/\(∀m∈ms,Y4 m.s/\a0v m.a/\a0v m.b)/\b0 ct F (k+2) 206 [.int c,.ref s] h=.ok (.ref h.length) (h++[.lst (ms.map mkD)]):=by
 have sl:s<h.length:=(ac.mp hh).1
 have hi:=hs.hi;rw[l7 hF rfl];simp only[z5]
 show∃ms:List Mk,_/\_/\gcR 2 h (O6 (exs ct (b0 ct F (k+1)) _ [some (.int c),some (.ref s),none,none,none,none] h))=_
 rw[seq (env':=[some (.int c),some (.ref s),some (.ref h.length),none,none,none]) (h':=h++[.lst []]) (by simp_arith[o9])]
 have len:biD .len (h++[.lst []]) [.ref s]=.ok (.int (sh.length:Int)) (h++[.lst []]):=by rw[z9 (b5 hh)];unfold shD;rw[aa]
 obtain⟨env',g',e1,ms,e3,e4,e5,rfl,q2,q3,q4,q5⟩:=z3 (g:=[]) (p:=.nm 3) (body:=exs ct (b0 ct F (k+1)) mkB) (fun j env g=>∃ms:List Mk,∃e3 e4 e5,env=[some (.int c),some (.ref s),some (.ref h.length),e3,e4,e5]/\Pf h g/\g[h.length]? =some (.lst (ms.map mkD))/\(ms.map (·.n)).Sublist ((sh.take j).map (·.1))/\∀m∈ms,Y4 m.s/\a0v m.a/\a0v m.b) (fun _ _ _ _=>rfl) ((List.range sh.length).map fun i=>.int ((0:Int)+(i:Nat))) 0 [some (.int c),some (.ref s),some (.ref h.length),none,none,none] (h++[.lst []]) (fun j x env g hx hP=>by
  obtain⟨ms,e3,e4,e5,rfl,p1,p2,p3,p4⟩:=hP;obtain⟨hj,rfl⟩:=a2T hx;rw[aB] at p3⊢;obtain⟨t1,t2⟩:=a5K hj p3
  have a40:((j:Nat):Int)+40=((j+40:Nat):Int):=by omega
  obtain⟨N,hN⟩:=C0 (ct:=ct) (k:=k) (c:=c) (j:=((j+40:Nat):Int)) (h:=g) f202 (by omega)
  have m4:u8 g (.int (N:Int)) (.int 4)=.ok (.int ((N%4:Nat):Int)) g:=F9 4 (by decide)
  show∃env1 env' h',_/\exs ct (b0 ct F (k+1)) mkB env1 g=_/\_
  unfold mkB
  by_cases hb:((N%4:Nat):Int)=1
  · have q1:K4 g (.int ((N%4:Nat):Int)) (.int 1)=.ok (.bl true) g:=by rw[hb];rfl
    obtain⟨sd,t,s1,s2⟩:=b3s (ct:=ct) (c:=b0 ct F (k+1)) (M:=N) (env:=[some (.int c),some (.ref s),some (.ref h.length),some (.int (j:Int)),some (.int (N:Int)),e5]) (h:=g) rfl;obtain⟨pa,a1,a2⟩:=a4A (ct:=ct) (k:=k) (m:=N/8) (h:=g++[t]) f205;obtain⟨pb,b1,b2⟩:=a4A (ct:=ct) (k:=k) (m:=N/8000) (h:=g++[t]) f205
    have d8:D1 (g++[t]) (.int (N:Int)) (.int 8)=.ok (.int ((N/8:Nat):Int)) (g++[t]):=Q0 8 (by decide) (by decide)
    have d8k:D1 (g++[t]) (.int (N:Int)) (.int 8000)=.ok (.int ((N/8000:Nat):Int)) (g++[t]):=Q0 8000 (by decide) (by decide)
    have sx:ixD (g++[t]) (.ref s) (.int (j:Int))=.ok (.tup [.str (sh[j]).1,.int ((sh[j]).2:Int)]) (g++[t]):=B6 (b5 (p1.at hh)) (a6V hj)
    have ml:(ms.map mkD).length<1000000:=by
     have:=t1.length_le
     rw[aa] at this⊢;rw[aa,aM] at this;omega
    refine⟨_,[some (.int c),some (.ref s),some (.ref h.length),some (.int (j:Int)),some (.int (N:Int)),some (.str sd)],(g++[t]).set h.length (.lst (ms.map mkD++[mkD ⟨(sh[j]).1,sd,pa,pb⟩])),rfl,?_,ms++[⟨(sh[j]).1,sd,pa,pb⟩],_,_,_,rfl,(p1.app _).set (ai _),?_,?_,fun m hm=>?_⟩
    · show exs ct (b0 ct F (k+1)) _ [some (.int c),some (.ref s),some (.ref h.length),some (.int (j:Int)),e4,e5] g=_
      rw[seq (env':=[some (.int c),some (.ref s),some (.ref h.length),some (.int (j:Int)),some (.int (N:Int)),e5]) (h':=g) (by simp_arith[op2,o6,a40,hN])]
      unfold b8Z;simp_arith[op2,m4,q1,s2,z7 (b5 (g:=[t]) p2),sx,a2F,d8,a2,d8k,b2,K3 (b5 (g:=[t]) p2) ml,mkD]
    · rw[u9 (b5 p2),ao];rfl
    · rw[ao];exact t2
    · rcases aK.mp hm with hm|hm
      · exact p4 m hm
      · rw[aO.mp hm];exact⟨s1,a1,b1⟩
  · have q1:K4 g (.int ((N%4:Nat):Int)) (.int 1)=.ok (.bl false) g:=by simp only[K4,eqS,hb,decide_false]
    refine⟨_,[some (.int c),some (.ref s),some (.ref h.length),some (.int (j:Int)),some (.int (N:Int)),e5],g,rfl,?_,ms,_,_,_,rfl,p1,p2,t1,p4⟩
    show exs ct (b0 ct F (k+1)) _ [some (.int c),some (.ref s),some (.ref h.length),some (.int (j:Int)),e4,e5] g=_
    rw[seq (env':=[some (.int c),some (.ref s),some (.ref h.length),some (.int (j:Int)),some (.int (N:Int)),e5]) (h':=g) (by simp_arith[op2,o6,a40,hN])]
    simp_arith[op2,m4,q1]) ⟨[],none,none,none,rfl,(Pf.refl h).app _,b6,List.nil_sublist _,fun _ h=>nomatch h⟩
 rw[aa,aI,aB,bp] at q4;refine⟨ms,q4,q5,?_⟩
 rw[seq (env':=[some (.int c),some (.ref s),some (.ref h.length),e3,e4,e5]) (h':=g') (by simp_arith[len,a1J (h:=h++[.lst []]) (m:=sh.length) (by omega),e1])]
 simp_arith[];exact a1R q2 q3 (ai _) (b1Z _)
end
structure Pt where
 n:Str
 s:Str
 a:Int×Int
def ptD(p:Pt):D:=.tup [.str p.n,.str p.s,spD p.a]
def ptK(p:Pt):Str×Str:=(p.n,p.s)
theorem b1Y(ms:List Pt):D.flats (ms.map ptD)=true:=D3 fun d hd=>by
 obtain⟨p,_,rfl⟩:=ak.mp hd;rfl
section
variable{ct:CT}{F:Nat->Option Fn}
theorem a8Y(N:Nat):∃l:List Str,U0 [.str "above",.str "below"] (some ((N%2:Nat):Int)) none=l.map .str/\l.Nodup/\(∀s∈l,Y4 s)/\l.length<=2:=by
 have:N%2=0∨N%2=1:=by omega
 rw[V3]
 rcases this with e|e<;>rw[e]
 · exact⟨["above","below"],rfl,by decide,fun s hs=>by
    simp only[aE,not_mem_nil,or_false] at hs;exact hs,by decide⟩
 · exact⟨["below"],rfl,by decide,fun s hs=>.inr (aO.mp hs),by decide⟩
variable(f202:F 202=some o3)(f205:F 205=some u6)
include f205
theorem b0K{k a N:Nat}{c:Int}{ps:List Pt}{l:List Str}(hh:h[s]? =some (.lst (shD sh)))(hj:j<sh.length)(ha:a=h.length)(hn:a<n)(p1:Pf h g)(p2:g[a]? =some (.lst (ps.map ptD)))(p3:g[n]? =some (.lst (l.map .str)))(hl:ps.length<=1000)(l2:l.length<=2)(e5:Option D)(sd:∀s∈l,Y4 s):
 ∃qs e5' g',Z0 [(n,.lst (l.map .str))] (.nm 5) (exs ct (b0 ct F (k+1)) b0N) (l.map .str) [some (.int c),some (.ref s),some (.ref a),some (.int (j:Int)),some (.int (N:Int)),e5] g=.ok (.nx [some (.int c),some (.ref s),some (.ref a),some (.int (j:Int)),some (.int (N:Int)),e5']) g'/\Pf h g'/\g'[a]? =some (.lst ((ps++qs).map ptD))/\(qs.map ptK).Sublist (l.map fun s=>((sh[j]).1,s))/\∀q∈qs,Y4 q.s/\a0v q.a:=by
 obtain⟨env',g',e1,qs,e5',rfl,q1,q2,q3,q4,q5⟩:=z3 (g:=[(n,.lst (l.map .str))]) (p:=.nm 5) (body:=exs ct (b0 ct F (k+1)) b0N) (fun i env gg=>∃qs:List Pt,∃e5,env=[some (.int c),some (.ref s),some (.ref a),some (.int (j:Int)),some (.int (N:Int)),e5]/\Pf h gg/\gg[a]? =some (.lst ((ps++qs).map ptD))/\gg[n]? =some (.lst (l.map .str))/\(qs.map ptK).Sublist ((l.take i).map fun s=>((sh[j]).1,s))/\∀q∈qs,Y4 q.s/\a0v q.a) (fun i env gg hP=>by
  obtain⟨_,_,_,_,_,h3,_⟩:=hP;simp[gOk,h3]) (l.map .str) 0 [some (.int c),some (.ref s),some (.ref a),some (.int (j:Int)),some (.int (N:Int)),e5] g (fun i x env gg hx hP=>by
  obtain⟨qs,e5,rfl,r1,r2,r3,r4,r5⟩:=hP
  have hi:i<l.length:=by simpa using(ac.mp hx).1
  rw[aj,af hi] at hx
  obtain rfl:D.str l[i]=x:=ax hx;rw[aB] at r4⊢;obtain⟨t1,t2⟩:=a5K (f:=fun s=>((sh[j]).1,s)) hi r4
  have d2:∀h,D1 h (.int (N:Int)) (.int 2)=.ok (.int ((N/2:Nat):Int)) h:=fun h=>Q0 2 (by decide) (by decide)
  have m3:∀(a:Nat) h,u8 h (.int (a:Int)) (.int 3)=.ok (.int ((a%3:Nat):Int)) h:=fun a h=>F9 3 (by decide)
  have d6:D1 gg (.int (N:Int)) (.int 6)=.ok (.int ((N/6:Nat):Int)) gg:=Q0 6 (by decide) (by decide)
  show∃env1 env' h',_/\exs ct (b0 ct F (k+1)) b0N env1 gg=_/\_
  unfold b0N
  by_cases hb:(0:Int)<((N/2%3:Nat):Int)
  · obtain⟨p,a1,a2⟩:=a4A (ct:=ct) (k:=k) (m:=N/6) (h:=gg) f205
    have sx:ixD gg (.ref s) (.int (j:Int))=.ok (.tup [.str (sh[j]).1,.int ((sh[j]).2:Int)]) gg:=B6 (r1.at hh) (a6V hj)
    have ml:((ps++qs).map ptD).length<1000000:=by
     have:=t1.length_le
     rw[aa,ap];rw[aa,aa,aM] at this;omega
    refine⟨_,[some (.int c),some (.ref s),some (.ref a),some (.int (j:Int)),some (.int (N:Int)),some (.str l[i])],gg.set a (.lst ((ps++qs).map ptD++[ptD ⟨(sh[j]).1,l[i],p⟩])),rfl,?_,qs++[⟨(sh[j]).1,l[i],p⟩],_,rfl,r1.set (by omega),?_,b7 (by omega) r3,?_,fun q hq=>?_⟩
    · show exs ct (b0 ct F (k+1)) _ [some (.int c),some (.ref s),some (.ref a),some (.int (j:Int)),some (.int (N:Int)),some (.str l[i])] gg=_
      simp_arith[op2,d2,m3,E4,hb,decide_true,z7 r2,sx,a2F,d6,a2,K3 r2 ml,ptD]
    · rw[u9 r2,←aA,ao (l₁:=ps++qs)];rfl
    · rw[ao];exact t2
    · rcases aK.mp hq with hq|hq
      · exact r5 q hq
      · rw[aO.mp hq];exact⟨sd _ (bz hi),a1⟩
  · refine⟨_,[some (.int c),some (.ref s),some (.ref a),some (.int (j:Int)),some (.int (N:Int)),some (.str l[i])],gg,rfl,?_,qs,_,rfl,r1,r2,r3,t1,r5⟩
    show exs ct (b0 ct F (k+1)) _ [some (.int c),some (.ref s),some (.ref a),some (.int (j:Int)),some (.int (N:Int)),some (.str l[i])] gg=_
    simp_arith[op2,d2,m3,E4,hb,decide_false]) ⟨[],e5,rfl,p1,by rw[bj];exact p2,p3,List.nil_sublist _,fun _ h=>nomatch h⟩
 rw[aa,aB,bp] at q4;exact⟨qs,e5',g',e1,q1,q2,q4,q5⟩
include f202
theorem a9j{k:Nat}{c:Int}(hF:F 207=some w5)(hs:Shs sh)(hh:h[s]? =some (.lst (shD sh))):∃ps:List Pt,(ps.map ptK).Nodup/\ps.length<=100/\(∀p∈ps,p.n∈sh.map (·.1)/\Y4 p.s/\a0v p.a)/\b0 ct F (k+2) 207 [.int c,.ref s] h=.ok (.ref h.length) (h++[.lst (ps.map ptD)]):=by
 have hi:=hs.hi;rw[l7 hF rfl];simp only[w5]
 show∃ps:List Pt,_/\_/\_/\gcR 2 h (O6 (exs ct (b0 ct F (k+1)) _ [some (.int c),some (.ref s),none,none,none,none] h))=_
 rw[seq (env':=[some (.int c),some (.ref s),some (.ref h.length),none,none,none]) (h':=h++[.lst []]) (by simp_arith[o9])]
 have len:biD .len (h++[.lst []]) [.ref s]=.ok (.int (sh.length:Int)) (h++[.lst []]):=by rw[z9 (b5 hh)];unfold shD;rw[aa]
 obtain⟨env',g',e1,ps,e3,e4,e5,rfl,q2,q3,q4,q5,q6,q7⟩:=z3 (g:=[]) (p:=.nm 3) (body:=exs ct (b0 ct F (k+1)) ptB) (fun j env g=>∃ps:List Pt,∃e3 e4 e5,env=[some (.int c),some (.ref s),some (.ref h.length),e3,e4,e5]/\Pf h g/\g[h.length]? =some (.lst (ps.map ptD))/\(ps.map ptK).Nodup/\ps.length<=2*j/\(∀p∈ps,p.n∈(sh.take j).map (·.1))/\∀p∈ps,Y4 p.s/\a0v p.a) (fun _ _ _ _=>rfl) ((List.range sh.length).map fun i=>.int ((0:Int)+(i:Nat))) 0 [some (.int c),some (.ref s),some (.ref h.length),none,none,none] (h++[.lst []]) (fun j x env g hx hP=>by
  obtain⟨ps,e3,e4,e5,rfl,p1,p2,p3,p4,p5,p6⟩:=hP;obtain⟨hj,rfl⟩:=a2T hx;rw[aB] at p4 p5⊢
  have a70:((j:Nat):Int)+70=((j+70:Nat):Int):=by omega
  obtain⟨N,hN⟩:=C0 (ct:=ct) (k:=k) (c:=c) (j:=((j+70:Nat):Int)) (h:=g) f202 (by omega)
  have m2:∀h,u8 h (.int (N:Int)) (.int 2)=.ok (.int ((N%2:Nat):Int)) h:=fun h=>F9 2 (by decide)
  obtain⟨l,l1,l2,l3,l4⟩:=a8Y N
  have sl:slD (g++[.lst [.str "above",.str "below"]]) (some ((N%2:Nat):Int)) none (.ref g.length)=.ok (.ref (g.length+1)) (g++[.lst [.str "above",.str "below"]]++[.lst (l.map .str)]):=by
   rw[T7 b6,l1];simp
  have gl:h.length<g.length:=(ac.mp p2).1
  have gn:(g++[Cell.lst [.str "above",.str "below"]]++[.lst (l.map .str)])[g.length+1]? =some (.lst (l.map .str)):=by
   have:=b6 (h:=g++[Cell.lst [.str "above",.str "below"]]) (c:=.lst (l.map .str))
   rw[ap] at this;exact this
  obtain⟨qs,e5',g2,f1,f2,f3,f4,f5⟩:=b0K (ct:=ct) (k:=k) (c:=c) (N:=N) f205 hh hj rfl (Nat.lt_trans gl (aV _)) ((p1.app _).app _) (b5 (b5 p2)) gn (by omega) l4 e5 l3
  have nw:(sh[j]).1∉(sh.take j).map (·.1):=fun hm=>by
   have nd:=hs.nd;rw[←take_append_drop j sh,drop_eq_getElem_cons hj,ao,map_cons] at nd
   have:=nodup_append.mp nd
   exact this.2.2 _ hm _ (.head _) rfl
  refine⟨_,[some (.int c),some (.ref s),some (.ref h.length),some (.int (j:Int)),some (.int (N:Int)),e5'],g2,rfl,?_,ps++qs,_,_,_,rfl,f2,f3,?_,?_,fun p hp=>?_,fun p hp=>?_⟩
  · show exs ct (b0 ct F (k+1)) ptB [some (.int c),some (.ref s),some (.ref h.length),some (.int (j:Int)),e4,e5] g=_
    unfold ptB;rw[seq (env':=[some (.int c),some (.ref s),some (.ref h.length),some (.int (j:Int)),some (.int (N:Int)),e5]) (h':=g) (by simp_arith[op2,o6,a70,hN])]
    simp_arith[o9,op2,m2,sl,V5,gn,f1]
  · rw[ao];refine nodup_append.mpr ⟨p3,f4.nodup (a0A _ l2 fun a _ b _ e=>(Prod.mk.inj e).2),fun a ha b hb e=>?_⟩
    obtain⟨p,hp,rfl⟩:=ak.mp ha;have hb:=f4.subset hb;obtain⟨y,_,rfl⟩:=ak.mp hb;refine nw ?_
    have e1:p.n=(sh[j]).1:=(Prod.mk.inj e).1
    rw[←e1];exact p5 p hp
  · have:=f4.length_le
    rw[aa,aa] at this;rw[ap];omega
  · rw[take_succ_eq_append_getElem hj,ao]
    rcases aK.mp hp with hp|hp
    · exact List.mem_append_left _ (p5 p hp)
    · have:=f4.subset (List.mem_map_of_mem hp)
      obtain⟨y,_,e⟩:=ak.mp this;refine mem_append_right _ ?_
      have e1:(sh[j]).1=p.n:=(Prod.mk.inj e).1
      rw[←e1];exact .head _
  · rcases aK.mp hp with hp|hp
    · exact p6 p hp
    · exact f5 p hp) ⟨[],none,none,none,rfl,(Pf.refl h).app _,b6,nodup_nil,Nat.zero_le _,(fun _ h=>nomatch h),fun _ h=>nomatch h⟩
 rw[aa,aI,aB] at q5 q6;rw[bp] at q6;refine⟨ps,q4,by omega,fun p hp=>⟨q6 p hp,q7 p hp⟩,?_⟩
 rw[seq (env':=[some (.int c),some (.ref s),some (.ref h.length),e3,e4,e5]) (h':=g') (by simp_arith[len,a1J (h:=h++[.lst []]) (m:=sh.length) (by omega),e1])]
 simp_arith[];exact a1R q2 q3 (ai _) (b1Y _)
end
noncomputable def pk(sh:List (Str×Nat))(x:Nat):Str:=match sh[x%sh.length]? with
 |some p=>p.1
 |none=>""
theorem a8a(hs:4<=sh.length)(x:Nat):pk sh x∈sh.map (·.1)/\∃w,(shD sh)[x%sh.length]? =some (.tup [.str (pk sh x),w]):=by
 have lt:x%sh.length<sh.length:=Nat.mod_lt _ (by omega)
 unfold pk;rw[af lt]
 exact⟨List.mem_map_of_mem (bz lt),_,a6V lt⟩
structure Lt where
 n:Str
 j:Str
 w:Str
 fs:List Str
noncomputable def ltD(l:Lt):D:=.tup [.str l.n,.str l.j,.str l.w,.tup (l.fs.map .str)]
structure LtOk(sh:List (Str×Nat))(l:Lt):Prop where
 nm:l0 l.n=true
 jn:n9 a6n (.str l.j)=some (.int l.fs.length)
 few:1<=l.fs.length/\l.fs.length<=4
 wy:inD (.str l.w) [.str "left",.str "right",.str "either"]=true
 js:l.j="both"∨l.j="back"∨l.j="none"∨l.j="clear"
 ws:l.w="left"∨l.w="right"∨l.w="either"
 fs:∀f∈l.fs,f∈sh.map (·.1)
theorem b2a(ms:List Lt):D.flats (ms.map ltD)=true:=D3 fun d hd=>by
 obtain⟨p,_,rfl⟩:=ak.mp hd
 show D.flats [.str p.n,.str p.j,.str p.w,.tup (p.fs.map .str)]=true
 simp only[D.flats,D.flat,I0,Bool.and_self]
noncomputable def jnL:List Str:=["both","back","none","both","clear","both"]
theorem b9c(i:Nat):∃j n,jnL[i%6]? =some j/\n9 jnD (.str j)=some (.int ((n:Nat):Int))/\w8 (.str j) jnD=true/\n9 a6n (.str j)=some (.int ((n:Nat):Int))/\(1<=n/\n<=4)/\(j="both"∨j="back"∨j="none"∨j="clear"):=by
 have:i%6=0∨i%6=1∨i%6=2∨i%6=3∨i%6=4∨i%6=5:=(by decide:∀r:Nat,r<6->r=0∨r=1∨r=2∨r=3∨r=4∨r=5) (i%6) (Nat.mod_lt i (by decide))
 rcases this with e|e|e|e|e|e<;>rw[e]
 · exact⟨"both",4,rfl,by decide,by decide,by decide,by decide,.inl rfl⟩
 · exact⟨"back",2,rfl,by decide,by decide,by decide,by decide,.inr (.inl rfl)⟩
 · exact⟨"none",1,rfl,by decide,by decide,by decide,by decide,.inr (.inr (.inl rfl))⟩
 · exact⟨"both",4,rfl,by decide,by decide,by decide,by decide,.inl rfl⟩
 · exact⟨"clear",1,rfl,by decide,by decide,by decide,by decide,.inr (.inr (.inr rfl))⟩
 · exact⟨"both",4,rfl,by decide,by decide,by decide,by decide,.inl rfl⟩
noncomputable def wyL:List Str:=["left","right","either"]
theorem b8f(i:Nat):∃w,wyL[i%3]? =some w/\inD (.str w) [.str "left",.str "right",.str "either"]=true/\(w="left"∨w="right"∨w="either"):=by
 have:i%3=0∨i%3=1∨i%3=2:=by omega
 rcases this with e|e|e<;>rw[e]
 · exact⟨"left",rfl,by decide,.inl rfl⟩
 · exact⟨"right",rfl,by decide,.inr (.inl rfl)⟩
 · exact⟨"either",rfl,by decide,.inr (.inr rfl)⟩
variable{kvs:List (D×D)}{ls:List Lt}
section
variable{ct:CT}{F:Nat->Option Fn}
theorem b4J:ev ct c (.dlit kvs) env h=o9 (.dict kvs) h:=by(rw[ev];try rfl)
theorem a7k(hh:g[s]? =some (.lst (shD sh))):biD .len g [.ref s]=.ok (.int (sh.length:Int)) g:=by rw[z9 hh];unfold shD;rw[aa]
theorem b1D{x:Nat}(hs:4<=sh.length)(hh:g[s]? =some (.lst (shD sh))):∃w,ixD g (.ref s) (.int ((x%sh.length:Nat):Int))=.ok (.tup [.str (pk sh x),w]) g:=by
 obtain⟨_,w,e⟩:=a8a hs x;exact⟨w,B6 hh e⟩
theorem b2f{N m:Nat}(hs:4<=sh.length)(hh:g[s]? =some (.lst (shD sh)))(e1:env[1]? =some (some (.ref s)))(e6:env[6]? =some (some (.int (N:Int))))(e8:env[8]? =some (some (.int (m:Int))))(hm:m<=1000):
 ev ct c fcE env g=.ok (.ref g.length) (g++[.lst ((List.range m).map fun i=>.str (pk sh (N/(i*i*31+7))))]):=by
 unfold fcE;refine a0s (fun i=>.str (pk sh (N/(i*i*31+7)))) (by simp_arith[e8]) (by omega) fun i hi=>?_
 have ii:i*i<=1000000:=Nat.mul_le_mul (show i<=1000 by omega) (show i<=1000 by omega)
 have m1:U8 g (.int (i:Int)) (.int (i:Int))=.ok (.int ((i*i:Nat):Int)) g:=by rw[W0 (by omega)];congr 2
 have m2:U8 g (.int ((i*i:Nat):Int)) (.int 31)=.ok (.int ((i*i*31:Nat):Int)) g:=by rw[W0 (by decide)];congr 2
 have a7:((i*i*31:Nat):Int)+7=((i*i*31+7:Nat):Int):=by omega
 obtain⟨w,ix⟩:=b1D (x:=N/(i*i*31+7)) hs hh;simp_arith[e1,e6,W6,op2,m1,m2,o6,a7,Q0 (i*i*31+7) (by omega) (by omega),a7k hh,F9 sh.length (by omega),ix,a2F]
variable(f202:F 202=some o3)(f203:F 203=some n8)
include f202
theorem a6k{k a N0:Nat}{c:Int}{ns:List Str}(hs:4<=sh.length)(hh:h[s]? =some (.lst (shD sh)))(hj:j<ns.length)(n6:ns.length<=100)(ll:ls.length<=1000)(hn:l0 ns[j]=true)(ha:a=h.length)(p1:Pf h g)(p2:g[a]? =some (.lst (ns.map .str)))(p3:g[a+1]? =some (.lst (ls.map ltD)))(e6 e7 e8 e9:Option D):
 ∃l x6 x7 x8 x9 g',LtOk sh l/\l.n=ns[j]/\exs ct (b0 ct F (k+1)) lB [some (.int c),some (.ref s),some (.int (N0:Int)),some (.ref a),some (.ref (a+1)),some (.int (j:Int)),e6,e7,e8,e9] g=.ok (.nx [some (.int c),some (.ref s),some (.int (N0:Int)),some (.ref a),some (.ref (a+1)),some (.int (j:Int)),x6,x7,x8,x9]) g'/\Pf h g'/\g'[a]? =some (.lst (ns.map .str))/\g'[a+1]? =some (.lst ((ls++[l]).map ltD)):=by
 have a100:((j:Nat):Int)+100=((j+100:Nat):Int):=by omega
 obtain⟨N,hN⟩:=C0 (ct:=ct) (k:=k) (c:=c) (j:=((j+100:Nat):Int)) (h:=g) f202 (by omega)
 obtain⟨jn,m,j1,j2,j3,j4,j5,j6⟩:=b9c N;obtain⟨wy,w1,w2,w3⟩:=b8f (N/6)
 have m6:∀h,u8 h (.int (N:Int)) (.int 6)=.ok (.int ((N%6:Nat):Int)) h:=fun h=>F9 6 (by decide)
 have d6:∀h,D1 h (.int (N:Int)) (.int 6)=.ok (.int ((N/6:Nat):Int)) h:=fun h=>Q0 6 (by decide) (by decide)
 have m3:∀(a:Nat) h,u8 h (.int (a:Int)) (.int 3)=.ok (.int ((a%3:Nat):Int)) h:=fun a h=>F9 3 (by decide)
 have je:∀(env:t9) (h:AH),ev ct (b0 ct F (k+1)) jnE env h=.ok (.ref h.length) (h++[.lst (jnL.map .str)]):=fun env h=>by unfold jnE jnL;simp_arith[o9]
 have we:∀(env:t9) (h:AH),ev ct (b0 ct F (k+1)) wyE env h=.ok (.ref h.length) (h++[.lst (wyL.map .str)]):=fun env h=>by unfold wyE wyL;simp_arith[o9]
 have jx:∀h:AH,ixD (h++[.lst (jnL.map .str)]) (.ref h.length) (.int ((N%6:Nat):Int))=.ok (.str jn) (h++[.lst (jnL.map .str)]):=fun h=>B6 b6 (by rw[aj,j1];rfl)
 have wx:∀h:AH,ixD (h++[.lst (wyL.map .str)]) (.ref h.length) (.int ((N/6%3:Nat):Int))=.ok (.str wy) (h++[.lst (wyL.map .str)]):=fun h=>B6 b6 (by rw[aj,w1];rfl)
 have dx:∀h:AH,ixD (h++[.dict jnD]) (.ref h.length) (.str jn)=.ok (.int ((m:Nat):Int)) (h++[.dict jnD]):=fun h=>by
  simp only[ixD,b6,j3,if_true,j2]
 have fl:((List.range m).map fun i=>D.str (pk sh (N/(i*i*31+7))))=((List.range m).map fun i=>pk sh (N/(i*i*31+7))).map .str:=by rw[aH];rfl
 refine⟨⟨ns[j],jn,wy,(List.range m).map fun i=>pk sh (N/(i*i*31+7))⟩,some (.int (N:Int)),some (.str jn),some (.int (m:Int)),some (.tup (((List.range m).map fun i=>pk sh (N/(i*i*31+7))).map .str)),(g++[Cell.lst (jnL.map .str)]++[Cell.dict jnD]++[Cell.lst (((List.range m).map fun i=>pk sh (N/(i*i*31+7))).map .str)]++[Cell.lst (wyL.map .str)]).set (a+1) (.lst (ls.map ltD++[ltD ⟨ns[j],jn,wy,(List.range m).map fun i=>pk sh (N/(i*i*31+7))⟩])),⟨hn,by simpa using j4,by simpa using j5,w2,j6,w3,fun f hf=>?_⟩,rfl,?_,?_,?_,?_⟩
 · obtain⟨i,_,rfl⟩:=ak.mp hf;exact(a8a hs _).1
 · unfold lB;rw[seq (env':=[some (.int c),some (.ref s),some (.int (N0:Int)),some (.ref a),some (.ref (a+1)),some (.int (j:Int)),some (.int (N:Int)),e7,e8,e9]) (h':=g) (by simp_arith[op2,o6,a100,hN])]
   rw[seq (env':=[some (.int c),some (.ref s),some (.int (N0:Int)),some (.ref a),some (.ref (a+1)),some (.int (j:Int)),some (.int (N:Int)),some (.str jn),e8,e9]) (h':=g++[.lst (jnL.map .str)]) (by simp_arith[je,op2,m6,jx])]
   have P1:Pf h (g++[.lst (jnL.map .str)]):=p1.app _
   have A1:=b5 (g:=[.lst (jnL.map .str)]) p2;have B1:=b5 (g:=[.lst (jnL.map .str)]) p3;generalize g++[Cell.lst (jnL.map .str)]=g1 at*
   unfold lB3;rw[seq (env':=[some (.int c),some (.ref s),some (.int (N0:Int)),some (.ref a),some (.ref (a+1)),some (.int (j:Int)),some (.int (N:Int)),some (.str jn),some (.int (m:Int)),e9]) (h':=g1++[.dict jnD]) (by simp_arith[b4J,o9,dx])]
   have P2:Pf h (g1++[.dict jnD]):=P1.app _
   have A2:=b5 (g:=[.dict jnD]) A1;have B2:=b5 (g:=[.dict jnD]) B1;generalize g1++[Cell.dict jnD]=g2 at*
   unfold lB4;have fo:=b2f (ct:=ct) (c:=b0 ct F (k+1)) (s:=s) (N:=N) (m:=m) (env:=[some (.int c),some (.ref s),some (.int (N0:Int)),some (.ref a),some (.ref (a+1)),some (.int (j:Int)),some (.int (N:Int)),some (.str jn),some (.int (m:Int)),e9]) (g:=g2) hs (P2.at hh) rfl rfl rfl (by omega)
   rw[fl] at fo;generalize ((List.range m).map fun i=>pk sh (N/(i*i*31+7)))=fs at*
   rw[seq (env':=[some (.int c),some (.ref s),some (.int (N0:Int)),some (.ref a),some (.ref (a+1)),some (.int (j:Int)),some (.int (N:Int)),some (.str jn),some (.int (m:Int)),some (.tup (fs.map .str))]) (h':=g2++[.lst (fs.map .str)]) (by simp_arith[fo,a2n b6])]
   have A3:=b5 (g:=[.lst (fs.map .str)]) A2;have B3:=b5 (g:=[.lst (fs.map .str)]) B2;generalize g2++[Cell.lst (fs.map .str)]=g3 at*
   unfold lB5
   have nx:ixD g3 (.ref a) (.int (j:Int))=.ok (.str ns[j]) g3:=B6 A3 (by rw[aj,af hj];rfl)
   simp_arith[z7 B3,nx,we,op2,d6,m3,wx,K3 (b5 (g:=[.lst (wyL.map .str)]) B3) (by rw[aa];omega),ltD]
 · exact((((p1.app _).app _).app _).app _).set (by omega)
 · exact b7 (by omega) (b5 (b5 (b5 (b5 p2))))
 · rw[u9 (b5 (b5 (b5 (b5 p3)))),ao];rfl
include f203
theorem a7j{k:Nat}{c:Int}(hF:F 208=some v0)(hs:Shs sh)(hh:h[s]? =some (.lst (shD sh))):∃ls:List Lt,(1<=ls.length/\ls.length<=6)/\(ls.map (·.n)).Nodup/\(∀l∈ls,LtOk sh l)/\b0 ct F (k+2) 208 [.int c,.ref s] h=.ok (.ref h.length) (h++[.lst (ls.map ltD)]):=by
 obtain⟨M,hM⟩:=C0 (ct:=ct) (k:=k) (c:=c) (j:=2) (h:=h) f202 (by decide)
 have d6:D1 h (.int (M:Int)) (.int 6)=.ok (.int ((M/6:Nat):Int)) h:=Q0 6 (by decide) (by decide)
 have m6:u8 h (.int (M:Int)) (.int 6)=.ok (.int ((M%6:Nat):Int)) h:=F9 6 (by decide)
 have a1:(1:Int)+((M%6:Nat):Int)=((1+M%6:Nat):Int):=by omega
 have l6:M%6<6:=Nat.mod_lt _ (by decide)
 obtain⟨ns,nk,hN⟩:=a0c (ct:=ct) (k:=k) (c:=M/6) (m:=1+M%6) (h:=h) f203 (by omega)
 generalize hm:1+M%6=m at nk hN a1;rw[l7 hF rfl];simp only[v0]
 show∃ls:List Lt,_/\_/\_/\gcR 2 h (O6 (exs ct (b0 ct F (k+1)) _ [some (.int c),some (.ref s),none,none,none,none,none,none,none,none] h))=_
 rw[seq (env':=[some (.int c),some (.ref s),some (.int (M:Int)),none,none,none,none,none,none,none]) (h':=h) (by simp_arith[hM])]
 rw[seq (env':=[some (.int c),some (.ref s),some (.int (M:Int)),some (.ref h.length),none,none,none,none,none,none]) (h':=h++[.lst (ns.map .str)]) (by simp_arith[op2,d6,m6,o6,a1,hN])]
 have l1:(h++[Cell.lst (ns.map D.str)]).length=h.length+1:=by simp
 rw[seq (env':=[some (.int c),some (.ref s),some (.int (M:Int)),some (.ref h.length),some (.ref (h.length+1)),none,none,none,none,none]) (h':=h++[.lst (ns.map .str)]++[.lst []]) (by simp_arith[o9,l1])]
 have gN:(h++[Cell.lst (ns.map D.str)]++[Cell.lst []])[h.length]? =some (.lst (ns.map .str)):=b5 b6
 have gW:(h++[Cell.lst (ns.map D.str)]++[Cell.lst []])[h.length+1]? =some (.lst []):=by rw[←l1];exact b6
 have pf:Pf h (h++[Cell.lst (ns.map D.str)]++[Cell.lst []]):=((Pf.refl h).app _).app _
 generalize h++[Cell.lst (ns.map D.str)]++[Cell.lst []]=g at gN gW pf
 have len:biD .len g [.ref h.length]=.ok (.int (m:Int)) g:=by rw[z9 gN,aa,nk.len]
 obtain⟨env',g',e1,ls,e5,e6,e7,e8,e9,rfl,q2,q3,q4,q5,q6⟩:=z3 (g:=[]) (p:=.nm 5) (body:=exs ct (b0 ct F (k+1)) lB) (fun j env hh=>∃ls:List Lt,∃e5 e6 e7 e8 e9,env=[some (.int c),some (.ref s),some (.int (M:Int)),some (.ref h.length),some (.ref (h.length+1)),e5,e6,e7,e8,e9]/\Pf h hh/\hh[h.length]? =some (.lst (ns.map .str))/\hh[h.length+1]? =some (.lst (ls.map ltD))/\ls.map (·.n)=ns.take j/\∀l∈ls,LtOk sh l) (fun _ _ _ _=>rfl) ((List.range m).map fun i=>.int ((0:Int)+(i:Nat))) 0 [some (.int c),some (.ref s),some (.int (M:Int)),some (.ref h.length),some (.ref (h.length+1)),none,none,none,none,none] g (fun j x env hg hx hP=>by
  obtain⟨ls,e5,e6,e7,e8,e9,rfl,p1,p2,p3,p4,p5⟩:=hP;obtain⟨hj,rfl⟩:=a2T hx;rw[aB] at p4⊢
  have hj':j<ns.length:=by rw[nk.len];exact hj
  have ll:ls.length<=1000:=by
   have:=congrArg List.length p4
   rw[aa,aM] at this;omega
  obtain⟨l,x6,x7,x8,x9,g',t1,t2,t3,t4,t5,t6⟩:=a6k (ct:=ct) (k:=k) (c:=c) (N0:=M) f202 hs.lo hh hj' (by rw[nk.len];omega) ll (nk.ok _ (bz hj')) rfl p1 p2 p3 e6 e7 e8 e9
  refine⟨_,_,g',rfl,t3,ls++[l],_,_,_,_,_,rfl,t4,t5,t6,?_,fun y hy=>?_⟩
  · rw[ao,p4,take_succ_eq_append_getElem hj',←t2];rfl
  · rcases aK.mp hy with hy|hy
    · exact p5 y hy
    · rw[aO.mp hy];exact t1) ⟨[],none,none,none,none,none,rfl,pf,gN,gW,rfl,fun _ h=>nomatch h⟩
 rw[aa,aI,aB,←nk.len,bp] at q5
 have ln:ls.length=m:=by rw[←nk.len,←q5,aa]
 refine⟨ls,by omega,by rw[q5];exact nk.nd,q6,?_⟩
 rw[seq (env':=[some (.int c),some (.ref s),some (.int (M:Int)),some (.ref h.length),some (.ref (h.length+1)),e5,e6,e7,e8,e9]) (h':=g') (by simp_arith[len,a1J (h:=g) (m:=m) (by omega),e1])]
 simp_arith[];exact a1R q2 q4 (Nat.le_succ _) (b2a _)
end
structure Cs where
 n:Str
 fs:List Str
noncomputable def csD(c:Cs):D:=.tup [.str c.n,.tup (c.fs.map .str)]
structure CsOk(sh:List (Str×Nat))(c:Cs):Prop where
 nm:l0 c.n=true
 few:1<=c.fs.length/\c.fs.length<=20
 fs:∀f∈c.fs,f∈sh.map (·.1)
theorem b2b(ms:List Cs):D.flats (ms.map csD)=true:=D3 fun d hd=>by
 obtain⟨p,_,rfl⟩:=ak.mp hd
 show D.flats [.str p.n,.tup (p.fs.map .str)]=true
 simp only[D.flats,D.flat,I0,Bool.and_self]
theorem Y0:∀{l:List D} {i j:Nat} {x:D},(y0 i l)[j]? =some x->∃d,l[j]? =some d/\x=.tup [.int ((i+j:Nat):Int),d]
 |[],i,j,x,h=>by simp[y0] at h
 |d::r,i,0,x,h=>by
  rw[y0] at h
  simp at h
  exact⟨d,rfl,h.symm⟩
 |d::r,i,j+1,x,h=>by
  rw[y0] at h;obtain⟨d',h1,h2⟩:=Y0 (l:=r) (i:=i+1) (j:=j) (by simpa using h)
  refine⟨d',by simpa using h1,?_⟩
  rw[h2,show i+1+j=i+(j+1) by omega]
theorem P9:∀(l:List D) (i:Nat),(y0 i l).length=l.length
 |[],_=>rfl
 |d::r,i=>by rw[y0,length_cons,P9 r,length_cons]
section
variable{ct:CT}{F:Nat->Option Fn}
theorem b3n{N:Nat}(hs:4<=sh.length)(hh:g[s]? =some (.lst (shD sh)))(e1:env[1]? =some (some (.ref s)))(e6:env[6]? =some (some (.int (N:Int)))):
 ev ct c smE env g=.ok (.ref g.length) (g++[.lst (((List.range (1+N%5)).map fun i=>pk sh (N/(i*13+5))).map .str)]):=by
 unfold smE
 have m20:u8 g (.int (N:Int)) (.int 5)=.ok (.int ((N%5:Nat):Int)) g:=F9 5 (by decide)
 have a1:(1:Int)+((N%5:Nat):Int)=((1+N%5:Nat):Int):=by omega
 have l20:N%5<5:=Nat.mod_lt _ (by decide)
 have r:=a0s (ct:=ct) (c:=c) (fr:=[6,1]) (a:=.bin .add (.k (.int (1))) (.bin .mod (.v 6) (.k (.int (5))))) (e:=(.ix (.ix (.v 2) (.bin .mod (.bin .div (.v 1) (.bin .add (.bin .mul (.v 0) (.k (.int (13)))) (.k (.int (5))))) (.bi .len (.cons (.v 2) .nil)))) (.k (.int (0))))) (env:=env) (m:=1+N%5) (h:=g) (fun i=>.str (pk sh (N/(i*13+5)))) (by simp_arith[e6,op2,m20,o6,a1]) (by omega) (fun i hi=>by
  have m1:U8 g (.int (i:Int)) (.int 13)=.ok (.int ((i*13:Nat):Int)) g:=by rw[W0 (by decide)];congr 2
  have a5:((i*13:Nat):Int)+5=((i*13+5:Nat):Int):=by omega
  obtain⟨w,ix⟩:=b1D (x:=N/(i*13+5)) hs hh;simp_arith[e1,e6,W6,op2,m1,o6,a5,Q0 (i*13+5) (by omega) (by omega),a7k hh,F9 sh.length (by omega),ix,a2F])
 rw[r,aH];rfl
variable(f202:F 202=some o3)(f203:F 203=some n8)
include f202 f203
theorem a7x{k:Nat}{c:Int}(hF:F 209=some v5)(hs:Shs sh)(hh:h[s]? =some (.lst (shD sh))):∃ls:List Cs,(1<=ls.length/\ls.length<=9)/\(ls.map (·.n)).Nodup/\(∀l∈ls,CsOk sh l)/\b0 ct F (k+2) 209 [.int c,.ref s] h=.ok (.ref h.length) (h++[.lst (ls.map csD)]):=by
 obtain⟨M,hM⟩:=C0 (ct:=ct) (k:=k) (c:=c) (j:=3) (h:=h) f202 (by decide)
 have l1:(h++[Cell.lst []]).length=h.length+1:=by simp
 generalize hg:h++[Cell.lst []]=g0 at l1
 have d4:D1 g0 (.int (M:Int)) (.int 4)=.ok (.int ((M/4:Nat):Int)) g0:=Q0 4 (by decide) (by decide)
 have m3:u8 g0 (.int (M:Int)) (.int 3)=.ok (.int ((M%3:Nat):Int)) g0:=F9 3 (by decide)
 have l3:M%3<3:=Nat.mod_lt _ (by decide)
 obtain⟨m,mb,me⟩:∃m:Nat,(1<=m/\m<=9)/\(1:Int)+((M%3:Nat):Int)=(m:Int):=⟨1+M%3,by omega,by omega⟩
 obtain⟨ns,nk,hN⟩:=a0c (ct:=ct) (k:=k) (c:=M/4) (m:=m) (h:=g0) f203 (by omega)
 rw[l7 hF rfl];simp only[v5]
 show∃ls:List Cs,_/\_/\_/\gcR 2 h (O6 (exs ct (b0 ct F (k+1)) _ [some (.int c),some (.ref s),none,none,none,none,none,none] h))=_
 rw[seq (env':=[some (.int c),some (.ref s),some (.int (M:Int)),none,none,none,none,none]) (h':=h) (by simp_arith[hM])]
 rw[seq (env':=[some (.int c),some (.ref s),some (.int (M:Int)),some (.ref h.length),none,none,none,none]) (h':=g0) (by simp_arith[o9,hg])]
 have gW:(g0++[Cell.lst (ns.map D.str)])[h.length]? =some (.lst []):=b5 (by rw[←hg];exact b6)
 have gN:(g0++[Cell.lst (ns.map D.str)])[h.length+1]? =some (.lst (ns.map .str)):=by rw[←l1];exact b6
 have pf:Pf h (g0++[Cell.lst (ns.map D.str)]):=by rw[←hg];exact((Pf.refl h).app _).app _
 rw[l1] at hN;generalize g0++[Cell.lst (ns.map D.str)]=g at gN gW pf hN
 obtain⟨env',g',e1,ls,e4,e5,e6,e7,rfl,q2,q3,q4,q5,q6⟩:=z3 (g:=[(h.length+1,.lst (ns.map .str))]) (p:=.tp (.cons (.nm 4) (.cons (.nm 5) .nil))) (body:=exs ct (b0 ct F (k+1)) kB) (fun j env hh=>∃ls:List Cs,∃e4 e5 e6 e7,env=[some (.int c),some (.ref s),some (.int (M:Int)),some (.ref h.length),e4,e5,e6,e7]/\Pf h hh/\hh[h.length+1]? =some (.lst (ns.map .str))/\hh[h.length]? =some (.lst (ls.map csD))/\ls.map (·.n)=ns.take j/\∀l∈ls,CsOk sh l) (fun j env gg hP=>by
  obtain⟨_,_,_,_,_,_,_,h3,_⟩:=hP;simp[gOk,h3]) (y0 0 (ns.map .str)) 0 [some (.int c),some (.ref s),some (.int (M:Int)),some (.ref h.length),none,none,none,none] g (fun j x env hg hx hP=>by
  obtain⟨ls,e4,e5,e6,e7,rfl,p1,p2,p3,p4,p5⟩:=hP;obtain⟨d,hd,rfl⟩:=Y0 hx
  have hj:j<ns.length:=by simpa using(ac.mp hd).1
  rw[aj,af hj] at hd
  obtain rfl:D.str ns[j]=d:=ax hd;rw[aB] at p4⊢
  have a130:((j:Nat):Int)+130=((j+130:Nat):Int):=by omega
  have jl:=nk.len;obtain⟨N,hN⟩:=C0 (ct:=ct) (k:=k) (c:=c) (j:=((j+130:Nat):Int)) (h:=hg) f202 (by omega)
  have so:=b3n (ct:=ct) (c:=b0 ct F (k+1)) (s:=s) (N:=N) (env:=[some (.int c),some (.ref s),some (.int (M:Int)),some (.ref h.length),some (.int (j:Int)),some (.str ns[j]),some (.int (N:Int)),e7]) (g:=hg) hs.lo (p1.at hh) rfl rfl
  have l20:N%5<5:=Nat.mod_lt _ (by decide)
  have fo:∀f∈(List.range (1+N%5)).map fun i=>pk sh (N/(i*13+5)),f∈sh.map (·.1):=fun f hf=>by
   obtain⟨i,_,rfl⟩:=ak.mp hf;exact(a8a hs.lo _).1
  have fl:((List.range (1+N%5)).map fun i=>pk sh (N/(i*13+5))).length=1+N%5:=by simp
  generalize ((List.range (1+N%5)).map fun i=>pk sh (N/(i*13+5)))=fs at so fo fl
  have ll:(ls.map csD).length<1000000:=by
   have:=congrArg List.length p4
   rw[aa,aM] at this;rw[aa];omega
  refine⟨_,[some (.int c),some (.ref s),some (.int (M:Int)),some (.ref h.length),some (.int (j:Int)),some (.str ns[j]),some (.int (N:Int)),some (.ref hg.length)],(hg++[Cell.lst (fs.map .str)]).set h.length (.lst (ls.map csD++[csD ⟨ns[j],fs⟩])),rfl,?_,ls++[⟨ns[j],fs⟩],_,_,_,_,rfl,(p1.app _).set (ai _),b7 (by omega) (b5 p2),?_,?_,fun y hy=>?_⟩
  · show exs ct (b0 ct F (k+1)) kB [some (.int c),some (.ref s),some (.int (M:Int)),some (.ref h.length),some (.int (j:Int)),some (.str ns[j]),e6,e7] hg=_
    unfold kB;rw[seq (env':=[some (.int c),some (.ref s),some (.int (M:Int)),some (.ref h.length),some (.int (j:Int)),some (.str ns[j]),some (.int (N:Int)),e7]) (h':=hg) (by simp_arith[op2,o6,a130,hN])]
    rw[seq (env':=[some (.int c),some (.ref s),some (.int (M:Int)),some (.ref h.length),some (.int (j:Int)),some (.str ns[j]),some (.int (N:Int)),some (.ref hg.length)]) (h':=hg++[.lst (fs.map .str)]) (by simp_arith[so])]
    simp_arith[z7 (b5 (g:=[.lst (fs.map .str)]) p3),a2n b6,K3 (b5 (g:=[.lst (fs.map .str)]) p3) ll,csD]
  · rw[u9 (b5 p3),ao];rfl
  · rw[ao,p4,take_succ_eq_append_getElem hj];rfl
  · rcases aK.mp hy with hy|hy
    · exact p5 y hy
    · rw[aO.mp hy];exact⟨nk.ok _ (bz hj),by simp only;omega,fo⟩) ⟨[],none,none,none,none,rfl,pf,gN,gW,rfl,fun _ h=>nomatch h⟩
 rw[P9,aa,aB,bp] at q5
 have ln:ls.length=m:=by rw[←nk.len,←q5,aa]
 refine⟨ls,by omega,by rw[q5];exact nk.nd,q6,?_⟩
 rw[seq (env':=[some (.int c),some (.ref s),some (.int (M:Int)),some (.ref h.length),e4,e5,e6,e7]) (h':=g') (by simp_arith[op2,d4,m3,o6,K4,eqS,me,hN,Y7,gN,e1])]
 simp_arith[];exact a1R q2 q4 (ai _) (b2b _)
end
theorem a1L(h:l0 z=true):z.length<=12:=(a3b h).2
noncomputable def feD(p:Str×Bool):D:=.tup [.str p.1,.bl p.2]
section
variable{ct:CT}{F:Nat->Option Fn}
theorem a9d{k m:Nat}{c:Int}{s l cl f:D}(f202:F 202=some o3)(f203:F 203=some n8)(hF:F 211=some z4)(hm:m=0):b0 ct F (k+2) 211 [.int c,.int (m:Int),s,l,cl,f] h=.ok (.ref h.length) (h++[.lst []]):=by
 subst hm
 have l1:(h++[Cell.lst []]).length=h.length+1:=by simp
 obtain⟨M,hM⟩:=C0 (ct:=ct) (k:=k) (c:=c) (j:=4) (h:=h++[Cell.lst []]) f202 (by decide)
 obtain⟨ns,nk,hN⟩:=a0c (ct:=ct) (k:=k) (c:=M) (m:=0) (h:=h++[Cell.lst []]) f203 (by decide)
 obtain rfl:=List.eq_nil_of_length_eq_zero nk.len
 have gN:(h++[Cell.lst []]++[Cell.lst []])[(h++[Cell.lst []]).length]? =some (.lst []):=b6
 rw[l7 hF rfl];simp only[z4];simp_arith[o9,hM,show b0 ct F (k+1) 203 [.int (M:Int),.int ((0:Nat):Int)] (h++[Cell.lst []])=.ok (.ref (h++[Cell.lst []]).length) (h++[Cell.lst []]++[Cell.lst []]) from hN,Y7,gN,y0,Z0,gOk,all_cons,all_nil,decide_true,Bool.and_self];exact a1R (((Pf.refl h).app _).app _) (b5 b6) (ai _) rfl
end
structure HL where
 sh:List (Str×Nat)
 mr:List Mk
 pt:List Pt
 ls:List Lt
 gp:List Str
 cs:List Cs
 fe:List (Str×Bool)
structure HLok(H:HL):Prop where
 sh:Shs H.sh
 mr:(H.mr.map (·.n)).Sublist (H.sh.map (·.1))
 mko:∀m∈H.mr,Y4 m.s/\a0v m.a/\a0v m.b
 pt:(H.pt.map ptK).Nodup
 ptl:H.pt.length<=100
 pto:∀p∈H.pt,p.n∈H.sh.map (·.1)/\Y4 p.s/\a0v p.a
 ls:1<=H.ls.length/\H.ls.length<=6
 lsn:(H.ls.map (·.n)).Nodup
 lso:∀l∈H.ls,LtOk H.sh l
 gp:H.gp.Sublist (H.ls.map (·.n))
 cs:1<=H.cs.length/\H.cs.length<=9
 csn:(H.cs.map (·.n)).Nodup
 cso:∀c∈H.cs,CsOk H.sh c
 fe:1<=H.fe.length/\H.fe.length<=3
 fen:Nms (H.fe.map (·.1)) H.fe.length
structure HAt(H:HL)(g:AH)(a b c d e f i j:Nat):Prop where
 sh:g[a]? =some (.lst (shD H.sh))
 mr:g[b]? =some (.lst (H.mr.map mkD))
 pt:g[c]? =some (.lst (H.pt.map ptD))
 ls:g[d]? =some (.lst (H.ls.map ltD))
 gp:g[e]? =some (.lst (H.gp.map .str))
 cs:g[f]? =some (.lst (H.cs.map csD))
 fe:g[i]? =some (.lst (H.fe.map feD))
 ru:g[j]? =some (.lst [])
def feF(M:Nat)(x:D):D:=match x with
 |.tup [.int j,n]=>(match n with
  |.str n=>feD (n,decide ((0:Int)<((M/(j.toNat+5)%4:Nat):Int)))
  |_=>.non)
 |_=>.non
theorem b2e(M:Nat):∀(ns:List Str) (i:Nat),∃fe:List (Str×Bool),(y0 i (ns.map .str)).map (feF M)=fe.map feD/\fe.map (·.1)=ns
 |[],_=>⟨[],rfl,rfl⟩
 |n::ns,i=>by
  obtain⟨fe,h1,h2⟩:=b2e M ns (i+1);refine⟨(n,decide ((0:Int)<((M/(((i:Nat):Int).toNat+5)%4:Nat):Int)))::fe,?_,by rw[map_cons,h2]⟩
  rw[map_cons,y0,map_cons,h1];rfl
noncomputable def gpB(M:Nat)(x:D):Bool:=match x with
 |.tup [.int j,_]=>decide (((M/(7*j.toNat+9)%4:Nat):Int)=0)
 |_=>false
noncomputable def gpF(x:D):D:=match x with
 |.tup [_,.tup (n::_)]=>n
 |_=>.non
theorem b1O(M:Nat):∀(ls:List Lt) (i:Nat),∃gp:List Str,((y0 i (ls.map ltD)).filter (gpB M)).map gpF=gp.map .str/\gp.Sublist (ls.map (·.n))
 |[],_=>⟨[],rfl,.slnil⟩
 | l::ls,i=>by
  obtain⟨gp,h1,h2⟩:=b1O M ls (i+1);rw[map_cons,y0]
  cases hb:gpB M (.tup [.int (i:Nat),ltD l]) with
  |true=>
   refine⟨l.n::gp,?_,by rw[map_cons];exact h2.cons_cons _⟩
   rw[List.filter_cons_of_pos hb,map_cons,h1];rfl
  |false=>
   refine⟨gp,?_,by rw[map_cons];exact h2.cons _⟩
   rw[List.filter_cons_of_neg (by rw[hb];exact bx),h1]
section
variable{ct:CT}{F:Nat->Option Fn}
theorem b4x{d:Nat}(h4:env[4]? =some (some (.ref d)))(h6:env[6]? =some (some (.int (M:Int))))(hd:g[d]? =some (.lst (ls.map ltD)))(hl:ls.length<=1000):∃gp:List Str,gp.Sublist (ls.map (·.n))/\ev ct c gpE env g=.ok (.ref g.length) (g++[.lst (gp.map .str)]):=by
 obtain⟨gp,g1,g2⟩:=b1O M ls 0;refine⟨gp,g2,?_⟩
 unfold gpE
 rw[K1 (l:=y0 0 (ls.map ltD)) (g:=[(d,.lst (ls.map ltD))]) (h1:=g) (by simp_arith[h4,Y7,hd]) (by simp[gOk,hd]) (gpB M) gpF (fun x=>match x with|.tup [a,b]=>[some a,some b,some (.int (M:Int))]|_=>[]) (fun x hx=>by
  obtain⟨j,hj⟩:=List.mem_iff_getElem?.mp hx;obtain⟨y,hy,rfl⟩:=Y0 hj
  have hj':j<ls.length:=by simpa using(ac.mp hy).1
  rw[aj,af hj'] at hy
  obtain rfl:ltD ls[j]=y:=ax hy;rw[aB]
  have m7:U8 g (.int 7) (.int (j:Int))=.ok (.int ((7*j:Nat):Int)) g:=by rw[W0 (by omega)];congr 2
  have a9:((7*j:Nat):Int)+9=((7*j+9:Nat):Int):=by omega
  have m4:∀a:Nat,u8 g (.int (a:Int)) (.int 4)=.ok (.int ((a%4:Nat):Int)) g:=fun a=>F9 4 (by decide)
  refine⟨by simp only[J2,M8,B0,map_cons,map_nil,h6,W6];rfl,?_,fun _=>?_⟩
  · simp_arith[op2,m7,o6,a9,Q0 (7*j+9) (by omega) (by omega),m4,K4,eqS,gpB,Int.toNat_natCast]
  · unfold ltD;simp_arith[a2F,gpF]) (by rw[P9,aa];show _<=16777216;omega),g1]
theorem b2d{k:Nat}(f203:F 203=some n8)(h6:env[6]? =some (some (.int (M:Int)))):∃(fe:List (Str×Bool)) (t:Cell),(1<=fe.length/\fe.length<=3)/\Nms (fe.map (·.1)) fe.length/\ev ct (b0 ct F (k+1)) feE env g=.ok (.ref (g.length+1)) (g++[t]++[.lst (fe.map feD)]):=by
 have d3:D1 g (.int (M:Int)) (.int 3)=.ok (.int ((M/3:Nat):Int)) g:=Q0 3 (by decide) (by decide)
 have m3:u8 g (.int (M:Int)) (.int 3)=.ok (.int ((M%3:Nat):Int)) g:=F9 3 (by decide)
 have a1:(1:Int)+((M%3:Nat):Int)=((1+M%3:Nat):Int):=by omega
 have l3:M%3<3:=Nat.mod_lt _ (by decide)
 obtain⟨ns,nk,hN⟩:=a0c (ct:=ct) (k:=k) (c:=M/3) (m:=1+M%3) (h:=g) f203 (by omega)
 obtain⟨fe,h1,h2⟩:=b2e M ns 0
 have fl:fe.length=1+M%3:=by rw[←nk.len,←h2,aa]
 refine⟨fe,.lst (ns.map .str),by omega,by rw[h2,fl];exact nk,?_⟩
 have lg:(g++[Cell.lst (ns.map D.str)]).length=g.length+1:=by simp
 unfold feE
 rw[A9 (l:=y0 0 (ns.map .str)) (g:=[(g.length,.lst (ns.map .str))]) (h1:=g++[.lst (ns.map .str)]) (by simp_arith[h6,op2,d3,m3,o6,a1,hN,Y7,b6]) (by simp[gOk]) (feF M) (fun x=>match x with|.tup [a,b]=>[some a,some b,some (.int (M:Int))]|_=>[]) (fun x hx=>by
  obtain⟨j,hj⟩:=List.mem_iff_getElem?.mp hx;obtain⟨y,hy,rfl⟩:=Y0 hj
  have hj':j<ns.length:=by simpa using(ac.mp hy).1
  rw[aj,af hj'] at hy
  obtain rfl:D.str ns[j]=y:=ax hy;rw[aB];have jl:=nk.len
  have a5:((j:Nat):Int)+5=((j+5:Nat):Int):=by omega
  have m4:∀(a:Nat) h,u8 h (.int (a:Int)) (.int 4)=.ok (.int ((a%4:Nat):Int)) h:=fun a h=>F9 4 (by decide)
  refine⟨by simp only[J2,M8,B0,map_cons,map_nil,h6,W6];rfl,?_⟩
  simp_arith[op2,o6,a5,Q0 (j+5) (by omega) (by omega),m4,E4,feF,feD,Int.toNat_natCast]) (by rw[P9,aa,nk.len];show _<=16777216;omega),h1,lg]
variable(f201:F 201=some x0)(f202:F 202=some o3)(f203:F 203=some n8)(f204:F 204=some v8)(f205:F 205=some u6)(f206:F 206=some z5)(f207:F 207=some w5)(f208:F 208=some v0)(f209:F 209=some v5)(f211:F 211=some z4)
include f201 f202 f203 f204 f205 f206 f207 f208 f209 f211
theorem b4s{k m:Nat}(hF:F 212=some F5)(hr:h[n]? =some (.rol (ns.map .int)))(hm:m=0):
 ∃H g a b c d e f i j,HLok H/\Pf h g/\HAt H g a b c d e f i j/\b0 ct F (k+3) 212 [.ref n,.int (m:Int)] h=.ok (.tup [.ref a,.ref b,.ref c,.ref d,.ref e,.ref f,.ref i,.ref j]) g:=by
 obtain⟨c0,hc0⟩:=Y2 (ct:=ct) (k:=k+1) (j:=0) f201 hr;obtain⟨sh,s1,s2⟩:=a8Z (ct:=ct) (k:=k) (c:=c0) (h:=h) f202 f203 f204
 have P1:Pf h (h++[.lst (shD sh)]):=(Pf.refl h).app _
 have A1:(h++[Cell.lst (shD sh)])[h.length]? =some (.lst (shD sh)):=b6
 have st1:exs ct (b0 ct F (k+2)) (.cons (.set 2 (.call 201 (.cons (.v 0) (.cons (.k (.int (0))) .nil)))) (.cons (.set 3 (.call 204 (.cons (.v 2) .nil))) hB2)) [some (.ref n),some (.int (m:Int)),none,none,none,none,none,none,none,none,none,none] h=exs ct (b0 ct F (k+2)) hB2 [some (.ref n),some (.int (m:Int)),some (.int c0),some (.ref h.length),none,none,none,none,none,none,none,none] (h++[.lst (shD sh)]):=by
  rw[seq (env':=[some (.ref n),some (.int (m:Int)),some (.int c0),none,none,none,none,none,none,none,none,none]) (h':=h) (by simp_arith[show b0 ct F (k+2) 201 [.ref n,.int 0] h=.ok (.int c0) h from hc0])]
  exact seq (by simp_arith[s2])
 generalize h++[Cell.lst (shD sh)]=g1 at P1 A1 st1;obtain⟨c1,hc1⟩:=Y2 (ct:=ct) (k:=k+1) (j:=1) f201 (P1.at hr);obtain⟨ls,l1,l2,l3,l4⟩:=a7j (ct:=ct) (k:=k) (c:=c1) (h:=g1) f202 f203 f208 s1 A1
 have P2:Pf h (g1++[.lst (ls.map ltD)]):=P1.app _
 have A2:=b5 (g:=[.lst (ls.map ltD)]) A1
 have B2:(g1++[Cell.lst (ls.map ltD)])[g1.length]? =some (.lst (ls.map ltD)):=b6
 generalize hd:g1.length=d at l4 B2;generalize hg2:g1++[Cell.lst (ls.map ltD)]=g2 at P2 A2 B2 l4;obtain⟨c2,hc2⟩:=Y2 (ct:=ct) (k:=k+1) (j:=2) f201 (P2.at hr);obtain⟨cs,k1,k2,k3,k4⟩:=a7x (ct:=ct) (k:=k) (c:=c2) (h:=g2) f202 f203 f209 s1 A2
 have P3:Pf h (g2++[.lst (cs.map csD)]):=P2.app _
 have A3:=b5 (g:=[.lst (cs.map csD)]) A2;have B3:=b5 (g:=[.lst (cs.map csD)]) B2
 have C3:(g2++[Cell.lst (cs.map csD)])[g2.length]? =some (.lst (cs.map csD)):=b6
 generalize hf:g2.length=f at k4 C3;generalize hg3:g2++[Cell.lst (cs.map csD)]=g3 at P3 A3 B3 C3 k4;obtain⟨c2',hc2'⟩:=Y2 (ct:=ct) (k:=k+1) (j:=2) f201 (P3.at hr);obtain⟨M,hM⟩:=C0 (ct:=ct) (k:=k+1) (c:=c2') (j:=5) (h:=g3) f202 (by decide)
 obtain⟨fe,t,f1,f2,f3⟩:=b2d (ct:=ct) (k:=k+1) (M:=M) (env:=[some (.ref n),some (.int (m:Int)),some (.int c0),some (.ref h.length),some (.ref d),some (.ref f),some (.int (M:Int)),none,none,none,none,none]) (g:=g3) f203 rfl
 have lg:(g3++[t]).length=g3.length+1:=by simp
 have P4:Pf h (g3++[t]++[.lst (fe.map feD)]):=(P3.app _).app _
 have A4:=b5 (g:=[.lst (fe.map feD)]) (b5 (g:=[t]) A3);have B4:=b5 (g:=[.lst (fe.map feD)]) (b5 (g:=[t]) B3);have C4:=b5 (g:=[.lst (fe.map feD)]) (b5 (g:=[t]) C3)
 have D4:(g3++[t]++[Cell.lst (fe.map feD)])[g3.length+1]? =some (.lst (fe.map feD)):=by rw[←lg];exact b6
 generalize hi:g3.length+1=i at f3 D4;generalize hg4:g3++[t]++[Cell.lst (fe.map feD)]=g4 at P4 A4 B4 C4 D4 f3;obtain⟨c3,hc3⟩:=Y2 (ct:=ct) (k:=k+1) (j:=3) f201 (P4.at hr);have r4:=a9d (ct:=ct) (k:=k) (c:=c3) (s:=.ref h.length) (l:=.ref d) (cl:=.ref f) (f:=.ref i) (h:=g4) f202 f203 f211 hm
 have P5:Pf h (g4++[.lst []]):=P4.app _
 have A5:=b5 (g:=[.lst []]) A4;have B5:=b5 (g:=[.lst []]) B4;have C5:=b5 (g:=[.lst []]) C4;have D5:=b5 (g:=[.lst []]) D4
 have E5:(g4++[Cell.lst []])[g4.length]? =some (.lst []):=b6
 generalize hj:g4.length=j at r4 E5;generalize hg5:g4++[Cell.lst []]=g5 at P5 A5 B5 C5 D5 E5 r4;obtain⟨gp,y1,y2⟩:=b4x (ct:=ct) (c:=b0 ct F (k+2)) (M:=M) (env:=[some (.ref n),some (.int (m:Int)),some (.int c0),some (.ref h.length),some (.ref d),some (.ref f),some (.int (M:Int)),some (.ref i),some (.ref j),none,none,none]) (g:=g5) rfl rfl B5 (by omega)
 have P6:Pf h (g5++[.lst (gp.map .str)]):=P5.app _
 have A6:=b5 (g:=[.lst (gp.map .str)]) A5
 have X6:Pf g5 (g5++[.lst (gp.map .str)]):=(Pf.refl _).app _
 have G6:(g5++[Cell.lst (gp.map .str)])[g5.length]? =some (.lst (gp.map .str)):=b6
 generalize he:g5.length=e at y2 G6;generalize hg6:g5++[Cell.lst (gp.map .str)]=g6 at P6 A6 X6 G6 y2;obtain⟨ms,m1,m2,m3⟩:=b1r (ct:=ct) (k:=k) (c:=c0) (h:=g6) f202 f205 f206 s1 A6
 have P7:Pf h (g6++[.lst (ms.map mkD)]):=P6.app _
 have A7:=b5 (g:=[.lst (ms.map mkD)]) A6
 have X7:Pf g6 (g6++[.lst (ms.map mkD)]):=(Pf.refl _).app _
 have M7:(g6++[Cell.lst (ms.map mkD)])[g6.length]? =some (.lst (ms.map mkD)):=b6
 generalize hb:g6.length=b at m3 M7;generalize hg7:g6++[Cell.lst (ms.map mkD)]=g7 at P7 A7 X7 M7 m3;obtain⟨ps,p1,p2,p3,p4⟩:=a9j (ct:=ct) (k:=k) (c:=c0) (h:=g7) f202 f205 f207 s1 A7
 have P8:Pf h (g7++[.lst (ps.map ptD)]):=P7.app _
 have X8:Pf g7 (g7++[.lst (ps.map ptD)]):=(Pf.refl _).app _
 have N8:(g7++[Cell.lst (ps.map ptD)])[g7.length]? =some (.lst (ps.map ptD)):=b6
 generalize hc:g7.length=c at p4 N8;generalize hg8:g7++[Cell.lst (ps.map ptD)]=g8 at P8 X8 N8 p4;have X58:=(X6.trans X7).trans X8;refine⟨⟨sh,ms,ps,ls,gp,cs,fe⟩,g8,h.length,b,c,d,e,f,i,j,⟨s1,m1,m2,p1,p2,p3,l1,l2,l3,y1,k1,k2,k3,f1,f2⟩,P8,⟨X58.at A5,X8.at M7,N8,X58.at B5,(X7.trans X8).at G6,X58.at C5,X58.at D5,X58.at E5⟩,?_⟩
 rw[l7 hF rfl];simp only[F5];rw[gc0]
 show O6 (exs ct (b0 ct F (k+2)) (.cons (.set 2 (.call 201 (.cons (.v 0) (.cons (.k (.int (0))) .nil)))) (.cons (.set 3 (.call 204 (.cons (.v 2) .nil))) hB2)) [some (.ref n),some (.int (m:Int)),none,none,none,none,none,none,none,none,none,none] h)=_
 rw[st1];unfold hB2;rw[seq (env':=[some (.ref n),some (.int (m:Int)),some (.int c0),some (.ref h.length),some (.ref d),none,none,none,none,none,none,none]) (h':=g2) (by simp_arith[show b0 ct F (k+2) 201 [.ref n,.int 1] g1=.ok (.int c1) g1 from hc1,l4])]
 rw[seq (env':=[some (.ref n),some (.int (m:Int)),some (.int c0),some (.ref h.length),some (.ref d),some (.ref f),none,none,none,none,none,none]) (h':=g3) (by simp_arith[show b0 ct F (k+2) 201 [.ref n,.int 2] g2=.ok (.int c2) g2 from hc2,k4])]
 rw[seq (env':=[some (.ref n),some (.int (m:Int)),some (.int c0),some (.ref h.length),some (.ref d),some (.ref f),some (.int (M:Int)),none,none,none,none,none]) (h':=g3) (by simp_arith[show b0 ct F (k+2) 201 [.ref n,.int 2] g3=.ok (.int c2') g3 from hc2',hM])]
 unfold hB3;rw[seq (env':=[some (.ref n),some (.int (m:Int)),some (.int c0),some (.ref h.length),some (.ref d),some (.ref f),some (.int (M:Int)),some (.ref i),none,none,none,none]) (h':=g4) (by simp_arith[f3])]
 rw[seq (env':=[some (.ref n),some (.int (m:Int)),some (.int c0),some (.ref h.length),some (.ref d),some (.ref f),some (.int (M:Int)),some (.ref i),some (.ref j),none,none,none]) (h':=g5) (by simp_arith[show b0 ct F (k+2) 201 [.ref n,.int 3] g4=.ok (.int c3) g4 from hc3,r4])]
 unfold hB4;rw[seq (env':=[some (.ref n),some (.int (m:Int)),some (.int c0),some (.ref h.length),some (.ref d),some (.ref f),some (.int (M:Int)),some (.ref i),some (.ref j),some (.ref e),none,none]) (h':=g6) (by simp_arith[y2])]
 rw[seq (env':=[some (.ref n),some (.int (m:Int)),some (.int c0),some (.ref h.length),some (.ref d),some (.ref f),some (.int (M:Int)),some (.ref i),some (.ref j),some (.ref e),some (.ref b),none]) (h':=g7) (by simp_arith[m3])]
 rw[seq (env':=[some (.ref n),some (.int (m:Int)),some (.int c0),some (.ref h.length),some (.ref d),some (.ref f),some (.int (M:Int)),some (.ref i),some (.ref j),some (.ref e),some (.ref b),some (.ref c)]) (h':=g8) (by simp_arith[p4])]
 have s8:(8<=SL)=True:=eq_true (by decide)
 simp_arith[s8]
end
noncomputable def num(i:Int):Str:=Str.ofString (toString i)
def ln(ws:List Str):Str:=Txt.join " " ws
theorem a6C(ws:List Str):cd (ln ws)=jn 32 (ws.map cd):=by
 show cd (Builtin.Str.glued " " _)=_
 rw[StrLaws.glued_eq_join];exact a2A 32 ws
theorem a3Z(h:cd x=jn 32 (ws.map cd)):x=ln ws:=a1e (h.trans (a6C ws).symm)
def T4(p:Str×Nat):List Str:=["shape",p.1,num p.2]
def K5(p:Int×Int):List Str:=[num p.1,num p.2]
def U1(m:Mk):List Str:=["mark",m.n,m.s,num m.a.1,num m.a.2,num m.b.1,num m.b.2]
def Z2(p:Pt):List Str:=["point",p.n,p.s,num p.a.1,num p.a.2]
noncomputable def L4(l:Lt):List Str:="letter"::l.n::l.j::l.w::l.fs
def a5G(n:Str):List Str:=["gap",n]
noncomputable def T5(c:Cs):List Str:="class"::c.n::c.fs
noncomputable def a9p(b:Bool):Str:=if b then "on" else "off"
def a1Y(p:Str×Bool):List Str:=["feature",p.1,a9p p.2]
def K6(H:HL):List (List Str):=H.sh.map T4++H.mr.map U1++H.pt.map Z2++H.ls.map L4++H.gp.map a5G++H.cs.map T5++H.fe.map a1Y
theorem a2w{i:Int}(h: -99999<=i/\i<=99999):(num i).length<=7:=by
 unfold num;rw[ofString_length];exact int_text_length_le10 (a:=i) (k:=6) (by decide) (by omega)
theorem a6R{i:Int}(hi: -99999<=i/\i<=99999):biD .str h [.int i]=.ok (.str (num i)) h:=by
 simp only[biD];rw[ay]
 · rfl
 · by_cases h0:i.natAbs=0
   · rw[h0];decide
   · exact(Nat.log2_lt h0).mpr (aC (show i.natAbs<2^17 by omega) (Nat.pow_le_pow_right (by decide) (by decide)))
theorem D7:(Str.ofString " ").length=1:=rfl
theorem a4z{b:Nat}(h:∀w∈ws,w.length<=b):(ws.map (·.length)).sum<=ws.length*b:=by
 induction ws with
 |nil=>simp
 |cons x r ih=>
  rw[map_cons,sum_cons,length_cons]
  have:=ih fun w hw=>h w (.tail _ hw)
  have:=h x (.head _)
  rw[Nat.add_mul];omega
theorem b1x{b:Nat}(h:∀w∈ws,w.length<=b):(ln ws).length<=ws.length*(b+1):=by
 show(Builtin.Str.glued " " ws).length<=_
 rw[StrLaws.glued_eq_join];refine aR (StrLaws.join_length_le _ _) ?_
 have:=a4z h
 rw[D7,Nat.mul_add];omega
theorem b9b(h:∀w∈ws,w.length<=20)(hl:ws.length<=100):JoinOk " " ws=true:=by
 have:=a4z h
 exact a5a (by rw[D7];omega)
variable{ys:List Str}{p:Pat}{nb:Nat}
section
variable{ct:CT}{F:Nat->Option Fn}
theorem a2V{k:Nat}{p:Int×Int}(hF:F 213=some w6)(hp:a0v p):b0 ct F (k+1) 213 [spD p] h=.ok (.str (ln (K5 p))) h:=by
 rw[l7 hF rfl];simp only[w6]
 have i0:ixD h (spD p) (.int 0)=.ok (.int p.1) h:=ix_tup (i:=0) rfl
 have i1:ixD h (spD p) (.int 1)=.ok (.int p.2) h:=ix_tup (i:=1) rfl
 have l1:=a2w hp.1;have l2:=a2w hp.2;simp_arith[i0,i1,a6R hp.1,a6R hp.2,op2,o8 (h:=h) (x:=num p.1) (y:=" ") (by rw[D7];omega),o8 (h:=h) (x:=num p.1++(" ":Str)) (y:=num p.2) (by rw[n4,D7];omega)]
 rw[show(num p.1++(" ":Str))++num p.2=ln (K5 p) from a3Z (by rw[K2,K2,show cd (Str.ofString " ")=[32] from rfl];show cd (num p.1)++[32]++cd (num p.2)=cd (num p.1)++32::cd (num p.2);simp)]
 exact J9 rfl
theorem a5A{a b:Nat}{ys:List D}(h1:g[a]? =some (.lst xs))(h2:g[b]? =some (.lst ys))(hl:xs.length+ys.length<=100000):Y5 g (.ref a) (.ref b)=.ok (.ref g.length) (g++[.lst (xs++ys)]):=b5i h1 h2 hl
theorem b1y:biD .list h [.tup xs]=.ok (.ref h.length) (h++[.lst xs]):=rfl
theorem b4k(h1:g[n]? =some (.lst (ts.map .str)))(jo:JoinOk sep ts=true):mtD .join g (.str sep) [.ref n]=.ok (.str (Txt.join sep ts)) g:=by
 have:rdL g n=some (ts.map .str):=by unfold rdL;rw[h1]
 simp only[mtD,this,a1G];rw[ay jo]
theorem a3o{a:E}{fr:List Nat}{l:List α}(rp:α->D)(f:α->Str)(envf:α->t9)(ha:ev ct c a env h=.ok (.ref s) h)(hs:h[s]? =some (.lst (l.map rp)))(hl:l.length<=1000)
 (hx:∀x∈l,J2 p (rp x) (B0 nb fr env)=some (envf x)/\∀h,∃t,ev ct c e (envf x) h=.ok (.str (f x)) (h++t)):∃t,ev ct c (.comp p (.seq a) nb fr .yes e) env h=.ok (.ref (h++t).length) (h++t++[.lst ((l.map f).map .str)]):=by
 have key:∀(l':List α) (acc:List D) (h':AH),(∀t,gOk [(s,.lst (l.map rp))] (h'++t)=true)->(∀x∈l',J2 p (rp x) (B0 nb fr env)=some (envf x)/\∀h,∃t,ev ct c e (envf x) h=.ok (.str (f x)) (h++t))->acc.length+l'.length<=SL->∃t,T2 [(s,.lst (l.map rp))] p (tst ct c .yes) (ev ct c e) (B0 nb fr env) (l'.map rp) acc h'=.ok (acc++(l'.map f).map .str) (h'++t):=by
  intro l'
  induction l' with
  |nil=>
   intro acc h' g1 _ _;have g0:=g1 [];rw[bj] at g0;exact⟨[],by rw[map_nil,T2,ay g0];simp⟩
  |cons x r ih=>
   intro acc h' g1 hx' hl';have g0:=g1 [];rw[bj] at g0;obtain⟨b1,b2⟩:=hx' x (.head _);obtain⟨t,b2⟩:=b2 h';rw[length_cons] at hl';obtain⟨u,ih⟩:=ih (acc++[.str (f x)]) (h'++t) (fun u=>by rw[aA];exact g1 _) (fun y hy=>hx' y (.tail _ hy)) (by rw[ap];simp;omega)
   refine⟨t++u,?_⟩
   rw[map_cons,T2,ay g0,b1]
   simp only
   rw[a7D,b8,ay rfl,b2,b8,ay (by omega),ih]
   simp
 obtain⟨t,kt⟩:=key l [] h (fun t=>by simp[gOk,b5 (g:=t) hs]) hx (by show 0+_<=16777216;omega)
 refine⟨t,?_⟩
 rw[a5n (x:=(l.map rp,[(s,.lst (l.map rp))])) (h1:=h) (h2:=h++t) (ds:=(l.map f).map .str) (by rw[a0F,ha,b8];simp only[V5,hs]) (by rw[kt,nil_append])]
end
section
variable{ct:CT}{F:Nat->Option Fn}
def EvL(ct:CT)(c:CF)(e:E)(env:t9)(h:AH)(xs:List Str):Prop:=∃n t,ev ct c e env h=.ok (.ref n) (h++t)/\(h++t)[n]? =some (.lst (xs.map .str))/\(h.length<=n∨t=[])
theorem a8A{a b:E}{xs:List Str}(A:EvL ct c a env h xs)(B:∀t,EvL ct c b env (h++t) ys)(hl:xs.length+ys.length<=100000):EvL ct c (.bin .add a b) env h (xs++ys):=by
 obtain⟨n,t,a1,a2,_⟩:=A;obtain⟨m,u,b1,b2,_⟩:=B t;refine⟨(h++t++u).length,t++u++[.lst ((xs++ys).map .str)],?_,?_,.inl (by simp[ap,Nat.add_assoc])⟩
 · simp_arith[a1,b1,op2,a5A (b5 (g:=u) a2) b2 (by rw[aa,aa];exact hl)]
   simp
 · rw[show h++(t++u++[Cell.lst ((xs++ys).map .str)])=h++t++u++[.lst ((xs++ys).map .str)] by simp]
   exact b6
theorem a8z{es:Es}{xs:List Str}(e:evs ct c es env h=.ok (xs.map .str) h)(hl:xs.length<=1000):EvL ct c (.lst es) env h xs:=by
 refine⟨h.length,[.lst (xs.map .str)],?_,b6,.inl (ai _)⟩
 rw[b2o,e,b8,ay (by rw[aa];show _<=16777216;omega)]
 rfl
theorem a6r{a:E}{xs:List Str}(e:ev ct c a env h=.ok (.tup (xs.map .str)) h):EvL ct c (.bi .list (.cons a .nil)) env h xs:=by
 refine⟨h.length,[.lst (xs.map .str)],?_,b6,.inl (ai _)⟩
 simp_arith[e,b1y]
theorem a6s{xs:List Str}(A:EvL ct c e env h xs)(jo:JoinOk sep xs=true):∃t,ev ct c (.mt .join (.k (.str sep)) (.cons e .nil)) env h=.ok (.str (Txt.join sep xs)) (h++t):=by
 obtain⟨n,t,a1,a2,_⟩:=A;refine⟨t,?_⟩
 simp_arith[mtT,a1,b4k a2 jo]
end
theorem a1d(n:Nat):cd (num (n:Int))=(Nat.toDigits 10 n).map Char.toNat:=W.KIN.signs_num n
theorem b1L(n:Nat):n≠0->((Nat.toDigits 10 n).map Char.toNat).head?≠some 48:=by
 induction n using Nat.strongRecOn with
 |_ n ih=>
  intro h0
  by_cases h:n<10
  · rw[Nat.toDigits_of_lt_base h,map_cons,List.head?_cons,Nat.toNat_digitChar_of_lt_ten h]
    intro e
    have:=ax e
    omega
  · rw[Nat.toDigits_of_base_le (by decide) (by omega),ao]
    have hn:=ih (n/10) (by omega) (by omega)
    cases hd:Nat.toDigits 10 (n/10) with
    |nil=>exact absurd hd Nat.toDigits_ne_nil
    |cons a r=>rw[hd] at hn;exact hn
theorem a5i(n:Nat):(cd (num (n:Int))).all Q8=true:=by
 rw[a1d];refine bv.mpr fun c hc=>?_
 obtain⟨d,hd,rfl⟩:=ak.mp hc
 have:=Nat.isDigit_of_mem_toDigits (by decide) (by decide) hd
 rw[a5j];unfold Char.isDigit at this;simp only[ae,bE] at this;exact⟨this.1,this.2⟩
theorem a2Y(h:n<=99999):U9 (num (n:Int))=some (n:Int):=by
 have l5:(num (n:Int)).length<=5:=by
  rw[←r8,a1d,aa];exact(Nat.length_toDigits_le_iff (by decide) (by decide)).mpr (by omega)
 have l1:(num (n:Int)).length≠0:=by
  rw[←r8,a1d,aa];exact fun e=>Nat.toDigits_ne_nil (length_eq_zero_iff.mp e)
 unfold U9;rw[ay (a5i n),az,a1d,W.KIN.val_back];rintro(e|e|⟨e1,e2⟩)
 · exact l1 ((a9w _).mp e)
 · omega
 · rw[a1d] at e1
   by_cases h0:n=0
   · rw[h0] at e2;exact absurd e2 (by decide)
   · exact b1L n h0 e1
theorem a5s(m:Nat):cd (num (Int.negSucc m))=45::cd (num ((m+1:Nat):Int)):=by
 rw[a1d]
 show(Str.ofString ("-"++Nat.repr (m+1))).cps.toList=_
 rw[Str.ofString_eq_toList];simp[Nat.toList_repr]
theorem G0{i:Int}(h: -99999<=i/\i<=99999):a0K (num i)=some i:=by
 unfold a0K
 cases i with
 |ofNat n=>
  have h2:(n:Int)<=99999:=h.2
  rw[az]
  · exact a2Y (by omega)
  · intro e
    cases hc:cd (num (Int.ofNat n)) with
    |nil=>rw[hc] at e;cases e
    |cons c r=>
     rw[hc] at e;have e:=ax e
     have:=a5i n
     rw[show cd (num (n:Int))=c::r from hc,all_cons,e] at this;rw[show Q8 45=false from by decide+kernel] at this
     exact Bool.noConfusion this
 |negSucc m=>
  have h1:=h.1;rw[Int.negSucc_eq] at h1
  have t:tl (num (Int.negSucc m))=num ((m+1:Nat):Int):=a1e (by rw[a8L,a5s];rfl)
  rw[ay (by rw[a5s];rfl),t,a2Y (by omega)]
  simp only
  rw[az (by omega)]
  congr 1
structure WOk(w:Str):Prop where
 l:w.length<=20
 p:w.length≠0
 c:∀c∈cd w,c≠32/\c≠10
theorem WOk.num{i:Int}(h: -99999<=i/\i<=99999):WOk (num i):=by
 have fg:∀n:Nat,∀c∈cd (EV.num (n:Int)),c≠32/\c≠10:=fun n c hc=>by
  have:=(a5j c).mp (bv.mp (a5i n) c hc)
  omega
 refine⟨by have:=a2w h;omega,?_,?_⟩
 · rw[←r8]
   cases i with
   |ofNat n=>
    show(cd (EV.num (n:Int))).length≠0
    rw[a1d,aa];exact fun e=>Nat.toDigits_ne_nil (length_eq_zero_iff.mp e)
   |negSucc m=>rw[a5s];exact Nat.succ_ne_zero _
 · cases i with
   |ofNat n=>exact fg n
   |negSucc m=>
    rw[a5s];intro c hc
    rcases aE.mp hc with rfl|hc
    · decide
    · exact fg _ c hc
theorem b3r{c:Nat}(h:O7 c=true):c≠32/\c≠10:=by
 unfold O7 at h;have h:=aw h
 have:∀c∈cd a1k,c≠32/\c≠10:=by decide+kernel
 exact this c h
theorem WOk.name{w:Str}(h:l0 w=true):WOk w:=by
 unfold l0 at h;simp only[ae,bE] at h;exact⟨by omega,by omega,fun c hc=>b3r (bv.mp h.2 c hc)⟩
structure Row(ws:List Str):Prop where
 n:ws≠[]
 l:ws.length<=40
 w:∀w∈ws,WOk w
instance (w:Str):Decidable (w.length<=20/\w.length≠0/\∀c∈cd w,c≠32/\c≠10):=inferInstance
theorem WOk.k{w:Str}(h:w.length<=20/\w.length≠0/\∀c∈cd w,c≠32/\c≠10):WOk w:=⟨h.1,h.2.1,h.2.2⟩
theorem Row.nil:∀w∈([]:List Str),WOk w:=fun _ h=>nomatch h
theorem l8{r:List Str}(h:WOk a)(hr:∀w∈r,WOk w):∀w∈a::r,WOk w:=fun w hw=>by
 rcases aE.mp hw with rfl|hw
 · exact h
 · exact hr w hw
section
variable{H:HL}(K:HLok H)
include K
theorem V4{n:Str}(h:n∈H.sh.map (·.1)):l0 n=true:=by
 obtain⟨p,hp,rfl⟩:=ak.mp h;exact(K.sh.ok p hp).1
theorem a7N{s:Str}(h:Y4 s):WOk s:=by
 rcases h with rfl|rfl<;>exact WOk.k (by decide+kernel)
theorem a4U{m:Mk}(h:m∈H.mr):m.n∈H.sh.map (·.1):=K.mr.subset (ak.mpr ⟨m,h,rfl⟩)
theorem a5k(h:f∈H.fe.map (·.1)):l0 f=true:=K.fen.ok f h
theorem a3Q{p:Str×Nat}(h:p∈H.sh):Row (T4 p):=by
 have k:=K.sh.ok p h;exact⟨cons_ne_nil _ _,Nat.le_of_ble_eq_true rfl,l8 (WOk.k (by decide+kernel)) (l8 (WOk.name k.1) (l8 (WOk.num (by have:=k.2;omega)) Row.nil))⟩
theorem a5U{m:Mk}(h:m∈H.mr):Row (U1 m):=by
 obtain⟨k1,k2,k3⟩:=K.mko m h;exact⟨cons_ne_nil _ _,Nat.le_of_ble_eq_true rfl,l8 (WOk.k (by decide+kernel)) (l8 (WOk.name (V4 K (a4U K h))) (l8 (a7N K k1) (l8 (WOk.num k2.1) (l8 (WOk.num k2.2) (l8 (WOk.num k3.1) (l8 (WOk.num k3.2) Row.nil))))))⟩
theorem a3R{p:Pt}(h:p∈H.pt):Row (Z2 p):=by
 obtain⟨k1,k2,k3⟩:=K.pto p h;exact⟨cons_ne_nil _ _,Nat.le_of_ble_eq_true rfl,l8 (WOk.k (by decide+kernel)) (l8 (WOk.name (V4 K k1)) (l8 (a7N K k2) (l8 (WOk.num k3.1) (l8 (WOk.num k3.2) Row.nil))))⟩
theorem a0Q{l:Lt}(h:l∈H.ls):Row (L4 l):=by
 have k:=K.lso l h;have kl:=k.few;refine⟨cons_ne_nil _ _,by unfold L4;simp only[length_cons];omega,l8 (WOk.k (by decide+kernel)) (l8 (WOk.name k.nm) (l8 ?_ (l8 ?_ fun w hw=>WOk.name (V4 K (k.fs w hw)))))⟩
 · rcases k.js with e|e|e|e<;>rw[e]<;>exact WOk.k (by decide+kernel)
 · rcases k.ws with e|e|e<;>rw[e]<;>exact WOk.k (by decide+kernel)
theorem a5e{n:Str}(h:n∈H.gp):l0 n=true:=by
 obtain⟨l,hl,rfl⟩:=ak.mp (K.gp.subset h);exact(K.lso l hl).nm
theorem a7W{n:Str}(h:n∈H.gp):Row (a5G n):=⟨cons_ne_nil _ _,Nat.le_of_ble_eq_true rfl,l8 (WOk.k (by decide+kernel)) (l8 (WOk.name (a5e K h)) Row.nil)⟩
theorem a1I{c:Cs}(h:c∈H.cs):Row (T5 c):=by
 have k:=K.cso c h;have kl:=k.few;exact⟨cons_ne_nil _ _,by unfold T5;simp only[length_cons];omega,l8 (WOk.k (by decide+kernel)) (l8 (WOk.name k.nm) fun w hw=>WOk.name (V4 K (k.fs w hw)))⟩
theorem a5V{p:Str×Bool}(h:p∈H.fe):Row (a1Y p):=by
 refine⟨cons_ne_nil _ _,Nat.le_of_ble_eq_true rfl,l8 (WOk.k (by decide+kernel)) (l8 (WOk.name (a5k K (ak.mpr ⟨p,h,rfl⟩))) (l8 ?_ Row.nil))⟩
 cases p.2<;>exact WOk.k (by decide+kernel)
theorem a7T:∀ws∈K6 H,Row ws:=fun ws h=>by
 unfold K6 at h;simp only[aK,ak] at h
 rcases h with(((((⟨x,h,rfl⟩|⟨x,h,rfl⟩)|⟨x,h,rfl⟩)|⟨x,h,rfl⟩)|⟨x,h,rfl⟩)|⟨x,h,rfl⟩)|⟨x,h,rfl⟩
 · exact a3Q K h
 · exact a5U K h
 · exact a3R K h
 · exact a0Q K h
 · exact a7W K h
 · exact a1I K h
 · exact a5V K h
theorem a7I{f:α->β}{l:List α}{s:List β}(h:(l.map f).Sublist s):l.length<=s.length:=by
 have:=h.length_le
 rw[aa] at this;exact this
theorem Z8:(K6 H).length<=300/\K6 H≠[]:=by
 have a:=K.sh.hi;have a0:=K.sh.lo;have b:=a7I K K.mr;rw[aa] at b;have c:=K.ptl;have d:=K.ls;have e:=K.gp.length_le;rw[aa] at e;have f:=K.cs;have g:=K.fe
 have l:(K6 H).length=H.sh.length+H.mr.length+H.pt.length+H.ls.length+H.gp.length+H.cs.length+H.fe.length:=by
  unfold K6;simp only[ap,aa]
 exact⟨by omega,fun z=>by rw[z] at l;simp only[length_nil] at l;omega⟩
end
theorem b0w(r:Row ws):L3 (ln ws)=ws:=by
 unfold L3;rw[show Txt.split (ln ws) " "=ws from a2K (c:=32) r.n (fun p hp hc=>((r.w p hp).c 32 hc).1 rfl) (a6C ws)]
 exact List.filter_eq_self.mpr fun w hw=>bn fun e=>(r.w w hw).p ((a9w w).mp e)
theorem b1A{c x:Nat}:∀{ps:List (List Nat)},x∈jn c ps->x=c∨∃p∈ps,x∈p
 |[],h=>nomatch h
 |[p],h=>.inr ⟨p,.head _,h⟩
 |p::q::r,h=>by
  rcases aK.mp (show x∈p++c::jn c (q::r) from h) with h|h
  · exact .inr ⟨p,.head _,h⟩
  · rcases aE.mp h with h|h
    · exact .inl h
    · rcases b1A h with h|⟨y,hy,h⟩
      · exact .inl h
      · exact .inr ⟨y,.tail _ hy,h⟩
theorem b0v(r:Row ws):10∉cd (ln ws):=fun h=>by
 rw[a6C] at h
 rcases b1A h with h|⟨p,hp,h⟩
 · exact absurd h (by decide)
 · obtain⟨w,hw,rfl⟩:=ak.mp hp;exact((r.w w hw).c 10 h).2 rfl
theorem a7V(r:Row ws):(ln ws).length<=840:=by
 have:=b1x (ws:=ws) (b:=20) fun w hw=>(r.w w hw).l
 have l:=r.l
 have:ws.length*21<=40*21:=Nat.mul_le_mul_right 21 l
 omega
def a6o(H:HL):Str:=Txt.join "\n" ((K6 H).map ln)
theorem a8R{H:HL}(K:HLok H):Txt.split (a6o H) "\n"=(K6 H).map ln:=by
 refine a2K (c:=10) (fun e=>(Z8 K).2 (List.map_eq_nil_iff.mp e)) (fun p hp=>?_) ?_
 · obtain⟨ws,hw,rfl⟩:=ak.mp hp;exact b0v (a7T K ws hw)
 · show cd (Builtin.Str.glued "\n" _)=_
   rw[StrLaws.glued_eq_join];exact a2A 10 _
theorem a5S{H:HL}(K:HLok H):(((K6 H).map ln).map (·.length)).sum<=300*840:=by
 have:=a4z (ws:=(K6 H).map ln) (b:=840) fun w hw=>by
  obtain⟨ws,hq,rfl⟩:=ak.mp hw;exact a7V (a7T K ws hq)
 rw[aa] at this;have l:=(Z8 K).1;exact aR this (Nat.mul_le_mul_right _ l)
theorem b2X{H:HL}(K:HLok H):(a6o H).length<=1000000:=by
 have:=a5S K
 have l:=(Z8 K).1
 show(Builtin.Str.glued "\n" _).length<=_
 rw[StrLaws.glued_eq_join];refine aR (StrLaws.join_length_le _ _) ?_
 rw[aa,show(Str.ofString "\n").length=1 from rfl];omega
theorem b5y{H:HL}(K:HLok H):JoinOk "\n" ((K6 H).map ln)=true:=by
 have:=a5S K
 have l:=(Z8 K).1;exact a5a (by rw[aa,show(Str.ofString "\n").length=1 from rfl];omega)
theorem k32:cd (Str.ofString " ")=[32]:=rfl
theorem b3f(n w:Str):(("shape ":Str)++n++(" ":Str))++w=ln ["shape",n,w]:=a3Z (by
 simp only[K2,k32,show cd (Str.ofString "shape ")=cd (Str.ofString "shape")++[32] from by decide+kernel,map_cons,map_nil,jn,aA,cons_append,nil_append])
theorem b8j(n:Str):("gap ":Str)++n=ln ["gap",n]:=a3Z (by
 simp only[K2,show cd (Str.ofString "gap ")=cd (Str.ofString "gap")++[32] from by decide+kernel,map_cons,map_nil,jn,aA,cons_append,nil_append])
theorem b5D(n w:Str):(("feature ":Str)++n++(" ":Str))++w=ln ["feature",n,w]:=a3Z (by
 simp only[K2,k32,show cd (Str.ofString "feature ")=cd (Str.ofString "feature")++[32] from by decide+kernel,map_cons,map_nil,jn,aA,cons_append,nil_append])
theorem b3g(n s a b:Str):((((("point ":Str)++n)++(" ":Str))++s)++(" ":Str))++ln [a,b]=ln ["point",n,s,a,b]:=a3Z (by
 simp only[K2,k32,a6C,show cd (Str.ofString "point ")=cd (Str.ofString "point")++[32] from by decide+kernel,map_cons,map_nil,jn,aA,cons_append,nil_append])
theorem b5C(n s a b c d:Str):((((("mark ":Str)++n)++(" ":Str))++s)++(" ":Str))++((ln [a,b]++(" ":Str))++ln [c,d])=ln ["mark",n,s,a,b,c,d]:=a3Z (by
 simp only[K2,k32,a6C,show cd (Str.ofString "mark ")=cd (Str.ofString "mark")++[32] from by decide+kernel,map_cons,map_nil,jn,aA,cons_append,nil_append])
def TS(T:D)(h0:AH)(env:t9)(h:AH)(xs:List Str):Prop:=∃n e1 e3 e4 e5 e6 e7 e8 e9,env=[some T,e1,some (.ref n),e3,e4,e5,e6,e7,e8,e9]/\Pf h0 h/\h0.length<=n/\h[n]? =some (.lst (xs.map .str))
variable{body:Ss}
section
variable{ct:CT}{F:Nat->Option Fn}
theorem a0o{a:E}{fr:List Nat}{l:List α}(rp:α->D)(f:α->Str)(envf:α->t9)(ha:ev ct c a env h=.ok (.ref s) h)(hs:h[s]? =some (.lst (l.map rp)))(hl:l.length<=1000)
 (hx:∀x∈l,J2 p (rp x) (B0 nb fr env)=some (envf x)/\∀h,∃t,ev ct c e (envf x) h=.ok (.str (f x)) (h++t)):EvL ct c (.comp p (.seq a) nb fr .yes e) env h (l.map f):=by
 obtain⟨t,e⟩:=a3o rp f envf ha hs hl hx;exact⟨(h++t).length,t++[.lst ((l.map f).map .str)],by rw[e,aA],by rw[←aA];exact b6,.inl (by simp)⟩
theorem b2l{b:E}{xs:List Str}(e:env[i]? =some (some (.ref n)))(hn:h[n]? =some (.lst (xs.map .str)))(B:EvL ct c b env h ys)(hl:xs.length+ys.length<=1000):EvL ct c (.bin .add (.v i) b) env h (xs++ys):=by
 obtain⟨m,u,b1,b2,_⟩:=B;refine⟨(h++u).length,u++[.lst (xs.map .str++ys.map .str)],?_,by rw[←aA,b6,ao],.inl (by simp)⟩
 simp_arith[e,b1,op2,a5A (b5 (g:=u) hn) b2 (by rw[aa,aa];omega)]
 simp
theorem TS.pf{T:D}{xs:List Str}(S:TS T h0 env h xs):Pf h0 h:=by
 obtain⟨n,e1,e3,e4,e5,e6,e7,e8,e9,rfl,p,_⟩:=S;exact p
theorem a2G{T:D}{Tl:List D}{xs:List Str}(S:TS T h0 env h xs)(hT:T=.tup Tl)(hi:Tl[i]? =some (.ref s)):ev ct c (.ix (.v 0) (.k (.int (i:Int)))) env h=.ok (.ref s) h:=by
 obtain⟨n,e1,e3,e4,e5,e6,e7,e8,e9,rfl,_⟩:=S;subst hT;simp_arith[ix_tup (h:=h) hi]
theorem a4x{T:D}{xs:List Str}{C:E}(S:TS T h0 env h xs)(hC:EvL ct c C env h ys)(hl:xs.length+ys.length<=1000):∃env' h',ex ct c (.set 2 (.bin .add (.v 2) C)) env h=.ok (.nx env') h'/\TS T h0 env' h' (xs++ys):=by
 obtain⟨n,e1,e3,e4,e5,e6,e7,e8,e9,rfl,p,l,g⟩:=S;obtain⟨m,u,c1,c2,_⟩:=hC;refine⟨[some T,e1,some (.ref (h++u).length),e3,e4,e5,e6,e7,e8,e9],h++u++[.lst (xs.map .str++ys.map .str)],?_,_,e1,e3,e4,e5,e6,e7,e8,e9,rfl,(p.app _).app _,by have:=p.len;rw[ap];omega,by rw[ao];exact b6⟩
 simp_arith[c1,op2,a5A (b5 (g:=u) g) c2 (by rw[aa,aa];omega)]
theorem b0a{T:D}{xs:List Str}{a:E}{l:List α}(rp:α->D)(f:α->Str)(S:TS T h0 env h xs)(ha:ev ct c a env h=.ok (.ref s) h)(hs:h0[s]? =some (.lst (l.map rp)))
 (hb:∀x∈l,∀env h xs,TS T h0 env h xs->xs.length<=1000->∃env1 env' h',J2 p (rp x) env=some env1/\exs ct c body env1 h=.ok (.nx env') h'/\TS T h0 env' h' (xs++[f x])) (hl:xs.length+l.length<=1000):∃env' h',ex ct c (.for p (.seq a) body) env h=.ok (.nx env') h'/\TS T h0 env' h' (xs++l.map f):=by
 have S0:=S;obtain⟨n,e1,e3,e4,e5,e6,e7,e8,e9,rfl,pf,_⟩:=S
 obtain⟨env',h',q1,q2⟩:=z3 (g:=[(s,.lst (l.map rp))]) (p:=p) (body:=exs ct c body) (fun j env h=>TS T h0 env h (xs++(l.take j).map f)) (fun j env h S=>by
  obtain⟨n,e1,e3,e4,e5,e6,e7,e8,e9,rfl,pf,_⟩:=S;simp[gOk,pf.at hs]) (l.map rp) 0 _ h (fun j x env h hx hP=>by
  have hj:j<l.length:=by simpa using(ac.mp hx).1
  rw[aj,af hj] at hx
  obtain rfl:rp l[j]=x:=ax hx;rw[aB] at hP⊢;obtain⟨env1,env',h',b1,b2,b3⟩:=hb l[j] (bz hj) env h _ hP (by rw[ap,aa,aM];omega)
  refine⟨env1,env',h',b1,b2,?_⟩
  rw[List.take_add_one,af hj,ao,←aA]
  exact b3) (by rw[List.take_zero,map_nil,bj];exact S0)
 refine⟨env',h',?_,?_⟩
 · rw[a5l,a0F,ha,b8];simp only[V5,pf.at hs];rw[b8];exact q1
 · rw[aa,aB,bp] at q2;exact q2
theorem b0b{T:D}{xs:List Str}{t:AH}(S:TS T h0 env h xs)(he:ev ct c e env h=.ok (.str z) (h++t))(hl:xs.length<=1000):∃h',ex ct c (.ex (.mt .append (.v 2) (.cons e .nil))) env h=.ok (.nx env) h'/\TS T h0 env h' (xs++[z]):=by
 obtain⟨n,e1,e3,e4,e5,e6,e7,e8,e9,rfl,p,l,g⟩:=S;refine⟨(h++t).set n (.lst (xs.map .str++[.str z])),?_,n,e1,e3,e4,e5,e6,e7,e8,e9,rfl,(p.app _).set l,l,by rw[u9 (b5 g),ao];rfl⟩
 simp_arith[z7 g,he,K3 (b5 (g:=t) g) (by rw[aa];omega)]
theorem a8C(A:EvL ct c e env h ws)(r:Row ws):∃t,ev ct c (.mt .join (.k (.str " ")) (.cons e .nil)) env h=.ok (.str (ln ws)) (h++t):=a6s A (b9b (fun w hw=>(r.w w hw).l) (by have:=r.l;omega))
theorem a3a:(Str.ofString "shape ").length=6:=rfl
theorem a1r:(Str.ofString "mark ").length=5:=rfl
theorem a0b:(Str.ofString "point ").length=6:=rfl
theorem b6z:(Str.ofString "gap ").length=4:=rfl
theorem a4T:(Str.ofString "feature ").length=8:=rfl
theorem a2W{p:Int×Int}(hp:a0v p):(ln (K5 p)).length<=42:=b1x (ws:=K5 p) (b:=20) (l8 (WOk.num hp.1) (l8 (WOk.num hp.2) Row.nil) · · |>.l)
variable{H:HL}(K:HLok H)
include K
theorem b4N{p:Str×Nat}(hp:p∈H.sh):ev ct c b4o [some (.str p.1),some (.int (p.2:Int))] h=.ok (.str (ln (T4 p))) h:=by
 have k:=K.sh.ok p hp;have l1:=a1L k.1;have l2:=a2w (i:=(p.2:Int)) (by have:=k.2;omega)
 unfold b4o;simp_arith[op2,o8 (h:=h) (x:="shape ") (y:=p.1) (by rw[a3a];omega),o8 (h:=h) (x:=("shape ":Str)++p.1) (y:=" ") (by rw[n4,a3a,D7];omega),a6R (i:=(p.2:Int)) (h:=h) (by have:=k.2;omega),o8 (h:=h) (x:=("shape ":Str)++p.1++(" ":Str)) (y:=num p.2) (by rw[n4,n4,a3a,D7];omega),b3f]
 rfl
theorem b9N{n:Str}(hn:n∈H.gp):ev ct c (.bin .add (.k (.str "gap ")) (.v 0)) [some (.str n)] h=.ok (.str (ln (a5G n))) h:=by
 have l1:=a1L (a5e K hn);simp_arith[op2,o8 (h:=h) (x:="gap ") (y:=n) (by rw[b6z];omega),b8j]
 rfl
theorem b7u{p:Str×Bool}(hp:p∈H.fe):∃t,ev ct c b6Z [some (.str p.1),some (.bl p.2)] h=.ok (.str (ln (a1Y p))) (h++t):=by
 have l1:=a1L (a5k K (ak.mpr ⟨p,hp,rfl⟩))
 have lo:(a9p p.2).length<=20:=by cases p.2<;>decide
 have ib:biD .int (h++[.lst [.str "off",.str "on"]]) [.bl p.2]=.ok (.int ((if p.2 then 1 else 0:Nat):Int)) (h++[.lst [.str "off",.str "on"]]):=by cases p.2<;>rfl
 have ix:ixD (h++[.lst [.str "off",.str "on"]]) (.ref h.length) (.int ((if p.2 then 1 else 0:Nat):Int))=.ok (.str (a9p p.2)) (h++[.lst [.str "off",.str "on"]]):=B6 b6 (by cases p.2<;>rfl)
 refine⟨[.lst [.str "off",.str "on"]],?_⟩
 unfold b6Z;simp_arith[op2,o8 (h:=h) (x:="feature ") (y:=p.1) (by rw[a4T];omega),o8 (h:=h) (x:=("feature ":Str)++p.1) (y:=" ") (by rw[n4,a4T,D7];omega),o9,ib,ix,o8 (h:=h++[.lst [.str "off",.str "on"]]) (x:=("feature ":Str)++p.1++(" ":Str)) (y:=a9p p.2) (by rw[n4,n4,a4T,D7];omega),b5D]
 rfl
theorem b4Q{x:Cs}(hx:x∈H.cs):∃t,ev ct c (.mt .join (.k (.str " ")) (.cons b6Y .nil)) [some (.str x.n),some (.tup (x.fs.map .str))] h=.ok (.str (ln (T5 x))) (h++t):=by
 have r:=a1I K hx;have l:=r.l;have A:=a8A (a8z (ct:=ct) (c:=c) (es:=(.cons (.k (.str "class")) (.cons (.v 0) .nil))) (env:=[some (.str x.n),some (.tup (x.fs.map .str))]) (h:=h) (xs:=["class",x.n]) (by simp_arith[]) (by show 2<=1000;decide)) (fun t=>a6r (a:=.v 1) (xs:=x.fs) (by simp_arith[])) (by unfold T5 at l;simp only[length_cons,length_nil] at l⊢;omega)
 exact a8C (e:=b6Y) A r
theorem b2K{T:D}{xs:List Str}{x:Lt}(hx:x∈H.ls)(S:TS T h0 env h xs)(hl:xs.length<=1000):∃env1 env' h',J2 (htP 1 7 8 9) (ltD x) env=some env1/\exs ct c b4p env1 h=.ok (.nx env') h'/\TS T h0 env' h' (xs++[ln (L4 x)]):=by
 have r:=a0Q K hx;have l:=r.l;obtain⟨n,e1,e3,e4,e5,e6,e7,e8,e9,rfl,p,ln',g⟩:=S
 have S1:TS T h0 [some T,some (.str x.n),some (.ref n),e3,e4,e5,e6,some (.str x.j),some (.str x.w),some (.tup (x.fs.map .str))] h xs:=⟨n,_,_,_,_,_,_,_,_,rfl,p,ln',g⟩
 have A:=a8A (a8z (ct:=ct) (c:=c) (es:=(.cons (.k (.str "letter")) (.cons (.v 1) (.cons (.v 7) (.cons (.v 8) .nil))))) (env:=[some T,some (.str x.n),some (.ref n),e3,e4,e5,e6,some (.str x.j),some (.str x.w),some (.tup (x.fs.map .str))]) (h:=h) (xs:=["letter",x.n,x.j,x.w]) (by simp_arith[]) (by show 4<=1000;decide)) (fun t=>a6r (a:=.v 9) (xs:=x.fs) (by simp_arith[])) (by unfold L4 at l;simp only[length_cons,length_nil] at l⊢;omega)
 obtain⟨t,q⟩:=a8C (e:=b9k) A r;obtain⟨h',q1,q2⟩:=b0b S1 q hl;refine⟨_,_,h',rfl,?_,q2⟩
 unfold b4p
 show exs ct c _ [some T,some (.str x.n),some (.ref n),e3,e4,e5,e6,some (.str x.j),some (.str x.w),some (.tup (x.fs.map .str))] h=_
 rw[seq q1,a2z]
variable(f213:F 213=some w6)
include f213
theorem b4O{k:Nat}{p:Pt}(hp:p∈H.pt):ev ct (b0 ct F (k+1)) b7a [some (.str p.n),some (.str p.s),some (spD p.a)] h=.ok (.str (ln (Z2 p))) h:=by
 obtain⟨k1,k2,k3⟩:=K.pto p hp;have l1:=a1L (V4 K k1);have l2:=(a7N K k2).l;have l3:=a2W k3;unfold b7a;simp_arith[op2,a2V (ct:=ct) (k:=k) (h:=h) f213 k3,o8 (h:=h) (x:="point ") (y:=p.n) (by rw[a0b];omega),o8 (h:=h) (x:=("point ":Str)++p.n) (y:=" ") (by rw[n4,a0b,D7];omega),o8 (h:=h) (x:=("point ":Str)++p.n++(" ":Str)) (y:=p.s) (by rw[n4,n4,a0b,D7];omega),o8 (h:=h) (x:=("point ":Str)++p.n++(" ":Str)++p.s) (y:=" ") (by rw[n4,n4,n4,a0b,D7];omega),o8 (h:=h) (x:=("point ":Str)++p.n++(" ":Str)++p.s++(" ":Str)) (y:=ln (K5 p.a)) (by rw[n4,n4,n4,n4,a0b,D7];omega)]
 unfold K5;rw[b3g];rfl
theorem b7I{k:Nat}{T:D}{xs:List Str}{x:Mk}(hx:x∈H.mr)(S:TS T h0 env h xs)(hl:xs.length<=1000):∃env1 env' h',J2 (htP 1 3 4 5) (mkD x) env=some env1/\exs ct (b0 ct F (k+1)) b4q env1 h=.ok (.nx env') h'/\TS T h0 env' h' (xs++[ln (U1 x)]):=by
 obtain⟨k1,k2,k3⟩:=K.mko x hx;have l1:=a1L (V4 K (a4U K hx));have l2:=(a7N K k1).l;have l3:=a2W k2;have l4:=a2W k3;obtain⟨n,e1,e3,e4,e5,e6,e7,e8,e9,rfl,p,ln',g⟩:=S
 have S1:TS T h0 [some T,some (.str x.n),some (.ref n),some (.str x.s),some (spD x.a),some (spD x.b),some (.str ((ln (K5 x.a)++(" ":Str))++ln (K5 x.b))),e7,e8,e9] h xs:=⟨n,_,_,_,_,_,_,_,_,rfl,p,ln',g⟩
 have q:ev ct (b0 ct F (k+1)) (.bin .add (.bin .add (.bin .add (.bin .add (.bin .add (.k (.str "mark ")) (.v 1)) (.k (.str " "))) (.v 3)) (.k (.str " "))) (.v 6)) [some T,some (.str x.n),some (.ref n),some (.str x.s),some (spD x.a),some (spD x.b),some (.str ((ln (K5 x.a)++(" ":Str))++ln (K5 x.b))),e7,e8,e9] h=.ok (.str (ln (U1 x))) (h++[]):=by
  rw[bj];simp_arith[op2,o8 (h:=h) (x:="mark ") (y:=x.n) (by rw[a1r];omega),o8 (h:=h) (x:=("mark ":Str)++x.n) (y:=" ") (by rw[n4,a1r,D7];omega),o8 (h:=h) (x:=("mark ":Str)++x.n++(" ":Str)) (y:=x.s) (by rw[n4,n4,a1r,D7];omega),o8 (h:=h) (x:=("mark ":Str)++x.n++(" ":Str)++x.s) (y:=" ") (by rw[n4,n4,n4,a1r,D7];omega),o8 (h:=h) (x:=("mark ":Str)++x.n++(" ":Str)++x.s++(" ":Str)) (y:=ln (K5 x.a)++(" ":Str)++ln (K5 x.b)) (by rw[n4,n4,n4,n4,n4,n4,a1r,D7];omega)]
  unfold K5;rw[b5C];rfl
 obtain⟨h',q1,q2⟩:=b0b S1 q hl;refine⟨_,_,h',rfl,?_,q2⟩
 unfold b4q
 show exs ct (b0 ct F (k+1)) _ [some T,some (.str x.n),some (.ref n),some (.str x.s),some (spD x.a),some (spD x.b),e6,e7,e8,e9] h=_
 rw[seq (env':=[some T,some (.str x.n),some (.ref n),some (.str x.s),some (spD x.a),some (spD x.b),some (.str ((ln (K5 x.a)++(" ":Str))++ln (K5 x.b))),e7,e8,e9]) (h':=h) (by simp_arith[op2,a2V (ct:=ct) (k:=k) (h:=h) f213 k2,a2V (ct:=ct) (k:=k) (h:=h) f213 k3,o8 (h:=h) (x:=ln (K5 x.a)) (y:=" ") (by rw[D7];omega),o8 (h:=h) (x:=ln (K5 x.a)++(" ":Str)) (y:=ln (K5 x.b)) (by rw[n4,D7];omega)]),seq q1,a2z]
theorem b1M{k:Nat}{a b c d e f:Nat}(f215:F 215=some C1)(A:HAt H h a b c d e f i j):b0 ct F (k+2) 215 [.tup [.ref a,.ref b,.ref c,.ref d,.ref e,.ref f,.ref i,.ref j]] h=.ok (.str (a6o H)) h:=by
 rw[l7 f215 rfl];simp only[C1];generalize hT:D.tup [.ref a,.ref b,.ref c,.ref d,.ref e,.ref f,.ref i,.ref j]=T
 show gcR 1 h (O6 (exs ct (b0 ct F (k+1)) _ [some T,none,none,none,none,none,none,none,none,none] h))=_
 have rl:=(Z8 K).1
 have ll:H.sh.length+H.mr.length+H.pt.length+H.ls.length+H.gp.length+H.cs.length+H.fe.length<=300:=by
  unfold K6 at rl;simp only[ap,aa] at rl;exact rl
 obtain⟨t0,c0⟩:=a3o (ct:=ct) (c:=b0 ct F (k+1)) (p:=(.tp (.cons (.nm 0) (.cons (.nm 1) .nil)))) (a:=(.ix (.v 0) (.k (.int (0))))) (e:=b4o) (nb:=2) (fr:=[]) (env:=[some T,none,none,none,none,none,none,none,none,none]) (h:=h) (l:=H.sh) (s:=a) (fun p=>.tup [.str p.1,.int (p.2:Int)]) (fun p=>ln (T4 p)) (fun p=>[some (.str p.1),some (.int (p.2:Int))]) (by rw[←hT];simp_arith[a2F]) A.sh (by omega) (fun x hx=>⟨rfl,fun h=>⟨[],by rw[bj];exact b4N K hx⟩⟩)
 have S0:TS T h [some T,none,some (.ref (h++t0).length),none,none,none,none,none,none,none] (h++t0++[.lst ((H.sh.map fun p=>ln (T4 p)).map .str)]) (H.sh.map fun p=>ln (T4 p)):=⟨_,_,_,_,_,_,_,_,_,rfl,((Pf.refl h).app _).app _,by simp,b6⟩
 rw[seq (env':=[some T,none,some (.ref (h++t0).length),none,none,none,none,none,none,none]) (by unfold b9q;rw[b2h,c0,b8];rfl)]
 obtain⟨env1,h1,q1,S1⟩:=b0a (l:=H.mr) (a:=(.ix (.v 0) (.k (.int (1))))) (p:=htP 1 3 4 5) (body:=b4q) (c:=b0 ct F (k+1)) mkD (fun m=>ln (U1 m)) S0 (a2G (i:=1) S0 hT.symm rfl) A.mr (fun x hx env h xs S hl=>b7I K f213 hx S hl) (by rw[aa];omega)
 rw[seq q1];obtain⟨env2,h2,q2,S2⟩:=a4x (ct:=ct) (c:=b0 ct F (k+1)) (C:=b9p) S1 (a0o (a:=(.ix (.v 0) (.k (.int (2))))) (l:=H.pt) ptD (fun p=>ln (Z2 p)) (fun p=>[some (.str p.n),some (.str p.s),some (spD p.a)]) (a2G (i:=2) S1 hT.symm rfl) (S1.pf.at A.pt) (by omega) (fun x hx=>⟨rfl,fun h=>⟨[],by rw[bj];exact b4O K f213 hx⟩⟩)) (by simp only[ap,aa];omega)
 rw[seq q2];obtain⟨env3,h3,q3,S3⟩:=b0a (l:=H.ls) (a:=(.ix (.v 0) (.k (.int (3))))) (p:=htP 1 7 8 9) (body:=b4p) (c:=b0 ct F (k+1)) ltD (fun m=>ln (L4 m)) S2 (a2G (i:=3) S2 hT.symm rfl) A.ls (fun x hx env h xs S hl=>b2K K hx S hl) (by simp only[ap,aa];omega)
 rw[seq q3];obtain⟨env4,h4,q4,S4⟩:=a4x (ct:=ct) (c:=b0 ct F (k+1)) (C:=b9o) S3 (a0o (a:=(.ix (.v 0) (.k (.int (4))))) (l:=H.gp) .str (fun p=>ln (a5G p)) (fun p=>[some (.str p)]) (a2G (i:=4) S3 hT.symm rfl) (S3.pf.at A.gp) (by omega) (fun x hx=>⟨rfl,fun h=>⟨[],by rw[bj];exact b9N K hx⟩⟩)) (by simp only[ap,aa];omega)
 rw[seq q4];obtain⟨env5,h5,q5,S5⟩:=a4x (ct:=ct) (c:=b0 ct F (k+1)) (C:=b9n) S4 (a0o (a:=(.ix (.v 0) (.k (.int (5))))) (l:=H.cs) csD (fun p=>ln (T5 p)) (fun p=>[some (.str p.n),some (.tup (p.fs.map .str))]) (a2G (i:=5) S4 hT.symm rfl) (S4.pf.at A.cs) (by omega) (fun x hx=>⟨rfl,fun h=>b4Q K hx⟩)) (by simp only[ap,aa];omega)
 rw[seq q5];obtain⟨env6,h6,q6,S6⟩:=a4x (ct:=ct) (c:=b0 ct F (k+1)) (C:=b9m) S5 (a0o (a:=(.ix (.v 0) (.k (.int (6))))) (l:=H.fe) feD (fun p=>ln (a1Y p)) (fun p=>[some (.str p.1),some (.bl p.2)]) (a2G (i:=6) S5 hT.symm rfl) (S5.pf.at A.fe) (by omega) (fun x hx=>⟨rfl,fun h=>b7u K hx⟩)) (by simp only[ap,aa];omega)
 rw[seq q6];have B:=a0o (ct:=ct) (c:=b0 ct F (k+1)) (p:=.nm 0) (nb:=1) (fr:=[]) (e:=(.call 214 (.cons (.v 0) .nil))) (a:=(.ix (.v 0) (.k (.int (7))))) (l:=([]:List Str)) .str id (fun _=>[]) (a2G (i:=7) S6 hT.symm rfl) (S6.pf.at A.ru) (by decide) (fun x hx=>nomatch hx)
 obtain⟨n,e1,e3,e4,e5,e6,e7,e8,e9,rfl,p,l,g⟩:=S6
 have C:EvL ct (b0 ct F (k+1)) (.bin .add (.v 2) b9l) [some T,e1,some (.ref n),e3,e4,e5,e6,e7,e8,e9] h6 ((K6 H).map ln):=by
  have e:(K6 H).map ln=(((((((H.sh.map fun p=>ln (T4 p))++H.mr.map fun p=>ln (U1 p))++H.pt.map fun p=>ln (Z2 p))++H.ls.map fun p=>ln (L4 p))++H.gp.map fun p=>ln (a5G p))++H.cs.map fun p=>ln (T5 p))++H.fe.map fun p=>ln (a1Y p)):=by
   unfold K6;simp only[ao,aH];rfl
  have z:=b2l (i:=2) rfl g B (by simp only[ap,aa,length_nil];omega)
  rw[map_nil,bj] at z;rw[e];exact z
 obtain⟨t,z⟩:=a6s C (b5y K);rw[O9,b2i,z,b8,b8]
 show gcR 1 h (.ok (.str (a6o H)) (h6++t))=_
 exact b9u (p.app t) rfl
end
theorem b5m{s:Str}(h:Y4 s):inD (.str s) [.str "above",.str "below"]=true:=by rcases h with rfl|rfl<;>decide
theorem a1b{a b c:Bool}(ha:a=false)(hb:b=true)(hc:c=false):due a b c=none:=by subst ha hb hc;rfl
theorem nin[DecidableEq α]{a:α}{l:List α}(h:a∉l):decide (a∈l)=false:=bF h
theorem a0U(h:l0 z=true):z.length<=100000:=by have:=a1L h;omega
theorem flat_strs(xs:List Str):(xs.map D.str).all B7=true:=by
 rw[all_map];exact bv.mpr fun _ _=>rfl
theorem a8p(x:Str):∀xs:List Str,inD (.str x) (xs.map .str)=decide (x∈xs)
 |[]=>rfl
 |y::r=>by
  have ih:=a8p x r;unfold inD at ih⊢;rw[map_cons,any_cons,ih]
  show(decide (y=x)||decide (x∈r))=_
  by_cases e:y=x
  · subst e;simp
  · rw[bF e,Bool.false_or];exact decide_eq_decide.mpr ⟨fun z=>.tail _ z,fun z=>(aE.mp z).resolve_left fun q=>e q.symm⟩
variable{r:R D}
section
variable{ct:CT}{F:Nat->Option Fn}(W:PF F)
include W
theorem b2P{k f:Nat}{d5:List D}(hw:h[w]? =some (.lst (.str x::d5)))(hr:b0 ct F k f [.ref n,.ref w] h=r)(hx:(x,f)∈[(("mark":Str),19),("gap",23)]):b0 ct F (k+1) 13 [.ref n,.ref w] h=r:=by
 rw[←hr,l7 W.f13 rfl];simp only[C8];rw[gc0];simp only[aE,not_mem_nil,or_false,Prod.mk.injEq] at hx
 rcases hx with⟨rfl,rfl⟩|⟨rfl,rfl⟩
 · simp_arith[v7 0 0 rfl hw rfl,op2,K4,eqS,decide_true,decide_false];generalize b0 ct F k 19 [.ref n,.ref w] h=r
   cases r<;>simp_arith[]
 · simp_arith[v7 0 0 rfl hw rfl,op2,K4,eqS,decide_true,decide_false];generalize b0 ct F k 23 [.ref n,.ref w] h=r
   cases r<;>simp_arith[]
theorem HallAt.s5{H:HD}(A:HallAt h n H)(l:List Str):HallAt (h.set (n+5) (.lst (l.map .str))) n {H with gaps:=l}:=
 ⟨b7 (by omega) A.o,b7 (by omega) A.c1,b7 (by omega) A.c2,b7 (by omega) A.c3,b7 (by omega) A.c4,u9 A.c5,b7 (by omega) A.c6,b7 (by omega) A.c7,b7 (by omega) A.c8⟩
variable{d:Nat}{H:HD}
theorem b1P{p:Str×Nat}(hn:l0 p.1=true)(hw:p.2<99999)(h1:p.1∉H.shapes.map (·.1))(hl:H.shapes.length<60):a0u ct F (d+9) H (T4 p) none {H with shapes:=H.shapes++[(p.1,.int (p.2:Int))]}:=by
 have:=b0f (ct:=ct) (d:=d) (H:=H) W hn (a2Y (n:=p.2) (by omega))
 rw[a1b (nin h1) rfl (bF (by omega))] at this
 exact this
theorem b4v{p:Str×Bool}(hn:l0 p.1=true)(h1:p.1∉H.features.map (·.1))(hl:H.features.length<10):a0u ct F (d+9) H (a1Y p) none {H with features:=H.features++[(p.1,.bl p.2)]}:=by
 have:=a6P (ct:=ct) (d:=d) (H:=H) (b:=a9p p.2) W hn (by cases p.2;exact .inr rfl;exact .inl rfl)
 rw[a1b (nin h1) rfl (bF (by omega)),show decide (a9p p.2="on")=p.2 by cases p.2<;>decide+kernel] at this
 exact this
theorem a9C{l:Lt}(o:LtOk sh l)(hs:∀f∈l.fs,l0 f=true/\f∈H.shapes.map (·.1))(h1:l.n∉H.letters.map (·.1))(hl:H.letters.length<24):a0u ct F (d+9) H (L4 l) none {H with letters:=H.letters++[(l.n,.tup [.str l.j,.str l.w,.tup (l.fs.map .str)])]}:=by
 intro h n w A hw
 have:=a2H (ct:=ct) (k:=d+3) (d5:=l.fs) W A hw o.nm (a0U o.nm) o.jn o.wy (bv.mpr fun f hf=>(hs f hf).1) (fun y hy=>a0U (hs y hy).1) (by have:=o.few;omega)
 rw[a1b (nin h1) (bv.mpr fun f hf=>bn (hs f hf).2) (bF (by omega))] at this
 rw[a8V W hw,this];exact⟨_,rfl,(Fr.app n h _).trans (Fr.set (by omega) (by omega)),(A.app _).s4 _⟩
theorem b1R{c:Cs}(o:CsOk sh c)(hs:∀f∈c.fs,l0 f=true/\f∈H.shapes.map (·.1))(h1:c.n∉H.classes.map (·.1))(hl:H.classes.length<20):a0u ct F (d+9) H (T5 c) none {H with classes:=H.classes++[(c.n,.tup (c.fs.map .str))]}:=by
 intro h n w A hw
 have:=a3B (ct:=ct) (k:=d+3) (d5:=c.fs) W A hw o.nm (a0U o.nm) (bv.mpr fun f hf=>(hs f hf).1) (fun y hy=>a0U (hs y hy).1) o.few.1 o.few.2
 rw[a1b (nin h1) (bv.mpr fun f hf=>bn (hs f hf).2) (bF (by omega))] at this
 rw[b0e W hw,this];exact⟨_,rfl,(Fr.app n h _).trans (Fr.set (by omega) (by omega)),(A.app _).s6 _⟩
theorem b1Q{p:Pt}(hn:l0 p.n=true)(hs:Y4 p.s)(ha:a0v p.a)(h1:ptK p∉H.points.map (·.1))(h2:p.n∈H.shapes.map (·.1))(hl:H.points.length<=1000):a0u ct F (d+9) H (Z2 p) none {H with points:=H.points++[(ptK p,spD p.a)]}:=by
 intro h n w A hw
 have:=a3A (ct:=ct) (k:=d+2) W A hw hn (a0U hn) (b5m hs) (G0 ha.1) (G0 ha.2) (by omega)
 have h1:(p.n,p.s)∉H.points.map (·.1):=h1
 rw[a1b (bF h1) (bn h2) rfl] at this;rw[b0d W hw];exact this
theorem b7d{g:Str}(hn:l0 g=true)(h1:g∉H.gaps)(h2:g∈H.letters.map (·.1))(hl:H.gaps.length<=1000):a0u ct F (d+9) H (a5G g) none {H with gaps:=H.gaps++[g]}:=by
 intro h n w A hw
 have hw:h[w]? =some (.lst [.str "gap",.str g]):=hw
 have hg:V9 false h (.str g) (.ref (n+5))=.ok (.bl false) h:=by
  simp only[V9,A.c5];rw[ay (by rw[flat_strs];rfl),a8p,nin h1]
  rfl
 have e:b0 ct F (d+8) 23 [.ref n,.ref w] h=.ok .non (h.set (n+5) (.lst ((H.gaps++[g]).map .str))):=by
  rw[l7 W.f23 rfl];simp only[X0];rw[gc0];simp_arith[z9 hw,op2,a1p,eqS,v7 1 1 rfl hw rfl,L1 W (a0U hn),hn,A.fld5,A.fld4,hg,a1v A.c4,bn h2,C7 W,a1b rfl rfl rfl,Z1,Int.cast_ofNat_Int,decide_true,Bool.not_true,z7 A.c5,K3 (d:=.str g) A.c5 (by rw[aa];omega)]
  rw[ao];rfl
 rw[b2P W hw e (.tail _ (.head _))];exact⟨_,rfl,Fr.set (by omega) (by omega),HallAt.s5 W A _⟩
theorem b4u{m:Mk}(hn:l0 m.n=true)(hs:Y4 m.s)(ha:a0v m.a)(hb:a0v m.b)(h1:m.n∉H.marks.map (·.1))(h2:m.n∈H.shapes.map (·.1))(hl:H.marks.length<=1000):a0u ct F (d+9) H (U1 m) none {H with marks:=H.marks++[(m.n,.tup [.str m.s,spD m.a,spD m.b])]}:=by
 intro h n w A hw
 have hf:b0 ct F (d+7) 18 [.ref w,.int 4] h=.ok (.bl true) h:=a1l (k:=d+2) (ws:=[num m.a.1,num m.a.2,num m.b.1,num m.b.2]) W hw hn (a0U hn) (b5m hs) rfl (by simp[a5P,G0 ha.1,G0 ha.2,G0 hb.1,G0 hb.2]) (fun y hy=>by
  have:=(l8 (WOk.num ha.1) (l8 (WOk.num ha.2) (l8 (WOk.num hb.1) (l8 (WOk.num hb.2) Row.nil))) y hy).l
  omega) (by simp)
 have e35:U0 ((U1 m).map .str) (some 3) (some 5)=[.str (num m.a.1),.str (num m.a.2)]:=a1V 3 5 ((U1 m).map .str) (by decide) (Nat.le_of_ble_eq_true rfl)
 have e57:U0 ((U1 m).map .str) (some 5) (some 7)=[.str (num m.b.1),.str (num m.b.2)]:=a1V 5 7 ((U1 m).map .str) (by decide) (Nat.le_of_ble_eq_true rfl)
 have A2:=(A.app [.lst [.str (num m.a.1),.str (num m.a.2)]]).app [.lst [.str (num m.b.1),.str (num m.b.2)]];have hw1:=b5 (g:=[.lst [.str (num m.a.1),.str (num m.a.2)]]) hw
 have e:b0 ct F (d+8) 19 [.ref n,.ref w] h=.ok .non ((h++[Cell.lst [D.str (num m.a.1),D.str (num m.a.2)]]++[Cell.lst [D.str (num m.b.1),D.str (num m.b.2)]]).set (n+2) (Cell.dict (kd (H.marks++[(m.n,D.tup [.str m.s,spD m.a,spD m.b])])))):=by
  rw[l7 W.f19 rfl];simp only[S7];rw[gc0];simp_arith[hf,Bool.not_true,v7 1 1 rfl hw rfl,v7 2 2 rfl hw rfl,op2,A.fld2,a1v A.c2,A.fld1,a1v A.c1,C7 W,a1b (nin h1) (bn h2) rfl,Z1,decide_true,T7 hw,e35,a4N W (b6 (h:=h)) (G0 ha.1) (G0 ha.2),T7 hw1,e57,a4N W (b6 (h:=h++[Cell.lst [.str (num m.a.1),.str (num m.a.2)]])) (G0 hb.1) (G0 hb.2),A2.fld2,Z7 A2.c2 h1 (show _<16777216 by omega)]
  rfl
 rw[b2P W hw e (.head _)];exact⟨_,rfl,((Fr.app n h _).trans (Fr.app n _ _)).trans (Fr.set (by omega) (by omega)),A2.s2 _⟩
end
theorem G8{ct:CT}{F:Nat->Option Fn}{d:Nat}{α:Type}{full:List α}{d5:List Str}{H':HD}(wf:α->List Str)(U:List α->HD)(hR:∀x∈full,Row (wf x))(hst:∀pre x post,full=pre++x::post->a0u ct F d (U pre) (wf x) none (U (pre++[x])))(hT:Reads ct F d (U full) d5 H'):∀(l pre:List α),full=pre++l->Reads ct F d (U pre) (l.map (fun x=>ln (wf x))++d5) H'
 |[],pre,e=>by
  rw[bj] at e;subst e;exact hT
 |x::l,pre,e=>by
  have r:=hR x (by rw[e];exact mem_append_right _ (.head _))
  have b:=b0w r
  have:=a7V r
  refine .take (H1:=U (pre++[x])) (show(ln (wf x)).length<=100000 by omega) (by rw[b];exact r.n) (by rw[b];exact hst pre x l e) (G8 wf U hR hst hT l (pre++[x]) (by rw[e];simp))
theorem J7{f:α->β}{full pre post:List α}{x:α}(h:(full.map f).Nodup)(e:full=pre++x::post):f x∉pre.map f:=fun m=>by
 rw[e,ao,map_cons] at h;exact(nodup_append.mp h).2.2 _ m _ (.head _) rfl
theorem K9{full pre post:List α}{x:α}(e:full=pre++x::post):pre.length<full.length/\x∈full:=by
 rw[e];exact⟨by simp only[ap,length_cons];omega,mem_append_right _ (.head _)⟩
noncomputable def hS(H:HL):List (Str×D):=H.sh.map fun p=>(p.1,.int (p.2:Int))
def hM(l:List Mk):List (Str×D):=l.map fun m=>(m.n,.tup [.str m.s,spD m.a,spD m.b])
def hP(l:List Pt):List ((Str×Str)×D):=l.map fun p=>(ptK p,spD p.a)
noncomputable def hL(l:List Lt):List (Str×D):=l.map fun l=>(l.n,.tup [.str l.j,.str l.w,.tup (l.fs.map .str)])
noncomputable def hC(l:List Cs):List (Str×D):=l.map fun c=>(c.n,.tup (c.fs.map .str))
noncomputable def hF(l:List (Str×Bool)):List (Str×D):=l.map fun p=>(p.1,.bl p.2)
def a1P(H:HL):HD:=⟨hS H,hM H.mr,hP H.pt,hL H.ls,H.gp,hC H.cs,hF H.fe,[]⟩
theorem a2i(k:α->Str)(v:α->β)(l:List α):(l.map fun x=>(k x,v x)).map (·.1)=l.map k:=by rw[aH];rfl
theorem snoc(f:α->β)(l:List α)(x:α):(l++[x]).map f=l.map f++[f x]:=by rw[ao];rfl
theorem a8t{H:HL}(K:HLok H)(h:f∈H.sh.map (·.1)):l0 f=true/\f∈(hS H).map (·.1):=⟨V4 K h,by unfold hS;rw[a2i];exact h⟩
variable{ct:CT}
theorem a9e{F:Nat->Option Fn}(W:PF F){d:Nat}{H:HL}(K:HLok H):Reads ct F (d+9) {} ((K6 H).map ln) (a1P H):=by
 have e:(K6 H).map ln=H.sh.map (fun p=>ln (T4 p))++(H.mr.map (fun p=>ln (U1 p))++(H.pt.map (fun p=>ln (Z2 p))++(H.ls.map (fun p=>ln (L4 p))++(H.gp.map (fun p=>ln (a5G p))++(H.cs.map (fun p=>ln (T5 p))++(H.fe.map (fun p=>ln (a1Y p))++[])))))):=by
  unfold K6;simp only[ao,aH,aA,bj];rfl
 rw[e];refine G8 T4 (fun l=>{shapes:=l.map fun p=>(p.1,.int (p.2:Int))}) (fun x hx=>a3Q K hx) (fun pre x post q=>?_) ?_ H.sh [] rfl
 · obtain⟨q1,q2⟩:=K9 q;have k:=K.sh.ok x q2
   have:=K.sh.hi
   have g:=b1P (ct:=ct) (d:=d) (H:={shapes:=pre.map fun p=>(p.1,.int (p.2:Int))}) (p:=x) W k.1 k.2 (by rw[a2i];exact J7 (f:=fun p=>p.1) K.sh.nd q) (by rw[aa];omega)
   simp only[snoc];exact g
 refine G8 U1 (fun l=>{shapes:=hS H,marks:=hM l}) (fun x hx=>a5U K hx) (fun pre x post q=>?_) ?_ H.mr [] rfl
 · obtain⟨q1,q2⟩:=K9 q;obtain⟨k1,k2,k3⟩:=K.mko x q2;have hn:=a8t K (a4U K q2);have b:=a7I K K.mr;rw[aa] at b
   have:=K.sh.hi
   have g:=b4u (ct:=ct) (d:=d) (H:={shapes:=hS H,marks:=hM pre}) (m:=x) W hn.1 k1 k2 k3 (by unfold hM;rw[a2i];exact J7 (f:=fun m:Mk=>m.n) (K.mr.nodup K.sh.nd) q) hn.2 (by unfold hM;rw[aa];omega)
   unfold hM at g⊢;rw[snoc];exact g
 refine G8 Z2 (fun l=>{shapes:=hS H,marks:=hM H.mr,points:=hP l}) (fun x hx=>a3R K hx) (fun pre x post q=>?_) ?_ H.pt [] rfl
 · obtain⟨q1,q2⟩:=K9 q;obtain⟨k1,k2,k3⟩:=K.pto x q2;have hn:=a8t K k1
   have:=K.ptl
   have g:=b1Q (ct:=ct) (d:=d) (H:={shapes:=hS H,marks:=hM H.mr,points:=hP pre}) (p:=x) W hn.1 k2 k3 (by unfold hP;rw[aH];exact J7 (f:=ptK) K.pt q) hn.2 (by unfold hP;rw[aa];omega)
   unfold hP at g⊢;rw[snoc];exact g
 refine G8 L4 (fun l=>{shapes:=hS H,marks:=hM H.mr,points:=hP H.pt,letters:=hL l}) (fun x hx=>a0Q K hx) (fun pre x post q=>?_) ?_ H.ls [] rfl
 · obtain⟨q1,q2⟩:=K9 q;have k:=K.lso x q2
   have:=K.ls
   have g:=a9C (ct:=ct) (d:=d) (H:={shapes:=hS H,marks:=hM H.mr,points:=hP H.pt,letters:=hL pre}) (l:=x) W k (fun f hf=>a8t K (k.fs f hf)) (by unfold hL;rw[a2i];exact J7 (f:=fun m:Lt=>m.n) K.lsn q) (by unfold hL;rw[aa];omega)
   unfold hL at g⊢;rw[snoc];exact g
 refine G8 a5G (fun l=>{shapes:=hS H,marks:=hM H.mr,points:=hP H.pt,letters:=hL H.ls,gaps:=l}) (fun x hx=>a7W K hx) (fun pre x post q=>?_) ?_ H.gp [] rfl
 · obtain⟨q1,q2⟩:=K9 q
   have:=K.gp.length_le
   rw[aa] at this
   have:=K.ls
   have nd:=J7 (f:=id) (by rw[map_id];exact K.gp.nodup K.lsn) q
   rw[map_id] at nd;exact b7d (ct:=ct) (d:=d) (H:={shapes:=hS H,marks:=hM H.mr,points:=hP H.pt,letters:=hL H.ls,gaps:=pre}) (g:=x) W (a5e K q2) nd (by unfold hL;rw[a2i];exact K.gp.subset q2) (show pre.length<=1000 by omega)
 refine G8 T5 (fun l=>{shapes:=hS H,marks:=hM H.mr,points:=hP H.pt,letters:=hL H.ls,gaps:=H.gp,classes:=hC l}) (fun x hx=>a1I K hx) (fun pre x post q=>?_) ?_ H.cs [] rfl
 · obtain⟨q1,q2⟩:=K9 q;have k:=K.cso x q2
   have:=K.cs
   have g:=b1R (ct:=ct) (d:=d) (H:={shapes:=hS H,marks:=hM H.mr,points:=hP H.pt,letters:=hL H.ls,gaps:=H.gp,classes:=hC pre}) (c:=x) W k (fun f hf=>a8t K (k.fs f hf)) (by unfold hC;rw[a2i];exact J7 (f:=fun m:Cs=>m.n) K.csn q) (by unfold hC;rw[aa];omega)
   unfold hC at g⊢;rw[snoc];exact g
 refine G8 a1Y (fun l=>{shapes:=hS H,marks:=hM H.mr,points:=hP H.pt,letters:=hL H.ls,gaps:=H.gp,classes:=hC H.cs,features:=hF l}) (fun x hx=>a5V K hx) (fun pre x post q=>?_) (.nil _) H.fe [] rfl
 · obtain⟨q1,q2⟩:=K9 q
   have:=K.fe
   have g:=b4v (ct:=ct) (d:=d) (H:={shapes:=hS H,marks:=hM H.mr,points:=hP H.pt,letters:=hL H.ls,gaps:=H.gp,classes:=hC H.cs,features:=hF pre}) (p:=x) W (a5k K (ak.mpr ⟨x,q2,rfl⟩)) (by unfold hF;rw[a2i];exact J7 (f:=fun p=>p.1) K.fen.nd q) (by unfold hF;rw[aa];omega)
   unfold hF at g⊢;rw[snoc];exact g
structure Ce where
 n:Str
 lo:Nat
 k:Nat
def ceD(c:Ce):D:=.tup [.str c.n,.tup (L8 (c.lo:Int) c.k)]
noncomputable def B9(cs:List Ce):Nat:=(cs.map (·.k)).sum
theorem U4(cs:List Ce)(c:Ce):B9 (cs++[c])=B9 cs+c.k:=by
 unfold B9;rw[ao,bB];simp
structure Ch(cs:List Ce):Prop where
 lo:∀t c,cs[t]? =some c->c.lo=B9 (cs.take t)/\c.k<=4
 fst:∀c,cs[0]? =some c->1<=c.k
theorem Ch.nil:Ch []:=⟨(fun t c h=>by cases h),(fun c h=>by cases h)⟩
variable{cs:List Ce}
theorem Ch.snoc{c:Ce}(C:Ch cs)(h1:c.lo=B9 cs)(h2:c.k<=4)(h3:B9 cs=0->1<=c.k):Ch (cs++[c]):=by
 refine⟨fun t d h=>?_,fun d h=>?_⟩
 · by_cases lt:t<cs.length
   · rw[av lt] at h
     rw[List.take_append_of_le_length (aU lt)];exact C.lo t d h
   · rw[aq (by omega)] at h
     obtain⟨i,rfl⟩:∃i,t=cs.length+i:=⟨t-cs.length,by omega⟩
     rw[Nat.add_sub_cancel_left] at h
     cases i with
     |succ i=>cases h
     |zero=>
      obtain rfl:=ax h;rw[Nat.add_zero,List.take_append_of_le_length (ai _),bp];exact⟨h1,h2⟩
 · cases cs with
   |nil=>
    obtain rfl:=ax h;exact h3 rfl
   |cons a r=>exact C.fst d h
theorem b1X(lo:Int)(k:Nat):D.flats (L8 lo k)=true:=by
 unfold L8
 exact D3 fun d hd=>by
  obtain⟨i,_,rfl⟩:=ak.mp hd;rfl
theorem b2c(cs:List Ce):D.flats (cs.map ceD)=true:=D3 fun d hd=>by
 obtain⟨c,_,rfl⟩:=ak.mp hd
 show(true&&(D.flats (L8 (c.lo:Int) c.k)&&true))=true
 rw[b1X];rfl
theorem b2w(ns:List Int)(lo hi:Option Int):∃zs:List Int,U0 (ns.map .int) lo hi=zs.map .int/\zs.length<=ns.length:=by
 refine⟨(ns.drop (HT.sIx (ns.map D.int).length 0 lo)).take (HT.sIx (ns.map D.int).length (ns.map D.int).length hi-HT.sIx (ns.map D.int).length 0 lo),?_,?_⟩
 · unfold U0;rw[map_take,map_drop]
 · rw[aM,bH];omega
noncomputable def z8:List D:=[.int 0,.int 1,.int 1,.int 1,.int 2,.int 2,.int 3,.int 4]
theorem b8e:∀i:Fin 8,∃w:Nat,w<=4/\z8[i.val]? =some (.int (w:Int))
 |⟨0,_⟩=>⟨0,by decide,rfl⟩
 |⟨1,_⟩=>⟨1,by decide,rfl⟩
 |⟨2,_⟩=>⟨1,by decide,rfl⟩
 |⟨3,_⟩=>⟨1,by decide,rfl⟩
 |⟨4,_⟩=>⟨2,by decide,rfl⟩
 |⟨5,_⟩=>⟨2,by decide,rfl⟩
 |⟨6,_⟩=>⟨3,by decide,rfl⟩
 |⟨7,_⟩=>⟨4,by decide,rfl⟩
section
variable{F:Nat->Option Fn}
theorem b4E{a b:E}:ev ct c (.trng a b) env h=(ev ct c a env h).bind fun x h1=>(ev ct c b env h1).bind fun y h2=>a5J h2 x y:=by(rw[ev];try rfl)
theorem b6D(hw:w<=4):∃v:Nat,(v<=4/\1<=v)/\biD .max h [.int 1,.int (w:Int)]=.ok (.int (v:Int)) h:=by
 by_cases e:(w:Int)>1
 · exact⟨w,⟨hw,by omega⟩,by simp only[biD,e,if_true]⟩
 · exact⟨1,by decide,by simp only[biD,e,if_false];rfl⟩
theorem b2y{k:Nat}(f202:F 202=some o3)(hF:F 217=some D2)(hl:ns.length<=63)(hs:Shs sh)(hr:h[n]? =some (.rol (ns.map .int)))(hS:h[s]? =some (.lst (shD sh))):
 ∃cs:List Ce,((∀c∈cs,c.n∈sh.map (·.1))/\Ch cs)/\cs.length<=63/\b0 ct F (k+2) 217 [.ref n,.int 5,.ref s] h=.ok (.ref h.length) (h++[.lst (cs.map ceD)]):=by
 obtain⟨zs,z1,z2⟩:=b2w ns (some 5) (some 55)
 have l1:(h++[Cell.lst []]).length=h.length+1:=by simp
 have rl:rdL (h++[Cell.lst []]) n=some (ns.map .int):=by unfold rdL;rw[b5 hr]
 have sl:slD (h++[Cell.lst []]) (some 5) (some 55) (.ref n)=.ok (.ref (h.length+1)) (h++[Cell.lst []]++[.lst (zs.map .int)]):=by simp only[slD,rl,o9,z1,l1]
 rw[l7 hF rfl];simp only[D2]
 show∃cs:List Ce,_/\_/\gcR 2 h (O6 (exs ct (b0 ct F (k+1)) _ [some (.ref n),some (.int 5),some (.ref s),none,none,none,none,none,none] h))=_
 rw[seq (env':=[some (.ref n),some (.int 5),some (.ref s),some (.ref h.length),none,none,none,none,none]) (h':=h++[Cell.lst []]) (by simp_arith[o9])]
 rw[seq (env':=[some (.ref n),some (.int 5),some (.ref s),some (.ref h.length),some (.int 0),none,none,none,none]) (h':=h++[Cell.lst []]) (by simp_arith[])]
 have gW:(h++[Cell.lst []]++[Cell.lst (zs.map .int)])[h.length]? =some (.lst []):=b5 b6
 have gZ:(h++[Cell.lst []]++[Cell.lst (zs.map .int)])[h.length+1]? =some (.lst (zs.map .int)):=by rw[←l1];exact b6
 have pf:Pf h (h++[Cell.lst []]++[Cell.lst (zs.map .int)]):=((Pf.refl h).app _).app _
 generalize hg:h++[Cell.lst []]++[Cell.lst (zs.map D.int)]=g at gW gZ pf sl
 obtain⟨env',g',e1,cs,m,e5,e6,e7,e8,rfl,q2,q3,q4,q5,q6,q7⟩:=z3 (g:=[(h.length+1,.lst (zs.map .int))]) (p:=.tp (.cons (.nm 5) (.cons (.nm 6) .nil))) (body:=exs ct (b0 ct F (k+1)) cB1) (fun j env hh=>∃cs:List Ce,∃m:Nat,∃e5 e6 e7 e8,env=[some (.ref n),some (.int 5),some (.ref s),some (.ref h.length),some (.int (m:Int)),e5,e6,e7,e8]/\Pf h hh/\hh[h.length]? =some (.lst (cs.map ceD))/\hh[h.length+1]? =some (.lst (zs.map .int))/\cs.length=j/\((∀c∈cs,c.n∈sh.map (·.1))/\Ch cs/\m=B9 cs)/\m<=4*j) (fun j env hh hP=>by
  obtain⟨_,_,_,_,_,_,_,_,_,h4,_⟩:=hP;simp[gOk,h4]) (y0 0 (zs.map .int)) 0 [some (.ref n),some (.int 5),some (.ref s),some (.ref h.length),some (.int 0),none,none,none,none] g (fun j x env hh hx hP=>by
  obtain⟨cs,m,e5,e6,e7,e8,rfl,p1,p2,p3,p4,⟨p5,p7,p8⟩,p6⟩:=hP;obtain⟨y,hy,rfl⟩:=Y0 hx
  have hj:j<zs.length:=by simpa using(ac.mp hy).1
  rw[aj,af hj] at hy
  obtain rfl:D.int zs[j]=y:=ax hy;rw[aB] at p4 p6⊢
  have a4:((j:Nat):Int)+400=((j+400:Nat):Int):=by omega
  obtain⟨M,hM⟩:=C0 (ct:=ct) (k:=k) (c:=zs[j]) (j:=((j+400:Nat):Int)) (h:=hh) f202 (by omega)
  obtain⟨w,w1,w2⟩:=b8e ⟨M%8,Nat.mod_lt _ (by decide)⟩
  have m8:∀h,u8 h (.int (M:Int)) (.int 8)=.ok (.int ((M%8:Nat):Int)) h:=fun h=>F9 8 (by decide)
  have d8:∀h,D1 h (.int (M:Int)) (.int 8)=.ok (.int ((M/8:Nat):Int)) h:=fun h=>Q0 8 (by decide) (by decide)
  have i8:ixD (hh++[.lst z8]) (.ref hh.length) (.int ((M%8:Nat):Int))=.ok (.int (w:Int)) (hh++[.lst z8]):=B6 b6 w2
  obtain⟨v,v1,v2⟩:=b6D (h:=hh++[.lst z8]) w1;have b2:=b5 (g:=[.lst z8]) p2;have b3:=b5 (g:=[.lst z8]) p3;have P1:=p1.app [.lst z8];have hs1:=P1.at hS
  obtain⟨u,⟨us,u1⟩,ue⟩:∃u:Nat,(u<=4/\(m=0->1<=u))/\∀T,exs ct (b0 ct F (k+1)) (.cons (.iff (.cmp .eq (.v 4) (.k (.int (0)))) (.cons (.set 8 (.bi .max (.cons (.k (.int (1))) (.cons (.v 8) .nil)))) .nil) .nil) T) [some (.ref n),some (.int 5),some (.ref s),some (.ref h.length),some (.int (m:Int)),some (.int (j:Int)),some (.int zs[j]),some (.int (M:Int)),some (.int (w:Int))] (hh++[.lst z8])=exs ct (b0 ct F (k+1)) T [some (.ref n),some (.int 5),some (.ref s),some (.ref h.length),some (.int (m:Int)),some (.int (j:Int)),some (.int zs[j]),some (.int (M:Int)),some (.int (u:Int))] (hh++[.lst z8]):=by
   by_cases e0:(m:Int)=0
   · exact⟨v,⟨v1.1,fun _=>v1.2⟩,fun T=>seq (by simp_arith[op2,K4,eqS,e0,decide_true,v2])⟩
   · exact⟨w,⟨w1,fun z=>absurd (by omega) e0⟩,fun T=>seq (by simp_arith[op2,K4,eqS,e0,decide_false])⟩
  obtain⟨pw,ix⟩:=b1D (x:=M/8) hs.lo hs1
  have tr:a5J (hh++[.lst z8]) (.int (m:Int)) (.int ((m+u:Nat):Int))=.ok (.tup (L8 (m:Int) u)) (hh++[.lst z8]):=by
   simp only[a5J];rw[ay ⟨⟨a0x (by omega),a0x (by omega)⟩,by omega⟩]
   congr 3;omega
  have au:(m:Int)+(u:Int)=((m+u:Nat):Int):=by omega
  refine⟨_,[some (.ref n),some (.int 5),some (.ref s),some (.ref h.length),some (.int ((m+u:Nat):Int)),some (.int (j:Int)),some (.int zs[j]),some (.int (M:Int)),some (.int (u:Int))],(hh++[Cell.lst z8]).set h.length (Cell.lst (cs.map ceD++[ceD ⟨pk sh (M/8),m,u⟩])),rfl,?_,cs++[⟨pk sh (M/8),m,u⟩],m+u,_,_,_,_,rfl,P1.set (ai _),by rw[u9 b2,ao];rfl,b7 (show h.length≠h.length+1 by omega) b3,by rw[ap,p4];rfl,⟨fun c hc=>?_,p7.snoc p8 us (by rw[←p8];exact u1),by rw[U4,←p8]⟩,by omega⟩
  · show exs ct (b0 ct F (k+1)) cB1 [some (.ref n),some (.int 5),some (.ref s),some (.ref h.length),some (.int (m:Int)),some (.int (j:Int)),some (.int zs[j]),e7,e8] hh=_
    unfold cB1;rw[seq (env':=[some (.ref n),some (.int 5),some (.ref s),some (.ref h.length),some (.int (m:Int)),some (.int (j:Int)),some (.int zs[j]),some (.int (M:Int)),e8]) (h':=hh) (by simp_arith[op2,o6,a4,hM])]
    rw[seq (env':=[some (.ref n),some (.int 5),some (.ref s),some (.ref h.length),some (.int (m:Int)),some (.int (j:Int)),some (.int zs[j]),some (.int (M:Int)),some (.int (w:Int))]) (h':=hh++[.lst z8]) (by
     unfold c8E
     have s8:(z8.length<=SL)=True:=eq_true (by show 8<=16777216;decide)
     simp_arith[s8,if_true,o9,op2,m8,show[D.int 0,.int 1,.int 1,.int 1,.int 2,.int 2,.int 3,.int 4]=z8 from rfl,i8])]
    unfold cB2;rw[ue];unfold cB3
    rw[seq (env':=[some (.ref n),some (.int 5),some (.ref s),some (.ref h.length),some (.int (m:Int)),some (.int (j:Int)),some (.int zs[j]),some (.int (M:Int)),some (.int (u:Int))]) (h':=(hh++[Cell.lst z8]).set h.length (Cell.lst (cs.map ceD++[ceD ⟨pk sh (M/8),m,u⟩]))) (by
     simp_arith[z7 b2,op2,d8,a7k hs1,F9 sh.length (by have:=hs.lo;omega),ix,a2F,b4E,o6,au,tr,K3 (d:=ceD ⟨pk sh (M/8),m,u⟩) b2 (by rw[aa,p4];omega),show D.tup [.str (pk sh (M/8)),.tup (L8 (m:Int) u)]=ceD ⟨pk sh (M/8),m,u⟩ from rfl])]
    simp_arith[op2,o6,au]
  · rcases aK.mp hc with hc|hc
    · exact p5 c hc
    · rw[aO.mp hc];exact(a8a hs.lo (M/8)).1) ⟨[],0,none,none,none,none,rfl,pf,gW,gZ,rfl,⟨(fun c (hc:c∈([]:List Ce))=>absurd hc (by simp)),Ch.nil,rfl⟩,Nat.zero_le _⟩
 have a50:(5:Int)+50=55:=rfl
 rw[seq (env':=[some (.ref n),some (.int 5),some (.ref s),some (.ref h.length),some (.int (m:Int)),e5,e6,e7,e8]) (h':=g') (by simp_arith[op2,o6,a50,sl,Y7,gZ,e1])]
 rw[P9,aa,aB] at q5;refine⟨cs,⟨q6.1,q6.2.1⟩,by omega,?_⟩
 simp_arith[];exact a1R q2 q3 (ai _) (b2c cs)
end
open PySem
abbrev Rn:=Str×List Nat
noncomputable def a3L(sd:Nat->Str)(rr:List Rn)(i:Nat):List Rn:=match rr with
 |[]=>[(sd i,[i])]
 |r::t=>if r.1=sd i then(r.1,r.2++[i])::t else(sd i,[i])::r::t
def Q6(sd:Nat->Str):Nat->List Rn
 |0=>[]
 |n+1=>a3L sd (Q6 sd n) n
def j9(sd:Nat->Str)(n:Nat):List Rn:=(Q6 sd n).reverse
noncomputable def K7(sd:Nat->Str):Nat->Nat
 |0=>0
 |n+1=>K7 sd n+(if sd (n+1)≠sd n then 1 else 0)
noncomputable def a1o(r:Rn):List Nat:=if r.1="right" then r.2.reverse else r.2
def z6(way:Str)(rs:List Rn):List Nat:=((if way="right" then rs.reverse else rs).map a1o).flatten
def V8(sd:Nat->Str)(way:Str)(i j:Nat):Str:=if K7 sd i=K7 sd j then sd j else way
def bef(sd:Nat->Str)(way:Str)(i j:Nat):Bool:=(decide (i<j)&&decide (V8 sd way i j="left"))||(decide (j<i)&&decide (V8 sd way i j="right"))
structure RunsOk(sd:Nat->Str)(n:Nat)(rs:List Rn):Prop where
 fl:(rs.map (·.2)).flatten=List.range n
 at':∀t r,rs[t]? =some r->∀i∈r.2,K7 sd i=t/\sd i=r.1
theorem Q5(sd:Nat->Str):∀n,RunsOk sd n (j9 sd n)/\(∀m,n=m+1->∃t r,Q6 sd n=r::t/\t.length=K7 sd m/\r.1=sd m)
 |0=>⟨⟨rfl,fun t r h=>by cases h⟩,fun m h=>by cases h⟩
 | n + 1 =>by
  obtain⟨⟨fl,at'⟩,la⟩:=Q5 sd n;unfold j9 at fl at'⊢;rw[show Q6 sd (n+1)=a3L sd (Q6 sd n) n from rfl]
  cases e:Q6 sd n with
  | nil=>
   have n0:n=0:=by
    cases n with
    |zero=>rfl
    |succ m=>obtain⟨t,r,h,_⟩:=la m rfl;rw[e] at h;cases h
   subst n0;refine⟨⟨rfl,fun t r h i hi=>?_⟩,fun m hm=>⟨[],(sd 0,[0]),rfl,?_,?_⟩⟩
   · cases t with
     |zero=>
      obtain rfl:=ax h;obtain rfl:=aO.mp hi;exact⟨rfl,rfl⟩
     |succ t=>cases h
   · obtain rfl:0=m:=Nat.succ.inj hm;rfl
   · obtain rfl:0=m:=Nat.succ.inj hm;rfl
  | cons r t=>
   obtain⟨m,rfl⟩:∃m,n=m+1:=by
    cases n with
    |zero=>cases e
    |succ m=>exact⟨m,rfl⟩
   obtain⟨t',r',h,l1,l2⟩:=la m rfl;rw[e] at h;obtain⟨rfl,rfl⟩:r=r'/\t=t':=by injection h with a b;exact⟨a,b⟩
   rw[e,reverse_cons] at fl at';rw[ao,flatten_append] at fl
   have fl':(List.map (·.2) t.reverse).flatten++r.2=List.range (m+1):=by rw[←fl];simp
   show RunsOk sd (m+1+1) (if r.1=sd (m+1) then(r.1,r.2++[m+1])::t else(sd (m+1),[m+1])::r::t).reverse/\_
   by_cases w:r.1=sd (m+1)
   · rw[ay w]
     have rn:K7 sd (m+1)=t.length:=by
      show K7 sd m+(if sd (m+1)≠sd m then 1 else 0)=_
      rw[az (fun z=>z (w.symm.trans l2)),l1]
      rfl
     refine⟨⟨?_,fun k s h i hi=>?_⟩,fun m' hm=>?_⟩
     · rw[reverse_cons,ao,flatten_append,bA,←fl'];simp
     · rw [reverse_cons] at h
       by_cases kt:k<t.length
       · exact at' k s (by rw[av (by simpa using kt)] at h⊢;exact h) i hi
       · rw[aq (by simp;omega),length_reverse] at h
         obtain⟨d,rfl⟩:∃d,k=t.length+d:=⟨k-t.length,by omega⟩
         rw[Nat.add_sub_cancel_left] at h
         cases d with
         |succ d=>cases h
         |zero=>
          obtain rfl:=ax h
          rcases aK.mp hi with hi|hi
          · exact at' t.length r (by rw[aq (by simp),length_reverse,bG];rfl) i hi
          · obtain rfl:=aO.mp hi;exact⟨rn,w.symm⟩
     · obtain rfl:m+1=m':=Nat.succ.inj hm;exact⟨t,_,ay w,rn.symm,w⟩
   · rw[az w]
     have rn:K7 sd (m+1)=t.length+1:=by
      show K7 sd m+(if sd (m+1)≠sd m then 1 else 0)=_
      rw[ay (fun z=>w (l2.trans z.symm)),l1]
     refine⟨⟨?_,fun k s h i hi=>?_⟩,fun m' hm=>?_⟩
     · rw[reverse_cons,reverse_cons,ao,flatten_append,ao,flatten_append,bA,←fl'];simp
     · rw [reverse_cons,reverse_cons] at h
       by_cases kt:k<t.length+1
       · exact at' k s (by rw[av (by simpa using kt)] at h;exact h) i hi
       · rw[aq (by simp;omega),ap,length_reverse,List.length_singleton] at h
         obtain⟨d,rfl⟩:∃d,k=t.length+1+d:=⟨k-(t.length+1),by omega⟩
         rw[Nat.add_sub_cancel_left] at h
         cases d with
         |succ d=>cases h
         |zero=>
          obtain rfl:=ax h;obtain rfl:=aO.mp hi;exact⟨rn,rfl⟩
     · obtain rfl:m+1=m':=Nat.succ.inj hm;exact⟨r::t,_,az w,rn.symm,rfl⟩
theorem a4f{f:Rn->List Nat}(hf:∀r,(f r).Perm r.2):∀rs:List Rn,((rs.map f).flatten).Perm (rs.map (·.2)).flatten
 |[]=>.refl _
 |r::t=>by
  rw[map_cons,map_cons,flatten_cons,flatten_cons];exact(hf r).append (a4f hf t)
theorem a3W(r:Rn):(a1o r).Perm r.2:=by
 unfold a1o
 split
 · exact reverse_perm _
 · exact .refl _
variable{sd:Nat->Str}{way:Str}
theorem G1:(z6 way (j9 sd n)).Perm (List.range n):=by
 rw[←(Q5 sd n).1.fl];refine(a4f a3W _).trans ?_
 split
 · exact(((reverse_perm _).map _).flatten)
 · exact .refl _
theorem b5r:("left":Str)≠"right":=by decide
theorem a7b(hs:∀i<n,sd i="left"∨sd i="right")(hw:way="left"∨way="right"):(z6 way (j9 sd n)).Pairwise fun i j=>bef sd way i j=true:=by
 have R:=(Q5 sd n).1;generalize j9 sd n=rs at R
 have sr:(rs.map (·.2)).flatten.Pairwise (· < ·):=by rw[R.fl];exact List.pairwise_lt_range
 have lt:∀r∈rs,∀i∈r.2,i<n:=fun r hr i hi=>by
  have:i∈(rs.map (·.2)).flatten:=mem_flatten.mpr ⟨r.2,ak.mpr ⟨r,hr,rfl⟩,hi⟩
  rw[R.fl] at this;exact aN.mp this
 rw[List.pairwise_flatten,List.pairwise_map] at sr;obtain⟨s1,s2⟩:=sr
 have in1:∀r∈rs,(a1o r).Pairwise fun i j=>bef sd way i j=true:=fun r hr=>by
  obtain⟨t,ht⟩:=bm hr
  have A:=R.at' t r ht;have p:=s1 r.2 (ak.mpr ⟨r,hr,rfl⟩);unfold a1o
  by_cases w:r.1="right"
  · rw[ay w,pairwise_reverse];refine p.imp_of_mem fun{a b} ha hb hab=>?_
    simp[bef,V8,(A a ha).1,(A b hb).1,(A a ha).2,w,hab]
  · rw[az w];refine p.imp_of_mem fun{a b} ha hb hab=>?_
    have wl:r.1="left":=by
     rcases hs a (lt r hr a ha) with z|z
     · rw[←z,(A a ha).2]
     · exact absurd ((A a ha).2.symm.trans z) w
    simp[bef,V8,(A a ha).1,(A b hb).1,(A b hb).2,wl,hab]
 have ne:rs.Pairwise fun r s=>∀i∈r.2,∀j∈s.2,K7 sd i≠K7 sd j:=List.pairwise_iff_getElem.mpr fun a b ha hb hab i hi j hj e=>by
  have x:=(R.at' a _ (af ha) i hi).1
  have y:=(R.at' b _ (af hb) j hj).1
  omega
 have mo:∀{r:Rn} {i},i∈a1o r->i∈r.2:=fun{r i} h=>(a3W r).mem_iff.mp h
 unfold z6;rw[List.pairwise_flatten,List.pairwise_map];refine⟨fun l hl=>?_,?_⟩
 · obtain⟨r,hr,rfl⟩:=ak.mp hl;refine in1 r ?_
   by_cases w:way="right"
   · rw[ay w] at hr;exact mem_reverse.mp hr
   · rw[az w] at hr;exact hr
 · by_cases w:way="right"
   · rw[ay w,pairwise_reverse];refine(s2.and ne).imp fun{r s} z i hi j hj=>?_
     have l1:=z.1 j (mo hj) i (mo hi);have n1:=z.2 j (mo hj) i (mo hi);simp[bef,V8,n1,Ne.symm n1,w,l1]
   · rw[az w];have wl:=hw.resolve_right w;refine(s2.and ne).imp fun{r s} z i hi j hj=>?_
     have l1:=z.1 i (mo hi) j (mo hj);have n1:=z.2 i (mo hi) j (mo hj);simp[bef,V8,n1,wl,l1]
theorem b5M(hi:i<n)(hj:j<n)(e:K7 sd i=K7 sd j):sd i=sd j:=by
 have R:=(Q5 sd n).1
 have find:∀i<n,∃r,(j9 sd n)[K7 sd i]? =some r/\sd i=r.1:=fun i hi=>by
  have:i∈((j9 sd n).map (·.2)).flatten:=by rw[R.fl];exact aN.mpr hi
  obtain⟨l,hl,h2⟩:=mem_flatten.mp this;obtain⟨r,hr,rfl⟩:=ak.mp hl;obtain⟨t,ht⟩:=bm hr
  have A:=R.at' t r ht i h2;exact⟨r,by rw[A.1];exact ht,A.2⟩
 obtain⟨r,h1,h2⟩:=find i hi;obtain⟨s,h3,h4⟩:=find j hj;rw[e,h3] at h1;rw[h2,h4,ax h1]
theorem b2H(hi:i<n)(hj:j<n)(h:bef sd way i j=true):bef sd way j i=false:=by
 have o:V8 sd way j i=V8 sd way i j:=by
  unfold V8
  by_cases e:K7 sd i=K7 sd j
  · rw[ay e,ay e.symm,b5M hi hj e]
  · rw[az e,az (Ne.symm e)]
 unfold bef at h⊢;rw[o]
 by_cases a:i<j
 · have:¬j<i:=by omega
   simp only[a,this,decide_true,decide_false,Bool.true_and,Bool.false_and,Bool.or_false,Bool.false_or,bE] at h⊢;rw[h];exact bF b5r
 · simp only[a,decide_false,Bool.false_and,Bool.false_or,ae,bE] at h⊢
   have:¬i<j:=a
   simp only[h.1,decide_true,Bool.true_and,this,decide_false,Bool.false_and,Bool.or_false];rw[h.2];exact bF (Ne.symm b5r)
theorem b3U:(z6 way (j9 sd n)).length=n:=by rw[G1.length_eq,aI]
theorem a1K{x:Nat}(h:x∈z6 way (j9 sd n)):x<n:=aN.mp (G1.mem_iff.mp h)
noncomputable def a1y(c:Ce):Int:=if c.k=0 then(c.lo:Int)-1 else c.lo
def i7(cs:List Ce):List D:=cs.map fun c=>.int (a1y c)
theorem a1S(f:α->Int)(l:List α):D.flats (l.map fun x=>.int (f x))=true:=D3 fun d hd=>by
 obtain⟨c,_,rfl⟩:=ak.mp hd;rfl
theorem a7J{c:Cell}:(h++[c]).set h.length c'=h++[c']:=by
 rw[set_append_right _ _ (ai _),bG];rfl
theorem a2B(hl:xs.length<1000000):mtD .append (h++[.lst xs]) (.ref h.length) [d]=.ok .non (h++[.lst (xs++[d])]):=by
 rw[K3 b6 hl,a7J]
variable{lo:Int}
theorem a1t{k:Nat}:biD .len h [.tup (L8 lo k)]=.ok (.int (k:Int)) h:=by
 simp only[biD,L8,aa,aI]
theorem b2M{xs:List α}{d:α}(hd:xs[xs.length-1]? =some d):atI xs (-1)=some d:=by
 have hl:=(ac.mp hd).1
 unfold atI
 have e:ixN xs.length (-1)=some (xs.length-1):=by
  unfold ixN;rw[az (by omega),ay (by omega)]
  congr 1;omega
 rw[e];exact hd
theorem a9Y(hd:xs[xs.length-1]? =some d):ixD h (.tup xs) (.int (-1))=.ok d h:=by
 simp only[ixD,b2M hd]
theorem a7X{k:Nat}(hi:i<k):(L8 lo k)[i]? =some (.int (lo+(i:Nat))):=by
 unfold L8;rw[aj,aJ hi]
 rfl
theorem a4I{k:Nat}:(L8 lo k).length=k:=by simp[L8]
theorem a3S{k:Nat}(hk:0<k):ixD h (.tup (L8 lo k)) (.int 0)=.ok (.int lo) h:=by
 have:(L8 lo k)[0]? =some (.int lo):=by rw[a7X hk];simp
 exact ix_tup (i:=0) this
theorem b0x{k:Nat}(hk:0<k):ixD h (.tup (L8 lo k)) (.int (-1))=.ok (.int (lo+(k:Int)-1)) h:=by
 refine a9Y ?_
 rw[a4I,a7X (by omega)]
 congr 2;omega
theorem ce1{c:Ce}:ixD h (ceD c) (.int 1)=.ok (.tup (L8 (c.lo:Int) c.k)) h:=ix_tup (i:=1) rfl
theorem ce0{c:Ce}:ixD h (ceD c) (.int 0)=.ok (.str c.n) h:=ix_tup (i:=0) rfl
theorem gt0{k:Nat}:op2 .gt h (.int (k:Int)) (.int 0)=.ok (.bl (decide (0<k))) h:=by
 show R.ok (D.bl (decide ((0:Int)<(k:Int)))) h=_
 congr 2;exact decide_eq_decide.mpr (by omega)
theorem eq0{k:Nat}:op2 .eq h (.int (k:Int)) (.int 0)=.ok (.bl (decide (k=0))) h:=by
 show R.ok (D.bl (decide ((k:Int)=0))) h=_
 congr 2;exact decide_eq_decide.mpr (by omega)
theorem a9R{i j:Int}:op2 .add h (.int i) (.int j)=.ok (.int (i+j)) h:=rfl
section
variable{F:Nat->Option Fn}
section
variable{t:T}{a b:E}
theorem b2p:ev ct c (.ife t a b) env h=(tst ct c t env h).bind fun x h1=>if x=true then ev ct c a env h1 else ev ct c b env h1:=by(rw[ev];try rfl)
theorem a5m:ev ct c (.rev a) env h=(ev ct c a env h).bind fun x h1=>b0F h1 x:=by(rw[ev];try rfl)
end
theorem b1J{k:Nat}(hF:F 33=some E7)(C:Ch cs)(hw:h[w]? =some (.lst (cs.map ceD)))(hl:cs.length<=63):b0 ct F (k+1) 33 [.ref w] h=.ok (.ref h.length) (h++[.lst (i7 cs)]):=by
 rw[l7 hF rfl];simp only[E7]
 show gcR 2 h (O6 (exs ct (b0 ct F k) _ [some (.ref w),none,none,none] h))=_
 rw[seq (env':=[some (.ref w),some (.ref h.length),none,none]) (h':=h++[Cell.lst []]) (by simp_arith[o9])]
 rw[seq (env':=[some (.ref w),some (.ref h.length),some .non,none]) (h':=h++[Cell.lst []]) (by simp_arith[])]
 obtain⟨env',g',e1,e2,e3,rfl,rfl,_⟩:=z3 (g:=[(w,.lst (cs.map ceD))]) (p:=.nm 3) (body:=exs ct (b0 ct F k) hoB) (fun j env hh=>∃e2 e3,env=[some (.ref w),some (.ref h.length),some e2,e3]/\hh=h++[.lst (i7 (cs.take j))]/\(0<j->e2=.int ((B9 (cs.take j):Int)-1))) (fun j env hh hP=>by
  obtain⟨_,_,_,rfl,_⟩:=hP;simp[gOk,b5 hw]) (cs.map ceD) 0 [some (.ref w),some (.ref h.length),some .non,none] (h++[Cell.lst []]) (fun j x env hh hx hP=>by
  obtain⟨e2,e3,rfl,rfl,he⟩:=hP;rw[aj] at hx
  obtain⟨c,hc,rfl⟩:=Option.map_eq_some_iff.mp hx;have hj:=(ac.mp hc).1
  rw[aB] at he⊢;obtain⟨c1,c2⟩:=C.lo j c hc
  have tk:cs.take (j+1)=cs.take j++[c]:=by rw[take_succ,hc];rfl
  have l6:(i7 (cs.take j)).length<1000000:=by unfold i7;rw[aa,aM];omega
  by_cases k0:c.k=0
  · have j0:0<j:=by
     cases j with
     |zero=>have:=C.fst c hc;omega
     |succ j=>exact Nat.succ_pos j
    refine⟨_,[some (.ref w),some (.ref h.length),some e2,some (ceD c)],h++[.lst (i7 (cs.take (j+1)))],rfl,?_,_,_,rfl,rfl,fun _=>?_⟩
    · show exs ct (b0 ct F k) hoB [some (.ref w),some (.ref h.length),some e2,some (ceD c)] _=_
      have e:i7 (cs.take (j+1))=i7 (cs.take j)++[e2]:=by
       rw[tk,he j0];unfold i7 a1y;rw[ao,map_cons,map_nil,ay k0,c1]
      unfold hoB;rw[e];simp_arith[ce1,a1t,gt0,k0,aP,decide_false,z7 b6,a2B l6]
    · rw[tk,U4,k0,he j0,Nat.add_zero]
  · have kp:0<c.k:=by omega
    refine⟨_,[some (.ref w),some (.ref h.length),some (.int ((c.lo:Int)+(c.k:Int)-1)),some (ceD c)],h++[.lst (i7 (cs.take (j+1)))],rfl,?_,_,_,rfl,rfl,fun _=>?_⟩
    · show exs ct (b0 ct F k) hoB [some (.ref w),some (.ref h.length),some e2,some (ceD c)] _=_
      have e:i7 (cs.take (j+1))=i7 (cs.take j)++[.int (c.lo:Int)]:=by
       rw[tk];unfold i7 a1y;rw[ao,map_cons,map_nil,az k0]
      unfold hoB;rw[e];simp_arith[ce1,a1t,gt0,kp,decide_true,z7 b6,a3S kp,b0x kp,a2B l6]
    · rw[tk,U4,c1];congr 1) ⟨.non,none,rfl,by simp[i7],fun z=>absurd z (by omega)⟩
 rw[seq (env':=[some (.ref w),some (.ref h.length),some e2,e3]) (h':=h++[.lst (i7 (cs.take (0+(cs.map ceD).length)))]) (by simp_arith[V5,b5 hw,e1])]
 rw[aa,aB,bp];simp_arith[];exact gc2 b6 (ai _) (a1S _ _)
theorem a9v{k:Nat}(hF:F 219=some F8)(C:Ch cs)(hw:h[w]? =some (.lst (cs.map ceD)))(hl:cs.length<=63):b0 ct F (k+1) 219 [.ref w] h=.ok (.ref h.length) (h++[.lst (i7 cs)]):=by
 rw[l7 hF rfl];simp only[F8]
 show gcR 2 h (O6 (exs ct (b0 ct F k) _ [some (.ref w),none,none,none,none] h))=_
 rw[seq (env':=[some (.ref w),some (.ref h.length),none,none,none]) (h':=h++[Cell.lst []]) (by simp_arith[o9])]
 rw[seq (env':=[some (.ref w),some (.ref h.length),some (.int (-1)),none,none]) (h':=h++[Cell.lst []]) (by simp_arith[])]
 obtain⟨env',g',e1,e3,e4,rfl,rfl⟩:=z3 (g:=[(w,.lst (cs.map ceD))]) (p:=.tp (.cons (.nm 3) (.cons (.nm 4) .nil))) (body:=exs ct (b0 ct F k) lhB) (fun j env hh=>∃e3 e4,env=[some (.ref w),some (.ref h.length),some (.int ((B9 (cs.take j):Int)-1)),e3,e4]/\hh=h++[.lst (i7 (cs.take j))]) (fun j env hh hP=>by
  obtain⟨_,_,_,rfl⟩:=hP;simp[gOk,b5 hw]) (cs.map ceD) 0 [some (.ref w),some (.ref h.length),some (.int (-1)),none,none] (h++[Cell.lst []]) (fun j x env hh hx hP=>by
  obtain⟨e3,e4,rfl,rfl⟩:=hP;rw[aj] at hx
  obtain⟨c,hc,rfl⟩:=Option.map_eq_some_iff.mp hx;have hj:=(ac.mp hc).1
  rw[aB];obtain⟨c1,c2⟩:=C.lo j c hc
  have tk:cs.take (j+1)=cs.take j++[c]:=by rw[take_succ,hc];rfl
  have l6:(i7 (cs.take j)).length<1000000:=by unfold i7;rw[aa,aM];omega
  have hd:i7 (cs.take (j+1))=i7 (cs.take j)++[.int (a1y c)]:=by
   rw[tk];unfold i7;rw[ao];rfl
  refine⟨_,[some (.ref w),some (.ref h.length),some (.int ((B9 (cs.take (j+1)):Int)-1)),some (.str c.n),some (.tup (L8 (c.lo:Int) c.k))],h++[.lst (i7 (cs.take (j+1)))],rfl,?_,_,_,rfl,rfl⟩
  show exs ct (b0 ct F k) lhB [some (.ref w),some (.ref h.length),some (.int ((B9 (cs.take j):Int)-1)),some (.str c.n),some (.tup (L8 (c.lo:Int) c.k))] _=_
  have sm:(B9 (cs.take j):Int)-1+(c.k:Int)=(B9 (cs.take (j+1)):Int)-1:=by rw[tk,U4];omega
  unfold lhB;rw[hd]
  by_cases k0:c.k=0
  · have hm:a1y c=(B9 (cs.take j):Int)-1:=by unfold a1y;rw[ay k0,c1]
    rw[hm];simp_arith[z7 b6,b2p,a1t,eq0,bn k0,a2B l6,a9R,sm]
  · have hm:a1y c=(c.lo:Int):=by unfold a1y;rw[az k0]
    rw[hm];simp_arith[z7 b6,b2p,a1t,eq0,k0,decide_false,a3S (show 0<c.k by omega),a2B l6,a9R,sm]) ⟨none,none,rfl,by simp[i7]⟩
 rw[seq (env':=_) (h':=h++[.lst (i7 (cs.take (0+(cs.map ceD).length)))]) (by simp_arith[V5,b5 hw,e1];rfl)]
 rw[aa,aB,bp];simp_arith[];exact gc2 b6 (ai _) (a1S _ _)
theorem b4c(w:Nat):∃v:Nat,1<=v/\∀h:AH,biD .max h [.int 1,.int (w:Int)]=.ok (.int (v:Int)) h:=by
 by_cases e:(w:Int)>1
 · exact⟨w,by omega,fun h=>by simp only[biD,e,if_true]⟩
 · exact⟨1,ai _,fun h=>by simp only[biD,e,if_false];rfl⟩
def Lr(w:Str):Prop:=w="left"∨w="right"
theorem lr2:∀i:Fin 2,∃w:Str,Lr w/\[D.str "left",.str "right"][i.val]? =some (.str w)
 |⟨0,_⟩=>⟨_,.inl rfl,rfl⟩
 |⟨1,_⟩=>⟨_,.inr rfl,rfl⟩
theorem b2V{k T:Nat}(f201:F 201=some x0)(f202:F 202=some o3)(hF:F 218=some F0)(hr:h[n]? =some (.rol (ns.map .int)))(hT:T<=300):∃ws:List Str,ws.length=T/\(∀w∈ws,Lr w)/\b0 ct F (k+2) 218 [.ref n,.int (T:Int)] h=.ok (.ref h.length) (h++[.lst (ws.map .str)]):=by
 obtain⟨a4,h4⟩:=Y2 (ct:=ct) (k:=k) (j:=4) f201 (b5 (g:=[Cell.lst []]) hr);obtain⟨M,hM⟩:=C0 (ct:=ct) (k:=k) (c:=a4) (j:=9) (h:=h++[Cell.lst []]) f202 (by omega)
 obtain⟨v,v1,v2⟩:=b4c ns.length;rw[l7 hF rfl];simp only[F0]
 show∃ws:List Str,_/\_/\gcR 2 h (O6 (exs ct (b0 ct F (k+1)) _ [some (.ref n),some (.int (T:Int)),none,none,none,none,none] h))=_
 rw[seq (env':=[some (.ref n),some (.int (T:Int)),some (.ref h.length),none,none,none,none]) (h':=h++[Cell.lst []]) (by simp_arith[o9])]
 rw[seq (env':=[some (.ref n),some (.int (T:Int)),some (.ref h.length),some (.str "left"),none,none,none]) (h':=h++[Cell.lst []]) (by simp_arith[])]
 rw[seq (env':=[some (.ref n),some (.int (T:Int)),some (.ref h.length),some (.str "left"),some (.int (M:Int)),none,none]) (h':=h++[Cell.lst []]) (by simp_arith[show b0 ct F (k+1) 201 [.ref n,.int 4] (h++[Cell.lst []])=.ok (.int a4) (h++[Cell.lst []]) from h4,hM])]
 obtain⟨env',g',e1,ws,w,e5,e6,rfl,q1,q2,q3,q4,q5⟩:=z3 (g:=[]) (p:=.nm 5) (body:=exs ct (b0 ct F (k+1)) (.cons (.set 6 wyA) (.cons wyB wyC))) (fun j env hh=>∃ws:List Str,∃w e5 e6,env=[some (.ref n),some (.int (T:Int)),some (.ref h.length),some (.str w),some (.int (M:Int)),e5,e6]/\Pf h hh/\hh[h.length]? =some (.lst (ws.map .str))/\ws.length=j/\Lr w/\∀w∈ws,Lr w) (fun _ _ _ _=>rfl) ((List.range T).map fun i=>.int ((0:Int)+(i:Nat))) 0 [some (.ref n),some (.int (T:Int)),some (.ref h.length),some (.str "left"),some (.int (M:Int)),none,none] (h++[Cell.lst []]) (fun j x env hh hx hP=>by
  obtain⟨ws,w,e5,e6,rfl,p1,p2,p3,p4,p5⟩:=hP;obtain⟨hj,rfl⟩:=a2T hx;rw[aB] at p3⊢;have r1:=p1.at hr
  have rl:rdL hh n=some (ns.map .int):=by unfold rdL;rw[r1]
  have le:biD .len hh [.ref n]=.ok (.int (ns.length:Int)) hh:=by simp only[biD,r1,rl,aa]
  obtain⟨a,ha⟩:=Y2 (ct:=ct) (k:=k) (j:=j%v) f201 r1
  have a5:((j:Nat):Int)+500=((j+500:Nat):Int):=by omega
  obtain⟨N,hN⟩:=C0 (ct:=ct) (k:=k) (c:=a) (j:=((j+500:Nat):Int)) (h:=hh) f202 (by omega)
  have m4:∀h,u8 h (.int (N:Int)) (.int 4)=.ok (.int ((N%4:Nat):Int)) h:=fun h=>F9 4 (by decide)
  have m3:∀h,u8 h (.int (M:Int)) (.int 3)=.ok (.int ((M%3:Nat):Int)) h:=fun h=>F9 3 (by decide)
  have d4:∀h,D1 h (.int (N:Int)) (.int 4)=.ok (.int ((N/4:Nat):Int)) h:=fun h=>Q0 4 (by decide) (by decide)
  have m2:∀h,u8 h (.int ((N/4:Nat):Int)) (.int 2)=.ok (.int ((N/4%2:Nat):Int)) h:=fun h=>F9 2 (by decide)
  obtain⟨u,u1,u2⟩:=lr2 ⟨N/4%2,Nat.mod_lt _ (by decide)⟩
  obtain⟨w',g,l1,e1⟩:∃w' g,Lr w'/\ex ct (b0 ct F (k+1)) wyB [some (.ref n),some (.int (T:Int)),some (.ref h.length),some (.str w),some (.int (M:Int)),some (.int (j:Int)),some (.int (N:Int))] hh=.ok (.nx [some (.ref n),some (.int (T:Int)),some (.ref h.length),some (.str w'),some (.int (M:Int)),some (.int (j:Int)),some (.int (N:Int))]) (hh++g):=by
   unfold wyB
   by_cases lt:((N%4:Nat):Int)<1+((M%3:Nat):Int)
   · refine⟨u,[.lst [.str "left",.str "right"]],u1,?_⟩
     simp_arith[op2,m4,m3,o6,E4,lt,decide_true,o9,d4,m2,B6 (h:=hh++[.lst [.str "left",.str "right"]]) b6 u2]
   · refine⟨w,[],p4,?_⟩
     rw[bj];simp_arith[op2,m4,m3,o6,E4,lt,decide_false]
  have b2:=b5 (g:=g) p2;refine⟨_,[some (.ref n),some (.int (T:Int)),some (.ref h.length),some (.str w'),some (.int (M:Int)),some (.int (j:Int)),some (.int (N:Int))],(hh++g).set h.length (.lst ((ws++[w']).map .str)),rfl,?_,ws++[w'],w',_,_,rfl,(p1.app g).set (ai _),u9 b2,by rw[ap,p3];rfl,l1,fun x hx=>?_⟩
  · show exs ct (b0 ct F (k+1)) _ [some (.ref n),some (.int (T:Int)),some (.ref h.length),some (.str w),some (.int (M:Int)),some (.int (j:Int)),e6] hh=_
    rw[seq (env':=[some (.ref n),some (.int (T:Int)),some (.ref h.length),some (.str w),some (.int (M:Int)),some (.int (j:Int)),some (.int (N:Int))]) (h':=hh) (by
     unfold wyA;simp_arith[le,v2,op2,F9 v v1,ha,o6,a5,hN])]
    rw[seq e1];unfold wyC;simp_arith[z7 b2,K3 b2 (by rw[aa];omega),ao]
  · rcases aK.mp hx with hx|hx
    · exact p5 x hx
    · rw[aO.mp hx];exact l1) ⟨[],"left",none,none,rfl,(Pf.refl h).app _,b6,rfl,.inl rfl,(fun w (hw:w∈([]:List Str))=>absurd hw (by simp))⟩
 rw[aa,aI,aB] at q3;refine⟨ws,q3,q5,?_⟩
 rw[seq (env':=_) (h':=g') (by simp_arith[a1J (h:=h++[Cell.lst []]) (m:=T) (by omega),e1];rfl)]
 simp_arith[];exact a1R q1 q2 (ai _) (I0 ws)
end
theorem b1o{l:List (Str×D)}{k:Str}(e:h[n]? =some (.dict (kd l))):V9 true h (.str k) (.ref n)=.ok (.bl (!decide (k∈l.map (·.1)))) h:=by
 simp only[V9,e,W4,if_true,a7r];simp
noncomputable def isB(mk:List Str)(cs:List Ce)(i:Nat):Bool:=match cs[i]? with
 |some c=>!decide (c.n∈mk)
 |none=>false
def o4(mk:List Str)(cs:List Ce)(j:Nat):List Nat:=(List.range j).filter (isB mk cs)
def d0(mk:List Str)(cs:List Ce):List Nat:=o4 mk cs cs.length
def Z6(cs:List Ce)(ws:List Str)(p:Nat):Str:=match cs[p]? with
 |some c=>ws.getD (a1y c).toNat ""
 |none=>""
def sdB(mk:List Str)(cs:List Ce)(ws:List Str)(i:Nat):Str:=Z6 cs ws ((d0 mk cs).getD i 0)
def plB(mk:List Str)(cs:List Ce)(i:Nat):D:=.int (((d0 mk cs).getD i 0:Nat):Int)
variable{mk:List Str}
theorem O1:o4 mk cs (j+1)=o4 mk cs j++(if isB mk cs j=true then[j] else[]):=by
 unfold o4;rw[bA,List.filter_append];congr 1
 by_cases e:isB mk cs j=true
 · rw[ay e,List.filter_cons_of_pos e];rfl
 · rw[az e,List.filter_cons_of_neg e];rfl
theorem b2J(hj:j<cs.length)(e:isB mk cs j=true):(d0 mk cs)[(o4 mk cs j).length]? =some j:=by
 have r:List.range cs.length=List.range (j+1)++(List.range (cs.length-(j+1))).map (j+1+ ·):=by
  rw[←List.range_add];congr 1;omega
 have:d0 mk cs=o4 mk cs j++([j]++((List.range (cs.length-(j+1))).map (j+1+ ·)).filter (isB mk cs)):=by
  rw[←aA];have z:=O1 (mk:=mk) (cs:=cs) (j:=j);rw[ay e] at z;rw[←z];unfold d0 o4;rw[r,List.filter_append]
 rw[this,aq (ai _),bG]
 rfl
theorem b3i{t:Nat}:B9 (cs.take t)<=B9 cs:=by
 have:=congrArg B9 (take_append_drop t cs)
 unfold B9 at this⊢;rw[ao,bB] at this;omega
theorem b0i(C:Ch cs){t:Nat}(ht:0<t)(hl:0<cs.length):1<=B9 (cs.take t):=by
 cases cs with
 |nil=>cases hl
 |cons c r=>
  have:=C.fst c rfl
  obtain⟨t,rfl⟩:∃s,t=s+1:=⟨t-1,by omega⟩
  unfold B9;rw[List.take_succ_cons,map_cons,sum_cons];omega
theorem a8s(C:Ch cs){t:Nat}{c:Ce}(hc:cs[t]? =some c):∃q:Nat,a1y c=(q:Int)/\q<B9 cs:=by
 have hl:=(ac.mp hc).1
 obtain⟨c1,c2⟩:=C.lo t c hc
 have tk:cs.take (t+1)=cs.take t++[c]:=by rw[take_succ,hc];rfl
 have s1:=b3i (cs:=cs) (t:=t+1);rw[tk,U4] at s1;unfold a1y
 by_cases k0:c.k=0
 · have t0:0<t:=by
    cases t with
    |zero=>have:=C.fst c hc;omega
    |succ t=>exact Nat.succ_pos t
   have:=b0i C t0 (by omega)
   rw[ay k0];exact⟨c.lo-1,by omega,by omega⟩
 · rw[az k0];exact⟨c.lo,rfl,by omega⟩
theorem a2O(C:Ch cs){t:Nat}{c:Ce}(hc:cs[t]? =some c)(hs:ws.length=B9 cs)(hw:∀w∈ws,Lr w):Lr (Z6 cs ws t)/\∀{h:AH} {v:Nat},h[v]? =some (.lst (ws.map .str))->ixD h (.ref v) (.int (a1y c))=.ok (.str (Z6 cs ws t)) h:=by
 obtain⟨q,q1,q2⟩:=a8s C hc
 have q3:q<ws.length:=by omega
 have e:Z6 cs ws t=ws[q]:=by
  unfold Z6;simp only[hc];rw[q1,Int.toNat_natCast,bD,af q3]
  rfl
 rw[e,q1];exact⟨hw _ (bz q3),fun hv=>B6 hv (by rw[aj,af q3];rfl)⟩
noncomputable def tgs(b:Nat):List Rn->List (Rn×Nat)
 |[]=>[]
 |r::t=>(r,b)::tgs (b+1) t
noncomputable def tgD(y:Rn×Nat):D:=.tup [.str y.1.1,.ref y.2]
theorem a2o:∀(b:Nat) (rs:List Rn),(tgs b rs).map (·.1)=rs
 |_,[]=>rfl
 |b,r::t=>by rw[tgs,map_cons,a2o (b+1) t]
theorem a7F(b:Nat)(rs:List Rn):(tgs b rs).length=rs.length:=by
 have:=congrArg List.length (a2o b rs)
 rwa [aa] at this
theorem U3:∀(b:Nat) (rs:List Rn) (r:Rn),tgs b (rs++[r])=tgs b rs++[(r,b+rs.length)]
 |b,[],r=>rfl
 |b,x::t,r=>by
  rw[cons_append,tgs,U3 (b+1) t r,tgs,length_cons,show b+(t.length+1)=b+1+t.length by omega]
  rfl
theorem a7E{y:Rn×Nat}:∀{b:Nat} {rs:List Rn},y∈tgs b rs->∃t,y.2=b+t/\rs[t]? =some y.1
 |_,[],h=>absurd h (by simp[tgs])
 |b,r::t,h=>by
  rw[tgs] at h
  rcases aE.mp h with rfl|h
  · exact⟨0,rfl,rfl⟩
  · obtain⟨s,h1,h2⟩:=a7E h;exact⟨s+1,by omega,h2⟩
noncomputable def clR(pl:Nat->D)(r:Rn):Cell:=.lst (r.2.map pl)
def hpR(h:AH)(hm:Cell)(pl:Nat->D)(rs:List Rn):AH:=h++(hm::.lst ((tgs (h.length+2) rs).map tgD)::rs.map (clR pl))
variable{rs:List Rn}
section
variable{hm:Cell}{pl:Nat->D}
theorem a1x:(hpR h hm pl rs)[h.length+1]? =some (.lst ((tgs (h.length+2) rs).map tgD)):=by
 unfold hpR;rw[aq (by omega),show h.length+1-h.length=1 by omega]
 rfl
theorem b9r:(hpR h hm pl rs)[h.length]? =some hm:=by
 unfold hpR;rw[aq (ai _),bG]
 rfl
theorem b7c:(hpR h hm pl rs).length=h.length+2+rs.length:=by
 unfold hpR;simp;omega
theorem a8r{t:Nat}{r:Rn}(e:rs[t]? =some r):(hpR h hm pl rs)[h.length+2+t]? =some (clR pl r):=by
 unfold hpR;rw[aq (by omega),show h.length+2+t-h.length=t+1+1 by omega,List.getElem?_cons_succ,List.getElem?_cons_succ,aj,e]
 rfl
theorem b7b{w:Str}:(hpR h hm pl rs++[Cell.lst []]).set (h.length+1) (Cell.lst ((tgs (h.length+2) rs).map tgD++[D.tup [.str w,.ref (hpR h hm pl rs).length]]))=hpR h hm pl (rs++[(w,[])]):=by
 rw[b7c];unfold hpR;rw[aA,set_append_right _ _ (by omega),show h.length+1-h.length=1 by omega,U3,ao,ao]
 rfl
theorem b4r{w:Str}{ps:List Nat}{m:Nat}:(hpR h hm pl (rs++[(w,ps)])).set (h.length+2+rs.length) (Cell.lst (ps.map pl++[pl m]))=hpR h hm pl (rs++[(w,ps++[m])]):=by
 unfold hpR;rw[set_append_right _ _ (by omega),show h.length+2+rs.length-h.length=rs.length+1+1 by omega,List.set_cons_succ,List.set_cons_succ,U3,U3,ao,ao,ao,ao,set_append_right _ _ (by rw[aa];exact ai _),aa,bG]
 simp[clR,tgD]
end
theorem a6i(hn:h[n]? =some (.lst (xs++[d]))):ixD h (.ref n) (.int (-1))=.ok d h:=by
 have:atI (xs++[d]) (-1)=some d:=b2M (by simp)
 simp only[ixD,hn,this]
variable{v:Nat}
section
variable{F:Nat->Option Fn}
theorem b5U{k m:Nat}{a b v r:D}{e6:Option D}{pl:Nat->D}{hm:Cell}(hl:m<=100):exs ct (b0 ct F k) (.cons brN brA) [some a,some b,some v,some r,some (.ref (h.length+1)),some (pl m),e6,some (.str (sd m))] (hpR h hm pl (j9 sd m))=.ok (.nx [some a,some b,some v,some r,some (.ref (h.length+1)),some (pl m),e6,some (.str (sd m))]) (hpR h hm pl (j9 sd (m+1))):=by
 have F1:=(Q5 sd m).1.fl
 have add:∀(t:List Rn) (ps:List Nat),ps.length<=1000->exs ct (b0 ct F k) brA [some a,some b,some v,some r,some (.ref (h.length+1)),some (pl m),e6,some (.str (sd m))] (hpR h hm pl (t++[(sd m,ps)]))=.ok (.nx [some a,some b,some v,some r,some (.ref (h.length+1)),some (pl m),e6,some (.str (sd m))]) (hpR h hm pl (t++[(sd m,ps++[m])])):=fun t ps hp=>by
  have g1:=a1x (h:=h) (hm:=hm) (pl:=pl) (rs:=t++[(sd m,ps)]);rw[U3,ao] at g1
  have i1:ixD (hpR h hm pl (t++[(sd m,ps)])) (.ref (h.length+1)) (.int (-1))=.ok (.tup [.str (sd m),.ref (h.length+2+t.length)]) (hpR h hm pl (t++[(sd m,ps)])):=a6i g1
  have i2:ixD (hpR h hm pl (t++[(sd m,ps)])) (.tup [.str (sd m),.ref (h.length+2+t.length)]) (.int 1)=.ok (.ref (h.length+2+t.length)) (hpR h hm pl (t++[(sd m,ps)])):=ix_tup (i:=1) rfl
  have g2:(hpR h hm pl (t++[(sd m,ps)]))[h.length+2+t.length]? =some (.lst (ps.map pl)):=a8r (r:=(sd m,ps)) (by simp)
  unfold brA;simp_arith[i1,i2,z7 g2,K3 g2 (show(ps.map pl).length<1000000 by rw[aa];omega),b4r]
 have new:∀rs:List Rn,rs.length<=1000->ev ct (b0 ct F k) (.mt .append (.v 4) (.cons (.tup (.cons (.v 7) (.cons (.lst .nil) .nil))) .nil)) [some a,some b,some v,some r,some (.ref (h.length+1)),some (pl m),e6,some (.str (sd m))] (hpR h hm pl rs)=.ok .non (hpR h hm pl (rs++[(sd m,[])])):=fun rs hr=>by
  have g1:=a1x (h:=h) (hm:=hm) (pl:=pl) (rs:=rs);simp_arith[z7 g1,o9,K3 (b5 g1) (show((tgs (h.length+2) rs).map tgD).length<1000000 by rw[aa,a7F];omega),b7b]
 unfold j9 at F1⊢;rw[show Q6 sd (m+1)=a3L sd (Q6 sd m) m from rfl]
 cases e:Q6 sd m with
 | nil=>
  have le:biD .len (hpR h hm pl []) [.ref (h.length+1)]=.ok (.int 0) (hpR h hm pl []):=z9 a1x
  have n0:=new [] (by simp)
  rw[List.reverse_nil]
  rw[seq (env':=[some a,some b,some v,some r,some (.ref (h.length+1)),some (pl m),e6,some (.str (sd m))]) (h':=hpR h hm pl ([]++[(sd m,[])])) (by
   unfold brN;rw[a3l,a4w];rw[show tst ct (b0 ct F k) (.cmp .eq (.bi .len (.cons (.v 4) .nil)) (.k (.int (0)))) [some a,some b,some v,some r,some (.ref (h.length+1)),some (pl m),e6,some (.str (sd m))] (hpR h hm pl [])=.ok true (hpR h hm pl []) by simp_arith[le,op2,K4,eqS,decide_true]]
   rw[b8,ay rfl,b8,ay rfl,O9,b2j,n0];simp_arith[])]
  rw[add [] [] (by simp)]
  rfl
 | cons q t=>
  rw[e] at F1
  have tl:t.length<=m/\q.2.length<=m:=by
   have:=congrArg List.length F1
   rw[aI,reverse_cons,ao,flatten_append,ap] at this
   have ll:q.2.length<=m:=by
    rw[←this];simp
   refine⟨?_,ll⟩
   have:=(Q5 sd m).2
   cases m with
   |zero=>cases e
   | succ m'=>
    obtain⟨t',r',h1,h2,_⟩:=this m' rfl;rw[e] at h1
    injection h1 with _ h1
    rw[h1,h2]
    have:∀i,K7 sd i<=i:=fun i=>by
     induction i with
     |zero=>exact ai _
     |succ i ih=>
      unfold K7
      split<;>omega
    have:=this m'
    omega
  have g1:=a1x (h:=h) (hm:=hm) (pl:=pl) (rs:=t.reverse++[q]);rw[U3,ao] at g1
  have i1:ixD (hpR h hm pl (t.reverse++[q])) (.ref (h.length+1)) (.int (-1))=.ok (.tup [.str q.1,.ref (h.length+2+t.reverse.length)]) (hpR h hm pl (t.reverse++[q])):=a6i g1
  have le:biD .len (hpR h hm pl (t.reverse++[q])) [.ref (h.length+1)]=.ok (.int ((t.length+1:Nat):Int)) (hpR h hm pl (t.reverse++[q])):=by
   rw[z9 g1];congr 2;simp[a7F]
  have z0:op2 .eq (hpR h hm pl (t.reverse++[q])) (.int ((t.length+1:Nat):Int)) (.int 0)=.ok (.bl false) (hpR h hm pl (t.reverse++[q])):=by
   rw[eq0];rfl
  have n1:op2 .ne (hpR h hm pl (t.reverse++[q])) (.str q.1) (.str (sd m))=.ok (.bl (!decide (q.1=sd m))) (hpR h hm pl (t.reverse++[q])):=rfl
  rw[reverse_cons]
  show _=R.ok _ (hpR h hm pl (if q.1=sd m then(q.1,q.2++[m])::t else(sd m,[m])::q::t).reverse)
  by_cases w:q.1=sd m
  · rw[ay w,reverse_cons]
    rw[seq (env':=[some a,some b,some v,some r,some (.ref (h.length+1)),some (pl m),e6,some (.str (sd m))]) (h':=hpR h hm pl (t.reverse++[q])) (by
     unfold brN;simp_arith[le,z0,i1,a2F,n1,bn w,Bool.not_true])]
    have:q=(sd m,q.2):=by rw[←w]
    rw[w];rw[show t.reverse++[q]=t.reverse++[(sd m,q.2)] by rw[←this]]
    exact add _ _ (by omega)
  · rw[az w,reverse_cons,reverse_cons];have n0:=new (t.reverse++[q]) (by simp;omega)
    rw[seq (env':=[some a,some b,some v,some r,some (.ref (h.length+1)),some (pl m),e6,some (.str (sd m))]) (h':=hpR h hm pl (t.reverse++[q]++[(sd m,[])])) (by
     unfold brN;rw[a3l,a4w];rw[show tst ct (b0 ct F k) (.cmp .eq (.bi .len (.cons (.v 4) .nil)) (.k (.int (0)))) [some a,some b,some v,some r,some (.ref (h.length+1)),some (pl m),e6,some (.str (sd m))] (hpR h hm pl (t.reverse++[q]))=.ok false (hpR h hm pl (t.reverse++[q])) by simp_arith[le,z0]]
     rw[b8,az (by decide)]
     rw[show tst ct (b0 ct F k) (.cmp .ne (.ix (.ix (.v 4) (.neg (.k (.int (1))))) (.k (.int (0)))) (.v 7)) [some a,some b,some v,some r,some (.ref (h.length+1)),some (pl m),e6,some (.str (sd m))] (hpR h hm pl (t.reverse++[q]))=.ok true (hpR h hm pl (t.reverse++[q])) by simp_arith[i1,a2F,n1,w,decide_false,Bool.not_false]]
     rw[b8,ay rfl,O9,b2j,n0];simp_arith[])]
    exact add _ _ (by simp)
theorem a5x{k:Nat}{H:HL}(f33:F 33=some E7)(hF:F 34=some E8)(A:HallAt h n (a1P H))(C:Ch cs)(hw:h[w]? =some (.lst (cs.map ceD)))(hv:h[v]? =some (.lst (ws.map .str)))(hs:ws.length=B9 cs)(hr:∀w∈ws,Lr w)(hl:cs.length<=63):
 b0 ct F (k+2) 34 [.ref n,.ref w,.ref v] h=.ok (.ref (h.length+1)) (hpR h (.lst (i7 cs)) (plB (H.mr.map (·.n)) cs) (j9 (sdB (H.mr.map (·.n)) cs ws) (d0 (H.mr.map (·.n)) cs).length)):=by
 have k2:(hM H.mr).map (·.1)=H.mr.map (·.n):=a2i _ _ _
 have l1:(h++[Cell.lst (i7 cs)]).length=h.length+1:=by simp
 rw[l7 hF rfl];simp only[E8]
 show gcR 0 h (O6 (exs ct (b0 ct F (k+1)) _ [some (.ref n),some (.ref w),some (.ref v),none,none,none,none,none] h))=_
 rw[gc0];rw[seq (env':=[some (.ref n),some (.ref w),some (.ref v),some (.ref h.length),none,none,none,none]) (h':=h++[Cell.lst (i7 cs)]) (by simp_arith[b1J f33 C hw hl])]
 rw[seq (env':=[some (.ref n),some (.ref w),some (.ref v),some (.ref h.length),some (.ref (h.length+1)),none,none,none]) (h':=hpR h (.lst (i7 cs)) (plB (H.mr.map (·.n)) cs) (j9 (sdB (H.mr.map (·.n)) cs ws) 0)) (by
  have:hpR h (.lst (i7 cs)) (plB (H.mr.map (·.n)) cs) (j9 (sdB (H.mr.map (·.n)) cs ws) 0)=h++[Cell.lst (i7 cs)]++[Cell.lst []]:=by
   rw[aA];rfl
  rw[this];simp_arith[o9,l1])]
 generalize hmk:H.mr.map (·.n)=mk at k2
 generalize hsd:sdB mk cs ws=sd;generalize hpl:plB mk cs=pl;generalize hhm:Cell.lst (i7 cs)=hm
 obtain⟨env',g',e1,e5,e6,e7,rfl,rfl⟩:=z3 (g:=[(w,.lst (cs.map ceD))]) (p:=.tp (.cons (.nm 5) (.cons (.nm 6) .nil))) (body:=exs ct (b0 ct F (k+1)) brB) (fun j env hh=>∃e5 e6 e7,env=[some (.ref n),some (.ref w),some (.ref v),some (.ref h.length),some (.ref (h.length+1)),e5,e6,e7]/\hh=hpR h hm pl (j9 sd (o4 mk cs j).length)) (fun j env hh hP=>by
  obtain⟨_,_,_,_,rfl⟩:=hP
  have:(hpR h hm pl (j9 sd (o4 mk cs j).length))[w]? =some (.lst (cs.map ceD)):=by unfold hpR;exact b5 hw
  simp[gOk,this]) (y0 0 (cs.map ceD)) 0 [some (.ref n),some (.ref w),some (.ref v),some (.ref h.length),some (.ref (h.length+1)),none,none,none] (hpR h hm pl (j9 sd 0)) (fun j x env hh hx hP=>by
  obtain⟨e5,e6,e7,rfl,rfl⟩:=hP;obtain⟨y,hy,rfl⟩:=Y0 hx;rw[aj] at hy
  obtain⟨c,hc,rfl⟩:=Option.map_eq_some_iff.mp hy;have hj:=(ac.mp hc).1
  rw[aB]
  have ml:(o4 mk cs j).length<=100:=by
   have:=List.length_filter_le (isB mk cs) (List.range j)
   rw[aI] at this;unfold o4;omega
  have A1:HallAt (hpR h hm pl (j9 sd (o4 mk cs j).length)) n (a1P H):=by unfold hpR;exact A.app _
  have v1:(hpR h hm pl (j9 sd (o4 mk cs j).length))[v]? =some (.lst (ws.map .str)):=by unfold hpR;exact b5 hv
  have hm1:(hpR h hm pl (j9 sd (o4 mk cs j).length))[h.length]? =some (.lst (i7 cs)):=by rw[hhm];exact b9r
  have i1:ixD (hpR h hm pl (j9 sd (o4 mk cs j).length)) (.ref h.length) (.int (j:Int))=.ok (.int (a1y c)) (hpR h hm pl (j9 sd (o4 mk cs j).length)):=B6 hm1 (by unfold i7;rw[aj,hc];rfl)
  have i2:=(a2O C hc hs hr).2 v1
  have ts:tst ct (b0 ct F (k+1)) (.cmp .notin (.ix (.v 6) (.k (.int (0)))) (.fld (.v 0) "marks")) [some (.ref n),some (.ref w),some (.ref v),some (.ref h.length),some (.ref (h.length+1)),some (.int (j:Int)),some (ceD c),e7] (hpR h hm pl (j9 sd (o4 mk cs j).length))=.ok (isB mk cs j) (hpR h hm pl (j9 sd (o4 mk cs j).length)):=by
   simp_arith[ce0,A1.fld2,op2,b1o A1.c2];rw[show(a1P H).marks=hM H.mr from rfl,k2];unfold isB;rw[hc]
  by_cases b:isB mk cs j=true
  · have ba:=b2J hj b
    have bg:(d0 mk cs).getD (o4 mk cs j).length 0=j:=by rw[bD,ba];rfl
    have s1:sd (o4 mk cs j).length=Z6 cs ws j:=by rw[←hsd];unfold sdB;rw[bg]
    have p1:pl (o4 mk cs j).length=.int (j:Int):=by rw[←hpl];unfold plB;rw[bg]
    have pt:=b5U (ct:=ct) (F:=F) (k:=k+1) (m:=(o4 mk cs j).length) (a:=.ref n) (b:=.ref w) (v:=.ref v) (r:=.ref h.length) (e6:=some (ceD c)) (sd:=sd) (pl:=pl) (h:=h) (hm:=hm) ml;rw[s1,p1] at pt;refine⟨_,_,_,rfl,?_,some (.int (j:Int)),some (ceD c),some (.str (Z6 cs ws j)),rfl,rfl⟩
    show exs ct (b0 ct F (k+1)) brB [some (.ref n),some (.ref w),some (.ref v),some (.ref h.length),some (.ref (h.length+1)),some (.int (j:Int)),some (ceD c),e7] _=_
    unfold brB;rw[O9,a3l,ts,b8,ay b]
    rw[seq (env':=[some (.ref n),some (.ref w),some (.ref v),some (.ref h.length),some (.ref (h.length+1)),some (.int (j:Int)),some (ceD c),some (.str (Z6 cs ws j))]) (h':=hpR h hm pl (j9 sd (o4 mk cs j).length)) (by
     unfold brO;simp_arith[i1,i2])]
    rw[pt,O1,ay b,ap,b8];rfl
  · refine⟨_,_,_,rfl,?_,some (.int (j:Int)),some (ceD c),e7,rfl,rfl⟩
    show exs ct (b0 ct F (k+1)) brB [some (.ref n),some (.ref w),some (.ref v),some (.ref h.length),some (.ref (h.length+1)),some (.int (j:Int)),some (ceD c),e7] _=_
    unfold brB;rw[O9,a3l,ts,b8,az b,O1,az b,bj];simp_arith[]) ⟨none,none,none,rfl,rfl⟩
 rw[P9,aa,aB] at e1
 have w1:(hpR h hm pl (j9 sd 0))[w]? =some (.lst (cs.map ceD)):=by unfold hpR;exact b5 hw
 rw[seq (env':=_) (h':=hpR h hm pl (j9 sd (o4 mk cs cs.length).length)) (by simp_arith[Y7,w1,e1];rfl)]
 simp_arith[];rfl
end
theorem a4J(e:h[n]? =some (.lst xs)):b0F h (.ref n)=.ok (.ref h.length) (h++[.lst xs.reverse]):=by
 simp only[b0F,e,o9]
theorem a8f(e:h[n]? =some (.lst xs)):mtT .extend h (.ref n)=true:=by
 simp only[mtT,rdL,e,Option.isSome_some]
theorem b2g{k:Nat}{ys:List D}(e1:h[n]? =some (.lst xs))(e2:h[k]? =some (.lst ys))(hl:xs.length+ys.length<=1000000):mtD .extend h (.ref n) [.ref k]=.ok .non (h.set n (.lst (xs++ys))):=by
 simp only[mtD,e1,e2];rw[ay (show xs.length+ys.length<=16777216 by omega)]
theorem a8w{c:Cell}:(h++[c]++g)[h.length]? =some c:=b5 b6
theorem a7K{c:Cell}:(h++[c]++g).set h.length c'=h++[c']++g:=by
 rw[aA,set_append_right _ _ (ai _),bG,aA];rfl
theorem b4M:op2 .eq h (.str x) (.str y)=.ok (.bl (decide (x=y))) h:=rfl
def Q4(ys:List (Rn×Nat)):List Nat:=(ys.map fun y=>a1o y.1).flatten
section
variable{F:Nat->Option Fn}
theorem a9b{k r:Nat}{a b v w:D}{ys:List (Rn×Nat)}{pl:Nat->D}(hr:h[r]? =some (.lst (ys.map tgD)))(hy:∀y∈ys,h[y.2]? =some (clR pl y.1))(hl:(Q4 ys).length<=1000):
 ∃e6 e7 g,Z0 [(r,.lst (ys.map tgD))] (.tp (.cons (.nm 6) (.cons (.nm 7) .nil))) (exs ct (b0 ct F k) soB) (ys.map tgD) [some a,some b,some v,some w,some (.ref r),some (.ref h.length),none,none] (h++[.lst []])=.ok (.nx [some a,some b,some v,some w,some (.ref r),some (.ref h.length),e6,e7]) (h++[.lst ((Q4 ys).map pl)]++g):=by
 obtain⟨env',g',e1,e6,e7,g,rfl,rfl⟩:=z3 (g:=[(r,.lst (ys.map tgD))]) (p:=.tp (.cons (.nm 6) (.cons (.nm 7) .nil))) (body:=exs ct (b0 ct F k) soB) (fun j env hh=>∃e6 e7 g,env=[some a,some b,some v,some w,some (.ref r),some (.ref h.length),e6,e7]/\hh=h++[.lst ((Q4 (ys.take j)).map pl)]++g) (fun j env hh hP=>by
  obtain⟨_,_,_,_,rfl⟩:=hP
  have:=b5 (g:=‹AH›) (b5 (g:=[Cell.lst ((Q4 (ys.take j)).map pl)]) hr)
  simp only[gOk,all_cons,all_nil,this]
  simp) (ys.map tgD) 0 [some a,some b,some v,some w,some (.ref r),some (.ref h.length),none,none] (h++[.lst []]) (fun j x env hh hx hP=>by
  obtain⟨e6,e7,g,rfl,rfl⟩:=hP;rw[aj] at hx
  obtain⟨y,hc,rfl⟩:=Option.map_eq_some_iff.mp hx;rw[aB]
  have tk:Q4 (ys.take (j+1))=Q4 (ys.take j)++a1o y.1:=by
   unfold Q4;rw[take_succ,hc,ao,flatten_append];simp
  have ll:(Q4 (ys.take j)).length+(a1o y.1).length<=1000:=by
   have:(Q4 (ys.take (j+1))).length<=(Q4 ys).length:=by
    have e:=congrArg (fun l=>(Q4 l).length) (take_append_drop (j+1) ys)
    unfold Q4 at e⊢;simp only[ao,flatten_append,ap] at e;omega
   rw[tk,ap] at this;omega
  have q:=hy y (aG hc);have q1:=b5 (g:=g) (b5 (g:=[Cell.lst ((Q4 (ys.take j)).map pl)]) q)
  have m1:(h++[Cell.lst ((Q4 (ys.take j)).map pl)]++g)[h.length]? =some (.lst ((Q4 (ys.take j)).map pl)):=a8w
  by_cases w:y.1.1="right"
  · have oR:a1o y.1=y.1.2.reverse:=ay w
    have rv:=a4J (h:=h++[Cell.lst ((Q4 (ys.take j)).map pl)]++g) (n:=y.2) (xs:=y.1.2.map pl) q1;have m2:=b5 (g:=[Cell.lst (y.1.2.map pl).reverse]) m1
    have ex:=b2g (k:=(h++[Cell.lst ((Q4 (ys.take j)).map pl)]++g).length) (ys:=(y.1.2.map pl).reverse) m2 b6 (by
     rw[oR,length_reverse] at ll;rw[aa,length_reverse,aa]
     omega)
    rw[aA (h++_) g,a7K] at ex;refine⟨_,_,_,rfl,?_,some (.str y.1.1),some (.ref y.2),g++[.lst (y.1.2.map pl).reverse],rfl,rfl⟩
    show exs ct (b0 ct F k) soB [some a,some b,some v,some _,some (.ref r),some (.ref h.length),some (.str y.1.1),some (.ref y.2)] _=_
    rw[tk,oR,ao,map_reverse];unfold soB;rw[←aA] at ex;simp_arith[b4M,bn w,a8f m1,a5m,rv,ex]
  · have oR:a1o y.1=y.1.2:=az w
    have ex:=b2g (k:=y.2) (ys:=y.1.2.map pl) m1 q1 (by
     rw[oR] at ll;rw[aa,aa]
     omega)
    rw[a7K] at ex;refine⟨_,_,_,rfl,?_,some (.str y.1.1),some (.ref y.2),g,rfl,rfl⟩
    show exs ct (b0 ct F k) soB [some a,some b,some v,some _,some (.ref r),some (.ref h.length),some (.str y.1.1),some (.ref y.2)] _=_
    rw[tk,oR,ao];unfold soB;simp_arith[b4M,bF w,a8f m1,ex]) ⟨none,none,[],rfl,by rw[bj];rfl⟩
 rw[aa,aB,bp] at e1;exact⟨e6,e7,g,e1⟩
def U6(mk:List Str)(cs:List Ce)(ws:List Str)(way:Str):List D:=(z6 way (j9 (sdB mk cs ws) (d0 mk cs).length)).map (plB mk cs)
theorem a9E:D.flats (U6 mk cs ws way)=true:=a1S _ _
theorem a0H:(d0 mk cs).length<=cs.length:=by
 have:=List.length_filter_le (isB mk cs) (List.range cs.length)
 rw[aI] at this;exact this
theorem a7L{k:Nat}{H:HL}(f33:F 33=some E7)(f34:F 34=some E8)(hF:F 35=some F6)(A:HallAt h n (a1P H))(C:Ch cs)(hw:h[w]? =some (.lst (cs.map ceD)))(hv:h[v]? =some (.lst (ws.map .str)))(hs:ws.length=B9 cs)(hr:∀w∈ws,Lr w)(hl:cs.length<=63):
 b0 ct F (k+3) 35 [.ref n,.ref w,.ref v,.str way] h=.ok (.ref h.length) (h++[.lst (U6 (H.mr.map (·.n)) cs ws way)]):=by
 have br:=a5x (ct:=ct) (k:=k) f33 f34 A C hw hv hs hr hl;generalize hR:j9 (sdB (H.mr.map (·.n)) cs ws) (d0 (H.mr.map (·.n)) cs).length=rs at br
 have ol:(z6 way rs).length<=1000:=by
  rw[←hR,b3U]
  have:=a0H (mk:=H.mr.map (·.n)) (cs:=cs)
  omega
 generalize hpl:plB (H.mr.map (·.n)) cs=pl at br
 generalize hhm:Cell.lst (i7 cs)=hm at br;rw[l7 hF rfl];simp only[F6]
 show gcR 2 h (O6 (exs ct (b0 ct F (k+2)) _ [some (.ref n),some (.ref w),some (.ref v),some (.str way),none,none,none,none] h))=_
 rw[seq (env':=[some (.ref n),some (.ref w),some (.ref v),some (.str way),some (.ref (h.length+1)),none,none,none]) (h':=hpR h hm pl rs) (by simp_arith[br])]
 have g1:=a1x (h:=h) (hm:=hm) (pl:=pl) (rs:=rs)
 have P1:Pf h (hpR h hm pl rs):=by unfold hpR;exact(Pf.refl h).app _
 have cl:∀y∈tgs (h.length+2) rs,(hpR h hm pl rs)[y.2]? =some (clR pl y.1):=fun y hy=>by
  obtain⟨t,t1,t2⟩:=a7E hy;rw[t1];exact a8r t2
 obtain⟨ys,r,g,e1,P2,r1,c1,o1⟩:∃(ys:List (Rn×Nat)) (r:Nat) (g:AH),ex ct (b0 ct F (k+2)) soR [some (.ref n),some (.ref w),some (.ref v),some (.str way),some (.ref (h.length+1)),none,none,none] (hpR h hm pl rs)=.ok (.nx [some (.ref n),some (.ref w),some (.ref v),some (.str way),some (.ref r),none,none,none]) g/\Pf h g/\g[r]? =some (.lst (ys.map tgD))/\(∀y∈ys,g[y.2]? =some (clR pl y.1))/\Q4 ys=z6 way rs:=by
  unfold soR
  by_cases e:way="right"
  · refine⟨(tgs (h.length+2) rs).reverse,(hpR h hm pl rs).length,hpR h hm pl rs++[.lst ((tgs (h.length+2) rs).map tgD).reverse],?_,P1.app _,?_,fun y hy=>b5 (cl y (mem_reverse.mp hy)),?_⟩
    · simp_arith[b4M,bn e,a5m,a4J g1]
    · rw[map_reverse];exact b6
    · unfold Q4 z6;rw[ay e]
      conv=>rhs;rw[←a2o (h.length+2) rs]
      rw[←map_reverse,aH];rfl
  · refine⟨tgs (h.length+2) rs,h.length+1,hpR h hm pl rs,?_,P1,g1,cl,?_⟩
    · simp_arith[b4M,bF e]
    · unfold Q4 z6;rw[az e]
      conv=>rhs;rw[←a2o (h.length+2) rs]
      rw[aH];rfl
 rw[seq e1];rw[seq (env':=[some (.ref n),some (.ref w),some (.ref v),some (.str way),some (.ref r),some (.ref g.length),none,none]) (h':=g++[Cell.lst []]) (by simp_arith[o9])]
 obtain⟨e6,e7,g2,e2⟩:=a9b (ct:=ct) (F:=F) (k:=k+2) (a:=.ref n) (b:=.ref w) (v:=.ref v) (w:=.str way) r1 c1 (by rw[o1];exact ol)
 rw[seq (env':=_) (h':=g++[.lst ((Q4 ys).map pl)]++g2) (by simp_arith[V5,b5 (g:=[Cell.lst []]) r1,e2];rfl)]
 simp_arith[]
 have:U6 (H.mr.map (·.n)) cs ws way=(Q4 ys).map pl:=by
  unfold U6;rw[hR,hpl,o1]
 have fl:=a9E (mk:=H.mr.map (·.n)) (cs:=cs) (ws:=ws) (way:=way)
 rw[this] at fl⊢;exact a1R ((P2.app _).app _) a8w P2.len fl
end
def rl(sd:Nat->Str)(n j:Nat):List D:=(List.range n).map fun i=>.int (((if i<=j then K7 sd i else 0):Nat):Int)
variable{a0:D}{a1:D}{a2:D}{a4:D}{a5:D}{e12:Option D}{e13:Option D}{e9:Option D}
noncomputable def cNm:D->Str
 |.tup (.str n::_)=>n
 |_=>""
theorem a3u{p:Nat}(h:p∈d0 mk cs):∃c,cs[p]? =some c:=by
 have:=aN.mp (bt.mp h).1
 exact⟨_,af this⟩
theorem b5l(C:Ch cs)(hs:ws.length=B9 cs)(hr:∀w∈ws,Lr w):∀i<(d0 mk cs).length,sdB mk cs ws i="left"∨sdB mk cs ws i="right":=fun i hi=>by
 unfold sdB;rw[bD,af hi]
 obtain⟨c,hc⟩:=a3u (bz hi);exact(a2O C hc hs hr).1
noncomputable def wOf(sh:List (Str×Nat))(n:Str):Int:=((sh.find? fun p=>decide (p.1=n)).map fun p=>(p.2:Int)).getD 0
theorem a5f{α:Type}(k:α->Str)(f:α->D)(n:Str):∀l:List α,n9 (kd (l.map fun x=>(k x,f x))) (.str n)=(l.find? fun x=>decide (k x=n)).map f
 |[]=>rfl
 |x::r=>by
  have ih:=a5f k f n r;unfold n9 kd at ih⊢;rw[map_cons,map_cons,List.find?_cons,List.find?_cons]
  by_cases e:k x=n
  · simp[e]
  · have e':¬(D.str (k x)=D.str n):=fun z=>e (by injection z)
    simp only[e,e',decide_false];exact ih
theorem a5h{k:α->Str}{n:Str}{l:List α}(h:n∈l.map k):∃x∈l,(l.find? fun x=>decide (k x=n))=some x/\k x=n:=by
 cases e:l.find? fun x=>decide (k x=n) with
 |none=>
  obtain⟨x,hx,rfl⟩:=ak.mp h
  have:=bC.mp e x hx
  simp at this
 |some x=>exact⟨x,List.mem_of_find?_eq_some e,rfl,by simpa using List.find?_some e⟩
theorem b6P(e:h[n]? =some (.dict (kd (sh.map fun p=>(p.1,.int (p.2:Int))))))(hx:x∈sh.map (·.1)):ixD h (.ref n) (.str x)=.ok (.int (wOf sh x)) h:=by
 have k:w8 (.str x) (kd (sh.map fun p=>(p.1,D.int (p.2:Int))))=true:=W4 _ _
 obtain⟨p,_,e1,_⟩:=a5h hx;have g:=a5f (fun p:Str×Nat=>p.1) (fun p=>D.int (p.2:Int)) x sh
 rw[e1] at g;simp only[ixD,e,k,if_true,g];unfold wOf;rw[e1];rfl
noncomputable def E2(a b:Int×Int):Int×Int:=(a.1+b.1,a.2+b.2)
noncomputable def a9h(a b:Int×Int):Int×Int:=(a.1-b.1,a.2-b.2)
noncomputable def E3(mr:List Mk)(n:Str):Mk:=(mr.find? fun m=>decide (m.n=n)).getD ⟨n,"above",(0,0),(0,0)⟩
variable{mr:List Mk}
theorem b9d(e:h[n]? =some (.dict (kd (hM mr))))(hx:x∈mr.map (·.n)):E3 mr x∈mr/\ixD h (.ref n) (.str x)=.ok (.tup [.str (E3 mr x).s,spD (E3 mr x).a,spD (E3 mr x).b]) h:=by
 have k:w8 (.str x) (kd (hM mr))=true:=W4 _ _
 obtain⟨p,hp,e1,_⟩:=a5h hx
 have g:n9 (kd (hM mr)) (.str x)=_:=a5f (fun m:Mk=>m.n) (fun m=>D.tup [.str m.s,spD m.a,spD m.b]) x mr
 rw[e1] at g;unfold E3;rw[e1];refine⟨hp,?_⟩
 simp only[ixD,e,k,if_true,g];rfl
noncomputable def J4(pt:List Pt)(n s:Str):Option (Int×Int):=(pt.find? fun p=>decide (ptK p=(n,s))).map (·.a)
theorem a7q(n s:Str):∀pt:List Pt,n9 (pd (hP pt)) (.tup [.str n,.str s])=(J4 pt n s).map spD
 |[]=>rfl
 | p ::r=>by
  have ih:=a7q n s r;unfold n9 pd hP J4 at ih⊢;rw[map_cons,map_cons,List.find?_cons,List.find?_cons]
  by_cases e:ptK p=(n,s)
  · have e':D.tup [.str (ptK p).1,.str (ptK p).2]=D.tup [.str n,.str s]:=by rw[e]
    simp only[e,e',decide_true];rfl
  · have e':¬(D.tup [.str (ptK p).1,.str (ptK p).2]=D.tup [.str n,.str s]):=fun z=>e (by
     injection z with z
     injection z with z1 z
     injection z with z2
     injection z1 with z1
     injection z2 with z2
     exact Prod.ext z1 z2)
    simp only[e,e',decide_false];exact ih
def Y9(pt:List Pt)(n:Str):List (Str×D):=([("above":Str),"below"].filter fun s=>(J4 pt n s).isSome).map fun s=>(s,spD ((J4 pt n s).getD (0,0)))
theorem b3A(pt:List Pt)(n:Str){s:Str}(hs:Y4 s):n9 (kd (Y9 pt n)) (.str s)=(J4 pt n s).map spD:=by
 have g:n9 (kd (Y9 pt n)) (.str s)=_:=a5f (fun s:Str=>s) (fun s=>spD ((J4 pt n s).getD (0,0))) s ([("above":Str),"below"].filter fun s=>(J4 pt n s).isSome)
 rw[g]
 cases e:J4 pt n s with
 | none=>
  rw[bC.mpr fun x hx=>by
   obtain⟨_,b⟩:=bt.mp hx;intro z;rw[aw z,e] at b;cases b]
  rfl
 |some a=>
  have:s∈[("above":Str),"below"].filter fun s=>(J4 pt n s).isSome:=bt.mpr ⟨by rcases hs with rfl|rfl<;>simp,by rw[e];rfl⟩
  obtain⟨x,_,e1,e2⟩:=a5h (k:=fun s:Str=>s) (n:=s) (l:=[("above":Str),"below"].filter fun s=>(J4 pt n s).isSome) (by simpa using this)
  rw[e1]
  replace e2:x=s:=e2
  rw[e2,Option.map_some,e];rfl
def D9(a b:Int×Int):List (D×D):=kd [("above",spD a),("below",spD b)]
theorem c0n{i j:Int}:op2 .sub h (.int i) (.int j)=.ok (.int (i-j)) h:=rfl
theorem sp0{p:Int×Int}:ixD h (spD p) (.int 0)=.ok (.int p.1) h:=ix_tup (i:=0) rfl
theorem sp1{p:Int×Int}:ixD h (spD p) (.int 1)=.ok (.int p.2) h:=ix_tup (i:=1) rfl
theorem a8G{l:List (Str×D)}(nd:(l.map (·.1)).Nodup):biD .dict (h++[.lst (l.map fun p=>D.tup [.str p.1,p.2])]) [.ref h.length]=.ok (.ref (h++[Cell.lst (l.map fun p=>D.tup [.str p.1,p.2])]).length) (h++[.lst (l.map fun p=>D.tup [.str p.1,p.2])]++[.dict (kd l)]):=by
 have pr:∀l:List (Str×D),a5X (l.map fun p=>D.tup [.str p.1,p.2])=some (kd l):=fun l=>by
  induction l with
  |nil=>rfl
  |cons p r ih=>rw[map_cons,a5X,ay (show(G2 (D.str p.1)).isSome=true from rfl),ih];rfl
 have put:∀r pre:List (Str×D),((pre++r).map (·.1)).Nodup->(kd r).foldl (fun a p=>Y8 a p.1 p.2) (kd pre)=kd (pre++r):=fun r=>by
  induction r with
  |nil=>intro pre _;rw[bj];rfl
  |cons p r ih=>
   intro pre h
   have hp:p.1∉pre.map (·.1):=J7 (f:=fun q:Str×D=>q.1) h rfl
   rw[show kd (p::r)=(.str p.1,p.2)::kd r from rfl,foldl_cons]
   show List.foldl _ (Y8 (kd pre) (.str p.1) p.2) (kd r)=_
   rw[a6Z hp,ih (pre++[(p.1,p.2)]) (by rw[aA];exact h),aA]
   rfl
 simp only[biD,b6,a2u,pr,o9];rw[show(kd l).foldl (fun a p=>Y8 a p.1 p.2) []=kd l from put l [] nd]
variable{ds:List D}
section
variable{F:Nat->Option Fn}
theorem b4K{a k x:E}:ev ct c (.dget a k x) env h=(ev ct c a env h).bind fun o h1=>if b1I h1 o=true then(ev ct c k env h1).bind fun y h2=>(ev ct c x env h2).bind fun z h3=>a6x h3 o y z else .no:=by(rw[ev];try rfl)
theorem a8B:evi ct c (.gsq ds) env h=.ok (ds,[]) h:=by(rw[evi];try rfl)
theorem a7Z{k:Nat}{a b:Int×Int}(hF:F 40=some a0X):b0 ct F (k+1) 40 [spD a,spD b] h=.ok (spD (E2 a b)) h:=by
 rw[l7 hF rfl];simp only[a0X];simp_arith[sp0,sp1,a9R];exact J9 rfl
theorem b1q{k:Nat}{a b:Int×Int}(hF:F 41=some a0C):b0 ct F (k+1) 41 [spD a,spD b] h=.ok (spD (a9h a b)) h:=by
 rw[l7 hF rfl];simp only[a0C];simp_arith[sp0,sp1,c0n];exact J9 rfl
theorem b5V{k:Nat}{H:HL}(hF:F 38=some J0)(A:HallAt h n (a1P H)):b0 ct F (k+1) 38 [.ref n,.str x] h=.ok (.ref h.length) (h++[.dict (kd (Y9 H.pt x))]):=by
 have c3:h[n+3]? =some (.dict (pd (hP H.pt))):=A.c3
 have kk:∀s,w8 (.tup [.str x,.str s]) (pd (hP H.pt))=true:=fun s=>a4X _ _ _
 rw[l7 hF rfl];simp only[J0]
 have cm:ev ct (b0 ct F k) (.comp (.nm 0) (.gsq [(.str "above"),(.str "below")]) 1 [0,1] (.cmp .isin (.tup (.cons (.v 2) (.cons (.v 0) .nil))) (.fld (.v 1) "points")) (.tup (.cons (.v 0) (.cons (.ix (.fld (.v 1) "points") (.tup (.cons (.v 2) (.cons (.v 0) .nil)))) .nil)))) [some (.ref n),some (.str x)] h=.ok (.ref h.length) (h++[.lst ((Y9 H.pt x).map fun p=>D.tup [.str p.1,p.2])]):=by
  rw [K1 (l:=[("above":Str),"below"].map .str) (g:=[]) (h1:=h) (by rw[a8B];rfl) rfl (fun d=>match d with
   |.str s=>(J4 H.pt x s).isSome
   |_=>false) (fun d=>match d with
   |.str s=>.tup [.str s,spD ((J4 H.pt x s).getD (0,0))]
   |_=>.non) (fun d=>[some d,some (.ref n),some (.str x)]) (fun d hd=>by
   obtain⟨s,_,rfl⟩:=ak.mp hd
   have i1:V9 false h (.tup [.str x,.str s]) (.ref (n+3))=.ok (.bl (J4 H.pt x s).isSome) h:=by
    simp only[V9,c3,kk,if_true,a7q,Option.isSome_map]
    cases (J4 H.pt x s).isSome<;>rfl
   refine⟨rfl,?_,fun hs=>?_⟩
   · simp_arith[A.fld3,op2,i1]
   · obtain⟨a,ha⟩:=Option.isSome_iff_exists.mp hs
     have i2:ixD h (.ref (n+3)) (.tup [.str x,.str s])=.ok (spD a) h:=by
      simp only[ixD,c3,kk,if_true,a7q,ha,Option.map_some]
     simp_arith[A.fld3,i2,ha]
     rfl) (show 2<=16777216 by decide)]
  congr 3;unfold Y9;rw[filter_map,aH,aH];rfl
 simp_arith[cm]
 rw[a8G (by
  unfold Y9;rw[a2i,List.map_id'];exact List.Sublist.nodup List.filter_sublist (by decide))]
 show gcR 2 h (.ok _ _)=_
 exact a1R (((Pf.refl h).app _).app _) b6 (by rw[ap];omega) (by
  show(kd (Y9 H.pt x)).all (fun p=>p.1.flat&&p.2.flat)=true
  unfold kd Y9;rw[aH];refine bv.mpr fun p hp=>?_
  obtain⟨s,_,rfl⟩:=ak.mp hp
  rfl)
theorem a8y{k d:Nat}{p:Int×Int}{l:List (Str×D)}{q:Str->Option (Int×Int)}(f40:F 40=some a0X)(hF:F 39=some O2)(hd:h[d]? =some (.dict (kd l)))(hq:∀s,Y4 s->n9 (kd l) (.str s)=(q s).map spD):b0 ct F (k+2) 39 [spD p,.ref d] h=.ok (.ref h.length) (h++[.dict (D9 (E2 p ((q "above").getD (0,0))) (E2 p ((q "below").getD (0,0))))]):=by
 have kk:∀s,w8 (.str s) (kd l)=true:=fun s=>W4 _ _
 have dc:b1I h (.ref d)=true:=by simp only[b1I,hd]
 rw[l7 hF rfl];simp only[O2];obtain⟨L0,hL⟩:∃L0:List (Str×D),L0=[("above":Str),"below"].map fun s=>(s,spD (E2 p ((q s).getD (0,0)))):=⟨_,rfl⟩
 have cm:ev ct (b0 ct F (k+1)) (.comp (.nm 0) (.gsq [(.str "above"),(.str "below")]) 1 [1,0] .yes (.tup (.cons (.v 0) (.cons (.call 40 (.cons (.v 2) (.cons (.dget (.v 1) (.v 0) (.tup (.cons (.k (.int (0))) (.cons (.k (.int (0))) .nil)))) .nil))) .nil)))) [some (spD p),some (.ref d)] h=.ok (.ref h.length) (h++[.lst (L0.map fun p=>D.tup [.str p.1,p.2])]):=by
  rw[hL,A9 (l:=[("above":Str),"below"].map .str) (g:=[]) (h1:=h) (by rw[a8B];rfl) rfl (fun d=>match d with
   |.str s=>.tup [.str s,spD (E2 p ((q s).getD (0,0)))]
   |_=>.non) (fun x=>[some x,some (.ref d),some (spD p)]) (fun x hx=>by
   obtain⟨s,hs,rfl⟩:=ak.mp hx
   have so:Y4 s:=by
    rcases aE.mp hs with rfl|hs
    · exact .inl rfl
    · rw[aO.mp hs];exact .inr rfl
   have g:a6x h (.ref d) (.str s) (.tup [.int 0,.int 0])=.ok (spD ((q s).getD (0,0))) h:=by
    have:(G2 (.str s)).isSome=true:=rfl
    simp only[a6x,hd,kk,this,Bool.and_self,if_true,hq s so]
    cases q s<;>rfl
   refine⟨rfl,?_⟩
   simp_arith[b4K,dc,g,a7Z f40]) (show 2<=16777216 by decide)]
  rfl
 simp_arith[cm];rw[a8G (by rw[hL,a2i,List.map_id'];decide)]
 show gcR 2 h (.ok _ _)=_
 rw[a1R (((Pf.refl h).app _).app _) b6 (by rw[ap];omega) (by rw[hL];rfl),hL]
 rfl
end
variable{P:List Nat}
theorem b5q(nd:P.Nodup)(hi:i<P.length)(hj:j<P.length)(e:P[i]=P[j]):i=j:=by
 rcases Nat.lt_trichotomy i j with h|h|h
 · exact absurd e (List.pairwise_iff_getElem.mp nd i j hi hj h)
 · exact h
 · exact absurd e.symm (List.pairwise_iff_getElem.mp nd j i hj hi h)
def plc(mk:List Str)(cs:List Ce)(ws:List Str)(way:Str):List Nat:=(z6 way (j9 (sdB mk cs ws) (d0 mk cs).length)).map fun i=>(d0 mk cs).getD i 0
theorem a2Q:U6 mk cs ws way=(plc mk cs ws way).map fun p:Nat=>D.int (p:Int):=by
 unfold U6 plc;rw[aH];rfl
theorem a0a:(plc mk cs ws way).Perm (d0 mk cs):=by
 have e:(List.range (d0 mk cs).length).map (fun i=>(d0 mk cs).getD i 0)=d0 mk cs:=ext_getElem? fun i=>by
  by_cases hi:i<(d0 mk cs).length
  · rw[aj,aJ hi,af hi,Option.map_some,bD,af hi]
    rfl
  · rw[aZ (by simp;omega),aZ (by omega)]
 have:=(G1 (sd:=sdB mk cs ws) (n:=(d0 mk cs).length) (way:=way)).map fun i=>(d0 mk cs).getD i 0
 rw[e] at this;exact this
theorem b0U:(plc mk cs ws way).Nodup:=a0a.nodup_iff.mpr (List.Sublist.nodup List.filter_sublist nodup_range)
theorem b0V{p:Nat}:p∈plc mk cs ws way↔p<cs.length/\isB mk cs p=true:=by
 rw[a0a.mem_iff];unfold d0 o4;rw[bt,aN]
noncomputable def cnA(cs:List Ce)(p:Nat):Str:=match cs[p]? with
 |some c=>c.n
 |none=>""
section
variable(sh:List (Str×Nat))(cs:List Ce)(P:List Nat)
def xsA(i:Nat):Int:=((P.take i).map fun p=>wOf sh (cnA cs p)).sum
def spL(j:Nat):List (D×D):=(List.range j).map fun i=>(D.int (P.getD i 0:Int),spD (xsA sh cs P i,0))
def T6(j:Nat):Option (Int×Int):=((List.range P.length).find? fun i=>decide (P.getD i 0=j)).map fun i=>(xsA sh cs P i,0)
theorem a9T(hi:i<P.length):xsA sh cs P (i+1)=xsA sh cs P i+wOf sh (cnA cs (P.getD i 0)):=by
 unfold xsA;rw[take_succ_eq_append_getElem hi,ao,bB,bD,af hi]
 simp
theorem a7p(j n:Nat):n9 (spL sh cs P n) (.int (j:Int))=((List.range n).find? fun i=>decide (P.getD i 0=j)).map fun i=>spD (xsA sh cs P i,0):=by
 unfold n9 spL;rw[List.find?_map,Option.map_map]
 congr 1;congr 1
 funext i
 show decide (D.int (P.getD i 0:Int)=D.int (j:Int))=decide (P.getD i 0=j)
 refine decide_eq_decide.mpr ⟨fun z=>by injection z with z;omega,fun z=>by rw[z]⟩
theorem a4B(j n:Nat):w8 (.int (j:Int)) (spL sh cs P n)=true:=by
 unfold w8 spL;rw[ae];refine⟨rfl,bv.mpr fun p hp=>?_⟩
 obtain⟨i,_,rfl⟩:=ak.mp hp;rfl
variable{P}in
theorem b3m(nd:P.Nodup)(hi:i<P.length):T6 sh cs P (P.getD i 0)=some (xsA sh cs P i,0):=by
 have gi:P.getD i 0=P[i]:=by rw[bD,af hi];rfl
 unfold T6
 cases e:(List.range P.length).find? fun k=>decide (P.getD k 0=P.getD i 0) with
 |none=>
  have:=bC.mp e i (aN.mpr hi)
  simp at this
 |some k=>
  have hk:=aN.mp (List.mem_of_find?_eq_some e)
  have e2:P.getD k 0=P.getD i 0:=by simpa using List.find?_some e
  have gk:P.getD k 0=P[k]:=by rw[bD,af hk];rfl
  rw[gi,gk] at e2;rw[b5q nd hk hi e2];rfl
theorem a8W:(T6 sh cs P j).isSome=decide (j∈P):=by
 unfold T6;rw[Option.isSome_map]
 by_cases h:j∈P
 · rw[bn h,List.find?_isSome]
   obtain⟨i,hi,e⟩:=List.getElem_of_mem h;exact⟨i,aN.mpr hi,bn (by rw[bD,af hi];exact e)⟩
 · rw[bF h]
   cases e:(List.range P.length).find? fun i=>decide (P.getD i 0=j) with
   |none=>rfl
   |some i=>
    have hi:=aN.mp (List.mem_of_find?_eq_some e)
    have e2:P.getD i 0=j:=by simpa using List.find?_some e
    rw[bD,af hi] at e2
    exact absurd (by rw[←e2];exact bz hi) h
variable(mr:List Mk)(pt:List Pt)
def V1(j:Nat)(f:(Int×Int)×(Int×Int)):(Int×Int)×((Int×Int)×(Int×Int)):=match T6 sh cs P j with
 |some s=>(s,(E2 s ((J4 pt (cnA cs j) "above").getD (0,0)),E2 s ((J4 pt (cnA cs j) "below").getD (0,0))))
 |none=>if(E3 mr (cnA cs j)).s="above" then(a9h f.1 (E3 mr (cnA cs j)).a,(E2 (a9h f.1 (E3 mr (cnA cs j)).a) (E3 mr (cnA cs j)).b,f.2)) else(a9h f.2 (E3 mr (cnA cs j)).a,(f.1,E2 (a9h f.2 (E3 mr (cnA cs j)).a) (E3 mr (cnA cs j)).b))
def W8:Nat->(Int×Int)×(Int×Int)
 |0=>(E2 (0,0) (0,0),E2 (0,0) (0,0))
 |j+1=>(V1 sh cs P mr pt j (W8 j)).2
def N2(j:Nat):Int×Int:=(V1 sh cs P mr pt j (W8 sh cs P mr pt j)).1
end
theorem b4B{a b:Int×Int}(e:h[n]? =some (.dict (D9 a b))):ixD h (.ref n) (.str "above")=.ok (spD a) h/\ixD h (.ref n) (.str "below")=.ok (spD b) h/\(∀v,O5 h (.ref n) (.str "above") (spD v)=.ok () (h.set n (.dict (D9 v b))))/\∀v,O5 h (.ref n) (.str "below") (spD v)=.ok () (h.set n (.dict (D9 a v))):=by
 have k1:∀s,w8 (.str s) (D9 a b)=true:=fun s=>W4 _ _
 refine⟨?_,?_,fun v=>?_,fun v=>?_⟩
 · simp only[ixD,e,k1,if_true];rfl
 · simp only[ixD,e,k1,if_true];rfl
 · simp only[O5,e,k1];rw[ay ⟨trivial,show 2<16777216 by decide⟩]
   rfl
 · simp only[O5,e,k1];rw[ay ⟨trivial,show 2<16777216 by decide⟩]
   rfl
section
variable{F:Nat->Option Fn}
theorem b0l{k o:Nat}{H:HL}(hF:F 37=some F7)(A:HallAt h n (a1P H))(hw:h[w]? =some (.lst (cs.map ceD)))(ho:h[o]? =some (.lst (P.map fun p:Nat=>D.int (p:Int))))(nd:P.Nodup)(hP:∀p∈P,p<cs.length)(hc:∀c∈cs,c.n∈H.sh.map (·.1))(hl:P.length<=1000):b0 ct F (k+1) 37 [.ref n,.ref w,.ref o] h=.ok (.ref h.length) (h++[.dict (spL H.sh cs P P.length)]):=by
 rw[l7 hF rfl];simp only[F7]
 show gcR 2 h (O6 (exs ct (b0 ct F k) _ [some (.ref n),some (.ref w),some (.ref o),none,none,none] h))=_
 rw[seq (env':=[some (.ref n),some (.ref w),some (.ref o),some (.ref h.length),none,none]) (h':=h++[.dict []]) (by simp_arith[o9])]
 rw[seq (env':=[some (.ref n),some (.ref w),some (.ref o),some (.ref h.length),some (.int 0),none]) (h':=h++[.dict []]) (by simp_arith[])]
 obtain⟨env',g',e1,e5,rfl,rfl⟩:=z3 (g:=[(o,.lst (P.map fun p:Nat=>D.int (p:Int)))]) (p:=.nm 5) (body:=exs ct (b0 ct F k) bsB) (fun j env hh=>∃e5,env=[some (.ref n),some (.ref w),some (.ref o),some (.ref h.length),some (.int (xsA H.sh cs P j)),e5]/\hh=h++[.dict (spL H.sh cs P j)]) (fun j env hh hP=>by
  obtain⟨_,_,rfl⟩:=hP;simp only[gOk,all_cons,all_nil,b5 ho]
  simp) (P.map fun p:Nat=>D.int (p:Int)) 0 [some (.ref n),some (.ref w),some (.ref o),some (.ref h.length),some (.int 0),none] (h++[.dict []]) (fun j x env hh hx hQ=>by
  obtain⟨e5,rfl,rfl⟩:=hQ;rw[aj] at hx
  obtain⟨p,hp,rfl⟩:=Option.map_eq_some_iff.mp hx;have hj:=(ac.mp hp).1
  have gp:P.getD j 0=p:=by rw[bD,hp];rfl
  have pm:=aG hp;have pl:=hP p pm;rw[aB];have A1:=A.app [.dict (spL H.sh cs P j)]
  have nn:cnA cs p=cs[p].n:=by unfold cnA;rw[af pl]
  have i1:ixD (h++[.dict (spL H.sh cs P (j+1))]) (.ref w) (.int (p:Int))=.ok (ceD cs[p]) (h++[.dict (spL H.sh cs P (j+1))]):=B6 (b5 hw) (by rw[aj,af pl];rfl)
  have A2:=A.app [.dict (spL H.sh cs P (j+1))]
  have i2:ixD (h++[.dict (spL H.sh cs P (j+1))]) (.ref (n+1)) (.str cs[p].n)=.ok (.int (wOf H.sh cs[p].n)) (h++[.dict (spL H.sh cs P (j+1))]):=b6P A2.c1 (hc _ (bz pl))
  have st:O5 (h++[.dict (spL H.sh cs P j)]) (.ref h.length) (.int (p:Int)) (.tup [.int (xsA H.sh cs P j),.int 0])=.ok () (h++[.dict (spL H.sh cs P (j+1))]):=by
   have nw:n9 (spL H.sh cs P j) (.int (p:Int))=none:=by
    rw[a7p,bC.mpr fun i hi=>?_]
    · rfl
    · have hi:=aN.mp hi;intro z
      have z:P.getD i 0=p:=aw z
      rw[bD,af (show i<P.length by omega)] at z
      have:=(ac.mp hp).2
      have:i=j:=b5q nd (by omega) hj (z.trans this.symm)
      omega
   have na:((spL H.sh cs P j).any fun q=>decide (q.1=.int (p:Int)))=false:=by
    unfold n9 at nw
    have:=bC.mp (Option.map_eq_none_iff.mp nw)
    exact List.any_eq_false.mpr this
   simp only[O5,b6];rw[ay ⟨a4B _ _ _ _ _,by show(spL H.sh cs P j).length<16777216;unfold spL;rw[aa,aI];omega⟩,a7J]
   unfold Y8;rw[na,az (by decide)]
   unfold spL;rw[bA,ao,map_cons,map_nil,gp];rfl
  refine⟨_,[some (.ref n),some (.ref w),some (.ref o),some (.ref h.length),some (.int (xsA H.sh cs P (j+1))),some (.int (p:Int))],_,rfl,?_,_,rfl,rfl⟩
  show exs ct (b0 ct F k) bsB [some (.ref n),some (.ref w),some (.ref o),some (.ref h.length),some (.int (xsA H.sh cs P j)),some (.int (p:Int))] _=_
  rw[a9T _ _ _ hj,gp,nn];unfold bsB;simp_arith[st,A2.fld1,i1,ce0,i2,a9R]) ⟨none,rfl,rfl⟩
 rw[aa,aB] at e1;rw[seq (env':=_) (h':=h++[.dict (spL H.sh cs P P.length)]) (by simp_arith[V5,b5 (g:=[.dict []]) ho,e1];rfl)]
 simp_arith[];refine gc2 b6 (ai _) ?_
 show(spL H.sh cs P P.length).all (fun p=>p.1.flat&&p.2.flat)=true
 unfold spL;refine bv.mpr fun p hp=>?_
 obtain⟨i,_,rfl⟩:=ak.mp hp;rfl
theorem b4j {k:Nat} {H:HL} (f33:F 33=some E7) (f34:F 34=some E8) (f35:F 35=some F6) (hF:F 36=some a3k) (f37:F 37=some F7) (f38:F 38=some J0) (f39:F 39=some O2) (f40:F 40=some a0X) (f41:F 41=some a0C) (K:HLok H) (A:HallAt h n (a1P H)) (C:Ch cs) (hw:h[w]? =some (.lst (cs.map ceD))) (hv:h[v]? =some (.lst (ws.map .str))) (hs:ws.length=B9 cs) (hr:∀w∈ws,Lr w) (hl:cs.length<=63) (hc:∀c∈cs,c.n∈H.sh.map (·.1)):
 b0 ct F (k+4) 36 [.ref n,.ref w,.ref v,.str way] h=.ok (.ref h.length) (h++[.lst ((List.range cs.length).map fun j=>spD (N2 H.sh cs (plc (H.mr.map (·.n)) cs ws way) H.mr H.pt j))]):=by
 have se:=a7L (ct:=ct) (k:=k) (way:=way) f33 f34 f35 A C hw hv hs hr hl;rw[a2Q] at se
 have pn:(plc (H.mr.map (·.n)) cs ws way).Nodup:=b0U
 have pi:∀p,p∈plc (H.mr.map (·.n)) cs ws way↔p<cs.length/\isB (H.mr.map (·.n)) cs p=true:=fun p=>b0V
 have pl:(plc (H.mr.map (·.n)) cs ws way).length<=63:=by
  rw[(a0a (mk:=H.mr.map (·.n)) (cs:=cs) (ws:=ws) (way:=way)).length_eq]
  have:=a0H (mk:=H.mr.map (·.n)) (cs:=cs)
  omega
 generalize plc (H.mr.map (·.n)) cs ws way=P at se pn pi pl
 have sp:=b0l (ct:=ct) (k:=k+2) f37 (A.app [.lst (P.map fun p:Nat=>D.int (p:Int))]) (b5 hw) (b6 (h:=h) (c:=.lst (P.map fun p:Nat=>D.int (p:Int)))) pn (fun p hp=>((pi p).mp hp).1) hc (by omega)
 have l1:(h++[Cell.lst (P.map fun p:Nat=>D.int (p:Int))]).length=h.length+1:=by simp
 rw[l1] at sp
 have aS:(h++[Cell.lst (P.map fun p:Nat=>D.int (p:Int))]++[Cell.dict (spL H.sh cs P P.length)])[h.length+1]? =some (.dict (spL H.sh cs P P.length)):=by rw[←l1];exact b6
 have P1:Pf h (h++[Cell.lst (P.map fun p:Nat=>D.int (p:Int))]++[Cell.dict (spL H.sh cs P P.length)]):=((Pf.refl h).app _).app _
 have l2:(h++[Cell.lst (P.map fun p:Nat=>D.int (p:Int))]++[Cell.dict (spL H.sh cs P P.length)]).length=h.length+2:=by simp
 generalize h++[Cell.lst (P.map fun p:Nat=>D.int (p:Int))]++[Cell.dict (spL H.sh cs P P.length)]=x1 at sp aS P1 l2
 have ft:=a8y (ct:=ct) (F:=F) (k:=k+1) (p:=(0,0)) (l:=[]) (q:=fun _=>none) (h:=x1++[.dict []]) f40 f39 (b6 (h:=x1) (c:=.dict [])) (fun s _=>rfl)
 have l3:(x1++[Cell.dict []]).length=h.length+3:=by rw[ap,l2];rfl
 rw[l3,l2] at ft;simp only[Option.getD_none] at ft
 have aF:(x1++[Cell.dict []]++[Cell.dict (D9 (E2 (0,0) (0,0)) (E2 (0,0) (0,0)))])[h.length+3]? =some (.dict (D9 (E2 (0,0) (0,0)) (E2 (0,0) (0,0)))):=by rw[←l3];exact b6
 replace aS:=b5 (g:=[Cell.dict (D9 (E2 (0,0) (0,0)) (E2 (0,0) (0,0)))]) (b5 (g:=[Cell.dict []]) aS)
 replace P1:=(P1.app [Cell.dict []]).app [Cell.dict (D9 (E2 (0,0) (0,0)) (E2 (0,0) (0,0)))]
 have l4:(x1++[Cell.dict []]++[Cell.dict (D9 (E2 (0,0) (0,0)) (E2 (0,0) (0,0)))]).length=h.length+4:=by rw[ap,l3];rfl
 generalize hx2:x1++[Cell.dict []]++[Cell.dict (D9 (E2 (0,0) (0,0)) (E2 (0,0) (0,0)))]=x2 at ft aF aS P1 l4;rw[l7 hF rfl];simp only[a3k]
 show gcR 2 h (O6 (exs ct (b0 ct F (k+3)) _ [some (.ref n),some (.ref w),some (.ref v),some (.str way),none,none,none,none,none,none,none] h))=_
 rw[seq (env':=[some (.ref n),some (.ref w),some (.ref v),some (.str way),some (.ref (h.length+1)),none,none,none,none,none,none]) (h':=x1) (by simp_arith[se,sp])]
 rw[seq (env':=[some (.ref n),some (.ref w),some (.ref v),some (.str way),some (.ref (h.length+1)),some (.ref (h.length+3)),none,none,none,none,none]) (h':=x2) (by simp_arith[o9,l2,show D.tup [.int 0,.int 0]=spD (0,0) from rfl,ft])]
 rw[seq (env':=[some (.ref n),some (.ref w),some (.ref v),some (.str way),some (.ref (h.length+1)),some (.ref (h.length+3)),some (.ref (h.length+4)),none,none,none,none]) (h':=x2++[.lst []]) (by simp_arith[o9,l4])]
 have aT:(x2++[Cell.lst []])[h.length+4]? =some (.lst []):=by rw[←l4];exact b6
 obtain ⟨env',g',e1,f,e7,e8,e9,e10,rfl,q1,q2,q3,q4,q5⟩:=z3 (g:=[(w,.lst (cs.map ceD))]) (p:=.tp (.cons (.nm 7) (.cons (.nm 8) .nil))) (body:=exs ct (b0 ct F (k+3)) laB) (fun j env hh=>∃(f:Nat) (e7 e8 e9 e10:Option D),env=[some (.ref n),some (.ref w),some (.ref v),some (.str way),some (.ref (h.length+1)),some (.ref f),some (.ref (h.length+4)),e7,e8,e9,e10]/\Pf h hh/\hh[h.length+1]? =some (.dict (spL H.sh cs P P.length))/\hh[h.length+4]? =some (.lst ((List.range j).map fun j=>spD (N2 H.sh cs P H.mr H.pt j)))/\hh[f]? =some (.dict (D9 (W8 H.sh cs P H.mr H.pt j).1 (W8 H.sh cs P H.mr H.pt j).2))/\(h.length<=f/\f≠h.length+1/\f≠h.length+4)) (fun j env hh hP=>by
  obtain⟨_,_,_,_,_,_,P,_⟩:=hP;simp only[gOk,all_cons,all_nil,P.at hw]
  simp) (y0 0 (cs.map ceD)) 0 [some (.ref n),some (.ref w),some (.ref v),some (.str way),some (.ref (h.length+1)),some (.ref (h.length+3)),some (.ref (h.length+4)),none,none,none,none] (x2++[.lst []]) (fun j x env hh hx hP=>by
  obtain⟨f,e7,e8,e9,e10,rfl,p1,p2,p3,p4,p5,p6,p7⟩:=hP;obtain⟨y,hy,rfl⟩:=Y0 hx;rw[aj] at hy
  obtain⟨c,hm,rfl⟩:=Option.map_eq_some_iff.mp hy;have hj:=(ac.mp hm).1
  rw[aB] at p3 p4⊢
  have nn:cnA cs j=c.n:=by unfold cnA;rw[hm]
  have hA:∀{x:AH},Pf h x->HallAt x n (a1P H):=fun{x} P=>by
   have:x=h++x.drop h.length:=by
    have:=take_append_drop h.length x
    rw[P.take] at this;exact this.symm
   rw[this];exact A.app _
  have t6:((List.range j).map fun j=>spD (N2 H.sh cs P H.mr H.pt j)).length<1000000:=by rw[aa,aI];omega
  have inS:op2 .isin hh (.int (j:Int)) (.ref (h.length+1))=.ok (.bl (T6 H.sh cs P j).isSome) hh:=by
   show V9 false hh (.int (j:Int)) (.ref (h.length+1))=_
   simp only[V9,p2,a4B,if_true,a7p];unfold T6;rw[Option.isSome_map,Option.isSome_map]
   cases ((List.range P.length).find? fun i=>decide (P.getD i 0=j)).isSome<;>rfl
  have rs:∀{s:Int×Int},N2 H.sh cs P H.mr H.pt j=s->((List.range j).map fun j=>spD (N2 H.sh cs P H.mr H.pt j))++[spD s]=(List.range (j+1)).map fun j=>spD (N2 H.sh cs P H.mr H.pt j):=fun e=>by
   rw[bA,ao,←e];rfl
  cases so:T6 H.sh cs P j with
  | some s=>
   have ta:N2 H.sh cs P H.mr H.pt j=s:=by unfold N2 V1;rw[so]
   have fa:W8 H.sh cs P H.mr H.pt (j+1)=(E2 s ((J4 H.pt c.n "above").getD (0,0)),E2 s ((J4 H.pt c.n "below").getD (0,0))):=by
    show(V1 H.sh cs P H.mr H.pt j _).2=_
    unfold V1;rw[so,nn]
   have ix:ixD hh (.ref (h.length+1)) (.int (j:Int))=.ok (spD s) hh:=by
    have g:=a7p H.sh cs P j P.length;unfold T6 at so
    cases e:(List.range P.length).find? fun i=>decide (P.getD i 0=j) with
    |none=>rw[e] at so;cases so
    |some i=>
     rw[e] at so g;simp only[ixD,p2,a4B,if_true,g];rw[←ax so];rfl
   have po:=b5V (ct:=ct) (F:=F) (k:=k+2) (x:=c.n) (h:=hh) f38 (hA p1);have fo:=a8y (ct:=ct) (F:=F) (k:=k+1) (p:=s) (q:=fun t=>J4 H.pt c.n t) (h:=hh++[.dict (kd (Y9 H.pt c.n))]) f40 f39 (b6 (h:=hh) (c:=.dict (kd (Y9 H.pt c.n)))) (fun t ht=>b3A H.pt c.n ht)
   have b3:=b5 (g:=[Cell.dict (D9 (E2 s ((J4 H.pt c.n "above").getD (0,0))) (E2 s ((J4 H.pt c.n "below").getD (0,0))))]) (b5 (g:=[Cell.dict (kd (Y9 H.pt c.n))]) p3);have b2:=b5 (g:=[Cell.dict (D9 (E2 s ((J4 H.pt c.n "above").getD (0,0))) (E2 s ((J4 H.pt c.n "below").getD (0,0))))]) (b5 (g:=[Cell.dict (kd (Y9 H.pt c.n))]) p2)
   have b4:(hh++[Cell.dict (kd (Y9 H.pt c.n))]++[Cell.dict (D9 (E2 s ((J4 H.pt c.n "above").getD (0,0))) (E2 s ((J4 H.pt c.n "below").getD (0,0))))])[(hh++[Cell.dict (kd (Y9 H.pt c.n))]).length]? =some (.dict (D9 (W8 H.sh cs P H.mr H.pt (j+1)).1 (W8 H.sh cs P H.mr H.pt (j+1)).2)):=by rw[fa];exact b6
   have Q:=(p1.app [Cell.dict (kd (Y9 H.pt c.n))]).app [Cell.dict (D9 (E2 s ((J4 H.pt c.n "above").getD (0,0))) (E2 s ((J4 H.pt c.n "below").getD (0,0))))]
   have ll:h.length+4<(hh++[Cell.dict (kd (Y9 H.pt c.n))]).length:=by
    have:=(ac.mp p3).1
    rw[ap];omega
   generalize hy:hh++[Cell.dict (kd (Y9 H.pt c.n))]++[Cell.dict (D9 (E2 s ((J4 H.pt c.n "above").getD (0,0))) (E2 s ((J4 H.pt c.n "below").getD (0,0))))]=y at fo b2 b3 b4 Q;generalize (hh++[Cell.dict (kd (Y9 H.pt c.n))]).length=fr at fo b4 ll;refine⟨_,[some (.ref n),some (.ref w),some (.ref v),some (.str way),some (.ref (h.length+1)),some (.ref fr),some (.ref (h.length+4)),some (.int (j:Int)),some (ceD c),some (spD s),e10],y.set (h.length+4) (.lst ((List.range (j+1)).map fun j=>spD (N2 H.sh cs P H.mr H.pt j))),rfl,?_,fr,_,_,_,_,rfl,Q.set (by omega),b7 (by omega) b2,u9 b3,b7 (by omega) b4,by omega,by omega,by omega⟩
   show exs ct (b0 ct F (k+3)) laB [some (.ref n),some (.ref w),some (.ref v),some (.str way),some (.ref (h.length+1)),some (.ref f),some (.ref (h.length+4)),some (.int (j:Int)),some (ceD c),e9,e10] hh=_
   rw[so] at inS;unfold laB laA;rw[seq (env':=[some (.ref n),some (.ref w),some (.ref v),some (.str way),some (.ref (h.length+1)),some (.ref fr),some (.ref (h.length+4)),some (.int (j:Int)),some (ceD c),some (spD s),e10]) (h':=y) (by simp_arith[inS,Option.isSome_some,ix,ce0,po,fo])]
   simp_arith[z7 b3,K3 b3 t6,rs ta]
  | none=>
   have nb:isB (H.mr.map (·.n)) cs j=false:=by
    have:=a8W H.sh cs P (j:=j)
    rw[so] at this
    have:j∉P:=of_decide_eq_false this.symm
    cases e:isB (H.mr.map (·.n)) cs j with
    |false=>rfl
    |true=>exact absurd ((pi j).mpr ⟨hj,e⟩) this
   have mn:c.n∈H.mr.map (·.n):=by
    unfold isB at nb;rw[hm] at nb
    simpa using nb
   have A1:=hA p1;obtain⟨mm,im⟩:=b9d A1.c2 mn;have sd:=(K.mko _ mm).1;obtain⟨fi1,fi2,fs1,fs2⟩:=b4B p4
   have m0:∀h,ixD h (.tup [.str (E3 H.mr c.n).s,spD (E3 H.mr c.n).a,spD (E3 H.mr c.n).b]) (.int 0)=.ok (.str (E3 H.mr c.n).s) h:=fun h=>ix_tup (i:=0) rfl
   have m1:∀h,ixD h (.tup [.str (E3 H.mr c.n).s,spD (E3 H.mr c.n).a,spD (E3 H.mr c.n).b]) (.int 1)=.ok (spD (E3 H.mr c.n).a) h:=fun h=>ix_tup (i:=1) rfl
   have m2:∀h,ixD h (.tup [.str (E3 H.mr c.n).s,spD (E3 H.mr c.n).a,spD (E3 H.mr c.n).b]) (.int 2)=.ok (spD (E3 H.mr c.n).b) h:=fun h=>ix_tup (i:=2) rfl
   obtain⟨s,a',b',ta,fa,fi,fs⟩:∃(s a' b':Int×Int),N2 H.sh cs P H.mr H.pt j=s/\W8 H.sh cs P H.mr H.pt (j+1)=(a',b')/\(∃g:Int×Int,ixD hh (.ref f) (.str (E3 H.mr c.n).s)=.ok (spD g) hh/\a9h g (E3 H.mr c.n).a=s)/\O5 hh (.ref f) (.str (E3 H.mr c.n).s) (spD (E2 s (E3 H.mr c.n).b))=.ok () (hh.set f (.dict (D9 a' b'))):=by
    have eL:V1 H.sh cs P H.mr H.pt j (W8 H.sh cs P H.mr H.pt j)=_:=rfl
    rcases sd with e|e
    · refine⟨_,_,_,?_,?_,⟨_,by rw[e];exact fi1,rfl⟩,by rw[e];exact fs1 _⟩
      · unfold N2 V1;rw[so,nn]
        simp only
        rw[ay e]
      · show(V1 H.sh cs P H.mr H.pt j _).2=_
        unfold V1;rw[so,nn]
        simp only
        rw[ay e]
    · have ne:¬(E3 H.mr c.n).s="above":=by rw[e];decide
      refine⟨_,_,_,?_,?_,⟨_,by rw[e];exact fi2,rfl⟩,by rw[e];exact fs2 _⟩
      · unfold N2 V1;rw[so,nn]
        simp only
        rw[az ne]
      · show(V1 H.sh cs P H.mr H.pt j _).2=_
        unfold V1;rw[so,nn]
        simp only
        rw[az ne]
   obtain⟨g,fi,es⟩:=fi;have mi:=b1q (ct:=ct) (F:=F) (k:=k+2) (a:=g) (b:=(E3 H.mr c.n).a) (h:=hh) f41;rw[es] at mi;have b4:=u9 (c':=.dict (D9 a' b')) p4;have b3:=b7 (c':=.dict (D9 a' b')) p7 p3;have b2:=b7 (c':=.dict (D9 a' b')) p6 p2;have Q:=p1.set (c:=.dict (D9 a' b')) p5;generalize hh.set f (.dict (D9 a' b'))=y at fs b2 b3 b4 Q;refine⟨_,[some (.ref n),some (.ref w),some (.ref v),some (.str way),some (.ref (h.length+1)),some (.ref f),some (.ref (h.length+4)),some (.int (j:Int)),some (ceD c),some (spD s),some (.tup [.str (E3 H.mr c.n).s,spD (E3 H.mr c.n).a,spD (E3 H.mr c.n).b])],y.set (h.length+4) (.lst ((List.range (j+1)).map fun j=>spD (N2 H.sh cs P H.mr H.pt j))),rfl,?_,f,_,_,_,_,rfl,Q.set (by omega),b7 (by omega) b2,u9 b3,by rw[fa];exact b7 (Ne.symm p7) b4,p5,p6,p7⟩
   show exs ct (b0 ct F (k+3)) laB [some (.ref n),some (.ref w),some (.ref v),some (.str way),some (.ref (h.length+1)),some (.ref f),some (.ref (h.length+4)),some (.int (j:Int)),some (ceD c),e9,e10] hh=_
   rw[so] at inS;unfold laB laM;rw[seq (env':=[some (.ref n),some (.ref w),some (.ref v),some (.str way),some (.ref (h.length+1)),some (.ref f),some (.ref (h.length+4)),some (.int (j:Int)),some (ceD c),some (spD s),some (.tup [.str (E3 H.mr c.n).s,spD (E3 H.mr c.n).a,spD (E3 H.mr c.n).b])]) (h':=y) (by simp_arith[inS,Option.isSome_none,A1.fld2,ce0,im,m0,fi,m1,mi,m2,a7Z f40,fs])]
   simp_arith[z7 b3,K3 b3 t6,rs ta]) ⟨h.length+3,none,none,none,none,rfl,P1.app _,b5 aS,aT,b5 aF,by omega,by omega,by omega⟩
 rw[P9,aa,aB] at q3;rw[seq (env':=_) (h':=g') (by simp_arith[Y7,(P1.app [Cell.lst []]).at hw,e1];rfl)]
 simp_arith[]
 exact a1R q1 q3 (by omega) (D3 fun d hd=>by
  obtain⟨i,_,rfl⟩:=ak.mp hd
  rfl)
end
open PySem L2
def LR(w:Str):Prop:=w="left"∨w="right"
noncomputable def flp(w:Str):Str:=if w="left" then "right" else "left"
theorem a7s(w:Str):LR (flp w):=by
 unfold flp
 split
 · exact .inr rfl
 · exact .inl rfl
theorem b4A(ha:LR a)(hb:LR b)(h:flp a=flp b):a=b:=by
 rcases ha with rfl|rfl<;>rcases hb with rfl|rfl<;>first|rfl|(exact absurd h (by decide))
theorem b9A(ha:LR a):(flp a="left")=(a="right"):=by
 rcases ha with rfl|rfl
 · exact propext ⟨fun h=>absurd h (by decide),fun h=>absurd h (by decide)⟩
 · exact propext ⟨fun _=>rfl,fun _=>by decide⟩
theorem b9z(ha:LR a):(flp a="right")=(a="left"):=by
 rcases ha with rfl|rfl
 · exact propext ⟨fun _=>rfl,fun _=>by decide⟩
 · exact propext ⟨fun h=>absurd h (by decide),fun h=>absurd h (by decide)⟩
section
variable{sd':Nat->Str}
theorem a2S(h:∀i<n,sd' i=flp (sd i))(hs:∀i<n,LR (sd i)):∀i<n,K7 sd' i=K7 sd i
 |0,_=>rfl
 |i+1,hi=>by
  show K7 sd' i+(if sd' (i+1)≠sd' i then 1 else 0)=K7 sd i+(if sd (i+1)≠sd i then 1 else 0)
  rw[a2S h hs i (by omega),h (i+1) hi,h i (by omega)]
  congr 1
  by_cases e:sd (i+1)=sd i
  · rw[az (fun z=>z (by rw[e])),az (fun z=>z e)]
  · rw[ay (fun z=>e (b4A (hs _ hi) (hs _ (by omega)) z)),ay e]
theorem b0s(hi:i<n)(hj:j<n)(h:K7 sd i=K7 sd j):sd i=sd j:=by
 have R:=(Q5 sd n).1
 have get:∀k<n,∃(t:Nat) (r:Rn),(j9 sd n)[t]? =some r/\k∈r.2:=fun k hk=>by
  have:k∈((j9 sd n).map (·.2)).flatten:=by rw[R.fl];exact aN.mpr hk
  obtain⟨l,hl,hkl⟩:=mem_flatten.mp this;obtain⟨r,hr,rfl⟩:=ak.mp hl;obtain⟨t,ht⟩:=bm hr
  exact⟨t,r,ht,hkl⟩
 obtain⟨t,r,h1,h2⟩:=get i hi;obtain⟨u,s,h3,h4⟩:=get j hj;obtain⟨a1,a2⟩:=R.at' t r h1 i h2;obtain⟨b1,b2⟩:=R.at' u s h3 j h4
 have e:t=u:=by rw[←a1,←b1];exact h
 rw[e,h3] at h1;cases h1;rw[a2,b2]
theorem b3Q(hi:i<n)(hj:j<n):V8 sd way i j=V8 sd way j i:=by
 unfold V8
 by_cases e:K7 sd i=K7 sd j
 · rw[ay e,ay e.symm,b0s hi hj e]
 · rw[az e,az (fun z=>e z.symm)]
theorem b1j(hs:∀i<n,LR (sd i))(hw:LR way)(h:∀i<n,sd' i=flp (sd i)):z6 (flp way) (j9 sd' n)=(z6 way (j9 sd n)).reverse:=by
 refine List.Perm.eq_of_pairwise (le:=fun i j=>bef sd' (flp way) i j=true) (fun a b ha hb h1 h2=>by rw[b2H (a1K ha) (a1K (mem_reverse.mp hb)) h1] at h2;cases h2) (a7b (fun i hi=>by rw[h i hi];exact a7s _) (a7s way)) ?_ (G1.trans (G1.symm.trans (reverse_perm _).symm))
 rw[pairwise_reverse];refine(a7b (fun i hi=>hs i hi) hw).imp_of_mem fun{a b} ha hb hab=>?_
 have al:=a1K ha;have bl:=a1K hb
 have ow:V8 sd' (flp way) b a=flp (V8 sd way a b):=by
  rw[←b3Q (sd:=sd) bl al];unfold V8;rw[a2S h hs b bl,a2S h hs a al]
  split
  · exact h a al
  · rfl
 have lo:LR (V8 sd way a b):=by
  unfold V8
  split
  · exact hs b bl
  · exact hw
 unfold bef at hab⊢;rw[ow];simp only[bw,ae,bE,b9A lo,b9z lo] at hab⊢
 rcases hab with⟨x,y⟩|⟨x,y⟩
 · exact .inr ⟨x,y⟩
 · exact .inl ⟨x,y⟩
theorem a9m(hw:LR way)(h:∀i<n,sd i=way):z6 way (j9 sd n)=if way="right" then(List.range n).reverse else List.range n:=by
 have ow:∀a b,b<n->V8 sd way a b=way:=fun a b hb=>by
  unfold V8
  split
  · exact h b hb
  · rfl
 have pw:=a7b (sd:=sd) (n:=n) (fun i hi=>by rw[h i hi];exact hw) hw
 rcases hw with rfl|rfl
 · rw[az (by decide)]
   refine List.Perm.eq_of_pairwise (le:=(· < ·)) (fun a b _ _ h1 h2=>absurd h1 (by omega)) (pw.imp_of_mem fun{a b} ha hb hab=>?_) List.pairwise_lt_range G1
   unfold bef at hab;rw[ow a b (a1K hb)] at hab;simp only[bw,ae,bE] at hab
   rcases hab with⟨x,_⟩|⟨_,y⟩
   · exact x
   · exact absurd y (by decide)
 · rw[ay rfl];refine List.Perm.eq_of_pairwise (le:=fun a b=>b<a) (fun a b _ _ h1 h2=>absurd h1 (by omega)) (pw.imp_of_mem fun{a b} ha hb hab=>?_) (pairwise_reverse.mpr List.pairwise_lt_range) (G1.trans (reverse_perm _).symm)
   unfold bef at hab;rw[ow a b (a1K hb)] at hab;simp only[bw,ae,bE] at hab
   rcases hab with⟨_,y⟩|⟨x,_⟩
   · exact absurd y (by decide)
   · exact x
end
def adj:List Rn->Prop
 |[]=>True
 |a::l=>(∀b,l.head? =some b->a.1≠b.1)/\adj l
theorem a2R(sd:Nat->Str):∀n,(∀r∈Q6 sd n,r.2≠[])/\adj (Q6 sd n)
 |0=>⟨nofun,trivial⟩
 | n + 1=>by
  obtain⟨h1,h2⟩:=a2R sd n
  show(∀r∈a3L sd (Q6 sd n) n,r.2≠[])/\adj (a3L sd (Q6 sd n) n)
  cases e:Q6 sd n with
  |nil=>exact⟨fun r hr=>by obtain rfl:=aO.mp hr;simp,nofun,trivial⟩
  |cons r t=>
   rw[e] at h1 h2;unfold a3L
   simp only
   by_cases w:r.1=sd n
   · rw[ay w];refine⟨fun s hs=>?_,h2.1,h2.2⟩
     rcases aE.mp hs with rfl|hs
     · simp
     · exact h1 s (by simp[hs])
   · rw[az w];refine⟨fun s hs=>?_,fun b hb=>?_,h2⟩
     · rcases aE.mp hs with rfl|hs
       · simp
       · exact h1 s hs
     · cases hb;exact fun z=>w z.symm
theorem a6K:∀{l:List Rn} {a b:Rn},adj (l++[a])->a.1≠b.1->adj (l++[a]++[b])
 |[],a,b,_,h=>⟨fun c hc=>by cases hc;exact h,nofun,trivial⟩
 |x::l,a,b,h,hb=>by
  refine⟨fun c hc=>h.1 c ?_,a6K h.2 hb⟩
  cases l with
  |nil=>exact hc
  |cons y l=>exact hc
theorem a8M:∀{l:List Rn},adj l->adj l.reverse
 |[],_=>trivial
 |[a],_=>⟨nofun,trivial⟩
 |a::b::l,h=>by
  have:=a8M h.2
  rw[reverse_cons] at this;rw[reverse_cons,reverse_cons];exact a6K this fun z=>h.1 b rfl z.symm
inductive RS(sd:Nat->Str)(n:Nat):Nat->List Rn->Prop
 |nil:RS sd n n []
 |cons {p k:Nat} {w:Str} {rs:List Rn}:0<k->p+k<=n->(∀i,p<=i->i<p+k->sd i=w)->(p+k<n->sd (p+k)≠w)->RS sd n (p+k) rs->RS sd n p ((w,List.range' p k)::rs)
theorem b5n{sd:Nat->Str}{n:Nat}:∀(rs:List Rn) (p:Nat),p<=n->(rs.map (·.2)).flatten=List.range' p (n-p)->(∀r∈rs,r.2≠[]/\∀i∈r.2,sd i=r.1)->adj rs->RS sd n p rs
 |[],p,hp,fl,_,_=>by
  have:=congrArg List.length fl
  simp at this
  obtain rfl:p=n:=by omega
  exact .nil
 | r ::rs,p,hp,fl,h,ha=>by
  rw[map_cons,flatten_cons] at fl;obtain⟨k,hk,e1,e2⟩:=List.range'_eq_append_iff.mp fl.symm;obtain⟨h1,h2⟩:=h r (by simp)
  obtain⟨w,l⟩:=r
  simp only at e1 h1 h2
  subst e1
  have k0:0<k:=by
   rcases Nat.eq_zero_or_pos k with z|z
   · rw[z] at h1;exact absurd rfl h1
   · exact z
  rw[Nat.mul_one] at e2;refine .cons k0 (by omega) (fun i a b=>h2 i (List.mem_range'_1.mpr ⟨a,b⟩)) (fun hlt=>?_) (b5n rs (p+k) (by omega) (by rw[e2];congr 1;omega) (fun s hs=>h s (by simp[hs])) ha.2)
  cases rs with
  |nil=>
   have:=congrArg List.length e2
   simp at this
   omega
  | cons s rs=>
   obtain⟨s1,s2⟩:=h s (by simp)
   have hd:p+k∈s.2:=by
    cases q:s.2 with
    |nil=>exact absurd q s1
    |cons x l=>
     rw[map_cons,flatten_cons,q,show n-p-k=(n-p-k-1)+1 by omega,List.range'_succ] at e2
     have:=(List.cons.inj e2).1
     rw[this];simp
   rw[s2 _ hd];exact fun z=>ha.1 s rfl z.symm
theorem b3u(sd:Nat->Str)(n:Nat):RS sd n 0 (j9 sd n):=by
 have R:=(Q5 sd n).1;obtain⟨m1,m2⟩:=a2R sd n;refine b5n _ 0 (Nat.zero_le _) (by rw[R.fl,List.range_eq_range'];rfl) (fun r hr=>⟨m1 r (mem_reverse.mp hr),fun i hi=>?_⟩) (a8M m2)
 obtain⟨t,ht⟩:=bm hr
 exact(R.at' t r ht i hi).2
noncomputable def Q3(way:Str)(r:Rn):List Nat:=if r.1=way then r.2 else r.2.reverse
theorem b5O(hw:LR way):∀{rs:List Rn},(∀r∈rs,LR r.1)->(if way="right" then(z6 way rs).reverse else z6 way rs)=(rs.map (Q3 way)).flatten:=by
 intro rs hr;unfold z6
 rcases hw with rfl|rfl
 · rw[az (by decide),az (by decide)]
   congr 1;refine bf fun r h=>?_
   unfold a1o Q3
   rcases hr r h with e|e<;>rw[e]
   · rw[az (by decide),ay rfl]
   · rw[ay rfl,az (by decide)]
 · rw[ay rfl,ay rfl,map_reverse,List.reverse_flatten,map_reverse,reverse_reverse,aH];congr 1;refine bf fun r h=>?_
   show(a1o r).reverse=_
   unfold a1o Q3
   rcases hr r h with e|e<;>rw[e]
   · rw[az (by decide),az (by decide)]
   · rw[ay rfl,ay rfl,reverse_reverse]
theorem b8D{p:Nat}(h:RS sd n p rs)(hs:∀i<n,LR (sd i)):∀r∈rs,LR r.1:=by
 induction h with
 |nil=>exact nofun
 | @cons p k w rs k0 kn hw _ _ ih=>
  intro r hr
  rcases aE.mp hr with rfl|hr
  · show LR w
    rw[←hw p (ai _) (by omega)]
    exact hs p (by omega)
  · exact ih r hr
theorem a7Q{p:Nat}(h:RS sd n p rs):(rs.map (·.2)).flatten=List.range' p (n-p)/\p<=n:=by
 induction h with
 |nil=>exact⟨by simp,ai _⟩
 | @cons p k w rs k0 kn _ _ _ ih=>
  refine⟨?_,by omega⟩
  rw[map_cons,flatten_cons,ih.1,List.range'_append_1,show k+(n-(p+k))=n-p by omega]
theorem a3i:∀l:List Int,a1u (l.map D.int)=some l
 |[]=>rfl
 |i::r=>by rw[map_cons,a1u,a3i r];rfl
theorem a4g:∀l:List Int,a9H (l.map D.int) (l.map D.int)=true
 |[]=>rfl
 |i::r=>by rw[map_cons,a9H,a4g r];simp[eqF]
theorem a8x:∀l:List Int,(l.map D.int).all B7=true
 |[]=>rfl
 |_::r=>a8x r
theorem b0H(e:h[n]? =some (.lst l)):rdL h n=some l:=by unfold rdL;rw[e]
theorem a5o{l:List Int}(h1:h[i]? =some (.lst (l.map .int)))(h2:h[j]? =some (.lst (l.map .int))):op2 .eq h (.ref i) (.ref j)=.ok (.bl true) h/\op2 .ne h (.ref i) (.ref j)=.ok (.bl false) h:=by
 have e1:a9G h (.ref i) (.ref j)=some true:=by
  simp only[a9G,b0H h1,b0H h2,a8x,Bool.and_self,if_true,a4g]
 refine⟨?_,?_⟩
 · show K4 h (.ref i) (.ref j)=_
   unfold K4;rw[show eqS (.ref i) (.ref j)=none from rfl];simp only[e1];rfl
 · show a1p h (.ref i) (.ref j)=_
   unfold a1p;rw[show eqS (.ref i) (.ref j)=none from rfl];simp only[e1];rfl
theorem a3N{l:List Int}(e:h[n]? =some (.lst (l.map .int)))(hl:l.length<64):biD .sorted h [.ref n]=.ok (.ref h.length) (h++[.lst ((srt l).map .int)]):=by
 simp only[biD,e,b0H e,a3i];rw[ay hl];rfl
def bI(mk:List Str)(cs:List Ce)(l:List Nat):List Int:=l.map fun i=>(((d0 mk cs).getD i 0:Nat):Int)
theorem b2L(mk:List Str)(cs:List Ce):bI mk cs (List.range (d0 mk cs).length)=(d0 mk cs).map fun p:Nat=>(p:Int):=by
 unfold bI;refine ext_getElem? fun i=>?_
 by_cases hi:i<(d0 mk cs).length
 · rw[aj,aJ hi,aj,af hi,Option.map_some,Option.map_some,bD,af hi]
   rfl
 · rw[aZ (by simp;omega),aZ (by simp;omega)]
theorem b2I(mk:List Str)(cs:List Ce):((d0 mk cs).map fun p:Nat=>(p:Int)).Pairwise (· <= ·):=by
 rw[List.pairwise_map];refine(List.Pairwise.filter _ (List.pairwise_lt_range (n:=cs.length))).imp fun{a b} h=>?_
 exact Int.ofNat_le.mpr (aU h)
theorem a5N{l:List Nat}(p:l.Perm (List.range (d0 mk cs).length)):srt (bI mk cs l)=bI mk cs (List.range (d0 mk cs).length):=by
 refine(b0k ?_ ?_).symm
 · exact(p.map _).symm
 · rw[b2L];exact b2I mk cs
theorem a7M:U6 mk cs ws way=(bI mk cs (z6 way (j9 (sdB mk cs ws) (d0 mk cs).length))).map .int:=by
 unfold U6 bI;rw[aH];rfl
variable{hc:Nat}{rc:Nat}{Rw:List Nat}
section
variable{F:Nat->Option Fn}
theorem b8g{t:T}{b:Ss}:ex ct c (.whl t b) env h=a2D (tst ct c t) (exs ct c b) a4v env h:=by(rw[ex];try rfl)
theorem b2n(e:env[i]? =some (some (.ref n)))(hn:h[n]? =some (.lst l)):ev ct c (.rvs (.v i)) env h=.ok .non (h.set n (.lst l.reverse)):=by
 rw[ev,b7l,e];simp only[b8,hn]
theorem a8S{k:Nat}(hF:F 220=some G4)(hv:h[v]? =some (.lst (ws.map .str)))(hl:ws.length<=1000):b0 ct F (k+1) 220 [.ref v] h=.ok (.ref h.length) (h++[.lst ((ws.map flp).map .str)]):=by
 obtain⟨t,et⟩:=a3o (ct:=ct) (c:=b0 ct F k) (p:=.nm 0) (a:=.v 0) (e:=(.ix (.lst (.cons (.k (.str "left")) (.cons (.k (.str "right")) .nil))) (.bi .int (.cons (.bin .eq (.v 0) (.k (.str "left"))) .nil)))) (nb:=1) (fr:=[]) (env:=[some (.ref v)]) (h:=h) (l:=ws) D.str flp (fun x=>[some (.str x)]) (by simp_arith[]) hv hl (fun x hx=>⟨rfl,fun g=>⟨[.lst [.str "left",.str "right"]],by
  have e:op2 .eq (g++[Cell.lst [.str "left",.str "right"]]) (.str x) (.str "left")=.ok (.bl (decide (x="left"))) (g++[.lst [.str "left",.str "right"]]):=rfl
  have gn:(g++[Cell.lst [.str "left",.str "right"]])[g.length]? =some (.lst [.str "left",.str "right"]):=b6
  by_cases w:x="left"
  · have i1:biD .int (g++[Cell.lst [.str "left",.str "right"]]) [.bl true]=.ok (.int 1) (g++[.lst [.str "left",.str "right"]]):=rfl
    simp_arith[o9,e,bn w,i1,v7 1 1 rfl gn rfl];unfold flp;rw[ay w]
  · have i1:biD .int (g++[Cell.lst [.str "left",.str "right"]]) [.bl false]=.ok (.int 0) (g++[.lst [.str "left",.str "right"]]):=rfl
    simp_arith[o9,e,bF w,i1,v7 0 0 rfl gn rfl];unfold flp;rw[az w]⟩⟩)
 rw[l7 hF rfl];simp only[G4]
 show gcR 2 h (O6 (exs ct (b0 ct F k) _ [some (.ref v)] h))=_
 simp_arith[et];exact a1R (((Pf.refl h).app t).app _) b6 (by rw[ap];omega) (I0 _)
def bkI:T:=(.an (.cmp .lt (.v 9) (.bi .len (.cons (.v 6) .nil))) (.cmp .eq (.ix (.v 1) (.ix (.v 4) (.ix (.v 5) (.v 9)))) (.v 10)))
def bkJ:Ss:=(.cons (.set 9 (.bin .add (.v 9) (.k (.int (1))))) .nil)
noncomputable def bkF:E:=(.ix (.v 1) (.ix (.v 4) (.ix (.v 5) (.v 8))))
def bkT:T:=(.cmp .lt (.v 8) (.bi .len (.cons (.v 6) .nil)))
def bkB:Ss:=(.cons (.set 9 (.v 8)) (.cons (.set 10 bkF) (.cons (.whl bkI bkJ) (.cons (.set 11 (.sl (.v 6) (.at (.v 8)) (.at (.v 9)))) (.cons (.iff (.cmp .ne (.v 10) (.v 2)) (.cons (.ex (.rvs (.v 11))) .nil) .nil) (.cons (.set 7 (.bin .add (.v 7) (.v 11))) (.cons (.set 8 (.v 9)) .nil)))))))
theorem c0d:M0=⟨4,12,1,(.cons (.set 4 (.call 219 (.cons (.v 0) .nil))) (.cons (.set 5 (.bi .sorted (.cons (.v 3) .nil))) (.cons (.set 6 (.bi .list (.cons (.v 3) .nil))) (.cons (.iff (.cmp .eq (.v 2) (.k (.str "right"))) (.cons (.ex (.rvs (.v 6))) .nil) .nil) (.cons (.set 7 (.lst .nil)) (.cons (.set 8 (.k (.int (0)))) (.cons (.whl bkT bkB) (.cons (.ret (.bin .eq (.v 7) (.v 5))) .nil))))))))⟩:=rfl
structure BkAt(mk:List Str)(cs:List Ce)(ws:List Str)(z:AH)(v hc sc rc:Nat)(Rw:List Nat):Prop where
 row:z[rc]? =some (.lst ((bI mk cs Rw).map .int))
 side:∀i,i<(d0 mk cs).length->∃a b,ixD z (.ref sc) (.int (i:Int))=.ok a z/\ixD z (.ref hc) a=.ok b z/\ixD z (.ref v) b=.ok (.str (sdB mk cs ws i)) z
theorem Pf.ixl(p:Pf h0 h){a:D}(e:ixD h0 (.ref n) a=.ok d h0):ixD h (.ref n) a=.ok d h:=by
 cases c:h0[n]? with
 |none=>simp only[ixD,c] at e;cases e
 | some cc=>
  have c':=p.at c
  cases cc with
  | lst xs=>
   simp only[ixD,c] at e;simp only[ixD,c']
   cases a with
   |int i=>
    simp only at e⊢
    cases q:atI xs i with
    |none=>rw[q] at e;cases e
    |some dd=>rw[q] at e;cases e;rfl
   |_=>cases e
  | rol xs=>
   simp only[ixD,c] at e;simp only[ixD,c']
   cases a with
   |int i=>
    simp only at e⊢
    cases q:atI xs i with
    |none=>rw[q] at e;cases e
    |some dd=>rw[q] at e;cases e;rfl
   |_=>cases e
  |dict kvs=>
   simp only[ixD,c] at e;simp only[ixD,c']
   split at e
   · rename_i hk;rw[ay hk]
     cases q:n9 kvs a with
     |none=>rw[q] at e;cases e
     |some dd=>rw[q] at e;cases e;rfl
   · cases e
  |_=>simp only[ixD,c] at e;cases e
theorem BkAt.mono{z z':AH}{sc:Nat}(A:BkAt mk cs ws z v hc sc rc Rw)(p:Pf z z'):BkAt mk cs ws z' v hc sc rc Rw:=
 ⟨p.at A.row,fun i hi=>by
  obtain⟨a,b,e1,e2,e3⟩:=A.side i hi;exact⟨a,b,p.ixl e1,p.ixl e2,p.ixl e3⟩⟩
theorem a6I{c:CF}{mk:List Str}{cs:List Ce}{ws:List Str}{z:AH}{v hc sc rc p k:Nat}{Rw:List Nat}{w:Str}{e0 e2 e3 e7 e8 e11:Option D}(A:BkAt mk cs ws z v hc sc rc Rw)(hR:Rw.length=(d0 mk cs).length)(kn:p+k<=(d0 mk cs).length)(hw:∀i,p<=i->i<p+k->sdB mk cs ws i=w)(hx:p+k<(d0 mk cs).length->sdB mk cs ws (p+k)≠w):
 ∀(m j fuel:Nat),j+m=p+k->p<=j->m<fuel->a2D (tst ct c bkI) (exs ct c bkJ) fuel [e0,some (.ref v),e2,e3,some (.ref hc),some (.ref sc),some (.ref rc),e7,e8,some (.int (j:Int)),some (.str w),e11] z=.ok (.nx [e0,some (.ref v),e2,e3,some (.ref hc),some (.ref sc),some (.ref rc),e7,e8,some (.int ((p+k:Nat):Int)),some (.str w),e11]) z
 |_,_,0,_,_,h=>absurd h (by omega)
 | m, j,fuel+1,hj,pj,hf=>by
  have ln:biD .len z [.ref rc]=.ok (.int ((d0 mk cs).length:Int)) z:=by
   rw[z9 A.row,aa];unfold bI;rw[aa,hR]
  have lt:∀{a b:Int},op2 .lt z (.int a) (.int b)=.ok (.bl (decide (a<b))) z:=fun{a b}=>rfl
  rw[a2D]
  by_cases jn:j<(d0 mk cs).length
  · obtain⟨a,b,e1,e2',e3'⟩:=A.side j jn
    have es:op2 .eq z (.str (sdB mk cs ws j)) (.str w)=.ok (.bl (decide (sdB mk cs ws j=w))) z:=rfl
    have tt:tst ct c bkI [e0,some (.ref v),e2,e3,some (.ref hc),some (.ref sc),some (.ref rc),e7,e8,some (.int (j:Int)),some (.str w),e11] z=.ok (decide (sdB mk cs ws j=w)) z:=by
     unfold bkI;simp_arith[ln,lt,bn (show(j:Int)<((d0 mk cs).length:Int) by omega),e1,e2',e3',es]
    rw[tt,b8]
    cases m with
    |zero=>
     obtain rfl:j=p+k:=by omega
     rw[bF (hx jn),az (by decide)]
    | succ m=>
     rw[bn (hw j pj (by omega)),ay rfl]
     have ad:op2 .add z (.int (j:Int)) (.int 1)=.ok (.int ((j+1:Nat):Int)) z:=rfl
     have st:exs ct c bkJ [e0,some (.ref v),e2,e3,some (.ref hc),some (.ref sc),some (.ref rc),e7,e8,some (.int (j:Int)),some (.str w),e11] z=.ok (.nx [e0,some (.ref v),e2,e3,some (.ref hc),some (.ref sc),some (.ref rc),e7,e8,some (.int ((j+1:Nat):Int)),some (.str w),e11]) z:=by
      unfold bkJ;simp_arith[ad]
     rw[st,b8];exact a6I A hR kn hw hx m (j+1) fuel (by omega) (by omega) (by omega)
  · obtain rfl:j=p+k:=by omega
    have tt:tst ct c bkI [e0,some (.ref v),e2,e3,some (.ref hc),some (.ref sc),some (.ref rc),e7,e8,some (.int ((p+k:Nat):Int)),some (.str w),e11] z=.ok false z:=by
     unfold bkI;simp_arith[ln,lt,bF (show¬(((p+k:Nat):Int)<((d0 mk cs).length:Int)) by omega)]
    rw[tt,b8,az (by decide)]
end
theorem b4U{p q:Nat}(h1:p<=q)(h2:q<=xs.length):U0 xs (some (p:Int)) (some (q:Int))=(xs.drop p).take (q-p):=by
 unfold U0;rw[HT.a7P,HT.a7P,bo h2,bo (aR h1 h2)]
theorem b7K(mk:List Str)(cs:List Ce)(a b:List Nat):bI mk cs (a++b)=bI mk cs a++bI mk cs b:=by unfold bI;rw[ao]
theorem Z9(way:Str)(r:Rn):(Q3 way r).length=r.2.length:=by
 unfold Q3
 split
 · rfl
 · rw[length_reverse]
theorem a5T(way:Str):∀rs:List Rn,((rs.map (Q3 way)).flatten).length=((rs.map (·.2)).flatten).length
 |[]=>rfl
 |r::t=>by
  rw[map_cons,map_cons,flatten_cons,flatten_cons,ap,ap,Z9,a5T way t]
variable{e0:Option D}
section
variable{F:Nat->Option Fn}
theorem b2G{z0:AH}{sc:Nat}{e3:Option D}(A:BkAt mk cs ws z0 v hc sc rc Rw)(hR:Rw.length=(d0 mk cs).length)(n100:(d0 mk cs).length<=1000):
 ∀{p:Nat} {rs:List Rn},RS (sdB mk cs ws) (d0 mk cs).length p rs->Rw.drop p=(rs.map (Q3 way)).flatten->∀(fuel:Nat) (z:AH) (bc:Nat) (e9 e10 e11:Option D),rs.length<fuel->Pf z0 z->z[bc]? =some (.lst ((bI mk cs (List.range p)).map .int))→
  ∃z' bc' e8' e9' e10' e11',a2D (tst ct c bkT) (exs ct c bkB) fuel [e0,some (.ref v),some (.str way),e3,some (.ref hc),some (.ref sc),some (.ref rc),some (.ref bc),some (.int (p:Int)),e9,e10,e11] z=.ok (.nx [e0,some (.ref v),some (.str way),e3,some (.ref hc),some (.ref sc),some (.ref rc),some (.ref bc'),e8',e9',e10',e11']) z'/\Pf z0 z'/\z'[bc']? =some (.lst ((bI mk cs (List.range (d0 mk cs).length)).map .int)):=by
 intro p rs h
 have lt:∀{z:AH} {a b:Int},op2 .lt z (.int a) (.int b)=.ok (.bl (decide (a<b))) z:=fun{z a b}=>rfl
 have len:∀{z:AH},Pf z0 z->biD .len z [.ref rc]=.ok (.int ((d0 mk cs).length:Int)) z:=fun{z} P=>by
  rw[z9 (P.at A.row),aa];unfold bI;rw[aa,hR]
 induction h with
 | nil=>
  intro _ fuel z bc e9 e10 e11 hf P hb
  cases fuel with
  |zero=>exact absurd hf (by omega)
  | succ f=>
   have tt:tst ct c bkT [e0,some (.ref v),some (.str way),e3,some (.ref hc),some (.ref sc),some (.ref rc),some (.ref bc),some (.int ((d0 mk cs).length:Int)),e9,e10,e11] z=.ok false z:=by
    unfold bkT;simp_arith[len P,lt,bF (show¬(((d0 mk cs).length:Int)<((d0 mk cs).length:Int)) by omega)]
   exact⟨z,bc,_,e9,e10,e11,by rw[a2D,tt,b8,az (by decide)],P,hb⟩
 | @cons p k w rs k0 kn hw hx hrs ih=>
  intro hd fuel z bc e9 e10 e11 hf P hb
  cases fuel with
  |zero=>exact absurd hf (by omega)
  | succ f=>
   have tt:tst ct c bkT [e0,some (.ref v),some (.str way),e3,some (.ref hc),some (.ref sc),some (.ref rc),some (.ref bc),some (.int (p:Int)),e9,e10,e11] z=.ok true z:=by
    unfold bkT;simp_arith[len P,lt,bn (show(p:Int)<((d0 mk cs).length:Int) by omega)]
   rw[a2D,tt,b8,ay rfl]
   have A':=A.mono P
   obtain⟨a,b,s1,s2,s3⟩:=A'.side p (by omega)
   rw[hw p (ai _) (by omega)] at s3
   have inn:=a6I (ct:=ct) (c:=c) (e0:=e0) (e2:=some (.str way)) (e3:=e3) (e7:=some (.ref bc)) (e8:=some (.int (p:Int))) (e11:=e11) A' hR kn hw hx k p a4v rfl (ai _) (by show _<1000000;omega)
   -- the run as it stands in the row
   have hrow:(Rw.drop p).take k=Q3 way (w,List.range' p k):=by
    rw[hd,map_cons,flatten_cons,List.take_append_of_le_length (by rw[Z9];simp),bq (by rw[Z9];simp)]
   have cut:slD z (some ((p:Nat):Int)) (some ((p+k:Nat):Int)) (.ref rc)=.ok (.ref z.length) (z++[.lst ((bI mk cs (Q3 way (w,List.range' p k))).map .int)]):=by
    rw[T7 A'.row,b4U (by omega) (by rw[aa];unfold bI;rw[aa,hR];exact kn),show p+k-p=k by omega,←hrow]
    unfold bI;rw[map_take,map_take,map_drop,map_drop]
   have P1:Pf z (z++[Cell.lst ((bI mk cs (Q3 way (w,List.range' p k))).map .int)]):=(Pf.refl z).app _
   have g1:(z++[Cell.lst ((bI mk cs (Q3 way (w,List.range' p k))).map .int)])[z.length]? =some (.lst ((bI mk cs (Q3 way (w,List.range' p k))).map .int)):=b6
   have ne:∀g:AH,op2 .ne g (.str w) (.str way)=.ok (.bl (!decide (w=way))) g:=fun g=>rfl
   have iff':∃z1,Pf z z1/\z1[z.length]? =some (.lst ((bI mk cs (List.range' p k)).map .int))/\ex ct c (.iff (.cmp .ne (.v 10) (.v 2)) (.cons (.ex (.rvs (.v 11))) .nil) .nil) [e0,some (.ref v),some (.str way),e3,some (.ref hc),some (.ref sc),some (.ref rc),some (.ref bc),some (.int (p:Int)),some (.int ((p+k:Nat):Int)),some (.str w),some (.ref z.length)] (z++[.lst ((bI mk cs (Q3 way (w,List.range' p k))).map .int)])=.ok (.nx [e0,some (.ref v),some (.str way),e3,some (.ref hc),some (.ref sc),some (.ref rc),some (.ref bc),some (.int (p:Int)),some (.int ((p+k:Nat):Int)),some (.str w),some (.ref z.length)]) z1:=by
    by_cases e:w=way
    · refine⟨_,P1,?_,by simp_arith[ne,bn e,Bool.not_true]⟩
      rw[g1];unfold Q3;rw[ay e]
    · refine⟨(z++[Cell.lst ((bI mk cs (Q3 way (w,List.range' p k))).map .int)]).set z.length (.lst ((bI mk cs (Q3 way (w,List.range' p k))).map D.int).reverse),P1.set (ai _),?_,by simp_arith[ne,bF e,Bool.not_false,b2n (i:=11) (n:=z.length) (l:=(bI mk cs (Q3 way (w,List.range' p k))).map D.int) (env:=[e0,some (.ref v),some (.str way),e3,some (.ref hc),some (.ref sc),some (.ref rc),some (.ref bc),some (.int (p:Int)),some (.int ((p+k:Nat):Int)),some (.str w),some (.ref z.length)]) rfl g1]⟩
      rw[u9 g1];unfold Q3;rw[az e];unfold bI;rw[map_reverse,map_reverse,reverse_reverse]
   obtain⟨z1,p1,gz,ei⟩:=iff'
   have ad:=a5A (p1.at hb) gz (by
    rw[aa,aa];unfold bI;rw[aa,aa,aI,length_range']
    omega)
   have cat:(bI mk cs (List.range p)).map D.int++(bI mk cs (List.range' p k)).map D.int=(bI mk cs (List.range (p+k))).map .int:=by
    rw[←ao,←b7K];congr 2;rw[List.range_eq_range',List.range_eq_range']
    have:=List.range'_append_1 (s:=0) (m:=p) (n:=k)
    rw[aB] at this;exact this
   rw[cat] at ad
   have st:exs ct c bkB [e0,some (.ref v),some (.str way),e3,some (.ref hc),some (.ref sc),some (.ref rc),some (.ref bc),some (.int (p:Int)),e9,e10,e11] z=.ok (.nx [e0,some (.ref v),some (.str way),e3,some (.ref hc),some (.ref sc),some (.ref rc),some (.ref z1.length),some (.int ((p+k:Nat):Int)),some (.int ((p+k:Nat):Int)),some (.str w),some (.ref z.length)]) (z1++[.lst ((bI mk cs (List.range (p+k))).map .int)]):=by
    unfold bkB;rw[seq (env':=[e0,some (.ref v),some (.str way),e3,some (.ref hc),some (.ref sc),some (.ref rc),some (.ref bc),some (.int (p:Int)),some (.int (p:Int)),e10,e11]) (h':=z) (by simp_arith[])]
    rw[seq (env':=[e0,some (.ref v),some (.str way),e3,some (.ref hc),some (.ref sc),some (.ref rc),some (.ref bc),some (.int (p:Int)),some (.int (p:Int)),some (.str w),e11]) (h':=z) (by unfold bkF;simp_arith[s1,s2,s3])]
    rw[seq (env':=[e0,some (.ref v),some (.str way),e3,some (.ref hc),some (.ref sc),some (.ref rc),some (.ref bc),some (.int (p:Int)),some (.int ((p+k:Nat):Int)),some (.str w),e11]) (h':=z) (by rw[b8g];exact inn)]
    rw[seq (env':=[e0,some (.ref v),some (.str way),e3,some (.ref hc),some (.ref sc),some (.ref rc),some (.ref bc),some (.int (p:Int)),some (.int ((p+k:Nat):Int)),some (.str w),some (.ref z.length)]) (h':=z++[.lst ((bI mk cs (Q3 way (w,List.range' p k))).map .int)]) (by simp_arith[cut])]
    rw[seq ei];rw[seq (env':=[e0,some (.ref v),some (.str way),e3,some (.ref hc),some (.ref sc),some (.ref rc),some (.ref z1.length),some (.int (p:Int)),some (.int ((p+k:Nat):Int)),some (.str w),some (.ref z.length)]) (h':=z1++[.lst ((bI mk cs (List.range (p+k))).map .int)]) (by simp_arith[op2,ad])]
    simp_arith[]
   rw[st,b8];refine ih ?_ f (z1++[.lst ((bI mk cs (List.range (p+k))).map .int)]) z1.length _ _ _ (by rw[length_cons] at hf;omega) ((P.trans p1).app _) b6
   rw[←List.drop_drop,hd,map_cons,flatten_cons,List.drop_append_of_le_length (by rw[Z9];simp),List.drop_of_length_le (by rw[Z9];simp),nil_append]
theorem b5f{k o:Nat}(f219:F 219=some F8)(hF:F 221=some M0)(hy:LR way)(C:Ch cs)(hw:h[w]? =some (.lst (cs.map ceD)))(hv:h[v]? =some (.lst (ws.map .str)))(hs:ws.length=B9 cs)(hr:∀w∈ws,Lr w)(hl:cs.length<=63)(ho:h[o]? =some (.lst (U6 mk cs ws way))):
 b0 ct F (k+2) 221 [.ref w,.ref v,.str way,.ref o] h=.ok (.bl true) h:=by
 have bl:(d0 mk cs).length<=63:=by have:=a0H (mk:=mk) (cs:=cs);omega
 have hom:=a9v (ct:=ct) (k:=k) f219 C hw hl;rw[a7M] at ho
 have ol:(bI mk cs (z6 way (j9 (sdB mk cs ws) (d0 mk cs).length))).length=(d0 mk cs).length:=by
  unfold bI;rw[aa,G1.length_eq,aI]
 have P1:Pf h (h++[Cell.lst (i7 cs)]):=(Pf.refl h).app _
 have so:=a3N (P1.at ho) (by omega)
 rw[a5N G1] at so
 have gS:(h++[Cell.lst (i7 cs)]++[Cell.lst ((bI mk cs (List.range (d0 mk cs).length)).map .int)])[(h++[Cell.lst (i7 cs)]).length]? =some (.lst ((bI mk cs (List.range (d0 mk cs).length)).map .int)):=b6
 have gH:(h++[Cell.lst (i7 cs)]++[Cell.lst ((bI mk cs (List.range (d0 mk cs).length)).map .int)])[h.length]? =some (.lst (i7 cs)):=b5 b6
 have P2:Pf h (h++[Cell.lst (i7 cs)]++[Cell.lst ((bI mk cs (List.range (d0 mk cs).length)).map .int)]):=P1.app _
 generalize (h++[Cell.lst (i7 cs)]).length=sc at so gS;generalize h++[Cell.lst (i7 cs)]++[Cell.lst ((bI mk cs (List.range (d0 mk cs).length)).map .int)]=x at so gS gH P2
 have li:biD .list x [.ref o]=.ok (.ref x.length) (x++[.lst ((bI mk cs (z6 way (j9 (sdB mk cs ws) (d0 mk cs).length))).map .int)]):=by
  simp only[biD,P2.at ho,b0H (P2.at ho),o9]
 have sides:∀{y:AH},Pf x y->∀i,i<(d0 mk cs).length->∃a b,ixD y (.ref sc) (.int (i:Int))=.ok a y/\ixD y (.ref h.length) a=.ok b y/\ixD y (.ref v) b=.ok (.str (sdB mk cs ws i)) y:=fun{y} py i hi=>by
  obtain⟨c,hc⟩:=a3u (bz hi)
  have e1:ixD y (.ref sc) (.int (i:Int))=.ok (.int (((d0 mk cs)[i]:Nat):Int)) y:=B6 (py.at gS) (by
   rw[aj]
   unfold bI;rw[aj,aJ hi,Option.map_some,Option.map_some,bD,af hi]
   rfl)
  have e2:ixD y (.ref h.length) (.int (((d0 mk cs)[i]:Nat):Int))=.ok (.int (a1y c)) y:=B6 (py.at gH) (by unfold i7;rw[aj,hc];rfl)
  refine⟨_,_,e1,e2,?_⟩
  have:=(a2O C hc hs hr).2 (P2.trans py|>.at hv)
  rw[this];unfold sdB;rw[bD,af hi]
  rfl
 have sl:∀i<(d0 mk cs).length,LR (sdB mk cs ws i):=b5l C hs hr
 have rsR:=b3u (sdB mk cs ws) (d0 mk cs).length;have row:=b5O hy (b8D rsR sl);generalize hrs:j9 (sdB mk cs ws) (d0 mk cs).length=rs at rsR row li ol
 have Rl:((rs.map (Q3 way)).flatten).length=(d0 mk cs).length:=by
  rw[a5T,(a7Q rsR).1,length_range',Nat.sub_zero]
 have gr:(x++[Cell.lst ((bI mk cs (z6 way rs)).map .int)])[x.length]? =some (.lst ((bI mk cs (z6 way rs)).map .int)):=b6
 have PX:Pf x (x++[Cell.lst ((bI mk cs (z6 way rs)).map .int)]):=(Pf.refl x).app _
 have iff':∃y,Pf x y/\y[x.length]? =some (.lst ((bI mk cs (rs.map (Q3 way)).flatten).map .int))/\ex ct (b0 ct F (k+1)) (.iff (.cmp .eq (.v 2) (.k (.str "right"))) (.cons (.ex (.rvs (.v 6))) .nil) .nil) [some (.ref w),some (.ref v),some (.str way),some (.ref o),some (.ref h.length),some (.ref sc),some (.ref x.length),none,none,none,none,none] (x++[.lst ((bI mk cs (z6 way rs)).map .int)])=.ok (.nx [some (.ref w),some (.ref v),some (.str way),some (.ref o),some (.ref h.length),some (.ref sc),some (.ref x.length),none,none,none,none,none]) y:=by
  have eq:∀g:AH,op2 .eq g (.str way) (.str "right")=.ok (.bl (decide (way="right"))) g:=fun g=>rfl
  by_cases e:way="right"
  · rw[ay e] at row;refine⟨(x++[Cell.lst ((bI mk cs (z6 way rs)).map .int)]).set x.length (.lst ((bI mk cs (z6 way rs)).map D.int).reverse),PX.set (ai _),?_,by simp_arith[eq,bn e,b2n (i:=6) (n:=x.length) (l:=(bI mk cs (z6 way rs)).map D.int) (env:=[some (.ref w),some (.ref v),some (.str way),some (.ref o),some (.ref h.length),some (.ref sc),some (.ref x.length),none,none,none,none,none]) rfl gr]⟩
    rw[u9 gr,←row];unfold bI;rw[map_reverse,map_reverse]
  · rw[az e] at row;refine⟨_,PX,?_,by simp_arith[eq,bF e]⟩
    rw[gr,row]
 obtain⟨y,py,gy,ei⟩:=iff'
 have A:BkAt mk cs ws (y++[Cell.lst []]) v h.length sc x.length (rs.map (Q3 way)).flatten:=⟨b5 gy,sides (py.app _)⟩
 obtain⟨z,bc,e8,e9,e10,e11,lw,pz,gz⟩:=b2G (ct:=ct) (c:=b0 ct F (k+1)) (way:=way) (e0:=some (.ref w)) (e3:=some (.ref o)) A Rl (by omega) rsR rfl a4v (y++[.lst []]) y.length none none none (by
  show rs.length<1000000
  have:rs.length<=((rs.map (·.2)).flatten).length:=by
   have:∀{p:Nat} {l:List Rn},RS (sdB mk cs ws) (d0 mk cs).length p l->l.length<=((l.map (·.2)).flatten).length:=fun{p l} hq=>by
    induction hq with
    |nil=>exact ai _
    | @cons p k w l k0 _ _ _ _ ih=>
     rw[map_cons,flatten_cons,ap,length_cons,length_range'];omega
   exact this rsR
  rw[(a7Q rsR).1,length_range'] at this
  omega) (Pf.refl _) b6
 rw[l7 hF rfl];simp only[c0d]
 show gcR 1 h (O6 (exs ct (b0 ct F (k+1)) _ [some (.ref w),some (.ref v),some (.str way),some (.ref o),none,none,none,none,none,none,none,none] h))=_
 rw[seq (env':=[some (.ref w),some (.ref v),some (.str way),some (.ref o),some (.ref h.length),none,none,none,none,none,none,none]) (h':=h++[.lst (i7 cs)]) (by simp_arith[hom])]
 rw[seq (env':=[some (.ref w),some (.ref v),some (.str way),some (.ref o),some (.ref h.length),some (.ref sc),none,none,none,none,none,none]) (h':=x) (by simp_arith[so])]
 rw[seq (env':=[some (.ref w),some (.ref v),some (.str way),some (.ref o),some (.ref h.length),some (.ref sc),some (.ref x.length),none,none,none,none,none]) (h':=x++[.lst ((bI mk cs (z6 way rs)).map .int)]) (by simp_arith[li])]
 rw[seq ei];rw[seq (env':=[some (.ref w),some (.ref v),some (.str way),some (.ref o),some (.ref h.length),some (.ref sc),some (.ref x.length),some (.ref y.length),none,none,none,none]) (h':=y++[.lst []]) (by simp_arith[o9])]
 rw[seq (env':=[some (.ref w),some (.ref v),some (.str way),some (.ref o),some (.ref h.length),some (.ref sc),some (.ref x.length),some (.ref y.length),some (.int 0),none,none,none]) (h':=y++[.lst []]) (by simp_arith[])]
 rw[seq (env':=[some (.ref w),some (.ref v),some (.str way),some (.ref o),some (.ref h.length),some (.ref sc),some (.ref x.length),some (.ref bc),e8,e9,e10,e11]) (h':=z) (by rw[b8g];exact lw)]
 simp_arith[(a5o gz ((py.app _).trans pz|>.at gS)).1];exact b9u (P2.trans ((py.app _).trans pz)) rfl
end
theorem a4c:∀l:List Int,a1u (l.map D.int)=some l
 |[]=>rfl
 |x::r=>by rw[map_cons,a1u,a4c r];rfl
theorem a7H{l:List Int}:biD .sum (h++[.lst (l.map D.int)]) [.ref h.length]=.ok (.int l.sum) (h++[.lst (l.map D.int)]):=by
 simp only[biD,b6,a2u,a4c]
theorem b0j(cs:List Ce):(cs.map fun c=>(c.k:Int)).sum=(B9 cs:Int):=by
 unfold B9
 induction cs with
 |nil=>rfl
 |cons c r ih=>rw[map_cons,sum_cons,map_cons,sum_cons,ih];omega
theorem rd_of(e:h[n]? =some (.lst l)):rdL h n=some l:=by unfold rdL;rw[e]
def N1(sh:List (Str×Nat))(mk:List Str)(cs:List Ce):Int:=((cs.filter fun c=>!decide (c.n∈mk)).map fun c=>wOf sh c.n).sum
theorem a8O(sh:List (Str×Nat))(mk:List Str)(cs:List Ce)(c:Ce):N1 sh mk (cs++[c])=N1 sh mk cs+(if c.n∈mk then 0 else wOf sh c.n):=by
 unfold N1;rw[List.filter_append,ao,bB]
 by_cases e:c.n∈mk
 · rw[List.filter_cons_of_neg (by simp[e]),ay e]
   simp
 · rw[List.filter_cons_of_pos (by simp[e]),az e]
   simp
theorem a5Z{a b:List Int}(h:a.Perm b):a.sum=b.sum:=by
 induction h with
 |nil=>rfl
 |cons x _ ih=>rw[sum_cons,sum_cons,ih]
 |swap x y l=>rw[sum_cons,sum_cons,sum_cons,sum_cons];omega
 |trans _ _ h1 h2=>exact h1.trans h2
theorem a4t{sh:List (Str×Nat)}{mk:List Str}{cs:List Ce}:∀j,j<=cs.length->((o4 mk cs j).map fun p=>wOf sh (cnA cs p)).sum=N1 sh mk (cs.take j)
 |0,_=>rfl
 |j+1,h=>by
  have hj:j<cs.length:=by omega
  have e:isB mk cs j=!decide (cs[j].n∈mk):=by unfold isB;rw[af hj]
  rw[O1,ao,bB,a4t j (by omega),take_succ_eq_append_getElem hj,a8O,e]
  have n:cnA cs j=cs[j].n:=by unfold cnA;rw[af hj]
  by_cases m:cs[j].n∈mk
  · simp[m]
  · simp[m,n]
theorem b3H:xsA sh cs (plc mk cs ws way) (plc mk cs ws way).length=N1 sh mk cs:=by
 unfold xsA;rw[bp,a5Z (a0a.map _)]
 have:=a4t (sh:=sh) (mk:=mk) cs.length (ai _)
 rw[bp] at this;exact this
section
variable{F:Nat->Option Fn}
theorem a8P{k:Nat}{H:HL}(hF:F 42=some O8)(A:HallAt h n (a1P H))(hw:h[w]? =some (.lst (cs.map ceD)))(hc:∀c∈cs,c.n∈H.sh.map (·.1))(hl:cs.length<=1000):b0 ct F (k+1) 42 [.ref n,.ref w] h=.ok (.int (N1 H.sh (H.mr.map (·.n)) cs)) h:=by
 have c1:h[n+1]? =some (.dict (kd (H.sh.map fun p=>(p.1,.int (p.2:Int))))):=A.c1
 have k2:(hM H.mr).map (·.1)=H.mr.map (·.n):=a2i _ _ _
 rw[l7 hF rfl];simp only[O8]
 have cm:ev ct (b0 ct F k) (.comp (.nm 0) (.seq (.v 1)) 1 [0] (.cmp .notin (.ix (.v 0) (.k (.int (0)))) (.fld (.v 1) "marks")) (.ix (.fld (.v 1) "shapes") (.ix (.v 0) (.k (.int (0)))))) [some (.ref n),some (.ref w)] h=.ok (.ref h.length) (h++[.lst (((cs.filter fun c=>!decide (c.n∈H.mr.map (·.n))).map fun c=>wOf H.sh c.n).map .int)]):=by
  rw [K1 (l:=cs.map ceD) (g:=[(w,.lst (cs.map ceD))]) (h1:=h) (by simp_arith[V5,hw]) (by simp[gOk,hw]) (fun x=>!decide (cNm x∈H.mr.map (·.n))) (fun x=>.int (wOf H.sh (cNm x))) (fun x=>[some x,some (.ref n)]) (fun x hx=>by
   obtain⟨c,hc',rfl⟩:=ak.mp hx;refine⟨rfl,?_,fun _=>?_⟩
   · unfold ceD;simp_arith[a2F,A.fld2,op2,b1o A.c2];rw[show(a1P H).marks=hM H.mr from rfl,k2];rfl
   · unfold ceD;simp_arith[a2F,A.fld1,b6P c1 (hc c hc')]
     rfl) (by rw[aa];show _<=16777216;omega)]
  congr 3;rw[filter_map,aH,aH];rfl
 simp_arith[cm,a7H];exact gc1 rfl
theorem nei{i:Int}:op2 .ne h (.int i) (.int i)=.ok (.bl false) h:=by
 show a1p h (.int i) (.int i)=_
 simp[a1p,eqS]
end
theorem b0p(C:Ch cs)(f:Str->Str){t:Nat}{c:Ce}(hc:cs[t]? =some c)(hs:ws.length=B9 cs):Z6 cs (ws.map f) t=f (Z6 cs ws t):=by
 obtain⟨q,q1,q2⟩:=a8s C hc;unfold Z6;simp only[hc];rw[q1,Int.toNat_natCast,bD,bD,aj,af (show q<ws.length by omega)]
 rfl
theorem a7O(C:Ch cs)(f:Str->Str)(hs:ws.length=B9 cs)(hi:i<(d0 mk cs).length):sdB mk cs (ws.map f) i=f (sdB mk cs ws i):=by
 unfold sdB;rw[bD,af hi]
 obtain⟨c,hc⟩:=a3u (bz hi);exact b0p C f hc hs
theorem a5Y(C:Ch cs)(hs:ws.length=B9 cs)(hr:∀w∈ws,Lr w)(hy:LR way):plc mk cs (ws.map flp) (flp way)=(plc mk cs ws way).reverse:=by
 unfold plc;rw[b1j (sd:=sdB mk cs ws) (b5l C hs hr) hy fun i hi=>a7O C flp hs hi,map_reverse]
theorem a6X(C:Ch cs)(hs:ws.length=B9 cs)(hy:LR way):U6 mk cs (ws.map fun _=>way) way=(bI mk cs (if way="right" then(List.range (d0 mk cs).length).reverse else List.range (d0 mk cs).length)).map .int:=by
 rw[a7M,a9m hy fun i hi=>a7O C (fun _=>way) hs hi]
theorem b6C(hi:i<P.length):xsA sh cs P.reverse (P.length-1-i)+(xsA sh cs P i+wOf sh (cnA cs P[i]))=xsA sh cs P P.length:=by
 unfold xsA
 have e:P.reverse.take (P.length-1-i)=(P.drop (i+1)).reverse:=by
  rw[List.take_reverse,show P.length-(P.length-1-i)=i+1 by omega]
 rw[e,a5Z ((reverse_perm _).map _),bp]
 have s:P=P.take i++P[i]::P.drop (i+1):=by rw[←drop_eq_getElem_cons hi,take_append_drop]
 have:=congrArg (fun l:List Nat=>(l.map fun p=>wOf sh (cnA cs p)).sum) s
 simp only[ao,map_cons,bB,sum_cons] at this;omega
theorem b5k{pt:List Pt}(nd:P.Nodup)(hi:i<P.length):N2 sh cs P mr pt P[i]=(xsA sh cs P i,0):=by
 have s:=b3m (sh:=sh) (cs:=cs) nd hi;rw[bD,af hi] at s
 unfold N2 V1;rw[show T6 sh cs P P[i]=some (xsA sh cs P i,0) from s]
theorem HallAt.mono{H:HD}(A:HallAt h n H)(p:Pf h h'):HallAt h' n H:=⟨p.at A.o,p.at A.c1,p.at A.c2,p.at A.c3,p.at A.c4,p.at A.c5,p.at A.c6,p.at A.c7,p.at A.c8⟩
section
variable{F:Nat->Option Fn}
theorem a9D{a:E}{l:List α}(rp:α->D)(P:t9->Prop)(hP:P env)(ha:ev ct c a env h=.ok (.ref s) h)(hs:h[s]? =some (.lst (l.map rp)))
 (hb:∀x∈l,∀env,P env->∃env1 env',J2 p (rp x) env=some env1/\exs ct c body env1 h=.ok (.nx env') h/\P env'):∃env',ex ct c (.for p (.seq a) body) env h=.ok (.nx env') h/\P env':=by
 obtain⟨env',h',q1,rfl,q2⟩:=z3 (g:=[(s,.lst (l.map rp))]) (p:=p) (body:=exs ct c body) (fun _ env h1=>h1=h/\P env) (fun j env h1 S=>by
  rw[S.1];simp[gOk,hs]) (l.map rp) 0 env h (fun j x env h1 hx hP=>by
  have hj:j<l.length:=by simpa using(ac.mp hx).1
  rw[aj,af hj] at hx
  obtain rfl:rp l[j]=x:=ax hx;obtain⟨rfl,hP⟩:=hP;obtain⟨env1,env',b1,b2,b3⟩:=hb l[j] (bz hj) env hP;exact⟨env1,env',h1,b1,b2,rfl,b3⟩) ⟨rfl,hP⟩
 refine⟨env',?_,q2⟩
 rw[a5l,a0F,ha,b8];simp only[V5,hs];rw[b8];exact q1
def mrB:Ss:=(.cons (.set 13 (.bin .add (.ix (.ix (.v 10) (.v 12)) (.k (.int (0)))) (.ix (.v 3) (.ix (.ix (.v 4) (.v 12)) (.k (.int (0))))))) (.cons (.iff (.cmp .ne (.bin .add (.ix (.ix (.v 11) (.v 12)) (.k (.int (0)))) (.v 13)) (.v 6)) (.cons (.ret (.k (.bl false))) .nil) .nil) .nil))
def b6F:E:=(.comp (.nm 0) (.seq (.v 5)) 1 [7] .yes (.v 1))
def b9a:E:=(.ix (.lst (.cons (.v 14) (.cons (.rev (.v 14)) .nil))) (.bi .int (.cons (.bin .eq (.v 7) (.k (.str "right"))) .nil)))
def b4e:Ss:=(.cons (.set 9 (.call 35 (.cons (.v 2) (.cons (.v 4) (.cons (.v 5) (.cons (.v 7) .nil)))))) (.cons (.set 10 (.call 36 (.cons (.v 2) (.cons (.v 4) (.cons (.v 5) (.cons (.v 7) .nil)))))) (.cons (.iff (.cmp .ne (.call 35 (.cons (.v 2) (.cons (.v 4) (.cons (.call 220 (.cons (.v 5) .nil)) (.cons (.v 8) .nil))))) (.rev (.v 9))) (.cons (.ret (.k (.bl false))) .nil) .nil) (.cons (.set 11 (.call 36 (.cons (.v 2) (.cons (.v 4) (.cons (.call 220 (.cons (.v 5) .nil)) (.cons (.v 8) .nil)))))) (.cons (.for (.nm 12) (.seq (.v 9)) mrB) (.cons (.set 14 (.call 35 (.cons (.v 2) (.cons (.v 4) (.cons b6F (.cons (.v 7) .nil)))))) (.cons (.iff (.cmp .ne b9a (.bi .sorted (.cons (.v 9) .nil))) (.cons (.ret (.k (.bl false))) .nil) .nil) (.cons (.iff (.nt (.val (.call 221 (.cons (.v 4) (.cons (.v 5) (.cons (.v 7) (.cons (.v 9) .nil))))))) (.cons (.ret (.k (.bl false))) .nil) .nil) .nil))))))))
noncomputable def b6G:E:=(.lst (.cons (.tup (.cons (.k (.str "left")) (.cons (.k (.str "right")) .nil))) (.cons (.tup (.cons (.k (.str "right")) (.cons (.k (.str "left")) .nil))) .nil)))
theorem b6K:a6q=⟨1,15,0,(.cons (.set 1 (.call 212 (.cons (.v 0) (.cons (.k (.int (0))) .nil)))) (.cons (.set 2 (.call 12 (.cons (.call 215 (.cons (.v 1) .nil)) .nil))) (.cons (.set 3 (.bi .dict (.cons (.ix (.v 1) (.k (.int (0)))) .nil))) (.cons (.set 4 (.call 217 (.cons (.v 0) (.cons (.k (.int (5))) (.cons (.ix (.v 1) (.k (.int (0)))) .nil))))) (.cons (.set 5 (.call 218 (.cons (.v 0) (.cons (.bi .sum (.cons lwK .nil)) .nil)))) (.cons (.set 6 (.call 42 (.cons (.v 2) (.cons (.v 4) .nil)))) (.cons (.for (.tp (.cons (.nm 7) (.cons (.nm 8) .nil))) (.seq b6G) b4e) (.cons (.ret (.k (.bl true))) .nil))))))))⟩:=rfl
structure P42(F:Nat->Option Fn):Prop where
 f33:F 33=some E7
 f34:F 34=some E8
 f35:F 35=some F6
 f36:F 36=some a3k
 f37:F 37=some F7
 f38:F 38=some J0
 f39:F 39=some O2
 f40:F 40=some a0X
 f41:F 41=some a0C
 f42:F 42=some O8
 f219:F 219=some F8
 f220:F 220=some G4
 f221:F 221=some M0
theorem b3j{k q:Nat}{T:D}{H:HL}{e10 e11 e14:Option D}(W:P42 F)(K:HLok H)(A:HallAt h n (a1P H))(aQ:h[q]? =some (.dict (kd (H.sh.map fun p=>(p.1,.int (p.2:Int))))))(C:Ch cs)(aS:h[s]? =some (.lst (cs.map ceD)))(aW:h[v]? =some (.lst (ws.map .str)))(hs:ws.length=B9 cs)(hr:∀w∈ws,Lr w)(hl:cs.length<=63)(hc:∀c∈cs,c.n∈H.sh.map (·.1))(hwl:ws.length<=300)(hy:LR way):
 ∃e9' e10' e11' e12' e13' e14' h',exs ct (b0 ct F (k+4)) b4e [e0,some T,some (.ref n),some (.ref q),some (.ref s),some (.ref v),some (.int (N1 H.sh (H.mr.map (·.n)) cs)),some (.str way),some (.str (flp way)),e9,e10,e11,e12,e13,e14] h=.ok (.nx [e0,some T,some (.ref n),some (.ref q),some (.ref s),some (.ref v),some (.int (N1 H.sh (H.mr.map (·.n)) cs)),some (.str way),some (.str (flp way)),e9',e10',e11',e12',e13',e14']) h'/\Pf h h':=by
 generalize hmk:H.mr.map (·.n)=mk
 have bl:(d0 mk cs).length<=63:=by have:=a0H (mk:=mk) (cs:=cs);omega
 -- what seen_order and laid tell in any later heap
 have seen:∀{x:AH} {v':Nat} {ws':List Str} {way':Str},Pf h x->x[v']? =some (.lst (ws'.map .str))->ws'.length=B9 cs->(∀w∈ws',Lr w)->b0 ct F (k+4) 35 [.ref n,.ref s,.ref v',.str way'] x=.ok (.ref x.length) (x++[.lst (U6 mk cs ws' way')]):=fun{x v' ws' way'} P a b c=>by
  have:=a7L (ct:=ct) (k:=k+1) (way:=way') W.f33 W.f34 W.f35 (A.mono P) C (P.at aS) a b c hl
  rw[hmk] at this;exact this
 have lay:∀{x:AH} {v':Nat} {ws':List Str} {way':Str},Pf h x->x[v']? =some (.lst (ws'.map .str))->ws'.length=B9 cs->(∀w∈ws',Lr w)->b0 ct F (k+4) 36 [.ref n,.ref s,.ref v',.str way'] x=.ok (.ref x.length) (x++[.lst ((List.range cs.length).map fun j=>spD (N2 H.sh cs (plc mk cs ws' way') H.mr H.pt j))]):=fun{x v' ws' way'} P a b c=>by
  have:=b4j (ct:=ct) (k:=k) (way:=way') W.f33 W.f34 W.f35 W.f36 W.f37 W.f38 W.f39 W.f40 W.f41 K (A.mono P) C (P.at aS) a b c hl hc
  rw[hmk] at this;exact this
 have turn:∀{x:AH},Pf h x->b0 ct F (k+4) 220 [.ref v] x=.ok (.ref x.length) (x++[.lst ((ws.map flp).map .str)]):=fun{x} P=>a8S (ct:=ct) (k:=k+3) W.f220 (P.at aW) (by omega)
 have tl:(ws.map flp).length=B9 cs:=by rw[aa];exact hs
 have tr:∀w∈ws.map flp,Lr w:=fun w hw=>by
  obtain⟨u,_,rfl⟩:=ak.mp hw;exact a7s u
 generalize hP:plc mk cs ws way=P at lay
 have nd:P.Nodup:=by rw[←hP];exact b0U
 have sP:U6 mk cs ws way=(P.map fun p:Nat=>(p:Int)).map .int:=by rw[a2Q,hP,aH];rfl
 have sT:U6 mk cs (ws.map flp) (flp way)=(P.reverse.map fun p:Nat=>(p:Int)).map .int:=by
  rw[a2Q,a5Y C hs hr hy,hP,aH];rfl
 have Pl:P.length=(d0 mk cs).length:=by rw[←hP];exact a0a.length_eq
 have inP:∀p∈P,p<cs.length:=fun p hp=>by rw[←hP] at hp;exact(b0V.mp hp).1
 -- the order
 have x1:Pf h (h++[Cell.lst ((P.map fun p:Nat=>(p:Int)).map .int)]):=(Pf.refl h).app _
 have s1:=seen (way':=way) (Pf.refl h) aW hs hr;rw[sP] at s1
 have g9:(h++[Cell.lst ((P.map fun p:Nat=>(p:Int)).map .int)])[h.length]? =some (.lst ((P.map fun p:Nat=>(p:Int)).map .int)):=b6
 generalize h++[Cell.lst ((P.map fun p:Nat=>(p:Int)).map .int)]=h1 at x1 s1 g9
 generalize h.length=o at s1 g9
 -- the spots
 have s2:=lay (way':=way) x1 (x1.at aW) hs hr;rw[hP] at s2
 have x2:Pf h1 (h1++[Cell.lst ((List.range cs.length).map fun j=>spD (N2 H.sh cs P H.mr H.pt j))]):=(Pf.refl h1).app _
 have g10:(h1++[Cell.lst ((List.range cs.length).map fun j=>spD (N2 H.sh cs P H.mr H.pt j))])[h1.length]? =some (.lst ((List.range cs.length).map fun j=>spD (N2 H.sh cs P H.mr H.pt j))):=b6
 generalize h1++[Cell.lst ((List.range cs.length).map fun j=>spD (N2 H.sh cs P H.mr H.pt j))]=h2 at s2 x2 g10
 generalize h1.length=sp at s2 g10
 -- turned, its order, the order turned about
 have X2:Pf h h2:=x1.trans x2
 have s3:=turn X2
 have x3:Pf h2 (h2++[Cell.lst ((ws.map flp).map .str)]):=(Pf.refl h2).app _
 have gt:(h2++[Cell.lst ((ws.map flp).map .str)])[h2.length]? =some (.lst ((ws.map flp).map .str)):=b6
 generalize h2++[Cell.lst ((ws.map flp).map .str)]=h3 at s3 x3 gt;generalize h2.length=tv at s3 gt
 have X3:Pf h h3:=X2.trans x3
 have s4:=seen (way':=flp way) X3 gt tl tr;rw[sT] at s4
 have x4:Pf h3 (h3++[Cell.lst ((P.reverse.map fun p:Nat=>(p:Int)).map .int)]):=(Pf.refl h3).app _
 have gu:(h3++[Cell.lst ((P.reverse.map fun p:Nat=>(p:Int)).map .int)])[h3.length]? =some (.lst ((P.reverse.map fun p:Nat=>(p:Int)).map .int)):=b6
 generalize h3++[Cell.lst ((P.reverse.map fun p:Nat=>(p:Int)).map .int)]=h4 at s4 x4 gu
 generalize h3.length=tu at s4 gu
 have X4:Pf h h4:=X3.trans x4
 have s5:=a4J (((x2.trans x3).trans x4).at g9);rw[←map_reverse,←map_reverse] at s5
 have x5:Pf h4 (h4++[Cell.lst ((P.reverse.map fun p:Nat=>(p:Int)).map .int)]):=(Pf.refl h4).app _
 have gr:(h4++[Cell.lst ((P.reverse.map fun p:Nat=>(p:Int)).map .int)])[h4.length]? =some (.lst ((P.reverse.map fun p:Nat=>(p:Int)).map .int)):=b6
 generalize h4++[Cell.lst ((P.reverse.map fun p:Nat=>(p:Int)).map .int)]=h5 at s5 x5 gr
 generalize h4.length=ru at s5 gr
 have X5:Pf h h5:=X4.trans x5
 have n5:=(a5o (x5.at gu) gr).2
 -- mirrored
 have s6:=turn X5
 have x6:Pf h5 (h5++[Cell.lst ((ws.map flp).map .str)]):=(Pf.refl h5).app _
 have gt6:(h5++[Cell.lst ((ws.map flp).map .str)])[h5.length]? =some (.lst ((ws.map flp).map .str)):=b6
 generalize h5++[Cell.lst ((ws.map flp).map .str)]=h6 at s6 x6 gt6;generalize h5.length=tw at s6 gt6
 have X6:Pf h h6:=X5.trans x6
 have s7:=lay (way':=flp way) X6 gt6 tl tr;rw[a5Y C hs hr hy,hP] at s7
 have x7:Pf h6 (h6++[Cell.lst ((List.range cs.length).map fun j=>spD (N2 H.sh cs P.reverse H.mr H.pt j))]):=(Pf.refl h6).app _
 have g11:(h6++[Cell.lst ((List.range cs.length).map fun j=>spD (N2 H.sh cs P.reverse H.mr H.pt j))])[h6.length]? =some (.lst ((List.range cs.length).map fun j=>spD (N2 H.sh cs P.reverse H.mr H.pt j))):=b6
 generalize h6++[Cell.lst ((List.range cs.length).map fun j=>spD (N2 H.sh cs P.reverse H.mr H.pt j))]=h7 at s7 x7 g11
 generalize h6.length=sq at s7 g11
 have X7:Pf h h7:=X6.trans x7
 have y7:Pf h2 h7:=(((x3.trans x4).trans x5).trans x6).trans x7
 have g9':=(x2.trans y7).at g9
 have g10':=y7.at g10
 -- plain
 have cp:∀{ee:List (Option D)},ee[5]? =some (some (.ref v))->(ee[7]?).join=some (.str way)->ev ct (b0 ct F (k+4)) b6F ee h7=.ok (.ref h7.length) (h7++[.lst ((ws.map fun _=>way).map .str)]):=fun{ee} e5 e7=>by
  unfold b6F
  rw[A9 (l:=ws.map .str) (g:=[(v,.lst (ws.map .str))]) (h1:=h7) (by
   rw[a0F,b7l,e5];simp only[b8,V5,X7.at aW]) (by simp[gOk,X7.at aW]) (fun _=>.str way) (fun d=>[some d,some (.str way)]) (fun d hd=>by
   refine⟨?_,by simp_arith[]⟩
   show some ((B0 1 [7] ee).set 0 (some d))=_
   unfold B0;rw[map_cons,map_nil,e7]
   rfl) (by show _<=16777216;rw[aa];omega)]
  rw[aH,aH];rfl
 have x8:Pf h7 (h7++[Cell.lst ((ws.map fun _=>way).map .str)]):=(Pf.refl h7).app _
 have gp:(h7++[Cell.lst ((ws.map fun _=>way).map .str)])[h7.length]? =some (.lst ((ws.map fun _=>way).map .str)):=b6
 generalize h7++[Cell.lst ((ws.map fun _=>way).map .str)]=h8 at cp x8 gp
 generalize h7.length=pv at cp gp
 have X8:Pf h h8:=X7.trans x8
 have s9:=seen (way':=way) X8 gp (by rw[aa];exact hs) (fun w hw=>by
  obtain⟨u,_,rfl⟩:=ak.mp hw;exact hy)
 rw[a6X C hs hy] at s9;generalize hB:List.range (d0 mk cs).length=B at s9
 have x9:Pf h8 (h8++[Cell.lst ((bI mk cs (if way="right" then B.reverse else B)).map .int)]):=(Pf.refl h8).app _
 have g14:(h8++[Cell.lst ((bI mk cs (if way="right" then B.reverse else B)).map .int)])[h8.length]? =some (.lst ((bI mk cs (if way="right" then B.reverse else B)).map .int)):=b6
 generalize h8++[Cell.lst ((bI mk cs (if way="right" then B.reverse else B)).map .int)]=h9 at s9 x9 g14;generalize h8.length=pl at s9 g14
 have X9:Pf h h9:=X8.trans x9
 have s10:=a4J g14
 have x10:Pf h9 (h9++[Cell.lst ((bI mk cs (if way="right" then B.reverse else B)).map D.int).reverse]):=(Pf.refl h9).app _
 have grp:(h9++[Cell.lst ((bI mk cs (if way="right" then B.reverse else B)).map D.int).reverse])[h9.length]? =some (.lst ((bI mk cs (if way="right" then B.reverse else B)).map D.int).reverse):=b6
 generalize h9++[Cell.lst ((bI mk cs (if way="right" then B.reverse else B)).map D.int).reverse]=h10 at s10 x10 grp;generalize h9.length=rp at s10 grp
 -- the two, and the one that is due
 have x11:Pf h10 (h10++[Cell.lst [.ref pl,.ref rp]]):=(Pf.refl h10).app _
 have g2:(h10++[Cell.lst [.ref pl,.ref rp]])[h10.length]? =some (.lst [.ref pl,.ref rp]):=b6
 have nw:∀(e:([D.ref pl,.ref rp]:List D).length<=SL),o9 (.lst [.ref pl,.ref rp]) h10=.ok (.ref h10.length) (h10++[.lst [.ref pl,.ref rp]]):=fun _=>rfl
 have pick:∃c,ixD (h10++[Cell.lst [.ref pl,.ref rp]]) (.ref h10.length) (.int (if decide (way="right")=true then 1 else 0))=.ok (.ref c) (h10++[.lst [.ref pl,.ref rp]])/\(h10++[Cell.lst [.ref pl,.ref rp]])[c]? =some (.lst ((bI mk cs B).map .int)):=by
  by_cases e:way="right"
  · rw[bn e,ay rfl];refine⟨rp,v7 1 1 rfl g2 rfl,?_⟩
    rw[x11.at grp,ay e];unfold bI;rw[map_reverse,map_reverse,reverse_reverse]
  · rw[bF e,az (by decide)]
    refine⟨pl,v7 0 0 rfl g2 rfl,?_⟩
    rw[(x10.trans x11).at g14,az e]
 obtain⟨c,c1,c2⟩:=pick;generalize hh11:h10++[Cell.lst [D.ref pl,.ref rp]]=h11 at x11 g2 nw c1 c2;generalize h10.length=tb at g2 nw c1
 have X11:Pf h h11:=(X9.trans x10).trans x11
 have y11:Pf h7 h11:=((x8.trans x9).trans x10).trans x11
 have s12:=a3N (y11.at g9') (by rw[aa];omega)
 have sr:srt (P.map fun p:Nat=>(p:Int))=bI mk cs B:=by
  rw[←hB]
  have:=a5N (mk:=mk) (cs:=cs) (l:=z6 way (j9 (sdB mk cs ws) (d0 mk cs).length)) G1
  rw[←this];congr 1;rw[←hP];unfold plc bI;rw[aH];rfl
 rw[sr] at s12
 have x12:Pf h11 (h11++[Cell.lst ((bI mk cs B).map .int)]):=(Pf.refl h11).app _
 have n12:=(a5o (x12.at c2) (show(h11++[Cell.lst ((bI mk cs B).map .int)])[h11.length]? =some (.lst ((bI mk cs B).map .int)) from b6)).2;generalize h11++[Cell.lst ((bI mk cs B).map .int)]=h12 at s12 x12 n12;generalize h11.length=so at s12 n12
 have X12:Pf h h12:=X11.trans x12
 have s13:=b5f (ct:=ct) (k:=k+2) (mk:=mk) W.f219 W.f221 hy C (X12.at aS) (X12.at aW) hs hr hl (by
  rw[sP];exact(y11.trans x12).at g9')
 have ib:∀g:AH,biD .int g [.bl (decide (way="right"))]=.ok (.int (if decide (way="right")=true then 1 else 0)) g:=fun g=>rfl
 have eqr:∀g:AH,op2 .eq g (.str way) (.str "right")=.ok (.bl (decide (way="right"))) g:=fun g=>rfl
 unfold b4e;rw[seq (env':=[e0,some T,some (.ref n),some (.ref q),some (.ref s),some (.ref v),some (.int (N1 H.sh mk cs)),some (.str way),some (.str (flp way)),some (.ref o),e10,e11,e12,e13,e14]) (h':=h1) (by simp_arith[s1])]
 rw[seq (env':=[e0,some T,some (.ref n),some (.ref q),some (.ref s),some (.ref v),some (.int (N1 H.sh mk cs)),some (.str way),some (.str (flp way)),some (.ref o),some (.ref sp),e11,e12,e13,e14]) (h':=h2) (by simp_arith[s2])]
 rw[seq (env':=[e0,some T,some (.ref n),some (.ref q),some (.ref s),some (.ref v),some (.int (N1 H.sh mk cs)),some (.str way),some (.str (flp way)),some (.ref o),some (.ref sp),e11,e12,e13,e14]) (h':=h5) (by simp_arith[s3,s4,a5m,s5,n5])]
 rw[seq (env':=[e0,some T,some (.ref n),some (.ref q),some (.ref s),some (.ref v),some (.int (N1 H.sh mk cs)),some (.str way),some (.str (flp way)),some (.ref o),some (.ref sp),some (.ref sq),e12,e13,e14]) (h':=h7) (by simp_arith[s6,s7])]
 obtain⟨env',q1,e12',e13',rfl⟩:=a9D (ct:=ct) (c:=b0 ct F (k+4)) (p:=.nm 12) (a:=(.v 9)) (s:=o) (body:=mrB) (l:=P) (h:=h7) (fun p:Nat=>D.int (p:Int)) (fun env=>∃e12 e13,env=[e0,some T,some (.ref n),some (.ref q),some (.ref s),some (.ref v),some (.int (N1 H.sh mk cs)),some (.str way),some (.str (flp way)),some (.ref o),some (.ref sp),some (.ref sq),e12,e13,e14]) (env:=[e0,some T,some (.ref n),some (.ref q),some (.ref s),some (.ref v),some (.int (N1 H.sh mk cs)),some (.str way),some (.str (flp way)),some (.ref o),some (.ref sp),some (.ref sq),e12,e13,e14]) ⟨_,_,rfl⟩ (by simp_arith[]) (by rw[g9',aH];rfl) (fun p hp env hE=>by
  obtain⟨e12,e13,rfl⟩:=hE;obtain⟨i,hi,rfl⟩:=List.mem_iff_getElem.mp hp;have pc:=inP _ hp
  have w1:ixD h7 (.ref sp) (.int (P[i]:Int))=.ok (spD (xsA H.sh cs P i,0)) h7:=B6 g10' (by rw[aj,aJ pc,Option.map_some,b5k nd hi])
  have nr:P.reverse.Nodup:=pairwise_reverse.mpr (nd.imp fun h=>Ne.symm h)
  have w2:ixD h7 (.ref sq) (.int (P[i]:Int))=.ok (spD (xsA H.sh cs P.reverse (P.length-1-i),0)) h7:=B6 g11 (by
   have hj:P.length-1-i<P.reverse.length:=by rw[length_reverse];omega
   have e:P.reverse[P.length-1-i]=P[i]:=by
    rw[List.getElem_reverse];congr 1;omega
   have:=b5k (sh:=H.sh) (cs:=cs) (mr:=H.mr) (pt:=H.pt) nr hj
   rw[e] at this;rw[aj,aJ pc,Option.map_some,this])
  have w3:ixD h7 (.ref s) (.int (P[i]:Int))=.ok (ceD cs[P[i]]) h7:=B6 (X7.at aS) (by rw[aj,af pc];rfl)
  have w4:ixD h7 (.ref q) (.str cs[P[i]].n)=.ok (.int (wOf H.sh (cnA cs P[i]))) h7:=by
   rw[b6P (X7.at aQ) (hc _ (bz pc))];unfold cnA;rw[af pc]
  have tot:=b6C (sh:=H.sh) (cs:=cs) hi;have ps:=b3H (sh:=H.sh) (mk:=mk) (cs:=cs) (ws:=ws) (way:=way);rw[hP] at ps;rw[ps] at tot;refine⟨_,[e0,some T,some (.ref n),some (.ref q),some (.ref s),some (.ref v),some (.int (N1 H.sh mk cs)),some (.str way),some (.str (flp way)),some (.ref o),some (.ref sp),some (.ref sq),some (.int (P[i]:Int)),some (.int (xsA H.sh cs P i+wOf H.sh (cnA cs P[i]))),e14],rfl,?_,_,_,rfl⟩
  show exs ct (b0 ct F (k+4)) mrB [e0,some T,some (.ref n),some (.ref q),some (.ref s),some (.ref v),some (.int (N1 H.sh mk cs)),some (.str way),some (.str (flp way)),some (.ref o),some (.ref sp),some (.ref sq),some (.int (P[i]:Int)),e13,e14] h7=_
  unfold mrB;rw[seq (env':=[e0,some T,some (.ref n),some (.ref q),some (.ref s),some (.ref v),some (.int (N1 H.sh mk cs)),some (.str way),some (.str (flp way)),some (.ref o),some (.ref sp),some (.ref sq),some (.int (P[i]:Int)),some (.int (xsA H.sh cs P i+wOf H.sh (cnA cs P[i]))),e14]) (h':=h7) (by simp_arith[w1,sp0,w3,ce0,w4,a9R])]
  simp_arith[w2,sp0,a9R,tot,nei])
 rw[seq q1]
 rw[seq (env':=[e0,some T,some (.ref n),some (.ref q),some (.ref s),some (.ref v),some (.int (N1 H.sh mk cs)),some (.str way),some (.str (flp way)),some (.ref o),some (.ref sp),some (.ref sq),e12',e13',some (.ref pl)]) (h':=h9) (by
  simp_arith[cp (ee:=[e0,some T,some (.ref n),some (.ref q),some (.ref s),some (.ref v),some (.int (N1 H.sh mk cs)),some (.str way),some (.str (flp way)),some (.ref o),some (.ref sp),some (.ref sq),e12',e13',e14]) rfl rfl,s9])]
 rw[seq (env':=[e0,some T,some (.ref n),some (.ref q),some (.ref s),some (.ref v),some (.int (N1 H.sh mk cs)),some (.str way),some (.str (flp way)),some (.ref o),some (.ref sp),some (.ref sq),e12',e13',some (.ref pl)]) (h':=h12) (by
  unfold b9a;simp_arith[a5m,s10,nw,eqr,ib,c1,s12,n12])]
 rw[seq (env':=[e0,some T,some (.ref n),some (.ref q),some (.ref s),some (.ref v),some (.int (N1 H.sh mk cs)),some (.str way),some (.str (flp way)),some (.ref o),some (.ref sp),some (.ref sq),e12',e13',some (.ref pl)]) (h':=h12) (by simp_arith[s13,Bool.not_true]),a2z]
 exact⟨_,_,_,_,_,_,_,rfl,X12⟩
end
theorem b4R{l:List (Str×D)}(e:h[n]? =some (.lst (l.map fun p=>D.tup [.str p.1,p.2])))(nd:(l.map (·.1)).Nodup):biD .dict h [.ref n]=.ok (.ref h.length) (h++[.dict (kd l)]):=by
 have pr:∀l:List (Str×D),a5X (l.map fun p=>D.tup [.str p.1,p.2])=some (kd l):=fun l=>by
  induction l with
  |nil=>rfl
  |cons p r ih=>rw[map_cons,a5X,ay (show(G2 (D.str p.1)).isSome=true from rfl),ih];rfl
 have put:∀r pre:List (Str×D),((pre++r).map (·.1)).Nodup->(kd r).foldl (fun a p=>Y8 a p.1 p.2) (kd pre)=kd (pre++r):=fun r=>by
  induction r with
  |nil=>intro pre _;rw[bj];rfl
  |cons p r ih=>
   intro pre h
   have hp:p.1∉pre.map (·.1):=J7 (f:=fun q:Str×D=>q.1) h rfl
   rw[show kd (p::r)=(.str p.1,p.2)::kd r from rfl,foldl_cons]
   show List.foldl _ (Y8 (kd pre) (.str p.1) p.2) (kd r)=_
   rw[a6Z hp,ih (pre++[(p.1,p.2)]) (by rw[aA];exact h),aA]
   rfl
 simp only[biD,e,b0H e,pr,o9];rw[show(kd l).foldl (fun a p=>Y8 a p.1 p.2) []=kd l from put l [] nd]
section
variable{F:Nat->Option Fn}(W:PF F)
include W
theorem b6J{d:Nat}(hns:ns.length<=63)(W2:P42 F)(f201:F 201=some x0)(f202:F 202=some o3)(f203:F 203=some n8)(f204:F 204=some v8)(f205:F 205=some u6)(f206:F 206=some z5)(f207:F 207=some w5)(f208:F 208=some v0)(f209:F 209=some v5)(f211:F 211=some z4)(f212:F 212=some F5)(f213:F 213=some w6)(f215:F 215=some C1)(f217:F 217=some D2)(f218:F 218=some F0)(f222:F 222=some a6q)(hin:ct.init 6=32):∃h',b0 ct F (d+11) 222 [.ref 0] [.rol (ns.map .int)]=.ok (.bl true) h':=by
 generalize hg0:[Cell.rol (ns.map .int)]=g0
 have hr:g0[0]? =some (.rol (ns.map .int)):=by rw[←hg0];rfl
 obtain⟨H,g,a,b,c,d',e,f,i,j,K,P0,A,hH⟩:=b4s (ct:=ct) (k:=d+7) (n:=0) (m:=0) (ns:=ns) (h:=g0) f201 f202 f203 f204 f205 f206 f207 f208 f209 f211 f212 hr rfl;have hT:=b1M (ct:=ct) (k:=d+8) K f213 f215 A;obtain⟨h,ht,hA,hR⟩:=a4K (ct:=ct) (d:=d+8) (h:=g) (text:=a6o H) (H':=a1P H) W hin (by have:=b2X K;omega) (by rw[a8R K];exact a9e W K)
 have P1:Pf g h:=⟨by rw[←ht,aM];omega,fun i hi=>by
  have:(h.take g.length)[i]? =g[i]? :=by rw[ht]
  rw[←this,bJ hi]⟩
 have as:=P1.at A.sh;have am:=P1.at A.mr;have a0:=P1.at (P0.at hr)
 have t0:∀h,ixD h (.tup [.ref a,.ref b,.ref c,.ref d',.ref e,.ref f,.ref i,.ref j]) (.int 0)=.ok (.ref a) h:=fun h=>ix_tup (i:=0) rfl
 have t1:∀h,ixD h (.tup [.ref a,.ref b,.ref c,.ref d',.ref e,.ref f,.ref i,.ref j]) (.int 1)=.ok (.ref b) h:=fun h=>ix_tup (i:=1) rfl
 generalize hTt:D.tup [.ref a,.ref b,.ref c,.ref d',.ref e,.ref f,.ref i,.ref j]=T at hH hT t0 t1;have dd:=b4R (l:=H.sh.map fun p=>(p.1,.int (p.2:Int))) (show h[a]? =some (.lst ((H.sh.map fun p=>(p.1,D.int (p.2:Int))).map fun p=>D.tup [.str p.1,p.2])) by rw[aH];exact as) (by rw[a2i];exact K.sh.nd)
 have aQ:(h++[Cell.dict (kd (H.sh.map fun p=>(p.1,D.int (p.2:Int))))])[h.length]? =some (.dict (kd (H.sh.map fun p=>(p.1,.int (p.2:Int))))):=b6
 replace as:=b5 (g:=[.dict (kd (H.sh.map fun p=>(p.1,.int (p.2:Int))))]) as
 replace am:=b5 (g:=[.dict (kd (H.sh.map fun p=>(p.1,.int (p.2:Int))))]) am
 replace a0:=b5 (g:=[.dict (kd (H.sh.map fun p=>(p.1,.int (p.2:Int))))]) a0
 replace hA:=hA.app [.dict (kd (H.sh.map fun p=>(p.1,.int (p.2:Int))))]
 generalize h.length=q at dd aQ;generalize hh0:h++[Cell.dict (kd (H.sh.map fun p=>(p.1,D.int (p.2:Int))))]=h0 at dd aQ as am a0 hA
 obtain⟨cs,⟨c1,C⟩,c2,c3⟩:=b2y (ct:=ct) (k:=d+8) f202 f217 hns K.sh a0 as
 have aS:(h0++[Cell.lst (cs.map ceD)])[h0.length]? =some (.lst (cs.map ceD)):=b6
 replace aQ:=b5 (g:=[.lst (cs.map ceD)]) aQ
 replace am:=b5 (g:=[.lst (cs.map ceD)]) am
 replace a0:=b5 (g:=[.lst (cs.map ceD)]) a0
 replace hA:=hA.app [.lst (cs.map ceD)]
 generalize h0.length=s at c3 aS;generalize h0++[Cell.lst (cs.map ceD)]=x1 at c3 aS am a0 hA aQ
 have ck:ev ct (b0 ct F (d+10)) lwK [some (.ref 0),some T,some (.ref g.length),some (.ref q),some (.ref s),none,none,none,none,none,none,none,none,none,none] x1=.ok (.ref x1.length) (x1++[.lst ((cs.map fun c=>(c.k:Int)).map .int)]):=by
  unfold lwK
  rw[A9 (l:=cs.map ceD) (g:=[(s,.lst (cs.map ceD))]) (h1:=x1) (by simp_arith[V5,aS]) (by simp only[gOk,all_cons,all_nil,aS];simp) (fun x=>match x with
   |.tup [_,.tup l]=>.int (l.length:Int)
   |_=>.non) (fun x=>[some x]) (fun x hx=>by
   obtain⟨c,_,rfl⟩:=ak.mp hx;refine⟨rfl,?_⟩
   simp_arith[ce1,a1t]
   show R.ok (D.int (c.k:Int)) x1=R.ok (D.int ((L8 (c.lo:Int) c.k).length:Int)) x1
   rw[a4I]) (by rw[aa];show _<=16777216;omega)]
  congr 2;rw[aH,aH];congr 2;refine bf fun c _=>?_
  show D.int ((L8 (c.lo:Int) c.k).length:Int)=D.int (c.k:Int)
  rw[a4I]
 have sm:=a7H (h:=x1) (l:=cs.map fun c=>(c.k:Int))
 rw[b0j] at sm
 have kl:B9 cs<=300:=by
  have:∀l:List Ce,(∀c∈l,c.k<=4)->B9 l<=4*l.length:=fun l=>by
   induction l with
   |nil=>intro _;exact ai _
   |cons c r ih=>
    intro hh
    have:=ih fun x hx=>hh x (.tail _ hx)
    have:=hh c (.head _)
    unfold B9 at*
    rw[map_cons,sum_cons,length_cons];omega
  have:=this cs fun c hc=>by
   obtain⟨t,ht⟩:=bm hc
   exact(C.lo t c ht).2
  omega
 obtain⟨ws,w1,w2,w3⟩:=b2V (ct:=ct) (k:=d+8) (T:=B9 cs) f201 f202 f218 (b5 (g:=[.lst ((cs.map fun c=>(c.k:Int)).map .int)]) a0) kl
 replace aS:=b5 (g:=[.lst ((cs.map fun c=>(c.k:Int)).map .int)]) aS
 replace aQ:=b5 (g:=[.lst ((cs.map fun c=>(c.k:Int)).map .int)]) aQ
 replace am:=b5 (g:=[.lst ((cs.map fun c=>(c.k:Int)).map .int)]) am
 replace hA:=hA.app [.lst ((cs.map fun c=>(c.k:Int)).map .int)]
 generalize x1.length=y1 at ck sm;generalize x1++[Cell.lst ((cs.map fun c=>(c.k:Int)).map .int)]=x2 at ck sm aS am hA w3 aQ
 have aW:(x2++[Cell.lst (ws.map .str)])[x2.length]? =some (.lst (ws.map .str)):=b6
 replace aS:=b5 (g:=[.lst (ws.map .str)]) aS
 replace aQ:=b5 (g:=[.lst (ws.map .str)]) aQ
 replace am:=b5 (g:=[.lst (ws.map .str)]) am
 replace hA:=hA.app [.lst (ws.map .str)]
 generalize x2.length=v at w3 aW;generalize x2++[Cell.lst (ws.map .str)]=x3 at w3 aS am hA aW aQ;have wd:=a8P (ct:=ct) (k:=d+9) W2.f42 hA aS c1 (by omega)
 have dz:∀ee,ev ct (b0 ct F (d+10)) b6G ee x3=.ok (.ref x3.length) (x3++[.lst [.tup [.str "left",.str "right"],.tup [.str "right",.str "left"]]]):=fun ee=>by
  unfold b6G;simp_arith[o9]
 replace aS:=b5 (g:=[.lst [.tup [.str "left",.str "right"],.tup [.str "right",.str "left"]]]) aS
 replace aQ:=b5 (g:=[.lst [.tup [.str "left",.str "right"],.tup [.str "right",.str "left"]]]) aQ
 replace aW:=b5 (g:=[.lst [.tup [.str "left",.str "right"],.tup [.str "right",.str "left"]]]) aW
 replace hA:=hA.app [.lst [.tup [.str "left",.str "right"],.tup [.str "right",.str "left"]]]
 have aL:(x3++[Cell.lst [.tup [.str "left",.str "right"],.tup [.str "right",.str "left"]]])[x3.length]? =some (.lst [.tup [.str "left",.str "right"],.tup [.str "right",.str "left"]]):=b6
 generalize x3.length=zl at dz aL;generalize hx4:x3++[Cell.lst [.tup [.str "left",.str "right"],.tup [.str "right",.str "left"]]]=x4 at dz aL aS aQ aW hA
 obtain⟨env',h',q1,y7,y8,y9,y10,y11,y12,y13,y14,rfl,q2⟩:=z3 (g:=[(zl,.lst [.tup [.str "left",.str "right"],.tup [.str "right",.str "left"]])]) (p:=.tp (.cons (.nm 7) (.cons (.nm 8) .nil))) (body:=exs ct (b0 ct F (d+10)) b4e) (fun j env hh=>∃y7 y8 y9 y10 y11 y12 y13 y14,env=[some (.ref 0),some T,some (.ref g.length),some (.ref q),some (.ref s),some (.ref v),some (.int (N1 H.sh (H.mr.map (·.n)) cs)),y7,y8,y9,y10,y11,y12,y13,y14]/\Pf x4 hh) (fun j env hh hP=>by
  obtain⟨_,_,_,_,_,_,_,_,_,P⟩:=hP;simp[gOk,P.at aL]) [.tup [.str "left",.str "right"],.tup [.str "right",.str "left"]] 0 [some (.ref 0),some T,some (.ref g.length),some (.ref q),some (.ref s),some (.ref v),some (.int (N1 H.sh (H.mr.map (·.n)) cs)),none,none,none,none,none,none,none,none] x4 (fun j x env hh hx hP=>by
  obtain⟨y7,y8,y9,y10,y11,y12,y13,y14,rfl,P⟩:=hP
  obtain⟨way,hy,rfl⟩:∃way:Str,LR way/\x=.tup [.str way,.str (flp way)]:=by
   rcases aE.mp (aG hx) with rfl|hx
   · exact⟨"left",.inl rfl,rfl⟩
   · obtain rfl:=aO.mp hx;exact⟨"right",.inr rfl,rfl⟩
  obtain⟨x9,x10,x11,x12,x13,x14,h',st,P'⟩:=b3j (ct:=ct) (F:=F) (k:=d+6) (T:=T) (e0:=some (.ref 0)) (e9:=y9) (e10:=y10) (e11:=y11) (e12:=y12) (e13:=y13) (e14:=y14) W2 K (hA.mono P) (P.at aQ) C (P.at aS) (P.at aW) w1 w2 c2 c1 (by omega) hy
  exact⟨_,_,_,rfl,st,_,_,_,_,_,_,_,_,rfl,P.trans P'⟩) ⟨_,_,_,_,_,_,_,_,rfl,Pf.refl _⟩
 rw[l7 f222 rfl];simp only[b6K];rw[gc0];refine⟨h',?_⟩
 show O6 (exs ct (b0 ct F (d+10)) _ [some (.ref 0),none,none,none,none,none,none,none,none,none,none,none,none,none,none] g0)=_
 rw[seq (env':=[some (.ref 0),some T,none,none,none,none,none,none,none,none,none,none,none,none,none]) (h':=g) (by simp_arith[show b0 ct F (d+10) 212 [.ref 0,.int 0] g0=.ok T g from hH])]
 rw[seq (env':=[some (.ref 0),some T,some (.ref g.length),none,none,none,none,none,none,none,none,none,none,none,none]) (h':=h) (by simp_arith[hT,hR])]
 rw[seq (env':=[some (.ref 0),some T,some (.ref g.length),some (.ref q),none,none,none,none,none,none,none,none,none,none,none]) (h':=h0) (by simp_arith[t0,dd])]
 rw[seq (env':=[some (.ref 0),some T,some (.ref g.length),some (.ref q),some (.ref s),none,none,none,none,none,none,none,none,none,none]) (h':=x1) (by simp_arith[t0,c3])]
 rw[seq (env':=[some (.ref 0),some T,some (.ref g.length),some (.ref q),some (.ref s),some (.ref v),none,none,none,none,none,none,none,none,none]) (h':=x3) (by simp_arith[ck,sm,w3])]
 rw[seq (env':=[some (.ref 0),some T,some (.ref g.length),some (.ref q),some (.ref s),some (.ref v),some (.int (N1 H.sh (H.mr.map (·.n)) cs)),none,none,none,none,none,none,none,none]) (h':=x3) (by simp_arith[wd])]
 rw[seq (env':=_) (h':=h') (by rw[a5l,a0F,dz,b8];simp only[V5,aL];rw[b8];exact q1)]
 simp_arith[]
end
end EV
namespace K42
open PySem L2 EV
theorem pf:PF F:=⟨rfl,rfl,rfl,rfl,rfl,rfl,rfl,rfl,rfl,rfl,rfl,rfl,rfl,rfl,rfl,rfl,rfl,rfl,rfl,rfl,rfl,rfl,rfl,rfl,rfl,rfl,rfl,rfl,rfl,rfl,rfl,rfl⟩
theorem pf2:P42 F:=⟨rfl,rfl,rfl,rfl,rfl,rfl,rfl,rfl,rfl,rfl,rfl,rfl,rfl⟩
end K42
theorem a7l:∀ns:List Int,ns.length<=63->∃h',EV.b0 K42.ct K42.F 20 222 [.ref 0] [.rol (ns.map .int)]=.ok (.bl true) h':=fun ns hl=>EV.b6J (d:=9) K42.pf hl K42.pf2 rfl rfl rfl rfl rfl rfl rfl rfl rfl rfl rfl rfl rfl rfl rfl rfl rfl
open PySem PySem.W PyProof.Rows
end
namespace PySem.W.Fast
def tw15841114028514075813:Nat:=0
def tw3094701115853657799:Nat:=0
def tw1647960591809683682:Nat:=0
def tw8717019065884648586:Nat:=0
def tw2434112321517249124:Nat:=0
def tw7720780561247159150:Nat:=0
def tw249544735940254359:Nat:=0
def tw3699721879717830906:Nat:=0
def tw7728505851042324541:Nat:=0
def tw1463808809291474144:Nat:=0
def tw8247945609908704884:Nat:=0
def tw12523711969749109062:Nat:=0
def tw2947586027576077979:Nat:=0
def tw3603605348021866008:Nat:=0
def tw12857750549838433791:Nat:=0
def tw17837415989878807268:Nat:=0
def tw3871590986955078291:Nat:=0
def tw5260856337621036202:Nat:=0
def tw14889595167817102546:Nat:=0
def tw2969480146181677978:Nat:=0
def tw11081772624950168284:Nat:=0
def tw6017506618534441898:Nat:=0
def tw10667965978278278033:Nat:=0
def tw16317983856663788926:Nat:=0
def tw4188684199736651882:Nat:=0
def tw11712190458185945011:Nat:=0
def tw4340971767527515617:Nat:=0
def tw5835942142707902020:Nat:=0
def tw10015450608781386451:Nat:=0
def tw69414778264802052:Nat:=0
def tw13436231055378572716:Nat:=0
def tw1322031339247656150:Nat:=0
def tw17847650733935569616:Nat:=0
def tw9563574807059059695:Nat:=0
def tw1906743188756502811:Nat:=0
def tw12976177241038019767:Nat:=0
def tw11930311979851757478:Nat:=0
def tw9685044298169568939:Nat:=0
def tw7158441374720773216:Nat:=0
def tw6606014719576569030:Nat:=0
def tw12694112234171929671:Nat:=0
def tw4491058772748593153:Nat:=0
def tw12533650973541477374:Nat:=0
def tw1165732905965986049:Nat:=0
def tw13426244417702134072:Nat:=0
def tw18182889222666715495:Nat:=0
def tw16607927582987124570:Nat:=0
def tw4843473975253519250:Nat:=0
def tw3103751414666246812:Nat:=0
def tw17643754061406199020:Nat:=0
def tw3934833063311361131:Nat:=0
def tw9840342860782594374:Nat:=0
def tw7492102371377302679:Nat:=0
def tw14712817762504950641:Nat:=0
def tw14869557710840242666:Nat:=0
def tw7942853410682446962:Nat:=0
def tw1354003750591732747:Nat:=0
def tw11187973929812520656:Nat:=0
def tw16629561534657121264:Nat:=0
def tw7042659310547366237:Nat:=0
def tw4203021270051977171:Nat:=0
def tw1147522009701800784:Nat:=0
def tw15078095837771203109:Nat:=0
def tw8237626310708396552:Nat:=0
def tw3016012700857477809:Nat:=0
def tw6784790241324674965:Nat:=0
def tw15679247252792206210:Nat:=0
def tw5105673956185107153:Nat:=0
def tw11300376045408061371:Nat:=0
def tw12068798485007620914:Nat:=0
def tw12487779173672901959:Nat:=0
def tw12319047049370110589:Nat:=0
def tw5587484289544270231:Nat:=0
def tw14245618210516037357:Nat:=0
def tw9161490523856799436:Nat:=0
def tw7317234293075219:Nat:=0
def tw5680315236850328200:Nat:=0
def tw14949513074056673275:Nat:=0
def tw8174591469460913490:Nat:=0
def tw15886500619415505586:Nat:=0
def tw3664731896753646195:Nat:=0
def tw8605165415444627158:Nat:=0
def tw4584130408075211490:Nat:=0
def tw11887224372650548316:Nat:=0
def tw4475145619620083286:Nat:=0
def tw11654023200298843171:Nat:=0
def tw17338234738716814015:Nat:=0
def tw14398365135244066966:Nat:=0
def tw10241233070082051121:Nat:=0
def tw6664951462986138201:Nat:=0
def tw17619882183920601743:Nat:=0
def tw1620389302784492585:Nat:=0
def tw10131873952172028942:Nat:=0
def tw9192171586001469603:Nat:=0
def tw17960406059949683352:Nat:=0
def tw14987661418082201831:Nat:=0
def tw4621932581444047675:Nat:=0
def tw7215932318001415403:Nat:=0
def tw17845374550828520631:Nat:=0
def tw13508602156133886167:Nat:=0
def tw5310652868755799522:Nat:=0
def tw12941643214049860704:Nat:=0
def tw16968176118458789586:Nat:=0
def tw8553059368797141306:Nat:=0
def tw8426798971799828003:Nat:=0
def tw316514102143019080:Nat:=0
def tw11002848052431835627:Nat:=0
def tw13553050674002434610:Nat:=0
def tw12434779806091606683:Nat:=0
def tw6737687440995333003:Nat:=0
def tw8160871880118814707:Nat:=0
def tw16655083059833703075:Nat:=0
def tw7910172739516966087:Nat:=0
def tw18221076124747093969:Nat:=0
def tw16932301668260661676:Nat:=0
def tw16408362238061914836:Nat:=0
def tw17427895641331663283:Nat:=0
def tw6731276024794131016:Nat:=0
def tw8454840944936950519:Nat:=0
def tw4033379813872489195:Nat:=0
def tw14613296582639449008:Nat:=0
def tw5485572742587201778:Nat:=0
def tw6873971014812347169:Nat:=0
def tw17882641709403210578:Nat:=0
def tw17996964024917085871:Nat:=0
def tw5015507407206683207:Nat:=0
def tw2133357390318303931:Nat:=0
def tw8697654515486363317:Nat:=0
def tw15755044616229629136:Nat:=0
def tw7097827964152542560:Nat:=0
def tw7524379617451308511:Nat:=0
def tw12325562205625792791:Nat:=0
def tw17094580856887593759:Nat:=0
def tw7618804249908900691:Nat:=0
def tw6728313399510405491:Nat:=0
def tw17590088832654516399:Nat:=0
def tw16266442582153907279:Nat:=0
def tw3471986238504059686:Nat:=0
def tw16286715671046524454:Nat:=0
def tw12712400820596877648:Nat:=0
def tw15515405784836723652:Nat:=0
def tw1611551182742943237:Nat:=0
def tw13055661147411815287:Nat:=0
def tw15508019666092448443:Nat:=0
def tw10199354318988768051:Nat:=0
def tw11849525312028181438:Nat:=0
def tw17312996333117680517:Nat:=0
def tw14501001857826371202:Nat:=0
def tw18167724695441219349:Nat:=0
def tw16915470645016011554:Nat:=0
def tw9508736203920968164:Nat:=0
def tw11763852733077360975:Nat:=0
def tw17721039672839981703:Nat:=0
def tw12079628635447562283:Nat:=0
def tw10393078302967963895:Nat:=0
def tw10134030333460990790:Nat:=0
def tw15213048550514571353:Nat:=0
def tw4425046354534653865:Nat:=0
def tw7470021291188754609:Nat:=0
def tw12059592832596718669:Nat:=0
def tw517312751163448032:Nat:=0
def tw12661032092557703082:Nat:=0
def tw14805814515597417852:Nat:=0
def tw16745343075639119971:Nat:=0
def tw17960848765466677729:Nat:=0
def tw14064692534454641163:Nat:=0
def tw17093224777342109595:Nat:=0
def tw3822784309164373692:Nat:=0
def tw2202087279664922802:Nat:=0
def tw6662249597110656733:Nat:=0
def tw3992908553847606798:Nat:=0
def tw14731147920152588799:Nat:=0
def tw14650769484350525481:Nat:=0
def tw1391549112126926301:Nat:=0
def tw17849293660312457548:Nat:=0
def tw2962324470309885386:Nat:=0
def tw1998032249293215463:Nat:=0
def tw16472409268878238316:Nat:=0
def tw6397798872860733234:Nat:=0
def tw4968929673044707356:Nat:=0
def tw8436589768386056944:Nat:=0
def tw2680141511932349947:Nat:=0
def tw2257529940240947247:Nat:=0
def tw4799189423077775474:Nat:=0
def tw6511239469406747073:Nat:=0
def tw3101917741504857134:Nat:=0
def tw11622863634709415212:Nat:=0
def tw3092117133297227249:Nat:=0
def tw12048056826642495367:Nat:=0
def tw7340446101256811000:Nat:=0
def tw7090585071989052306:Nat:=0
def tw5609530884314319229:Nat:=0
def tw2648174423076098445:Nat:=0
def tw14267268813261638861:Nat:=0
def tw8933567498414919238:Nat:=0
def tw5623994078177797194:Nat:=0
def tw17925384258215065573:Nat:=0
def tw15452572443179084588:Nat:=0
def tw13218621648322568166:Nat:=0
def tw12300527617525357084:Nat:=0
def tw12798869161161681673:Nat:=0
def tw5681066748535004433:Nat:=0
def tw4026151001005817321:Nat:=0
def tw10700183255674453818:Nat:=0
def tw16970792351503237766:Nat:=0
def tw16118103595353321548:Nat:=0
def tw8903238766108814736:Nat:=0
def tw734138898119960010:Nat:=0
def tw13829591483307370896:Nat:=0
def tw804092199982636349:Nat:=0
def tw9296360433889664002:Nat:=0
def tw4954584648838934644:Nat:=0
def tw2385268686561707046:Nat:=0
def tw13792483299354683862:Nat:=0
def tw8934421753687110507:Nat:=0
def tw8621301723031713458:Nat:=0
def tw7363425622247834253:Nat:=0
def tw1541540961381408409:Nat:=0
def tw13478877428745155630:Nat:=0
def tw1820406046763328738:Nat:=0
def tw1385777081429181588:Nat:=0
def tw9897558803702562313:Nat:=0
def tw9585978970863474492:Nat:=0
def tw8249347019533418915:Nat:=0
def tw802917404587063742:Nat:=0
def tw7825248364748044718:Nat:=0
def tw7586693836618795562:Nat:=0
def tw7076977106511060911:Nat:=0
def tw6771182271545134960:Nat:=0
def tw671769174312181376:Nat:=0
def tw5661640270340304354:Nat:=0
def tw5613845454599061817:Nat:=0
def tw5552461122284547459:Nat:=0
def tw5427499738942290107:Nat:=0
def tw539595736760451978:Nat:=0
def tw4636031889025220839:Nat:=0
def tw4268201051430804902:Nat:=0
def tw4177351759533223642:Nat:=0
def tw3904583755211930517:Nat:=0
def tw3808584094389355786:Nat:=0
def tw3482820431698744051:Nat:=0
def tw3373145609055282853:Nat:=0
def tw3121739546393284973:Nat:=0
def tw305048472116853797:Nat:=0
def tw2927799364441409784:Nat:=0
def tw2766794811542550618:Nat:=0
def tw2450569374399577549:Nat:=0
def tw1833547357909804662:Nat:=0
def tw17857563459279650048:Nat:=0
def tw17802128708061929859:Nat:=0
def tw17456480263006714056:Nat:=0
def tw17119971604622065936:Nat:=0
def tw16803143847538834185:Nat:=0
def tw16279701975793424917:Nat:=0
def tw15854262060937163188:Nat:=0
def tw14790834132378566595:Nat:=0
def tw14199714164133228370:Nat:=0
def tw14112606434462084385:Nat:=0
def tw13887902116395311400:Nat:=0
def tw12532165626772418067:Nat:=0
def tw11843833423457600547:Nat:=0
def tw11586196018267737339:Nat:=0
def tw11320351676317602388:Nat:=0
def tw10896712999787139778:Nat:=0
def tw10846345724684618374:Nat:=0
def tw10746989603658154836:Nat:=0
def tw10693841506766600124:Nat:=0
def tw13046492430161495056:Nat:=0
def tw17004574920194074796:Nat:=0
def tw8164005668110941744:Nat:=0
def tw644751248652905101:Nat:=0
def tw5738919822854818926:Nat:=0
def tw3083371992184736890:Nat:=0
def tw18012574323051992567:Nat:=0
def tw15536387163757344236:Nat:=0
def tw15431134087688302020:Nat:=0
def tw14734032772098568817:Nat:=0
def tw13481268755573549168:Nat:=0
def tw12514039047250868702:Nat:=0
def tw11069628954808310989:Nat:=0
def tw10497823618577955822:Nat:=0
def tw16749348522385944071:Nat:=0
def tw16504757533647375273:Nat:=0
def tw5036445103931068615:Nat:=0
def tw10299302589577801163:Nat:=0
def tw2852278927748849453:Nat:=0
def tw9835382159548102362:Nat:=0
def tw9455475090630465045:Nat:=0
def tw8131721106225051767:Nat:=0
def tw7317576523658780031:Nat:=0
def tw6315216371427503177:Nat:=0
def tw3302770140995672700:Nat:=0
def tw306725001281121169:Nat:=0
def tw2873748437651673626:Nat:=0
def tw16463793508043411602:Nat:=0
def tw13949155002146243131:Nat:=0
def tw13517250619966689955:Nat:=0
def tw13952158723898717365:Nat:=0
def tw17878424488110687958:Nat:=0
def tw11188117447681078326:Nat:=0
def tw9497945907656264259:Nat:=0
def tw4361700775904427359:Nat:=0
def tw10426125643436316091:Nat:=0
def tw6252695792229605141:Nat:=0
def tw5674458297940323589:Nat:=0
def tw9601000219436670146:Nat:=0
def tw9515242367644423802:Nat:=0
def tw9156678896304099913:Nat:=0
def tw742405457713269000:Nat:=0
def tw3520363519792060846:Nat:=0
def tw13698048360955963301:Nat:=0
def tw1349388230604553621:Nat:=0
def tw13402640891724300857:Nat:=0
def tw1176975735165151067:Nat:=0
def tw7537285074954141530:Nat:=0
def tw5312734613080425828:Nat:=0
def tw9761588102954696855:Nat:=0
def tw9715166753854553471:Nat:=0
def tw8891557043749499067:Nat:=0
def tw8824595633291508535:Nat:=0
def tw8621336744817483243:Nat:=0
def tw8526028360262338249:Nat:=0
def tw8369868683130302868:Nat:=0
def tw8078195926588453703:Nat:=0
def tw7945405709010385892:Nat:=0
def tw7894344252036594922:Nat:=0
def tw7875376050956498882:Nat:=0
def tw7717702957765121957:Nat:=0
def tw7388713464098733815:Nat:=0
def tw7343611390307366373:Nat:=0
def tw729466047920990731:Nat:=0
def tw726985913927333873:Nat:=0
def tw6905212232875527693:Nat:=0
def tw6834397320308548248:Nat:=0
def tw6788773261714906821:Nat:=0
def tw670427922429333600:Nat:=0
def tw6623812351622530092:Nat:=0
def tw6585068141940680455:Nat:=0
def tw6205024481829086969:Nat:=0
def tw5916140570258018564:Nat:=0
def tw5845538515087863352:Nat:=0
def tw5713610079918043996:Nat:=0
def tw5426448371682200115:Nat:=0
def tw5425125011635884837:Nat:=0
def tw5388663596951873645:Nat:=0
def tw5353813085845620550:Nat:=0
def tw529536973988259948:Nat:=0
def tw5030944203280556702:Nat:=0
def tw5011889884212318148:Nat:=0
def tw4626940704210403192:Nat:=0
def tw4419873286371483742:Nat:=0
def tw438459731153329746:Nat:=0
def tw4211952112222678748:Nat:=0
def tw4211700434839312001:Nat:=0
def tw4179031660912777645:Nat:=0
def tw4038909232737020655:Nat:=0
def tw3942624392001961204:Nat:=0
def tw3369663099759083609:Nat:=0
def tw3345597093286824917:Nat:=0
def tw317932667124481529:Nat:=0
def tw3172541193896328996:Nat:=0
def tw274189353798237994:Nat:=0
def tw2484844197603217540:Nat:=0
def tw2456577590951144490:Nat:=0
def tw234749781942434899:Nat:=0
def tw18431155831084640082:Nat:=0
def tw18329075359065952542:Nat:=0
def tw18277388166739348960:Nat:=0
def tw18042889414512086050:Nat:=0
def tw17969941481158815411:Nat:=0
def tw17698735102306075112:Nat:=0
def tw17601101962401091345:Nat:=0
def tw17513604867990543079:Nat:=0
def tw17334881123488906936:Nat:=0
def tw16950569574821323974:Nat:=0
def tw16550838102048051623:Nat:=0
def tw16172578528114110199:Nat:=0
def tw16131593051203169754:Nat:=0
def tw16002967266952078866:Nat:=0
def tw15845117809764550140:Nat:=0
def tw15724745641170818534:Nat:=0
def tw1567247161763788871:Nat:=0
def tw15545184769064153574:Nat:=0
def tw15261137711255440680:Nat:=0
def tw15223397061033166810:Nat:=0
def tw15155859288707382567:Nat:=0
def tw15137687247720179910:Nat:=0
def tw15069716523494295500:Nat:=0
def tw14722794537435163219:Nat:=0
def tw14678158920106854735:Nat:=0
def tw14566440943485919492:Nat:=0
def tw14495299557687959983:Nat:=0
def tw14439765378166140033:Nat:=0
def tw14374603453287560736:Nat:=0
def tw14323227155912201964:Nat:=0
def tw14191745827877185554:Nat:=0
def tw13989995598129119793:Nat:=0
def tw13840814423707232359:Nat:=0
def tw13350131943787299761:Nat:=0
def tw13323373534744806615:Nat:=0
end PySem.W.Fast
open_top head for PySem.Challenge.rw_glyphhall_k42_seen_from_the_other_side
theorem PySem.Challenge.cw_glyphhall_k42_seen_from_the_other_side_holds : PySem.Challenge.rw_glyphhall_k42_seen_from_the_other_side.Holds :=
 head (by
 refine K42.b8h (l:=PySem.Challenge.rw_glyphhall_k42_seen_from_the_other_side) (n:=63) (k:=46) (x:="_law_script") (CX:=fun _=>L2.CX0) (sp:=K42.spK) rfl (by decide) rfl ⟨rfl,by decide,by decide⟩ (fun w h Y=>PySem.W.kIn_of Y) ?F ?S ?C
 case F=>
  intro w mg fa h KX G hmg
  have T:∃cA,K42.DfE (L2.KOf KX) "law" (K42.top 89)/\∀{h:Heap} {mg:Str->Option Value},(L2.KOf KX).In h->h.Ns mainGlobals mg->EV.Stat PySem.Challenge.rw_glyphhall_k42_seen_from_the_other_side.prog w ⟨L2.KOf KX,cA,[6],[]⟩ K42.G K42.ct K42.F mg:=by
   dsimp only[L2.KOf]
   clear hmg
   refine' K42.b3l ?a0 ?a1 ?a2 ?a3 ?a4 ?a5 ?a6 ?a7 ?a8 ?a9 ?a10 ?a11 ?a12 ?a13 ?a14 ?a15 ?a16 ?a17 ?a18 ?a19 ?a20 ?a21 ?a22 ?a23 ?a24 ?a25 ?a26 ?a27 ?a28 ?a29 ?a30 ?a31 ?a32 ?a33 ?a34 ?a35 ?a36 ?a37 ?a38 ?a39 ?a40 ?a41 ?a42 ?a43 ?a44 ?a45 ?a46 ?a47 ?a48 ?a49 ?a50 ?a51 ?a52 ?a53 ?a54 ?a55 ?a56 ?a57 ?a58 ?a59 ?a60 ?a61 ?a62 ?a63 ?a64 ?a65 ?a66 ?a67 ?a68 ?a69 ?a70 ?a71 ?a72 ?a73 ?a74 ?a75 ?a76 ?a77 ?a78 ?a79 ?a80 ?a81 ?a82 ?a83 ?a84 ?a85 ?a86 ?a87 ?a88 ?a89 ?a90 ?a91 ?a92 ?a93 ?a94 ?a95 ?a96 ?a97 ?a98 ?a99 ?a100 ?a101 ?a102 ?a103 ?a104 ?a105 ?a106 ?a107
   (case a0|a83|a84|a85|a86|a87|a88|a89|a90|a91|a92|a93|a94|a95|a96|a97|a98|a99|a100|a101|a102|a103|a104|a105|a106|a107=>k_is)
   (case a1|a2|a3|a4|a5|a6|a7|a8|a9|a10|a11|a12|a13|a14|a15|a16|a17|a18|a19|a20|a21|a22|a23|a24|a25|a26|a27|a28|a29|a30|a31|a32|a33|a34|a35|a36|a37|a38|a39|a40|a41|a42|a43|a44|a45|a46|a47|a48|a49|a50|a51|a52|a53|a54|a55|a56|a57|a58|a59|a60|a61|a62=>refine' K42.b9y ?x ?y ?z ?u;(case x=>k_is);(case y=>k_is);(case z=>k_is);(case u=>k_is))
   (case a63|a64|a65=>refine' K42.b5J ?e1;(case e1=>k_is))
   (case a66|a67|a68|a69|a70|a71|a72|a73|a74|a75|a76=>refine' K42.b6X ?e1;(case e1=>k_is))
   (case a77|a78=>refine' K42.b3a ?e1 ?e2;(case e1=>k_is);(case e2=>k_is))
   (case a79=>refine' K42.b2Z ?e1 ?e2;(case e1=>k_is);(case e2=>k_is))
   (case a80=>refine' K42.b4S ?e1 ?e2 ?e3 ?e4 ?e5 ?e6 ?e7 ?e8;(case e1=>k_is);(case e2=>k_is);(case e3=>decide);(case e4=>rfl);(case e5=>rfl);(case e6=>rfl);(case e7=>rfl);(case e8=>decide))
   (case a81=>refine' K42.b4t ?m1 ?m2 ?m3 ?m4 ?e2 ?e3 ?e4;(case m1=>k_is);(case m2=>k_is);(case m3=>k_is);(case m4=>k_is);(case e2=>k_is);(case e3=>k_is);(case e4=>k_is))
   (case a82=>refine' ⟨?p1,?p2,?p3,?p4⟩;(case p1=>k_is);(case p2=>k_is);(case p3=>k_is);(case p4=>k_is))
  obtain⟨cA,D,T⟩:=T;obtain⟨fd,h1,h2⟩:=K42.b7g D (T KX G) KX G hmg;exact⟨fd,h1,fun base _ _=>h2 base⟩
 case S=>
  intro w H a ns hl hO hS;refine K42.b6I a7l ?nl hl hO hS
  (case nl=>kernel_rfl)
 case C=>exact fun w H s e s' z=>z)
