import PyProof.Rows.All
import Wide.All
import OpenK.AllK
import Wide.FinOn
import Lean
import PyProof.EqAt
import PyProof.EqKinds
import PyProof.TupleCall
import PySem.Challenge.RW_boardsight_k82_yards_keep_their_own
set_option Elab.async false
set_option linter.all false
set_option maxRecDepth 100000
def xaa:=@List.length_map
def xab:=@List.getElem?_eq_getElem
def xac:=@List.getD_eq_getElem?_getD
def xad:=@List.mem_cons
def xae:=@List.not_mem_nil
def xaf:=@List.length_append
def xag:=@List.size_toArray
def xah:=@List.map_append
def xai:=@List.getElem?_map
def xaj:=@Nat.le_refl
def xak:=@List.length_take
def xal:=@Nat.lt_of_lt_of_le
def xam:=@Int.emod_lt_of_pos
def xan:=@List.getElem?_eq_some_iff
def xao:=@List.length_drop
def xap:=@Bool.false_ne_true
def xaq:=@Int.emod_nonneg
def xar:=@List.mem_cons_of_mem
def xas:=@List.mem_of_getElem?
def xat:=@Int.ediv_mul_cancel
def xau:=@Nat.ne_of_lt
def xav:=@List.length_cons
def xaw:=@List.lookup_cons
def xax:=@List.mem_append
def xay:=@List.mem_singleton
def xaz:=@List.mem_append_right
def xaA:=@Nat.le_trans
def xaB:=@Int.mul_eq_zero
def xaC:=@List.mem_map
def xaD:=@List.getElem?_append_left
def xaE:=@Bool.and_eq_true
def xaF:=@Nat.mod_eq_of_lt
def xaG:=@List.getElem?_append_right
def xaH:=@Int.ediv_nonneg
def xaI:=@Nat.le_of_lt
def xaJ:=@List.map_cons
def xaK:=@List.map_drop
def xaL:=@List.mem_cons_self
def xaM:=@List.map_take
def xaN:=@List.mem_of_mem_take
def xaO:=@List.eraseIdx_eq_take_drop_succ
def xaP:=@List.getElem?_of_mem
def xaQ:=@List.mem_of_mem_drop
def xaR:=@Nat.mod_lt
def xaS:=@List.all_eq_true
def xaT:=@Nat.zero_le
def xaU:=@List.length_reverse
def xaV:=@List.length_replicate
def xaW:=@List.dropLast_concat_getLast
def xaX:=@List.mem_range
def xaY:=@Nat.lt_irrefl
def xaZ:=@List.reverse_cons
def xa0:=@Int.zero_mul
def xa1:=@Nat.lt_of_le_of_lt
def xa2:=@List.take_length
def xa3:=@List.take_add_one
def xa4:=@Nat.lt_succ_of_lt
def xa5:=@Option.map_eq_some_iff
def xa6:=@Int.natAbs_ediv_le_natAbs
def xa7:=@Classical.byContradiction
def xa8:=@Int.mul_pos
def xa9:=@List.findIdx_lt_length_of_exists
def xba:=@Bool.and_eq_true_iff
def xbb:=@List.getElem_mem
def xbc:=@List.map_reverse
def xbd:=@List.getElem?_eq_none
def xbe:=@Int.toNat_natCast
def xbf:=@List.length_range
def xbg:=@List.mem_append_left
def xbh:=@List.dropLast_concat
def xbi:=@List.getLast?_append
def xbj:=@List.getElem?_eq_none_iff
def xbk:=@List.filterMap_cons
def xbl:=@Nat.le_succ
def xbm:=@Option.isSome_iff_exists
def xbn:=@List.getElem?_take_of_lt
def xbo:=@Bool.eq_iff_iff
def xbp:=@List.append_nil
def xbq:=@List.getElem?_replicate
def xbr:=@List.range_succ
def xbs:=@Int.dvd_trans
def xbt:=@Int.lt_or_gt_of_ne
def xbu:=@List.getElem?_set_self
def xbv:=@List.take_of_length_le
def xbw:=@List.eraseIdxIfInBounds_toArray
def xbx:=@List.findIdx_cons
def xby:=@Int.gcd_dvd_right
def xbz:=@List.getElem?_reverse
def xbA:=@Int.zero_add
def xbB:=@Nat.lt_succ_self
def xbC:=@Int.gcd_dvd_left
def xbD:=@List.getElem?_set_ne
def xbE:=@Nat.pow_le_pow_right
def xbF:=@List.take_nil
def xbG:=@List.nodup_cons
def xbH:=@List.of_mem_zip
def xbI:=@Int.dvd_coe_gcd
def xbJ:=@List.take_left'
def xbK:=@List.drop_left'
def xbL:=@Int.sub_mul
def xbM:=@List.mem_filterMap
def xbN:=@List.map_map
def xbO:=@List.getElem?_drop
def xbP:=@Int.natAbs_mul
def xbQ:=@Int.lt_trichotomy
def xbR:=@List.drop_nil
namespace L2
open PySem PySem.Spec PyProof.Rows
abbrev Key:=Sum Int Str
def jlQ:Key->Value->Bool
 | .inl k,v=>Value.isInt k v
 | .inr x,v=>Value.isStrOf x v
def keyH (w:World):Key->Int
 | .inl k=>hashInt k
 | .inr x=>hashStr w x
theorem ja6:∀{k:Key} {v:Value},jlQ k v=true->(∃i t,k=Sum.inl i/\v=Value.int i t)\/(∃x t,k=Sum.inr x/\v=Value.str x t)
  | .inl i, v, h => by
    obtain⟨t,e⟩:=Value.isInt_shape (k:=i) (v:=v) h;exact .inl ⟨i,t,rfl,e⟩
  | .inr x, v, h => by
    obtain⟨t,e⟩:=Value.isStrOf_shape (x:=x) (v:=v) h;exact .inr ⟨x,t,rfl,e⟩
theorem jlR (a b:Int):decide ((Sum.inl a:Key)=Sum.inl b)=(a==b):=by
 by_cases e:a=b
 ·subst e;simp
 ·have h:¬(Sum.inl a:Key)=Sum.inl b:=fun q=>e (Sum.inl.inj q);rw[decide_eq_false h];exact (beq_eq_false_iff_ne.mpr e).symm
theorem jlS (a b:Str):decide ((Sum.inr a:Key)=Sum.inr b)=decide (a=b):=by
 by_cases e:a=b
 ·subst e;simp
 ·have h:¬(Sum.inr a:Key)=Sum.inr b:=fun q=>e (Sum.inr.inj q);rw[decide_eq_false h,decide_eq_false e]
theorem jlT (a:Int) (b:Str):decide ((Sum.inl a:Key)=Sum.inr b)=false:=decide_eq_false (fun q=>nomatch q)
theorem jlU (a:Str) (b:Int):decide ((Sum.inr a:Key)=Sum.inl b)=false:=decide_eq_false (fun q=>nomatch q)
def jgh (prog:Program) (w:World):PySem.KeyKind prog w Key where
 is:=jlQ
 hash:=keyH w
 inj:=fun v a b ha hb=>by
  rcases ja6 ha with ⟨i,t,rfl,rfl⟩ | ⟨x,t,rfl,rfl⟩
  ·rcases ja6 hb with ⟨j,u,rfl,e⟩ | ⟨y,u,rfl,e⟩
   ·injection e with e1 _;rw[e1]
   ·exact nomatch e
  ·rcases ja6 hb with ⟨j,u,rfl,e⟩ | ⟨y,u,rfl,e⟩
   ·exact nomatch e
   ·injection e with e1 _;rw[e1]
 byValue:=fun k v h=>by
  rcases ja6 h with ⟨i,t,rfl,rfl⟩ | ⟨x,t,rfl,rfl⟩<;>rfl
 pyHash:=fun hv h=>by
  rcases ja6 hv with ⟨i,t,rfl,rfl⟩ | ⟨x,t,rfl,rfl⟩
  ·exact wpAny_pyHash_int h
  ·exact wpAny_pyHash_str h
 eqBool:=fun hu hv h=>by
  rcases ja6 hu with ⟨i,t,rfl,rfl⟩ | ⟨x,t,rfl,rfl⟩
  ·rcases ja6 hv with ⟨j,u,rfl,rfl⟩ | ⟨y,u,rfl,rfl⟩
   ·rw[jlR] at h;exact wpAny_eqBool_int h
   ·rw[jlT] at h;exact SeqAt.EqAt.int_str i t y u _ _ _ _ h
  ·rcases ja6 hv with ⟨j,u,rfl,rfl⟩ | ⟨y,u,rfl,rfl⟩
   ·rw[jlU] at h;exact SeqAt.EqAt.str_int x t j u _ _ _ _ h
   ·rw[jlS] at h;exact wpAny_eqBool_str h
 «strs»:=fun k x t v h=>by
  rcases ja6 h with ⟨i,u,rfl,e⟩ | ⟨y,u,rfl,e⟩
  ·exact nomatch e
  ·injection e with e1 _
   subst e1
   cases v<;>rfl
inductive V where
 | non | bl (b:Bool) | int (i:Int) | str (x:Str) | byt (b:Array UInt8) | flt (b:UInt64) | ref (a:Addr) | ty (n:String)
 deriving DecidableEq
def RelV:V->Value->Prop
 | .non,u=>u=Value.none
 | .bl b,u=>u=Value.bool b
 | .int i,u=>∃t,u=Value.int i t
 | .str x,u=>∃t,u=Value.str x t
 | .byt b,u=>∃t,u=Value.bytes b t
 | .flt b,u=>∃t,u=Value.float b t
 | .ref a,u=>u=Value.ref a
 | .ty n,u=>u=Value.type n
abbrev Vals:List V->List Value->Prop:=Paired RelV
theorem Vals.length {xs:List V} {us:List Value} (r:Vals xs us):xs.length=us.length:=Paired.length r
theorem Vals.get:∀{xs:List V} {us:List Value} {i:Nat} {x:V},Vals xs us->xs[i]?=some x->∃u,us[i]?=some u/\RelV x u
  | _,_,_,_,.nil,e=>by simp at e
  | _,_,0,_,.cons r _,e=>by simp at e;subst e;exact⟨_,rfl,r⟩
  | _, _, i + 1, x, .cons _ t, e => by
    obtain⟨u,h1,h2⟩:=Vals.get (i:=i) (x:=x) t (by simpa using e);exact⟨u,by simpa using h1,h2⟩
theorem Vals.set {x:V} {u:Value} (r:RelV x u):∀{xs:List V} {us:List Value} (i:Nat),Vals xs us->Vals (xs.set i x) (us.set i u)
 | _,_,_,.nil=>.nil
 | _,_,0,.cons _ t=>.cons r t
 | _,_,i+1,.cons q t=>.cons q (Vals.set r i t)
theorem Vals.append:∀{xs ys:List V} {us ws:List Value},Vals xs us->Vals ys ws->Vals (xs++ys) (us++ws)
 | _,_,_,_,.nil,s=>s
 | _,_,_,_,.cons r t,s=>.cons r (Vals.append t s)
theorem Vals.take:∀{xs:List V} {us:List Value} (n:Nat),Vals xs us->Vals (xs.take n) (us.take n)
 | _,_,0,_=>.nil
 | _,_,_+1,.nil=>.nil
 | _,_,n+1,.cons r t=>.cons r (Vals.take n t)
theorem Vals.drop:∀{xs:List V} {us:List Value} (n:Nat),Vals xs us->Vals (xs.drop n) (us.drop n)
 | _,_,0,r=>r
 | _,_,_+1,.nil=>.nil
 | _,_,n+1,.cons _ t=>Vals.drop n t
theorem Vals.none_of:∀{xs:List V} {us:List Value} {i:Nat},Vals xs us->xs[i]?=none->us[i]?=none:=fun {xs us i} r e=>by
 have h1:=r.length;have h2:xs.length<=i:=xbj.mp e;exact xbj.mpr (by omega)
def RelO:Option V->Option Value->Prop
 | some v,some u=>RelV v u
 | none,none=>True
 | _,_=>False
def KV {κ:Type}:List (κ × V)->List (κ × Value)->Prop:=Paired fun (p:κ × V) (q:κ × Value)=>p.1=q.1/\RelV p.2 q.2
def kV:Key->V
 | .inl i=>.int i
 | .inr x=>.str x
inductive HO where
 | lst (xs:List V)
 | tup (xs:List V)
 | dK (kvs:List (Key × V)) | dT (kvs:List (List Key × V))
 | set (S:Int->Bool) (n:Nat)
 | ins (C dx:Addr) (fs:List (Str × V))
 | own (x:Addr)
 | xd (fs:List (Str × V))
 | met (f x:Addr)
 | rng (lo hi:Int)
 | frz (o:Obj) (u:HO)
 | tbl (ps:Array Value)
 | ext (φ:Heap->Prop)
abbrev Hp:=Addr->Option HO
def upd (H:Hp) (a:Addr) (o:HO):Hp:=fun b=>if b=a then some o else H b
theorem upd_same {H:Hp} {a:Addr} {o:HO}:upd H a o a=some o:=by unfold upd;rw[if_pos rfl]
theorem jar {H:Hp} {a b:Addr} {o:HO} (h:b≠a):upd H a o b=H b:=by unfold upd;rw[if_neg h]
theorem ne_of {H:Hp} {a b:Addr} {o u:HO} (h:H a=some o) (h':H b=some u) (d:o≠u):a≠b:=by
 intro e;subst e;rw[h] at h';exact d (Option.some.inj h')
theorem jau {H:Hp} {a b:Addr} {o:HO} (h:H a=some o) (h':H b=none):a≠b:=by
 intro e;subst e;rw[h] at h';cases h'
section
variable (P:Program) (w:World)
def ObjOk (H:Hp) (h:Heap) (a:Addr):HO->Prop
 | .lst xs=>xs.length<=sizeLine/\∃(its:List Value) (n:Nat),Vals xs its/\h.get? a=some { cls:=.type "list",data:=.seq its.toArray n }
 | .tup xs=>xs.length<=sizeLine/\∃its:List Value,Vals xs its/\IsTup h a its.toArray
 | .dK kvs=>kvs.length<=sizeLine/\(a==sysModules)=false/\∃vs,KV kvs vs/\h.DictOf (jgh P w) a vs
 | .dT kvs=>kvs.length <= sizeLine /\ (a==sysModules)=false /\ ∃xs:List (List Key × Addr × Value),
   Paired (fun (p:List Key × V) (q:List Key × Addr × Value)=>p.1=q.1/\H q.2.1=some (.tup (p.1.map kV))/\RelV p.2 q.2.2) kvs xs /\
   ∃o es ep,h.get? a=some o/\o.ExactDict/\o.data=.dict es ep/\es.toList=xs.map (entryOfKey (tupleKind (jgh P w)))/\(xs.map (·.1)).Nodup
 | .set S n=>h.SetOf (intKind P w) a S n
 | .ins C dx fs=>H dx=some (.own a) /\ fs.length <= 1000 /\ dx≠a /\ h.get? a=some (PySem.W.instObj C dx) /\
   ∃mA,h.Ns1 dx mA/\(∀f,RelO (fs.lookup f) (mA f))/\PySem.Within mA (fs.map (·.1))
 | .own _=>∃o,h.get? a=some o
 | .xd fs=>∃mA,h.Ns1 a mA/\∀f,RelO (fs.lookup f) (mA f)
 | .rng lo hi=>∃t u v,h.get? a=some { cls:=.type "range",data:=.fields #[.int lo t,.int hi u,.int 1 v] }
 | .frz o u=>h.get? a=some o/\ObjOk H h a u
 | .tbl ps=>h.get? a=some { cls:=.none,data:=.fields ps }
 | .met f x=>h.get? a=some (PySem.W.methodObj (.ref f) (.ref x))
 | .ext φ=>φ h/\(∃o,h.get? a=some o)/\∀h1 h2:Heap,φ h1->(∀o,h1.get? a=some o->h2.get? a=some o)->φ h2
def HOk (H:Hp) (h:Heap):Prop:=∀a o,H a=some o->ObjOk P w H h a o
end
section
variable {P:Program} {w:World} {H H':Hp} {h h':Heap} {a:Addr} {o:HO}
theorem ObjOk.lt (x:ObjOk P w H h a o):a<h.objs.size:=by
 cases o with
 | lst xs=>obtain⟨_,_,_,_,e⟩:=x;exact Heap.lt_size e
 | tup xs=>obtain⟨_,_,_,p⟩:=x;exact p.lt
 | dK kvs=>obtain⟨_,_,_,_,o,_,_,e,_⟩:=x;exact Heap.lt_size e
 | dT kvs=>obtain⟨_,_,_,_,o,_,_,e,_⟩:=x;exact Heap.lt_size e
 | set S n=>obtain⟨o,_,_,_,e,_⟩:=x;exact Heap.lt_size e
 | ins C dx fs=>obtain⟨_,_,_,e,_⟩:=x;exact Heap.lt_size e
 | own y=>obtain⟨_,e⟩:=x;exact Heap.lt_size e
 | xd fs=>obtain⟨_,⟨_,_,_,e,_⟩,_⟩:=x;exact Heap.lt_size e
 | rng lo hi=>obtain⟨_,_,_,e⟩:=x;exact Heap.lt_size e
 | frz ob u=>obtain⟨e,_⟩:=x;exact Heap.lt_size e
 | tbl ps=>exact Heap.lt_size (show h.get? a=some _ from x)
 | met f y=>exact Heap.lt_size (show h.get? a=some _ from x)
 | ext φ=>obtain⟨_,⟨_,e⟩,_⟩:=x;exact Heap.lt_size e
theorem Paired.mapP {α β:Type} {F G:α->β->Prop}:∀{l₁:List α} {l₂:List β},Paired F l₁ l₂->(∀a b,F a b->G a b)->Paired G l₁ l₂
 | _,_,.nil,_=>.nil
 | _,_,.cons r t,f=>.cons (f _ _ r) (Paired.mapP t f)
theorem ObjOk.stay (x:ObjOk P w H h a o) (k:∀b u,(b=a\/H b=some (.own a))->h.get? b=some u->h'.get? b=some u)
    (ho:∀b,H b=some (.own a)->H' b=some (.own a)) (ht:∀b xs,H b=some (.tup xs)->H' b=some (.tup xs)):ObjOk P w H' h' a o:=by
  induction o with
  | lst xs=>obtain⟨z,its,n,r,e⟩:=x;exact⟨z,its,n,r,k _ _ (.inl rfl) e⟩
  | tup xs=>obtain⟨z,its,r,ob,e,c⟩:=x;exact⟨z,its,r,ob,k _ _ (.inl rfl) e,c⟩
  | dK kvs=>obtain⟨z,y,vs,r,ob,es,ep,e,c⟩:=x;exact⟨z,y,vs,r,ob,es,ep,k _ _ (.inl rfl) e,c⟩
  | dT kvs =>
    obtain⟨z,y,xs,r,ob,es,ep,e,c⟩:=x;exact⟨z,y,xs,Paired.mapP r fun p q z=>⟨z.1,ht _ _ z.2.1,z.2.2⟩,ob,es,ep,k _ _ (.inl rfl) e,c⟩
  | set S n=>obtain⟨ob,es,ep,t,e,c⟩:=x;exact⟨ob,es,ep,t,k _ _ (.inl rfl) e,c⟩
  | ins C dx fs =>
    obtain⟨d,z,ne,e,mA,⟨od,es,ep,e2,c⟩,r⟩:=x;exact⟨ho _ d,z,ne,k _ _ (.inl rfl) e,mA,⟨od,es,ep,k _ _ (.inr d) e2,c⟩,r⟩
  | own y=>obtain⟨ob,e⟩:=x;exact⟨ob,k _ _ (.inl rfl) e⟩
  | xd fs=>obtain⟨mA,⟨od,es,ep,e,c⟩,r⟩:=x;exact⟨mA,⟨od,es,ep,k _ _ (.inl rfl) e,c⟩,r⟩
  | rng lo hi=>obtain⟨t,u,v,e⟩:=x;exact⟨t,u,v,k _ _ (.inl rfl) e⟩
  | frz ob u ih=>obtain⟨e,q⟩:=x;exact⟨k _ _ (.inl rfl) e,ih q⟩
  | tbl ps =>
    have e:h.get? a=some { cls:=.none,data:=.fields ps }:=x;show h'.get? a=some { cls:=.none,data:=.fields ps };exact k a _ (.inl rfl) e
  | met f y =>
    have e:h.get? a=some (PySem.W.methodObj (.ref f) (.ref y)):=x;show h'.get? a=some (PySem.W.methodObj (.ref f) (.ref y));exact k a _ (.inl rfl) e
  | ext φ=>obtain⟨p,⟨o,e⟩,st⟩:=x;exact⟨st _ _ p fun o q=>k _ _ (.inl rfl) q,⟨o,k _ _ (.inl rfl) e⟩,st⟩
theorem HOk.lt (x:HOk P w H h) (e:H a=some o):a<h.objs.size:=(x a o e).lt
theorem HOk.fresh (x:HOk P w H h) (e:h.objs.size<=a):H a=none:=by
 cases q:H a with
 | none=>rfl
 | some u=>exact absurd (xal (x.lt q) e) (xaY _)
theorem HOk.kept (x:HOk P w H h) (k:∀b u,h.get? b=some u->h'.get? b=some u):HOk P w H h':=fun a o e =>
 (x a o e).stay (fun b u _ q=>k b u q) (fun _ q=>q) fun _ _ q=>q
theorem HOk.laid (x:HOk P w H h) (k:∀b u,h.get? b=some u->h'.get? b=some u) (hp:h.objs.size<=a) (new:ObjOk P w (upd H a o) h' a o):HOk P w (upd H a o) h':=fun b u e=>by
 have hn:=x.fresh hp;by_cases hb:b=a
 ·subst hb;rw[upd_same] at e;cases e;exact new
 ·rw[jar hb] at e;exact (x b u e).stay (fun c v _ q=>k c v q) (fun c q=>by rw[jar (jau q hn)];exact q) fun c xs q=>by rw[jar (jau q hn)];exact q
end
def Rd (H:Hp) (a:Addr) (u:HO):Prop:=H a=some u\/∃o,H a=some (.frz o u)
theorem Rd.of {H:Hp} {a:Addr} {u:HO} (h:H a=some u):Rd H a u:=.inl h
theorem Rd.ok {P:Program} {w:World} {H:Hp} {h:Heap} {a:Addr} {u:HO} (r:Rd H a u) (x:HOk P w H h):ObjOk P w H h a u:=by
 rcases r with r | ⟨o,r⟩
 ·exact x a u r
 ·obtain⟨_,q⟩:=x a _ r;exact q
def Mut:Option HO->Prop
 | some (.lst _)=>True
 | some (.dK _)=>True
 | some (.dT _)=>True
 | some (.set _ _)=>True
 | some (.ins _ _ _)=>True
 | some (.ext _)=>True
 | _=>False
section
variable {P:Program} {w:World} {H:Hp} {h h':Heap} {x e:Addr} {o':HO}
theorem HOk.write (ok:HOk P w H h) (mu:Mut (H x)) (he:e=x\/H e=some (.own x)) (k:∀b u,b≠e->h.get? b=some u->h'.get? b=some u) (heo:∃u,h'.get? e=some u)
  (new:ObjOk P w (upd H x o') h' x o'):HOk P w (upd H x o') h':=fun b u q=>by
 have nown:∀c y,H c=some (.own y)->c≠x:=fun c y r z=>by subst z;rw[r] at mu;exact mu
 have ntup:∀c xs,H c=some (.tup xs)->c≠x:=fun c xs r z=>by subst z;rw[r] at mu;exact mu
 by_cases hb:b=x
 ·subst hb;rw[upd_same] at q;cases q;exact new
 ·rw[jar hb] at q;by_cases hbe:b=e
  ·have q':H b=some (.own x):=by
    rcases he with z | z
    ·exact absurd (hbe.trans z) hb
    ·rw[hbe];exact z
   rw[q] at q';cases q';obtain⟨v,hv⟩:=heo;exact⟨v,by rw[hbe];exact hv⟩
  ·refine (ok b u q).stay (fun c v hc r=>k c v ?_ r) (fun c r=>by rw[jar (nown c b r)];exact r) fun c xs r=>by rw[jar (ntup c xs r)];exact r
   rcases hc with rfl | hc
   ·exact hbe
   ·rintro rfl;rcases he with z | z
    ·exact nown c b hc z
    ·rw[hc] at z;cases z;exact hb rfl
end
structure Un (fs ex:List Addr) (H H':Hp) (h h':Heap):Prop where
 keep:∀b o,h.get? b=some o->H b=none->b∉fs->b∉ex->h'.get? b=some o
 slot:∀b o,h.get? b=some o->H b=none->b∈fs->b∉ex->∃sl,h'.get? b=some { o with slots:=sl }
 free:∀b o,h.get? b=some o->H b=none->b∉ex->H' b=none
 there:∀b o,h.get? b=some o->b∉ex->∃o',h'.get? b=some o'
 tups:∀b xs,H b=some (.tup xs)->H' b=some (.tup xs)
 frzs:∀b o u,H b=some (.frz o u)->H' b=some (.frz o u)
 tbls:∀b ps,H b=some (.tbl ps)->∃more,H' b=some (.tbl (ps++more))
section
variable {fs fs' ex ex':List Addr} {H H1 H2:Hp} {h h1 h2 h':Heap} {a x e:Addr} {o:HO}
theorem Un.any (u:Un fs ex H H1 h h1) {b:Addr} {ob:Obj} (q:h.get? b=some ob) (n:H b=none) (hx:b∉ex):∃sl,h1.get? b=some { ob with slots:=sl }:=by
 by_cases hb:b∈fs
 ·exact u.slot b ob q n hb hx
 ·exact⟨ob.slots,u.keep b ob q n hb hx⟩
theorem Un.trans (a:Un fs ex H H1 h h1) (b:Un fs ex H1 H2 h1 h2):Un fs ex H H2 h h2 where
 keep:=fun c ob q n hc hx=>b.keep c ob (a.keep c ob q n hc hx) (a.free c ob q n hx) hc hx
 slot:=fun c ob q n hc hx=>by
  obtain⟨sl,e1⟩:=a.slot c ob q n hc hx;obtain⟨sl',e2⟩:=b.slot c _ e1 (a.free c ob q n hx) hc hx;exact⟨sl',e2⟩
 free:=fun c ob q n hx=>by
  obtain⟨o',e1⟩:=a.there c ob q hx;exact b.free c o' e1 (a.free c ob q n hx) hx
 there:=fun c ob q hx=>by
  obtain⟨o',e1⟩:=a.there c ob q hx;exact b.there c o' e1 hx
 tups:=fun c xs q=>b.tups c xs (a.tups c xs q)
 frzs:=fun c ob xs q=>b.frzs c ob xs (a.frzs c ob xs q)
 tbls:=fun c ps q=>by
  obtain⟨m1,e1⟩:=a.tbls c ps q;obtain⟨m2,e2⟩:=b.tbls c _ e1;exact⟨m1++m2,by rw[e2,Array.append_assoc]⟩
theorem Un.kept (k:∀b u,h.get? b=some u->h'.get? b=some u):Un fs ex H H h h' :=
 ⟨fun b ob q _ _ _=>k b ob q,fun b ob q _ _ _=>⟨ob.slots,k b ob q⟩,fun _ _ _ n _=>n,fun b ob q _=>⟨ob,k b ob q⟩,fun _ _ q=>q,fun _ _ _ q=>q,fun _ ps q=>⟨#[],by rw[q];simp⟩⟩
theorem Un.refl:Un fs ex H H h h:=Un.kept fun _ _ q=>q
theorem Un.laid (k:∀b u,h.get? b=some u->h'.get? b=some u) (hp:h.objs.size<=a) (hn:H a=none):Un fs ex H (upd H a o) h h' where
 keep:=fun b u q _ _ _=>k b u q
 slot:=fun b u q _ _ _=>⟨u.slots,k b u q⟩
 free:=fun b u q n _=>by rw[jar (xau (xal (Heap.lt_size q) hp))];exact n
 there:=fun b u q _=>⟨u,k b u q⟩
 tups:=fun b xs q=>by rw[jar (jau q hn)];exact q
 frzs:=fun b u xs q=>by rw[jar (jau q hn)];exact q
 tbls:=fun b ps q=>⟨#[],by rw[jar (jau q hn),q];simp⟩
theorem Un.write (mu:Mut (H x)) (he:e=x\/H e=some (.own x)) (k:∀b u,b≠e->h.get? b=some u->h'.get? b=some u) (heo:∃u,h'.get? e=some u):Un fs ex H (upd H x o) h h':=by
 have hx:∀b,H b=none->b≠x:=fun b n z=>by subst z;rw[n] at mu;exact mu
 have hb:∀b,H b=none->b≠e:=fun b n z=>by
  subst z;rcases he with r | r
  ·exact hx b n r
  ·rw[n] at r;cases r
 have hm:∀b u,H b=some u->¬Mut (some u)->b≠x:=fun b u q nm z=>by subst z;rw[q] at mu;exact nm mu
 refine⟨fun b u q n _ _=>k b u (hb b n) q,fun b u q n _ _=>⟨u.slots,k b u (hb b n) q⟩,fun b u q n _=>by rw[jar (hx b n)];exact n,fun b u q _=>?_,
  fun b xs q=>by rw[jar (hm b _ q fun z=>z)];exact q,fun b u xs q=>by rw[jar (hm b _ q fun z=>z)];exact q,fun b ps q=>⟨#[],by rw[jar (hm b _ q fun z=>z),q];simp⟩⟩
 by_cases hbe:b=e
 ·subst hbe;exact heo
 ·exact⟨u,k b u hbe q⟩
theorem Un.mono (u:Un fs ex H H1 h h1) (hs:∀b∈fs,b∈fs') (hx:∀b∈ex,b∈ex'):Un fs' ex' H H1 h h1 :=
 ⟨fun b ob q n hb he=>u.keep b ob q n (fun z=>hb (hs b z)) fun z=>he (hx b z),fun _ _ q n _ he=>u.any q n fun z=>he (hx _ z),fun b ob q n he=>u.free b ob q n fun z=>he (hx b z),fun b ob q he=>u.there b ob q fun z=>he (hx b z),u.tups,u.frzs,u.tbls⟩
end
def trk (h:Heap) (H:Hp):List Addr:=(List.range h.objs.size).filter fun a=>(H a).isSome
def ji6 (h:Heap) (H:Hp):Heap:=PySem.W.hideAll h (trk h H)
theorem jhJ (h:Heap) (H:Hp):(ji6 h H).objs.size=h.objs.size:=PySem.W.hideAll_size _ _
theorem ji7 {h:Heap} {H:Hp} {b:Addr} {o:Obj} (e:h.get? b=some o) (n:H b=none):(ji6 h H).get? b=some o :=
 PySem.W.hideAll_get _ e fun hm=>by
  have q:(H b).isSome=true:=(List.mem_filter.mp hm).2;rw[n] at q;simp at q
theorem jkz {h:Heap} {H:Hp} {b:Addr} {o:Obj} (e:(ji6 h H).get? b=some o):h.get? b=some o/\H b=none:=by
  have e':h.get? b=some o:=PySem.W.of_hideAll (trk h H) e;refine⟨e',?_⟩;cases q:H b with
  | none=>rfl
  | some x =>
    have hm:b∈trk h H:=List.mem_filter.mpr ⟨xaX.mpr (Heap.lt_size e'),by simp [q]⟩;have z:(ji6 h H).get? b=none:=PySem.W.hideAll_none (trk h H) hm;rw[z] at e;cases e
def jkA (g h:Heap) (L:Addr):List (Addr × Obj):=(List.range h.objs.size).filterMap fun a=>if a=L\/(g.get? a).isSome=true then none else (h.get? a).map fun o=>(a,o)
def jbt (g h:Heap) (L d:Addr):List (Addr × Obj):=(jkA g h L).filter fun p=>decide (p.1≠d)
structure Mod (K:PySem.W.Frag) (mg:Str->Option Value) (base:Heap):Prop where
 kin:K.In base
 glob:base.Ns mainGlobals mg
 blt:∃mb,base.Ns builtinsNs mb/\∀x:Str,x≠"__name__"->mb x=bootBuiltins x
 nolimit:base.NoLimit
structure Cx where
 prog:Program
 w:World
 K:PySem.W.Frag
 mg:Str->Option Value
 base:Heap
 A:Around
 N:List Str
 s₀:Shared
 H₀:Hp
 env:Env
 outer:List Env
 stack:List Env
 ex:List Addr
 fn:Str->Bool
 calm:Bool
 pn:List (Addr × Obj)
 xe:Value->Shared->Prop
def frs (l:List Env):List Addr:=l.filterMap (·.frame)
abbrev Cx.fs (X:Cx):List Addr:=frs X.outer
def Vis (sc:Scope) (x:Str):Prop:=sc.names.lookup x=some .local\/sc.names.lookup x=some .cell\/sc.names.lookup x=some .free
def Loc (sc:Scope) (x:Str):Prop:=sc.names.lookup x=some .local\/sc.names.lookup x=some .cell
def Look (env:Env) (h:Heap) (m:Str->Option Value) (x:Str) (u:Value):Prop :=
 (env.kindOf x=some .local/\m x=some u)\/((env.kindOf x=some .cell\/env.kindOf x=some .free)/\∃c,env.cells.lookup x=some c/\h.IsCell c (some u))
structure Cx.Ok (X:Cx):Prop where
 mod:Mod X.K X.mg X.base
 kind:X.env.scope.kind=.function
 glob:X.env.globals=mainGlobals
 blt:X.env.builtins=builtinsNs
 above:X.s₀.heap.objs.size<=X.env.locals
 inj:∀x y c,X.env.cells.lookup x=some c->X.env.cells.lookup y=some c->x=y
 has:∀x,(X.env.kindOf x=some .cell\/X.env.kindOf x=some .free)->∃c,X.env.cells.lookup x=some c
 cab:∀x c,X.fn x=true->X.env.cells.lookup x=some c->X.s₀.heap.objs.size<=c
 hd:X.calm=true->X.A.handled=none
 frames:X.A.frames=some X.stack
 stk:X.stack=X.outer\/(X.stack=X.env::X.outer/\X.env.frame=some X.env.locals)
 exf:∀b∈X.ex,b≠X.env.locals/\∀x c,X.env.cells.lookup x=some c->c≠b
 bs:∀b o,X.base.get? b=some o->X.s₀.heap.get? b=some o/\X.H₀ b=none
 bsz:X.base.objs.size<=X.s₀.heap.objs.size
 noex:∀b o,X.base.get? b=some o->b∉X.ex
 exfs:∀b∈X.ex,b∉X.fs
 funs:X.s₀.heap.FunFrames X.base X.outer
 frf:∀b∈X.fs,X.H₀ b=none
structure Inv (X:Cx) (pins:List (Addr × Obj)) (σ:List (Option V)) (H:Hp) (s:Shared):Prop where
 ok:X.Ok
 os:s.os=X.s₀.os
 bare:AllBare s.gens
 base:Un X.fs X.ex X.H₀ H X.s₀.heap s.heap
 loc:∃m,s.heap.Ns X.env.locals m/\∀(i:Nat) (x:Str) (v:V),X.N[i]?=some x->σ[i]?=some (some v)->Vis X.env.scope x->∃u,RelV v u/\Look X.env s.heap m x u
 cell:∀x c,X.env.cells.lookup x=some c->∃v,s.heap.IsCell c v
 free:H X.env.locals=none
 freeC:∀x c,X.env.cells.lookup x=some c->H c=none
 pin:∀p∈X.pn++pins,s.heap.get? p.1=some p.2/\H p.1=none/\p.1≠X.env.locals/\p.1∉X.fs/\∀v,p.2.data≠.cell v
 hok:HOk X.prog X.w H s.heap
 len:σ.length=X.N.length
section
variable {X:Cx} {pins:List (Addr × Obj)} {σ:List (Option V)} {H H':Hp} {s:Shared} {h':Heap}
theorem Cx.Ok.nofr (ok:X.Ok) {b:Addr} {o:Obj} (e:X.base.get? b=some o):b∉X.fs:=fun hb=>by
 have:=(ok.funs.mem hb).1;rw[e] at this;cases this
theorem Inv.bs (I:Inv X pins σ H s):∀b o,X.base.get? b=some o->s.heap.get? b=some o/\H b=none:=fun b o e =>
 ⟨I.base.keep b o (I.ok.bs b o e).1 (I.ok.bs b o e).2 (I.ok.nofr e) (I.ok.noex b o e),I.base.free b o (I.ok.bs b o e).1 (I.ok.bs b o e).2 (I.ok.noex b o e)⟩
theorem Inv.bk (I:Inv X pins σ H s):∀b o,X.base.get? b=some o->s.heap.get? b=some o:=fun b o e=>(I.bs b o e).1
theorem Inv.mod (I:Inv X pins σ H s):Mod X.K X.mg X.base:=I.ok.mod
theorem Inv.kIn (I:Inv X pins σ H s):X.K.In s.heap:=I.ok.mod.kin.keeps I.bk
theorem Inv.nolimit (I:Inv X pins σ H s):s.heap.NoLimit:=I.ok.mod.nolimit.keeps I.bk
theorem Inv.fr (I:Inv X pins σ H s):∃m,Fr X.base X.env.locals s.heap m :=
 let ⟨m,hn,_⟩:=I.loc
 ⟨m,hn,I.bk,xaA I.ok.bsz I.ok.above⟩
theorem Inv.lt (I:Inv X pins σ H s):X.env.locals<s.heap.objs.size:=let ⟨_,hn,_⟩:=I.loc;hn.lt
theorem Inv.sz (I:Inv X pins σ H s):X.s₀.heap.objs.size<=s.heap.objs.size:=xaA I.ok.above (xaI I.lt)
theorem Inv.nofs (I:Inv X pins σ H s) {a:Addr} (h:s.heap.objs.size<=a):a∉X.fs:=fun hb=>by
 obtain⟨_,o,ho,_⟩:=I.ok.funs.mem hb;exact absurd (xal (Heap.lt_size ho) (xaA I.sz h)) (xaY _)
theorem Inv.cne (I:Inv X pins σ H s):∀x c,X.env.cells.lookup x=some c->c≠X.env.locals:=fun x c e z=>by
 obtain⟨v,o,ho,hd⟩:=I.cell x c e;obtain⟨m,⟨o',es,ep,ho',hd',_⟩,_⟩:=I.loc;rw[z,ho'] at ho;cases ho;rw[hd'] at hd;cases hd
theorem Inv.funs (I:Inv X pins σ H s):s.heap.FunFrames X.base X.outer:=by
  have all:∀(l:List Env),(∀b∈frs l,b∈X.fs)->X.s₀.heap.FunFrames X.base l->s.heap.FunFrames X.base l:=by
    intro l;induction l with
    | nil=>intro _ _;trivial
    | cons env r ih =>
      intro hs hl;obtain⟨hk,⟨L,o,hf,hn,ho,hd⟩,hr⟩:=hl;have hL:L∈X.fs:=hs L (by unfold frs;rw[xbk,hf];exact xaL);obtain⟨sl,e⟩:=I.base.slot L o ho (I.ok.frf L hL) hL fun z=>I.ok.exfs L z hL;exact⟨hk,⟨L,_,hf,hn,e,hd⟩,ih (fun b hb=>hs b (by unfold frs;rw[xbk,hf];exact xar _ hb)) hr⟩
  exact all X.outer (fun _ hb=>hb) I.ok.funs
theorem Inv.stack (I:Inv X pins σ H s):s.heap.FunFrames X.base X.stack:=by
 rcases I.ok.stk with e | ⟨e,hf⟩
 ·rw[e];exact I.funs
 ·rw[e];obtain⟨m,hn,_⟩:=I.loc;refine .cons (by rw[I.ok.kind];decide) hf hn ?_ I.funs;exact Heap.get?_none_of_le (xaA I.ok.bsz I.ok.above)
theorem Inv.stkSub (I:Inv X pins σ H s):∀b∈frs X.stack,b∈X.env.locals::X.fs:=fun b hb=>by
 rcases I.ok.stk with e | ⟨e,hf⟩
 ·rw[e] at hb;exact xar _ hb
 ·rw[e] at hb;unfold frs at hb;rw[xbk,hf] at hb;exact hb
theorem Inv.stkFree (I:Inv X pins σ H s):∀b∈frs X.stack,H b=none:=fun b hb=>by
 rcases xad.mp (I.stkSub b hb) with e | hb
 ·rw[e];exact I.free
 ·obtain⟨_,o,ho,_⟩:=I.ok.funs.mem hb;exact I.base.free b o ho (I.ok.frf b hb) fun z=>I.ok.exfs b z hb
theorem Inv.step {g':Array GenState} {t':Nat} {d':Drawn} {ch:List Addr} (I:Inv X pins σ H s)
  (hch:∀b∈ch,(b∈X.ex\/X.s₀.heap.objs.size<=b)/\b≠X.env.locals/\(∀x c,X.env.cells.lookup x=some c->c≠b)/\∀p∈X.pn++pins,p.1≠b)
  (keep:∀b o,b≠X.env.locals->b∉X.fs->b∉ch->s.heap.get? b=some o->H b=none->h'.get? b=some o)
  (slot:∀b o,b≠X.env.locals->b∈X.fs->b∉ch->s.heap.get? b=some o->H b=none->∃sl,h'.get? b=some { o with slots:=sl }) (free:∀b o,b∉ch->s.heap.get? b=some o->H b=none->H' b=none)
  (there:∀b o,b∉ch->s.heap.get? b=some o->∃o',h'.get? b=some o')
  (tups:∀b xs,H b=some (.tup xs)->H' b=some (.tup xs)) (frzs:∀b o u,H b=some (.frz o u)->H' b=some (.frz o u)) (tbls:∀b ps,H b=some (.tbl ps)->∃more,H' b=some (.tbl (ps++more)))
  (ns:∀m,s.heap.Ns X.env.locals m->h'.Ns X.env.locals m) (hok:HOk X.prog X.w H' h') (hg:AllBare g') :
  Inv X pins σ H' { s with heap:=h',gens:=g',drawn:=d',toks:=t' }:=by
 have neL:∀b o,X.s₀.heap.get? b=some o->b≠X.env.locals:=fun b o e=>xau (xal (Heap.lt_size e) I.ok.above);have neC:∀b o,X.s₀.heap.get? b=some o->b∉X.ex->b∉ch:=fun b o e hx hb=>by
  rcases (hch b hb).1 with z | z
  ·exact hx z
  ·exact absurd (xal (Heap.lt_size e) z) (xaY _)
 have cellK:∀x c,X.env.cells.lookup x=some c->∀v,s.heap.IsCell c v->h'.IsCell c v:=fun x c e v ⟨o,ho,hd⟩=>by
  have nch:c∉ch:=fun z=>(hch c z).2.2.1 x c e rfl;by_cases hc:c∈X.fs
  ·obtain⟨sl,q⟩:=slot c o (I.cne x c e) hc nch ho (I.freeC x c e);exact⟨_,q,hd⟩
  ·exact⟨o,keep c o (I.cne x c e) hc nch ho (I.freeC x c e),hd⟩
 refine⟨I.ok,I.os,hg,⟨fun b o e n hb hx=>?_,fun b o e n hb hx=>?_,fun b o e n hx=>?_,fun b o e hx=>?_,fun b xs e=>tups b xs (I.base.tups b xs e),fun b o xs e=>frzs b o xs (I.base.frzs b o xs e),fun b ps e=>?_⟩,?_,fun x c e=>?_,?_,fun x c e=>?_,fun p hp=>?_,hok,I.len⟩
 ·exact keep b o (neL b o e) hb (neC b o e hx) (I.base.keep b o e n hb hx) (I.base.free b o e n hx)
 ·obtain⟨sl,e1⟩:=I.base.slot b o e n hb hx;obtain⟨sl',e2⟩:=slot b _ (neL b o e) hb (neC b o e hx) e1 (I.base.free b o e n hx);exact⟨sl',e2⟩
 ·obtain⟨o',e1⟩:=I.base.there b o e hx;exact free b o' (neC b o e hx) e1 (I.base.free b o e n hx)
 ·obtain⟨o',e1⟩:=I.base.there b o e hx;exact there b o' (neC b o e hx) e1
 ·obtain⟨m1,e1⟩:=I.base.tbls b ps e;obtain⟨m2,e2⟩:=tbls b _ e1;exact⟨m1++m2,by rw[e2,Array.append_assoc]⟩
 ·obtain⟨m,hn,hl⟩:=I.loc;refine⟨m,ns m hn,fun i x v e1 e2 e3=>?_⟩;obtain⟨u,r,l⟩:=hl i x v e1 e2 e3;refine⟨u,r,?_⟩;rcases l with l | ⟨k,c,e,z⟩
  ·exact .inl l
  ·exact .inr ⟨k,c,e,cellK x c e _ z⟩
 ·obtain⟨v,z⟩:=I.cell x c e;exact⟨v,cellK x c e v z⟩
 ·obtain⟨m,⟨o,_,_,ho,_⟩,_⟩:=I.loc;exact free _ o (fun z=>(hch _ z).2.1 rfl) ho I.free
 ·obtain⟨v,o,ho,hd⟩:=I.cell x c e;exact free c o (fun z=>(hch c z).2.2.1 x c e rfl) ho (I.freeC x c e)
 ·obtain⟨e,n,ne,nf,d⟩:=I.pin p hp;have nch:p.1∉ch:=fun z=>(hch p.1 z).2.2.2 p hp rfl;exact⟨keep p.1 p.2 ne nf nch e n,free p.1 p.2 nch e n,ne,nf,d⟩
theorem Inv.un {t':Nat} (I:Inv X pins σ H s) (u:Un X.fs [] H H' s.heap h') (hok:HOk X.prog X.w H' h'):Inv X pins σ H' { s with heap:=h',toks:=t' }:=by
 obtain⟨m,⟨o,es,ep,ho,r⟩,_⟩:=id I.loc;obtain⟨sl,hL⟩:=u.any ho I.free (by simp);exact I.step (g':=s.gens) (d':=s.drawn) (ch:=[]) (fun _ z=>nomatch z) (fun b o _ hb _ e n=>u.keep b o e n hb (by simp)) (fun b o _ hb _ e n=>u.slot b o e n hb (by simp)) (fun b o _ e n=>u.free b o e n (by simp)) (fun b o _ e=>u.there b o e (by simp)) u.tups u.frzs u.tbls (fun m' hm=>by
  obtain⟨o',es',ep',ho',r'⟩:=hm;rw[ho] at ho';cases ho';exact⟨_,es',ep',hL,r'⟩) hok I.bare
theorem Inv.call {g':Array GenState} {t':Nat} {d':Drawn} {ch:List Addr} (I:Inv X pins σ H s) (u:Un (frs X.stack) ch H H' s.heap h') (hok:HOk X.prog X.w H' h') (hg:AllBare g')
  (hch:∀b∈ch,(b∈X.ex\/X.s₀.heap.objs.size<=b)/\b≠X.env.locals/\(∀x c,X.env.cells.lookup x=some c->c≠b)/\∀p∈X.pn++pins,p.1≠b) :
  Inv X pins σ H' { s with heap:=h',gens:=g',drawn:=d',toks:=t' }:=by
 obtain⟨m,⟨o,es,ep,ho,r⟩,_⟩:=id I.loc;obtain⟨sl,hL⟩:=u.any ho I.free fun z=>(hch _ z).2.1 rfl;exact I.step (ch:=ch) hch (fun b o hL hb hc e n=>u.keep b o e n (fun z=>(xad.mp (I.stkSub b z)).elim hL hb) hc) (fun b o _ _ hc e n=>u.any e n hc) (fun b o hc e n=>u.free b o e n hc) (fun b o hc e=>u.there b o e hc) u.tups u.frzs u.tbls (fun m' hm=>by
  obtain⟨o',es',ep',ho',r'⟩:=hm;rw[ho] at ho';cases ho';exact⟨_,es',ep',hL,r'⟩) hok hg
theorem Inv.turned {t':Nat} {it:Addr} (I:Inv X pins σ H s) (k:∀b o,b≠it->s.heap.get? b=some o->h'.get? b=some o) (hn:H it=none) (hL:it≠X.env.locals)
  (h1:it∈X.ex\/X.s₀.heap.objs.size<=it) (h2:∀x c,X.env.cells.lookup x=some c->c≠it) (h3:∀p∈X.pn++pins,p.1≠it):Inv X pins σ H { s with heap:=h',toks:=t' }:=by
 have nit:∀b u,H b=some u->b≠it:=fun b u e z=>by rw[z,hn] at e;cases e
 refine I.step (g':=s.gens) (d':=s.drawn) (ch:=[it]) (fun b hb=>?_) (fun b o _ _ hc e _=>k b o (fun z=>hc (by simp [z])) e) (fun b o _ _ hc e _=>⟨o.slots,k b o (fun z=>hc (by simp [z])) e⟩) (fun _ _ _ _ n=>n)
  (fun b o hc e=>⟨o,k b o (fun z=>hc (by simp [z])) e⟩) (fun _ _ e=>e) (fun _ _ _ e=>e) (fun b ps e=>⟨#[],by rw[e];simp⟩) (fun m hm=>?_) (fun b u e=>?_) I.bare
 ·have e:b=it:=by simpa using hb
  subst e;exact⟨h1,hL,h2,h3⟩
 ·obtain⟨o,es,ep,ho,r⟩:=hm;exact⟨o,es,ep,k _ o (Ne.symm hL) ho,r⟩
 ·refine (I.hok b u e).stay (fun c v hc q=>k c v ?_ q) (fun _ q=>q) fun _ _ q=>q;rcases hc with z | z
  ·rw[z];exact nit b u e
  ·exact nit c _ z
theorem Inv.tok (I:Inv X pins σ H s) (t:Nat):Inv X pins σ H { s with toks:=t }:=I.un (h':=s.heap) (t':=t) Un.refl I.hok
theorem Inv.kept {t':Nat} (I:Inv X pins σ H s) (k:∀b u,s.heap.get? b=some u->h'.get? b=some u):Inv X pins σ H { s with heap:=h',toks:=t' }:=I.un (Un.kept k) (I.hok.kept k)
theorem Inv.laid {a:Addr} {o:HO} {t':Nat} (I:Inv X pins σ H s) (k:∀b u,s.heap.get? b=some u->h'.get? b=some u) (hp:s.heap.objs.size<=a) (new:ObjOk X.prog X.w (upd H a o) h' a o) :
  Inv X pins σ (upd H a o) { s with heap:=h',toks:=t' }:=I.un (Un.laid k hp (I.hok.fresh hp)) (I.hok.laid k hp new)
theorem Inv.write {x e:Addr} {o:HO} {t':Nat} (I:Inv X pins σ H s) (mu:Mut (H x)) (he:e=x\/H e=some (.own x)) (k:∀b u,b≠e->s.heap.get? b=some u->h'.get? b=some u) (heo:∃u,h'.get? e=some u)
  (new:ObjOk X.prog X.w (upd H x o) h' x o):Inv X pins σ (upd H x o) { s with heap:=h',toks:=t' }:=I.un (Un.write mu he k heo) (I.hok.write mu he k heo new)
theorem Inv.pins_of {pins':List (Addr × Obj)} (I:Inv X pins σ H s) (h:∀p∈pins',s.heap.get? p.1=some p.2/\H p.1=none/\p.1≠X.env.locals/\p.1∉X.fs/\∀v,p.2.data≠.cell v):Inv X pins' σ H s :=
 ⟨I.ok,I.os,I.bare,I.base,I.loc,I.cell,I.free,I.freeC,fun p hp=>(xax.mp hp).elim (fun z=>I.pin p (xbg _ z)) (h p),I.hok,I.len⟩
theorem je8 {N:List Str} (hN:N.Nodup) {i j:Nat} {x:Str} (a:N[i]?=some x) (b:N[j]?=some x):i=j:=by
 obtain⟨h1,e1⟩:=xan.mp a;obtain⟨h2,e2⟩:=xan.mp b;exact (List.getElem_inj hN).mp (e1.trans e2.symm)
theorem jd7 {M:Model} {A:Around} {E:Value->Shared->Prop} {i:Nat} {x:Str} {v:V} {u:Value} {Q:Unit->Shared->Prop} (I:Inv X pins σ H s) (hN:X.N.Nodup) (hi:X.N[i]?=some x) (hx:Loc X.env.scope x) (r:RelV v u)
  (h:∀s',Inv X pins (σ.set i (some v)) H s'->(∃a,Heap.SameBut a s.heap s'.heap/\(a=X.env.locals\/X.env.cells.lookup x=some a))->Q () s') (hf:X.fn x=true\/X.env.scope.names.lookup x=some .local:=by first | exact .inl rfl | exact .inr rfl | assumption):wpAny M A (storeName X.env x u) Q E s:=by
 obtain⟨m,hn,hl⟩:=id I.loc;have hcls:(X.env.scope.kind==.class||(X.env.scope.kind==.module&&X.env.locals != X.env.globals))=false:=by rw[I.ok.kind];rfl
 have hiσ:i<σ.length:=by rw[I.len];exact (xan.mp hi).1
 have cne:=I.cne;have tracked:∀{a:Addr} {h':Heap},(∃o,s.heap.get? a=some o/\H a=none)->Heap.SameBut a s.heap h'->HOk X.prog X.w H h':=fun {a h'} ha hs b ob e=>by
  obtain⟨_,_,hfree⟩:=ha;refine (I.hok b ob e).stay (fun c w' hc q=>(hs.2 c ?_).trans q) (fun _ q=>q) fun _ _ q=>q;rintro rfl;rcases hc with rfl | hc
  ·rw[hfree] at e;cases e
  ·rw[hfree] at hc;cases hc
 rcases hx with hk | hk
 ·refine wpAny_storeName_local hk hn (fun h' hn' hs=>?_) hcls;obtain⟨oL,_,_,hoL,_⟩:=id hn;refine h _ ⟨I.ok,I.os,I.bare,⟨fun b o e n hb hx=>?_,fun b o e n hb hx=>?_,I.base.free,fun b o e hx=>?_,I.base.tups,I.base.frzs,I.base.tbls⟩,⟨_,hn',fun j y v' e1 e2 e3=>?_⟩,fun y c e=>?_,I.free,I.freeC,fun p hp=>?_,tracked ⟨oL,hoL,I.free⟩ hs,by simpa using I.len⟩ ⟨_,hs,.inl rfl⟩
  ·exact (hs.2 b (xau (xal (Heap.lt_size e) I.ok.above))).trans (I.base.keep b o e n hb hx)
  ·obtain⟨sl,e1⟩:=I.base.slot b o e n hb hx;exact⟨sl,(hs.2 b (xau (xal (Heap.lt_size e) I.ok.above))).trans e1⟩
  ·obtain⟨o',e1⟩:=I.base.there b o e hx;exact⟨o',(hs.2 b (xau (xal (Heap.lt_size e) I.ok.above))).trans e1⟩
  ·by_cases hj:j=i
   ·subst hj;rw[hi] at e1;cases e1;rw[xbu hiσ] at e2;cases e2;exact⟨u,r,.inl ⟨hk,by simp⟩⟩
   ·rw[xbD (Ne.symm hj)] at e2;obtain⟨u',r',q⟩:=hl j y v' e1 e2 e3;refine⟨u',r',?_⟩;rcases q with ⟨k,e⟩ | ⟨k,c,e,z⟩
    ·refine .inl ⟨k,?_⟩;have:y≠x:=fun e=>hj (je8 hN e1 (e▸hi));simp [this,e]
    ·exact .inr ⟨k,c,e,z.sameBut hs (cne y c e)⟩
  ·obtain⟨w',z⟩:=I.cell y c e;exact⟨w',z.sameBut hs (cne y c e)⟩
  ·obtain⟨e,n,ne,nf,d⟩:=I.pin p hp;exact⟨(hs.2 p.1 ne).trans e,n,ne,nf,d⟩
 ·have hfn:X.fn x=true:=by
   rcases hf with z | z
   ·exact z
   ·rw[z] at hk;cases hk
  obtain⟨c,hc⟩:=I.ok.has x (.inl hk);obtain⟨w',z⟩:=I.cell x c hc;refine wpAny_storeName_cell I.ok.kind hk hc z (fun h' hc' hs=>?_);obtain⟨oc,hoc,hocd⟩:=id z;refine h { s with heap:=h' } ⟨I.ok,I.os,I.bare,⟨fun b o e n hb hx=>?_,fun b o e n hb hx=>?_,I.base.free,fun b o e hx=>?_,I.base.tups,I.base.frzs,I.base.tbls⟩,⟨m,hn.sameBut hs (Ne.symm (cne x c hc)),fun j y v' e1 e2 e3=>?_⟩,fun y c' e=>?_,I.free,I.freeC,fun p hp=>?_,tracked ⟨oc,hoc,I.freeC x c hc⟩ hs,by simpa using I.len⟩ ⟨c,hs,.inr hc⟩
  ·exact (hs.2 b (xau (xal (Heap.lt_size e) (I.ok.cab x c hfn hc)))).trans (I.base.keep b o e n hb hx)
  ·obtain⟨sl,e1⟩:=I.base.slot b o e n hb hx;exact⟨sl,(hs.2 b (xau (xal (Heap.lt_size e) (I.ok.cab x c hfn hc)))).trans e1⟩
  ·obtain⟨o',e1⟩:=I.base.there b o e hx;exact⟨o',(hs.2 b (xau (xal (Heap.lt_size e) (I.ok.cab x c hfn hc)))).trans e1⟩
  ·by_cases hj:j=i
   ·subst hj;rw[hi] at e1;cases e1;rw[xbu hiσ] at e2;cases e2;exact⟨u,r,.inr ⟨.inl hk,c,hc,hc'⟩⟩
   ·rw[xbD (Ne.symm hj)] at e2;obtain⟨u',r',q⟩:=hl j y v' e1 e2 e3;refine⟨u',r',?_⟩;rcases q with q | ⟨k,c',e,z'⟩
    ·exact .inl q
    ·refine .inr ⟨k,c',e,z'.sameBut hs ?_⟩;rintro rfl;exact hj (je8 hN e1 (I.ok.inj _ _ _ e hc▸hi))
  ·by_cases hcc:c'=c
   ·subst hcc;exact⟨_,hc'⟩
   ·obtain⟨w2,z2⟩:=I.cell y c' e;exact⟨w2,z2.sameBut hs hcc⟩
  ·obtain⟨e,n,ne,nf,d⟩:=I.pin p hp;refine⟨(hs.2 p.1 ?_).trans e,n,ne,nf,d⟩;intro q;rw[q,hoc] at e;have q':oc=p.2:=Option.some.inj e;exact d w' (by rw[<- q'];exact hocd)
theorem jcN {M:Model} {A:Around} {E:Value->Shared->Prop} {i:Nat} {x:Str} {v:V} {u:Value} {Q:Unit->Shared->Prop} (I:Inv X pins σ H s) (hN:X.N.Nodup) (hi:X.N[i]?=some x) (hx:Loc X.env.scope x) (r:RelV v u)
  (h:∀s',Inv X pins (σ.set i (some v)) H s'->Q () s') (hf:X.fn x=true\/X.env.scope.names.lookup x=some .local:=by first | exact .inl rfl | exact .inr rfl | assumption):wpAny M A (storeName X.env x u) Q E s :=
 jd7 I hN hi hx r (fun s' I' _=>h s' I') hf
theorem Inv.call' {s':Shared} {ch:List Addr} (I:Inv X pins σ H s) (ho:s'.os=s.os) (u:Un (frs X.stack) ch H H' s.heap s'.heap) (hok:HOk X.prog X.w H' s'.heap) (hg:AllBare s'.gens)
  (hch:∀b∈ch,(b∈X.ex\/X.s₀.heap.objs.size<=b)/\b≠X.env.locals/\(∀x c,X.env.cells.lookup x=some c->c≠b)/\∀p∈X.pn++pins,p.1≠b):Inv X pins σ H' s':=by
 obtain⟨h',g',d',t',o'⟩:=s';have e:o'=s.os:=ho;subst e;exact I.call (g':=g') (t':=t') (d':=d') u hok hg hch
end
abbrev XK:=Value->Option Addr->Hp->Prop
abbrev St:=List (Option V)
abbrev VK:=V->Hp->Prop
abbrev TE:=St->Hp->VK->Prop
abbrev TT:=St->Hp->(Bool->Hp->Prop)->Prop
abbrev TA:=St->Hp->(List V->Hp->Prop)->Prop
structure Ends where
 nx:St->Hp->Prop
 rt:VK
 bk:St->Hp->Prop:=fun _ _=>False
 ct:St->Hp->Prop:=fun _ _=>False
abbrev TS:=Ends->St->Hp->Prop
def EP (X:Cx) (pins:List (Addr × Obj)) (σ:St) (Q:VK) (u:Value) (s':Shared):Prop:=∃v H',Inv X pins σ H' s'/\RelV v u/\Q v H'
def TP (X:Cx) (pins:List (Addr × Obj)) (σ:St) (Q:Bool->Hp->Prop) (b:Bool) (s':Shared):Prop:=∃H',Inv X pins σ H' s'/\Q b H'
def AP (X:Cx) (pins:List (Addr × Obj)) (σ:St) (Q:List V->Hp->Prop) (us:List Value) (s':Shared):Prop:=∃vs H',Inv X pins σ H' s'/\Vals vs us/\Q vs H'
def SP (X:Cx) (pins:List (Addr × Obj)) (D:Ends) (f:Flow) (s':Shared):Prop :=
 match f with
 | .next=>∃σ' H',Inv X pins σ' H' s'/\D.nx σ' H'
 | .brk=>∃σ' H',Inv X pins σ' H' s'/\D.bk σ' H'
 | .cont=>∃σ' H',Inv X pins σ' H' s'/\D.ct σ' H'
 | .ret u=>∃v σ' H',Inv X pins σ' H' s'/\RelV v u/\D.rt v H'
def PE (X:Cx) (e:Expr) (t:TE):Prop :=
 ∀(pins:List (Addr × Obj)) (s:Shared) (σ:St) (H:Hp) (Q:VK),Inv X pins σ H s->t σ H Q->wpAny (model X.prog X.w) X.A (eval e X.env) (EP X pins σ Q) X.xe s
def PT (X:Cx) (e:Expr) (t:TT):Prop :=
 ∀(pins:List (Addr × Obj)) (s:Shared) (σ:St) (H:Hp) (Q:Bool->Hp->Prop),Inv X pins σ H s->t σ H Q->wpAny (model X.prog X.w) X.A (isTrue e X.env (eval e X.env)) (TP X pins σ Q) X.xe s
def PW (X:Cx) (e:Expr) (t:TT):Prop :=
 ∀(whole:Sem Value) (pins:List (Addr × Obj)) (s:Shared) (σ:St) (H:Hp) (Q:Bool->Hp->Prop),Inv X pins σ H s->t σ H Q->wpAny (model X.prog X.w) X.A (isTrue e X.env whole) (TP X pins σ Q) X.xe s
theorem PW.pt {X:Cx} {e:Expr} {t:TT} (h:PW X e t):PT X e t:=h _
def PA (X:Cx) (es:List Expr) (t:TA):Prop :=
 ∀(pos:Pos) (pins:List (Addr × Obj)) (s:Shared) (σ:St) (H:Hp) (Q:List V->Hp->Prop),Inv X pins σ H s->t σ H Q->wpAny (model X.prog X.w) X.A (spliced (backTo pos (starEach es X.env))) (AP X pins σ Q) X.xe s
def PS (X:Cx) (st:Stmt) (t:TS):Prop :=
 ∀(pins:List (Addr × Obj)) (s:Shared) (σ:St) (H:Hp) (D:Ends),Inv X pins σ H s->t D σ H->wpAny (model X.prog X.w) X.A (exec st X.env) (SP X pins D) X.xe s
def PSs (X:Cx) (st:List Stmt) (t:TS):Prop :=
 ∀(pins:List (Addr × Obj)) (s:Shared) (σ:St) (H:Hp) (D:Ends),Inv X pins σ H s->t D σ H->wpAny (model X.prog X.w) X.A (execs st X.env) (SP X pins D) X.xe s
theorem thn {α:Type} {t:Sem α} {Q Q':α->Shared->Prop} {M:Model} {A:Around} {E:Value->Shared->Prop} {s:Shared} (h:wpAny M A t Q E s) (hQ:∀a s,Q a s->Q' a s):wpAny M A t Q' E s:=wpAny_mono h hQ fun _ _ x=>x
section
variable {X:Cx}
def jhj (i:Nat):TE:=fun σ H Q=>∃v,σ[i]?=some (some v)/\Q v H
def tC (v:V):TE:=fun _ H Q=>Q v H
theorem jlV {i:Nat} {x:Str} {pos:Pos} (hN:X.N[i]?=some x) (hv:Vis X.env.scope x) (hd:(x==("__debug__":Str))=false:=by decide) (hcd:(x==("__classdict__":Str))=false:=by decide):PE X (.Name x pos) (jhj i):=by
 intro pins s σ H Q I h;obtain⟨v,e,h⟩:=h;obtain⟨m,hn,hl⟩:=I.loc;obtain⟨u,r,l⟩:=hl i x v hN e hv;have fin:EP X pins σ Q u s:=⟨v,H,I,r,h⟩;rcases l with ⟨hk,hm⟩ | ⟨hk,c,hc,hcell⟩
 ·exact wpAny_Name (wpAny_loadName_local I.ok.kind hk hn hm fin) hd
 ·rcases hk with hk | hk
  ·exact wpAny_Name (wpAny_loadName_cell I.ok.kind hk hc hcell fin) hd
  ·exact wpAny_Name (wpAny_loadName_free I.ok.kind hk hc hcell fin hcd) hd
theorem jab {i j pos}:PE X (.Constant (.int i) j pos) (tC (.int i)):=fun _ _ _ H _ I h=>wpAny_Constant_int ⟨.int i,H,I.tok _,⟨_,rfl⟩,h⟩
theorem jby {b j pos}:PE X (.Constant (.bool b) j pos) (tC (.bl b)):=fun _ _ _ H _ I h=>Constant_bool ⟨.bl b,H,I,rfl,h⟩
theorem jeU {j pos}:PE X (.Constant .none j pos) (tC .non):=fun _ _ _ H _ I h=>Constant_none ⟨.non,H,I,rfl,h⟩
theorem jaY {x j pos}:PE X (.Constant (.str x) j pos) (tC (.str x)):=fun _ _ _ H _ I h=>Calls.Constant_str ⟨.str x,H,I.tok _,⟨_,rfl⟩,h⟩
def Gl (X:Cx) (x:Str):Prop:=X.env.kindOf x=some .globalImplicit
theorem jdA {E:Value->Shared->Prop} {pins:List (Addr × Obj)} {s:Shared} {σ:St} {H:Hp} {x:Str} {u:Value} {pos:Pos} {Q:Value->Shared->Prop} (I:Inv X pins σ H s) (hg:Gl X x) (hm:X.mg x=some u) (h:Q u s)
  (hd:(x==("__debug__":Str))=false:=by decide):wpAny (model X.prog X.w) X.A (eval (.Name x pos) X.env) Q E s :=
 Calls.Name_function_global I.ok.kind hg (Calls.loadGlobal_global (by rw[I.ok.glob];exact I.mod.glob.keeps I.bk) hm h) hd
theorem jd8 {E:Value->Shared->Prop} {pins:List (Addr × Obj)} {s:Shared} {σ:St} {H:Hp} {x:Str} {u:Value} {pos:Pos} {Q:Value->Shared->Prop} (I:Inv X pins σ H s) (hg:Gl X x) (hm:X.mg x=none) (hv:bootBuiltins x=some u) (h:Q u s)
  (hn:x≠"__name__":=by decide) (hd:(x==("__debug__":Str))=false:=by decide):wpAny (model X.prog X.w) X.A (eval (.Name x pos) X.env) Q E s:=by
 obtain⟨mb,h1,h2⟩:=I.mod.blt;exact Calls.Name_function_global I.ok.kind hg (Calls.loadGlobal_builtin (by rw[I.ok.glob];exact I.mod.glob.keeps I.bk) hm (by rw[I.ok.blt];exact h1.keeps I.bk) ((h2 x hn).trans hv) h) hd
theorem jct {x:Str} {v:V} {u:Value} {pos:Pos} (hg:Gl X x) (hm:X.mg x=some u) (r:RelV v u) (hd:(x==("__debug__":Str))=false:=by decide):PE X (.Name x pos) (tC v) :=
 fun _ _ _ H _ I h=>jdA I hg hm ⟨v,H,I,r,h⟩ hd
theorem jc6 {x:Str} {v:V} {u:Value} {pos:Pos} (hg:Gl X x) (hm:X.mg x=none) (hv:bootBuiltins x=some u) (r:RelV v u) (hn:x≠"__name__":=by decide) (hd:(x==("__debug__":Str))=false:=by decide):PE X (.Name x pos) (tC v) :=
 fun _ _ _ H _ I h=>jd8 I hg hm hv ⟨v,H,I,r,h⟩ hn hd
variable {a b:Expr} {ta tb:TE} {pos:Pos}
def tB (t:TE):TT:=fun σ H Q=>t σ H fun x H1=>∃c,x=.bl c/\Q c H1
theorem jbz {e:Expr} {t:TE} (h:PE X e t) (he:∀whole,isTrue e X.env whole=(do let v <- whole;standAt e.pos;holding [v] (truthy v)):=by intro _;rfl):PT X e (tB t):=by
 intro pins s σ H Q I hw;refine isTrue_plain (thn (h pins s σ H _ I hw) fun v s1 ⟨x,H1,I1,r1,q1⟩=>?_) (he _);obtain⟨d,rfl,q⟩:=q1;cases r1;exact wpAny_truthy_bool ⟨H1,I1,q⟩
variable {tA tB':TT} {jbt:List Expr}
def jlW (t u:TT):TT:=fun σ H Q=>t σ H fun c H1=>if c=true then u σ H1 Q else Q false H1
def tOr (t u:TT):TT:=fun σ H Q=>t σ H fun c H1=>if c=true then Q true H1 else u σ H1 Q
def jlX (t:TT):TT:=fun σ H Q=>t σ H fun c H1=>Q (!c) H1
theorem jc7 (ha:PT X a tA):PW X (.BoolOp .And [a] pos) tA:=by
 intro wh pins s σ H Q I h;refine isTrue_and (thn (ha pins s σ H Q I h) fun c s1 e=>?_);cases c with
 | true=>exact isTrue_and_nil e
 | false=>exact e
theorem jdS (ha:PT X a tA):PW X (.BoolOp .Or [a] pos) tA:=by
 intro wh pins s σ H Q I h;refine isTrue_or (thn (ha pins s σ H Q I h) fun c s1 e=>?_);cases c with
 | false=>exact isTrue_or_nil e
 | true=>exact e
theorem jdk (ha:PT X a tA) (hb:PW X (.BoolOp .And (b::jbt) pos) tB'):PW X (.BoolOp .And (a::b::jbt) pos) (jlW tA tB'):=by
 intro wh pins s σ H Q I h;refine isTrue_and (thn (ha pins s σ H _ I h) fun c s1 ⟨H1,I1,q1⟩=>?_);cases c with
 | true=>exact hb wh pins s1 σ H1 Q I1 q1
 | false=>exact⟨H1,I1,q1⟩
theorem jeN (ha:PT X a tA) (hb:PW X (.BoolOp .Or (b::jbt) pos) tB'):PW X (.BoolOp .Or (a::b::jbt) pos) (tOr tA tB'):=by
 intro wh pins s σ H Q I h;refine isTrue_or (thn (ha pins s σ H _ I h) fun c s1 ⟨H1,I1,q1⟩=>?_);cases c with
 | true=>exact⟨H1,I1,q1⟩
 | false=>exact hb wh pins s1 σ H1 Q I1 q1
theorem jcm (ha:PT X a tA):PT X (.UnaryOp .Not a pos) (jlX tA):=by
 intro pins s σ H Q I h;exact isTrue_not (ha pins s σ H (fun c H1=>Q (!c) H1) I h)
def jhK (ta tb:TE):TE:=fun σ H Q=>ta σ H fun x H1=>∃c,x=.bl c/\if c=true then tb σ H1 Q else Q (.bl false) H1
def tOrV (ta tb:TE):TE:=fun σ H Q=>ta σ H fun x H1=>∃c,x=.bl c/\if c=true then Q (.bl true) H1 else tb σ H1 Q
def jhL (ta:TE):TE:=fun σ H Q=>ta σ H fun x H1=>∃c,x=.bl c/\Q (.bl (!c)) H1
theorem jlY {op} {t:TE} (h:PE X a t):PE X (.BoolOp op [a] pos) t:=fun pins s σ H Q I hw=>BoolOp_one (h pins s σ H Q I hw)
theorem jjW (ha:PE X a ta) (hb:PE X (.BoolOp .And (b::jbt) pos) tb):PE X (.BoolOp .And (a::b::jbt) pos) (jhK ta tb):=by
 intro pins s σ H Q I h;refine BoolOp_and (thn (ha pins s σ H _ I h) fun v s1 ⟨x,H1,I1,r1,q1⟩=>?_);obtain⟨c,rfl,q1⟩:=q1;cases r1;refine wpAny_truthy_bool ?_;cases c with
 | true=>exact hb pins s1 σ H1 Q I1 q1
 | false=>exact⟨.bl false,H1,I1,rfl,q1⟩
theorem jlZ (ha:PE X a ta):PE X (.UnaryOp .Not a pos) (jhL ta):=by
 intro pins s σ H Q I h;refine UnaryOp_ (thn (ha pins s σ H _ I h) fun v s1 ⟨x,H1,I1,r1,q1⟩=>?_);obtain⟨c,rfl,q1⟩:=q1;cases r1;exact not_of (wpAny_truthy_bool ⟨.bl (!c),H1,I1,rfl,q1⟩)
end
def SqL (K:PySem.W.Frag) (H:Hp) (a:Addr) (xs:List V):Prop :=
 Rd H a (.lst xs) \/
  ∃(o:Obj) (its:Array Value) (n:Nat),K.lookup a=some o/\o.cls=.type "list"/\o.dict=none/\o.data=.seq its n/\its.size<=sizeLine/\Vals xs its.toList
def SqT (K:PySem.W.Frag) (H:Hp) (a:Addr) (xs:List V):Prop :=
 Rd H a (.tup xs) \/
  ∃(o:Obj) (its:Array Value) (n:Nat),K.lookup a=some o/\o.cls=.type "tuple"/\o.data=.seq its n/\its.size<=sizeLine/\Vals xs its.toList
def absV:Value->Option V
 | .none=>some .non
 | .bool b=>some (.bl b)
 | .int i _=>some (.int i)
 | .str x _=>some (.str x)
 | .bytes b _=>some (.byt b)
 | .float b _=>some (.flt b)
 | .ref a=>some (.ref a)
 | .type n=>some (.ty n)
 | _=>none
theorem RelV.abs {x:V} {u:Value} (r:RelV x u):absV u=some x:=by
 cases x with
 | non=>cases r;rfl
 | bl _=>cases r;rfl
 | int _=>obtain⟨t,rfl⟩:=r;rfl
 | str _=>obtain⟨t,rfl⟩:=r;rfl
 | byt _=>obtain⟨t,rfl⟩:=r;rfl
 | flt _=>obtain⟨t,rfl⟩:=r;rfl
 | ref _=>cases r;rfl
 | ty _=>cases r;rfl
theorem RelV.inj {x y:V} {u:Value} (r:RelV x u) (q:RelV y u):x=y:=Option.some.inj (r.abs.symm.trans q.abs)
theorem Vals.inj:∀{xs ys:List V} {us:List Value},Vals xs us->Vals ys us->xs=ys
 | _,_,_,.nil,.nil=>rfl
 | _,_,_,.cons r t,.cons r' t'=>by rw[r.inj r',Vals.inj t t']
section
variable {X:Cx} {pins:List (Addr × Obj)} {σ:St} {H:Hp} {s:Shared} {a:Addr} {xs ys:List V}
theorem SqL.of {K:PySem.W.Frag} (h:H a=some (.lst xs)):SqL K H a xs:=.inl (.inl h)
theorem SqT.of {K:PySem.W.Frag} (h:H a=some (.tup xs)):SqT K H a xs:=.inl (.inl h)
theorem Inv.list (I:Inv X pins σ H s) (h:SqL X.K H a xs):∃its:List Value,Vals xs its/\PlainL s.heap a its.toArray/\xs.length<=sizeLine:=by
 rcases h with h | ⟨o,its,n,hk,hc,hd,hs,hz,r⟩
 ·obtain⟨z,its,n,r,e⟩:=h.ok I.hok;exact⟨its,r,⟨_,n,e,rfl,rfl,rfl⟩,z⟩
 ·refine⟨its.toList,r,⟨o,n,I.kIn a o hk,hc,hd,by simpa using hs⟩,?_⟩;have e:=r.length;simp only[Array.length_toList] at e;omega
theorem Inv.tuple (I:Inv X pins σ H s) (h:SqT X.K H a xs):∃its:List Value,Vals xs its/\IsTup s.heap a its.toArray/\xs.length<=sizeLine:=by
 rcases h with h | ⟨o,its,n,hk,hc,hs,hz,r⟩
 ·obtain⟨z,its,r,p⟩:=h.ok I.hok;exact⟨its,r,p,z⟩
 ·refine⟨its.toList,r,⟨o,I.kIn a o hk,hc,n,by simpa using hs⟩,?_⟩;have e:=r.length;simp only[Array.length_toList] at e;omega
theorem Inv.list_inj (I:Inv X pins σ H s) (h:SqL X.K H a xs) (h':SqL X.K H a ys):xs=ys:=by
 obtain⟨its,r,⟨o,n,e,_,_,d⟩,_⟩:=I.list h;obtain⟨its',r',⟨o',n',e',_,_,d'⟩,_⟩:=I.list h';rw[e] at e';cases e';rw[d] at d';injection d' with d1 _
 have:its=its':=by simpa using congrArg Array.toList d1
 subst this;exact r.inj r'
theorem Inv.tuple_inj (I:Inv X pins σ H s) (h:SqT X.K H a xs) (h':SqT X.K H a ys):xs=ys:=by
 obtain⟨its,r,⟨o,e,_,n,d⟩,_⟩:=I.tuple h;obtain⟨its',r',⟨o',e',_,n',d'⟩,_⟩:=I.tuple h';rw[e] at e';cases e';rw[d] at d';injection d' with d1 _
 have:its=its':=by simpa using congrArg Array.toList d1
 subst this;exact r.inj r'
end
abbrev Cx.wish (X:Cx) (E:Value->Shared->Prop):Cx:={ X with xe:=E }
abbrev Cx.nox (X:Cx):Cx:=X.wish fun _ _=>False
theorem Cx.Ok.wish {X:Cx} (ok:X.Ok) (E:Value->Shared->Prop):(X.wish E).Ok :=
 ⟨ok.mod,ok.kind,ok.glob,ok.blt,ok.above,ok.inj,ok.has,ok.cab,ok.hd,ok.frames,ok.stk,ok.exf,ok.bs,ok.bsz,ok.noex,ok.exfs,ok.funs,ok.frf⟩
theorem Cx.Ok.unwish {X:Cx} {E:Value->Shared->Prop} (ok:(X.wish E).Ok):X.Ok :=
 ⟨ok.mod,ok.kind,ok.glob,ok.blt,ok.above,ok.inj,ok.has,ok.cab,ok.hd,ok.frames,ok.stk,ok.exf,ok.bs,ok.bsz,ok.noex,ok.exfs,ok.funs,ok.frf⟩
section
variable {X:Cx} {pins:List (Addr × Obj)} {σ:St} {H:Hp} {s:Shared} {E:Value->Shared->Prop}
theorem Inv.wish (I:Inv X pins σ H s) (E:Value->Shared->Prop):Inv (X.wish E) pins σ H s:=⟨I.ok.wish E,I.os,I.bare,I.base,I.loc,I.cell,I.free,I.freeC,I.pin,I.hok,I.len⟩
theorem Inv.unwish (I:Inv (X.wish E) pins σ H s):Inv X pins σ H s:=⟨I.ok.unwish,I.os,I.bare,I.base,I.loc,I.cell,I.free,I.freeC,I.pin,I.hok,I.len⟩
theorem SP.unwish {D:Ends} {f:Flow} {s':Shared} (h:SP (X.wish E) pins D f s'):SP X pins D f s':=by
 cases f with
 | next=>obtain⟨σ',H',I,q⟩:=h;exact⟨σ',H',I.unwish,q⟩
 | brk=>obtain⟨σ',H',I,q⟩:=h;exact⟨σ',H',I.unwish,q⟩
 | cont=>obtain⟨σ',H',I,q⟩:=h;exact⟨σ',H',I.unwish,q⟩
 | ret u=>obtain⟨v,σ',H',I,r,q⟩:=h;exact⟨v,σ',H',I.unwish,r,q⟩
theorem PE.nox {e:Expr} {t:TE} (h:PE X.nox e t):PE X e t:=fun pins s σ H Q I hw =>
 wpAny_mono (h pins s σ H Q (I.wish _) hw) (fun _ _ ⟨v,H',I',r,q⟩=>⟨v,H',I'.unwish,r,q⟩) fun _ _ z=>False.elim z
theorem PT.nox {e:Expr} {t:TT} (h:PT X.nox e t):PT X e t:=fun pins s σ H Q I hw =>
 wpAny_mono (h pins s σ H Q (I.wish _) hw) (fun _ _ ⟨H',I',q⟩=>⟨H',I'.unwish,q⟩) fun _ _ z=>False.elim z
theorem PSs.nox {st:List Stmt} {t:TS} (h:PSs X.nox st t):PSs X st t:=fun pins s σ H D I hw =>
 wpAny_mono (h pins s σ H D (I.wish _) hw) (fun _ _ q=>q.unwish) fun _ _ z=>False.elim z
end
section
variable {X:Cx} {st:Stmt} {jbt:List Stmt} {t u:TS} {e:Expr} {te:TE} {pos:Pos}
def jhk:TS:=fun D σ H=>D.nx σ H
def jkB (t u:TS):TS:=fun D σ H=>t { D with nx:=u D } σ H
theorem jap:PSs X [] jhk:=fun _ _ σ H _ I h=>wpAny_execs_nil ⟨σ,H,I,h⟩
theorem jac (h1:PS X st t) (h2:PSs X jbt u):PSs X (st::jbt) (jkB t u):=by
  intro pins s σ H D I h;refine wpAny_execs_cons (thn (h1 pins s σ H { D with nx:=u D } I h) fun f s1 q=>?_);cases f with
  | next =>
    obtain⟨σ',H',I',q⟩:=q;exact h2 pins s1 σ' H' D I' q
  | ret v=>exact q
  | brk=>exact q
  | cont=>exact q
theorem jae (h1:PS X st t):PSs X [st] t:=by
 intro pins s σ H D I h;refine wpAny_execs_cons (thn (h1 pins s σ H D I h) fun f s1 q=>?_);cases f with
 | next=>exact wpAny_execs_nil q
 | ret v=>exact q
 | brk=>exact q
 | cont=>exact q
def jgz:TS:=fun D σ H=>D.bk σ H
def ji8:TS:=fun D σ H=>D.ct σ H
theorem Inv.quiet {pins:List (Addr × Obj)} {σ:St} {H:Hp} {s:Shared} (I:Inv X pins σ H s):interactive X.env=false:=by simp [interactive,I.ok.kind]
def jhM (te:TE):TS:=fun D σ H=>te σ H fun _ H1=>D.nx σ H1
theorem jbo (he:PE X e te) (hs:swapsWith e none pos.line X.env=pure false:=by rfl):PS X (.Expr e pos) (jhM te):=by
 intro pins s σ H D I h;exact wpAny_Expr_any (thn (he pins s σ H _ I h) fun v s1 ⟨x,H1,I1,r1,q1⟩=>⟨σ,H1,I1,q1⟩) I.quiet hs
def ji5 (te:TE):TS:=fun D σ H=>te σ H D.rt
theorem jao (he:PE X e te):PS X (.Return (some e) pos) (ji5 te):=by
 intro pins s σ H D I h;exact wpAny_Return_some (thn (he pins s σ H _ I h) fun v s1 ⟨x,H1,I1,r1,q1⟩=>⟨x,σ,H1,I1,r1,q1⟩)
def ji9:TS:=fun D _ H=>D.rt .non H
def jkC (c:TT) (t u:TS):TS:=fun D σ H=>c σ H fun b H1=>if b=true then t D σ H1 else u D σ H1
theorem jaK {c:Expr} {a b:List Stmt} {tc:TT} (hc:PT X c tc) (ha:PSs X a t) (hb:PSs X b u):PS X (.If c a b pos) (jkC tc t u):=by
 intro pins s σ H D I h;refine wpAny_If (thn (hc pins s σ H _ I h) fun d s1 ⟨H1,I1,q1⟩=>?_);cases d with
 | true=>exact ha pins s1 σ H1 D I1 q1
 | false=>exact hb pins s1 σ H1 D I1 q1
def jl0:TS:=fun _ _ _=>False
theorem jfE {sts:List Stmt}:PSs X sts jl0:=fun _ _ _ _ _ _ h=>h.elim
end
abbrev TG:=V->St->Hp->(St->Hp->Prop)->Prop
abbrev TGs:=List V->St->Hp->(St->Hp->Prop)->Prop
def PG (X:Cx) (target:Expr) (t:TG):Prop :=
  ∀ (pins : List (Addr × Obj)) (s : Shared) (σ : St) (H : Hp) (v : V) (u : Value) (Q : St -> Hp -> Prop), Inv X pins σ H s -> RelV v u -> t v σ H Q ->
    wpAny (model X.prog X.w) X.A (assign target X.env u) (fun _ s'=>∃σ' H',Inv X pins σ' H' s'/\Q σ' H') X.xe s
def PGs (X:Cx) (ts:List Expr) (t:TGs):Prop :=
  ∀ (pins : List (Addr × Obj)) (s : Shared) (σ : St) (H : Hp) (vs : List V) (us : List Value) (Q : St -> Hp -> Prop), Inv X pins σ H s -> Vals vs us -> t vs σ H Q ->
    wpAny (model X.prog X.w) X.A (assignInOrder ((assignEach ts X.env).map (·.2)) us) (fun _ s'=>∃σ' H',Inv X pins σ' H' s'/\Q σ' H') X.xe s
section
variable {X:Cx} {pos:Pos}
def jbw (i:Nat):TG:=fun v σ H Q=>Q (σ.set i (some v)) H
theorem jaw {i:Nat} {x:Str} (hN:X.N.Nodup) (hi:X.N[i]?=some x) (hx:Loc X.env.scope x) (hf:X.fn x=true\/X.env.scope.names.lookup x=some .local:=by first | exact .inl rfl | exact .inr rfl | assumption):PG X (.Name x pos) (jbw i):=by
 intro pins s σ H v u Q I r h;exact wpAny_assign_Name (jcN I hN hi hx r (fun s' I'=>⟨_,H,I',h⟩) hf)
def jkD:TGs:=fun vs σ H Q=>vs=[]/\Q σ H
def je9 (t:TG) (u:TGs):TGs:=fun vs σ H Q=>∃v r,vs=v::r/\t v σ H fun σ' H'=>u r σ' H' Q
theorem jcu:PGs X [] jkD:=by
 intro pins s σ H vs us Q I r h;obtain⟨e,h⟩:=h;subst e;cases r;exact assignInOrder_nil ⟨σ,H,I,h⟩
theorem ja0 {e:Expr} {es:List Expr} {t:TG} {u:TGs} (h1:PG X e t) (h2:PGs X es u)
    (hs:(assignEach (e::es) X.env).map (·.2)=assign e X.env::(assignEach es X.env).map (·.2):=by rfl):PGs X (e::es) (je9 t u):=by
  intro pins s σ H vs us Q I r h;obtain⟨v,vr,e1,h⟩:=h;subst e1;cases r with
  | cons r rr =>
    rw[hs];refine assignInOrder_cons (thn (h1 pins s σ H _ _ _ I r h) fun _ s1 ⟨σ1,H1,I1,q1⟩=>?_);exact h2 pins s1 σ1 H1 _ _ Q I1 rr q1
def jjX (K:PySem.W.Frag) (n:Nat) (t:TGs):TG:=fun v σ H Q=>∃a xs,v=.ref a/\SqT K H a xs/\xs.length=n/\t xs σ H Q
theorem jeV {es:List Expr} {k:Nat} {t:TGs} {n:Nat} (hc:X.calm=true) (h:PGs X es t)
  (hn:(assignEach es X.env).length=n:=by rfl) (hst:(assignEach es X.env).findIdx? (·.1)=none:=by rfl):PG X (.Tuple es k pos) (jjX X.K n t):=by
 intro pins s σ H v u Q I r hw;obtain⟨a,xs,e1,hq,hl,hw⟩:=hw;subst e1;cases r;obtain⟨its,rv,ht,hz⟩:=I.tuple hq;refine assign_Tuple_tuple (I.ok.hd hc) ht (by simp [hn,<- hl,rv.length]) hst fun h' hx=>?_;have I1:Inv X pins σ H { s with heap:=h' }:=I.kept (t':=s.toks) fun b o e=>hx b o (xau (Heap.lt_size e)) e;exact h pins _ σ H xs _ Q I1 (by simpa using rv) hw
def jjY (te:TE) (g:TG):TS:=fun D σ H=>te σ H fun x H1=>g x σ H1 D.nx
theorem jfF {tg e:Expr} {te:TE} {g:TG} (he:PE X e te) (hg:PG X tg g) (hs:swapsWithSole [tg] e pos.line X.env=pure false:=by rfl) (hw:swappedStores [tg] e X.env=pure none:=by rfl)
  (h1:(assignEach [tg] X.env).map (·.2)=[assign tg X.env]:=by rfl):PS X (.Assign [tg] e pos) (jjY te g):=by
 intro pins s σ H D I h;refine wpAny_Assign_stores (thn (he pins s σ H _ I h) fun v s1 ⟨x,H1,I1,r1,q1⟩=>?_) hs hw;rw[h1];exact thn (hg pins s1 σ H1 x v _ I1 r1 q1) fun _ s2 q=>q
theorem jal {i:Nat} {x:Str} {e:Expr} {te:TE} {pos':Pos} (hN:X.N.Nodup) (hi:X.N[i]?=some x) (hx:Loc X.env.scope x) (he:PE X e te) (hs:swapsWith e (some (.Name x pos')) pos.line X.env=pure false:=by rfl) (hf:X.fn x=true\/X.env.scope.names.lookup x=some .local:=by first | exact .inl rfl | exact .inr rfl | assumption) :
  PS X (.Assign [.Name x pos'] e pos) (jjY te (jbw i)):=by
 intro pins s σ H D I h;refine wpAny_Assign_Name (thn (he pins s σ H _ I h) fun v s1 ⟨y,H1,I1,r1,q1⟩=>?_) hs;exact jcN I1 hN hi hx r1 (fun s2 I2=>⟨_,H1,I2,q1⟩) hf
def jl1 (i j:Nat) (ta:TA):TS:=fun D σ H=>ta σ H fun vs H1=>∃v w,vs=[v,w]/\D.nx ((σ.set i (some v)).set j (some w)) H1
theorem jl2 {i j:Nat} {x y:Str} {a b:Expr} {ta:TA} {px py pt:Pos} {kt k2 pt2} (hc:X.calm=true) (hN:X.N.Nodup) (hi:X.N[i]?=some x) (hj:X.N[j]?=some y) (hij:i≠j)
    (hx:X.env.scope.names.lookup x=some .local) (hy:X.env.scope.names.lookup y=some .local) (ha:PA X [a,b] ta)
    (hw:swappedStores [.Tuple [.Name x px,.Name y py] kt pt] (.Tuple [a,b] k2 pt2) X.env=pure (some [x,y]))
    (hs:swapsWithSole [.Tuple [.Name x px,.Name y py] kt pt] (.Tuple [a,b] k2 pt2) pos.line X.env=pure false:=by rfl) :
    PS X (.Assign [.Tuple [.Name x px,.Name y py] kt pt] (.Tuple [a,b] k2 pt2) pos) (jl1 i j ta):=by
  intro pins s σ H D I h;rw[exec_Assign_arm];refine wpAny_bind (wpAny_standAt ?_);rw[hs];refine wpAny_bind (wpAny_pure ?_);rw[if_neg (by decide)];refine wpAny_bind (Tuple_ (thn (ha _ pins s σ H _ I h) fun us s1 ⟨vs,H1,I1,r1,q1⟩=>?_));obtain⟨v,w,e1,q1⟩:=q1;subst e1;obtain⟨u1,u2,rfl,rv,rw'⟩:∃u1 u2,us=[u1,u2]/\RelV v u1/\RelV w u2:=by
    cases r1 with
    | cons p q =>
      cases q with
      | cons p' q' =>
        cases q';exact⟨_,_,rfl,p,p'⟩
  refine wpAny_newObj_type ?_ (by show 2<=sizeLine;decide);have I2:Inv X pins σ H1 { s1 with heap:=s1.heap.push { cls:=.type "tuple",data:=.seq [u1,u2].toArray } }:=I1.kept (t':=s1.toks) fun b o e=>Heap.get?_push_of_some _ e;rw[hw];refine wpAny_bind (wpAny_pure ?_);show wpAny (model X.prog X.w) X.A (do rule "assign.swapped-stores";let items <- unpackItems (.ref s1.heap.objs.size) 2 none;assignInOrder [fun v=>bindName X.env y v,fun v=>bindName X.env x v] items.reverse;pure Flow.next) _ _ _;refine wpAny_bind (wpAny_rule (wpAny_bind (unpackItems_tuple (items:=#[u1,u2]) (I.ok.hd hc) (IsTup.new s1.heap _) fun h' hx'=>?_)));have I3:=I2.kept (h':=h') (t':=s1.toks) fun b o e=>hx' b o (xau (Heap.lt_size e)) e;show wpAny _ _ (assignInOrder [fun v=>bindName X.env y v,fun v=>bindName X.env x v] [u2,u1] >>= fun _=>pure Flow.next) _ _ _;refine wpAny_bind (assignInOrder_cons (wpAny_bindName (jcN I3 hN hj (.inl hy) rw' (fun s2 I4=>?_) (.inr hy))));refine assignInOrder_cons (wpAny_bindName (jcN I4 hN hi (.inl hx) rv (fun s3 I5=>assignInOrder_nil (wpAny_pure ?_)) (.inr hx)));rw[List.set_comm _ _ (Ne.symm hij)] at I5;exact⟨_,H1,I5,q1⟩
def jl3 (c:TT) (tb:TS):TS:=fun D σ H=>∃W:Nat->St->Hp->Prop,(∃m,W m σ H)/\∀m σ H,W m σ H ->
 c σ H fun b H1=>if b=true then ∃N:St->Hp->Prop,(∀σ' H',N σ' H'->∃m',m'<m/\W m' σ' H')/\tb { D with nx:=N,ct:=N,bk:=D.nx } σ H1 else D.nx σ H1
theorem jfa {c:Expr} {body:List Stmt} {tc:TT} {tb:TS} (hp:PassesOwn (model X.prog X.w) X.A X.env X.xe) (hc:PT X c tc) (hb:PSs X body tb):PS X (.While c body [] pos) (jl3 tc tb):=by
  intro pins s σ H D I h;obtain⟨W,⟨m0,w0⟩,turn⟩:=h;refine wpAny_While (codeAny_whileLoop (fun n s'=>∃σ' H',Inv X pins σ' H' s'/\W n σ' H') ?_ m0 ⟨σ,H,I,w0⟩);rintro n s1 ⟨σ1,H1,I1,w1⟩;refine wpAny_passesOwn hp (thn (hc pins s1 σ1 H1 _ I1 (turn n σ1 H1 w1)) fun b s2 ⟨H2,I2,q2⟩=>?_);cases b with
  | true =>
    obtain⟨N,hN,q2⟩:=q2;rw[if_pos rfl];refine wpAny_passesOwn hp (thn (hb pins s2 σ1 H2 _ I2 q2) fun f s3 q3=>?_);cases f with
    | next =>
      obtain⟨σ3,H3,I3,n3⟩:=q3;obtain⟨m',hm,w3⟩:=hN σ3 H3 n3;exact⟨m',hm,σ3,H3,I3,w3⟩
    | cont =>
      obtain⟨σ3,H3,I3,n3⟩:=q3;obtain⟨m',hm,w3⟩:=hN σ3 H3 n3;exact⟨m',hm,σ3,H3,I3,w3⟩
    | brk=>exact q3
    | ret v=>exact q3
  | false =>
    rw[if_neg xap];exact wpAny_execs_nil ⟨σ1,H2,I2,q2⟩
end
structure It where
 go:Nat->Hp->Prop
 yld:Nat->Hp->V->Hp->Prop
 stop:Nat->Hp->Prop
def jgA (X:Cx) (pins:List (Addr × Obj)) (H:Hp) (b:Addr):Prop :=
 H b=none/\b≠X.env.locals/\b∉X.fs/\(b∈X.ex\/X.s₀.heap.objs.size<=b)/\(∀x c,X.env.cells.lookup x=some c->c≠b)/\∀p∈X.pn++pins,p.1≠b
theorem Inv.fpOk {X:Cx} {pins:List (Addr × Obj)} {σ:St} {H H':Hp} {s:Shared} {b:Addr} (I:Inv X pins σ H s) (hb:s.heap.objs.size<=b) (hn:H' b=none):jgA X pins H' b:=by
 refine⟨hn,Nat.ne_of_gt (xal I.lt hb),I.nofs hb,.inr (xaA I.sz hb),fun x c e z=>?_,fun p hp z=>?_⟩
 ·obtain⟨v,q⟩:=I.cell x c e;exact absurd (xal q.lt (by rw[z];exact hb)) (xaY _)
 ·exact absurd (xal (Heap.lt_size (I.pin p hp).1) (by rw[z];exact hb)) (xaY _)
structure Turn (P:Program) (w:World) (K:PySem.W.Frag) (tg:Expr) (J:It) (fp:List Addr) (it:Addr) (tn:Nat->Heap->Prop):Prop where
 mem:it∈fp
 obj:∀i h,tn i h->∀b∈fp,∃o,h.get? b=some o/\∀v,o.data≠.cell v
 keep:∀i h h',tn i h->(∀b∈fp,∀o,h.get? b=some o->h'.get? b=some o)->tn i h'
 item:∀(X:Cx),X.prog=P->X.w=w->X.K=K->X.calm=true->∀(i:Nat) (pins:List (Addr × Obj)) (s:Shared) (σ:St) (H:Hp) (E:Value->Shared->Prop),Inv X pins σ H s->(∀b∈fp,jgA X pins H b)->tn i s.heap->J.go i H ->
  wpAny (model P w) X.A (pyNext (.ref it)) (fun r s1=>∃u,r=some u /\
   wpAny (model P w) X.A (letOwnedTupleGo tg (.ref it) u) (fun _ s2=>∃x H',Inv X pins σ H' s2/\RelV x u/\J.yld i H x H'/\tn (i+1) s2.heap/\∀b∈fp,H' b=none) E s1) E s
 done:∀(X:Cx),X.prog=P->X.w=w->X.K=K->X.calm=true->∀(i:Nat) (pins:List (Addr × Obj)) (s:Shared) (σ:St) (H:Hp) (E:Value->Shared->Prop),Inv X pins σ H s->(∀b∈fp,jgA X pins H b)->tn i s.heap->J.stop i H ->
  wpAny (model P w) X.A (pyNext (.ref it)) (fun r s1=>r=none/\Inv X pins σ H s1) E s
 self:∀(A:Around) (i:Nat) (s:Shared) (Q:Value->Shared->Prop) (E:Value->Shared->Prop),tn i s.heap->Q (.ref it) s->wpAny (model P w) A (pyIter (.ref it)) Q E s
abbrev TI:=St->Hp->(It->Hp->Prop)->Prop
def PIE (X:Cx) (pins:List (Addr × Obj)) (σ:St) (tg:Expr) (R:It->Hp->Prop) (itv:Value) (s2:Shared):Prop :=
 ∃(it:Addr) (fp:List Addr) (tn:Nat->Heap->Prop) (J:It) (H':Hp),itv=.ref it/\Inv X pins σ H' s2/\Turn X.prog X.w X.K tg J fp it tn/\tn 0 s2.heap/\(∀b∈fp,jgA X pins H' b)/\R J H'
def PI (X:Cx) (tg iter:Expr) (wi:TI):Prop :=
  ∀ (pins : List (Addr × Obj)) (s : Shared) (σ : St) (H : Hp) (R : It -> Hp -> Prop), Inv X pins σ H s -> wi σ H R ->
    wpAny (model X.prog X.w) X.A (eval iter X.env) (fun v s1=>wpAny (model X.prog X.w) X.A (pyIter v) (PIE X pins σ tg R) X.xe s1) X.xe s
theorem jja {M:Model} {A:Around} {E:Value->Shared->Prop} {s:Shared} {tg:Expr} {it:Addr} {u:Value} {o:Obj} {n:String} {vs:Array Value} {Q:Unit->Shared->Prop} (ho:s.heap.get? it=some o) (hc:o.cls=.type n) (hd:o.data=.fields vs)
    (hn:["enumerate","zip","dict_itemiterator","dict_reverseitemiterator","odict_iterator","itertools.zip_longest","itertools.pairwise"].contains n=false) (hQ:Q () s):wpAny M A (letOwnedTupleGo tg (.ref it) u) Q E s:=by
  unfold letOwnedTupleGo;cases tg<;>first
    | exact wpAny_pure hQ
    | (cases u<;>first
        | exact wpAny_pure hQ
        | (refine wpAny_bind (wpAny_load ho ?_)
           rw[hc,hd];show wpAny M A (if (["enumerate","zip","dict_itemiterator","dict_reverseitemiterator","odict_iterator","itertools.zip_longest","itertools.pairwise"].contains n&&vs[0]?==some (rawInt _))=true then _ else _) Q E s;rw[if_neg (by intro h;rw[hn,Bool.false_and] at h;cases h)];exact wpAny_pure hQ))
def Itl (K:PySem.W.Frag) (a:Addr):It :=
 ⟨fun i H=>∃xs x,SqL K H a xs/\xs[i]?=some x,fun i H x H'=>H'=H/\∀xs,SqL K H a xs->xs[i]?=some x,fun i H=>∃xs,SqL K H a xs/\xs.length<=i⟩
def Itt (K:PySem.W.Frag) (a:Addr):It :=
 ⟨fun i H=>∃xs x,SqT K H a xs/\xs[i]?=some x,fun i H x H'=>H'=H/\∀xs,SqT K H a xs->xs[i]?=some x,fun i H=>∃xs,SqT K H a xs/\xs.length<=i⟩
def Itr (lo:Int) (n:Nat):It:=⟨fun i _=>i<n,fun i H x H'=>H'=H/\x=.int (lo+i),fun i _=>n<=i⟩
theorem jhN {P:Program} {w:World} {K:PySem.W.Frag} {tg:Expr} (a it:Addr):Turn P w K tg (Itl K a) [it] it (fun i h=>h.IsListIter it a i) where
 mem:=by simp
 obj:=fun i h st b hb=>by
  have e:b=it:=by simpa using hb
  subst e;obtain⟨o,e,c,d⟩:=st;exact⟨o,e,fun v z=>by rw[d] at z;cases z⟩
 keep:=fun i h h' st k=>st.at fun o e=>k it (by simp) o e
 item:=by
  intro X hP hw hK hc i pins s σ H E I hf st hg;subst hP hw hK;obtain⟨xs,x,hq,hx⟩:=hg;obtain⟨its,rv,p,hz⟩:=I.list hq;obtain⟨u,hu,ru⟩:=rv.get hx;obtain⟨f0,f1,f2,f3,f4,f5⟩:=hf it (by simp);refine wpAny_pyNext_list_item st p.isList (x:=u) (by simpa using hu) fun h' st' sb=>?_;have I1:Inv X pins σ H { s with heap:=h' }:=I.turned (t':=s.toks) (fun b o hb e=>(sb.2 b hb).trans e) f0 f1 f3 f4 f5;obtain⟨o,e,c,d⟩:=id st';exact⟨u,rfl,jja (s:={ s with heap:=h' }) e c d (by decide) ⟨x,H,I1,ru,⟨rfl,fun ys hy=>by rw[I.list_inj hy hq];exact hx⟩,st',fun b hb=>(hf b hb).1⟩⟩
 done:=by
  intro X hP hw hK hc i pins s σ H E I hf st hg;subst hP hw hK;obtain⟨xs,hq,hx⟩:=hg;obtain⟨its,rv,p,hz⟩:=I.list hq;obtain⟨f0,f1,f2,f3,f4,f5⟩:=hf it (by simp);have hl:=rv.length;exact wpAny_pyNext_list_end (I.ok.hd hc) st p.isList (by simp;omega) fun h' eb=>⟨rfl,I.turned (t':=s.toks) (fun b o hb e=>eb b o hb e) f0 f1 f3 f4 f5⟩
 self:=fun _ _ _ _ _ st h=>wpAny_pyIter_listiter st h
theorem jhl {P:Program} {w:World} {K:PySem.W.Frag} {tg:Expr} (a it:Addr):Turn P w K tg (Itt K a) [it] it (fun i h=>h.IsTupleIter it a i) where
 mem:=by simp
 obj:=fun i h st b hb=>by
  have e:b=it:=by simpa using hb
  subst e;obtain⟨o,e,c,d⟩:=st;exact⟨o,e,fun v z=>by rw[d] at z;cases z⟩
 keep:=fun i h h' st k=>st.at fun o e=>k it (by simp) o e
 item:=by
  intro X hP hw hK hc i pins s σ H E I hf st hg;subst hP hw hK;obtain⟨xs,x,hq,hx⟩:=hg;obtain⟨its,rv,p,hz⟩:=I.tuple hq;obtain⟨u,hu,ru⟩:=rv.get hx;obtain⟨f0,f1,f2,f3,f4,f5⟩:=hf it (by simp);refine wpAny_pyNext_tuple_item st (show s.heap.IsTuple a its.toArray from p) (x:=u) (by simpa using hu) fun h' st' sb=>?_;have I1:Inv X pins σ H { s with heap:=h' }:=I.turned (t':=s.toks) (fun b o hb e=>(sb.2 b hb).trans e) f0 f1 f3 f4 f5;obtain⟨o,e,c,d⟩:=id st';exact⟨u,rfl,jja (s:={ s with heap:=h' }) e c d (by decide) ⟨x,H,I1,ru,⟨rfl,fun ys hy=>by rw[I.tuple_inj hy hq];exact hx⟩,st',fun b hb=>(hf b hb).1⟩⟩
 done:=by
  intro X hP hw hK hc i pins s σ H E I hf st hg;subst hP hw hK;obtain⟨xs,hq,hx⟩:=hg;obtain⟨its,rv,p,hz⟩:=I.tuple hq;obtain⟨f0,f1,f2,f3,f4,f5⟩:=hf it (by simp);have hl:=rv.length;exact wpAny_pyNext_tuple_end (I.ok.hd hc) st (show s.heap.IsTuple a its.toArray from p) (by simp;omega) fun h' eb=>⟨rfl,I.turned (t':=s.toks) (fun b o hb e=>eb b o hb e) f0 f1 f3 f4 f5⟩
 self:=fun _ _ _ _ _ st h=>wpAny_pyIter_tupleiter st h
theorem jhm {P:Program} {w:World} {K:PySem.W.Frag} {tg:Expr} (it:Addr) (lo:Int) (n:Nat):Turn P w K tg (Itr lo n) [it] it (fun i h=>IsRangeIter h it (lo+(i:Nat)*1) ((n:Int)-(i:Nat)) 1) where
 mem:=by simp
 obj:=fun i h st b hb=>by
  have e:b=it:=by simpa using hb
  subst e;exact⟨_,st,fun v z=>by
   have z':Data.fields _=Data.cell v:=z;cases z'⟩
 keep:=fun i h h' st k=>k it (by simp) _ st
 item:=by
  intro X hP hw hK hc i pins s σ H E I hf st hg;subst hP hw hK;obtain⟨f0,f1,f2,f3,f4,f5⟩:=hf it (by simp);have W:=Walks.range (prog:=X.prog) (w:=X.w) (I.ok.hd hc) it lo 1 n;refine W.item i s _ _ hg st fun v h' tk hv st' kk=>?_;obtain⟨t,rfl⟩:=hv;have I1:Inv X pins σ H { s with heap:=h',toks:=tk }:=I.turned (fun b o hb e=>kk b o (by simpa using hb) e) f0 f1 f3 f4 f5;refine⟨_,rfl,jja (s:={ s with heap:=h',toks:=tk }) (n:="range_iterator") st' rfl rfl (by decide) ⟨.int (lo+i),H,I1,⟨t,?_⟩,⟨rfl,rfl⟩,st',fun b hb=>(hf b hb).1⟩⟩;rw[Int.mul_one]
 done:=by
  intro X hP hw hK hc i pins s σ H E I hf st hg;subst hP hw hK;obtain⟨f0,f1,f2,f3,f4,f5⟩:=hf it (by simp);exact wpAny_pyNext_range_end (I.ok.hd hc) st (by have:n<=i:=hg;omega) fun h' eb=>⟨rfl,I.turned (t':=s.toks) (fun b o hb e=>eb b o hb e) f0 f1 f3 f4 f5⟩
 self:=fun _ _ _ _ _ st h=>wpAny_pyIter_rangeiter st h
section
variable {X:Cx} {tg:Expr}
def jjb (K:PySem.W.Frag) (tl:TE):TI:=fun σ H R=>tl σ H fun x H1=>∃a,x=.ref a/\(∃xs,SqL K H1 a xs)/\R (Itl K a) H1
def iTup (K:PySem.W.Frag) (tl:TE):TI:=fun σ H R=>tl σ H fun x H1=>∃a,x=.ref a/\(∃xs,SqT K H1 a xs)/\R (Itt K a) H1
theorem jbV {l:Expr} {tl:TE} (hl:PE X l tl):PI X tg l (jjb X.K tl):=by
 intro pins s σ H R I h;refine thn (hl pins s σ H _ I h) fun v s1 ⟨x,H1,I1,r1,q1⟩=>?_;obtain⟨a,e,⟨xs,hq⟩,q⟩:=q1;subst e;cases r1;obtain⟨its,rv,p,hz⟩:=I1.list hq;refine wpAny_pyIter_list p.isList ?_;refine⟨s1.heap.objs.size,[s1.heap.objs.size],_,_,H1,rfl,I1.kept (t':=s1.toks) fun b o e=>Heap.get?_push_of_some _ e,jhN a _,⟨_,Heap.get?_push_size _ rfl,rfl,rfl⟩,fun b hb=>?_,q⟩;have e:b=s1.heap.objs.size:=by simpa using hb
 subst e;exact I1.fpOk (xaj _) (I1.hok.fresh (xaj _))
theorem jgB {l:Expr} {tl:TE} (hl:PE X l tl):PI X tg l (iTup X.K tl):=by
 intro pins s σ H R I h;refine thn (hl pins s σ H _ I h) fun v s1 ⟨x,H1,I1,r1,q1⟩=>?_;obtain⟨a,e,⟨xs,hq⟩,q⟩:=q1;subst e;cases r1;obtain⟨its,rv,p,hz⟩:=I1.tuple hq;refine wpAny_pyIter_tuple (show s1.heap.IsTuple a its.toArray from p) ?_;refine⟨s1.heap.objs.size,[s1.heap.objs.size],_,_,H1,rfl,I1.kept (t':=s1.toks) fun b o e=>Heap.get?_push_of_some _ e,jhl a _,⟨_,Heap.get?_push_size _ rfl,rfl,rfl⟩,fun b hb=>?_,q⟩;have e:b=s1.heap.objs.size:=by simpa using hb
 subst e;exact I1.fpOk (xaj _) (I1.hok.fresh (xaj _))
theorem jgC {pins:List (Addr × Obj)} {σ:St} {H:Hp} {s:Shared} {R:It->Hp->Prop} {E:Value->Shared->Prop} {lo hi:Int} {t u v:Tok} {tk:Nat} (I:Inv X pins σ H s) (h1:-(2^62)<=lo) (h2:lo<2^62) (h3:-(2^62)<=hi) (h4:hi<2^62)
  (q:R (Itr lo (hi-lo).toNat) H):wpAny (model X.prog X.w) X.A (pyIter (.ref s.heap.objs.size)) (PIE X pins σ tg R) E { s with heap:=s.heap.push { cls:=.type "range",data:=.fields #[.int lo t,.int hi u,.int 1 v] },toks:=tk }:=by
 refine wpAny_pyIter_range (IsRange.new ..) (small_one h1 h2 h3 h4) ?_;have I1:Inv X pins σ H { s with heap:=s.heap.push { cls:=.type "range",data:=.fields #[.int lo t,.int hi u,.int 1 v] },toks:=tk }:=I.kept fun b o e=>Heap.get?_push_of_some _ e;refine⟨(s.heap.push { cls:=.type "range",data:=.fields #[.int lo t,.int hi u,.int 1 v] }).objs.size,[(s.heap.push { cls:=.type "range",data:=.fields #[.int lo t,.int hi u,.int 1 v] }).objs.size],_,_,H,rfl,
  I1.kept (t':=tk) fun b o e=>Heap.get?_push_of_some _ e,jhm _ lo (hi-lo).toNat,?_,fun b hb=>?_,q⟩
 ·have e1:lo+((0:Nat):Int)*1=lo:=by simp
  have e2:(((hi-lo).toNat:Nat):Int)-((0:Nat):Int)=Builtin.Range.rangeSize lo hi 1:=by rw[rangeSize_one];split<;>omega
  show IsRangeIter _ _ (lo+((0:Nat):Int)*1) ((((hi-lo).toNat:Nat):Int)-((0:Nat):Int)) 1;rw[e1,e2];exact Heap.get?_push_size _ rfl
 ·have e:b=(s.heap.push { cls:=.type "range",data:=.fields #[.int lo t,.int hi u,.int 1 v] }).objs.size:=by simpa using hb
  subst e;exact I1.fpOk (xaj _) (I1.hok.fresh (xaj _))
def jkE (ta:TA):TI:=fun σ H R=>ta σ H fun vs H1=>∃j:Int,vs=[.int j]/\-(2^62)<=j/\j<2^62/\R (Itr 0 j.toNat) H1
def jkF (ta:TA):TI:=fun σ H R=>ta σ H fun vs H1=>∃i j:Int,vs=[.int i,.int j]/\(-(2^62)<=i/\i<2^62/\-(2^62)<=j/\j<2^62)/\R (Itr i (j-i).toNat) H1
theorem jaI {a:Expr} {ta:TA} {p pos:Pos} (hg:Gl X "range") (hm:X.mg "range"=none) (ha:PA X [a] ta) (hs:starEach [a] X.env=[(false,eval a X.env)]:=by rfl):PI X tg (.Call (.Name "range" p) [a] [] pos) (jkE ta):=by
  intro pins s σ H R I h;refine Call_ (jd8 I hg hm boot_range (PyProof.Rows.callWith_type1 (thn (ha pos pins s σ H _ I h) fun us s1 ⟨vs,H1,I1,r1,q1⟩=>?_) hs rfl));obtain⟨j,e,q1,q2,q⟩:=q1;subst e;cases r1 with
  | cons r rr =>
    cases rr;obtain⟨t,rfl⟩:=r;exact call_range_1 (jgC I1 (by omega) (by omega) q1 q2 (by simpa using q))
theorem jfG {a b:Expr} {ta:TA} {p pos:Pos} (hg:Gl X "range") (hm:X.mg "range"=none) (ha:PA X [a,b] ta) (hs:starEach [a,b] X.env=[(false,eval a X.env),(false,eval b X.env)]:=by rfl) (hs2:starEach [b] X.env=[(false,eval b X.env)]:=by rfl) :
    PI X tg (.Call (.Name "range" p) [a,b] [] pos) (jkF ta):=by
  intro pins s σ H R I h;refine Call_ (jd8 I hg hm boot_range (PyProof.Rows.callWith_type1 (thn (ha pos pins s σ H _ I h) fun us s1 ⟨vs,H1,I1,r1,q1⟩=>?_) (by rw[hs,hs2]) (by rw[hs2];rfl)));obtain⟨i,j,e,⟨q1,q2,q3,q4⟩,q⟩:=q1;subst e;cases r1 with
  | cons r rr =>
    cases rr with
    | cons r' rr =>
      cases rr;obtain⟨t,rfl⟩:=r;obtain⟨t',rfl⟩:=r';exact call_range_2 (jgC I1 q1 q2 q3 q4 q)
def jkG (wi:TI) (g:TG) (tb:TS):TS:=fun D σ H=>wi σ H fun J H1=>∃W:Nat->Nat->St->Hp->Prop,(∃m,W 0 m σ H1)/\∀i m σ H,W i m σ H ->
 (J.stop i H/\D.nx σ H)\/(J.go i H/\∃N:St->Hp->Prop,(∀σ' H',N σ' H'->∃m',m'<m/\W (i+1) m' σ' H')/\∀x H',J.yld i H x H'->g x σ H' fun σ2 H2=>tb { D with nx:=N,ct:=N,bk:=D.nx } σ2 H2)
def jfH (fp:List Addr) (h:Heap):List (Addr × Obj):=fp.filterMap fun b=>(h.get? b).map fun o=>(b,o)
theorem jcO {fp:List Addr} {h:Heap} {b:Addr} {o:Obj} (hb:b∈fp) (e:h.get? b=some o):(b,o)∈jfH fp h:=xbM.mpr ⟨b,hb,by rw[e];rfl⟩
theorem jhO {fp:List Addr} {h:Heap} {p:Addr × Obj} (hp:p∈jfH fp h):p.1∈fp/\h.get? p.1=some p.2:=by
  obtain⟨b,hb,e⟩:=xbM.mp hp;cases q:h.get? b with
  | none=>rw[q] at e;cases e
  | some o =>
    rw[q] at e;have e':(b,o)=p:=Option.some.inj e;subst e';exact⟨hb,q⟩
theorem Inv.pinned {pins:List (Addr × Obj)} {σ:St} {H:Hp} {s:Shared} {fp:List Addr} (I:Inv X pins σ H s) (hf:∀b∈fp,jgA X pins H b) (ho:∀b∈fp,∃o,s.heap.get? b=some o/\∀v,o.data≠.cell v):Inv X (pins++jfH fp s.heap) σ H s :=
 I.pins_of fun p hp=>(xax.mp hp).elim (fun z=>I.pin p (xaz _ z)) fun z=>by
  obtain⟨hb,e⟩:=jhO z;obtain⟨f0,f1,f2,_⟩:=hf p.1 hb;obtain⟨o,e',d⟩:=ho p.1 hb;rw[e] at e';cases e';exact⟨e,f0,f1,f2,d⟩
theorem Inv.unpinned {pins pl:List (Addr × Obj)} {σ:St} {H:Hp} {s:Shared} (I:Inv X (pins++pl) σ H s):Inv X pins σ H s:=I.pins_of fun p hp=>I.pin p (xaz _ (xbg _ hp))
theorem jbA {iter:Expr} {body:List Stmt} {wi:TI} {g:TG} {tb:TS} {pos:Pos} (hp:PassesOwn (model X.prog X.w) X.A X.env X.xe) (hc:X.calm=true) (hi:PI X tg iter wi) (hg:PG X tg g) (hb:PSs X body tb)
  (hs:∀x,foldedSetIterable iter X.env x=pure x:=by intro _;rfl):PS X (.For tg iter body [] pos) (jkG wi g tb):=by
 intro pins s σ H D I h;refine wpAny_For (thn (hi pins s σ H _ I h) fun v s1 h1=>thn h1 fun itv s2 h2=>?_) hs;obtain⟨it,fp,tn,J,H2,e,I2,T,st2,f2,W,⟨m0,w0⟩,turn⟩:=h2;subst e;have stat:∀{H':Hp},(∀b∈fp,H' b=none)->∀b∈fp,jgA X pins H' b:=fun hn b hb=>⟨hn b hb,(f2 b hb).2⟩;refine codeAny_forLoop_any (fun n s'=>∃i σ' H',Inv X pins σ' H' s'/\tn i s'.heap/\(∀b∈fp,H' b=none)/\W i n σ' H') ?_ m0 ⟨0,σ,H2,I2,st2,fun b hb=>(f2 b hb).1,w0⟩;rintro n s3 ⟨i,σ3,H3,I3,st3,fr3,w3⟩;rcases turn i n σ3 H3 w3 with ⟨stop,qn⟩ | ⟨go,N,hN,step⟩
 ·refine wpAny_passesOwn hp (thn (T.done X rfl rfl rfl hc i pins s3 σ3 H3 X.xe I3 (stat fr3) st3 stop) fun r s4 ⟨hr,I4⟩=>?_);subst hr;exact wpAny_execs_nil ⟨σ3,H3,I4,qn⟩
 ·refine wpAny_passesOwn hp (thn (T.item X rfl rfl rfl hc i pins s3 σ3 H3 X.xe I3 (stat fr3) st3 go) fun r s4 ⟨u,hr,h4⟩=>?_);subst hr;refine wpAny_passesOwn hp (thn h4 fun _ s5 ⟨x,H5,I5,r5,y5,st5,fr5⟩=>?_);have I5':=I5.pinned (stat fr5) (T.obj _ _ st5);refine wpAny_passesOwn hp (thn (hg _ s5 σ3 H5 x u _ I5' r5 (step x H5 y5)) fun _ s6 ⟨σ6,H6,I6,q6⟩=>?_);refine wpAny_passesOwn hp (thn (hb _ s6 σ6 H6 _ I6 q6) fun f s7 q7=>?_);have again:∀{σ7:St} {H7:Hp},Inv X (pins++jfH fp s5.heap) σ7 H7 s7->N σ7 H7->∃m,m<n/\∃i σ' H',Inv X pins σ' H' s7/\tn i s7.heap/\(∀b∈fp,H' b=none)/\W i m σ' H':=fun {σ7 H7} I7 n7=>by
   obtain⟨m',hm,w7⟩:=hN σ7 H7 n7;refine⟨m',hm,i+1,σ7,H7,I7.unpinned,T.keep _ _ _ st5 fun b hb o e=>(I7.pin (b,o) (xaz _ (xaz _ (jcO hb e)))).1,fun b hb=>?_,w7⟩;obtain⟨o,e,d⟩:=T.obj _ _ st5 b hb;exact (I7.pin (b,o) (xaz _ (xaz _ (jcO hb e)))).2.1
  cases f with
  | next=>obtain⟨σ7,H7,I7,n7⟩:=q7;exact again I7 n7
  | cont=>obtain⟨σ7,H7,I7,n7⟩:=q7;exact again I7 n7
  | brk=>obtain⟨σ7,H7,I7,q7⟩:=q7;exact⟨σ7,H7,I7.unpinned,q7⟩
  | ret v=>obtain⟨x7,σ7,H7,I7,r7,q7⟩:=q7;exact⟨x7,σ7,H7,I7.unpinned,r7,q7⟩
end
theorem jfb {K:PySem.W.Frag} {a:Addr} {xs:List V} {g:TG} {tb:TS} {D:Ends} {σ:St} {H:Hp} (Pv:Nat->St->Hp->Prop) (h0:Pv 0 σ H) (hl:∀i σ H,i<=xs.length->Pv i σ H->SqL K H a xs)
    (hs:∀i x σ H,xs[i]?=some x->Pv i σ H->g x σ H fun σ2 H2=>tb { D with nx:=Pv (i+1),ct:=Pv (i+1),bk:=D.nx } σ2 H2) (hd:∀σ H,Pv xs.length σ H->D.nx σ H) :
    ∃ W : Nat -> Nat -> St -> Hp -> Prop, (∃ m, W 0 m σ H) /\ ∀ i m σ H, W i m σ H ->
      ((Itl K a).stop i H/\D.nx σ H)\/((Itl K a).go i H/\∃N:St->Hp->Prop,(∀σ' H',N σ' H'->∃m',m'<m/\W (i+1) m' σ' H')/\∀x H',(Itl K a).yld i H x H'->g x σ H' fun σ2 H2=>tb { D with nx:=N,ct:=N,bk:=D.nx } σ2 H2):=by
  refine⟨fun i m σ H=>m=xs.length-i/\i<=xs.length/\Pv i σ H,⟨xs.length,by simp,xaT _,h0⟩,?_⟩;rintro i m σ H ⟨rfl,hi,p⟩;have q:=hl i σ H hi p;by_cases hlt:i<xs.length
  . refine .inr ⟨⟨xs,xs[i],q,by simp [hlt]⟩,Pv (i+1),fun σ' H' p'=>⟨xs.length-(i+1),by omega,rfl,hlt,p'⟩,fun x H' y=>?_⟩
    obtain⟨e,y⟩:=y;subst e;exact hs i x σ _ (y xs q) p
  . have e:i=xs.length:=by omega
    subst e;exact .inl ⟨⟨xs,q,xaj _⟩,hd σ H p⟩
theorem jhP {K:PySem.W.Frag} {a:Addr} {xs:List V} {g:TG} {tb:TS} {D:Ends} {σ:St} {H:Hp} (Pv:Nat->St->Hp->Prop) (h0:Pv 0 σ H) (hl:∀i σ H,i<=xs.length->Pv i σ H->SqT K H a xs)
    (hs:∀i x σ H,xs[i]?=some x->Pv i σ H->g x σ H fun σ2 H2=>tb { D with nx:=Pv (i+1),ct:=Pv (i+1),bk:=D.nx } σ2 H2) (hd:∀σ H,Pv xs.length σ H->D.nx σ H) :
    ∃ W : Nat -> Nat -> St -> Hp -> Prop, (∃ m, W 0 m σ H) /\ ∀ i m σ H, W i m σ H ->
      ((Itt K a).stop i H/\D.nx σ H)\/((Itt K a).go i H/\∃N:St->Hp->Prop,(∀σ' H',N σ' H'->∃m',m'<m/\W (i+1) m' σ' H')/\∀x H',(Itt K a).yld i H x H'->g x σ H' fun σ2 H2=>tb { D with nx:=N,ct:=N,bk:=D.nx } σ2 H2):=by
  refine⟨fun i m σ H=>m=xs.length-i/\i<=xs.length/\Pv i σ H,⟨xs.length,by simp,xaT _,h0⟩,?_⟩;rintro i m σ H ⟨rfl,hi,p⟩;have q:=hl i σ H hi p;by_cases hlt:i<xs.length
  . refine .inr ⟨⟨xs,xs[i],q,by simp [hlt]⟩,Pv (i+1),fun σ' H' p'=>⟨xs.length-(i+1),by omega,rfl,hlt,p'⟩,fun x H' y=>?_⟩
    obtain⟨e,y⟩:=y;subst e;exact hs i x σ _ (y xs q) p
  . have e:i=xs.length:=by omega
    subst e;exact .inl ⟨⟨xs,q,xaj _⟩,hd σ H p⟩
theorem jbe {lo:Int} {n:Nat} {g:TG} {tb:TS} {D:Ends} {σ:St} {H:Hp} (Pv:Nat->St->Hp->Prop) (h0:Pv 0 σ H)
    (hs:∀i σ H,i<n->Pv i σ H->g (.int (lo+i)) σ H fun σ2 H2=>tb { D with nx:=Pv (i+1),ct:=Pv (i+1),bk:=D.nx } σ2 H2) (hd:∀σ H,Pv n σ H->D.nx σ H) :
    ∃ W : Nat -> Nat -> St -> Hp -> Prop, (∃ m, W 0 m σ H) /\ ∀ i m σ H, W i m σ H ->
      ((Itr lo n).stop i H/\D.nx σ H)\/((Itr lo n).go i H/\∃N:St->Hp->Prop,(∀σ' H',N σ' H'->∃m',m'<m/\W (i+1) m' σ' H')/\∀x H',(Itr lo n).yld i H x H'->g x σ H' fun σ2 H2=>tb { D with nx:=N,ct:=N,bk:=D.nx } σ2 H2):=by
  refine⟨fun i m σ H=>m=n-i/\i<=n/\Pv i σ H,⟨n,by simp,xaT _,h0⟩,?_⟩;rintro i m σ H ⟨rfl,hi,p⟩;by_cases hlt:i<n
  . refine .inr ⟨hlt,Pv (i+1),fun σ' H' p'=>⟨n-(i+1),by omega,rfl,hlt,p'⟩,fun x H' y=>?_⟩
    obtain⟨e,y⟩:=y;subst e y;exact hs i σ _ hlt p
  . have e:i=n:=by omega
    subst e;exact .inl ⟨xaj _,hd σ H p⟩
abbrev R2:=V->V->Hp->VK->Prop
def OpR (X:Cx) (f:Value->Value->Sem Value) (r:R2):Prop :=
  ∀ (pins : List (Addr × Obj)) (s : Shared) (σ : St) (H : Hp) (x y : V) (v u : Value) (Q : VK), Inv X pins σ H s -> RelV x v -> RelV y u -> r x y H Q ->
    wpAny (model X.prog X.w) X.A (f v u) (EP X pins σ Q) X.xe s
def UnR (X:Cx) (f:Value->Sem Value) (r:V->Hp->VK->Prop):Prop :=
  ∀ (pins : List (Addr × Obj)) (s : Shared) (σ : St) (H : Hp) (x : V) (v : Value) (Q : VK), Inv X pins σ H s -> RelV x v -> r x H Q ->
    wpAny (model X.prog X.w) X.A (f v) (EP X pins σ Q) X.xe s
def jc8 (X:Cx) (f:Value) (r:List V->Hp->VK->Prop):Prop :=
  ∀ (pins : List (Addr × Obj)) (s : Shared) (σ : St) (H : Hp) (xs : List V) (us : List Value) (Q : VK), Inv X pins σ H s -> Vals xs us -> r xs H Q ->
    wpAny (model X.prog X.w) X.A (call f us) (EP X pins σ Q) X.xe s
def TruR (X:Cx) (r:V->Hp->(Bool->Hp->Prop)->Prop):Prop :=
  ∀ (pins : List (Addr × Obj)) (s : Shared) (σ : St) (H : Hp) (x : V) (v : Value) (Q : Bool -> Hp -> Prop), Inv X pins σ H s -> RelV x v -> r x H Q ->
    wpAny (model X.prog X.w) X.A (truthy v) (TP X pins σ Q) X.xe s
def tOp (r:R2) (ta tb:TE):TE:=fun σ H Q=>ta σ H fun x H1=>tb σ H1 fun y H2=>r x y H2 Q
def tUn (r:V->Hp->VK->Prop) (ta:TE):TE:=fun σ H Q=>ta σ H fun x H1=>r x H1 Q
def rI (C:Int->Int->Prop) (g:Int->Int->V):R2:=fun x y H Q=>∃i j,x=.int i/\y=.int j/\C i j/\Q (g i j) H
def rI0 (g:Int->Int->V):R2:=fun x y H Q=>∃i j,x=.int i/\y=.int j/\Q (g i j) H
def rU (g:Int->V):V->Hp->VK->Prop:=fun x H Q=>∃i,x=.int i/\Q (g i) H
section
variable {X:Cx} {a b c:Expr} {ta tb tc:TE} {pos:Pos}
theorem binT (ha:PE X a ta) (hb:PE X b tb) {pins:List (Addr × Obj)} {s:Shared} {σ:St} {H:Hp} {R:V->V->Hp->Prop} (I:Inv X pins σ H s)
  (h:ta σ H fun x H1=>tb σ H1 fun y H2=>R x y H2) {Q:Value->Shared->Prop} {f:Value->Value->Sem Value}
  (hf:∀v u s2 x y H2,Inv X pins σ H2 s2->RelV x v->RelV y u->R x y H2->wpAny (model X.prog X.w) X.A (f v u) Q X.xe s2) :
  wpAny (model X.prog X.w) X.A (eval a X.env) (fun v s₁=>wpAny (model X.prog X.w) X.A (eval b X.env) (fun u s₂=>wpAny (model X.prog X.w) X.A (f v u) Q X.xe s₂) X.xe s₁) X.xe s:=by
 refine thn (ha pins s σ H _ I h) fun v s1 ⟨x,H1,I1,r1,q1⟩=>?_;refine thn (hb pins s1 σ H1 _ I1 q1) fun u s2 ⟨y,H2,I2,r2,q2⟩=>?_;exact hf v u s2 x y H2 I2 r1 r2 q2
theorem jah {op:Operator} {r:R2} (ho:OpR X (binaryOp op) r) (ha:PE X a ta) (hb:PE X b tb):PE X (.BinOp a op b pos) (tOp r ta tb):=by
 intro pins s σ H Q I h;exact wpAny_BinOp (binT ha hb I h fun v u s2 x y H2 I2 rx ry q=>ho pins s2 σ H2 x y v u Q I2 rx ry q)
theorem jd9 {op:UnaryOp} {r:V->Hp->VK->Prop} (ho:UnR X (unaryOp op) r) (ha:PE X a ta):PE X (.UnaryOp op a pos) (tUn r ta):=by
 intro pins s σ H Q I h;exact UnaryOp_ (thn (ha pins s σ H _ I h) fun v s1 ⟨x,H1,I1,r1,q1⟩=>ho pins s1 σ H1 x v Q I1 r1 q1)
theorem opI {f:Value->Value->Sem Value} {C:Int->Int->Prop} {g:Int->Int->Int}
  (rule:∀(i j:Int) (t u:Tok) (s:Shared) (Q:Value->Shared->Prop) (E:Value->Shared->Prop),C i j->Q (.int (g i j) s.toks) { s with toks:=s.toks+1 }->wpAny (model X.prog X.w) X.A (f (.int i t) (.int j u)) Q E s) :
  OpR X f (rI C fun i j=>.int (g i j)):=by
 intro pins s σ H x y v u Q I rx ry h;obtain⟨i,j,rfl,rfl,hc,q⟩:=h;obtain⟨t,rfl⟩:=rx;obtain⟨t',rfl⟩:=ry;exact rule i j t t' s _ _ hc ⟨.int (g i j),H,I.tok _,⟨_,rfl⟩,q⟩
theorem opI0 {f:Value->Value->Sem Value} {g:Int->Int->Int}
  (rule:∀(i j:Int) (t u:Tok) (s:Shared) (Q:Value->Shared->Prop) (E:Value->Shared->Prop),Q (.int (g i j) s.toks) { s with toks:=s.toks+1 }->wpAny (model X.prog X.w) X.A (f (.int i t) (.int j u)) Q E s) :
  OpR X f (rI0 fun i j=>.int (g i j)):=by
 intro pins s σ H x y v u Q I rx ry h;obtain⟨i,j,rfl,rfl,q⟩:=h;obtain⟨t,rfl⟩:=rx;obtain⟨t',rfl⟩:=ry;exact rule i j t t' s _ _ ⟨.int (g i j),H,I.tok _,⟨_,rfl⟩,q⟩
theorem opB0 {f:Value->Value->Sem Value} {g:Int->Int->Bool}
  (rule:∀(i j:Int) (t u:Tok) (s:Shared) (Q:Value->Shared->Prop) (E:Value->Shared->Prop),Q (.bool (g i j)) s->wpAny (model X.prog X.w) X.A (f (.int i t) (.int j u)) Q E s) :
  OpR X f (rI0 fun i j=>.bl (g i j)):=by
 intro pins s σ H x y v u Q I rx ry h;obtain⟨i,j,rfl,rfl,q⟩:=h;obtain⟨t,rfl⟩:=rx;obtain⟨t',rfl⟩:=ry;exact rule i j t t' s _ _ ⟨.bl (g i j),H,I,rfl,q⟩
def CPow (i j:Int):Prop:=0<=j/\j<=1000000/\i.natAbs<2^64
theorem jbf:OpR X (binaryOp .Add) (rI0 fun i j=>.int (i+j)):=opI0 fun _ _ _ _ _ _ _ q=>add_int q
theorem ja7:OpR X (binaryOp .Sub) (rI0 fun i j=>.int (i-j)):=opI0 fun _ _ _ _ _ _ _ q=>sub_int q
theorem jaE:OpR X (binaryOp .Mod) (rI (fun _ j=>0<j) fun i j=>.int (i % j)):=opI fun i j _ _ _ _ _ hc q=>by
 have h1:(0:Int)<j:=hc;exact mod_int' (by omega) (by rw[Int.fmod_eq_emod_of_nonneg i (by omega)];exact q)
theorem jeW:OpR X (binaryOp .Pow) (rI CPow fun i j=>.int (i^j.toNat)):=opI fun _ _ _ _ _ _ _ hc q=>pow_int_small hc.1 hc.2.1 hc.2.2 q
theorem unI {f:Value->Sem Value} {g:Int->Int}
  (rule:∀(i:Int) (t:Tok) (s:Shared) (Q:Value->Shared->Prop) (E:Value->Shared->Prop),Q (.int (g i) s.toks) { s with toks:=s.toks+1 }->wpAny (model X.prog X.w) X.A (f (.int i t)) Q E s) :
  UnR X f (rU fun i=>.int (g i)):=by
 intro pins s σ H x v Q I rx h;obtain⟨i,rfl,q⟩:=h;obtain⟨t,rfl⟩:=rx;exact rule i t s _ _ ⟨.int (g i),H,I.tok _,⟨_,rfl⟩,q⟩
theorem jcv:UnR X (unaryOp .USub) (rU fun i=>.int (-i)):=unI fun _ _ _ _ _ q=>neg_int q
end
def jlL:V->V->Bool
 | .non,.non=>true | .non,.int _=>true | .int _,.non=>true | .non,.bl _=>true | .bl _,.non=>true | .non,.str _=>true | .str _,.non=>true
 | .int _,.int _=>true | .bl _,.bl _=>true | .str _,.str _=>true | .byt _,.byt _=>true
 | .int _,.str _=>true | .str _,.int _=>true | .bl _,.str _=>true | .str _,.bl _=>true
 | _,_=>false
def rEq:R2:=fun x y H Q=>jlL x y=true/\Q (.bl (decide (x=y))) H
def rNe:R2:=fun x y H Q=>jlL x y=true/\Q (.bl (!decide (x=y))) H
theorem jhQ {i j:Int}:decide (V.int i=V.int j)=(i==j):=by
 rw[xbo];simp
theorem jjZ {i j:Bool}:decide (V.bl i=V.bl j)=(i==j):=by
 rw[xbo];simp
theorem jhR {i j:Str}:decide (V.str i=V.str j)=(i==j):=by
 rw[xbo];simp
theorem jhS {i j:Array UInt8}:decide (V.byt i=V.byt j)=(i.toList==j.toList):=by
 rw[xbo];cases i;cases j;simp
section
variable {X:Cx} {a b c:Expr} {ta tb tc:TE} {pos:Pos}
theorem jaT {pins:List (Addr × Obj)} {σ:St} {H:Hp} {s:Shared} {Q:VK} {k k':Bool} (I:Inv X pins σ H s) (q:Q (.bl k) H) (e:k=k'):EP X pins σ Q (.bool k') s:=by
 subst e;exact⟨.bl k,H,I,rfl,q⟩
theorem jbd:OpR X (compareOp .Eq) rEq:=by
  intro pins s σ H x y v u Q I rx ry h;obtain⟨hs,q⟩:=h;cases x with
  | non =>
    cases rx;cases y with
    | non=>cases ry;exact PySem.EqNone.eq_none_none (jaT I q (by simp))
    | bl j=>cases ry;exact PySem.EqNone.eq_none_bool (jaT I q (by simp))
    | int j=>obtain⟨t',rfl⟩:=ry;exact PySem.EqNone.eq_none_int (jaT I q (by simp))
    | str j=>obtain⟨t',rfl⟩:=ry;exact PySem.EqNone.eq_none_str (jaT I q (by simp))
    | _=>exact absurd (show false=true from hs) xap
  | bl i =>
    cases rx;cases y with
    | non=>cases ry;exact PySem.EqNone.eq_bool_none (jaT I q (by simp))
    | bl j=>cases ry;exact eq_bool (jaT I q jjZ)
    | str j=>obtain⟨t',rfl⟩:=ry;exact PySem.EqMixed.eq_bool_str (jaT I q (by simp))
    | _=>exact absurd (show false=true from hs) xap
  | int i =>
    obtain⟨t,rfl⟩:=rx;cases y with
    | non=>cases ry;exact PySem.EqNone.eq_int_none (jaT I q (by simp))
    | int j=>obtain⟨t',rfl⟩:=ry;exact eq_int (jaT I q jhQ)
    | str j=>obtain⟨t',rfl⟩:=ry;exact PySem.EqMixed.eq_int_str (jaT I q (by simp))
    | _=>exact absurd (show false=true from hs) xap
  | str i =>
    obtain⟨t,rfl⟩:=rx;cases y with
    | non=>cases ry;exact PySem.EqNone.eq_str_none (jaT I q (by simp))
    | bl j=>cases ry;exact PySem.EqMixed.eq_str_bool (jaT I q (by simp))
    | int j=>obtain⟨t',rfl⟩:=ry;exact PySem.EqMixed.eq_str_int (jaT I q (by simp))
    | str j=>obtain⟨t',rfl⟩:=ry;exact eq_str (jaT I q jhR)
    | _=>exact absurd (show false=true from hs) xap
  | byt i =>
    obtain⟨t,rfl⟩:=rx;cases y with
    | byt j=>obtain⟨t',rfl⟩:=ry;exact PySem.W.eq_bytes (jaT I q jhS)
    | _=>exact absurd (show false=true from hs) xap
  | _=>cases y<;>exact absurd (show false=true from hs) xap
theorem jeO:OpR X (compareOp .NotEq) rNe:=by
  intro pins s σ H x y v u Q I rx ry h;obtain⟨hs,q⟩:=h;cases x with
  | non =>
    cases rx;cases y with
    | non=>cases ry;exact PySem.EqNone.ne_none_none (jaT I q (by simp))
    | bl j=>cases ry;exact PySem.EqNone.ne_none_bool (jaT I q (by simp))
    | int j=>obtain⟨t',rfl⟩:=ry;exact PySem.EqNone.ne_none_int (jaT I q (by simp))
    | str j=>obtain⟨t',rfl⟩:=ry;exact PySem.EqNone.ne_none_str (jaT I q (by simp))
    | _=>exact absurd (show false=true from hs) xap
  | bl i =>
    cases rx;cases y with
    | non=>cases ry;exact PySem.EqNone.ne_bool_none (jaT I q (by simp))
    | bl j=>cases ry;exact ne_bool (jaT I q (congrArg not jjZ))
    | str j=>obtain⟨t',rfl⟩:=ry;exact PySem.EqMixed.ne_bool_str (jaT I q (by simp))
    | _=>exact absurd (show false=true from hs) xap
  | int i =>
    obtain⟨t,rfl⟩:=rx;cases y with
    | non=>cases ry;exact PySem.EqNone.ne_int_none (jaT I q (by simp))
    | int j=>obtain⟨t',rfl⟩:=ry;exact ne_int (jaT I q (congrArg not jhQ))
    | str j=>obtain⟨t',rfl⟩:=ry;exact PySem.EqMixed.ne_int_str (jaT I q (by simp))
    | _=>exact absurd (show false=true from hs) xap
  | str i =>
    obtain⟨t,rfl⟩:=rx;cases y with
    | non=>cases ry;exact PySem.EqNone.ne_str_none (jaT I q (by simp))
    | bl j=>cases ry;exact PySem.EqMixed.ne_str_bool (jaT I q (by simp))
    | int j=>obtain⟨t',rfl⟩:=ry;exact PySem.EqMixed.ne_str_int (jaT I q (by simp))
    | str j=>obtain⟨t',rfl⟩:=ry;exact ne_str (jaT I q (congrArg not jhR))
    | _=>exact absurd (show false=true from hs) xap
  | byt i =>
    obtain⟨t,rfl⟩:=rx;cases y with
    | byt j=>obtain⟨t',rfl⟩:=ry;exact PySem.W.ne_bytes (jaT I q (congrArg not jhS))
    | _=>exact absurd (show false=true from hs) xap
  | _=>cases y<;>exact absurd (show false=true from hs) xap
theorem jkH:OpR X (compareOp .Lt) (rI0 fun i j=>.bl (decide (i<j))):=opB0 fun _ _ _ _ _ _ _ q=>lt_int q
theorem jl4:OpR X (compareOp .LtE) (rI0 fun i j=>.bl (decide (i<=j))):=opB0 fun _ _ _ _ _ _ _ q=>le_int q
theorem jeP:OpR X (compareOp .Gt) (rI0 fun i j=>.bl (decide (j<i))):=opB0 fun _ _ _ _ _ _ _ q=>gt_int q
theorem jl5:OpR X (compareOp .GtE) (rI0 fun i j=>.bl (decide (j<=i))):=opB0 fun _ _ _ _ _ _ _ q=>ge_int q
theorem jl6:OpR X (compareOp .Is) (fun x y H Q=>y=.non/\Q (.bl (decide (x=.non))) H):=by
 intro pins s σ H x y v u Q I rx ry h;obtain⟨rfl,q⟩:=h;cases ry;refine is_none_gen (jaT I q ?_);cases x<;>first
  | (cases rx;rfl)
  | (obtain⟨t,rfl⟩:=rx;rfl)
theorem jkI:OpR X (compareOp .IsNot) (fun x y H Q=>y=.non/\Q (.bl (!decide (x=.non))) H):=by
 intro pins s σ H x y v u Q I rx ry h;obtain⟨rfl,q⟩:=h;cases ry;refine isnot_none_gen (jaT I q ?_);cases x<;>first
  | (cases rx;rfl)
  | (obtain⟨t,rfl⟩:=rx;rfl)
theorem jas (b:Expr) {op:CmpOp} (h:op≠.In:=by decide) (h2:op≠.NotIn:=by decide):behindInMarks op b=false:=by
 have e1:(op==CmpOp.In)=false:=by cases op<;>first | rfl | exact absurd rfl h
 have e2:(op==CmpOp.NotIn)=false:=by cases op<;>first | rfl | exact absurd rfl h2
 cases b<;>simp [behindInMarks,e1,e2]
theorem jc9 {op:CmpOp} {r:R2} (ho:OpR X (compareOp op) r) (ha:PE X a ta) (hb:PE X b tb) (hm:behindInMarks op b=false):PE X (.Compare a [op] [b] pos) (tOp r ta tb):=by
 intro pins s σ H Q I h;exact wpAny_Compare1 (binT ha hb I h fun v u s2 x y H2 I2 rx ry q=>ho pins s2 σ H2 x y v u Q I2 rx ry q) hm
def jgi (t:TE):TT:=fun σ H Q=>t σ H fun x H'=>∃k,x=.bl k/\Q k H'
theorem jam {op:CmpOp} {r:R2} (ho:OpR X (compareOp op) r) (ha:PE X a ta) (hb:PE X b tb) (hm:behindInMarks op b=false):PT X (.Compare a [op] [b] pos) (jgi (tOp r ta tb)):=by
 intro pins s σ H Q I h;refine wpAny_isTrue_Compare1 (thn (ha pins s σ H _ I h) fun v s1 ⟨x,H1,I1,r1,q1⟩=>thn (hb pins s1 σ H1 _ I1 q1) fun u s2 ⟨y,H2,I2,r2,q2⟩ =>
  thn (ho pins s2 σ H2 x y v u _ I2 r1 r2 q2) fun c s3 ⟨z,H3,I3,r3,k,e,q3⟩=>?_) hm
 subst e;cases r3;exact wpAny_truthy_bool ⟨H3,I3,q3⟩
def jgD (r r':R2) (ta tb tc:TE):TE:=fun σ H Q=>ta σ H fun x H1=>tb σ H1 fun y H2=>r x y H2 fun z H3=>∃k,z=.bl k /\
 (if k=true then tc σ H3 fun w' H4=>r' y w' H4 Q else Q (.bl false) H3)
theorem jjc {op op':CmpOp} {r r':R2} (ho:OpR X (compareOp op) r) (ho':OpR X (compareOp op') r') (ha:PE X a ta) (hb:PE X b tb) (hc:PE X c tc)
  (hm:lastMarks [op,op'] [b,c]=false:=by with_unfolding_all rfl):PE X (.Compare a [op,op'] [b,c] pos) (jgD r r' ta tb tc):=by
 intro pins s σ H Q I h;refine Compare_chain (thn (ha pins s σ H _ I h) fun v s1 ⟨x,H1,I1,r1,q1⟩=>chain_link (thn (hb pins s1 σ H1 _ I1 q1) fun u s2 ⟨y,H2,I2,r2,q2⟩ =>
  thn (ho pins s2 σ H2 x y v u _ I2 r1 r2 q2) fun d s3 ⟨z,H3,I3,r3,k,e,q3⟩=>?_)) hm
 subst e;cases r3;refine wpAny_truthy_bool ?_;cases k with
 | false=>exact ite_ff ⟨.bl false,H3,I3,rfl,q3⟩
 | true=>exact ite_tt (chain_last (thn (hc pins s3 σ H3 _ I3 q3) fun w' s4 ⟨z',H4,I4,r4,q4⟩=>ho' pins s4 σ H4 y z' u w' Q I4 r2 r4 q4))
theorem jjd {op op':CmpOp} {r r':R2} (ho:OpR X (compareOp op) r) (ho':OpR X (compareOp op') r') (ha:PE X a ta) (hb:PE X b tb) (hc:PE X c tc)
    (hm:lastMarks [op,op'] [b,c]=false:=by with_unfolding_all rfl):PT X (.Compare a [op,op'] [b,c] pos) (jgi (jgD r r' ta tb tc)):=by
  intro pins s σ H Q I h;refine isTrue_chain (thn (ha pins s σ H _ I h) fun v s1 ⟨x,H1,I1,r1,q1⟩=>test_link (thn (hb pins s1 σ H1 _ I1 q1) fun u s2 ⟨y,H2,I2,r2,q2⟩ =>
    thn (ho pins s2 σ H2 x y v u _ I2 r1 r2 q2) fun d s3 ⟨z,H3,I3,r3,k,e,q3⟩=>?_)) hm
  subst e;cases r3;refine wpAny_truthy_bool ?_;cases k with
  | false =>
    obtain⟨k',e',q'⟩:=q3;cases e';exact ite_ff ⟨H3,I3,q'⟩
  | true =>
    refine ite_tt (test_last (thn (hc pins s3 σ H3 _ I3 q3) fun w' s4 ⟨z',H4,I4,r4,q4⟩=>thn (ho' pins s4 σ H4 y z' u w' _ I4 r2 r4 q4) fun d' s5 ⟨z2,H5,I5,r5,k2,e2,q5⟩=>?_));subst e2;cases r5;exact wpAny_truthy_bool ⟨H5,I5,q5⟩
def TruV (K:PySem.W.Frag) (x:V) (H:Hp) (k:Bool):Prop :=
 match x with
 | .non=>k=false
 | .bl b=>k=b
 | .int i=>k=(i != 0)
 | .str y=>y.length<=sizeLine/\k=((y.length:Int) != 0)
 | .byt y=>y.size<=sizeLine/\k=((y.size:Int) != 0)
 | .ref p=>(∃xs,SqL K H p xs/\k=!xs.isEmpty)\/(∃xs,SqT K H p xs/\k=!xs.isEmpty)\/∃kvs,H p=some (.dK kvs)/\k=!kvs.isEmpty
 | _=>False
theorem jhn {κ:Type} {kvs:List (κ × V)} {vs:List (κ × Value)} (r:KV kvs vs):(!vs.isEmpty)=!kvs.isEmpty:=by
 cases r<;>rfl
theorem jeX {xs:List V} {its:List Value} (r:Vals xs its):(!its.toArray.isEmpty)=!xs.isEmpty:=by
 cases r<;>simp
theorem jfI:(sizeLine:Nat)<2^63:=by rw[sizeLine_eq];decide
theorem jl7:TruR X (fun x H Q=>∃k,TruV X.K x H k/\Q k H):=by
  intro pins s σ H x v Q I rx h;obtain⟨k,e,q⟩:=h;have hl:=jfI;have hs:sizeLine=16777216:=sizeLine_eq;cases x with
  | non =>
    cases rx;have e':k=false:=e;subst e';exact truthy_none ⟨H,I,q⟩
  | bl b =>
    cases rx;have e':k=b:=e;subst e';exact wpAny_truthy_bool ⟨H,I,q⟩
  | int i =>
    obtain⟨t,rfl⟩:=rx;have e':k=(i != 0):=e;subst e';exact PySem.P.truthy_int ⟨H,I,q⟩
  | str y =>
    obtain⟨t,rfl⟩:=rx;obtain⟨hy,e'⟩:y.length<=sizeLine/\k=((y.length:Int) != 0):=e;subst e';exact PySem.P.truthy_str (by omega) ⟨H,I.tok _,q⟩
  | byt y =>
    obtain⟨t,rfl⟩:=rx;obtain⟨hy,e'⟩:y.size<=sizeLine/\k=((y.size:Int) != 0):=e;subst e';exact PySem.W.truthy_bytes (by omega) ⟨H,I.tok _,q⟩
  | ref p =>
    cases rx;have e':(∃xs,SqL X.K H p xs/\k=!xs.isEmpty)\/(∃xs,SqT X.K H p xs/\k=!xs.isEmpty)\/∃kvs,H p=some (.dK kvs)/\k=!kvs.isEmpty:=e;rcases e' with ⟨xs,hx,e'⟩ | ⟨xs,hx,e'⟩ | ⟨kvs,hx,e'⟩
    . subst e'
      obtain⟨its,r,pl,hz⟩:=I.list hx;have hlen:=r.length;exact wpAny_truthy_list pl.isList (by simp only[xag];omega) ⟨H,I.tok _,by rw[jeX r];exact q⟩
    . subst e'
      obtain⟨its,r,pl,hz⟩:=I.tuple hx;have hlen:=r.length;exact truthy_tuple pl (by simp only[xag];omega) ⟨H,I.tok _,by rw[jeX r];exact q⟩
    . subst e'
      obtain⟨hz,hS,vs,r,m⟩:kvs.length<=sizeLine/\(p==sysModules)=false/\∃vs,KV kvs vs/\s.heap.DictOf (jgh X.prog X.w) p vs:=I.hok p _ hx;have hlen:kvs.length=vs.length:=Paired.length r;exact wpAny_truthy_dict hS m (by omega) ⟨H,I.tok _,by rw[jhn r];exact q⟩
  | _=>exact (show False from e).elim
theorem jje (ha:PE X a ta) (he:∀whole,isTrue a X.env whole=(do let v <- whole;standAt a.pos;holding [v] (truthy v))) :
  PT X a (fun σ H Q=>ta σ H fun x H'=>∃k,TruV X.K x H' k/\Q k H'):=by
 intro pins s σ H Q I h;exact isTrue_plain (thn (ha pins s σ H _ I h) fun v s1 ⟨x,H1,I1,r1,q1⟩=>jl7 pins s1 σ H1 x v Q I1 r1 q1) (he _)
theorem jbH:OpR X (binaryOp .Add) (fun x y H Q=>∃i j,x=.str i/\y=.str j/\i.length+j.length<=sizeLine/\Q (.str (i++j)) H):=by
 intro pins s σ H x y v u Q I rx ry h;obtain⟨i,j,rfl,rfl,hz,q⟩:=h;obtain⟨t,rfl⟩:=rx;obtain⟨t',rfl⟩:=ry;exact add_str (fun t' tk=>⟨.str (i++j),H,I.tok _,⟨_,rfl⟩,q⟩) hz
def jjf (b:Expr):Prop:=∀o i,subscripted b false o i=operate [o,i] (getItem o i)
theorem jda (ha:PE X a ta) (hb:PE X b tb) (hs:jjf b) :
  PE X (.Subscript a b pos) (tOp (fun x y H Q=>∃z i c,x=.str z/\y=.int i/\0<=i/\i<2^63/\i<z.length/\z.cps[i.toNat]?=some c/\Q (.str ⟨#[c]⟩) H) ta tb):=by
 intro pins s σ H Q I h;refine Subscript_ (binT ha hb I h fun v u s2 x y H2 I2 rx ry q=>?_);obtain⟨z,i,c,rfl,rfl,h0,h63,h1,hc,q⟩:=q;obtain⟨t,rfl⟩:=rx;obtain⟨t',rfl⟩:=ry;have e:seqIndex? i z.length=some i.toNat:=PySem.StrLaws.seqIndex_nonneg h0 h1;exact tail_any (typeIs_str s2 z t) slot_str_getitem.lookup (getItem_str (c:=c) (by
  have e1:decide (i < -(2^63:Int))=false:=decide_eq_false (by omega);have e2:decide (i≥2^63)=false:=decide_eq_false (by omega);rw[e1,e2]<;>rfl) (by rw[e];exact hc) ⟨.str ⟨#[c]⟩,H2,I2.tok _,⟨_,rfl⟩,q⟩) (hs _ _)
theorem jfc {x:V} {us:List Value} (r:Vals [x] us):∃u,us=[u]/\RelV x u:=by
 cases r with
 | cons r1 r2=>cases r2;exact⟨_,rfl,r1⟩
theorem jhT {x y:V} {us:List Value} (r:Vals [x,y] us):∃u w',us=[u,w']/\RelV x u/\RelV y w':=by
  cases r with
  | cons r1 r2 =>
    cases r2 with
    | cons r3 r4=>cases r4;exact⟨_,_,rfl,r1,r3⟩
theorem jbS:jc8 X (.builtin "abs") (fun xs H Q=>∃i,xs=[.int i]/\Q (.int (if i<0 then -i else i)) H):=by
 intro pins s σ H xs us Q I r h;obtain⟨i,rfl,q⟩:=h;obtain⟨u,rfl,t,rfl⟩:=jfc r;exact call_abs_int fun u tk=>⟨.int (if i<0 then -i else i),H,I.tok _,⟨_,rfl⟩,q⟩
theorem jfJ (hc:X.calm=true):jc8 X (.builtin "max") (fun xs H Q=>∃i j,xs=[.int i,.int j]/\Q (.int (if j>i then j else i)) H):=by
 intro pins s σ H xs us Q I r h;obtain⟨i,j,rfl,q⟩:=h;obtain⟨u,w',rfl,⟨t,rfl⟩,⟨t',rfl⟩⟩:=jhT r;refine max_two_ints (I.ok.hd hc) fun h' tk k=>⟨_,H,I.kept k,?_,q⟩;by_cases hj:j>i
 ·rw[if_pos hj,if_pos hj];exact⟨_,rfl⟩
 ·rw[if_neg hj,if_neg hj];exact⟨_,rfl⟩
theorem jfK (hc:X.calm=true):jc8 X (.builtin "min") (fun xs H Q=>∃i j,xs=[.int i,.int j]/\Q (.int (if j<i then j else i)) H):=by
 intro pins s σ H xs us Q I r h;obtain⟨i,j,rfl,q⟩:=h;obtain⟨u,w',rfl,⟨t,rfl⟩,⟨t',rfl⟩⟩:=jhT r;refine min_two_ints (I.ok.hd hc) fun h' tk k=>⟨_,H,I.kept k,?_,q⟩;by_cases hj:j<i
 ·rw[if_pos hj,if_pos hj];exact⟨_,rfl⟩
 ·rw[if_neg hj,if_neg hj];exact⟨_,rfl⟩
def LenV (K:PySem.W.Frag) (x:V) (H:Hp) (n:Nat):Prop :=
 match x with
 | .str y=>y.length<=sizeLine/\n=y.length
 | .byt y=>y.size<=sizeLine/\n=y.size
 | .ref p=>(∃xs,SqL K H p xs/\n=xs.length)\/∃xs,SqT K H p xs/\n=xs.length
 | _=>False
theorem jgE:jc8 X (.builtin "len") (fun xs H Q=>∃x n,xs=[x]/\LenV X.K x H n/\Q (.int n) H):=by
  intro pins s σ H xs us Q I r h;obtain⟨x,n,rfl,e,q⟩:=h;obtain⟨u,rfl,rx⟩:=jfc r;have hl:=jfI;have hs:sizeLine=16777216:=sizeLine_eq;cases x with
  | str y =>
    obtain⟨t,rfl⟩:=rx;obtain⟨hy,e'⟩:y.length<=sizeLine/\n=y.length:=e;subst e';exact len_str (by omega) ⟨.int _,H,I.tok _,⟨_,rfl⟩,q⟩
  | byt y =>
    obtain⟨t,rfl⟩:=rx;obtain⟨hy,e'⟩:y.size<=sizeLine/\n=y.size:=e;subst e';exact PySem.W.len_bytes (by omega) ⟨.int _,H,I.tok _,⟨_,rfl⟩,q⟩
  | ref p =>
    cases rx;have e':(∃xs,SqL X.K H p xs/\n=xs.length)\/∃xs,SqT X.K H p xs/\n=xs.length:=e;rcases e' with ⟨xs,hx,e'⟩ | ⟨xs,hx,e'⟩
    . subst e'
      obtain⟨its,r',pl,hz⟩:=I.list hx;have hlen:=r'.length;exact Calls.call_len_list pl.isList (by simp only[xag];omega) ⟨.int xs.length,H,I.tok _,⟨_,by simp only[xag];rw[hlen]⟩,q⟩
    . subst e'
      obtain⟨its,r',pl,hz⟩:=I.tuple hx;have hlen:=r'.length;exact len_tuple pl (by simp only[xag];omega) ⟨.int xs.length,H,I.tok _,⟨_,by simp only[xag];rw[hlen]⟩,q⟩
  | _=>exact (show False from e).elim
end
structure ObjM (h:Heap) (x dx C:Addr) (mA:Str->Option Value):Prop where
 obj:h.get? x=some (PySem.W.instObj C dx)
 ns:h.Ns1 dx mA
 ne:dx≠x
theorem jhU {h:Heap} {dx:Addr} {mA:Str->Option Value} (n:h.Ns1 dx mA):∃od,h.get? dx=some od/\∀name,PySem.W.lookIn name od=some (mA name):=by
 obtain⟨o,es,ep,ho,hd,hk,_,hm⟩:=n;refine⟨o,ho,fun name=>?_⟩;have e:=hm name;unfold nsFind findBy at e;rw[<- Array.find?_toList] at e;unfold PySem.W.lookIn;rw[hd];dsimp only;split
 ·rename_i y q
  rw[q] at e;exact congrArg some e
 ·rename_i q
  rw[q] at e;have a:es.toList.any (·.refKey)=false:=by
   rw[List.any_eq_false];intro y hy;obtain⟨z,t,hkey⟩:=hk y (Array.mem_toList_iff.mp hy);simp [DictEntry.refKey,hkey]
  have a':¬es.toList.any (·.refKey)=true:=by rw[a];exact xap
  rw[if_neg a'];exact congrArg some e
theorem ObjM.look {h:Heap} {x dx C:Addr} {mA:Str->Option Value} (I:ObjM h x dx C mA):∃od,PySem.W.InstAt h x (PySem.W.instObj C dx) C (some od)/\∀name,PySem.W.lookIn name od=some (mA name) :=
 let ⟨od,ho,hl⟩:=jhU I.ns
 ⟨od,⟨I.obj,rfl,rfl,ho⟩,hl⟩
section
variable {prog:Program} {w:World} {A:Around} {E:Value->Shared->Prop} {s:Shared} {K:PySem.W.Frag} {x dx C f:Addr} {mA:Str->Option Value} {name:Str} {v:Value}
theorem jkJ {expr:Bool} {Q:Value->Shared->Prop} (X:K.In s.heap) (I:ObjM s.heap x dx C mA) (hg:PySem.W.plainGet K C name=true) (hh:PySem.W.hasDictIn K C=true)
  (ha:PySem.W.findIn K (.ref C) name=some none) (hv:mA name=some v) (hv':PySem.W.handedIn v=true) (h:Q v { s with toks:=s.toks+1 }) :
  wpAny (model prog w) A (getAttr (.ref x) name expr) Q E s:=by
 obtain⟨od,J,hl⟩:=I.look;exact PySem.W.get_value X J (PySem.W.plainGet_of hg).1 (PySem.W.findObj_own hh ha rfl (by rw[hl,hv])) hv' h
theorem jjg {pl:Sem Bool} {Q:Value × List Value->Shared->Prop} (X:K.In s.heap) (I:ObjM s.heap x dx C mA) (hg:PySem.W.plainGet K C name=true)
  (hf:PySem.W.findIn K (.ref C) name=some (some (.ref f))) (ht:PySem.W.isFn K (.ref f)=true) (hv:mA name=none) (h:Q (.ref f,[.ref x]) s) :
  wpAny (model prog w) A (getMethod (.ref x) name pl) Q E s:=by
 obtain⟨od,J,hl⟩:=I.look;exact PySem.W.method_fn X J (PySem.W.plainGet_of hg).1 (PySem.W.plainGet_of hg).2 hf (beq_iff_eq.mp ht) (by show (PySem.W.lookIn name od).map (·.isSome)=some false;rw[hl,hv];rfl) h
theorem jkK {ns:List Str} {Q:Unit->Shared->Prop} (X:K.In s.heap) (I:ObjM s.heap x dx C mA)
  (hs:PySem.W.findIn K (.ref C) "__setattr__"=some (some (.builtin "object.__setattr__"))) (hp:PySem.W.plainOver K C=true) (ht:PySem.W.takerIn K C name=some none) (hh:PySem.W.hasDictIn K C=true)
  (hw:PySem.Within mA ns) (hsz:ns.length<=sizeLine)
  (h:∀h',ObjM h' x dx C (fun y=>if y=name then some v else mA y)->Heap.SameBut dx s.heap h'->Q () { s with heap:=h',toks:=s.toks+2 }) :
  wpAny (model prog w) A (setAttr (.ref x) name v) Q E s:=by
 obtain⟨od,J,hl⟩:=I.look;refine PySem.W.set_plain X J hs (PySem.W.osa_open (s:={ s with toks:=s.toks+1 }) (r:=none) X J hp ht fun b=>?_);obtain⟨cd,hc,hd'⟩:=PySem.W.any_some hh;have hx:s.heap.get? x=some ⟨.ref C,some dx,.plain,#[]⟩:=I.obj;refine wpAny_bind (wpAny_pure (wpAny_bind (wpAny_bind (wpAny_loadPart hx (wpAny_bind (PySem.W.Looks.here (s:={ s with toks:=s.toks+1 }) (PySem.W.looks_clsIn X hc) ?_))))));rw[hd'];refine wpAny_pure (a:=some dx) (wpAny_bind (wpAny_pure (wpAny_bind ?_)));refine wpAny_nsSet1 (s:={ s with toks:=s.toks+1 }) I.ns fun h' hn2 hs2=>?_;obtain⟨oD,esD,epD,hoD,hdD,hcD⟩:=hn2.count (PySem.Within.cons name v hw);refine wpAny_bind (wpAny_lookBehind hoD (by rw[hdD];exact pastItsLine_dict (xaA hcD (by rw[xav];omega))) ?_);exact wpAny_pure (h _ ⟨(hs2.2 _ (Ne.symm I.ne)).trans I.obj,hn2,I.ne⟩ hs2)
theorem jjh {R:Result->Shared->Prop} {vs:List Value} {kw:List (Str × Value)} (X:K.In s.heap) (hm:PySem.W.makesIn K C=true)
  (hi:PySem.W.findIn K (.ref C) "__init__"=some (some (.ref f))) (hf:PySem.W.typeIn K (.ref f)=some (.type "function"))
  (h:codeAny (model prog w) (A.under (.builtin "type.__call__" ⟨.ref C::vs,kw⟩)) (.call (.ref f) ⟨.ref (s.heap.objs.size+1)::vs,kw⟩) (PySem.W.InitBack (s.heap.objs.size+1) R)
   { s with heap:=(s.heap.push PySem.W.emptyDict).push (PySem.W.instObj C s.heap.objs.size) }) :
  codeAny (model prog w) A (.call (.ref C) ⟨vs,kw⟩) R s:=by
 obtain⟨hh,g,d,t,os⟩:=s;exact PySem.W.make_core (PySem.W.makes_of X hm) (PySem.W.looks_findIn X hi) (fun self=>PySem.W.bind_fn X self hf) (.inl rfl) h
end
def jeM (f:Str) (v:V):List (Str × V)->List (Str × V)
 | []=>[(f,v)]
 | (g,x)::r=>if g=f then (g,v)::r else (g,x)::jeM f v r
theorem jea (f g:Str) (v:V):∀fs:List (Str × V),(jeM f v fs).lookup g=if g=f then some v else fs.lookup g
  | [] => by
    show List.lookup g [(f,v)]=_;by_cases h:g=f
    . have hb:(g==f)=true:=beq_iff_eq.mpr h
      simp only[List.lookup,hb,if_pos h]
    . have hb:(g==f)=false:=beq_eq_false_iff_ne.mpr h
      simp only[List.lookup,hb,if_neg h]
  | (k, x) :: r => by
    have ih:=jea f g v r;rw[show jeM f v ((k,x)::r)=(if k=f then (k,v)::r else (k,x)::jeM f v r) from rfl];by_cases hk:k=f
    . rw[if_pos hk]
      by_cases h:g=k
      . have hb:(g==k)=true:=beq_iff_eq.mpr h
        simp only[List.lookup,hb,if_pos (h.trans hk)]
      . have hb:(g==k)=false:=beq_eq_false_iff_ne.mpr h
        simp only[List.lookup,hb,if_neg (fun e:g=f=>h (e.trans hk.symm))]
    . rw[if_neg hk]
      by_cases h:g=k
      . have hb:(g==k)=true:=beq_iff_eq.mpr h
        simp only[List.lookup,hb,if_neg (fun e:g=f=>hk (h.symm.trans e))]
      . have hb:(g==k)=false:=beq_eq_false_iff_ne.mpr h
        simp only[List.lookup,hb];exact ih
theorem jeb (f:Str) (v:V):∀fs:List (Str × V),f∈(jeM f v fs).map (·.1)/\∀g,g∈fs.map (·.1)->g∈(jeM f v fs).map (·.1)
  | []=>⟨by simp [jeM],fun g h=>by simp at h⟩
  | (k, x) :: r => by
    obtain⟨i1,i2⟩:=jeb f v r;rw[show jeM f v ((k,x)::r)=(if k=f then (k,v)::r else (k,x)::jeM f v r) from rfl];by_cases hk:k=f
    . rw[if_pos hk]
      subst hk;exact⟨by simp,fun g h=>by simpa using h⟩
    . rw[if_neg hk]
      refine⟨?_,fun g h=>?_⟩
      . rw[xaJ]
        exact xar _ i1
      . rw[xaJ] at h |-
        rcases xad.mp h with e | e
        . exact xad.mpr (.inl e)
        . exact xar _ (i2 g e)
theorem jec (f:Str) (v:V):∀fs:List (Str × V),(jeM f v fs).length<=fs.length+1
  | []=>by simp [jeM]
  | (k, x) :: r => by
    have ih:=jec f v r;rw[show jeM f v ((k,x)::r)=(if k=f then (k,v)::r else (k,x)::jeM f v r) from rfl];by_cases hk:k=f
    . rw[if_pos hk,xav,xav];omega
    . rw[if_neg hk,xav,xav];omega
theorem RelO.some_of {v:V} {o:Option Value} (r:RelO (some v) o):∃u,o=some u/\RelV v u:=by
 cases o with
 | none=>exact (show False from r).elim
 | some u=>exact⟨u,rfl,r⟩
theorem RelO.none_of {o:Option Value} (r:RelO none o):o=none:=by
 cases o with
 | none=>rfl
 | some u=>exact (show False from r).elim
theorem jhV {v:V} {u:Value} (r:RelV v u):PySem.W.handedIn u=true:=by
 cases v with
 | non=>cases (show u=Value.none from r);rfl
 | bl b=>cases (show u=Value.bool b from r);rfl
 | int i=>obtain⟨t,e⟩:=(show ∃t,u=Value.int i t from r);cases e;rfl
 | str x=>obtain⟨t,e⟩:=(show ∃t,u=Value.str x t from r);cases e;rfl
 | byt b=>obtain⟨t,e⟩:=(show ∃t,u=Value.bytes b t from r);cases e;rfl
 | flt b=>obtain⟨t,e⟩:=(show ∃t,u=Value.float b t from r);cases e;rfl
 | ref a=>cases (show u=Value.ref a from r);rfl
 | ty n=>cases (show u=Value.type n from r);rfl
section
variable {P:Program} {w:World} {H H':Hp} {h h':Heap} {a C dx:Addr} {fs fs':List (Str × V)}
theorem jfd (hok:HOk P w H h) (e:H a=some (.ins C dx fs)):∃mA,ObjM h a dx C mA/\(∀f,RelO (fs.lookup f) (mA f))/\PySem.Within mA (fs.map (·.1))/\fs.length<=1000/\H dx=some (.own a):=by
 obtain⟨d,z,ne,ob,mA,n,r,q⟩:=(show ObjOk P w H h a (.ins C dx fs) from hok a _ e);exact⟨mA,⟨ob,n,ne⟩,r,q,z,d⟩
end
structure Cls (K:PySem.W.Frag) (C:Addr):Prop where
 pg:PySem.W.plainGet K C Str.empty=true
 hd:PySem.W.hasDictIn K C=true
 po:PySem.W.plainOver K C=true
 sa:PySem.W.findIn K (.ref C) "__setattr__"=some (some (.builtin "object.__setattr__"))
theorem Cls.get {K:PySem.W.Frag} {C:Addr} (c:Cls K C) (f:Str):PySem.W.plainGet K C f=true:=c.pg
def NoAttr (K:PySem.W.Frag) (C:Addr) (f:Str):Prop:=PySem.W.findIn K (.ref C) f=some none
theorem NoAttr.taker {K:PySem.W.Frag} {C:Addr} {f:Str} (n:NoAttr K C f):PySem.W.takerIn K C f=some none:=by
 unfold PySem.W.takerIn;rw[show PySem.W.findIn K (.ref C) f=some none from n];rfl
structure Meth (K:PySem.W.Frag) (C:Addr) (m:Str) (f:Addr):Prop where
 at_:PySem.W.findIn K (.ref C) m=some (some (.ref f))
 fn:PySem.W.isFn K (.ref f)=true
 kp:PySem.W.keepIn K (.ref f)=true
section
variable {X:Cx} {pins:List (Addr × Obj)} {σ:St} {H:Hp} {s:Shared} {a C dx:Addr} {fs:List (Str × V)} {f:Str} {v:V} {A:Around} {E:Value->Shared->Prop}
theorem jho {b:Bool} {Q:Value->Shared->Prop} (I:Inv X pins σ H s) (e:H a=some (.ins C dx fs)) (c:Cls X.K C) (n:NoAttr X.K C f) (l:fs.lookup f=some v)
  (h:∀u s',Inv X pins σ H s'->RelV v u->Q u s'):wpAny (model X.prog X.w) A (getAttr (.ref a) f b) Q E s:=by
 obtain⟨mA,O,r,_,_,_⟩:=jfd I.hok e;obtain⟨u,hu,ru⟩:=RelO.some_of (v:=v) (o:=mA f) (by rw[<- l];exact r f);exact jkJ I.kIn O (c.get f) c.hd n hu (jhV ru) (h u _ (I.tok _) ru)
theorem jcP {m:Str} {g:Addr} {pl:Sem Bool} {Q:Value × List Value->Shared->Prop} (I:Inv X pins σ H s) (e:H a=some (.ins C dx fs)) (c:Cls X.K C) (k:Meth X.K C m g) (l:fs.lookup m=none)
  (h:Q (.ref g,[.ref a]) s):wpAny (model X.prog X.w) A (getMethod (.ref a) m pl) Q E s:=by
 obtain⟨mA,O,r,_,_,_⟩:=jfd I.hok e;have hn:mA m=none:=RelO.none_of (by rw[<- l];exact r m);exact jjg I.kIn O (c.get m) k.at_ k.fn hn h
theorem jhp {y:V} {u:Value} {Q:Unit->Shared->Prop} (I:Inv X pins σ H s) (e:H a=some (.ins C dx fs)) (c:Cls X.K C) (n:NoAttr X.K C f) (hl:fs.length<1000) (ry:RelV y u)
  (h:∀s',Inv X pins σ (upd H a (.ins C dx (jeM f y fs))) s'->Q () s'):wpAny (model X.prog X.w) A (setAttr (.ref a) f u) Q E s:=by
 obtain⟨mA,O,r,wi,_,ho⟩:=jfd I.hok e;have hz:(fs.map (·.1)).length<=sizeLine:=by rw[xaa,sizeLine_eq];omega
 refine jkK I.kIn O c.sa c.po n.taker c.hd wi hz fun h' O' sb=>h _ ?_;have hd:∃o,h'.get? dx=some o:=let ⟨o,_,_,e',_⟩:=O'.ns;⟨o,e'⟩;refine I.write (x:=a) (e:=dx) (by rw[e];exact True.intro) (.inr ho) (fun b q hb z=>(sb.2 b hb).trans z) hd ?_;refine⟨by rw[jar O.ne];exact ho,?_,O.ne,O'.obj,_,O'.ns,fun g=>?_,fun g hg=>?_⟩
 ·have:=jec f y fs;omega
 ·show RelO ((jeM f y fs).lookup g) (if g=f then some u else mA g);rw[jea];by_cases q:g=f
  ·rw[if_pos q,if_pos q];exact ry
  ·rw[if_neg q,if_neg q];exact r g
 ·by_cases q:g=f
  ·rw[q];exact (jeb f y fs).1
  ·refine (jeb f y fs).2 g (wi g fun z=>hg ?_);show (if g=f then some u else mA g)=none;rw[if_neg q];exact z
theorem Inv.made (I:Inv X pins σ H s):Inv X pins σ (upd (upd H s.heap.objs.size (.own (s.heap.objs.size+1))) (s.heap.objs.size+1) (.ins C s.heap.objs.size []))
  { s with heap:=(s.heap.push PySem.W.emptyDict).push (PySem.W.instObj C s.heap.objs.size) }:=by
 have e1:(s.heap.push PySem.W.emptyDict).get? s.heap.objs.size=some PySem.W.emptyDict:=Heap.get?_push_size s.heap rfl;have e2:((s.heap.push PySem.W.emptyDict).push (PySem.W.instObj C s.heap.objs.size)).get? (s.heap.objs.size+1)=some (PySem.W.instObj C s.heap.objs.size):=by
  have:=Heap.get?_push_size (s.heap.push PySem.W.emptyDict) (o:=PySem.W.instObj C s.heap.objs.size) rfl
  rwa [Heap.size_push] at this
 have e3:(s.heap.push PySem.W.emptyDict).Ns s.heap.objs.size (fun _=>none):=⟨PySem.W.emptyDict,#[],_,e1,rfl,(fun e he=>absurd he (by simp)),fun _=>rfl⟩;have I1:=I.laid (a:=s.heap.objs.size) (o:=.own (s.heap.objs.size+1)) (h':=s.heap.push PySem.W.emptyDict) (t':=s.toks) (fun b u q=>Heap.get?_push_of_some _ q) (xaj _) ⟨_,e1⟩;refine I1.laid (a:=s.heap.objs.size+1) (o:=.ins C s.heap.objs.size []) (t':=s.toks) (fun b u q=>Heap.get?_push_of_some _ q) (Nat.le_of_eq (Heap.size_push _ _)) ?_;have ne:s.heap.objs.size≠s.heap.objs.size+1:=xau (xbB _);refine⟨by rw[jar ne,upd_same],xaT _,ne,e2,fun _=>none,(Heap.Ns1.of_empty e3).at fun o q=>Heap.get?_push_of_some _ q,fun _=>True.intro,fun y hy=>absurd rfl hy⟩
theorem jkL {prog:Program} {w:World} {env:Env} {e:Expr} {f:Str} {pos:Pos} {s:Shared} {Q:Value->Shared->Prop} (hb:attributeBase e f env (eval e env)=eval e env)
  (h:wpAny (model prog w) A (eval e env) (fun o s₁=>wpAny (model prog w) A (getAttr o f true) Q E s₁) E s):wpAny (model prog w) A (eval (.Attribute e f pos) env) Q E s :=
 Attribute_any_ h (by rw[arm_eval_Attribute,hb])
end
def tFld (K:PySem.W.Frag) (ta:TE) (f:Str):TE:=fun σ H Q=>ta σ H fun x H1=>∃a C dx fs v,x=.ref a/\H1 a=some (.ins C dx fs)/\Cls K C/\NoAttr K C f/\fs.lookup f=some v/\Q v H1
def sFld (K:PySem.W.Frag) (ta tv:TE) (f:Str):TS:=fun D σ H=>tv σ H fun y H1=>ta σ H1 fun x H2=>∃a C dx fs,x=.ref a/\H2 a=some (.ins C dx fs)/\Cls K C/\NoAttr K C f/\fs.length<1000 /\
 D.nx σ (upd H2 a (.ins C dx (jeM f y fs)))
section
variable {X:Cx} {o e value:Expr} {f:Str} {pos pos' tpos:Pos} {ta tv:TE}
theorem jcw (he:PE X e ta) (hb:attributeBase e f X.env (eval e X.env)=eval e X.env):PE X (.Attribute e f pos) (tFld X.K ta f):=by
 intro pins s σ H Q I h;refine jkL hb (thn (he pins s σ H _ I h) fun u s1 ⟨x,H1,I1,rx,a,C,dx,fs,v,ex,ea,c,n,l,q⟩=>?_);subst ex;obtain rfl:u=Value.ref a:=rx;exact jho I1 ea c n l fun u' s2 I2 ru=>⟨v,H1,I2,ru,q⟩
theorem jgF (ha:PE X o ta) (hv:PE X value tv) (hs:swapsWith value (some (.Attribute o f pos')) pos.line X.env=pure false):PS X (.Assign [.Attribute o f pos'] value pos) (sFld X.K ta tv f):=by
 intro pins s σ H D I h;refine plainObj_wpAny_Assign_Attribute (thn (hv pins s σ H _ I h) fun u s1 ⟨y,H1,I1,ry,q⟩=>thn (ha pins s1 σ H1 _ I1 q) fun ov s2 ⟨x,H2,I2,rx,a,C,dx,fs,ex,ea,c,n,l,q2⟩=>?_) hs;subst ex;obtain rfl:ov=Value.ref a:=rx;exact jhp I2 ea c n l ry fun s3 I3=>⟨σ,_,I3,q2⟩
end
section
variable {X:Cx} {pins:List (Addr × Obj)} {σ:St} {H:Hp} {s:Shared} {A:Around} {E:Value->Shared->Prop} {Q:Value->Shared->Prop} {c:Value} {b:Bool}
inductive TyOf (K:PySem.W.Frag) (H:Hp):V->Value->Prop where
 | non:TyOf K H .non (.type "NoneType")
 | bl (x:Bool):TyOf K H (.bl x) (.type "bool")
 | int (i:Int):TyOf K H (.int i) (.type "int")
 | str (x:Str):TyOf K H (.str x) (.type "str")
 | flt (x:UInt64):TyOf K H (.flt x) (.type "float")
 | lst {a:Addr} {xs:List V} (e:H a=some (.lst xs)):TyOf K H (.ref a) (.type "list")
 | frz {a:Addr} {o:Obj} {xs:List V} (e:H a=some (.frz o (.lst xs))):TyOf K H (.ref a) (.type "list")
 | tup {a:Addr} {xs:List V} (e:H a=some (.tup xs)):TyOf K H (.ref a) (.type "tuple")
 | dK {a:Addr} {kvs:List (Key × V)} (e:H a=some (.dK kvs)):TyOf K H (.ref a) (.type "dict")
 | dT {a:Addr} {kvs:List (List Key × V)} (e:H a=some (.dT kvs)):TyOf K H (.ref a) (.type "dict")
 | ins {a C dx:Addr} {fs:List (Str × V)} (e:H a=some (.ins C dx fs)) (cl:Cls K C) (ha:PySem.W.findIn K (.ref C) "__class__"=some (some (.builtin "object.__class__")))
   (hn:PySem.W.specialIn K (.builtin "object.__class__") "__get__"=some (some (.builtin "getset_descriptor.__get__"))) (htk:PySem.W.takesIn K (.builtin "object.__class__")=some true)
   (hm:PySem.W.mroIn K C (.type "object")=some true):TyOf K H (.ref a) (.ref C)
theorem jhW {x:V} {u t:Value} (I:Inv X pins σ H s) (rx:RelV x u) (ty:TyOf X.K H x t) (e:PySem.W.kitOne X.K t c=some b) (h:∀tk,Q (.bool b) { s with toks:=tk }) :
    wpAny (model X.prog X.w) A (call (.builtin "isinstance") [u,c]) Q E s:=by
  cases ty with
  | non=>cases (show u=Value.none from rx);exact PySem.W.kia_one PySem.W.kitx_none I.kIn True.intro e (fun z=>nomatch z) h
  | bl y=>cases (show u=Value.bool y from rx);exact PySem.W.kia_one PySem.W.kitx_bool I.kIn True.intro e (fun z=>nomatch z) h
  | int i=>obtain⟨t,q⟩:=(show ∃t,u=Value.int i t from rx);cases q;exact PySem.W.kia_one PySem.W.kitx_int I.kIn True.intro e (fun z=>nomatch z) h
  | str y=>obtain⟨t,q⟩:=(show ∃t,u=Value.str y t from rx);cases q;exact PySem.W.kia_one PySem.W.kitx_str I.kIn True.intro e (fun z=>nomatch z) h
  | flt y=>obtain⟨t,q⟩:=(show ∃t,u=Value.float y t from rx);cases q;exact PySem.W.kia_one PySem.W.kitx_float I.kIn True.intro e (fun z=>nomatch z) h
  | @lst a xs ea =>
    cases (show u=Value.ref a from rx);obtain⟨_,_,n,_,h1⟩:=(show ObjOk X.prog X.w H s.heap a (.lst xs) from I.hok a _ ea);exact PySem.W.kia_one PySem.W.kitx_list I.kIn ⟨_,h1,rfl⟩ e (fun z=>nomatch z) h
  | @frz a ob xs ea =>
    cases (show u=Value.ref a from rx);obtain⟨_,_,_,n,_,h1⟩:=(show ObjOk X.prog X.w H s.heap a (.frz ob (.lst xs)) from I.hok a _ ea);exact PySem.W.kia_one PySem.W.kitx_list I.kIn ⟨_,h1,rfl⟩ e (fun z=>nomatch z) h
  | @tup a xs ea =>
    cases (show u=Value.ref a from rx);obtain⟨_,_,_,p⟩:=(show ObjOk X.prog X.w H s.heap a (.tup xs) from I.hok a _ ea);obtain⟨o,h1,h2,_⟩:=p;exact PySem.W.kia_one PySem.W.kitx_tuple I.kIn ⟨o,h1,h2⟩ e (fun z=>nomatch z) h
  | @dK a kvs ea =>
    cases (show u=Value.ref a from rx);obtain⟨_,_,vs,_,p⟩:=(show ObjOk X.prog X.w H s.heap a (.dK kvs) from I.hok a _ ea);obtain⟨o,es,ep,h1,h2,_⟩:=p;exact PySem.W.kia_one PySem.W.kitx_dict I.kIn ⟨o,h1,h2.1⟩ e (fun z=>nomatch z) h
  | @dT a kvs ea =>
    cases (show u=Value.ref a from rx);obtain⟨_,_,xs,_,o,es,ep,h1,h2,_⟩:=(show ObjOk X.prog X.w H s.heap a (.dT kvs) from I.hok a _ ea);exact PySem.W.kia_one PySem.W.kitx_dict I.kIn ⟨o,h1,h2.1⟩ e (fun z=>nomatch z) h
  | @ins a C dx fs ea cl ha hn htk hm =>
    cases (show u=Value.ref a from rx);obtain⟨mA,O,_⟩:=jfd I.hok ea;obtain⟨od,J,_⟩:=O.look;exact PySem.W.kia_one (PySem.W.kitx_own (cl.get _) cl.hd ha hn htk hm) I.kIn J e (fun z=>nomatch z) h
end
structure Room (k:Nat) (A:Around):Prop where
 hd:A.handled=none
 dp:A.depth+3*k+5<recursionLimit
 un:A.units+16*k+200<cLine
theorem Room.mono {j k:Nat} {A:Around} (r:Room k A) (h:j<=k):Room j A:=⟨r.hd,by have:=r.dp;omega,by have:=r.un;omega⟩
theorem Room.m {j k:Nat} {A:Around} (r:Room k A) (h:j≤k:=by decide):Room j A:=r.mono h
theorem Room.deeper {k:Nat} {A:Around} (r:Room (k+1) A) (env:Env):Room k (A.deeper env) :=
 ⟨r.hd,by have:=r.dp;show A.depth+1+3*k+5<_;omega,by have:=r.un;show A.units+3+16*k+200<_;omega⟩
theorem Room.in1 {k:Nat} {A:Around} (r:Room (k+1) A):Room k A.in1 :=
 ⟨r.hd,by have:=r.dp;show A.depth+3*k+5<_;omega,by have:=r.un;show A.units+1+16*k+200<_;omega⟩
theorem jhq {A:Around} {C:Addr} {us:List Value} {kw:List (Str × Value)}:(A.under (.builtin "type.__call__" ⟨.ref C::us,kw⟩)).depth=A.depth+1:=by
 first | rfl | simp [Around.under,Code.weight,Code.isCreation,Code.isGuard,Code.isCaller,Code.frames,Code.isFrame,guardIds]
theorem jhr {A:Around} {C:Addr} {us:List Value} {kw:List (Str × Value)}:(A.under (.builtin "type.__call__" ⟨.ref C::us,kw⟩)).units=A.units+1:=by
 first | rfl | simp [Around.under,Code.cUnits,Code.frames,Code.isFrame]
theorem Room.make {k:Nat} {A:Around} (r:Room (k+1) A) (C:Addr) (us:List Value) (kw:List (Str × Value)):Room k (A.under (.builtin "type.__call__" ⟨.ref C::us,kw⟩)) :=
 ⟨r.hd,by have:=r.dp;rw[jhq];omega,by have:=r.un;rw[jhr];omega⟩
theorem Room.depth {k:Nat} {A:Around} (r:Room k A):A.depth<recursionLimit:=by have:=r.dp;omega
theorem Room.units {k:Nat} {A:Around} (r:Room k A):A.units+64<cLine:=by have:=r.un;omega
def jhs:TA:=fun _ H Q=>Q [] H
def jfe (ta:TE) (tr:TA):TA:=fun σ H Q=>ta σ H fun x H1=>tr σ H1 fun xs H2=>Q (x::xs) H2
section
variable {X:Cx} {e:Expr} {es:List Expr} {te:TE} {t:TA} {pos:Pos}
theorem jad:PA X [] jhs:=fun _ _ _ _ H Q I h=>Calls.spliced_nil ⟨[],H,I,.nil,h⟩
theorem jaa (ha:PE X e te) (hr:PA X es t) (hs:starEach (e::es) X.env=(false,eval e X.env)::starEach es X.env:=by rfl):PA X (e::es) (jfe te t):=by
 intro pos pins s σ H Q I h;rw[hs];show wpAny _ _ (spliced ((false,eval e X.env)::backTo pos (starEach es X.env))) _ _ s;refine Calls.spliced_cons (thn (ha pins s σ H _ I h) fun u s1 ⟨x,H1,I1,r1,q1⟩=>?_);exact thn (hr pos pins s1 σ H1 _ I1 q1) fun us s2 ⟨xs,H2,I2,r2,q2⟩=>⟨x::xs,H2,I2,.cons r1 r2,q2⟩
def jkM (t:TA):TE:=fun σ H Q=>t σ H fun xs H1=>xs.length<=sizeLine/\∀p,H1 p=none->Q (.ref p) (upd H1 p (.tup xs))
def jkN (t:TA):TE:=fun σ H Q=>t σ H fun xs H1=>xs.length<=sizeLine/\∀p,H1 p=none->Q (.ref p) (upd H1 p (.lst xs))
theorem jbc {x1} (h:PA X es t):PE X (.Tuple es x1 pos) (jkM t):=by
 intro pins s σ H Q I hq;refine wpAny_Tuple_spliced (thn (h pos pins s σ H _ I hq) fun us s1 ⟨xs,H1,I1,r,z,q⟩=>⟨by rw[<- r.length];exact z,?_⟩);have hf:H1 s1.heap.objs.size=none:=I1.hok.fresh (xaj _);refine⟨.ref s1.heap.objs.size,upd H1 s1.heap.objs.size (.tup xs),I1.laid (t':=s1.toks) (fun b u e=>Heap.get?_push_of_some _ e) (xaj _) ?_,rfl,q _ hf⟩;exact⟨z,us,r,⟨_,Heap.get?_push_size _ rfl,rfl,_,rfl⟩⟩
theorem jaU (h:PA X es t):PE X (.List es pos) (jkN t):=by
 intro pins s σ H Q I hq;refine wpAny_List_spliced (thn (h pos pins s σ H _ I hq) fun us s1 ⟨xs,H1,I1,r,z,q⟩=>⟨by rw[<- r.length];exact z,?_⟩);have hf:H1 s1.heap.objs.size=none:=I1.hok.fresh (xaj _);refine⟨.ref s1.heap.objs.size,upd H1 s1.heap.objs.size (.lst xs),I1.laid (t':=s1.toks) (fun b u e=>Heap.get?_push_of_some _ e) (xaj _) ?_,rfl,q _ hf⟩;exact⟨z,us,0,r,Heap.get?_push_size _ rfl⟩
end
abbrev Sp:=List V->Hp->VK->XK->Prop
abbrev CXT:=List Env->Hp->Shared->XK->Value->Shared->Prop
structure Env0 (P:Program) (w:World) (K:PySem.W.Frag) (mg:Str->Option Value) (base:Heap) (A:Around) (outer:List Env) (s:Shared) (H:Hp):Prop where
 frames:A.frames=some outer
 mod:Mod K mg base
 bs:∀b o,base.get? b=some o->s.heap.get? b=some o/\H b=none
 bsz:base.objs.size<=s.heap.objs.size
 funs:s.heap.FunFrames base outer
 frf:∀b∈frs outer,H b=none
 hok:HOk P w H s.heap
 bare:AllBare s.gens
def CE (outer:List Env) (P:Program) (w:World) (H:Hp) (s:Shared) (Q:VK) (u:Value) (s':Shared):Prop :=
 ∃v H',s'.os=s.os/\AllBare s'.gens/\Un (frs outer) [] H H' s.heap s'.heap/\HOk P w H' s'.heap/\RelV v u/\Q v H'
def CR (CX:CXT) (outer:List Env) (P:Program) (w:World) (H:Hp) (s:Shared) (Q:VK) (E:XK) (r:Result) (s':Shared):Prop :=
 match r with
 | .ok (.ret u)=>CE outer P w H s Q u s'
 | .ok _=>False
 | .error e=>CX outer H s E e s'
structure FnOk (P:Program) (w:World) (K:PySem.W.Frag) (mg:Str->Option Value) (base:Heap) (CX:CXT) (k:Nat) (f:Addr) (fd:FuncData) (ps:List Str) (sp:Sp):Prop where
 len:∀vs H Q E,sp vs H Q E->vs.length=ps.length
 run:∀(A:Around) (outer:List Env) (s:Shared) (H:Hp) (args:Args) (us:List Value) (vs:List V) (Q:VK) (E:XK),Room k A->Env0 P w K mg base A outer s H->BindsTo s fd args (ps.zip us)->Vals vs us->sp vs H Q E ->
  codeAny (model P w) A (.call (.ref f) args) (CR CX outer P w H s Q E) s
theorem FnOk.mono {P:Program} {w:World} {K:PySem.W.Frag} {mg:Str->Option Value} {base:Heap} {CX:CXT} {j k:Nat} {f:Addr} {fd:FuncData} {ps:List Str} {sp:Sp} (F:FnOk P w K mg base CX j f fd ps sp) (h:j<=k) :
  FnOk P w K mg base CX k f fd ps sp:=⟨F.len,fun A outer s H args us vs Q E hr=>F.run A outer s H args us vs Q E (hr.mono h)⟩
theorem Env0.make {P:Program} {w:World} {K:PySem.W.Frag} {mg:Str->Option Value} {base:Heap} {A:Around} {outer:List Env} {s:Shared} {H:Hp} (e:Env0 P w K mg base A outer s H) (C:Addr) (us:List Value) (kw:List (Str × Value)) :
  Env0 P w K mg base (A.under (.builtin "type.__call__" ⟨.ref C::us,kw⟩)) outer s H:=⟨by first | exact e.frames | (simpa [Around.under,Code.envs,Code.isFrame,pushEnvs] using e.frames),e.mod,e.bs,e.bsz,e.funs,e.frf,e.hok,e.bare⟩
theorem Env0.in1 {P:Program} {w:World} {K:PySem.W.Frag} {mg:Str->Option Value} {base:Heap} {A:Around} {outer:List Env} {s:Shared} {H:Hp} (e:Env0 P w K mg base A outer s H) :
  Env0 P w K mg base A.in1 outer s H:=⟨e.frames,e.mod,e.bs,e.bsz,e.funs,e.frf,e.hok,e.bare⟩
section
variable {X:Cx} {pins:List (Addr × Obj)} {σ:St} {H:Hp} {s s':Shared}
theorem Inv.env0 (I:Inv X pins σ H s):Env0 X.prog X.w X.K X.mg X.base X.A X.stack s H :=
 ⟨I.ok.frames,I.ok.mod,I.bs,xaA I.ok.bsz I.sz,I.stack,I.stkFree,I.hok,I.bare⟩
theorem Inv.after {Q:VK} {u:Value} (I:Inv X pins σ H s) (h:CE X.stack X.prog X.w H s Q u s'):EP X pins σ Q u s':=by
 obtain⟨v,H',os,bare,un,hok,r,q⟩:=h;obtain⟨hh,g,d,t,os'⟩:=s';obtain rfl:os'=s.os:=os;exact⟨v,H',I.call (h':=hh) (g':=g) (d':=d) (t':=t) (ch:=[]) un hok bare (fun b z=>absurd z (by simp)),r,q⟩
end
def jgj (sp:Sp) (dvs:List V) (E:XK) (t:TA):TE:=fun σ H Q=>t σ H fun vs H1=>sp (vs++dvs) H1 Q E
def jji (C:Addr) (m:Str) (sp:Sp) (dvs:List V) (E:XK) (ta:TE) (t:TA):TE:=fun σ H Q=>ta σ H fun x H1=>∃a dx fs,x=.ref a/\H1 a=some (.ins C dx fs)/\fs.lookup m=none /\
 t σ H1 fun vs H2=>sp (x::(vs++dvs)) H2 Q E
def jl8 (C:Addr) (sp:Sp) (dvs:List V) (E:XK) (t:TA):TE:=fun σ H Q=>t σ H fun vs H1=>∀x dx,H1 x=none->H1 dx=none->dx≠x ->
 sp (.ref x::(vs++dvs)) (upd (upd H1 dx (.own x)) x (.ins C dx [])) (fun v H2=>v=.non/\Q (.ref x) H2) E
def Binds (K:PySem.W.Frag) (fd:FuncData) (ps:List Str) (ds:List Value):Prop :=
 ∀(s:Shared) (us:List Value),K.In s.heap->(us++ds).length=ps.length->BindsTo s fd ⟨us,[]⟩ (ps.zip (us++ds))
theorem Binds.all {K:PySem.W.Frag} {fd:FuncData} {ps:List Str} (h:∀us:List Value,us.length=ps.length->bindArgs fd ⟨us,[]⟩=pure (ps.zip us)):Binds K fd ps []:=fun s us _ hl=>by
 rw[xbp] at hl |-
 exact .of_eq (h us hl)
def jcn (CX:CXT) (X:Cx) (E:XK):Prop:=∀(pins:List (Addr × Obj)) (σ:St) (H:Hp) (s:Shared) (e:Value) (s':Shared),Inv X pins σ H s->CX X.stack H s E e s'->X.xe e s'
section
variable {X:Cx} {CX:CXT} {k:Nat} {f C:Addr} {fd:FuncData} {ps:List Str} {sp:Sp} {dvs:List V} {ds:List Value} {E:XK} {x m:Str} {p pos apos:Pos} {e o:Expr} {es:List Expr} {ta:TE} {t:TA}
theorem jhX {pins:List (Addr × Obj)} {σ:St} {H:Hp} {s:Shared} {Q:VK} {us:List Value} {vs:List V} (F:FnOk X.prog X.w X.K X.mg X.base CX k f fd ps sp) (hr:Room k X.A) (hb:Binds X.K fd ps ds) (hd:Vals dvs ds) (hx:jcn CX X E)
    (I:Inv X pins σ H s) (r:Vals vs us) (h:sp (vs++dvs) H Q E):wpAny (model X.prog X.w) X.A (call (.ref f) us) (EP X pins σ Q) X.xe s:=by
  have r2:Vals (vs++dvs) (us++ds):=r.append hd;have hl:(us++ds).length=ps.length:=by rw[<- r2.length];exact F.len _ _ _ _ h
  refine wpAny_call (codeAny_mono (F.run X.A X.stack s H ⟨us,[]⟩ (us++ds) (vs++dvs) Q E hr I.env0 (hb s us I.kIn hl) r2 h) fun r s' hq=>?_);cases r with
  | error e=>exact hx pins σ H s e s' I hq
  | ok fl =>
    cases fl with
    | ret u=>exact I.after hq
    | next=>exact False.elim hq
    | brk=>exact False.elim hq
    | cont=>exact False.elim hq
theorem jkO (F:FnOk X.prog X.w X.K X.mg X.base CX k f fd ps sp) (hr:Room k X.A) (hg:Gl X x) (hm:X.mg x=some (.ref f)) (hk:PySem.W.keepIn X.K (.ref f)=true) (hb:Binds X.K fd ps ds) (hd:Vals dvs ds) (hx:jcn CX X E)
  (ha:PA X (e::es) t) (hdb:(x==("__debug__":Str))=false:=by decide) (he:starEach (e::es) X.env=(false,eval e X.env)::starEach es X.env:=by rfl) (hpl:(backTo pos (starEach es X.env)).any (·.1)=false:=by rfl) :
  PE X (.Call (.Name x p) (e::es) [] pos) (jgj sp dvs E t):=by
 intro pins s σ H Q I h;refine wpAny_Call_Name_kw (jdA I hg hm ?_ hdb);refine PySem.W.callWith_K (h₀:=X.base) I.ok.mod.kin hk (thn (ha pos pins s σ H _ I h) fun us s1 ⟨vs,H1,I1,r,q⟩=>⟨I1.kIn,?_⟩) he hpl;exact jhX F hr hb hd hx I1 r q
theorem jkP {pl:Sem Bool} (he:PE X o ta) (c:Cls X.K C) (hm:Meth X.K C m f) (F:FnOk X.prog X.w X.K X.mg X.base CX k f fd ps sp) (hr:Room k X.A) (hb:Binds X.K fd ps ds) (hd:Vals dvs ds) (hx:jcn CX X E) (ha:PA X (e::es) t)
  (hst:starEach (e::es) X.env=(false,eval e X.env)::starEach es X.env:=by rfl) (hpl:(backTo pos (starEach es X.env)).any (·.1)=false:=by rfl)
  (ht:eval (.Call (.Attribute o m apos) (e::es) [] pos) X.env=(do
   let ov <- eval o X.env
   standAt apos.atName
   let (f,first) <- holding [ov] (getMethod ov m pl)
   callWith pos f first (backTo pos (starEach (e::es) X.env)) (backToKw pos (keywordEach [] X.env))):=by rfl) :
  PE X (.Call (.Attribute o m apos) (e::es) [] pos) (jji C m sp dvs E ta t):=by
 intro pins s σ H Q I h;refine PySem.W.methodCall_KW (pl:=pl) (thn (he pins s σ H _ I h) fun u s1 ⟨x,H1,I1,rx,a,dx,fs,ex,ea,l,q⟩=>?_) ht;subst ex;obtain rfl:u=Value.ref a:=rx;refine jcP I1 ea c hm l ?_;refine PySem.W.callWith_K (first:=[.ref a]) (h₀:=X.base) I.ok.mod.kin hm.kp (thn (ha pos pins s1 σ H1 _ I1 q) fun us s2 ⟨vs,H2,I2,r,q2⟩=>⟨I2.kIn,?_⟩) hst hpl;exact jhX (us:=.ref a::us) (vs:=.ref a::vs) F hr hb hd hx I2 (.cons rfl r) q2
theorem jjj {pl:Sem Bool} (he:PE X o ta) (c:Cls X.K C) (hm:Meth X.K C m f) (F:FnOk X.prog X.w X.K X.mg X.base CX k f fd ps sp) (hr:Room k X.A) (hb:Binds X.K fd ps ds) (hd:Vals dvs ds) (hx:jcn CX X E)
  (ht:eval (.Call (.Attribute o m apos) [] [] pos) X.env=(do
   let ov <- eval o X.env
   standAt apos.atName
   let (f,first) <- holding [ov] (getMethod ov m pl)
   callWith pos f first (backTo pos (starEach [] X.env)) (backToKw pos (keywordEach [] X.env))):=by rfl) :
  PE X (.Call (.Attribute o m apos) [] [] pos) (jji C m sp dvs E ta jhs):=by
 intro pins s σ H Q I h;refine PySem.W.methodCall_KW (pl:=pl) (thn (he pins s σ H _ I h) fun u s1 ⟨x,H1,I1,rx,a,dx,fs,ex,ea,l,q⟩=>?_) ht;subst ex;obtain rfl:u=Value.ref a:=rx;refine jcP I1 ea c hm l ?_;exact PySem.W.callWith_K0 (first:=[.ref a]) I1.kIn hm.kp (jhX (us:=[.ref a]) (vs:=[.ref a]) F hr hb hd hx I1 (.cons rfl .nil) q)
structure Mk (K:PySem.W.Frag) (C f:Addr):Prop where
 makes:PySem.W.makesIn K C=true
 init:PySem.W.findIn K (.ref C) "__init__"=some (some (.ref f))
 fn:PySem.W.isFn K (.ref f)=true
 kp:PySem.W.keepIn K (.ref C)=true
theorem jjk {pins:List (Addr × Obj)} {σ:St} {H:Hp} {s:Shared} {Q:VK} {us:List Value} {vs:List V} (M:Mk X.K C f) (F:FnOk X.prog X.w X.K X.mg X.base CX k f fd ps sp) (hr:Room (k+1) X.A) (hb:Binds X.K fd ps ds) (hd:Vals dvs ds)
    (hx:jcn CX X E) (I:Inv X pins σ H s) (r:Vals vs us)
    (h:∀x dx,H x=none->H dx=none->dx≠x->sp (.ref x::(vs++dvs)) (upd (upd H dx (.own x)) x (.ins C dx [])) (fun v H2=>v=.non/\Q (.ref x) H2) E) :
    wpAny (model X.prog X.w) X.A (call (.ref C) us) (EP X pins σ Q) X.xe s:=by
  have hq:=h (s.heap.objs.size+1) s.heap.objs.size (I.hok.fresh (xbl _)) (I.hok.fresh (xaj _)) (xau (xbB _));have I2:=Inv.made (C:=C) I;have r2:Vals (V.ref (s.heap.objs.size+1)::(vs++dvs)) (Value.ref (s.heap.objs.size+1)::(us++ds)):=.cons rfl (r.append hd);have hl:(Value.ref (s.heap.objs.size+1)::us++ds).length=ps.length:=by
    have e:=r2.length;rw[F.len _ _ _ _ hq] at e;exact e.symm
  refine wpAny_call (jjh (f:=f) I.kIn M.makes M.init (beq_iff_eq.mp M.fn) (codeAny_mono (F.run _ X.stack _ _ ⟨Value.ref (s.heap.objs.size+1)::us,[]⟩ (Value.ref (s.heap.objs.size+1)::(us++ds)) _ _ E (hr.make C us [])
    (I2.env0.make C us []) (hb _ (Value.ref (s.heap.objs.size+1)::us) I2.kIn hl) r2 hq) fun r s' hq'=>?_))
  cases r with
  | error e=>exact hx pins σ _ _ e s' I2 hq'
  | ok fl =>
    cases fl with
    | ret u =>
      obtain⟨v,H',I3,rv,ev,q3⟩:=I2.after hq';subst ev;exact⟨rv,⟨V.ref (s.heap.objs.size+1),H',I3,rfl,q3⟩⟩
    | next=>exact False.elim hq'
    | brk=>exact False.elim hq'
    | cont=>exact False.elim hq'
theorem jjl (M:Mk X.K C f) (F:FnOk X.prog X.w X.K X.mg X.base CX k f fd ps sp) (hr:Room (k+1) X.A) (hg:Gl X x) (hm:X.mg x=some (.ref C)) (hb:Binds X.K fd ps ds) (hd:Vals dvs ds) (hx:jcn CX X E)
  (hdb:(x==("__debug__":Str))=false:=by decide):PE X (.Call (.Name x p) [] [] pos) (jl8 C sp dvs E jhs):=by
 intro pins s σ H Q I h;refine wpAny_Call_Name_kw (jdA I hg hm ?_ hdb);exact PySem.W.callWith_K0 I.kIn M.kp (jjk (us:=[]) M F hr hb hd hx I .nil h)
end
section
variable {X:Cx} {CX:CXT} {k:Nat} {f C:Addr} {fd:FuncData} {ps ks:List Str} {sp:Sp} {E:XK} {x m:Str} {p pos apos kpos:Pos} {e o:Expr} {es:List Expr} {kws:List Keyword} {te ta:TE} {t tk:TA} {nm:Option Str}
structure KBinds (K:PySem.W.Frag) (fd:FuncData) (ps ks:List Str) (g:List Value->List Value->List Value) (gV:List V->List V->List V):Prop where
 to:∀(s:Shared) (us ws:List Value),K.In s.heap->(g us ws).length=ps.length->BindsTo s fd ⟨us,ks.zip ws⟩ (ps.zip (g us ws))
 rel:∀{vs:List V} {us:List Value} {zs:List V} {ws:List Value},Vals vs us->Vals zs ws->Vals (gV vs zs) (g us ws)
variable {g:List Value->List Value->List Value} {gV:List V->List V->List V}
end
structure FnScope (N P:List Str) (sc:Scope):Prop where
 kind:sc.kind=.function
 co:sc.isCoroutine=false
 gen:sc.isGenerator=false
 nd:N.Nodup
 pre:N.take P.length=P
 par:∀x∈P,sc.names.lookup x=some .local\/sc.names.lookup x=some .cell
 nofree:∀y∈sc.names,y.2≠.free
theorem jfL {kindOf:Str->Option NameKind} {x:Str}:∀{binds:List (Str × Value)} {m:Str->Option Value},(∀v,(x,v)∉binds)->bindL kindOf binds m x=m x
  | [],_,_=>rfl
  | (n, v) :: r, m, h => by
    unfold bindL;rw[jfL fun w hw=>h w (xar _ hw)];split
    . have:x≠n:=by rintro rfl; exact h v xaL
      simp [this]
    . rfl
theorem jfM {kindOf:Str->Option NameKind} {x:Str}:∀{binds:List (Str × Value)} {m:Str->Option Value},(∀v,(x,v)∉binds)->bindC kindOf binds m x=m x
  | [],_,_=>rfl
  | (n, v) :: r, m, h => by
    unfold bindC;rw[jfM fun w hw=>h w (xar _ hw)];split
    . rfl
    . have:x≠n:=by rintro rfl; exact h v xaL
      simp [this]
theorem jed {kindOf:Str->Option NameKind} {x:Str} {v:Value}:∀{P:List Str} {vs:List Value} {i:Nat} {m:Str->Option Value},P.Nodup->P[i]?=some x->vs[i]?=some v->kindOf x=some .local ->
    bindL kindOf (P.zip vs) m x=some v
  | [],_,_,_,_,h,_,_=>by simp at h
  | _::_,[],_,_,_,_,h,_=>by simp at h
  | p :: P, w :: vs, 0, m, nd, h1, h2, hk => by
    simp at h1 h2;subst h1;subst h2;show bindL kindOf ((p,w)::P.zip vs) m p=_;unfold bindL;rw[jfL fun v hv=>(xbG.mp nd).1 (xbH hv).1,if_pos hk];simp
  | p :: P, w :: vs, i + 1, m, nd, h1, h2, hk => by
    show bindL kindOf ((p,w)::P.zip vs) m x=_;unfold bindL;exact jed (i:=i) (xbG.mp nd).2 (by simpa using h1) (by simpa using h2) hk
theorem jee {kindOf:Str->Option NameKind} {x:Str} {v:Value}:∀{P:List Str} {vs:List Value} {i:Nat} {m:Str->Option Value},P.Nodup->P[i]?=some x->vs[i]?=some v->kindOf x≠some .local ->
    bindC kindOf (P.zip vs) m x=some v
  | [],_,_,_,_,h,_,_=>by simp at h
  | _::_,[],_,_,_,_,h,_=>by simp at h
  | p :: P, w :: vs, 0, m, nd, h1, h2, hk => by
    simp at h1 h2;subst h1;subst h2;show bindC kindOf ((p,w)::P.zip vs) m p=_;unfold bindC;rw[jfM fun v hv=>(xbG.mp nd).1 (xbH hv).1,if_neg hk];simp
  | p :: P, w :: vs, i + 1, m, nd, h1, h2, hk => by
    show bindC kindOf ((p,w)::P.zip vs) m x=_;unfold bindC;exact jee (i:=i) (xbG.mp nd).2 (by simpa using h1) (by simpa using h2) hk
def start (N:List Str) (vs:List V):St:=vs.map some++List.replicate (N.length-vs.length) none
def jgf (CX:CXT) (P:Program) (w:World) (K:PySem.W.Frag) (mg:Str->Option Value) (base:Heap) (N:List Str) (qual:Str) (scope:Scope) (f:Addr) (cd:Value) (A:Around) (outer:List Env) (s:Shared) (H:Hp) (E:XK):Cx where
 prog:=P
 w:=w
 K:=K
 mg:=mg
 base:=base
 A:=A.deeper (envOfC qual scope s.heap.objs.size f cd)
 N:=N
 s₀:=s
 H₀:=H
 env:=envOfC qual scope s.heap.objs.size f cd
 outer:=outer
 stack:=envOfC qual scope s.heap.objs.size f cd::outer
 ex:=[]
 calm:=true
 fn:=fun _=>true
 pn:=[]
 xe:=fun e s'=>wpAny (model P w) (A.deeper (envOfC qual scope s.heap.objs.size f cd)) (leaving (envOfC qual scope s.heap.objs.size f cd) e) (fun _ s''=>CX outer H s E e s'') (fun e' s''=>CX outer H s E e' s'') s'
theorem jd5 {sc:Scope} {n:Nat} {x:Str} (h:sc.names.lookup x=some .cell):∃c,(cellsFrom n sc.names []).lookup x=some c:=by
 have q:=PySem.W.cellsFrom_some sc.names n [] (.inl h);exact xbm.mp q
theorem jhY {CX:CXT} {P:Program} {w:World} {K:PySem.W.Frag} {mg:Str->Option Value} {base:Heap} {N ps:List Str} {qual:Str} {scope:Scope} {f:Addr} {cd:Value} {A:Around} {outer:List Env} {s s1:Shared} {H:Hp} {E:XK} {us:List Value} {vs:List V}
  (S:FnScope N ps scope) (hd:A.handled=none) (e0:Env0 P w K mg base A outer s H) (hl:vs.length=ps.length) (r:Vals vs us)
  (x:InCallC s s.heap.objs.size (bindL (envOfC qual scope s.heap.objs.size f cd).kindOf (ps.zip us) fun _=>none) (cellsFrom (s.heap.objs.size+1) scope.names []) (bindC (envOfC qual scope s.heap.objs.size f cd).kindOf (ps.zip us) fun _=>none) s1) :
  Inv (jgf CX P w K mg base N qual scope f cd A outer s H E) [] (start N vs) H s1:=by
 have hpl:ps.length<=N.length:=by have:=congrArg List.length S.pre;rw[xak] at this;omega
 obtain⟨h1,tk,rfl,hk⟩:=x.done;have noA:∀b:Addr,b∉(jgf CX P w K mg base N qual scope f cd A outer s H E).ex:=fun b z=>absurd (show b∈([]:List Addr) from z) (by simp);refine⟨⟨e0.mod,S.kind,rfl,rfl,xaj _,fun y z c h1 h2=>?_,fun y hy=>?_,fun y c _ h=>?_,fun _=>hd,Around.frames_deeper e0.frames,.inr ⟨rfl,rfl⟩,fun b z=>absurd z (noA b),e0.bs,e0.bsz,fun b _ _=>noA b,fun b z=>absurd z (noA b),e0.funs,e0.frf⟩,
  rfl,e0.bare,Un.kept hk,⟨_,x.toInCall.ns,fun i y v h1 h2 h3=>?_⟩,fun y c h=>⟨_,x.cell y c h⟩,e0.hok.fresh (xaj _),fun y c h=>?_,fun p hp=>absurd (show p∈([]:List (Addr × Obj)) from hp) (by simp),e0.hok.kept hk,?_⟩
 ·exact name_of_addr x.apart (PySem.mem_of_lookup h1) (PySem.mem_of_lookup h2)
 ·have hy:scope.names.lookup y=some .cell\/scope.names.lookup y=some .free:=hy;rcases hy with hy | hy
  ·exact jd5 hy
  ·exact absurd rfl (S.nofree _ (PySem.mem_of_lookup hy))
 ·exact xaI (x.above y c (PySem.mem_of_lookup h))
 ·have hi:i<vs.length:=by
   unfold start at h2;by_cases hi:i<vs.length
   ·exact hi
   ·rw[xaG (by simpa using hi)] at h2;rw[xbq] at h2;split at h2<;>cases h2
  have ha:vs[i]?=some v:=by
   unfold start at h2;rw[xaD (by simpa using hi),xai] at h2;cases e:vs[i]? with
   | none=>rw[e] at h2;cases h2
   | some a=>rw[e] at h2;cases h2;rfl
  obtain⟨u,hu,rv⟩:=r.get ha;have hp:ps[i]?=some y:=by
   rw[<- S.pre,xbn (by omega)];exact h1
  have ndP:ps.Nodup:=by rw[<- S.pre];exact S.nd.sublist (List.take_sublist _ _)
  refine⟨u,rv,?_⟩;rcases S.par y (xas hp) with k | k
  ·exact .inl ⟨k,jed ndP hp hu k⟩
  ·obtain⟨c,e⟩:=jd5 (n:=s.heap.objs.size+1) k;refine .inr ⟨.inl k,c,e,?_⟩;have q:=x.cell y c e;rw[jee ndP hp hu (by show scope.names.lookup y≠_;rw[k];decide)] at q;exact q
 ·exact e0.hok.fresh (xaI (x.above y c (PySem.mem_of_lookup h)))
 ·unfold start;show _=N.length;rw[xaf,xaa,xaV];omega
theorem jl9 {CX:CXT} {P:Program} {w:World} {K:PySem.W.Frag} {mg:Str->Option Value} {base:Heap} {k:Nat} {f:Addr} {name qual:Str} {params:Arguments} {body:List Stmt} {scope:Scope} {dV kV doc pm cdv ct oc:Value} {an od:Option Addr}
    {osl:Array (Option Value)} {N ps:List Str} {sp:Sp} (lk:K.lookup f=some ⟨oc,od,.func (PySem.W.fnOf name qual params body scope dV kV doc pm an cdv ct),osl⟩) (hcd:PySem.W.codeIn K cdv qual=true) (S:FnScope N ps scope)
    (len:∀vs H Q E,sp vs H Q E->vs.length=ps.length)
    (hbody:∀(A:Around) (outer:List Env) (s:Shared) (H:Hp) (vs:List V) (Q:VK) (E:XK),Room k (A.deeper (envOfC qual scope s.heap.objs.size f cdv))->sp vs H Q E ->
      ∃t,PSs (jgf CX P w K mg base N qual scope f cdv A outer s H E) body t/\t { nx:=fun _ H'=>Q .non H',rt:=Q } (start N vs) H) :
    FnOk P w K mg base CX (k+1) f (PySem.W.fnOf name qual params body scope dV kV doc pm an cdv ct) ps sp:=by
  refine⟨len,fun A outer s H args us vs Q E hr e0 hb r hsp=>?_⟩;have hl:=len _ _ _ _ hsp;have KX:K.In s.heap:=e0.mod.kin.keeps fun b o e=>(e0.bs b o e).1;have lim:s.heap.NoLimit:=e0.mod.nolimit.keeps fun b o e=>(e0.bs b o e).1;have hkind:∀y∈ps.zip us,scope.names.lookup y.1=some .local\/(scope.names.lookup y.1=some .cell/\((cellsFrom (s.heap.objs.size+1) scope.names []).lookup y.1).isSome=true):=fun ⟨n,v⟩ hy=>by
    rcases S.par n (xbH hy).1 with q | q
    . exact .inl q
    . exact .inr ⟨q,PySem.W.cellsFrom_some _ _ _ (.inl q)⟩
  refine codeAny_call_function hr.depth (KX _ _ lk) rfl S.co S.gen rfl (PySem.W.codeRec_of KX hcd) (hb _ _ _ _ ?_);refine wpAny_newFunctionEnv_cells S.kind hkind fun env he s1 x=>?_;subst he;refine⟨lim.keeps x.toInCall.keep,codeAny_func ?_⟩;obtain⟨t,ht,hq⟩:=hbody A outer s H vs Q E (hr.deeper _) hsp;have I:Inv (jgf CX P w K mg base N qual scope f cdv A outer s H E) [] (start N vs) H s1:=jhY S hr.hd e0 hl r x;refine wpAny_mono (ht [] s1 (start N vs) H _ I hq) (fun fl s' hs=>?_) fun e s' hs=>hs;have fin:∀{σ':St} {H':Hp} {v:V} {u:Value},Inv (jgf CX P w K mg base N qual scope f cdv A outer s H E) [] σ' H' s'->RelV v u->Q v H'->CE outer P w H s Q u s' :=
    fun {σ' H' v u} J rv q=>⟨v,H',J.os,J.bare,J.base,J.hok,rv,q⟩
  cases fl with
  | ret u =>
    obtain⟨v,σ',H',J,rv,q⟩:=hs;exact fin J rv q
  | next =>
    obtain⟨σ',H',J,q⟩:=hs;exact fin (v:=V.non) (u:=Value.none) J rfl q
  | brk =>
    obtain⟨_,_,_,q⟩:=hs;exact False.elim q
  | cont =>
    obtain⟨_,_,_,q⟩:=hs;exact False.elim q
section
variable {X:Cx} {x:Str} {p pos:Pos} {e:Expr} {es:List Expr} {t:TA} {id T:String} {r:List V->Hp->VK->Prop}
def tCB (r:List V->Hp->VK->Prop) (t:TA):TE:=fun σ H Q=>t σ H fun vs H1=>r vs H1 Q
theorem jat (hc:jc8 X (.builtin id) r) (hg:Gl X x) (hm:X.mg x=none) (hv:bootBuiltins x=some (.builtin id)) (ha:PA X (e::es) t) (hn:x≠"__name__":=by decide) (hdb:(x==("__debug__":Str))=false:=by decide)
  (he:starEach (e::es) X.env=(false,eval e X.env)::starEach es X.env:=by rfl) (hpl:(backTo pos (starEach es X.env)).any (·.1)=false:=by rfl):PE X (.Call (.Name x p) (e::es) [] pos) (tCB r t):=by
 intro pins s σ H Q I h;refine wpAny_Call_Name_kw (jd8 I hg hm hv ?_ hn hdb);exact PyProof.Rows.callWith_builtin1 (thn (ha pos pins s σ H _ I h) fun us s1 ⟨vs,H1,I1,r1,q1⟩=>hc pins s1 σ H1 vs us Q I1 r1 q1) he hpl
theorem jbp (hc:jc8 X (.type T) r) (hg:Gl X x) (hm:X.mg x=none) (hv:bootBuiltins x=some (.type T)) (ha:PA X (e::es) t) (hn:x≠"__name__":=by decide) (hdb:(x==("__debug__":Str))=false:=by decide)
  (he:starEach (e::es) X.env=(false,eval e X.env)::starEach es X.env:=by rfl) (hpl:(backTo pos (starEach es X.env)).any (·.1)=false:=by rfl):PE X (.Call (.Name x p) (e::es) [] pos) (tCB r t):=by
 intro pins s σ H Q I h;refine wpAny_Call_Name_kw (jd8 I hg hm hv ?_ hn hdb);exact PyProof.Rows.callWith_type1 (thn (ha pos pins s σ H _ I h) fun us s1 ⟨vs,H1,I1,r1,q1⟩=>hc pins s1 σ H1 vs us Q I1 r1 q1) he hpl
end
end L2
namespace HT
open PySem PyProof.Rows
theorem eqAt_int (A:Around) (s:Shared) (a:Int) (t:Tok) (c:Int) (u:Tok):∃e,SeqAt.EqAt A s (.int a t) (.int c u) e/\(e=true↔a=c) :=
 ⟨(a==c),SeqAt.EqAt.int_int a t c u,by simp⟩
theorem rcLt_int (A:Around) (s:Shared) (a:Int) (t:Tok) (c:Int) (u:Tok) (prog:Program) (w:World) (E:Value->Shared->Prop) (Q:Value->Shared->Prop) (h:Q (.bool (decide (a<c))) s) :
  wpAny (model prog w) A (richCompare .Lt (.int a t) (.int c u)) Q E s :=
 (PyProof.Rows.lt_int h:wpAny (model prog w) A (compareOp .Lt (.int a t) (.int c u)) Q E s)
section
open PySem.SeqAt
open PySem.AutoSeq1 (wpAny_loadPart')
open PySem.MeetsSeq PySem.MeetsSeq2 PySem.MeetsSeq3
end
section
variable {prog:Program} {w:World} {A:Around} {E:Value->Shared->Prop} {s:Shared}
def sIx (n d:Nat):Option Int->Nat
 | none=>d
 | some v=>if v<0 then (v+(n:Int)).toNat else min v.toNat n
theorem sIx_none (n d:Nat):sIx n d none=d:=rfl
theorem sIx_nat (n d k:Nat):sIx n d (some (k:Int))=min k n:=by
 show (if (k:Int)<0 then ((k:Int)+(n:Int)).toNat else min (k:Int).toNat n)=min k n;rw[if_neg (by omega),xbe]
theorem jma (n d:Nat) (hd:d<=n) (o:Option Int):sIx n d o<=n:=by
  cases o with
  | none=>exact hd
  | some v =>
    show (if v<0 then (v+(n:Int)).toNat else min v.toNat n)<=n;by_cases hv:v<0
    . rw[if_pos hv];omega
    . rw[if_neg hv];exact Nat.min_le_right _ _
theorem jhZ (v:Int) (n d:Nat):(if v<0 then max (v+(n:Int)) 0 else min v (n:Int))=((sIx n d (some v):Nat):Int):=by
 show (if v<0 then max (v+(n:Int)) 0 else min v (n:Int))=(((if v<0 then (v+(n:Int)).toNat else min v.toNat n):Nat):Int);by_cases hv:v<0
 ·simp only[if_pos hv];omega
 ·simp only[if_neg hv];omega
theorem jht (lo hi:Option Int) (n:Nat):Builtin.Slice.sliceAdjust lo hi 1 (n:Int)=(((sIx n 0 lo:Nat):Int),((sIx n n hi:Nat):Int)):=by
 have h1:¬((1:Int)<0):=by omega
 unfold Builtin.Slice.sliceAdjust;simp only[h1,if_false];refine Prod.ext ?_ ?_
 ·cases lo with
  | none=>rfl
  | some v=>exact jhZ v n 0
 ·cases hi with
  | none=>rfl
  | some v=>exact jhZ v n n
theorem jhu (i j:Nat):Builtin.Slice.slicePlaces (i:Int) (j:Int) 1=j-i:=by
 unfold Builtin.Slice.slicePlaces;have h1:(1:Int)>0:=by omega
 simp only[h1,if_true,Int.ediv_one];split<;>omega
theorem jeY {v:Value} {o:Option Int} {Q:Option Int->Shared->Prop} (p:IsPart v o) (h:Q o s):wpAny (model prog w) A (Builtin.Slice.slicePartIndex v) Q E s:=by
 cases p with
 | none=>exact slicePart_none h
 | int i t=>exact slicePart_int h
theorem jd3 {sl:Addr} {vl vu:Value} {lo hi:Option Int} {n:Nat} {Q:Int × Int × Nat->Shared->Prop} (hs:s.heap.IsSliceOf sl vl vu .none) (pl:IsPart vl lo) (pu:IsPart vu hi)
  (h:Q (((sIx n 0 lo:Nat):Int),1,sIx n n hi-sIx n 0 lo) s):wpAny (model prog w) A (Builtin.Slice.sliceApplied (.ref sl) (pure (n:Int))) Q E s:=by
 obtain⟨os,hos,hcs,hds⟩:=id hs;unfold Builtin.Slice.sliceApplied Builtin.Slice.sliceFields;refine wpAny_bind (wpAny_bind (wpAny_field hos hds (x:=vl) rfl (wpAny_bind (wpAny_field hos hds (x:=vu) rfl (wpAny_bind (wpAny_field hos hds (x:=.none) rfl (wpAny_pure ?_)))))));refine wpAny_bind (slicePart_none ?_);show wpAny _ _ (if ((1:Int)==0)=true then _ else _) _ _ s;rw[if_neg (by decide)];refine wpAny_bind (jeY pl (wpAny_bind (jeY pu (wpAny_bind (wpAny_pure ?_)))));show wpAny _ _ (match Builtin.Slice.sliceAdjust lo hi 1 (n:Int) with | (lo,hi)=>pure (lo,(1:Int),Builtin.Slice.slicePlaces lo hi 1)) _ _ s;rw[jht lo hi n];show wpAny _ _ (pure (((sIx n 0 lo:Nat):Int),(1:Int),Builtin.Slice.slicePlaces ((sIx n 0 lo:Nat):Int) ((sIx n n hi:Nat):Int) 1)) _ _ s;rw[jhu];exact wpAny_pure h
theorem jjm (xs:Array Value) (i k:Nat):((List.range k).filterMap fun (m:Nat)=>xs[((i:Int)+(m:Int)*1).toNat]?).toArray=((xs.toList.drop i).take k).toArray:=by
 have e:(fun (m:Nat)=>xs[((i:Int)+(m:Int)*1).toNat]?)=fun m=>xs[i+m]?:=by
  funext m
  have:((i:Int)+(m:Int)*1).toNat=i+m:=by omega
  rw[this]
 rw[e];have:=pick_run xs i k;rw[List.filterMap_map] at this;have e2:((fun x=>xs[x]?)∘fun x=>i+x)=fun m=>xs[i+m]?:=rfl;rw[e2] at this;rw[this]
theorem getItem_tuple_cut {t sl:Addr} {items:Array Value} {vl vu:Value} {lo hi:Option Int} {Q:Value->Shared->Prop} (ht:IsTup s.heap t items) (hs:s.heap.IsSliceOf sl vl vu .none) (pl:IsPart vl lo) (pu:IsPart vu hi)
  (hw:¬(sIx items.size 0 lo=0/\sIx items.size items.size hi=items.size))
  (h:Q (.ref s.heap.objs.size) { s with heap:=s.heap.push { cls:=.type "tuple",data:=.seq ((items.toList.drop (sIx items.size 0 lo)).take (sIx items.size items.size hi-sIx items.size 0 lo)).toArray } })
  (hsz:items.size<=sizeLine):wpAny (model prog w) A (getItem (.ref t) (.ref sl)) Q E s:=by
 have htake:sizeOk (.seq ((items.toList.drop (sIx items.size 0 lo)).take (sIx items.size items.size hi-sIx items.size 0 lo)).toArray):=by
  show ((items.toList.drop (sIx items.size 0 lo)).take (sIx items.size items.size hi-sIx items.size 0 lo)).toArray.size<=sizeLine;rw[xag,xak,xao,Array.length_toList];omega
 have hj:sIx items.size items.size hi<=items.size:=jma _ _ (xaj _) hi;obtain⟨os,hos,hcs,hds⟩:=id hs;have hTs:s.TypeIs (.ref sl) "slice":=⟨os,hos,hcs⟩;unfold getItem;try with_reducible refine wpAny_holding ?_
 first | refine wpAny_bind (wpAny_pure ?_) | skip
 refine wpAny_bind (wpAny_sequenceKey ht.typeIs (by decide) ?_);refine wpAny_bind (wpAny_callSpecial?_slot (name:=Str.ofString "__getitem__") ht.typeIs PyProof.Rows.slot_tuple_getitem
  (wpAny_call_entry PyProof.Rows.slot_tuple_getitem ht.typeIs entry_tuple_getitem ?_ (args_tuple_getitem _ _)))
 show wpAny _ _ (Builtin.Tuple.tupleItemsOf (.ref t) >>= _) _ _ s;refine wpAny_bind (tupleItemsOf_ ht ?_);refine wpAny_bind (wpAny_typeOf hTs ?_);rw[if_pos (by decide)];refine wpAny_bind (jd3 hs pl pu ?_);have hno:¬((((sIx items.size 0 lo:Nat):Int)==0&&(1:Int)==1&&(sIx items.size items.size hi-sIx items.size 0 lo)==items.size)=true):=by
  intro q;rw[xaE,xaE] at q;have q1:((sIx items.size 0 lo:Nat):Int)=0:=eq_of_beq q.1.1;have q2:sIx items.size items.size hi-sIx items.size 0 lo=items.size:=eq_of_beq q.2;exact hw ⟨by omega,by omega⟩
 show wpAny _ _ (if (((sIx items.size 0 lo:Nat):Int)==0&&(1:Int)==1&&(sIx items.size items.size hi-sIx items.size 0 lo)==items.size)=true then _ else _) _ _ s;rw[if_neg hno,jjm]
 first
  | exact wpAny_bind (m:=Builtin.Tuple.tupleExact _) (wpAny_newObj_type (wpAny_pure ⟨_,rfl,wpAny_pure h⟩) htake)
  | exact wpAny_bind (m:=Builtin.Tuple.tupleExact _) (wpAny_newObj_type (wpAny_bind (wpAny_pure (wpAny_pure ⟨_,rfl,wpAny_pure h⟩))) htake)
  | exact wpAny_bind (wpAny_bind (m:=Builtin.Tuple.tupleExact _) (wpAny_newObj_type (wpAny_pure (wpAny_pure ⟨_,rfl,wpAny_pure h⟩)) htake))
  | exact wpAny_bind (wpAny_bind (m:=Builtin.Tuple.tupleExact _) (wpAny_newObj_type (wpAny_pure ⟨_,rfl,wpAny_pure h⟩) htake))
end
end HT
namespace L2
open PySem PySem.Spec PyProof.Rows
abbrev TO:=St->Hp->(Option Int->Hp->Prop)->Prop
def PO (X:Cx) (e:Option Expr) (t:TO):Prop :=
  ∀ (pins : List (Addr × Obj)) (s : Shared) (σ : St) (H : Hp) (Q : Option Int -> Hp -> Prop), Inv X pins σ H s -> t σ H Q ->
    wpAny (model X.prog X.w) X.A (evalPart e X.env) (fun u s'=>∃o H',Inv X pins σ H' s'/\IsPart u o/\Q o H') X.xe s
def jef:TO:=fun _ H Q=>Q none H
def jh0 (t:TE):TO:=fun σ H Q=>t σ H fun x H1=>∃i,x=.int i/\Q (some i) H1
theorem jdB {ns:List Int}:∀{us:List Value},Vals (ns.map V.int) us->IntsAre us ns:=by
  induction ns with
  | nil=>intro us r;rw[List.map_nil] at r;cases r;exact .nil
  | cons n ns ih =>
    intro us r;rw[xaJ] at r;cases r with
    | cons r1 r2 =>
      obtain⟨t,e⟩:=r1;subst e;exact .cons n t (ih r2)
section
variable {X:Cx} {e:Expr} {te:TE} {lo hi:Option Expr} {tl th:TO} {pos p2:Pos}
theorem jaP:PO X none jef:=by
 intro pins s σ H Q I h;rw[evalPart_none];exact wpAny_pure ⟨none,H,I,.none,h⟩
theorem jaQ (h:PE X e te):PO X (some e) (jh0 te):=by
 intro pins s σ H Q I hw;rw[evalPart_some];refine thn (h pins s σ H _ I hw) fun u s1 ⟨x,H1,I1,r1,q1⟩=>?_;obtain⟨i,rfl,q⟩:=q1;obtain⟨t,rfl⟩:=r1;exact⟨some i,H1,I1,.int i t,q⟩
def SlR (X:Cx) (r:V->Option Int->Option Int->Hp->VK->Prop):Prop :=
  ∀ (pins : List (Addr × Obj)) (s : Shared) (σ : St) (H : Hp) (x : V) (v vl vu : Value) (lo hi : Option Int) (sl : Addr) (Q : VK), Inv X pins σ H s -> RelV x v -> s.heap.IsSliceOf sl vl vu .none -> IsPart vl lo -> IsPart vu hi -> r x lo hi H Q ->
    ∃T id,typeLookup (.type T) "__getitem__"=pure (some (.builtin id))/\s.TypeIs v T/\wpAny (model X.prog X.w) X.A (getItem v (.ref sl)) (EP X pins σ Q) X.xe s
def tSl (r:V->Option Int->Option Int->Hp->VK->Prop) (te:TE) (tl th:TO):TE:=fun σ H Q=>te σ H fun x H1=>tl σ H1 fun l H2=>th σ H2 fun u H3=>r x l u H3 Q
theorem jaV {r:V->Option Int->Option Int->Hp->VK->Prop} (hr:SlR X r) (he:PE X e te) (hl:PO X lo tl) (hu:PO X hi th):PE X (.Subscript e (.Slice lo hi none p2) pos) (tSl r te tl th):=by
 intro pins s σ H Q I h;refine Subscript_ (thn (he pins s σ H _ I h) fun v s1 ⟨x,H1,I1,r1,q1⟩=>?_);refine wpAny_Slice (thn (hl pins s1 σ H1 _ I1 q1) fun vl s2 ⟨l,H2,I2,pl,q2⟩=>thn (hu pins s2 σ H2 _ I2 q2) fun vu s3 ⟨u,H3,I3,pu,q3⟩=>?_);rw[evalPart_none];refine wpAny_pure ?_;have I4:Inv X pins σ H3 { s3 with heap:=s3.heap.push { cls:=.type "slice",data:=.fields #[vl,vu,.none] } }:=I3.kept (t':=s3.toks) fun b ob q=>Heap.get?_push_of_some _ q;obtain⟨T,id,hT,ht,hg⟩:=hr pins { s3 with heap:=s3.heap.push { cls:=.type "slice",data:=.fields #[vl,vu,.none] } } σ H3 x v vl vu l u s3.heap.objs.size Q I4 r1 (Heap.IsSliceOf.new ..) pl pu q3;show wpAny (model X.prog X.w) X.A (subscriptTail e (.Slice lo hi none p2) v (.ref s3.heap.objs.size)) (EP X pins σ Q) X.xe { s3 with heap:=s3.heap.push { cls:=.type "slice",data:=.fields #[vl,vu,.none] } };exact tail_any (ops:=[.ref s3.heap.objs.size,v]) ht hT hg (by with_unfolding_all rfl)
def jfD (xs:List V) (lo hi:Option Int):List V:=(xs.drop (HT.sIx xs.length 0 lo)).take (HT.sIx xs.length xs.length hi-HT.sIx xs.length 0 lo)
theorem jeg (xs:List V) (lo hi:Option Int):(jfD xs lo hi).length<=xs.length:=by
 unfold jfD;rw[xak,xao];omega
def rSlT (K:PySem.W.Frag):V->Option Int->Option Int->Hp->VK->Prop:=fun x lo hi H Q=>∃a xs,x=.ref a/\SqT K H a xs /\
 ¬(HT.sIx xs.length 0 lo=0/\HT.sIx xs.length xs.length hi=xs.length)/\∀p,H p=none->Q (.ref p) (upd H p (.tup (jfD xs lo hi)))
theorem jmb:SlR X (rSlT X.K):=by
 intro pins s σ H x v vl vu lo hi sl Q I rx hs pl pu h;obtain⟨a,xs,rfl,hx,hw,q⟩:=h;cases rx;obtain⟨its,r,ht,hz⟩:=I.tuple hx;have hlen:its.toArray.size=xs.length:=by rw[xag];exact r.length.symm
 refine⟨"tuple",_,PyProof.Rows.slot_tuple_getitem.lookup,ht.typeIs,?_⟩;refine HT.getItem_tuple_cut ht hs pl pu (by rw[hlen];exact hw) ?_ (by rw[hlen];exact hz);rw[hlen];refine⟨.ref s.heap.objs.size,_,I.laid (t':=s.toks) (o:=.tup (jfD xs lo hi)) (fun b ob q=>Heap.get?_push_of_some _ q) (xaj _) ?_,rfl,q _ (I.hok.fresh (xaj _))⟩;exact⟨xaA (jeg xs lo hi) hz,_,(r.drop (HT.sIx xs.length 0 lo)).take (HT.sIx xs.length xs.length hi-HT.sIx xs.length 0 lo),IsTup.new _ _⟩
end
def ixN (n:Nat) (i:Int):Option Nat:=if 0<=i then (if i<n then some i.toNat else none) else if -(n:Int)<=i then some (i+n).toNat else none
def atI {α:Type} (xs:List α) (i:Int):Option α:=(ixN xs.length i).bind fun j=>xs[j]?
theorem jkQ {n:Nat} {i:Int} {j:Nat} (h:ixN n i=some j):seqIndex? i n=some j/\j<n/\-(n:Int)<=i/\i<n:=by
 unfold ixN at h;by_cases h0:0<=i
 ·rw[if_pos h0] at h;by_cases h1:i<n
  ·rw[if_pos h1] at h;have e:i.toNat=j:=Option.some.inj h;exact⟨by rw[seqIndex_of h0 h1,e],by omega,by omega,h1⟩
  ·rw[if_neg h1] at h;cases h
 ·rw[if_neg h0] at h;by_cases h1:-(n:Int)<=i
  ·rw[if_pos h1] at h;have e:(i+n).toNat=j:=Option.some.inj h;exact⟨by rw[seqIndex_neg (by omega) h1,e],by omega,h1,by omega⟩
  ·rw[if_neg h1] at h;cases h
theorem jh1 {α:Type} {xs:List α} {i:Int} {v:α} (h:atI xs i=some v):∃j,seqIndex? i xs.length=some j/\xs[j]?=some v/\j<xs.length/\-(xs.length:Int)<=i/\i<xs.length:=by
  unfold atI at h;cases e:ixN xs.length i with
  | none=>rw[e] at h;cases h
  | some j =>
    rw[e] at h;obtain⟨h1,h2,h3,h4⟩:=jkQ e;exact⟨j,h1,h,h2,h3,h4⟩
theorem jaM {α:Type} {xs:List α} {j:Nat} {v:α} (h:xs[j]?=some v):atI xs (j:Int)=some v:=by
 have hj:j<xs.length:=(xan.mp h).1;have e:ixN xs.length (j:Int)=some j:=by
  unfold ixN;rw[if_pos (by omega),if_pos (by omega)];simp
 unfold atI;rw[e];exact h
theorem jjn {α:Type} (xs:List α) (v:α):atI (xs++[v]) (-1)=some v:=by
 have hl:(xs++[v]).length=xs.length+1:=by simp
 have e:ixN (xs++[v]).length (-1)=some xs.length:=by
  unfold ixN;rw[hl,if_neg (by decide),if_pos (by omega)]
  congr 1
  omega
 unfold atI;rw[e];show (xs++[v])[xs.length]?=some v;simp
def jkR (b:Expr):Prop:=∀o i,subscripted b false o i=operate [o,i] (getItem o i)
def IxR (X:Cx) (r:R2):Prop :=
  ∀ (value slice : Expr) (pins : List (Addr × Obj)) (s : Shared) (σ : St) (H : Hp) (x y : V) (v u : Value) (Q : VK), Inv X pins σ H s -> RelV x v -> RelV y u -> r x y H Q ->
    subscripted slice false v u=operate [v,u] (getItem v u)->wpAny (model X.prog X.w) X.A (subscriptTail value slice v u) (EP X pins σ Q) X.xe s
def MtR (X:Cx) (id:String) (r:V->List V->Hp->VK->Prop):Prop :=
  ∀ (pins : List (Addr × Obj)) (s : Shared) (σ : St) (H : Hp) (x : V) (xs : List V) (v : Value) (us : List Value) (Q : VK), Inv X pins σ H s -> RelV x v -> Vals xs us -> r x xs H Q ->
    wpAny (model X.prog X.w) X.A (call (.builtin id) (v::us)) (EP X pins σ Q) X.xe s
section
variable {X:Cx} {a b:Expr} {ta tb:TE} {pos:Pos}
theorem jai {r:R2} (hr:IxR X r) (ha:PE X a ta) (hb:PE X b tb) (hs:jkR b:=by exact fun _ _=>rfl):PE X (.Subscript a b pos) (tOp r ta tb):=by
 intro pins s σ H Q I h;exact Subscript_ (binT ha hb I h fun v u s2 x y H2 I2 rx ry q=>hr a b pins s2 σ H2 x y v u Q I2 rx ry q (hs _ _))
def jkS (K:PySem.W.Frag):R2:=fun x y H Q=>∃p xs i v,x=.ref p/\y=.int i/\SqL K H p xs/\atI xs i=some v/\Q v H
def jmc (K:PySem.W.Frag):R2:=fun x y H Q=>∃p xs i v,x=.ref p/\y=.int i/\SqT K H p xs/\atI xs i=some v/\Q v H
theorem jak:IxR X (jkS X.K):=by
 intro value slice pins s σ H x y v u Q I rx ry h hs;obtain⟨p,xs,i,z,rfl,rfl,hq,he,q⟩:=h;cases rx;obtain⟨t,rfl⟩:=ry;obtain⟨its,r,pl,hz⟩:=I.list hq;obtain⟨j,h1,h2,h3,h4,h5⟩:=jh1 he;obtain⟨w,ew,rw'⟩:=r.get h2;have hl:=r.length;have hn:=jfI;have fin:EP X pins σ Q w s:=⟨z,H,I,rw',q⟩;by_cases h0:0<=i
 ·have hj:i.toNat=j:=by
   rw[seqIndex_of h0 h5] at h1;exact Option.some.inj h1
  exact item_listR pl.isList h0 (by omega) (by rw[hj];simpa using ew) fin hs
 ·have hj:(i+(its.toArray.size:Int)).toNat=j:=by
   rw[seqIndex_neg (by omega) h4] at h1;rw[xag,<- hl];exact Option.some.inj h1
  exact subscriptTail_builtinR (x:=w) pl.isList.typeIs slot_list_getitem.lookup
   (wpAny_getItem_list_neg (Q:=fun r s'=>r=w/\EP X pins σ Q r s') pl.isList (by omega) (by rw[xag]<;>omega) (by omega) (by rw[hj];simpa using ew) ⟨rfl,fin⟩) hs
theorem jav:IxR X (jmc X.K):=by
 intro value slice pins s σ H x y v u Q I rx ry h hs;obtain⟨p,xs,i,z,rfl,rfl,hq,he,q⟩:=h;cases rx;obtain⟨t,rfl⟩:=ry;obtain⟨its,r,pl,hz⟩:=I.tuple hq;obtain⟨j,h1,h2,h3,h4,h5⟩:=jh1 he;obtain⟨w,ew,rw'⟩:=r.get h2;have hl:=r.length;have hn:=jfI;have fin:EP X pins σ Q w s:=⟨z,H,I,rw',q⟩;exact subscriptTail_builtinR (x:=w) pl.typeIs slot_tuple_getitem.lookup
  (getItem_tuple (j:=j) (Q:=fun r s'=>r=w/\EP X pins σ Q r s') pl (by omega) (by omega) (by rw[xag,<- hl];exact h1) (by simpa using ew) ⟨rfl,fin⟩) hs
theorem Inv.lst {pins:List (Addr × Obj)} {σ:St} {H:Hp} {s:Shared} {p:Addr} {xs:List V} (I:Inv X pins σ H s) (h:H p=some (.lst xs)) :
  ∃(its:List Value) (n:Nat),Vals xs its/\s.heap.get? p=some { cls:=.type "list",data:=.seq its.toArray n }/\xs.length<=sizeLine:=by
 obtain⟨z,its,n,r,e⟩:=I.hok p _ h;exact⟨its,n,r,e,z⟩
theorem jfN (lo hi:Option Int) (n:Nat):(sliceBounds lo hi none n).1=((HT.sIx n 0 lo:Nat):Int)/\(sliceBounds lo hi none n).2.1=((HT.sIx n n hi:Nat):Int)/\(sliceBounds lo hi none n).2.2=1:=by
  refine⟨?_,?_,rfl⟩
  . cases lo with
    | none=>simp [sliceBounds,HT.sIx]
    | some i =>
      simp only[sliceBounds,HT.sIx,Option.getD_none,show (1:Int)>0 by decide,if_true];by_cases h:i<0
      . simp only[h,if_true]<;>omega
      . simp only[h,if_false]<;>omega
  . cases hi with
    | none=>simp [sliceBounds,HT.sIx]
    | some i =>
      simp only[sliceBounds,HT.sIx,Option.getD_none,show (1:Int)>0 by decide,if_true];by_cases h:i<0
      . simp only[h,if_true]<;>omega
      . simp only[h,if_false]<;>omega
theorem jff (its:List Value) (lo hi:Option Int):slicePick its.toArray lo hi none=((its.drop (HT.sIx its.length 0 lo)).take (HT.sIx its.length its.length hi-HT.sIx its.length 0 lo)).toArray:=by
 obtain⟨h1,h2,h3⟩:=jfN lo hi its.toArray.size;unfold slicePick;rw[h1,h2,h3];simp only[sliceRange_one,pick_run,xag]<;>rfl
def rSlL (K:PySem.W.Frag):V->Option Int->Option Int->Hp->VK->Prop:=fun x lo hi H Q=>∃a xs,x=.ref a/\SqL K H a xs/\∀p,H p=none->Q (.ref p) (upd H p (.lst (jfD xs lo hi)))
theorem jba:SlR X (rSlL X.K):=by
 intro pins s σ H x v vl vu lo hi sl Q I rx hs pl pu h;obtain⟨a,xs,rfl,hx,q⟩:=h;cases rx;obtain⟨its,r,ht,hz⟩:=I.list hx;have hlen:=r.length;refine⟨"list",_,slot_list_getitem.lookup,ht.isList.typeIs,?_⟩;refine wpAny_getItem_list_slice ht.isList hs pl pu .none (by simp) ?_ (by rw[xag]<;>omega);rw[jff,<- hlen];refine⟨.ref s.heap.objs.size,_,I.laid (t':=s.toks) (o:=.lst (jfD xs lo hi)) (fun b ob q=>Heap.get?_push_of_some _ q) (xaj _) ?_,rfl,q _ (I.hok.fresh (xaj _))⟩;exact⟨xaA (jeg xs lo hi) hz,_,0,(r.drop (HT.sIx xs.length 0 lo)).take (HT.sIx xs.length xs.length hi-HT.sIx xs.length 0 lo),Heap.get?_push_size _ rfl⟩
def jd4:V->Bool
 | .non=>true
 | .bl _=>true
 | .int _=>true
 | .str _=>true
 | _=>false
def eqV:V->V->Bool
 | .non,.non=>true
 | .bl a,.bl b=>a==b
 | .bl a,.int b=>(if a then 1 else 0)==b
 | .int a,.bl b=>a==(if b then 1 else 0)
 | .int a,.int b=>a==b
 | .str a,.str b=>a==b
 | _,_=>false
theorem jmd {A:Around} {s:Shared} {y x:V} {u v:Value} (ry:RelV y u) (rx:RelV x v) (fy:jd4 y=true) (fx:jd4 x=true):SeqAt.EqAt A s u v (eqV y x):=by
  cases y with
  | non =>
    cases ry;cases x with
    | non=>cases rx;exact SeqAt.EqAt.same _
    | bl b=>cases rx;exact SeqAt.EqAt.none_bool b
    | int b=>obtain⟨t,rfl⟩:=rx;exact SeqAt.EqAt.none_int b t
    | str b=>obtain⟨t,rfl⟩:=rx;exact SeqAt.EqAt.none_str b t
    | _=>exact absurd (show false=true from fx) xap
  | bl a =>
    cases ry;cases x with
    | non=>cases rx;exact SeqAt.EqAt.bool_none a
    | bl b=>cases rx;exact SeqAt.EqAt.bool_bool a b
    | int b=>obtain⟨t,rfl⟩:=rx;exact SeqAt.EqAt.bool_int a b t
    | str b=>obtain⟨t,rfl⟩:=rx;exact SeqAt.EqAt.bool_str a b t
    | _=>exact absurd (show false=true from fx) xap
  | int a =>
    obtain⟨t',rfl⟩:=ry;cases x with
    | non=>cases rx;exact SeqAt.EqAt.int_none a t'
    | bl b=>cases rx;exact SeqAt.EqAt.int_bool a t' b
    | int b=>obtain⟨t,rfl⟩:=rx;exact SeqAt.EqAt.int_int a t' b t
    | str b=>obtain⟨t,rfl⟩:=rx;exact SeqAt.EqAt.int_str a t' b t
    | _=>exact absurd (show false=true from fx) xap
  | str a =>
    obtain⟨t',rfl⟩:=ry;cases x with
    | non=>cases rx;exact SeqAt.EqAt.str_none a t'
    | bl b=>cases rx;exact SeqAt.EqAt.str_bool a t' b
    | int b=>obtain⟨t,rfl⟩:=rx;exact SeqAt.EqAt.str_int a t' b t
    | str b=>obtain⟨t,rfl⟩:=rx;exact SeqAt.EqAt.str_str a t' b t
    | _=>exact absurd (show false=true from fx) xap
  | _=>exact absurd (show false=true from fy) xap
def eqU (x:V) (u:Value):Bool:=match u with
 | .none=>eqV .non x
 | .bool b=>eqV (.bl b) x
 | .int i _=>eqV (.int i) x
 | .str z _=>eqV (.str z) x
 | _=>false
theorem jh2 {x y:V} {u:Value} (r:RelV y u) (f:jd4 y=true):eqU x u=eqV y x:=by
 cases y with
 | non=>cases r;rfl
 | bl b=>cases r;rfl
 | int i=>obtain⟨t,rfl⟩:=r;rfl
 | str z=>obtain⟨t,rfl⟩:=r;rfl
 | _=>exact absurd (show false=true from f) xap
theorem jdC {x:V}:∀{xs:List V} {us:List Value},Vals xs us->xs.all jd4=true->us.any (eqU x)=xs.any fun y=>eqV y x
  | _,_,.nil,_=>rfl
  | y :: xs, u :: us, .cons r t, f => by
    rw[List.all_cons,xaE] at f;rw[List.any_cons,List.any_cons,jh2 r f.1,jdC t f.2]
theorem jcQ {A:Around} {s:Shared} {x:V} {v:Value} (rx:RelV x v) (fx:jd4 x=true):∀{xs:List V} {us:List Value},Vals xs us->xs.all jd4=true->∀u∈us,SeqAt.EqAt A s u v (eqU x u)
  | _,_,.nil,_=>fun u hu=>by cases hu
  | y :: xs, u :: us, .cons r t, f => fun u' hu => by
    rw[List.all_cons,xaE] at f;rcases xad.mp hu with rfl | hu
    . rw[jh2 r f.1];exact jmd r rx f.1 fx
    . exact jcQ rx fx t f.2 u' hu
def inV (x:V) (xs:List V):Bool:=xs.any fun y=>eqV y x
def rIn (K:PySem.W.Frag) (neg:Bool):R2:=fun x y H Q=>∃p xs,y=.ref p/\(SqL K H p xs\/SqT K H p xs)/\jd4 x=true/\xs.all jd4=true/\Q (.bl (if neg then !inV x xs else inV x xs)) H
theorem jeh:OpR X (compareOp .In) (rIn X.K false):=by
 intro pins s σ H x y v u Q I rx ry h;obtain⟨p,xs,rfl,hq,fx,fs,q⟩:=h;cases ry;rcases hq with hq | hq
 ·obtain⟨its,r,pl,hz⟩:=I.list hq;refine SeqAt.in_listAt (eqU x) pl.isList (fun w hw=>jcQ rx fx r fs w (by simpa using hw)) ⟨.bl _,H,I,rfl,?_⟩;rw[show its.toArray.any (eqU x)=its.any (eqU x) by simp,jdC r fs];exact q
 ·obtain⟨its,r,pl,hz⟩:=I.tuple hq;refine SeqAt.in_tupleAt (eqU x) pl (fun w hw=>jcQ rx fx r fs w (by simpa using hw)) ⟨.bl _,H,I,rfl,?_⟩;rw[show its.toArray.any (eqU x)=its.any (eqU x) by simp,jdC r fs];exact q
theorem jdT:OpR X (compareOp .NotIn) (rIn X.K true):=by
 intro pins s σ H x y v u Q I rx ry h;obtain⟨p,xs,rfl,hq,fx,fs,q⟩:=h;cases ry;rcases hq with hq | hq
 ·obtain⟨its,r,pl,hz⟩:=I.list hq;refine SeqAt.notIn_listAt (eqU x) pl.isList (fun w hw=>jcQ rx fx r fs w (by simpa using hw)) ⟨.bl _,H,I,rfl,?_⟩;rw[show its.toArray.any (eqU x)=its.any (eqU x) by simp,jdC r fs];exact q
 ·obtain⟨its,r,pl,hz⟩:=I.tuple hq;refine SeqAt.notIn_tupleAt (eqU x) pl (fun w hw=>jcQ rx fx r fs w (by simpa using hw)) ⟨.bl _,H,I,rfl,?_⟩;rw[show its.toArray.any (eqU x)=its.any (eqU x) by simp,jdC r fs];exact q
theorem jaB:jc8 X (.builtin "len") (fun xs H Q=>∃p ys,xs=[.ref p]/\(SqL X.K H p ys\/SqT X.K H p ys)/\Q (.int ys.length) H):=by
 intro pins s σ H xs us Q I r h;obtain⟨p,ys,rfl,hq,q⟩:=h;obtain⟨u,rfl,rx⟩:=jfc r;cases rx;have hn:=jfI;rcases hq with hq | hq
 ·obtain⟨its,r',pl,hz⟩:=I.list hq;have hlen:=r'.length;exact Calls.call_len_list pl.isList (by simp only[xag]<;>omega) ⟨.int ys.length,H,I.tok _,⟨s.toks+1,by rw[xag,hlen]⟩,q⟩
 ·obtain⟨its,r',pl,hz⟩:=I.tuple hq;have hlen:=r'.length;exact len_tuple pl (by simp only[xag]<;>omega) ⟨.int ys.length,H,I.tok _,⟨s.toks+1,by rw[xag,hlen]⟩,q⟩
theorem jcx:jc8 X (.type "list") (fun xs H Q=>∃p ys,xs=[.ref p]/\(SqL X.K H p ys\/SqT X.K H p ys)/\∀l,H l=none->Q (.ref l) (upd H l (.lst ys))):=by
 intro pins s σ H xs us Q I r h;obtain⟨p,ys,rfl,hq,q⟩:=h;obtain⟨u,rfl,rx⟩:=jfc r;cases rx;have fin:∀(its:List Value),Vals ys its->ys.length<=sizeLine->∀(h':Heap) (c':Nat),(∀b o',s.heap.get? b=some o'->h'.get? b=some o') ->
   h'.get? s.heap.objs.size=some { cls:=.type "list",dict:=none,data:=.seq its.toArray c',slots:=#[] }->EP X pins σ Q (.ref s.heap.objs.size) { s with heap:=h' }:=fun its r' hz h' c' kp e =>
  ⟨.ref s.heap.objs.size,_,I.laid (t':=s.toks) kp (xaj _) (show ObjOk X.prog X.w _ h' _ (.lst ys) from ⟨hz,its,c',r',e⟩),rfl,q _ (I.hok.fresh (xaj _))⟩
 rcases hq with hq | hq
 ·obtain⟨its,r',pl,hz⟩:=I.list hq;have hlen:=r'.length;obtain⟨o,ho,hc,n,hd⟩:=pl.isList;exact call_list_seq p (.inl rfl) ho hc hd (fun h' c' kp e=>fin its r' hz h' c' kp e) (by simp only[xag]<;>omega)
 ·obtain⟨its,r',pl,hz⟩:=I.tuple hq;have hlen:=r'.length;obtain⟨o,ho,hc,n,hd⟩:=pl;exact call_list_seq p (.inr rfl) ho hc hd (fun h' c' kp e=>fin its r' hz h' c' kp e) (by simp only[xag]<;>omega)
theorem jbq:jc8 X (.type "tuple") (fun xs H Q=>∃p ys,xs=[.ref p]/\((SqL X.K H p ys/\∀l,H l=none->Q (.ref l) (upd H l (.tup ys)))\/(SqT X.K H p ys/\Q (.ref p) H))):=by
 intro pins s σ H xs us Q I r h;obtain⟨p,ys,rfl,h⟩:=h;obtain⟨u,rfl,rx⟩:=jfc r;cases rx;rcases h with ⟨hq,q⟩ | ⟨hq,q⟩
 ·obtain⟨its,r',pl,hz⟩:=I.list hq;have hlen:=r'.length;refine call_tuple_list pl.isList (fun h' kp=>?_) (by simp only[xag]<;>omega);have I1:Inv X pins σ H { s with heap:=h' }:=I.kept (t':=s.toks) kp;have I2:Inv X pins σ (upd H h'.objs.size (.tup ys)) { s with heap:=h'.push { cls:=.type "tuple",data:=.seq its.toArray } } :=
   I1.laid (t':=s.toks) (fun b o e=>Heap.get?_push_of_some _ e) (xaj _) (show ObjOk X.prog X.w _ _ _ (.tup ys) from ⟨hz,its,r',IsTup.new _ _⟩)
  exact⟨.ref h'.objs.size,_,I2,rfl,q _ (I1.hok.fresh (xaj _))⟩
 ·obtain⟨its,r',pl,hz⟩:=I.tuple hq;exact call_tuple_same pl ⟨.ref p,H,I,rfl,q⟩
def tyV (K:PySem.W.Frag) (T:String) (x:V) (H:Hp):Prop:=match x with
 | .str _=>T="str"
 | .int _=>T="int"
 | .ref p=>(T="list" /\ ∃xs,SqL K H p xs) \/ (T="tuple" /\ ∃o,K.lookup p=some o /\ o.cls=.type "tuple" /\ o.dict=none) \/
   (T="dict"/\((∃kvs,H p=some (.dK kvs))\/∃kvs,H p=some (.dT kvs)))\/(T="set"/\∃S n,H p=some (.set S n))
 | _=>False
theorem jj0 {pins:List (Addr × Obj)} {σ:St} {H:Hp} {s:Shared} {T:String} {x:V} {v:Value} (I:Inv X pins σ H s) (r:RelV x v) (ty:tyV X.K T x H) :
    s.TypeIs v T/\∀a,v=.ref a->∃ob,s.heap.get? a=some ob/\ob.dict=none:=by
  cases x with
  | str z =>
    obtain⟨t,rfl⟩:=r;cases (show T="str" from ty);exact⟨typeIs_str s z t,fun _ e=>nomatch e⟩
  | int i =>
    obtain⟨t,rfl⟩:=r;cases (show T="int" from ty);exact⟨typeIs_int s i t,fun _ e=>nomatch e⟩
  | ref p =>
    cases r;rcases ty with ⟨rfl,xs,hq⟩ | ⟨rfl,o,hk,hc,hd⟩ | ⟨rfl,hk⟩ | ⟨rfl,S,n,hk⟩
    . obtain⟨its,_,pl,_⟩:=I.list hq
      refine⟨pl.isList.typeIs,fun a e=>?_⟩;cases e;obtain⟨o,n,e,c,hd,_⟩:=pl;exact⟨o,e,hd⟩
    . refine⟨⟨o,I.kIn p o hk,hc⟩,fun a e=>?_⟩
      cases e;exact⟨o,I.kIn _ o hk,hd⟩
    . have z:∃o,s.heap.get? p=some o/\o.ExactDict:=by
        rcases hk with ⟨kvs,hk⟩ | ⟨kvs,hk⟩
        . obtain⟨_,_,_,_,o,_,_,e,ex,_⟩:=I.hok p _ hk
          exact⟨o,e,ex⟩
        . obtain⟨_,_,_,_,o,_,_,e,ex,_⟩:=I.hok p _ hk
          exact⟨o,e,ex⟩
      obtain⟨o,e,ex⟩:=z;refine⟨⟨o,e,ex.1⟩,fun a e2=>?_⟩;cases e2;exact⟨o,e,ex.2.1⟩
    . obtain⟨o,_,_,_,e,ex,_⟩:=I.hok p _ hk
      refine⟨⟨o,e,ex.1⟩,fun a e2=>?_⟩;cases e2;exact⟨o,e,ex.2.1⟩
  | _=>exact False.elim ty
def jme (K:PySem.W.Frag) (T:String) (r:V->List V->Hp->VK->Prop) (to:TE):TE:=fun σ H Q=>to σ H fun x H1=>tyV K T x H1/\r x [] H1 Q
def tBM (K:PySem.W.Frag) (T:String) (r:V->List V->Hp->VK->Prop) (to:TE) (t:TA):TE:=fun σ H Q=>to σ H fun x H1=>tyV K T x H1/\t σ H1 fun xs H2=>r x xs H2 Q
variable {o e:Expr} {es:List Expr} {to:TE} {t:TA} {name:Str} {apos cpos:Pos} {T id:String} {r:V->List V->Hp->VK->Prop}
theorem jfO (pa:PlainAttrs T) (slot:Slot T name id) (hty:typeOf (.builtin id)=pure (.type "method_descriptor")) (hm:MtR X id r) (ho:PE X o to)
  (hbase:attributeBase o name X.env (eval o X.env)=eval o X.env:=by rfl) (hline:(apos.endLine==cpos.line)=true:=by rfl):PE X (.Call (.Attribute o name apos) [] [] cpos) (jme X.K T r to):=by
 intro pins s σ H Q I h;refine wpAny_Call_method0_late hbase hline (thn (ho pins s σ H _ I h) fun v s1 ⟨x,H1,I1,r1,ty,q1⟩=>?_);obtain⟨h1,h2⟩:=jj0 I1 r1 ty;exact⟨T,id,pa,slot,hty,h1,h2,Calls.callWith_builtin rfl (PySem.evalArgs_none (hm pins s1 σ H1 x [] v [] Q I1 r1 .nil q1))⟩
theorem jdb (pa:PlainAttrs T) (slot:Slot T name id) (hty:typeOf (.builtin id)=pure (.type "method_descriptor")) (hm:MtR X id r) (ho:PE X o to) (ha:PA X (e::es) t)
  (hbase:attributeBase o name X.env (eval o X.env)=eval o X.env:=by rfl)
  (hfew:((backTo cpos (starEach (e::es) X.env)).all (fun x=>!x.1)&&(backToKw cpos (keywordEach [] X.env)).all (fun x=>x.1.isSome)
   && decide ((e::es).length+([]:List Keyword).length+(if ([]:List Keyword).isEmpty then 0 else 1)<30))=true:=by rfl)
  (hline:(apos.endLine==cpos.line)=true:=by rfl) (hs:starEach (e::es) X.env=(false,eval e X.env)::starEach es X.env:=by rfl) (hplain:(backTo cpos (starEach es X.env)).any (·.1)=false:=by rfl) :
  PE X (.Call (.Attribute o name apos) (e::es) [] cpos) (tBM X.K T r to t):=by
 intro pins s σ H Q I h;refine wpAny_Call_method_late hbase hfew hline rfl (thn (ho pins s σ H _ I h) fun v s1 ⟨x,H1,I1,r1,ty,q1⟩=>?_);obtain⟨h1,h2⟩:=jj0 I1 r1 ty;refine⟨T,id,pa,slot,hty,h1,h2,?_⟩;have hA:=ha cpos pins s1 σ H1 _ I1 q1;rw[hs] at hA |-
 refine Calls.callWith_builtin (by show (false||(backTo cpos (starEach es X.env)).any (·.1))=false;rw[hplain]<;>rfl) (Calls.evalArgs_plain ?_);exact thn hA fun us s2 ⟨vs,H2,I2,r2,q2⟩=>hm pins s2 σ H2 x vs v us Q I2 r1 r2 q2
end
def MtM (X:Cx) (id:String) (r:V->List V->Hp->VK->Prop):Prop :=
  ∀ (pins : List (Addr × Obj)) (s : Shared) (σ : St) (H : Hp) (x : V) (xs : List V) (v : Value) (us : List Value) (Q : VK), Inv X pins σ H s -> RelV x v -> Vals xs us -> r x xs H Q ->
    wpAny (model X.prog X.w) X.A (call (.builtin id) (v::us)) (EP X pins σ Q) X.xe s
theorem Vals.one:∀{x:V} {us:List Value},Vals [x] us->∃u,us=[u]/\RelV x u
 | _,_,.cons r .nil=>⟨_,rfl,r⟩
theorem Vals.two:∀{x y:V} {us:List Value},Vals [x,y] us->∃u v,us=[u,v]/\RelV x u/\RelV y v
 | _,_,_,.cons r (.cons q .nil)=>⟨_,_,rfl,r,q⟩
theorem Vals.zero:∀{us:List Value},Vals [] us->us=[]
 | _,.nil=>rfl
theorem Vals.dropLast {xs:List V} {us:List Value} (h:Vals xs us):Vals xs.dropLast us.dropLast:=by
  induction h with
  | nil=>exact .nil
  | cons r t ih =>
    cases t with
    | nil=>exact .nil
    | cons q t'=>exact .cons r ih
theorem Vals.eraseIdx:∀{xs:List V} {us:List Value} (i:Nat),Vals xs us->Vals (xs.eraseIdx i) (us.eraseIdx i)
 | _,_,_,.nil=>.nil
 | _,_,0,.cons _ t=>t
 | _,_,i+1,.cons r t=>.cons r (Vals.eraseIdx i t)
theorem Vals.reverse {xs:List V} {us:List Value} (h:Vals xs us):Vals xs.reverse us.reverse:=by
 induction h with
 | nil=>exact .nil
 | cons r t ih=>rw[xaZ,xaZ];exact Vals.append ih (.cons r .nil)
theorem erase_last {α:Type} (l:List α):l.eraseIdx (l.length-1)=l.dropLast:=by
  induction l with
  | nil=>rfl
  | cons a r ih =>
    cases r with
    | nil=>rfl
    | cons b r =>
      have e:(a::b::r).length-1=((b::r).length-1)+1:=by
        have h1:(a::b::r).length=r.length+2:=rfl;have h2:(b::r).length=r.length+1:=rfl;omega
      rw[e,List.eraseIdx_cons_succ,ih]
      all_goals rfl
theorem jfP {α:Type}:∀(l:List α) (i:Nat),(l.eraseIdx i).length<=l.length
 | [],_=>xaj _
 | _::_,0=>xbl _
 | _::r,i+1=>Nat.succ_le_succ (jfP r i)
section
variable {X:Cx} {pins:List (Addr × Obj)} {σ:St} {H:Hp} {s:Shared} {l b:Addr} {xs ys zs:List V}
theorem Inv.lset {its its':List Value} {n:Nat} {f:Array Value->Array Value} {t':Nat} (I:Inv X pins σ H s) (hH:H l=some (.lst xs))
  (e:s.heap.get? l=some { cls:=.type "list",data:=.seq its.toArray n }) (hf:f its.toArray=its'.toArray) (hv:Vals ys its') (hz:ys.length<=sizeLine) :
  Inv X pins σ (upd H l (.lst ys)) { s with heap:=s.heap.update l (Obj.mapSeq f),toks:=t' }:=by
 have q:=PySem.IsL.update e f;rw[hf] at q;refine I.write (x:=l) (e:=l) (by rw[hH];exact trivial) (.inl rfl) (fun b' u hb hu=>(Heap.get?_update_other s.heap (Obj.mapSeq f) (Ne.symm hb)).trans hu) ⟨_,q⟩ ?_;exact⟨hz,its',_,hv,q⟩
theorem Inv.lnew {its:List Value} {t':Nat} (I:Inv X pins σ H s) (hv:Vals ys its) (hz:ys.length<=sizeLine) :
  Inv X pins σ (upd H s.heap.objs.size (.lst ys)) { s with heap:=s.heap.push { cls:=.type "list",data:=.seq its.toArray },toks:=t' } :=
 I.laid (fun _ _ q=>Heap.get?_push_of_some _ q) (xaj _) ⟨hz,its,0,hv,Heap.get?_push_size _ rfl⟩
theorem Inv.fresh (I:Inv X pins σ H s):H s.heap.objs.size=none:=I.hok.fresh (xaj _)
theorem Inv.lstM (I:Inv X pins σ H s) (hH:H l=some (.lst xs)):xs.length<=sizeLine/\∃(its:List Value) (n:Nat),Vals xs its/\xs.length=its.length/\s.heap.get? l=some { cls:=.type "list",data:=.seq its.toArray n }:=by
 obtain⟨z,its,n,r,e⟩:=I.hok l _ hH;exact⟨z,its,n,r,r.length,e⟩
end
section
variable {X:Cx}
def jh3:V->List V->Hp->VK->Prop:=fun x vs H Q=>∃l xs y,x=.ref l/\vs=[y]/\H l=some (.lst xs)/\xs.length<sizeLine/\Q .non (upd H l (.lst (xs++[y])))
theorem jbr:MtM X "list.append" jh3:=by
 intro pins s σ H x vs v us Q I rx rv h;obtain⟨l,xs,y,rfl,rfl,hH,hz,q⟩:=h;cases rx;obtain⟨u,rfl,ru⟩:=rv.one;obtain⟨z,its,n,r,hl,e⟩:=I.lstM hH;refine call_meets F.slot_list_append ⟨_,e,rfl⟩ F.entry_list_append (F.args_list_append_2 _ _) (PySem.list_append l its.toArray n u (by rw[xag];omega)) ⟨e,?_⟩;refine⟨.non,_,I.lset (its':=its++[u]) hH e (by simp) (r.append (.cons ru .nil)) ?_,rfl,q⟩;rw[xaf,List.length_singleton];omega
def rPop:V->List V->Hp->VK->Prop:=fun x vs H Q=>∃l xs y,x=.ref l/\vs=[]/\H l=some (.lst xs)/\xs[xs.length-1]?=some y/\Q y (upd H l (.lst xs.dropLast))
theorem jj1:MtM X "list.pop" rPop:=by
 intro pins s σ H x vs v us Q I rx rv h;obtain⟨l,xs,y,rfl,rfl,hH,hy,q⟩:=h;cases rx;have hus:=rv.zero;subst hus;obtain⟨z,its,n,r,hl,e⟩:=I.lstM hH;obtain⟨u,hu,ru⟩:=r.get hy;have hy':its.toArray[its.toArray.size-1]?=some u:=by
  show its.toArray[its.length-1]?=some u;rw[<- Array.getElem?_toList,<- hl];exact hu
 refine call_meets F.slot_list_pop ⟨_,e,rfl⟩ F.entry_list_pop (F.args_list_pop_1 _) (MeetsSeq.list_pop_last l its.toArray n u hy' (by rw[xag];omega)) ⟨e,?_⟩;refine⟨y,_,I.lset (its':=its.dropLast) hH e ?_ r.dropLast ?_,ru,q⟩
 ·show its.toArray.eraseIdxIfInBounds (its.toArray.size-1)=its.dropLast.toArray;rw[xag,xbw,erase_last]
 ·rw[List.length_dropLast];omega
def jmf:V->List V->Hp->VK->Prop:=fun x vs H Q=>∃l xs i k y,x=.ref l/\vs=[.int i]/\H l=some (.lst xs)/\-(2^63)<=i/\i<2^63/\seqIndex? i xs.length=some k/\xs[k]?=some y/\Q y (upd H l (.lst (xs.eraseIdx k)))
theorem jgG:MtM X "list.pop" jmf:=by
 intro pins s σ H x vs v us Q I rx rv h;obtain⟨l,xs,i,k,y,rfl,rfl,hH,h1,h2,hk,hy,q⟩:=h;cases rx;obtain⟨u,rfl,ru⟩:=rv.one;obtain⟨t,rfl⟩:=ru;obtain⟨z,its,n,r,hl,e⟩:=I.lstM hH;obtain⟨w,hw,rw'⟩:=r.get hy;refine call_meets F.slot_list_pop ⟨_,e,rfl⟩ F.entry_list_pop (F.args_list_pop_2 _ _)
  (MeetsSeq.list_pop_at l its.toArray n i t k w (fitsIndex_both h1 h2) (by rw[xag,<- hl];exact hk) (by rw[<- Array.getElem?_toList];exact hw) (by rw[xag];omega)) ⟨e,?_⟩
 refine⟨y,_,I.lset (its':=its.eraseIdx k) hH e ?_ (r.eraseIdx k) ?_,rw',q⟩
 ·show its.toArray.eraseIdxIfInBounds k=(its.eraseIdx k).toArray;rw[xbw]
 ·have:=jfP xs k;omega
def jmg:V->List V->Hp->VK->Prop:=fun x vs H Q=>∃l xs,x=.ref l/\vs=[]/\H l=some (.lst xs)/\Q .non (upd H l (.lst []))
theorem jgH:MtM X "list.clear" jmg:=by
 intro pins s σ H x vs v us Q I rx rv h;obtain⟨l,xs,rfl,rfl,hH,q⟩:=h;cases rx;have hus:=rv.zero;subst hus;obtain⟨z,its,n,r,hl,e⟩:=I.lstM hH;refine call_meets F.slot_list_clear ⟨_,e,rfl⟩ F.entry_list_clear (F.args_list_clear_1 _) (AutoSeq1.list_clear_list_0 l its.toArray n (by rw[xag];omega)) ⟨e,?_⟩;exact⟨.non,_,I.lset (its':=[]) (ys:=[]) hH e rfl .nil (xaT _),rfl,q⟩
def rCat:R2:=fun x y H Q=>∃l b xs zs,x=.ref l/\y=.ref b/\H l=some (.lst xs)/\H b=some (.lst zs)/\xs.length+zs.length<=sizeLine/\∀p,H p=none->Q (.ref p) (upd H p (.lst (xs++zs)))
theorem jb1:OpR X (binaryOp .Add) rCat:=by
 intro pins s σ H x y v u Q I rx ry h;obtain⟨l,b,xs,zs,rfl,rfl,hH,hB,hz,q⟩:=h;cases rx;cases ry;obtain⟨z,its,n,r,hl,e⟩:=I.lstM hH;obtain⟨z2,its2,n2,r2,hl2,e2⟩:=I.lstM hB;refine PySem.P.add_list e e2 ?_ (by rw[xag,xag];omega);have ea:its.toArray++its2.toArray=(its++its2).toArray:=by simp
 rw[ea];exact⟨.ref _,_,I.lnew (t':=s.toks) (r.append r2) (by rw[xaf];omega),rfl,q _ I.fresh⟩
end
end L2
namespace Att
open PySem PySem.W PySem.Calls PyProof.Rows
theorem jei {P:Params} {h:Heap}:∀(ns:List Int) (vs:List Value),WellAll P h vs (ns.map WData.int)->IntsAre vs ns:=by
  intro ns;induction ns with
  | nil =>
    intro vs w;rw[List.map_nil] at w;cases w;exact .nil
  | cons n ns ih =>
    intro vs w;rw[xaJ] at w;cases w with
    | cons a b =>
      cases a;exact .cons _ _ (ih _ b)
theorem jh4 {l:OpenLaw} {n:Nat} (hn:l.most=some n) {P:Params} {h:Heap} {args:List WData} {vals:List Value}
    (hpre:l.row.toRowW.claim.pre args=true) (hwl:WellAll P h vals args) :
    ∃a vs ns,vals=[Value.ref a]/\args=[WData.list (ns.map WData.int)]/\h.get? a=some { cls:=.type "list",data:=.seq vs.toArray }/\IntsAre vs ns/\ns.length<=n:=by
  have hsh:WShape.hasAll [] args [.list .int]=true:=(pre_splitW hpre).1;have hc:l.pre.holds [] { args:=args }=true:=(pre_splitW hpre).2;obtain⟨d,r,rfl,h1,h2⟩:=hasAllW_cons hsh;obtain rfl:=hasAllW_nil h2;obtain⟨xs,rfl,h3⟩:=hasW_list h1;obtain⟨ns,rfl⟩:=items_int h3;have hlen:ns.length<=n:=by
    unfold OpenLaw.pre at hc;have h4:(WTm.not (.lt (.lit (.int (n:Int))) (.len (.arg 0)))).holds [] { args:=[.list (ns.map .int)] }=true:=by
      have h4:=(holds_andW hc).1;rw[hn] at h4;exact h4
    have h5:=condW_of h4 (w_not (w_lt w_lit (w_len_list (w_arg rfl))));rw[xaa] at h5;refine Nat.le_of_not_lt fun q=>?_;have q':(n:Int)<((ns.length:Nat):Int):=by omega
    first
      | (rw[decide_eq_true q'] at h5;exact absurd h5 (by decide))
      | (simp at h5;omega)
  cases hwl with
  | cons w1 w2 =>
    cases w2;cases w1 with
    | list ho hall=>exact⟨_,_,ns,rfl,rfl,ho,jei ns _ hall,hlen⟩
theorem jh5 (l:OpenLaw) (args:List WData):l.row.toRowW.claim.post args (.bool true) args=true :=
 postW_of (r:=l.row.toRowW) (X:=(true==true))
  (show WShape.has [] (.bool true) .bool=true by first | rfl | decide | simp [WShape.has,WShape.arms,WShape.armsAll])
  (show (WTm.eq .res (.lit (.bool true))).value [] { args:=args,res:=some (.bool true),after:=args }=some (.bool (true==true)) from w_eq_bool (w_res rfl) w_lit) rfl
theorem attach_call {l:OpenLaw} {n:Nat} {q:Program} {loose:List Str} {XP:(Str->Option Value)->Heap->Prop} {YP:World->Heap->Prop} {d:DefRec}
  (hn:l.most=some n) (hdf:d.params.defaults=[])
  (call:∀(w:World) (s₀ s₁:Shared) (mg mb:Str->Option Value) (fa:Addr) (o:Obj) (pm cd doc:Value) (a:Addr) (vs:List Value) (ns:List Int),
   Ground q loose [] XP w s₀ mg mb s₁.heap->YP w s₁.heap ->
   s₁.heap.get? fa=some o->o.data=.func (docDef d.name d.params d.body d.scope pm cd doc)->s₁.heap.CodeRec cd d.name->mg d.name=some (.ref fa) ->
   s₁.heap.get? a=some { cls:=.type "list",data:=.seq vs.toArray }->IntsAre vs ns->ns.length<=n->s₁.gens=#[] ->
   codeAny (model l.prog w) callerA (.call (.ref fa) ⟨[.ref a],[]⟩) (fun r s'=>r=.ok (.ret (.bool true))/\OldK s₁.heap s'.heap/\s'.os=s₁.os/\AllBare s'.gens) s₁) :
  WalkO q loose XP YP l.row.toRowW d [] (fun f vs=>PySem.call f vs):=by
 intro w s₀ s₁ mg mb G Y fa o pm cd doc dV kV ho hd hcd hD hmg hg args vals as hpre hlay hrd hwl hlo;obtain rfl:dV=.none:=Dflts.none hD hdf;obtain rfl:kV=.none:=Dflts.noKw hD;obtain⟨a,vs,ns,rfl,rfl,hobj,hints,hlen⟩:=jh4 hn hpre hwl;refine enter_call (codeAny_mono (call w s₀ s₁ mg mb fa o pm cd doc a vs ns G Y ho (fd_plain hd) hcd hmg hobj hints hlen hg) fun r s' hq=>?_);obtain⟨rfl,h2,h3,h4⟩:=hq;exact⟨.inl ⟨.bool true,.bool true,[],rfl,fun _=>rfl,.bool true,jh5 l _,fun _=>⟨List.Pairwise.nil,fun _ hm=>(nomatch hm)⟩⟩,h2,h3,h4⟩
end Att
namespace L2
open PySem PySem.Spec PyProof.Rows
theorem jfQ:∀{vs:List Value} {ns:List Int},IntsAre vs ns->Vals (ns.map V.int) vs
 | _,_,.nil=>.nil
 | _,_,.cons n t h=>.cons ⟨t,rfl⟩ (jfQ h)
def Only (H:Hp):Prop:=∀b,H b=none\/∃o xs,H b=some (.frz o (.lst xs))
theorem jjo {P:Program} {w:World} {K:PySem.W.Frag} {mg mb:Str->Option Value} {CX:CXT} {k:Nat} {fa a:Addr} {fd:FuncData} {x:Str} {sp:Sp} {s₁:Shared} {vs:List Value} {ns:List Int}
    (KX:K.In s₁.heap) (hns:s₁.heap.Ns mainGlobals mg) (hb:s₁.heap.Ns builtinsNs mb) (hbb:∀x:Str,x≠"__name__"->mb x=bootBuiltins x) (hlim:s₁.heap.NoLimit) (hg:s₁.gens=#[])
    (ha:s₁.heap.get? a=some { cls:=.type "list",data:=.seq vs.toArray }) (hi:IntsAre vs ns) (hl:ns.length<=sizeLine) (hr:Room k callerA)
    (F:∀base:Heap,K.In base->base.Ns mainGlobals mg->FnOk P w K mg base CX k fa fd [x] sp) (hbind:∀(s:Shared) (u:Value),BindsTo s fd ⟨[u],[]⟩ [(x,u)])
    (hsp:∀H:Hp,Only H->SqL K H a (ns.map V.int)->sp [.ref a] H (fun v _=>v=.bl true) fun _ _ _=>False)
    (hCX:∀H e s',CX [] H s₁ (fun _ _ _=>False) e s'->False) :
    codeAny (model P w) callerA (.call (.ref fa) ⟨[.ref a],[]⟩) (fun r s'=>r=.ok (.ret (.bool true))/\OldK s₁.heap s'.heap/\s'.os=s₁.os/\AllBare s'.gens) s₁:=by
  have rv:=jfQ hi;have lenV:=hi.length;have core:∀H:Hp,Only H->SqL K H a (ns.map V.int)->HOk P w H s₁.heap->(∀b,H b≠none->b=a)->(H a≠none->K.lookup a=none) ->
      codeAny (model P w) callerA (.call (.ref fa) ⟨[.ref a],[]⟩) (fun r s'=>r=.ok (.ret (.bool true))/\OldK s₁.heap s'.heap/\s'.os=s₁.os/\AllBare s'.gens) s₁:=by
    intro H hO hS hok hA hK;have base_of:∀{b:Addr} {o:Obj},s₁.heap.get? b=some o->H b=none->(ji6 s₁.heap H).get? b=some o:=fun e n=>ji7 e n;have noA:∀{b:Addr} {o:Obj} {es:Array DictEntry} {ep:Nat},s₁.heap.get? b=some o->o.data=.dict es ep->H b=none:=fun {b o es ep} e d=>by
      cases q:H b with
      | none=>rfl
      | some u =>
        have e':b=a:=hA b (by rw[q];simp);subst e';rw[ha] at e;cases e;have d':Data.seq vs.toArray _=Data.dict es ep:=d;cases d'
    have nsK:∀{b:Addr} {m:Str->Option Value},s₁.heap.Ns b m->(ji6 s₁.heap H).Ns b m:=fun {b m} ⟨o,es,ep,e,d,r⟩=>⟨o,es,ep,base_of e (noA e d),d,r⟩;have hKb:K.In (ji6 s₁.heap H):=fun b o e=>base_of (KX b o e) (by
      cases q:H b with
      | none=>rfl
      | some u =>
        have e':b=a:=hA b (by rw[q];simp);subst e';rw[hK (by rw[q];simp)] at e;cases e)
    have hM:Mod K mg (ji6 s₁.heap H):=⟨hKb,nsK hns,⟨mb,nsK hb,hbb⟩,let ⟨mc,h1,h2⟩:=hlim;⟨mc,nsK h1,h2⟩⟩;have e0:Env0 P w K mg (ji6 s₁.heap H) callerA [] s₁ H:=⟨rfl,hM,fun b o e=>jkz e,Nat.le_of_eq (jhJ _ _),trivial,fun b hb=>absurd (show b∈([]:List Addr) from hb) (by simp),hok,.of_eq hg⟩;refine codeAny_mono ((F _ hKb (nsK hns)).run callerA [] s₁ H ⟨[.ref a],[]⟩ [.ref a] [.ref a] _ _ hr e0 (hbind s₁ (.ref a)) (.cons rfl .nil) (hsp H hO hS)) fun r s' h=>?_;cases r with
    | error e=>exact (hCX H e s' h).elim
    | ok fl =>
      cases fl with
      | next=>exact False.elim h
      | brk=>exact False.elim h
      | cont=>exact False.elim h
      | ret u =>
        obtain⟨v,H',os,bare,un,hok',r',q⟩:=h;have q':v=.bl true:=q;subst q';obtain rfl:u=Value.bool true:=r';refine⟨rfl,OldK.of_keep fun b o e=>?_,os,bare⟩;cases q:H b with
        | none=>exact un.keep b o e q (by intro z;exact absurd (show b∈([]:List Addr) from z) (by simp)) (by simp)
        | some u =>
          rcases hO b with z | ⟨ob,xs,z⟩
          . rw[q] at z;cases z
          . have z2:=un.frzs b ob _ z
            obtain⟨e1,_⟩:=hok b _ z;obtain⟨e2,_⟩:=hok' b _ z2;rw[e] at e1;cases e1;exact e2
  cases hk:K.lookup a with
  | some o =>
    have e:=KX a o hk;rw[ha] at e;cases e;refine core (fun _=>none) (fun _=>.inl rfl) (.inr ⟨_,vs.toArray,_,hk,rfl,rfl,rfl,by rw[xag,lenV];exact hl,by simpa using rv⟩) (fun b u z=>by have z':(none:Option HO)=some u:=z;cases z') (fun b z=>absurd rfl z) fun z=>absurd rfl z
  | none =>
    refine core (fun b=>if b=a then some (.frz { cls:=.type "list",data:=.seq vs.toArray } (.lst (ns.map V.int))) else none) (fun b=>?_) (.inl (.inr ⟨{ cls:=.type "list",data:=.seq vs.toArray },if_pos rfl⟩)) (fun b u z=>?_) (fun b z=>?_) fun _=>hk
    . by_cases hb:b=a
      . exact .inr ⟨_,_,if_pos hb⟩
      . exact .inl (if_neg hb)
    . by_cases hb:b=a
      . have z':=(if_pos hb).symm.trans z
        cases z';subst hb;exact⟨ha,by rw[xaa];exact hl,vs,_,rv,ha⟩
      . have z':=(if_neg hb).symm.trans z
        cases z'
    . by_cases hb:b=a
      . exact hb
      . exact absurd (if_neg hb) z
theorem jkT {l:PySem.W.OpenLaw} {n k:Nat} {q:Program} {loose:List Str} {XP:(Str->Option Value)->Heap->Prop} {YP:World->Heap->Prop} {d:DefRec} {K:Params->PySem.W.Frag} {CX:World->CXT} {sp:World->Sp} {x:Str}
    (hn:l.most=some n) (hn2:n<=sizeLine) (hdf:d.params.defaults=[]) (hr:Room k callerA)
    (hY:∀(w:World) (h:Heap),YP w h->(K w.params).In h)
    (F:∀(w:World) (mg:Str->Option Value) (fa:Addr) (h:Heap),(K w.params).In h->h.Ns mainGlobals mg->mg d.name=some (.ref fa) ->
      ∃ fd : FuncData, (∀ (s : Shared) (u : Value), BindsTo s fd ⟨[u], []⟩ [(x, u)]) /\
        ∀base:Heap,(K w.params).In base->base.Ns mainGlobals mg->FnOk l.prog w (K w.params) mg base (CX w) k fa fd [x] (sp w))
    (hsp:∀(w:World) (H:Hp) (a:Addr) (ns:List Int),ns.length<=n->Only H->SqL (K w.params) H a (ns.map V.int)->sp w [.ref a] H (fun v _=>v=.bl true) fun _ _ _=>False)
    (hCX:∀(w:World) (H:Hp) (s:Shared) (e:Value) (s':Shared),CX w [] H s (fun _ _ _=>False) e s'->False) :
    PySem.W.WalkO q loose XP YP l.row.toRowW d [] (fun f vs=>PySem.call f vs):=by
  refine Att.attach_call hn hdf fun w s₀ s₁ mg mb fa o pm cd doc a vs ns G Y ho hd hcd hmg hobj hints hlen hg=>?_;have KX:=hY w _ Y;obtain⟨fd,hb,hF⟩:=F w mg fa _ KX G.T.g hmg;exact jjo KX G.T.g G.T.b G.T.builtins G.T.nolimit hg hobj hints (xaA hlen hn2) hr hF hb (fun H hO hS=>hsp w H a ns hlen hO hS) fun H e s'=>hCX w H s₁ e s'
def jb5 (s:Stmt) (j:Nat):Stmt:=match s with
 | .ClassDef _ _ _ body _ _ _ _ _ _ _=>body.getD j (.Pass ⟨0,0,0,0⟩)
 | _=>.Pass ⟨0,0,0,0⟩
def jbI (s:Stmt):Arguments:=match s with
 | .FunctionDef _ a _ _ _ _ _ _ _ _=>a
 | _=>{ posonlyargs:=[],args:=[],vararg:=none,kwonlyargs:=[],kw_defaults:=[],kwarg:=none,defaults:=[] }
def ja3 (s:Stmt):List Stmt:=match s with
 | .FunctionDef _ _ b _ _ _ _ _ _ _=>b
 | _=>[]
def jag (s:Stmt):Scope:=match s with
 | .FunctionDef _ _ _ _ _ _ sc _ _ _=>sc
 | _=>{ kind:=.function,names:=[],isGenerator:=false,isCoroutine:=false }
abbrev CX0:CXT:=fun _ _ _ _ _ _=>False
abbrev E0:XK:=fun _ _ _=>False
theorem jaF {X:Cx}:jcn CX0 X E0:=fun _ _ _ _ _ _ _ h=>h.elim
theorem jh6 {n:Nat} (h:n<=1000):n<sizeLine:=xa1 h (by decide)
section
variable {X:Cx}
theorem pv (i:Nat) {x:Str} {pos:Pos} (hN:X.N[i]?=some x:=by rfl) (hv:Vis X.env.scope x:=by first | exact Or.inl rfl | exact Or.inr (Or.inl rfl) | exact Or.inr (Or.inr rfl)) (hd:(x==("__debug__":Str))=false:=by decide)
  (hcd:(x==("__classdict__":Str))=false:=by decide):PE X (.Name x pos) (jhj i):=jlV hN hv hd hcd
end
theorem iteF {A B:Prop} (h:B):if false=true then A else B:=by
 rw[if_neg xap];exact h
theorem iteT {A B:Prop} (h:A):if true=true then A else B:=by
 rw[if_pos rfl];exact h
theorem jb2 {c A B:Prop} [Decidable c] (h1:c->A) (h2:¬c->B):if c then A else B:=by
 by_cases h:c
 ·rw[if_pos h];exact h1 h
 ·rw[if_neg h];exact h2 h
def Same (H H':Hp):Prop:=∀b o,H b=some o->H' b=some o
theorem Same.refl (H:Hp):Same H H:=fun _ _ h=>h
theorem Same.trans {H H1 H2:Hp} (a:Same H H1) (b:Same H1 H2):Same H H2:=fun c o h=>b c o (a c o h)
theorem Same.free {H H':Hp} (e:Same H H') {l:Addr} (h:H' l=Option.none):H l=Option.none:=by
  cases q:H l with
  | none=>rfl
  | some o =>
    rw[e l o q] at h;cases h
theorem Same.seq {K:PySem.W.Frag} {H H':Hp} {a:Addr} {xs:List V} (e:Same H H') (h:SqL K H a xs):SqL K H' a xs:=by
 rcases h with (h | ⟨o,h⟩) | h
 ·exact .inl (.inl (e _ _ h))
 ·exact .inl (.inr ⟨o,e _ _ h⟩)
 ·exact .inr h
section
variable {prog:Program} {w:World} {A:Around} {R:Result->Shared->Prop} {s:Shared}
theorem jfR {elt target iter:Expr} {ifs:List Expr} {scope:Scope} {pos:Pos} {it acc:Value} {env:Env} (I:Nat->Shared->Prop)
    (turn:∀n s,I n s->wpAny (model prog w) A (pyNext it) (fun r s₁=>match r with
      | none=>R (.ok .next) s₁
      | some v=>wpAny (model prog w) A (letOwnedTupleGo target it v) (fun _ s₁'=>wpAny (model prog w) A (assign target env v) (fun _ s₂ =>
          wpAny (model prog w) A (forIn ifs true fun c r=>if r=true then do let ok <- isTrue c env (eval c env);pure (ForInStep.yield ok) else pure (ForInStep.yield r)) (fun ok s₃ =>
            if ok=true then wpAny (model prog w) A (eval elt env) (fun x s₄ =>
              wpAny (model prog w) A (call (.builtin "list.append") [acc,x]) (fun _ s₅=>∃m,m<n/\I m s₅) (notedBy (model prog w) A env fun e s'=>R (.error e) s') s₄) (notedBy (model prog w) A env fun e s'=>R (.error e) s') s₃
            else ∃m,m<n/\I m s₃) (notedBy (model prog w) A env fun e s'=>R (.error e) s') s₂) (notedBy (model prog w) A env fun e s'=>R (.error e) s') s₁') (notedBy (model prog w) A env fun e s'=>R (.error e) s') s₁) (notedBy (model prog w) A env fun e s'=>R (.error e) s') s)
    (n:Nat) (h:I n s) :
    codeAny (model prog w) A (.compLoop (.ListComp elt [⟨target,iter,ifs,0⟩] scope pos) 0 it acc env) R s:=by
  refine codeAny_loop rfl I (fun n s hI=>?_) n h;show wpAny _ A ((compTurn (.ListComp elt [⟨target,iter,ifs,0⟩] scope pos) 0 it acc env).onRaise (fun x=>do noteFrame x env;theTreesLotGoes x)) _ _ s;refine wpAny_noted ?_;rw[compTurn_list];refine wpAny_bind (wpAny_standAt (wpAny_bind (wpAny_mono (turn n s hI) (fun r s₁ h₁=>?_) fun _ _ h'=>h')));cases r with
  | none=>exact wpAny_pure h₁
  | some v =>
    refine wpAny_bind (wpAny_mono h₁ (fun _ s₁' h₁'=>?_) fun _ _ h'=>h');refine wpAny_bind (wpAny_mono h₁' (fun _ s₂ h₂=>wpAny_bind (wpAny_mono h₂ (fun ok s₃ h₃=>?_) fun _ _ h'=>h')) fun _ _ h'=>h');cases ok with
    | false=>exact wpAny_pure ⟨rfl,h₃⟩
    | true =>
      exact wpAny_bind (wpAny_bind (wpAny_mono h₃ (fun x s₄ h₄=>wpAny_bind (wpAny_mono h₄ (fun _ s₅ h₅=>wpAny_pure (wpAny_pure ⟨rfl,h₅⟩)) fun _ _ h'=>h')) fun _ _ h'=>h'))
end
theorem jdD {env:Env}:∀(names:List (Str × NameKind)) (cs:List (Str × Addr)),(∀y∈names,y.2=.free->∃c,env.cells.lookup y.1=some c) ->
    (∀y c,cs.lookup y=some c->env.cells.lookup y=some c) ->
    ∃cl:List (Str × Addr),(forIn (m:=Sem) names cs fun x r=>do
        if (x.2==NameKind.free)=true then do
          let a <- cellOf env x.1
          pure (ForInStep.yield ((x.1,a)::r))
        else pure (ForInStep.yield r))=pure cl/\(∀y c,cl.lookup y=some c->env.cells.lookup y=some c) /\
      (∀y,((y,NameKind.free)∈names\/∃c,cs.lookup y=some c)->∃c,cl.lookup y=some c)
  | [],cs,_,hc=>⟨cs,rfl,hc,fun y h=>h.elim (fun z=>nomatch z) id⟩
  | (n, k) :: r, cs, hn, hc => by
    by_cases hk:k=.free
    . subst hk
      obtain⟨c,e⟩:=hn (n,.free) xaL rfl;have hc':∀y d,((n,c)::cs).lookup y=some d->env.cells.lookup y=some d:=fun y d q=>by
        rw[xaw] at q;cases z:y==n with
        | true =>
          rw[z] at q;have:=beq_iff_eq.mp z;subst this;cases q;exact e
        | false=>rw[z] at q;exact hc y d q
      obtain⟨cl,h1,h2,h3⟩:=jdD r ((n,c)::cs) (fun y hy=>hn y (xar _ hy)) hc';refine⟨cl,?_,h2,fun y hy=>h3 y ?_⟩
      . rw[List.forIn_cons]
        have ec:cellOf env n=pure c:=by unfold cellOf;rw[e]
        show ((if (NameKind.free==NameKind.free)=true then _ else _) >>= _)=_;rw[if_pos (by rfl)];show ((cellOf env n >>= _) >>= _)=_;rw[ec];exact h1
      . rcases hy with hy | ⟨d,hy⟩
        . rcases xad.mp hy with z | z
          . cases z
            exact .inr ⟨c,by rw[xaw,beq_self_eq_true]⟩
          . exact .inl z
        . refine .inr ?_
          rw[xaw];cases z:y==n with
          | true=>exact⟨c,rfl⟩
          | false=>exact⟨d,hy⟩
    . obtain⟨cl,h1,h2,h3⟩:=jdD r cs (fun y hy=>hn y (xar _ hy)) hc
      refine⟨cl,?_,h2,fun y hy=>h3 y ?_⟩
      . rw[List.forIn_cons]
        have hb:(k==NameKind.free)=false:=by simpa using hk
        show ((if (k==NameKind.free)=true then _ else _) >>= _)=_;rw[if_neg (by rw[hb];decide)];exact h1
      . rcases hy with hy | hy
        . rcases xad.mp hy with z | z
          . cases z;exact absurd rfl hk
          . exact .inl z
        . exact .inr hy
theorem jdE {env:Env} {scope:Scope} (hn:∀y∈scope.names,y.2=.free->∃c,env.cells.lookup y.1=some c) :
  ∃cl:List (Str × Addr),closureFor scope env=pure cl/\(∀y c,cl.lookup y=some c->env.cells.lookup y=some c)/\(∀y,(y,NameKind.free)∈scope.names->∃c,cl.lookup y=some c):=by
 obtain⟨cl,h1,h2,h3⟩:=jdD (env:=env) scope.names [] hn (fun y c q=>nomatch q);refine⟨cl,?_,h2,fun y hy=>h3 y (.inl hy)⟩;unfold closureFor;show (_ >>= fun cs=>pure cs)=_;have e:∀m:Sem (List (Str × Addr)),(m >>= fun cs=>pure cs)=m:=fun m=>bind_pure m;rw[e];exact h1
inductive Ixs (N:List Str) (sc cs:Scope):List Str->List Nat->Prop
 | nil:Ixs N sc cs [] []
 | cons {y r j q} (h1:N[j]?=some y) (h2:sc.names.lookup y=some .cell\/sc.names.lookup y=some .free) (h3:cs.names.lookup y=some .free) (t:Ixs N sc cs r q):Ixs N sc cs (y::r) (j::q)
structure CompScope (N:List Str) (sc:Scope) (N':List Str) (ix:List Nat) (x:Str) (r:List Str) (cs:Scope):Prop where
 eq:N'=x::r
 kind:cs.kind=.function
 hcell:∀y∈cs.names,y.2≠.cell
 hnames:∀y∈cs.names,y.2=.local->cs.names.lookup y.1=some .local
 hx:cs.names.lookup x=some .local
 nd:(x::r).Nodup
 fr:∀y∈cs.names,y.2=.free->sc.names.lookup y.1=some .cell\/sc.names.lookup y.1=some .free
 ixs:Ixs N sc cs r ix
def jaN (σ:St) (ix:List Nat):St:=ix.map fun j=>(σ[j]?).getD none
def jj2 (X:Cx) (N':List Str) (cs:Scope) (cl:List (Str × Addr)) (s3:Shared) (H3:Hp) (fp:List Addr):Cx :=
 { X with N:=N',s₀:=s3,H₀:=H3,env:=compEnvC cs cl s3.heap.objs.size X.env,outer:=X.stack,stack:=X.stack,ex:=fp,fn:=fun _=>false,pn:=[],xe:=fun _ _=>False }
theorem jdU {env:Env} {cs:Scope} (hcell:∀y∈cs.names,y.2≠.cell) {y:Str} {k:NameKind} (h:(relabel cs env).names.lookup y=some k) (hk:k=.cell\/k=.free):(y,NameKind.free)∈cs.names:=by
 have m:=PySem.mem_of_lookup h;obtain⟨⟨n,k0⟩,h1,h2⟩:=xaC.mp m;by_cases c:(k0==NameKind.free&&env.scope.kind==.function&&env.kindOf n==some .cell)=true
 ·have h2':(n,NameKind.cell)=(y,k):=by rw[<- h2];exact (if_pos c).symm
  cases h2';have:k0=.free:=by
   have z:=(xba.mp (xba.mp c).1).1;exact beq_iff_eq.mp z
  rw[this] at h1;exact h1
 ·have h2':(n,k0)=(y,k):=by rw[<- h2];exact (if_neg c).symm
  cases h2';rcases hk with rfl | rfl
  ·exact absurd rfl (hcell _ h1)
  ·exact h1
theorem jbh {env:Env}:∀{names:List (Str × NameKind)} {x:Str},names.lookup x=some .free ->
    (names.map fun (n,k)=>if (k==NameKind.free&&env.scope.kind==.function&&env.kindOf n==some .cell) then (n,NameKind.cell) else (n,k)).lookup x=some .cell \/
    (names.map fun (n,k)=>if (k==NameKind.free&&env.scope.kind==.function&&env.kindOf n==some .cell) then (n,NameKind.cell) else (n,k)).lookup x=some .free
  | [],_,h=>by simp at h
  | (n, k) :: r, x, h => by
    have ih:=@jbh env r x;rw[xaJ];show List.lookup x ((if (k==NameKind.free&&env.scope.kind==.function&&env.kindOf n==some .cell)=true then (n,NameKind.cell) else (n,k))::_)=_\/List.lookup x ((if (k==NameKind.free&&env.scope.kind==.function&&env.kindOf n==some .cell)=true then (n,NameKind.cell) else (n,k))::_)=_;cases hx:x==n with
    | true =>
      simp only[xaw,hx] at h;cases h;by_cases hc:(NameKind.free==NameKind.free&&env.scope.kind==.function&&env.kindOf n==some .cell)=true
      . rw[if_pos hc];exact .inl (by simp only[xaw,hx])
      . rw[if_neg hc];exact .inr (by simp only[xaw,hx])
    | false =>
      simp only[xaw,hx] at h;by_cases hc:(k==NameKind.free&&env.scope.kind==.function&&env.kindOf n==some .cell)=true
      . rw[if_pos hc];simp only[xaw,hx];exact ih h
      . rw[if_neg hc];simp only[xaw,hx];exact ih h
theorem Ixs.get {N:List Str} {sc cs:Scope}:∀{r:List Str} {ix:List Nat},Ixs N sc cs r ix->∀{i:Nat} {y:Str},r[i]?=some y ->
    ∃j,ix[i]?=some j/\N[j]?=some y/\(sc.names.lookup y=some .cell\/sc.names.lookup y=some .free)/\cs.names.lookup y=some .free
  | _,_,.nil,i,y,h=>by simp at h
  | _,_,.cons h1 h2 h3 t,0,y,h=>by simp at h;subst h;exact⟨_,rfl,h1,h2,h3⟩
  | _, _, .cons h1 h2 h3 t, i + 1, y, h => by
    obtain⟨j,a,b⟩:=Ixs.get t (i:=i) (y:=y) (by simpa using h);exact⟨j,by simpa using a,b⟩
theorem Ixs.len {N:List Str} {sc cs:Scope}:∀{r:List Str} {ix:List Nat},Ixs N sc cs r ix->r.length=ix.length
 | _,_,.nil=>rfl
 | _,_,.cons _ _ _ t=>by rw[xav,xav,t.len]
section
variable {X:Cx} {pins:List (Addr × Obj)} {σ:St} {H:Hp} {s:Shared}
theorem Inv.compOk {N' r:List Str} {ix:List Nat} {x:Str} {cs:Scope} {cl:List (Str × Addr)} {fp:List Addr} (I:Inv X pins σ H s) (S:CompScope X.N X.env.scope N' ix x r cs)
  (h2:∀y c,cl.lookup y=some c->X.env.cells.lookup y=some c) (h3:∀y,(y,NameKind.free)∈cs.names->∃c,cl.lookup y=some c) (hf:∀b∈fp,jgA X pins H b) (hfp:∀b∈fp,b<s.heap.objs.size) :
  (jj2 X N' cs cl s H fp).Ok where
 mod:=I.ok.mod
 kind:=S.kind
 glob:=I.ok.glob
 blt:=I.ok.blt
 above:=xaj _
 inj:=fun a b c ha hb=>I.ok.inj a b c (h2 a c ha) (h2 b c hb)
 has:=fun y hy=>h3 y (hy.elim (fun z=>jdU S.hcell z (.inl rfl)) fun z=>jdU S.hcell z (.inr rfl))
 cab:=fun _ _ z=>nomatch z
 hd:=I.ok.hd
 frames:=I.ok.frames
 stk:=.inl rfl
 exf:=fun b hb=>⟨xau (hfp b hb),fun y c e=>(hf b hb).2.2.2.2.1 y c (h2 y c e)⟩
 bs:=I.bs
 bsz:=xaA I.ok.bsz I.sz
 noex:=fun b o e hb=>by
  rcases (hf b hb).2.2.2.1 with z | z
  ·exact I.ok.noex b o e z
  ·exact absurd (xal (Heap.lt_size e) (xaA I.ok.bsz z)) (xaY _)
 exfs:=fun b hb hs=>by
  rcases xad.mp (I.stkSub b hs) with z | z
  ·exact (hf b hb).2.1 z
  ·exact (hf b hb).2.2.1 z
 funs:=I.stack
 frf:=I.stkFree
theorem jej {σ:St} {ix:List Nat} {i:Nat} {v:V} (h:(jaN σ ix)[i]?=some (some v)):∃j,ix[i]?=some j/\σ[j]?=some (some v):=by
  unfold jaN at h;rw[xai] at h;cases e:ix[i]? with
  | none=>rw[e] at h;cases h
  | some j =>
    rw[e] at h;refine⟨j,rfl,?_⟩;cases q:σ[j]? with
    | none =>
      have h':((σ[j]?).getD none)=some v:=by simpa using h
      rw[q] at h';cases h'
    | some o =>
      have h':((σ[j]?).getD none)=some v:=by simpa using h
      rw[q] at h';cases o with
      | none=>cases h'
      | some u=>cases h';rfl
theorem Inv.compStart {N' r:List Str} {ix:List Nat} {x:Str} {cs:Scope} {cl:List (Str × Addr)} {fp:List Addr} {h1:Heap} {tk:Nat} {m:Str->Option Value} (I:Inv X pins σ H s) (S:CompScope X.N X.env.scope N' ix x r cs)
    (h2:∀y c,cl.lookup y=some c->X.env.cells.lookup y=some c) (h3:∀y,(y,NameKind.free)∈cs.names->∃c,cl.lookup y=some c) (hf:∀b∈fp,jgA X pins H b) (hfp:∀b∈fp,b<s.heap.objs.size)
    (hn:h1.Ns s.heap.objs.size m) (hk:∀b o,s.heap.get? b=some o->h1.get? b=some o) :
    Inv (jj2 X N' cs cl s H fp) [] (none::jaN σ ix) H { s with heap:=h1,toks:=tk }:=by
  have ok:=I.compOk (N':=N') (fp:=fp) S h2 h3 hf hfp;obtain⟨mo,hno,hlo⟩:=id I.loc;refine⟨ok,rfl,I.bare,Un.kept hk,⟨m,hn,fun i y v e1 e2 e3=>?_⟩,fun y c e=>?_,I.hok.fresh (xaj _),fun y c e=>I.freeC y c (h2 y c e),fun p hp=>absurd (show p∈([]:List (Addr × Obj)) from hp) (by simp),I.hok.kept hk,?_⟩
  . cases i with
    | zero=>cases e2
    | succ i =>
      have e1':r[i]?=some y:=by
        have:N'[i+1]?=some y:=e1;rw[S.eq] at this;simpa using this
      obtain⟨j,j1,j2,j3,j4⟩:=S.ixs.get e1';obtain⟨j',k1,k2⟩:=jej (σ:=σ) (ix:=ix) (i:=i) (v:=v) (by simpa using e2);rw[j1] at k1;cases k1;obtain⟨u,ru,lk⟩:=hlo j y v j2 k2 (j3.elim (fun z=>.inr (.inl z)) fun z=>.inr (.inr z));refine⟨u,ru,?_⟩;obtain⟨c,hc⟩:=h3 y (PySem.mem_of_lookup j4);rcases lk with ⟨k,_⟩ | ⟨k,c',e',z⟩
      . have k':X.env.scope.names.lookup y=some .local:=k
        rcases j3 with q | q<;>(rw[q] at k';cases k')
      . rw[h2 y c hc] at e'
        cases e';refine .inr ⟨?_,c,hc,?_⟩
        . exact jbh (env:=X.env) j4
        . obtain⟨o,ho,hd⟩:=z
          exact⟨o,hk c o ho,hd⟩
  . obtain⟨v,o,ho,hd⟩:=I.cell y c (h2 y c e)
    exact⟨v,o,hk c o ho,hd⟩
  . show (none::jaN σ ix).length=N'.length
    rw[S.eq,xav,xav,S.ixs.len];unfold jaN;rw[xaa]
def PTs (X:Cx) (ifs:List Expr) (t:TT):Prop :=
  ∀ (E : Value -> Shared -> Prop) (pins : List (Addr × Obj)) (s : Shared) (σ : St) (H : Hp) (Q : Bool -> Hp -> Prop), (∀ e s', X.xe e s' -> E e s') -> Inv X pins σ H s -> t σ H Q ->
    wpAny (model X.prog X.w) X.A (forIn ifs true fun c r=>if r=true then do let ok <- isTrue c X.env (eval c X.env);pure (ForInStep.yield ok) else pure (ForInStep.yield r)) (TP X pins σ Q) E s
def jbR:TT:=fun _ H Q=>Q true H
theorem ja2 {X:Cx}:PTs X [] jbR:=fun _ _ _ _ H _ _ I h=>wpAny_tests_nil ⟨H,I,h⟩
theorem jkU {X:Cx} {c:Expr} {t:TT} (h:PT X c t):PTs X [c] t:=fun _ pins s σ H Q hE I q=>wpAny_tests_one (wpAny_mono (h pins s σ H Q I q) (fun _ _ z=>z) hE)
def CompGo (J:It) (ρ:St) (g:TG) (tt:TT) (te:TE) (acc:Addr) (Z:Hp->Prop) (H1:Hp):Prop :=
  ∃ W : Nat -> Nat -> List V -> Hp -> Prop, (∃ m, W 0 m [] (upd H1 acc (.lst []))) /\ ∀ i m xs H, W i m xs H ->
    ((J.stop i H /\ Z H) \/ (J.go i H /\ ∃ (Nx : V -> Hp -> Prop) (Nn : Hp -> Prop), (∀ y H4, Nx y H4 -> H4 acc = some (.lst xs) /\ xs.length < sizeLine /\ ∃ m', m' < m /\ W (i + 1) m' (xs ++ [y]) (upd H4 acc (.lst (xs ++ [y])))) /\
      (∀H3,Nn H3->∃m',m'<m/\W (i+1) m' xs H3)/\∀v0 x H',J.yld i H x H'->g x (v0::ρ) H' fun σ2 H2=>(∃v,σ2=v::ρ)/\tt σ2 H2 fun b H3=>if b=true then te σ2 H3 Nx else Nn H3))
end
section
variable {X:Cx} {N' r:List Str} {ix:List Nat} {x:Str} {cs:Scope} {tg iter elt:Expr} {ifs:List Expr} {pos:Pos} {wi:TI} {g:TG} {tt:TT} {te:TE}
def jfS (wi:TI) (ix:List Nat) (g:TG) (tt:TT) (te:TE):TE:=fun σ H Q=>wi σ H fun J H1=>∀acc,H1 acc=none->CompGo J (jaN σ ix) g tt te acc (fun H'=>Q (.ref acc) H') H1
theorem CompScope.clos {sc:Scope} {N:List Str} (S:CompScope N sc N' ix x r cs) {env:Env} (he:env.scope=sc) (has:∀y,(env.kindOf y=some .cell\/env.kindOf y=some .free)->∃c,env.cells.lookup y=some c) :
  ∃cl:List (Str × Addr),closureFor cs env=pure cl/\(∀y c,cl.lookup y=some c->env.cells.lookup y=some c)/\(∀y,(y,NameKind.free)∈cs.names->∃c,cl.lookup y=some c) :=
 jdE fun y hy hk=>has y.1 (by
  subst he;exact S.fr y hy hk)
end
section
variable {ρ:St} {g:TG} {tt:TT} {te:TE} {acc:Addr} {Z:Hp->Prop} {H1:Hp}
theorem jdF {lo:Int} {n:Nat} (Pv:Nat->List V->Hp->Prop) (h0:Pv 0 [] (upd H1 acc (.lst [])))
  (hs:∀i xs H,i<n->Pv i xs H->te (some (.int (lo+i))::ρ) H fun y H4=>H4 acc=some (.lst xs)/\xs.length<sizeLine/\Pv (i+1) (xs++[y]) (upd H4 acc (.lst (xs++[y]))))
  (hd:∀xs H,Pv n xs H->Z H):CompGo (Itr lo n) ρ (jbw 0) jbR te acc Z H1:=by
 refine⟨fun i m xs H=>Pv i xs H/\i<=n/\m=n-i,⟨n,h0,xaT _,rfl⟩,?_⟩;rintro i m xs H ⟨hp,hi,rfl⟩;by_cases hlt:i<n
 ·refine .inr ⟨hlt,(fun y H4=>H4 acc=some (.lst xs)/\xs.length<sizeLine/\Pv (i+1) (xs++[y]) (upd H4 acc (.lst (xs++[y])))),fun _=>False,fun y H4 q=>⟨q.1,q.2.1,n-(i+1),by omega,q.2.2,hlt,rfl⟩,fun _ z=>z.elim,?_⟩;rintro v0 x H' ⟨rfl,rfl⟩;exact⟨⟨_,rfl⟩,by simp only[jbR,if_true];exact hs i xs H' hlt hp⟩
 ·have:i=n:=by omega
  subst this;exact .inl ⟨xaj _,hd xs H hp⟩
theorem jgI {K:PySem.W.Frag} {a:Addr} {zs:List V} (Pv:Nat->List V->Hp->Prop) (h0:Pv 0 [] (upd H1 acc (.lst []))) (hl:∀i xs H,i<=zs.length->Pv i xs H->SqT K H a zs)
  (hs:∀i z xs H,zs[i]?=some z->Pv i xs H->te (some z::ρ) H fun y H4=>H4 acc=some (.lst xs)/\xs.length<sizeLine/\Pv (i+1) (xs++[y]) (upd H4 acc (.lst (xs++[y]))))
  (hd:∀xs H,Pv zs.length xs H->Z H):CompGo (Itt K a) ρ (jbw 0) jbR te acc Z H1:=by
 refine⟨fun i m xs H=>Pv i xs H/\i<=zs.length/\m=zs.length-i,⟨zs.length,h0,xaT _,rfl⟩,?_⟩;rintro i m xs H ⟨hp,hi,rfl⟩;have sq:=hl i xs H hi hp;by_cases hlt:i<zs.length
 ·refine .inr ⟨⟨zs,zs[i],sq,xab hlt⟩,(fun y H4=>H4 acc=some (.lst xs)/\xs.length<sizeLine/\Pv (i+1) (xs++[y]) (upd H4 acc (.lst (xs++[y])))),fun _=>False,fun y H4 q=>⟨q.1,q.2.1,zs.length-(i+1),by omega,q.2.2,hlt,rfl⟩,fun _ z=>z.elim,?_⟩;rintro v0 x H' ⟨rfl,hx⟩;exact⟨⟨_,rfl⟩,by simp only[jbR,if_true];exact hs i x xs H' (hx zs sq) hp⟩
 ·have:i=zs.length:=by omega
  subst this;exact .inl ⟨⟨zs,sq,xaj _⟩,hd xs H hp⟩
theorem jh7 {K:PySem.W.Frag} {a:Addr} {zs:List V} (Pv:Nat->List V->Hp->Prop) (h0:Pv 0 [] (upd H1 acc (.lst []))) (hl:∀i xs H,i<=zs.length->Pv i xs H->SqL K H a zs)
  (hs:∀i z xs H,zs[i]?=some z->Pv i xs H->te (some z::ρ) H fun y H4=>H4 acc=some (.lst xs)/\xs.length<sizeLine/\Pv (i+1) (xs++[y]) (upd H4 acc (.lst (xs++[y]))))
  (hd:∀xs H,Pv zs.length xs H->Z H):CompGo (Itl K a) ρ (jbw 0) jbR te acc Z H1:=by
 refine⟨fun i m xs H=>Pv i xs H/\i<=zs.length/\m=zs.length-i,⟨zs.length,h0,xaT _,rfl⟩,?_⟩;rintro i m xs H ⟨hp,hi,rfl⟩;have sq:=hl i xs H hi hp;by_cases hlt:i<zs.length
 ·refine .inr ⟨⟨zs,zs[i],sq,xab hlt⟩,(fun y H4=>H4 acc=some (.lst xs)/\xs.length<sizeLine/\Pv (i+1) (xs++[y]) (upd H4 acc (.lst (xs++[y])))),fun _=>False,fun y H4 q=>⟨q.1,q.2.1,zs.length-(i+1),by omega,q.2.2,hlt,rfl⟩,fun _ z=>z.elim,?_⟩;rintro v0 x H' ⟨rfl,hx⟩;exact⟨⟨_,rfl⟩,by simp only[jbR,if_true];exact hs i x xs H' (hx zs sq) hp⟩
 ·have:i=zs.length:=by omega
  subst this;exact .inl ⟨⟨zs,sq,xaj _⟩,hd xs H hp⟩
end
end L2
namespace L2
open PySem PySem.Spec PyProof.Rows
section
variable {X:Cx}
theorem jdG {k:Int} {n:Nat} (h:k.natAbs<2^n):Builtin.Int.intBits k<=n:=by
 unfold Builtin.Int.intBits;split
 ·exact xaT _
 ·rename_i h0
  have hk:k.natAbs≠0:=by
   intro z;apply h0;have:k=0:=Int.natAbs_eq_zero.mp z;subst this;rfl
  have:k.natAbs.log2<n:=(Nat.log2_lt hk).mpr h;omega
def Fit (i:Int):Prop:=i.natAbs<2^8000
theorem Fit.mul {i j:Int} (hi:Fit i) (hj:Fit j):IntMulOk i j:=by
 have h1:=jdG hi;have h2:=jdG hj;unfold IntMulOk;intro h;have h3:=(xba.mp h).2;unfold Builtin.Int.intTooBig at h3;have h4:=of_decide_eq_true h3;have h5:(bitsLine:Int)=134217728:=by decide
 omega
theorem jay:OpR X (binaryOp .Mult) (rI (fun i j=>Fit i/\Fit j) fun i j=>.int (i*j)):=opI fun _ _ _ _ _ _ _ hc q=>mul_int q (hc.1.mul hc.2)
theorem Fit.log {i:Int} (h:Fit i):i.natAbs.log2<9000:=by
 by_cases h0:i.natAbs=0
 ·rw[h0];decide +kernel
 ·have:=(Nat.log2_lt h0).mpr h;omega
theorem jax:OpR X (binaryOp .FloorDiv) (rI (fun _ j=>0<j/\Fit j) fun i j=>.int (i / j)):=opI fun i j _ _ _ _ _ hc q=>by
 have h1:(0:Int)<j:=hc.1;exact floordiv_int (by omega) (by rw[Int.fdiv_eq_ediv_of_nonneg i (by omega)];exact q) (.inl (PyProof.noPylong_of_log2 hc.2.log))
theorem Fit.of {i:Int} {n:Nat} (h:i.natAbs<2^n) (hn:n<=8000:=by decide):Fit i:=xal h (xbE (by decide) hn)
theorem jbi:jc8 X (.builtin "isinstance") (fun xs H Q=>∃x c t b,xs=[x,.ty c]/\TyOf X.K H x t/\PySem.W.kitOne X.K t (.type c)=some b/\Q (.bl b) H):=by
 intro pins s σ H xs us Q I r h;obtain⟨x,c,t,b,rfl,ty,e,q⟩:=h;obtain⟨u,w',rfl,r1,r2⟩:=jhT r;cases r2;exact jhW I r1 ty e fun tk=>⟨.bl b,H,I.tok tk,rfl,q⟩
mutual
inductive Rds (K:PySem.W.Frag) (H:Hp):V->PyData->Prop
 | non:Rds K H .non .none
 | bl (b:Bool):Rds K H (.bl b) (.bool b)
 | int (i:Int):Rds K H (.int i) (.int i)
 | str (x:Str):Rds K H (.str x) (.str x)
 | lst {a:Addr} {xs:List V} {ds:List PyData} (h:SqL K H a xs) (t:RdsAll K H xs ds):Rds K H (.ref a) (.list ds)
 | tup {a:Addr} {xs:List V} {ds:List PyData} (h:SqT K H a xs) (t:RdsAll K H xs ds):Rds K H (.ref a) (.tuple ds)
inductive RdsAll (K:PySem.W.Frag) (H:Hp):List V->List PyData->Prop
 | nil:RdsAll K H [] []
 | cons {v:V} {vs:List V} {d:PyData} {ds:List PyData} (h:Rds K H v d) (t:RdsAll K H vs ds):RdsAll K H (v::vs) (d::ds)
end
mutual
theorem Rds.reads {pins:List (Addr × Obj)} {σ:St} {H:Hp} {s:Shared} (I:Inv X pins σ H s):∀{x:V} {d:PyData} {u:Value},Rds X.K H x d->RelV x u->∃as,Reads s.heap u d as
  | _,_,_,.non,r=>by cases r;exact⟨_,.none⟩
  | _,_,_,.bl b,r=>by cases r;exact⟨_,.bool b⟩
  | _,_,_,.int i,r=>by obtain⟨t,rfl⟩:=r;exact⟨_,.int i t⟩
  | _,_,_,.str x,r=>by obtain⟨t,rfl⟩:=r;exact⟨_,.str x t⟩
  | _, _, _, .lst h t, r => by
    cases r;obtain⟨its,rv,pl,_⟩:=I.list h;obtain⟨o,ho,hc,n,hd⟩:=pl.isList;obtain⟨as,q⟩:=RdsAll.reads I t rv;exact⟨_,.list ho hc hd q⟩
  | _, _, _, .tup h t, r => by
    cases r;obtain⟨its,rv,pl,_⟩:=I.tuple h;obtain⟨o,ho,hc,n,hd⟩:=pl;obtain⟨as,q⟩:=RdsAll.reads I t rv;exact⟨_,.tuple ho hc hd q⟩
theorem RdsAll.reads {pins:List (Addr × Obj)} {σ:St} {H:Hp} {s:Shared} (I:Inv X pins σ H s):∀{xs:List V} {ds:List PyData} {us:List Value},RdsAll X.K H xs ds->Vals xs us->∃as,ReadsAll s.heap us ds as
  | _,_,_,.nil,r=>by cases r;exact⟨_,.nil⟩
  | _, _, _, .cons h t, r => by
    cases r with
    | cons r1 r2 =>
      obtain⟨as,q1⟩:=Rds.reads I h r1;obtain⟨bs,q2⟩:=RdsAll.reads I t r2;exact⟨_,.cons q1 q2⟩
end
theorem RdsAll.ints {K:PySem.W.Frag} {H:Hp}:∀ns:List Int,RdsAll K H (ns.map V.int) (ns.map PyData.int)
 | []=>.nil
 | n::r=>.cons (.int n) (RdsAll.ints r)
def rEqD (K:PySem.W.Frag) (neg:Bool):R2:=fun x y H Q=>∃dx dy,Rds K H x dx/\Rds K H y dy/\SeqAt.shaped dx=true/\SeqAt.shaped dy=true/\Q (.bl (if neg then !PyData.eqv dx dy else PyData.eqv dx dy)) H
theorem jj3 (hu:X.A.units+64<cLine):OpR X (compareOp .Eq) (rEqD X.K false):=by
 intro pins s σ H x y v u Q I rx ry ⟨dx,dy,hx,hy,sx,sy,q⟩;obtain⟨as,ra⟩:=hx.reads I rx;obtain⟨bs,rb⟩:=hy.reads I ry;exact eq_dataH ra rb sx sy hu ⟨.bl _,H,I,rfl,q⟩
theorem jdV (hu:X.A.units+64<cLine):OpR X (compareOp .NotEq) (rEqD X.K true):=by
 intro pins s σ H x y v u Q I rx ry ⟨dx,dy,hx,hy,sx,sy,q⟩;obtain⟨as,ra⟩:=hx.reads I rx;obtain⟨bs,rb⟩:=hy.reads I ry;exact ne_dataH ra rb sx sy hu ⟨.bl _,H,I,rfl,q⟩
theorem jeQ (hc:X.calm=true):jc8 X (.builtin "all") (fun xs H Q=>∃(a:Addr) (bs:List Bool),xs=[.ref a]/\SqL X.K H a (bs.map V.bl)/\Q (.bl (bs.all id)) H):=by
  intro pins s σ H xs us Q I r h;obtain⟨a,bs,rfl,hq,q⟩:=h;obtain⟨u,rfl,rx⟩:=jfc r;cases rx;obtain⟨its,rv,pl,hz⟩:=I.list hq;have hl:=pl.isList;have hlt:a<s.heap.objs.size:=by obtain⟨_,e,_⟩:=hl;exact Heap.lt_size e
  refine call_all_walk (wpAny_pyIter_list hl ?_);refine⟨_,[s.heap.objs.size,a],[s.heap.objs.size],_,_,_,fun i=>(bs[i]?).getD true,rfl,Walks.list (A:=X.A.in1) (I.ok.hd hc) _ a (xau hlt) its.toArray,⟨⟨_,Heap.get?_push_size _ rfl,rfl,rfl⟩,hl.push _⟩,?_,?_⟩
  . intro i v s' Q' E' hP hQ
    have hP':its[i]?=some v:=by simpa using hP
    have hb:∃b,bs[i]?=some b/\v=Value.bool b:=by
      cases e:bs[i]? with
      | none =>
        have l1:its.length=(bs.map V.bl).length:=rv.length.symm;rw[xaa] at l1;have l2:=xbj.mp e;have l3:=(xan.mp hP').1;omega
      | some b =>
        obtain⟨u,e1,e2⟩:=rv.get (i:=i) (x:=V.bl b) (by rw[xai,e];rfl);rw[e1] at hP';cases hP';exact⟨b,rfl,e2⟩
    obtain⟨b,eb,rfl⟩:=hb;have hQ2:Q' ((bs[i]?).getD true) s':=hQ;rw[eb] at hQ2;exact wpAny_truthy_bool hQ2
  . intro h' tk hk
    have kp:∀b o,s.heap.get? b=some o->h'.get? b=some o:=fun b o e=>hk b o (fun hm=>by
      rcases xad.mp hm with e1 | hm
      . exact absurd (e1▸Heap.lt_size e) (xaY _)
      . cases hm) (Heap.get?_push_of_some _ e)
    refine⟨.bl _,H,I.kept kp,rfl,?_⟩;have l1:its.length=bs.length:=by rw[<- rv.length,xaa]
    have ea:(List.range its.toArray.size).all (fun i=>(bs[i]?).getD true)=bs.all id:=by
      rw[xag,l1,xbo,xaS,xaS];constructor
      . intro h b hb
        obtain⟨i,hi,e⟩:=List.mem_iff_getElem.mp hb;have z:=h i (xaX.mpr hi);rw[xab hi,e] at z;exact z
      . intro h i hi
        have hi':=xaX.mp hi;rw[xab hi'];exact h _ (xbb hi')
    rw[ea];exact q
end
end L2
namespace L2
open PySem PySem.Spec PyProof.Rows
def Keep {α:Type} (Z:Heap->Prop):Sem α->Prop
 | .pure _=>True
 | .raise _=>True
 | .unsupported _=>True
 | .finish _=>True
 | .rule _ k=>Keep Z (k ())
 | .at _ k=>Keep Z (k ())
 | .load _ _ k=>∀o,Keep Z (k o)
 | .update a _ f k=>(∀h,Z h->Z (h.update a f))/\Keep Z (k ())
 | .alloc o k=>(∀h,Z h->Z (h.push o))/\∀a,Keep Z (k a)
 | .loadIfAlive _ k=>∀o,Keep Z (k o)
 | .point _ k=>Keep Z (k ())
 | .register _ _=>True
 | .fresh k=>∀t,Keep Z (k t)
 | .ask k=>∀x,Keep Z (k x)
 | .choose _ _ k=>∀n,Keep Z (k n)
 | .os _ _ k=>∀r,Keep Z (k r)
 | .call ..=>False
 | .handled _ k=>∀x,Keep Z (k x)
 | .newGen _ k=>∀n,Keep Z (k n)
 | .genState _ k=>∀x,Keep Z (k x)
 | .resume ..=>False
 | .yield ..=>True
 | .stack k=>∀l,Keep Z (k l)
 | .fork ..=>True
 | .thread k=>∀n,Keep Z (k n)
 | .await ..=>True
theorem Keep.bind {α β:Type} {Z:Heap->Prop} {t:Sem α} {g:α->Sem β} (h:Keep Z t) (k:∀a,Keep Z (g a)):Keep Z (t >>= g):=by
 show Keep Z (Sem.bind t g);induction t with
 | pure a=>exact k a
 | raise _=>trivial
 | unsupported _=>trivial
 | finish _=>trivial
 | rule _ _ ih=>exact ih () h
 | «at» _ _ ih=>exact ih () h
 | load _ _ _ ih=>exact fun o=>ih o (h o)
 | update _ _ _ _ ih=>exact⟨h.1,ih () h.2⟩
 | alloc _ _ ih=>exact⟨h.1,fun a=>ih a (h.2 a)⟩
 | loadIfAlive _ _ ih=>exact fun o=>ih o (h o)
 | point _ _ ih=>exact ih () h
 | register _ _ _=>trivial
 | fresh _ ih=>exact fun o=>ih o (h o)
 | ask _ ih=>exact fun o=>ih o (h o)
 | choose _ _ _ ih=>exact fun o=>ih o (h o)
 | os _ _ _ ih=>exact fun o=>ih o (h o)
 | call _ _ _ _ _ _=>exact h.elim
 | handled _ _ ih=>exact fun o=>ih o (h o)
 | newGen _ _ ih=>exact fun o=>ih o (h o)
 | genState _ _ ih=>exact fun o=>ih o (h o)
 | resume _ _ _ _ _=>exact h.elim
 | yield _ _ _ _ _=>trivial
 | stack _ ih=>exact fun o=>ih o (h o)
 | fork _ _ _=>trivial
 | thread _ ih=>exact fun o=>ih o (h o)
 | await _ _ _ _ _ _=>trivial
theorem Keep.wp {α:Type} {Z:Heap->Prop} {M:Model} {Γ:PySem.Ctx} {t:Sem α} (h:Keep Z t):∀{Q:α->Pos->Shared->Prop} {E:Value->Pos->Shared->Prop} {p:Pos} {s:Shared},Z s.heap->Sem.wp M Γ t Q E p s ->
  Sem.wp M Γ t (fun a p s'=>Q a p s'/\Z s'.heap) (fun e p s'=>E e p s'/\Z s'.heap) p s:=by
 induction t with
 | pure a=>intro Q E p s z q;rw[Sem.wp] at q |-;exact⟨q,z⟩
 | raise e=>intro Q E p s z q;rw[Sem.wp] at q |-;exact⟨q,z⟩
 | unsupported _=>intro Q E p s z q;rw[Sem.wp] at q;exact q.elim
 | finish _=>intro Q E p s z q;rw[Sem.wp] at q;exact q.elim
 | rule _ _ ih=>intro Q E p s z q;rw[Sem.wp] at q |-;exact ih () h z q
 | «at» _ _ ih=>intro Q E p s z q;rw[Sem.wp] at q |-;exact ih () h z q
 | load _ _ _ ih=>intro Q E p s z q;rw[Sem.wp] at q |-;obtain⟨o,ho,q⟩:=q;exact⟨o,ho,ih o (h o) z q⟩
 | update _ _ _ _ ih=>intro Q E p s z q;rw[Sem.wp] at q |-;exact⟨q.1,ih () h.2 (h.1 _ z) q.2⟩
 | alloc _ _ ih=>intro Q E p s z q;rw[Sem.wp] at q |-;exact ih _ (h.2 _) (h.1 _ z) q
 | loadIfAlive _ _ ih=>intro Q E p s z q;rw[Sem.wp] at q |-;exact ih _ (h _) z q
 | point _ _ ih=>intro Q E p s z q;rw[Sem.wp] at q |-;exact ih () h z q
 | register _ _ _=>intro Q E p s z q;rw[Sem.wp] at q;exact q.elim
 | fresh _ ih=>intro Q E p s z q;rw[Sem.wp] at q |-;exact ih _ (h _) z q
 | ask _ ih=>intro Q E p s z q;rw[Sem.wp] at q |-;exact ih _ (h _) z q
 | choose _ _ _ ih=>intro Q E p s z q;rw[Sem.wp] at q |-;exact⟨q.1,ih _ (h _) z q.2⟩
 | os _ _ _ ih=>intro Q E p s z q;rw[Sem.wp] at q |-;exact ih _ (h _) z q
 | call _ _ _ _ _ _=>exact h.elim
 | handled _ _ ih=>intro Q E p s z q;rw[Sem.wp] at q |-;exact ih _ (h _) z q
 | newGen _ _ ih=>intro Q E p s z q;rw[Sem.wp] at q |-;exact ih _ (h _) z q
 | genState _ _ ih=>intro Q E p s z q;rw[Sem.wp] at q |-;obtain⟨o,ho,q⟩:=q;exact⟨o,ho,ih _ (h _) z q⟩
 | resume _ _ _ _ _=>exact h.elim
 | yield _ _ _ _ _=>intro Q E p s z q;rw[Sem.wp] at q;exact q.elim
 | stack _ ih=>intro Q E p s z q;rw[Sem.wp] at q |-;exact ih _ (h _) z q
 | fork _ _ _=>intro Q E p s z q;rw[Sem.wp] at q;exact q.elim
 | thread _ ih=>intro Q E p s z q;rw[Sem.wp] at q |-;exact ih _ (h _) z q
 | await _ _ _ _ _ _=>intro Q E p s z q;rw[Sem.wp] at q;exact q.elim
theorem Keep.any {α:Type} {Z:Heap->Prop} {M:Model} {A:Around} {t:Sem α} {Q:α->Shared->Prop} {E:Value->Shared->Prop} {s:Shared} (h:Keep Z t) (z:Z s.heap) (q:wpAny M A t Q E s) :
  wpAny M A t (fun a s'=>Q a s'/\Z s'.heap) (fun e s'=>E e s'/\Z s'.heap) s:=fun Γ p hΓ=>h.wp z (q Γ p hΓ)
def DictAt (e dx:Addr) (h:Heap):Prop:=∃o,h.get? e=some o/\o.dict=some dx
theorem DictAt.push {e dx:Addr} {h:Heap} {o:Obj} (z:DictAt e dx h):DictAt e dx (h.push o):=by
 obtain⟨x,h1,h2⟩:=z;exact⟨x,Heap.get?_push_of_some _ h1,h2⟩
theorem DictAt.update {e dx a:Addr} {h:Heap} {f:Obj->Obj} (hd:∀o,(f o).dict=o.dict) (hf:∀o,o.isFreed=false->(f o).isFreed=false) (z:DictAt e dx h):DictAt e dx (h.update a f):=by
 obtain⟨x,h1,h2⟩:=z;by_cases c:a=e
 ·subst c;exact⟨f x,Heap.get?_update_self f h1 (hf x (Heap.get?_some_iff.mp h1).2),(hd x).trans h2⟩
 ·exact⟨x,(Heap.get?_update_other _ _ c).trans h1,h2⟩
theorem jh8 (g:Array Value->Array Value) (o:Obj):(Obj.mapFields g o).dict=o.dict:=by
 obtain⟨c,d,dt,sl⟩:=o;cases dt<;>rfl
theorem jh9 (g:Array Value->Array Value) (o:Obj) (h:o.isFreed=false):(Obj.mapFields g o).isFreed=false:=by
 obtain⟨c,d,dt,sl⟩:=o;cases dt<;>first | rfl | exact h
section
variable {e dx:Addr}
theorem jgk (v:Value):Keep (DictAt e dx) (fieldsOf v):=by
  unfold fieldsOf;cases v with
  | ref a =>
    refine fun o=>?_;show Keep _ (match o.data with | .fields vs=>_ | _=>_);cases o.data<;>trivial
  | _=>trivial
theorem jcR (v:Value) (i:Nat):Keep (DictAt e dx) (field v i):=by
 refine Keep.bind (jgk v) fun vs=>?_;cases vs[i]?<;>trivial
theorem jb6 (v:Value) (i:Nat) (x:Value):Keep (DictAt e dx) (setField v i x):=by
  unfold setField;cases v with
  | ref a =>
    refine fun o=>?_;show Keep _ (match o.data with | .fields vs=>_ | _=>_);cases o.data with
    | fields vs =>
      show Keep _ (if i<vs.size then _ else _);split
      . exact⟨fun h z=>z.update (jh8 _) (jh9 _),trivial⟩
      . trivial
    | _=>trivial
  | _=>trivial
theorem jgl (v:Value) (f:Option Addr):Keep (DictAt e dx) (setFlight v f):=by
 refine Keep.bind (jcR v 1) fun tb=>?_;split
 ·exact jb6 _ _ _
 ·trivial
theorem jeR (T:String) (vs:List Value):Keep (DictAt e dx) (newFields T vs):=by
 unfold newFields newObj;have k:Keep (DictAt e dx) (newObjAsIs (.type T) (.fields vs.toArray)):=⟨fun h z=>z.push,fun a=>trivial⟩;show Keep (DictAt e dx) (if vs.toArray.size>sizeLine+2 then _ else newObjAsIs (.type T) (.fields vs.toArray));split
 ·trivial
 ·exact k
theorem jia (env:Env) (b:Bool) (l:List Env):Keep (DictAt e dx) (keptBack env b l):=by
  cases l with
  | nil =>
    show Keep (DictAt e dx) (if (env.scope.isGenerator||env.scope.isCoroutine)=true then _ else _);split
    . trivial
    . refine Keep.bind (t:=underTheClaimsCaller) ?_ fun c=>trivial
      exact fun l=>trivial
  | cons x r=>trivial
theorem jgm (env:Env) (l:List Env):Keep (DictAt e dx) (behindIsImport env l):=by
 unfold behindIsImport;split
 ·trivial
 ·split
  ·trivial
  ·exact Keep.bind (jcR _ _) fun _=>trivial
theorem jeZ:∀l:List Env,Keep (DictAt e dx) (readyFrames l)
  | []=>trivial
  | env :: outer => by
    unfold readyFrames;cases env.frame with
    | none=>trivial
    | some f =>
      refine fun o=>?_;show Keep (DictAt e dx) (if (o.slots.getD 3 none).isSome=true then _ else _);split
      . trivial
      . refine Keep.bind (jgm _ _) fun b=>Keep.bind (jia _ _ _) fun c=>⟨fun h z=>z.update (fun o=>rfl) (fun o ho=>?_),jeZ outer⟩
        obtain⟨c',d',dt,sl⟩:=o;cases dt<;>first | rfl | exact ho
theorem jfT (env:Env):Keep (DictAt e dx) (PySem.frameOf env):=by
 unfold PySem.frameOf;refine Keep.bind (fun l=>trivial) fun l=>Keep.bind ?_ fun x=>?_
 ·unfold frameObject;cases l.dropWhile (·.frame != env.frame) with
  | nil=>trivial
  | cons x r=>exact Keep.bind (jeZ _) fun _=>trivial
 ·cases x<;>trivial
theorem jhv (f:Addr) (b:Bool):Keep (DictAt e dx) (entryPlaceOf f b):=by
 refine fun acts=>?_;show Keep _ (match acts.find? _ with | some (_,pos)=>_ | none=>_);split<;>trivial
theorem jib (v:Value) (env:Env):Keep (DictAt e dx) (noteFrame v env):=by
  unfold noteFrame;cases env.frame with
  | none=>trivial
  | some f =>
    refine Keep.bind (jcR v 1) fun head=>?_;have last:Keep (DictAt e dx) (do setField v 1 (<- EntryCells.newEntry head (<- PySem.frameOf env) .none (rawInt f) .none (<- entryPlaceOf f (head != .none)))) :=
      Keep.bind (jfT env) fun a=>Keep.bind (jhv _ _) fun pl=>Keep.bind (jeR _ _) fun b=>jb6 _ _ _
    show Keep (DictAt e dx) (if (head != Value.none)=true then _ else _);split
    . refine Keep.bind (jcR _ _) fun x=>?_
      split
      . trivial
      . exact Keep.bind (jb6 _ _ _) fun _=>last
    . exact last
theorem jfU (env:Env) (v:Value):Keep (DictAt e dx) (leaving env v):=Keep.bind (jib v env) fun _=>jgl v none
end
def XOk (P:Program) (w:World):CXT:=fun outer H s E e s'=>∃(ea C:Addr) (a0:Value) (H':Hp) (B:Heap) (pd:Option Addr),e=.ref ea/\Heap.FlyingW B outer ea (.ref C) a0 s'.heap/\s'.os=s.os/\AllBare s'.gens /\
 Un (frs outer) [] H H' s.heap s'.heap/\HOk P w H' B/\(∀b o,s.heap.get? b=some o->H b=none->b∉frs outer->B.get? b=some o)/\(∀b o,s.heap.get? b=some o->b∉frs outer->∃o',B.get? b=some o')/\(∀dx,pd=some dx->DictAt ea dx s'.heap)/\E (.ref C) pd H'
structure Top1 (X:Cx):Prop where
 stk:X.stack=X.env::X.outer
 frm:X.env.frame=some X.env.locals
 ex:X.ex=[]
section
variable {X:Cx} {pins:List (Addr × Obj)} {σ:St} {H:Hp} {s:Shared}
theorem Top1.mem (T:Top1 X) {b:Addr}:b∈frs X.stack↔b=X.env.locals\/b∈X.fs:=by
 rw[T.stk];unfold frs;rw[xbk,T.frm];exact xad
theorem Inv.hokB (I:Inv X pins σ H s):HOk X.prog X.w H (PySem.W.hideAll s.heap (frs X.stack)):=fun a o e =>
 (I.hok a o e).stay (fun b u hb q=>PySem.W.hideAll_get _ q fun hm=>by
  have z:=I.stkFree b hm;rcases hb with rfl | hb
  ·rw[z] at e;cases e
  ·rw[z] at hb;cases hb) (fun _ q=>q) fun _ _ q=>q
theorem jic {E:XK} {E':Value->Shared->Prop} {h2:Heap} {ea C:Addr} {vs:List Value} (T:Top1 X) (I:Inv X pins σ H s) (hx:Heap.MadeExcOf s.heap h2 ea (.ref C) vs) (q:E (.ref C) none H) :
  wpAny (model X.prog X.w) X.A (leaving X.env (.ref ea)) (fun _ s''=>XOk X.prog X.w X.outer X.H₀ X.s₀ E (.ref ea) s'') E' { s with heap:=h2 }:=by
 have hfr:X.A.frames=some (X.env::X.outer):=by rw[<- T.stk];exact I.ok.frames
 have hst:=I.stack;have hin:∀env∈X.stack,∀b,env.frame=some b->b∈frs X.stack:=fun env he b hb=>xbM.mpr ⟨env,he,hb⟩;have hB:=PySem.W.funFrames_hide hst hin;rw[T.stk] at hB;have out:∀b o,X.s₀.heap.get? b=some o->b∉X.fs->b∉frs X.stack:=fun b o e hb hm=>by
  rcases T.mem.mp hm with z | z
  ·exact absurd (xal (Heap.lt_size e) I.ok.above) (by rw[z];exact xaY _)
  ·exact hb z
 have nx:∀b:Addr,b∉X.ex:=fun b z=>by rw[T.ex] at z;cases z
 have toB:∀b o,s.heap.get? b=some o->b∉frs X.stack->(PySem.W.hideAll s.heap (frs X.stack)).get? b=some o:=fun b o e hb=>PySem.W.hideAll_get _ e hb;refine wpAny_leaves_madeW (base:=PySem.W.hideAll s.heap (frs X.stack)) hfr T.frm (fun b o q=>PySem.W.of_hideAll _ q) (by rw[T.stk];exact hB) hx fun h' t x1 _ _ x4=>?_;have slot:∀b,b∈frs X.stack->∀o,s.heap.get? b=some o->∃sl,h'.get? b=some { o with slots:=sl }:=fun b hb o e=>by
  obtain⟨_,o2,e2,nf⟩:=hst.mem hb;rw[e] at e2;cases e2;exact x4 b o (hx.keeps b o e) nf
 refine⟨ea,C,_,H,_,none,rfl,x1,I.os,I.bare,⟨fun b o e n hb _=>?_,fun b o e n hb _=>?_,fun b o e n _=>I.base.free b o e n (nx b),fun b o e _=>?_,I.base.tups,I.base.frzs,I.base.tbls⟩,I.hokB,fun b o e n hb=>?_,fun b o e hb=>?_,(fun _ z=>nomatch z),q⟩
 ·exact x1.1 b o (toB b o (I.base.keep b o e n hb (nx b)) (out b o e hb))
 ·obtain⟨sl,e1⟩:=I.base.slot b o e n hb (nx b);obtain⟨sl2,e2⟩:=slot b (T.mem.mpr (.inr hb)) _ e1;exact⟨sl2,e2⟩
 ·obtain⟨o',e1⟩:=I.base.there b o e (nx b);by_cases hb:b∈frs X.stack
  ·obtain⟨sl,e2⟩:=slot b hb o' e1;exact⟨_,e2⟩
  ·exact⟨o',x1.1 b o' (toB b o' e1 hb)⟩
 ·exact toB b o (I.base.keep b o e n hb (nx b)) (out b o e hb)
 ·obtain⟨o',e1⟩:=I.base.there b o e (nx b);exact⟨o',toB b o' e1 (out b o e hb)⟩
theorem jjp {E:XK} {E':Value->Shared->Prop} {e:Value} {s':Shared} (T:Top1 X) (I:Inv X pins σ H s) (h:XOk X.prog X.w X.stack H s E e s') :
    wpAny (model X.prog X.w) X.A (leaving X.env e) (fun _ s''=>XOk X.prog X.w X.outer X.H₀ X.s₀ E e s'') E' s':=by
  obtain⟨ea,C,a0,H',B,pd,rfl,fl,os,ba,un,hk,kb,tb,dk,q⟩:=h;have hfr:X.A.frames=some (X.env::X.outer):=by rw[<- T.stk];exact I.ok.frames
  have out:∀b o,X.s₀.heap.get? b=some o->b∉X.fs->b∉frs X.stack:=fun b o e hb hm=>by
    rcases T.mem.mp hm with z | z
    . exact absurd (xal (Heap.lt_size e) I.ok.above) (by rw[z];exact xaY _)
    . exact hb z
  have nx:∀b:Addr,b∉X.ex:=fun b z=>by rw[T.ex] at z;cases z
  have n0:∀b:Addr,b∉([]:List Addr):=fun b z=>nomatch z;have fl':=fl;rw[T.stk] at fl;have main:∀h',Heap.FlyingW B X.outer ea (.ref C) a0 h'->s'.heap.UpToSlots h'->(∀dx,pd=some dx->DictAt ea dx h')->XOk X.prog X.w X.outer X.H₀ X.s₀ E (.ref ea) { s' with heap:=h' }:=?_
  . cases pd with
    | none=>exact wpAny_leaves_onW hfr T.frm fl fun h' x1 x2=>main h' x1 x2 (fun _ z=>nomatch z)
    | some dx =>
      refine wpAny_mono (Keep.any (jfU (e:=ea) (dx:=dx) X.env (.ref ea)) (dk dx rfl) (wpAny_leaves_onW hfr T.frm fl (Q:=fun _ s''=>∃h',s''={ s' with heap:=h' }/\Heap.FlyingW B X.outer ea (.ref C) a0 h'/\s'.heap.UpToSlots h') (E:=E') fun h' x1 x2=>⟨h',rfl,x1,x2⟩)) (fun _ s'' z=>?_) fun _ _ z=>z.1;obtain⟨⟨h',rfl,x1,x2⟩,z⟩:=z;exact main h' x1 x2 (fun dx' e=>by cases e;exact z)
  intro h' x1 x2 dk';have slot:∀b,b∈frs X.stack->∀o,s'.heap.get? b=some o->∃sl,h'.get? b=some { o with slots:=sl }:=fun b hb o e=>by
    obtain⟨_,o2,e2,nf⟩:=fl'.2.2.1.mem hb;rw[e] at e2;cases e2;exact x2 b o e nf
  refine⟨ea,C,a0,H',B,pd,rfl,x1,os.trans I.os,ba,⟨fun b o e n hb _=>?_,fun b o e n hb _=>?_,fun b o e n _=>?_,fun b o e _=>?_,fun b xs z=>un.tups b xs (I.base.tups b xs z),fun b o u z=>un.frzs b o u (I.base.frzs b o u z),fun b ps z=>?_⟩,hk,fun b o e n hb=>?_,fun b o e hb=>?_,dk',q⟩
  . exact x1.1 b o (kb b o (I.base.keep b o e n hb (nx b)) (I.base.free b o e n (nx b)) (out b o e hb))
  . obtain⟨sl,e1⟩:=I.base.slot b o e n hb (nx b)
    obtain⟨sl1,e2⟩:=un.slot b _ e1 (I.base.free b o e n (nx b)) (T.mem.mpr (.inr hb)) (n0 b);obtain⟨sl2,e3⟩:=slot b (T.mem.mpr (.inr hb)) _ e2;exact⟨sl2,e3⟩
  . obtain⟨o',e1⟩:=I.base.there b o e (nx b)
    exact un.free b o' e1 (I.base.free b o e n (nx b)) (n0 b)
  . obtain⟨o',e1⟩:=I.base.there b o e (nx b)
    by_cases hb:b∈frs X.stack
    . obtain⟨o2,e2⟩:=un.there b o' e1 (n0 b)
      obtain⟨sl,e3⟩:=slot b hb o2 e2;exact⟨_,e3⟩
    . obtain⟨o2,e2⟩:=tb b o' e1 hb
      exact⟨o2,x1.1 b o2 e2⟩
  . obtain⟨m1,z1⟩:=I.base.tbls b ps z
    obtain⟨m2,z2⟩:=un.tbls b _ z1;exact⟨m1++m2,by rw[z2,Array.append_assoc]⟩
  . exact kb b o (I.base.keep b o e n hb (nx b)) (I.base.free b o e n (nx b)) (out b o e hb)
  . obtain⟨o',e1⟩:=I.base.there b o e (nx b)
    exact tb b o' e1 (out b o e hb)
theorem jkV {K:PySem.W.Frag} {h₀:Heap} {mg:Str->Option Value} {x:Str} {C:Addr} {bmB:List Value} {newId:String} (X:K.In h₀) (hm:mg x=some (.ref C)) (q:PySem.W.excIn K C bmB newId=true):OwnCls x C bmB newId mg h₀:=by
 refine⟨hm,?_⟩;unfold PySem.W.excIn at q;split at q
 ·rename_i dd cd sl ho
  split at q
  ·rename_i C' bm k0 k1 k2 k3 n k5 hm hs
   simp only[xaE,beq_iff_eq,Bool.not_eq_true'] at q;obtain⟨⟨⟨⟨⟨rfl,rfl⟩,hdel⟩,ht⟩,hok⟩,hni⟩:=q;obtain⟨nm,bs,mro,ns,qn,hd,sn,sub,ab,col,del⟩:=cd;dsimp only at hm hdel hok hni;subst hm hdel;have hsl:sl=#[k0,k1,k2,k3,some (.builtin n),k5]:=by
    obtain⟨l⟩:=sl;simp only at hs;rw[hs]
   subst hsl;exact⟨bm,ns,nm,qn,bs,hd,sn,sub,ab,col,dd,k0,k1,k2,k3,k5,_,X _ _ ho,.of_isNs (PySem.W.isNs_of_in X hok),PySem.W.nsMap_none_of_in X hok hni,PySem.W.tail_of_in X ht⟩
  ·cases q
 ·cases q
structure Exc (K:PySem.W.Frag) (C:Addr) (B newId initId:String) (bmB:List Value):Prop where
 at_:PySem.W.excIn K C bmB newId=true
 base:ExcBaseFacts B newId initId bmB
theorem jbC {x:Str} {C:Addr} {B newId initId:String} {bmB:List Value} {e₀:Expr} {jbt:List Expr} {ta:TA} {np cpos pos:Pos} {R:Hp->Prop} (hc:X.calm=true) (hg:Gl X x) (hm:X.mg x=some (.ref C)) (O:Exc X.K C B newId initId bmB)
  (ha:PA X (e₀::jbt) ta) (hR:∀pins σ H s h' ea vs,Inv X pins σ H s->Heap.MadeExcOf s.heap h' ea (.ref C) vs->R H->X.xe (.ref ea) { s with heap:=h' })
  (hdb:(x==("__debug__":Str))=false:=by decide) (he:starEach (e₀::jbt) X.env=(false,eval e₀ X.env)::starEach jbt X.env:=by rfl) (hplain:(backTo cpos (starEach jbt X.env)).any (·.1)=false:=by rfl) :
  PS X (.Raise (some (.Call (.Name x np) (e₀::jbt) [] cpos)) none pos) (fun _ σ H=>ta σ H fun vs H1=>vs.length<=sizeLine/\R H1):=by
 intro pins s σ H D I h;have OC:OwnCls x C bmB newId X.mg X.base:=jkV I.ok.mod.kin hm O.at_;obtain⟨tl,N,nm,q,bs,hdct,sn,sub,ab,col,dd,k0,k1,k2,k3,k5,mN,hC,hN,hni,TL⟩:=id OC.obj;refine wpAny_Raise_call_subT (C:=C) (nm:=nm) (q:=q) (N:=N) (bs:=bs) (bm:=tl) (hdct:=hdct) (sn:=sn) (sub:=sub) (ab:=ab) (col:=col) (dd:=dd) (k0:=k0) (k1:=k1) (k2:=k2) (k3:=k3) (k5:=k5)
  O.base (mN:=mN) (TL.hasType O.base.hasBase) (I.ok.hd hc) (by rw[he];show (false||(backTo cpos (starEach jbt X.env)).any (·.1))=false;rw[hplain];rfl) hni (jdA I hg hm ⟨rfl,?_⟩ hdb)
 have hA:=ha cpos pins s σ H _ I h;rw[he] at hA |-
 refine Calls.evalArgs_plain (wpAny_mono hA (fun us s2 ⟨vs,H1,I1,r1,hz,hr⟩=>?_) fun _ _ y=>y);have hl:us.length<=sizeLine:=by rw[<- r1.length];exact hz
 exact⟨rfl,hl,I1.bk _ _ hC,hN.keeps I1.bk,TL.keeps I1.bk,fun h' ea hx=>hR pins σ H1 s2 h' ea us I1 hx hr⟩
def XP (X:Cx) (pins:List (Addr × Obj)) (σ:St) (E:XK) (ex:Value) (s':Shared):Prop:=∃H1 s1,Inv X pins σ H1 s1/\XOk X.prog X.w X.stack H1 s1 E ex s'
abbrev TX:=St->Hp->VK->XK->Prop
def PX (X:Cx) (e:Expr) (t:TX):Prop :=
 ∀(pins:List (Addr × Obj)) (s:Shared) (σ:St) (H:Hp) (Q:VK) (E:XK),Inv X pins σ H s->t σ H Q E->wpAny (model X.prog X.w) X.A (eval e X.env) (EP X pins σ Q) (XP X pins σ E) s
abbrev TSX:=Ends->(St->XK)->St->Hp->Prop
def PSX (X:Cx) (st:List Stmt) (t:TSX):Prop :=
 ∀(pins:List (Addr × Obj)) (s:Shared) (σ:St) (H:Hp) (D:Ends) (E:St->XK),Inv X pins σ H s->t D E σ H->wpAny (model X.prog X.w) X.A (execs st X.env) (SP X pins D) (fun ex s'=>∃σ1,XP X pins σ1 (E σ1) ex s') s
theorem jfg {i:Nat} {y:Str} {e:Expr} {t:TX} {py pos:Pos} (hN:X.N.Nodup) (hi:X.N[i]?=some y) (hx:Loc X.env.scope y) (he:PX X e t) (hs:swapsWith e (some (.Name y py)) pos.line X.env=pure false:=by rfl)
  (hf:X.fn y=true\/X.env.scope.names.lookup y=some .local:=by first | exact .inl rfl | exact .inr rfl | assumption) :
  PSX X [.Assign [.Name y py] e pos] (fun D E σ H=>t σ H (fun v H1=>D.nx (σ.set i (some v)) H1) (E σ)):=by
 intro pins s σ H D E I h;refine wpAny_execs_cons (wpAny_Assign_Name (wpAny_mono (he pins s σ H _ (E σ) I h) (fun u s1 ⟨v,H1,I1,r,q⟩=>?_) fun ex s' z=>⟨σ,z⟩) hs);exact jcN I1 hN hi hx r (fun s2 I2=>wpAny_execs_nil ⟨_,H1,I2,q⟩) hf
def Cx.caught (X:Cx) (e:Value):Cx:={ X with A:=X.A.mark (some e),calm:=false,xe:=fun _ _=>False }
theorem Inv.caught (I:Inv X pins σ H s) (e:Value) (hfr:(X.A.mark (some e)).frames=X.A.frames:=by rfl):Inv (X.caught e) pins σ H s :=
 ⟨⟨I.ok.mod,I.ok.kind,I.ok.glob,I.ok.blt,I.ok.above,I.ok.inj,I.ok.has,I.ok.cab,(fun z=>nomatch z),hfr.trans I.ok.frames,I.ok.stk,I.ok.exf,I.ok.bs,I.ok.bsz,I.ok.noex,I.ok.exfs,I.ok.funs,I.ok.frf⟩,I.os,I.bare,I.base,I.loc,I.cell,I.free,I.freeC,I.pin,I.hok,I.len⟩
theorem Inv.uncaught {e:Value} (ok:X.Ok) (I:Inv (X.caught e) pins σ H s):Inv X pins σ H s:=⟨ok,I.os,I.bare,I.base,I.loc,I.cell,I.free,I.freeC,I.pin,I.hok,I.len⟩
theorem SP.uncaught {e:Value} {D:Ends} {f:Flow} {s':Shared} (ok:X.Ok) (h:SP (X.caught e) pins D f s'):SP X pins D f s':=by
 cases f with
 | next=>obtain⟨a,b,I,q⟩:=h;exact⟨a,b,I.uncaught ok,q⟩
 | brk=>obtain⟨a,b,I,q⟩:=h;exact⟨a,b,I.uncaught ok,q⟩
 | cont=>obtain⟨a,b,I,q⟩:=h;exact⟨a,b,I.uncaught ok,q⟩
 | ret u=>obtain⟨v,a,b,I,r,q⟩:=h;exact⟨v,a,b,I.uncaught ok,r,q⟩
theorem Inv.landed {s':Shared} {H':Hp} {B h5:Heap} (T:Top1 X) (I:Inv X pins σ H s) (os:s'.os=s.os) (ba:AllBare s'.gens) (un:Un (frs X.stack) [] H H' s.heap s'.heap) (hk:HOk X.prog X.w H' B)
  (kb:∀b o,s.heap.get? b=some o->H b=none->b∉frs X.stack->B.get? b=some o) (tb:∀b o,s.heap.get? b=some o->b∉frs X.stack->∃o',B.get? b=some o')
  (st:B.StaysIn h5) (sm:s'.heap.UpToSlots h5) (ff:s'.heap.FunFrames B X.stack):Inv X pins σ H' { s' with heap:=h5 }:=by
 have n0:∀b:Addr,b∉([]:List Addr):=fun b z=>nomatch z;have slot:∀b,b∈frs X.stack->∀o,s'.heap.get? b=some o->∃sl,h5.get? b=some { o with slots:=sl }:=fun b hb o e=>by
  obtain⟨_,o2,e2,nf⟩:=ff.mem hb;rw[e] at e2;cases e2;exact sm b o e nf
 refine I.call' (s':={ s' with heap:=h5 }) (ch:=[]) os ⟨fun b o e n hb _=>st b o (kb b o e n hb),fun b o e n hb _=>?_,fun b o e n _=>un.free b o e n (n0 b),fun b o e _=>?_,un.tups,un.frzs,un.tbls⟩ (hk.kept st) ba fun b hb=>nomatch hb
 ·obtain⟨sl,e1⟩:=un.slot b o e n hb (n0 b);obtain⟨sl2,e2⟩:=slot b hb _ e1;exact⟨sl2,e2⟩
 ·by_cases hb:b∈frs X.stack
  ·obtain⟨o1,e1⟩:=un.there b o e (n0 b);obtain⟨sl,e2⟩:=slot b hb o1 e1;exact⟨_,e2⟩
  ·obtain⟨o1,e1⟩:=tb b o e hb;exact⟨o1,st b o1 e1⟩
end
section
variable {P:Program} {w:World} {K:PySem.W.Frag} {mg:Str->Option Value} {base:Heap}
abbrev cxX (P:Program) (w:World) (K:PySem.W.Frag) (mg:Str->Option Value) (base:Heap) (N:List Str) (qual:Str) (scope:Scope) (f:Addr) (cd:Value) (A:Around) (outer:List Env) (s:Shared) (H:Hp) (E:XK):Cx:=jgf (XOk P w) P w K mg base N qual scope f cd A outer s H E
theorem jfh {N:List Str} {qual:Str} {scope:Scope} {f:Addr} {cd:Value} {A:Around} {outer:List Env} {s:Shared} {H:Hp} {E:XK} {CX:CXT}:Top1 (jgf CX P w K mg base N qual scope f cd A outer s H E):=⟨rfl,rfl,rfl⟩
theorem jid {X:Cx} (T:Top1 X):Top1 X.nox:=⟨T.stk,T.frm,T.ex⟩
theorem jmh {N:List Str} {qual:Str} {scope:Scope} {f:Addr} {cd:Value} {A:Around} {outer:List Env} {s:Shared} {H:Hp} {E:XK}:jcn (XOk P w) (cxX P w K mg base N qual scope f cd A outer s H E) E :=
 fun pins σ H1 s1 e s' I h=>jjp (E':=fun e' s''=>XOk P w outer H s E e' s'') jfh I h
theorem jb7 {N:List Str} {qual:Str} {scope:Scope} {f C:Addr} {cd:Value} {A:Around} {outer:List Env} {s:Shared} {H:Hp} {E:XK} :
    ∀ (pins : List (Addr × Obj)) (σ : St) (H1 : Hp) (s1 : Shared) (h' : Heap) (ea : Addr) (vs : List Value), Inv (cxX P w K mg base N qual scope f cd A outer s H E) pins σ H1 s1 -> Heap.MadeExcOf s1.heap h' ea (.ref C) vs -> E (.ref C) none H1 ->
      (cxX P w K mg base N qual scope f cd A outer s H E).xe (.ref ea) { s1 with heap:=h' } :=
  fun pins σ H1 s1 h' ea vs I hx q=>jic (E':=fun e' s''=>XOk P w outer H s E e' s'') jfh I hx q
structure FunD (K:PySem.W.Frag) (x qual:Str) (st:Stmt) (f:Addr) (fd:FuncData) (dV:Value):Prop where
 ex:∃(oc:Value) (od:Option Addr) (kV doc pm:Value) (an:Option Addr) (cdv ct:Value) (osl:Array (Option Value)),
  fd=PySem.W.fnOf x qual (jbI st) (ja3 st) (jag st) dV kV doc pm an cdv ct/\K.lookup f=some ⟨oc,od,.func fd,osl⟩/\PySem.W.codeIn K cdv qual=true
 kp:PySem.W.keepIn K (.ref f)=true
theorem FunD.okX {x qual:Str} {st:Stmt} {f:Addr} {fd:FuncData} {dV:Value} {N ps:List Str} {k:Nat} {sp:Sp} (F:FunD K x qual st f fd dV) (S:FnScope N ps (jag st)) (len:∀vs H Q E,sp vs H Q E->vs.length=ps.length)
  (hbody:∀(cdv:Value) (A:Around) (outer:List Env) (s:Shared) (H:Hp) (vs:List V) (Q:VK) (E:XK),Room k (A.deeper (envOfC qual (jag st) s.heap.objs.size f cdv))->sp vs H Q E ->
   ∃t,PSs (cxX P w K mg base N qual (jag st) f cdv A outer s H E) (ja3 st) t/\t { nx:=fun _ H'=>Q .non H',rt:=Q } (start N vs) H):FnOk P w K mg base (XOk P w) (k+1) f fd ps sp:=by
 obtain⟨oc,od,kV,doc,pm,an,cdv,ct,osl,rfl,lk,hcd⟩:=F.ex;exact jl9 lk hcd S len fun A outer s H vs Q E hr hsp=>hbody cdv A outer s H vs Q E hr hsp
theorem FunD.ok {x qual:Str} {st:Stmt} {f:Addr} {fd:FuncData} {dV:Value} {N ps:List Str} {k:Nat} {sp:Sp} (F:FunD K x qual st f fd dV) (S:FnScope N ps (jag st)) (len:∀vs H Q E,sp vs H Q E->vs.length=ps.length)
  (hbody:∀(cdv:Value) (A:Around) (outer:List Env) (s:Shared) (H:Hp) (vs:List V) (Q:VK) (E:XK),Room k (A.deeper (envOfC qual (jag st) s.heap.objs.size f cdv))->sp vs H Q E ->
   ∃t,PSs (jgf CX0 P w K mg base N qual (jag st) f cdv A outer s H E).nox (ja3 st) t/\t { nx:=fun _ H'=>Q .non H',rt:=Q } (start N vs) H):FnOk P w K mg base CX0 (k+1) f fd ps sp:=by
 obtain⟨oc,od,kV,doc,pm,an,cdv,ct,osl,rfl,lk,hcd⟩:=F.ex;refine jl9 lk hcd S len fun A outer s H vs Q E hr hsp=>?_;obtain⟨t,h,q⟩:=hbody cdv A outer s H vs Q E hr hsp;exact⟨t,h.nox,q⟩
theorem jgn {x qual:Str} {st:Stmt} {f:Addr} {oc dV:Value} {od an:Option Addr} {osl:Array (Option Value)} {kV doc pm cdv ct:Value} (l:K.lookup f=some ⟨oc,od,.func (PySem.W.fnOf x qual (jbI st) (ja3 st) (jag st) dV kV doc pm an cdv ct),osl⟩)
  (c:PySem.W.codeIn K cdv qual=true) (k:PySem.W.keepIn K (.ref f)=true):FunD K x qual st f (PySem.W.fnOf x qual (jbI st) (ja3 st) (jag st) dV kV doc pm an cdv ct) dV:=⟨⟨oc,od,kV,doc,pm,an,cdv,ct,osl,rfl,l,c⟩,k⟩
end
def At (K:PySem.W.Frag) (mg:Str->Option Value) (x:Str) (st:Stmt) (ps:List Str) (dvs:List V):Prop :=
 ∃f fd dV ds,FunD K x x st f fd dV/\mg x=some (.ref f)/\Binds K fd ps ds/\Vals dvs ds
def jaz (P:Program) (w:World) (K:PySem.W.Frag) (mg:Str->Option Value) (base:Heap) (CX:CXT) (k:Nat) (x:Str) (ps:List Str) (dvs:List V) (sp:Sp):Prop :=
 ∃f fd ds,FnOk P w K mg base CX k f fd ps sp/\mg x=some (.ref f)/\PySem.W.keepIn K (.ref f)=true/\Binds K fd ps ds/\Vals dvs ds
section
variable {P:Program} {w:World} {K:PySem.W.Frag} {mg:Str->Option Value} {base:Heap}
theorem At.ok {x:Str} {st:Stmt} {N ps:List Str} {dvs:List V} {k:Nat} {sp:Sp} (F:At K mg x st ps dvs) (S:FnScope N ps (jag st)) (len:∀vs H Q E,sp vs H Q E->vs.length=ps.length)
  (hbody:∀(f:Addr) (cdv:Value) (A:Around) (outer:List Env) (s:Shared) (H:Hp) (vs:List V) (Q:VK) (E:XK),Room k (A.deeper (envOfC x (jag st) s.heap.objs.size f cdv))->sp vs H Q E ->
   ∃t,PSs (jgf CX0 P w K mg base N x (jag st) f cdv A outer s H E).nox (ja3 st) t/\t { nx:=fun _ H'=>Q .non H',rt:=Q } (start N vs) H):jaz P w K mg base CX0 (k+1) x ps dvs sp:=by
 obtain⟨f,fd,dV,ds,F1,hm,hb,hd⟩:=F;exact⟨f,fd,ds,F1.ok S len (hbody f),hm,F1.kp,hb,hd⟩
theorem At.okX {x:Str} {st:Stmt} {N ps:List Str} {dvs:List V} {k:Nat} {sp:Sp} (F:At K mg x st ps dvs) (S:FnScope N ps (jag st)) (len:∀vs H Q E,sp vs H Q E->vs.length=ps.length)
  (hbody:∀(f:Addr) (cdv:Value) (A:Around) (outer:List Env) (s:Shared) (H:Hp) (vs:List V) (Q:VK) (E:XK),Room k (A.deeper (envOfC x (jag st) s.heap.objs.size f cdv))->sp vs H Q E ->
   ∃t,PSs (cxX P w K mg base N x (jag st) f cdv A outer s H E) (ja3 st) t/\t { nx:=fun _ H'=>Q .non H',rt:=Q } (start N vs) H):jaz P w K mg base (XOk P w) (k+1) x ps dvs sp:=by
 obtain⟨f,fd,dV,ds,F1,hm,hb,hd⟩:=F;exact⟨f,fd,ds,F1.okX S len (hbody f),hm,F1.kp,hb,hd⟩
end
section
variable {X:Cx} {CX:CXT} {k:Nat} {ps:List Str} {sp:Sp} {dvs:List V} {E:XK} {x:Str} {p pos:Pos} {e:Expr} {es:List Expr} {t:TA}
theorem jaj (D:jaz X.prog X.w X.K X.mg X.base CX k x ps dvs sp) (hr:Room k X.A) (hg:Gl X x) (hx:jcn CX X E) (ha:PA X (e::es) t) (hdb:(x==("__debug__":Str))=false:=by decide)
  (he:starEach (e::es) X.env=(false,eval e X.env)::starEach es X.env:=by rfl) (hpl:(backTo pos (starEach es X.env)).any (·.1)=false:=by rfl):PE X (.Call (.Name x p) (e::es) [] pos) (jgj sp dvs E t):=by
 obtain⟨f,fd,ds,F,hm,hk,hb,hd⟩:=D;exact jkO F hr hg hm hk hb hd hx ha hdb he hpl
theorem jkW:MtR X "int.bit_length" (fun x xs H Q=>∃i,x=.int i/\xs=[]/\Q (.int (Builtin.Int.intBits i:Nat)) H):=by
 intro pins s σ H x xs v us Q I rx rv h;obtain⟨i,rfl,rfl,q⟩:=h;obtain⟨t,rfl⟩:=rx;cases rv;refine wpAny_call (codeAny_call_builtin F.slot_int_bit_length.plain F.entry_int_bit_length (F.slot_int_bit_length.check _ _ _ _ _ _ _ _ (typeIs_int s i t) (F.args_int_bit_length_1 _) (AutoIntG2.int_bit_length_int_0 i t _ _ _ (wants _ _) s ?_)));exact⟨.int _,H,I.tok _,⟨_,rfl⟩,q⟩
end
theorem jhw {k:Nat} {A:Around} (hr:Room k A):A.units+64<cLine:=hr.units
theorem Same.tup {K:PySem.W.Frag} {H H':Hp} {a:Addr} {xs:List V} (e:Same H H') (h:SqT K H a xs):SqT K H' a xs:=by
 rcases h with (h | ⟨o,h⟩) | h
 ·exact .inl (.inl (e _ _ h))
 ·exact .inl (.inr ⟨o,e _ _ h⟩)
 ·exact .inr h
theorem Same.new {H:Hp} {p:Addr} (h:H p=none) (o:HO):Same H (upd H p o):=fun b u q=>by rw[jar (jau q h)];exact q
theorem at_mk {K:PySem.W.Frag} {h:Heap} {mg:Str->Option Value} {x:Str} {st:Stmt} {ps:List Str} {f:Addr} {oc kV doc pm cdv ct:Value} {od an:Option Addr} {osl:Array (Option Value)} (X:K.In h) (G:h.Ns mainGlobals mg)
  (hb:∀(kV doc pm:Value) (an:Option Addr) (cdv ct:Value) (us:List Value),us.length=ps.length->bindArgs (PySem.W.fnOf x x (jbI st) (ja3 st) (jag st) .none kV doc pm an cdv ct) ⟨us,[]⟩=pure (ps.zip us))
  (a:PySem.W.nsIn K mainGlobals x=some (some (.ref f))) (l:K.lookup f=some ⟨oc,od,.func (PySem.W.fnOf x x (jbI st) (ja3 st) (jag st) .none kV doc pm an cdv ct),osl⟩) (c:PySem.W.codeIn K cdv x=true) (k:PySem.W.keepIn K (.ref f)=true) :
  At K mg x st ps []:=⟨f,_,.none,[],jgn l c k,PySem.W.mg_of X G a,.all (hb kV doc pm an cdv ct),.nil⟩
section
variable {X:Cx} {st:Stmt} {jbt:List Stmt} {t u:TS}
def Rest (M:St->Hp->Prop) (u:TS) (D:Ends):Prop:=∀σ' H',M σ' H'->u D σ' H'
def jmi (M:St->Hp->Prop) (t u:TS):TS:=fun D σ H=>t { D with nx:=M } σ H/\Rest M u D
theorem jbb (M:St->Hp->Prop) (h1:PS X st t) (h2:PSs X jbt u):PSs X (st::jbt) (jmi M t u):=by
  intro pins s σ H D I h;refine wpAny_execs_cons (thn (h1 pins s σ H { D with nx:=M } I h.1) fun f s1 q=>?_);cases f with
  | next =>
    obtain⟨σ',H',I',q⟩:=q;exact h2 pins s1 σ' H' D I' (h.2 σ' H' q)
  | ret v=>exact q
  | brk=>exact q
  | cont=>exact q
end
def Bd (n:Nat) (i:Int):Prop:=i.natAbs<2^n
theorem Bd.mul {n m:Nat} {i j:Int} (hi:Bd n i) (hj:Bd m j):Bd (n+m) (i*j):=by
 unfold Bd at *
 rw[xbP,Nat.pow_add];exact Nat.mul_lt_mul_of_lt_of_le hi (xaI hj) (Nat.two_pow_pos m)
theorem Bd.mono {n m:Nat} {i:Int} (hi:Bd n i) (h:n<=m:=by decide):Bd m i:=xal hi (xbE (by decide) h)
theorem Bd.add {n:Nat} {i j:Int} (hi:Bd n i) (hj:Bd n j):Bd (n+1) (i+j):=by
 unfold Bd at *
 rw[Nat.pow_succ];have:=Int.natAbs_add_le i j;omega
theorem Bd.sub {n:Nat} {i j:Int} (hi:Bd n i) (hj:Bd n j):Bd (n+1) (i-j):=by
 unfold Bd at *
 rw[Nat.pow_succ];have:=Int.natAbs_sub_le i j;omega
theorem Bd.neg {n:Nat} {i:Int} (hi:Bd n i):Bd n (-i):=by unfold Bd at *;rw[Int.natAbs_neg];exact hi
theorem Bd.fit {n:Nat} {i:Int} (hi:Bd n i) (h:n<=8000:=by decide):Fit i:=xal hi (xbE (by decide) h)
theorem Bd.of {i:Int} (h1:-1606938044258990275541962092341162602522202993782792835301376<i) (h2:i<1606938044258990275541962092341162602522202993782792835301376):Bd 200 i:=by
 unfold Bd;have e:(2^200:Nat)=1606938044258990275541962092341162602522202993782792835301376:=by decide
 rw[e];omega
theorem Fit.o {i:Int} (h1:-1606938044258990275541962092341162602522202993782792835301376<i) (h2:i<1606938044258990275541962092341162602522202993782792835301376):Fit i:=(Bd.of h1 h2).fit
def gk {α:Type} (n m:Nat) (us ws:List α):List α:=if us.length=n/\ws.length=m then us++ws else []
def AtK (K:PySem.W.Frag) (mg:Str->Option Value) (x:Str) (st:Stmt) (ps ks:List Str) (n m:Nat):Prop :=
 ∃f fd dV,FunD K x x st f fd dV/\mg x=some (.ref f)/\KBinds K fd ps ks (gk n m) (gk n m)
def jmj (P:Program) (w:World) (K:PySem.W.Frag) (mg:Str->Option Value) (base:Heap) (CX:CXT) (k:Nat) (x:Str) (ps ks:List Str) (n m:Nat) (sp:Sp):Prop :=
 ∃f fd,FnOk P w K mg base CX k f fd ps sp/\mg x=some (.ref f)/\PySem.W.keepIn K (.ref f)=true/\KBinds K fd ps ks (gk n m) (gk n m)
section
variable {P:Program} {w:World} {K:PySem.W.Frag} {mg:Str->Option Value} {base:Heap}
theorem AtK.okX {x:Str} {st:Stmt} {N ps ks:List Str} {n m k:Nat} {sp:Sp} (F:AtK K mg x st ps ks n m) (S:FnScope N ps (jag st)) (len:∀vs H Q E,sp vs H Q E->vs.length=ps.length)
  (hbody:∀(f:Addr) (cdv:Value) (A:Around) (outer:List Env) (s:Shared) (H:Hp) (vs:List V) (Q:VK) (E:XK),Room k (A.deeper (envOfC x (jag st) s.heap.objs.size f cdv))->sp vs H Q E ->
   ∃t,PSs (cxX P w K mg base N x (jag st) f cdv A outer s H E) (ja3 st) t/\t { nx:=fun _ H'=>Q .non H',rt:=Q } (start N vs) H):jmj P w K mg base (XOk P w) (k+1) x ps ks n m sp:=by
 obtain⟨f,fd,dV,F1,hm,hb⟩:=F;exact⟨f,fd,F1.okX S len (hbody f),hm,F1.kp,hb⟩
end
theorem jek {X:Cx} {K:PySem.W.Frag} (h:X.K=K):IxR X (jmc K):=h▸jav
theorem jaC {X:Cx} {K:PySem.W.Frag} (h:X.K=K):IxR X (jkS K):=h▸jak
end L2
namespace L2
open PySem
theorem ixT {K:PySem.W.Frag} {H:Hp} {r:Addr} {xs:List V} {i:Int} {v:V} {Q:VK} (k:SqT K H r xs) (e:atI xs i=some v) (q:Q v H):jmc K (.ref r) (.int i) H Q:=⟨r,xs,i,v,rfl,rfl,k,e,q⟩
theorem ixL {K:PySem.W.Frag} {H:Hp} {r:Addr} {xs:List V} {i:Int} {v:V} {Q:VK} (k:SqL K H r xs) (e:atI xs i=some v) (q:Q v H):jkS K (.ref r) (.int i) H Q:=⟨r,xs,i,v,rfl,rfl,k,e,q⟩
def jlM (J:It) (g:TG) (tb:TS) (D:Ends) (σ:St) (H1:Hp):Prop:=∃W:Nat->Nat->St->Hp->Prop,(∃m,W 0 m σ H1)/\∀i m σ H,W i m σ H ->
 (J.stop i H/\D.nx σ H)\/(J.go i H/\∃N:St->Hp->Prop,(∀σ' H',N σ' H'->∃m',m'<m/\W (i+1) m' σ' H')/\∀x H',J.yld i H x H'->g x σ H' fun σ2 H2=>tb { D with nx:=N,ct:=N,bk:=D.nx } σ2 H2)
section
variable {K:PySem.W.Frag} {ta:TA} {tl:TE} {g:TG} {tb:TS} {D:Ends} {σ:St} {H:Hp} {ix:List Nat} {tt:TT} {te:TE} {Q:VK}
theorem jie:jkG (jkE ta) g tb D σ H=ta σ H fun vs H1=>∃j:Int,vs=[.int j]/\-(2^62)<=j/\j<2^62/\jlM (Itr 0 j.toNat) g tb D σ H1:=rfl
theorem jif:jkG (jkF ta) g tb D σ H=ta σ H fun vs H1=>∃i j:Int,vs=[.int i,.int j]/\(-(2^62)<=i/\i<2^62/\-(2^62)<=j/\j<2^62)/\jlM (Itr i (j-i).toNat) g tb D σ H1:=rfl
theorem jj4:jkG (jjb K tl) g tb D σ H=tl σ H fun x H1=>∃a,x=.ref a/\(∃xs,SqL K H1 a xs)/\jlM (Itl K a) g tb D σ H1:=rfl
theorem jj5:jkG (iTup K tl) g tb D σ H=tl σ H fun x H1=>∃a,x=.ref a/\(∃xs,SqT K H1 a xs)/\jlM (Itt K a) g tb D σ H1:=rfl
theorem jgJ:jfS (jkE ta) ix g tt te σ H Q=ta σ H fun vs H1=>∃j:Int,vs=[.int j]/\-(2^62)<=j/\j<2^62/\∀acc,H1 acc=none->CompGo (Itr 0 j.toNat) (jaN σ ix) g tt te acc (fun H'=>Q (.ref acc) H') H1:=rfl
theorem jgK:jfS (jkF ta) ix g tt te σ H Q=ta σ H fun vs H1=>∃i j:Int,vs=[.int i,.int j]/\(-(2^62)<=i/\i<2^62/\-(2^62)<=j/\j<2^62)/\∀acc,H1 acc=none->CompGo (Itr i (j-i).toNat) (jaN σ ix) g tt te acc (fun H'=>Q (.ref acc) H') H1:=rfl
theorem jig:jfS (jjb K tl) ix g tt te σ H Q=tl σ H fun x H1=>∃a,x=.ref a/\(∃xs,SqL K H1 a xs)/\∀acc,H1 acc=none->CompGo (Itl K a) (jaN σ ix) g tt te acc (fun H'=>Q (.ref acc) H') H1:=rfl
theorem jih:jfS (iTup K tl) ix g tt te σ H Q=tl σ H fun x H1=>∃a,x=.ref a/\(∃xs,SqT K H1 a xs)/\∀acc,H1 acc=none->CompGo (Itt K a) (jaN σ ix) g tt te acc (fun H'=>Q (.ref acc) H') H1:=rfl
theorem FoR.lst {P:Prop} {a:Addr} {xs:List V} (k:SqL K H a xs) (h:P):(∃xs,SqL K H a xs)/\P:=⟨⟨xs,k⟩,h⟩
theorem FoR.tup {P:Prop} {a:Addr} {xs:List V} (k:SqT K H a xs) (h:P):(∃xs,SqT K H a xs)/\P:=⟨⟨xs,k⟩,h⟩
theorem FoR.len {P:List V->Prop} {a:Addr} {xs:List V} (k:SqL K H a xs) (h:P xs):∃x,(SqL K H a x\/SqT K H a x)/\P x:=⟨xs,.inl k,h⟩
theorem FoR.lenT {P:List V->Prop} {a:Addr} {xs:List V} (k:SqT K H a xs) (h:P xs):∃x,(SqL K H a x\/SqT K H a x)/\P x:=⟨xs,.inr k,h⟩
end
end L2
namespace L2
open PySem PySem.Spec PyProof.Rows
theorem Same.keepN {H H':Hp} {p:Addr} (h:Same H H') (n:H p=none) (o:HO):Same H (upd H' p o):=fun b u q=>by rw[jar (jau q n)];exact h b u q
theorem Same.noneN {H H':Hp} {p:Addr} (h:Same H H') (n:H' p=none):H p=none:=by
  cases e:H p with
  | none=>rfl
  | some o =>
    have z:=h _ _ e;rw[n] at z;cases z
theorem jaL {n:Nat} (h:n<1000):n<sizeLine:=xal h (by decide)
section
variable {ρ:St} {te:TE} {tt:TT} {acc:Addr} {Z:Hp->Prop} {H1:Hp}
theorem jkX {lo:Int} {n:Nat} (f:Nat->V) (hn:n<1000) (hacc:H1 acc=none)
  (hs:∀(i:Nat) (H3:Hp) (R:V->Hp->Prop),i<n->Same H1 H3->(∀H4,Same H3 H4->R (f i) H4)->te (some (.int (lo+i))::ρ) H3 R)
  (hd:∀H',Same H1 H'->H' acc=some (.lst ((List.range n).map f))->Z H'):CompGo (Itr lo n) ρ (jbw 0) jbR te acc Z H1:=by
 refine jdF (fun i xs H=>Same H1 H/\H acc=some (.lst xs)/\xs=(List.range i).map f) ⟨Same.new hacc _,upd_same,rfl⟩ ?_ ?_
 ·rintro i xs H hi ⟨g1,g2,rfl⟩;refine hs i H _ hi g1 fun H4 s4=>⟨s4 _ _ g2,jaL ?_,Same.keepN (g1.trans s4) hacc _,upd_same,?_⟩
  ·rw[xaa,xbf];omega
  ·rw[xbr,xah];rfl
 ·rintro xs H ⟨g1,g2,rfl⟩;exact hd H g1 g2
theorem jkY {lo:Int} {n:Nat} (f:Nat->V) (c:Nat->Bool) (hn:n<1000) (hacc:H1 acc=none)
  (ht:∀(i:Nat) (H3:Hp) (R:Bool->Hp->Prop),i<n->Same H1 H3->(∀H4,Same H3 H4->R (c i) H4)->tt (some (.int (lo+i))::ρ) H3 R)
  (hs:∀(i:Nat) (H3:Hp) (R:V->Hp->Prop),i<n->c i=true->Same H1 H3->(∀H4,Same H3 H4->R (f i) H4)->te (some (.int (lo+i))::ρ) H3 R)
  (hd:∀H',Same H1 H'->H' acc=some (.lst (((List.range n).filter c).map f))->Z H'):CompGo (Itr lo n) ρ (jbw 0) tt te acc Z H1:=by
 refine⟨fun i m xs H=>(Same H1 H/\H acc=some (.lst xs)/\xs=((List.range i).filter c).map f)/\i<=n/\m=n-i,⟨n,⟨Same.new hacc _,upd_same,rfl⟩,xaT _,rfl⟩,?_⟩;rintro i m xs H ⟨⟨g1,g2,rfl⟩,hi,rfl⟩;have hl:(((List.range i).filter c).map f).length<sizeLine:=jaL (by
  rw[xaa];have:=List.length_filter_le c (List.range i);rw[xbf] at this;omega)
 by_cases hlt:i<n
 ·refine .inr ⟨hlt,(fun y H4=>y=f i/\c i=true/\Same H1 H4/\H4 acc=some (.lst (((List.range i).filter c).map f))),fun H3=>c i=false/\Same H1 H3/\H3 acc=some (.lst (((List.range i).filter c).map f)),?_,?_,?_⟩
  ·rintro y H4 ⟨rfl,ci,s4,a4⟩;refine⟨a4,hl,n-(i+1),by omega,⟨Same.keepN s4 hacc _,upd_same,?_⟩,hlt,rfl⟩;rw[xbr,List.filter_append,xah,List.filter_cons,if_pos ci];rfl
  ·rintro H3 ⟨ci,s3,a3⟩;refine⟨n-(i+1),by omega,⟨s3,a3,?_⟩,hlt,rfl⟩;rw[xbr,List.filter_append,xah,List.filter_cons,if_neg (by rw[ci];decide)];simp
  ·rintro v0 x H' ⟨rfl,rfl⟩;refine⟨⟨_,rfl⟩,ht i H' _ hlt g1 fun H4 s4=>?_⟩;cases ci:c i with
   | true=>exact if_pos rfl▸hs i H4 _ hlt ci (g1.trans s4) fun H5 s5=>⟨rfl,rfl,g1.trans (s4.trans s5),s5 _ _ (s4 _ _ g2)⟩
   | false=>exact⟨rfl,g1.trans s4,s4 _ _ g2⟩
 ·have:i=n:=by omega
  subst this;exact .inl ⟨xaj _,hd H g1 g2⟩
theorem compT {K:PySem.W.Frag} {a:Addr} {zs:List V} (f:V->V) (hn:zs.length<1000) (hacc:H1 acc=none) (hz:SqT K H1 a zs)
  (hs:∀(z:V) (H3:Hp) (R:V->Hp->Prop),z∈zs->Same H1 H3->(∀H4,Same H3 H4->R (f z) H4)->te (some z::ρ) H3 R)
  (hd:∀H',Same H1 H'->H' acc=some (.lst (zs.map f))->Z H'):CompGo (Itt K a) ρ (jbw 0) jbR te acc Z H1:=by
 refine jgI (zs:=zs) (fun i xs H=>Same H1 H/\H acc=some (.lst xs)/\xs=(zs.take i).map f) ⟨Same.new hacc _,upd_same,rfl⟩ (fun i xs H _ h=>h.1.tup hz) ?_ ?_
 ·rintro i z xs H hi ⟨g1,g2,rfl⟩;refine hs z H _ (xas hi) g1 fun H4 s4=>⟨s4 _ _ g2,jaL ?_,Same.keepN (g1.trans s4) hacc _,upd_same,?_⟩
  ·rw[xaa,xak];omega
  ·rw[xa3,hi,xah];rfl
 ·rintro xs H ⟨g1,g2,rfl⟩;rw[xa2] at g2;exact hd H g1 g2
theorem jmk {K:PySem.W.Frag} {a:Addr} {zs:List V} (f:V->V) (hn:zs.length<1000) (hacc:H1 acc=none) (hz:SqL K H1 a zs)
  (hs:∀(z:V) (H3:Hp) (R:V->Hp->Prop),z∈zs->Same H1 H3->(∀H4,Same H3 H4->R (f z) H4)->te (some z::ρ) H3 R)
  (hd:∀H',Same H1 H'->H' acc=some (.lst (zs.map f))->Z H'):CompGo (Itl K a) ρ (jbw 0) jbR te acc Z H1:=by
 refine jh7 (zs:=zs) (fun i xs H=>Same H1 H/\H acc=some (.lst xs)/\xs=(zs.take i).map f) ⟨Same.new hacc _,upd_same,rfl⟩ (fun i xs H _ h=>h.1.seq hz) ?_ ?_
 ·rintro i z xs H hi ⟨g1,g2,rfl⟩;refine hs z H _ (xas hi) g1 fun H4 s4=>⟨s4 _ _ g2,jaL ?_,Same.keepN (g1.trans s4) hacc _,upd_same,?_⟩
  ·rw[xaa,xak];omega
  ·rw[xa3,hi,xah];rfl
 ·rintro xs H ⟨g1,g2,rfl⟩;rw[xa2] at g2;exact hd H g1 g2
end
section
variable {K:PySem.W.Frag} {H:Hp} {a b:Addr} {Q:VK}
theorem FoR.app {X:Prop} {L:Addr} {ps:List V} {x:V} {R:VK} (h:H L=some (.lst ps)) (hl:ps.length<sizeLine) (q:R .non (upd H L (.lst (ps++[x])))):((∃xs,SqL K H L xs)\/X)/\jh3 (.ref L) [x] H R :=
 ⟨.inl ⟨_,SqL.of h⟩,L,ps,x,rfl,rfl,h,hl,q⟩
end
theorem FoR.tupOf {K:PySem.W.Frag} {H:Hp} {p:Addr} {ys:List V} {X:Prop} {R:Addr->Hp->Prop} (k:SqL K H p ys) (h:∀t H',Same H H'->H' t=some (.tup ys)->R t H'):∃ys,(SqL K H p ys/\∀l,H l=none->R l (upd H l (.tup ys)))\/(SqT K H p ys/\R p H) :=
 ⟨ys,.inl ⟨k,fun l hl=>h l _ (Same.new hl _) upd_same⟩⟩
theorem jaZ {es:List Expr} {k:Nat} {jbt:List Expr} {pos:Pos} {env:Env}:starEach (.Tuple es k pos::jbt) env=(false,eval (.Tuple es k pos) env)::starEach jbt env:=by
 rw[starEach];intro e p h;cases h
theorem jan {c:Const} {k:Nat} {jbt:List Expr} {pos:Pos} {env:Env}:starEach (.Constant c k pos::jbt) env=(false,eval (.Constant c k pos) env)::starEach jbt env:=by
 rw[starEach];intro e p h;cases h
theorem se_un {op:UnaryOp} {a:Expr} {jbt:List Expr} {pos:Pos} {env:Env}:starEach (.UnaryOp op a pos::jbt) env=(false,eval (.UnaryOp op a pos) env)::starEach jbt env:=by
 rw[starEach];intro e p h;cases h
theorem jaf {x:Str} {jbt:List Expr} {pos:Pos} {env:Env}:starEach (.Name x pos::jbt) env=(false,eval (.Name x pos) env)::starEach jbt env:=by
 rw[starEach];intro e p h;cases h
theorem jaO {a:Expr} {es:List Expr} {ks:List Keyword} {jbt:List Expr} {pos:Pos} {env:Env}:starEach (.Call a es ks pos::jbt) env=(false,eval (.Call a es ks pos) env)::starEach jbt env:=by
 rw[starEach];intro e p h;cases h
theorem jaR {a b:Expr} {op:Operator} {jbt:List Expr} {pos:Pos} {env:Env}:starEach (.BinOp a op b pos::jbt) env=(false,eval (.BinOp a op b pos) env)::starEach jbt env:=by
 rw[starEach];intro e p h;cases h
theorem jaA {a b:Expr} {jbt:List Expr} {pos:Pos} {env:Env}:starEach (.Subscript a b pos::jbt) env=(false,eval (.Subscript a b pos) env)::starEach jbt env:=by
 rw[starEach];intro e p h;cases h
theorem je0 {es:List Expr} {jbt:List Expr} {pos:Pos} {env:Env}:starEach (.List es pos::jbt) env=(false,eval (.List es pos) env)::starEach jbt env:=by
 rw[starEach];intro e p h;cases h
theorem je1 {a:Expr} {gs:List Comprehension} {sc:Scope} {jbt:List Expr} {pos:Pos} {env:Env}:starEach (.ListComp a gs sc pos::jbt) env=(false,eval (.ListComp a gs sc pos) env)::starEach jbt env:=by
 rw[starEach];intro e p h;cases h
structure WE (X:Cx) (e:Expr) (t:TE):Prop where
 h:PE X e t
structure WA (X:Cx) (es:List Expr) (t:TA):Prop where
 h:PA X es t
structure WS (X:Cx) (st:Stmt) (t:TS):Prop where
 h:PS X st t
structure WSs (X:Cx) (st:List Stmt) (t:TS):Prop where
 h:PSs X st t
section
variable {X:Cx} {pos:Pos}
theorem jcS {st:Stmt} {jbt:List Stmt} {t u:TS} (h1:WS X st t) (h2:WSs X jbt u):WSs X (st::jbt) (jkB t u):=⟨jac h1.h h2.h⟩
theorem jel {st:Stmt} {t:TS} (h:WS X st t):WSs X [st] t:=⟨jae h.h⟩
theorem jfV {e:Expr} {te:TE} (he:WE X e te):WS X (.Return (some e) pos) (ji5 te):=⟨jao he.h⟩
theorem jii {e:Expr} {tt:TT} {b1 b2:List Stmt} {t1 t2:TS} (h:PT X e tt) (h1:WSs X b1 t1) (h2:WSs X b2 t2):WS X (.If e b1 b2 pos) (jkC tt t1 t2):=⟨jaK h h1.h h2.h⟩
theorem jfW {es:List Expr} {t:TA} (h:WA X es t):WE X (.List es pos) (jkN t):=⟨jaU h.h⟩
theorem jbl {es:List Expr} {k:Nat} {t:TA} (h:WA X es t):WE X (.Tuple es k pos) (jkM t):=⟨jbc h.h⟩
theorem ja8:WA X [] jhs:=⟨jad⟩
theorem jaq {e:Expr} {es:List Expr} {te:TE} {t:TA} (ha:WE X e te) (hr:WA X es t) (hs:starEach (e::es) X.env=(false,eval e X.env)::starEach es X.env):WA X (e::es) (jfe te t):=⟨jaa ha.h hr.h hs⟩
end
section
variable {P:Program} {w:World} {K:PySem.W.Frag} {mg:Str->Option Value} {base:Heap}
theorem At.okW {x:Str} {st:Stmt} {N ps:List Str} {dvs:List V} {k:Nat} {sp:Sp} (F:At K mg x st ps dvs) (S:FnScope N ps (jag st)) (len:∀vs H Q E,sp vs H Q E->vs.length=ps.length)
  (hbody:∀(f:Addr) (cdv:Value) (A:Around) (outer:List Env) (s:Shared) (H:Hp) (vs:List V) (Q:VK) (E:XK),Room k (A.deeper (envOfC x (jag st) s.heap.objs.size f cdv))->sp vs H Q E ->
   ∃t,WSs (jgf CX0 P w K mg base N x (jag st) f cdv A outer s H E).nox (ja3 st) t/\t { nx:=fun _ H'=>Q .non H',rt:=Q } (start N vs) H):jaz P w K mg base CX0 (k+1) x ps dvs sp :=
 F.ok S len fun f cdv A outer s H vs Q E hr h=>let ⟨t,h1,h2⟩:=hbody f cdv A outer s H vs Q E hr h;⟨t,h1.h,h2⟩
end
section
variable {ρ:St} {te:TE} {tt:TT} {acc:Addr} {Z:Hp->Prop} {H1:Hp}
def SameT (H H':Hp):Prop:=∀a xs,H a=some (.tup xs)->H' a=some (.tup xs)
theorem Same.t {H H':Hp} (s:Same H H'):SameT H H':=fun a xs h=>s a _ h
theorem SameT.trans {H H' J:Hp} (s:SameT H H') (t:SameT H' J):SameT H J:=fun a xs h=>t a xs (s a xs h)
theorem SameT.refl (H:Hp):SameT H H:=fun _ _ h=>h
theorem SameT.upd {H:Hp} {a:Addr} {xs ys:List V} (h:H a=some (.lst xs)):SameT H (upd H a (.lst ys)):=fun b zs hb=>by
 have ne:b≠a:=fun e=>by
  subst e;rw[h] at hb;cases hb
 rw[jar ne];exact hb
def Stab (p:Nat->V->Hp->Prop):Prop:=∀i y H H',p i y H->SameT H H'->p i y H'
theorem snocP {p:Nat->V->Hp->Prop} {xs:List V} {y:V} {i:Nat} {H:Hp} (hl:xs.length=i) (hp:∀j z,xs[j]?=some z->p j z H) (py:p i y H):∀j z,(xs++[y])[j]?=some z->p j z H:=fun j z hz=>by
 by_cases cj:j<xs.length
 ·rw[xaD cj] at hz;exact hp j z hz
 ·have cj2:j<(xs++[y]).length:=(xan.mp hz).1;rw[xaf] at cj2;have e:j=i:=by
   have:j<xs.length+1:=cj2;omega
  subst e;rw[xaG (by omega),hl,Nat.sub_self] at hz;cases hz;exact py
theorem jml {lo:Int} {n:Nat} (p:Nat->V->Hp->Prop) (st:Stab p) (hn:n<1000) (hacc:H1 acc=none)
  (hs:∀(i:Nat) (H3:Hp) (R:V->Hp->Prop),i<n->Same H1 H3->(∀y H4,Same H3 H4->p i y H4->R y H4)->te (some (.int (lo+i))::ρ) H3 R)
  (hd:∀ys H',Same H1 H'->H' acc=some (.lst ys)->ys.length=n->(∀i y,ys[i]?=some y->p i y H')->Z H'):CompGo (Itr lo n) ρ (jbw 0) jbR te acc Z H1:=by
 refine jdF (fun i xs H=>Same H1 H/\H acc=some (.lst xs)/\xs.length=i/\∀j y,xs[j]?=some y->p j y H) ⟨Same.new hacc _,upd_same,rfl,fun j y h=>by simp at h⟩ ?_ ?_
 ·rintro i xs H hi ⟨g1,g2,hl,hp⟩;refine hs i H _ hi g1 fun y H4 s4 py=>⟨s4 _ _ g2,jaL (by omega),Same.keepN (g1.trans s4) hacc _,upd_same,?_,?_⟩
  ·rw[xaf,hl];rfl
  ·have u:=SameT.upd (ys:=xs++[y]) (s4 _ _ g2);exact snocP hl (fun j z hz=>st _ _ _ _ (hp j z hz) (s4.t.trans u)) (st _ _ _ _ py u)
 ·rintro xs H ⟨g1,g2,hl,hp⟩;exact hd xs H g1 g2 hl hp
end
section
variable {X:Cx} {tg:Expr}
def Asc (x:Str):Prop:=(x.cps.all fun c=>decide (c<128))=true
def Its (x:Str):It:=⟨fun i _=>i<x.cps.size,fun i H v H'=>H'=H/\∃c,x.cps[i]?=some c/\v=.str ⟨#[c]⟩,fun i _=>x.cps.size<=i⟩
theorem jjq {P:Program} {w:World} {K:PySem.W.Frag} {tg:Expr} (it:Addr) (x:Str) (t:Tok):Turn P w K tg (Its x) [it] it (fun i h=>h.IsStrIter it "str_ascii_iterator" x t i) where
 mem:=by simp
 obj:=fun i h st b hb=>by
  have e:b=it:=by simpa using hb
  subst e;obtain⟨o,e,c,d⟩:=st;exact⟨o,e,fun v z=>by rw[d] at z;cases z⟩
 keep:=fun i h h' st k=>by
  obtain⟨o,e,c,d⟩:=st;exact⟨o,k it (by simp) o e,c,d⟩
 item:=by
  intro X hP hw hK hc i pins s σ H E I hf st hg;subst hP hw hK;have hg':i<x.cps.size:=hg;have hx:x.cps[i]?=some x.cps[i]:=Array.getElem?_eq_getElem hg';obtain⟨f0,f1,f2,f3,f4,f5⟩:=hf it (by simp);refine wpAny_pyNext_ascii_item st hx fun h' st' sb=>?_;have I1:Inv X pins σ H { s with heap:=h',toks:=s.toks+1 }:=I.turned (fun b o hb e=>(sb.2 b hb).trans e) f0 f1 f3 f4 f5;obtain⟨o,e,c,d⟩:=id st';exact⟨_,rfl,jja (s:={ s with heap:=h',toks:=s.toks+1 }) e c d (by decide) ⟨.str ⟨#[x.cps[i]]⟩,H,I1,⟨_,rfl⟩,⟨rfl,_,hx,rfl⟩,st',fun b hb=>(hf b hb).1⟩⟩
 done:=by
  intro X hP hw hK hc i pins s σ H E I hf st hg;subst hP hw hK;have hg':x.cps.size<=i:=hg;obtain⟨f0,f1,f2,f3,f4,f5⟩:=hf it (by simp);exact wpAny_pyNext_ascii_end (I.ok.hd hc) st (by simpa using hg') fun h' eb=>⟨rfl,I.turned (t':=s.toks) (fun b o hb e=>eb b o hb e) f0 f1 f3 f4 f5⟩
 self:=fun _ _ _ _ _ st h=>wpAny_pyIter_striter_ascii st h
def iStr (tl:TE):TI:=fun σ H R=>tl σ H fun v H1=>∃x,v=.str x/\Asc x/\R (Its x) H1
theorem jmm {l:Expr} {tl:TE} (hl:PE X l tl):PI X tg l (iStr tl):=by
 intro pins s σ H R I h;refine thn (hl pins s σ H _ I h) fun v s1 ⟨x,H1,I1,r1,q1⟩=>?_;obtain⟨y,e,ha,q⟩:=q1;subst e;obtain⟨t,rfl⟩:=r1;refine wpAny_pyIter_ascii ha ?_;refine⟨s1.heap.objs.size,[s1.heap.objs.size],_,_,H1,rfl,I1.kept (t':=s1.toks) fun b o e=>Heap.get?_push_of_some _ e,jjq _ y t,⟨_,Heap.get?_push_size _ rfl,rfl,rfl⟩,fun b hb=>?_,q⟩;have e:b=s1.heap.objs.size:=by simpa using hb
 subst e;exact I1.fpOk (xaj _) (I1.hok.fresh (xaj _))
theorem jfX:OpR X (compareOp .LtE) (fun x y H Q=>∃i j,x=.str i/\y=.str j/\Q (.bl (!decide (j.cps.toList<i.cps.toList))) H):=by
 intro pins s σ H x y v u Q I rx ry h;obtain⟨i,j,rfl,rfl,q⟩:=h;obtain⟨t,rfl⟩:=rx;obtain⟨t',rfl⟩:=ry;exact PySem.P.le_str (jaT I q rfl)
end
section
variable {X:Cx} {e:Expr} {lo hi:Option Expr} {te:TE} {tl th:TO} {pos p2:Pos}
theorem jkZ {pins:List (Addr × Obj)} {σ:St} {H:Hp} {s:Shared} {z:Str} {t:Tok} {vl vu:Value} {l u:Option Int} {Q:VK} (I:Inv X pins σ H s) (hz:z.length<=sizeLine) (pl:IsPart vl l) (pu:IsPart vu u) (h:l=none/\u≠none\/l≠none/\u=none) (q:Q (.str (Txt.slice z l u)) H) :
    ItemOn (model X.prog X.w) X.A X.xe (.str z t) (.ref s.heap.objs.size) (EP X pins σ Q) { s with heap:=s.heap.push { cls:=.type "slice",data:=.fields #[vl,vu,.none] } }:=by
  cases pl with
  | none =>
    cases pu with
    | none=>simp at h
    | int j tj=>exact SBH.sliceItem_ns (P:=fun h'=>∀b o,s.heap.get? b=some o->h'.get? b=some o) (fun h ob p b o e=>Heap.get?_push_of_some _ (p b o e)) (fun b o e=>e) (fun h' t' k p=>⟨.str _,H,I.kept p,⟨_,rfl⟩,q⟩) hz
  | int i t1 =>
    cases pu with
    | none=>exact SBH.sliceItem_sn (P:=fun h'=>∀b o,s.heap.get? b=some o->h'.get? b=some o) (fun h ob p b o e=>Heap.get?_push_of_some _ (p b o e)) (fun b o e=>e) (fun h' t' k p=>⟨.str _,H,I.kept p,⟨_,rfl⟩,q⟩) hz
    | int j tj=>simp at h
def rSlS:V->Option Int->Option Int->Hp->VK->Prop:=fun x l u H Q=>∃z,x=.str z/\z.length<=sizeLine/\(l=none/\u≠none\/l≠none/\u=none)/\Q (.str (Txt.slice z l u)) H
theorem jbJ (he:PE X e te) (hl:PO X lo tl) (hu:PO X hi th):PE X (.Subscript e (.Slice lo hi none p2) pos) (tSl rSlS te tl th):=by
 intro pins s σ H Q I h;refine Subscript_ (thn (he pins s σ H _ I h) fun v s1 ⟨x,H1,I1,r1,q1⟩=>?_);refine wpAny_Slice (thn (hl pins s1 σ H1 _ I1 q1) fun vl s2 ⟨l,H2,I2,pl,q2⟩=>thn (hu pins s2 σ H2 _ I2 q2) fun vu s3 ⟨u,H3,I3,pu,q3⟩=>?_);rw[evalPart_none];refine wpAny_pure ?_;obtain⟨z,rfl,hz,hh,q⟩:=q3;obtain⟨t,rfl⟩:=r1;obtain⟨T,id,hT,ht,hg⟩:=jkZ (t:=t) I3 hz pl pu hh q;show wpAny (model X.prog X.w) X.A (subscriptTail e (.Slice lo hi none p2) (.str z t) (.ref s3.heap.objs.size)) (EP X pins σ Q) X.xe { s3 with heap:=s3.heap.push { cls:=.type "slice",data:=.fields #[vl,vu,.none] } };exact tail_any (ops:=[.ref s3.heap.objs.size,.str z t]) ht hT hg (by with_unfolding_all rfl)
end
section
variable {tl:TE} {g:TG} {tb:TS} {D:Ends} {σ:St} {H:Hp} {ix:List Nat} {tt:TT} {te:TE} {Q:VK}
theorem jj6:jkG (iStr tl) g tb D σ H=tl σ H fun v H1=>∃x,v=.str x/\Asc x/\jlM (Its x) g tb D σ H1:=rfl
theorem jij:jfS (iStr tl) ix g tt te σ H Q=tl σ H fun v H1=>∃x,v=.str x/\Asc x/\∀acc,H1 acc=none->CompGo (Its x) (jaN σ ix) g tt te acc (fun H'=>Q (.ref acc) H') H1:=rfl
end
section
variable {ρ:St} {te:TE} {acc:Addr} {Z:Hp->Prop} {H1:Hp}
theorem compS {x:Str} (f:Nat->V) (hn:x.cps.size<1000) (hacc:H1 acc=none)
  (hs:∀(c:Nat) (H3:Hp) (R:V->Hp->Prop),c∈x.cps.toList->Same H1 H3->(∀H4,Same H3 H4->R (f c) H4)->te (some (.str ⟨#[c]⟩)::ρ) H3 R)
  (hd:∀H',Same H1 H'->H' acc=some (.lst (x.cps.toList.map f))->Z H'):CompGo (Its x) ρ (jbw 0) jbR te acc Z H1:=by
 have hl:x.cps.toList.length=x.cps.size:=Array.length_toList;refine⟨fun i m xs H=>(Same H1 H/\H acc=some (.lst xs)/\xs=(x.cps.toList.take i).map f)/\i<=x.cps.size/\m=x.cps.size-i,⟨x.cps.size,⟨Same.new hacc _,upd_same,rfl⟩,xaT _,rfl⟩,?_⟩;rintro i m xs H ⟨⟨g1,g2,rfl⟩,hi,rfl⟩;by_cases hlt:i<x.cps.size
 ·refine .inr ⟨hlt,(fun y H4=>y=f x.cps[i]/\Same H1 H4/\H4 acc=some (.lst ((x.cps.toList.take i).map f))),fun _=>False,?_,fun _ z=>z.elim,?_⟩
  ·rintro y H4 ⟨rfl,s4,a4⟩;refine⟨a4,jaL (by rw[xaa,xak];omega),x.cps.size-(i+1),by omega,⟨Same.keepN s4 hacc _,upd_same,?_⟩,hlt,rfl⟩;have ez:x.cps.toList[i]?=some x.cps[i]:=by simp [hlt]
   rw[xa3,ez,xah];rfl
  ·rintro v0 v H' ⟨rfl,c,hc,rfl⟩;have ec:c=x.cps[i]:=by
    rw[Array.getElem?_eq_getElem hlt] at hc;exact (Option.some.inj hc).symm
   subst ec;refine⟨⟨_,rfl⟩,?_⟩;simp only[jbR,if_true];exact hs _ H' _ (by simp) g1 fun H4 s4=>⟨rfl,g1.trans s4,s4 _ _ g2⟩
 ·have:i=x.cps.size:=by omega
  subst this;rw[<- hl,xa2] at g2;exact .inl ⟨xaj _,hd H g1 g2⟩
end
theorem jk0:typeLookup (.type "list_reverseiterator") "__len__"=pure none:=by with_unfolding_all rfl
theorem jjr:typeLookup (.type "list_reverseiterator") "__length_hint__"=pure (some (.builtin "list_reverseiterator.__length_hint__")):=by with_unfolding_all rfl
theorem jjs {M:Model} {A:Around} {E:Value->Shared->Prop} {s:Shared} {Q:Bool->Shared->Prop} {I l:Addr} {i:Int} (h:s.heap.IsRevIter I l i) (q:Q false s):wpAny M A (Builtin.List.listLengthHint (.ref I)) Q E s:=by
 obtain⟨o,ho,hc,hd⟩:=h;have ty:s.TypeIs (.ref I) "list_reverseiterator":=⟨o,ho,hc⟩;unfold Builtin.List.listLengthHint;refine wpAny_bind (wpAny_specialOf ty jk0 ?_);dsimp only;refine wpAny_ite_split (fun c=>absurd c (by decide)) fun _=>?_;refine wpAny_ite_split (fun c=>absurd c (by decide)) fun _=>?_;refine wpAny_bind (wpAny_specialOf ty jjr ?_);dsimp only;have sp:splitId "list_reverseiterator.__length_hint__"=some ("list_reverseiterator","__length_hint__"):=by decide +kernel
 rw[sp];dsimp only;refine wpAny_bind (wpAny_isInstance (b:=true) ty (by with_unfolding_all rfl) ?_);refine wpAny_ite_split (fun c=>absurd c (by decide)) fun _=>?_;refine wpAny_ite_split (fun c=>?_) fun c=>absurd c (by decide);refine wpAny_ite_split (fun c=>absurd c (by decide)) fun _=>?_;exact wpAny_pure q
theorem jhx {prog:Program} {w:World} {A:Around} {s:Shared} {R:Result->Shared->Prop} {I l:Addr} {items:Array Value} (hh:A.handled=none) (hne:l≠I) (S:Addr) (res:Value) (c₀:Nat) (hI:s.heap.IsRevIter I l ((items.size:Int)-1)) (hl:s.heap.IsList l items) (hS:S≠I) (hSl:S≠l)
  (e:s.heap.get? S=some { cls:=.type "list",data:=.seq #[] c₀ }) (hz:items.size<=sizeLine)
  (q:∀(h':Heap) (tk:Nat) (acc':Array Value) (c':Nat),(∀b o,b≠S->b≠I->s.heap.get? b=some o->h'.get? b=some o)->h'.get? S=some { cls:=.type "list",data:=.seq acc' c' }->ItemsOf (fun i v=>items[items.size-1-i]?=some v) acc' items.size->R (.ok (.ret res)) { s with heap:=h',toks:=tk }) :
  wpAny (model prog w) A.in1 (Builtin.List.listExtendWith (.ref S) (.ref I) res)
   (fun fin s'=>match fin with | .done f=>R (.ok f) s' | .again c'=>c'.quiet=true/\codeAny (model prog w) A c' R s') (fun e s'=>R (.error e) s') s:=by
 obtain⟨o,ho,hc,hd⟩:=id hI;have ty:s.TypeIs (.ref I) "list_reverseiterator":=⟨o,ho,hc⟩;unfold Builtin.List.listExtendWith;refine wpAny_bind (wpAny_typeOf ty ?_);refine wpAny_ite_split (fun c=>?_) fun _=>?_
 ·exfalso;have e1:Builtin.List.listSameRef (.ref S) (.ref I)=false:=by
   simp [Builtin.List.listSameRef,hS]
  rw[e1] at c
  revert c
  decide
 refine wpAny_bind (wpAny_pyIter_revIter hI ?_);refine wpAny_bind (wpAny_holding (jjs hI ?_));refine wpAny_ite_split (fun c=>absurd c (by decide)) fun _=>?_;have W:=(Walks.listRev (prog:=prog) (w:=w) (A:=A.in1) hh I l hne items).toS;refine wpAny_pure ⟨plainId_quiet F.plain_extend_loop _,?_⟩;refine codeAny_extend_loopS W hz S (by simp [hS,hSl]) res items.size 0 s #[] c₀ rfl (xaT _) ⟨xaT _,by simpa using hI,hl⟩ e ⟨rfl,fun j v h=>by simp at h⟩ fun s' acc' c' mv e' it=>?_;have eq:=Moved.eq_with mv;rw[eq];exact q s'.heap s'.toks acc' c' (fun b o h1 h2 e=>mv.heap b o (by simp [h1,h2]) e) e' it
theorem jjt {prog:Program} {w:World} {A:Around} {s:Shared} {R:Result->Shared->Prop} {I l:Addr} {items:Array Value} (hh:A.handled=none) (hne:l≠I) (S:Addr) (hI:s.heap.IsRevIter I l ((items.size:Int)-1)) (hl:s.heap.IsList l items) (hS:S≠I) (hSl:S≠l)
  (e:s.heap.get? S=some { cls:=.type "list",data:=.seq #[] }) (hz:items.size<=sizeLine)
  (q:∀(h':Heap) (tk:Nat) (acc':Array Value) (c':Nat),(∀b o,b≠S->b≠I->s.heap.get? b=some o->h'.get? b=some o)->h'.get? S=some { cls:=.type "list",data:=.seq acc' c' }->ItemsOf (fun i v=>items[items.size-1-i]?=some v) acc' items.size->R (.ok (.ret .none)) { s with heap:=h',toks:=tk }) :
  wpAny (model prog w) A.in1 (Builtin.«list.__init__» { pos:=[.ref S,.ref I] })
   (fun fin s'=>match fin with | .done f=>R (.ok f) s' | .again c'=>c'.quiet=true/\codeAny (model prog w) A c' R s') (fun e s'=>R (.error e) s') s:=by
 unfold Builtin.«list.__init__»;dsimp only;refine wpAny_ite_split (fun c=>absurd c (by decide)) fun _=>?_;refine wpAny_ite_split (fun c=>absurd c (by simp)) fun _=>?_;refine wpAny_bind (wpAny_bind (wpAny_seqItems e rfl (wpAny_pure ?_)));refine wpAny_bind (wpAny_updateSeq e rfl ?_ (by simp) (by simp));refine wpAny_bind (wpAny_letGo ?_);have eS:=Heap.get?_update_self (Obj.mapSeq fun _=>(#[]:Array Value)) e rfl;have eO:∀b,b≠S->(s.heap.update S (Obj.mapSeq fun _=>(#[]:Array Value))).get? b=s.heap.get? b:=fun b hb=>Heap.get?_update_other s.heap _ (Ne.symm hb);obtain⟨o,ho,hc,hd⟩:=hI;obtain⟨o2,ho2,hc2,n2,hd2⟩:=hl;refine jhx (s:={ s with heap:=s.heap.update S (Obj.mapSeq fun _=>(#[]:Array Value)) }) (items:=items) hh hne S .none _ ⟨o,(eO I (Ne.symm hS)).trans ho,hc,hd⟩ ⟨o2,(eO l (Ne.symm hSl)).trans ho2,hc2,n2,hd2⟩ hS hSl eS hz fun h' tk acc' c' k e' it=>?_;exact q h' tk acc' c' (fun b o h1 h2 hb=>k b o h1 h2 ((eO b h1).trans hb)) e' it
theorem jfi {prog:Program} {w:World} {A:Around} {E:Value->Shared->Prop} {s:Shared} {Q:Value->Shared->Prop} {I l:Addr} {items:Array Value} (hh:A.handled=none) (hne:l≠I) (hI:s.heap.IsRevIter I l ((items.size:Int)-1)) (hl:s.heap.IsList l items) (hz:items.size<=sizeLine)
  (q:∀(h':Heap) (tk:Nat) (acc':Array Value) (c':Nat),(∀b o,b≠I->s.heap.get? b=some o->h'.get? b=some o)->h'.get? s.heap.objs.size=some { cls:=.type "list",data:=.seq acc' c' }->ItemsOf (fun i v=>items[items.size-1-i]?=some v) acc' items.size->Q (.ref s.heap.objs.size) { s with heap:=h',toks:=tk }) :
  wpAny (model prog w) A (call (.type "list") [.ref I]) Q E s:=by
 obtain⟨o,ho,hc,hd⟩:=hI;obtain⟨o2,ho2,hc2,n2,hd2⟩:=hl;have n1:s.heap.objs.size≠I:=Ne.symm (xau (Heap.lt_size ho));have n2':s.heap.objs.size≠l:=Ne.symm (xau (Heap.lt_size ho2));refine callType_codes F.called_list (F.typeCall_list_1 _) F.entry_list_init (Q₁:=fun obj s₁=>obj=.ref s.heap.objs.size/\s₁={ s with heap:=s.heap.push { cls:=.type "list",data:=.seq #[] } }) (code_list_new _ ⟨rfl,rfl⟩) ?_;rintro obj s₁ ⟨rfl,rfl⟩;have eS:(s.heap.push { cls:=.type "list",data:=.seq #[] }).get? s.heap.objs.size=some { cls:=.type "list",data:=.seq #[] }:=Heap.get?_push_size _ rfl;refine⟨⟨_,eS,rfl⟩,F.args_list_init_2 _ _,?_⟩;refine jjt (A:=A.in1) (s:={ s with heap:=s.heap.push { cls:=.type "list",data:=.seq #[] } }) (items:=items) hh hne s.heap.objs.size ⟨o,Heap.get?_push_of_some _ ho,hc,hd⟩ ⟨o2,Heap.get?_push_of_some _ ho2,hc2,n2,hd2⟩ n1 n2' eS hz fun h' tk acc' c' k e' it=>?_;exact⟨rfl,q h' tk acc' c' (fun b o h1 hb=>k b o (xau (Heap.lt_size hb)) h1 (Heap.get?_push_of_some _ hb)) e' it⟩
theorem Vals.app {xs ys:List V} {us vs:List Value} (h:Vals xs us) (k:Vals ys vs):Vals (xs++ys) (us++vs):=by
 induction h with
 | nil=>exact k
 | cons r _ ih=>exact .cons r ih
theorem Vals.rev {xs:List V} {us:List Value} (h:Vals xs us):Vals xs.reverse us.reverse:=by
  induction h with
  | nil=>exact .nil
  | cons r _ ih =>
    rw[xaZ,xaZ];exact Vals.app ih (.cons r .nil)
theorem jik {items acc:Array Value} (h:ItemsOf (fun i v=>items[items.size-1-i]?=some v) acc items.size):acc.toList=items.toList.reverse:=by
 obtain⟨h1,h2⟩:=h;refine List.ext_getElem? fun i=>?_;by_cases hi:i<items.size
 ·have e:acc[i]?=some acc[i]:=Array.getElem?_eq_getElem (by omega);have z:=h2 i _ e;rw[xbz (by rw[Array.length_toList];exact hi),Array.length_toList,Array.getElem?_toList,Array.getElem?_toList,e,z]
 ·rw[xbd (by rw[Array.length_toList];omega),xbd (by rw[xaU,Array.length_toList];omega)]
section
variable {X:Cx} {e:Expr} {te:TE} {p p' pos pos':Pos}
def jfj (K:PySem.W.Frag) (te:TE):TE:=fun σ H Q=>te σ H fun x H1=>∃a ys,x=.ref a/\SqL K H1 a ys/\∀l,H1 l=none->Q (.ref l) (upd H1 l (.lst ys.reverse))
theorem jhy (hc:X.calm=true) (hg:Gl X "list") (hm:X.mg "list"=none) (hg':Gl X "reversed") (hm':X.mg "reversed"=none) (he:PE X e te)
  (h1:starEach [e] X.env=[(false,eval e X.env)]:=by rfl) (h2:starEach [.Call (.Name "reversed" p') [e] [] pos'] X.env=[(false,eval (.Call (.Name "reversed" p') [e] [] pos') X.env)]:=by rfl) :
  PE X (.Call (.Name "list" p) [.Call (.Name "reversed" p') [e] [] pos'] [] pos) (jfj X.K te):=by
 intro pins s σ H Q I h;refine wpAny_Call_Name_kw (jd8 I hg hm boot_list ?_);refine PyProof.Rows.callWith_type1 ?_ h2 rfl;rw[h2];show wpAny _ _ (spliced ((false,eval (.Call (.Name "reversed" p') [e] [] pos') X.env)::[])) _ _ s;refine Calls.spliced_cons ?_;refine wpAny_Call_Name_kw (jd8 I hg' hm' boot_reversed ?_);refine PyProof.Rows.callWith_type1 ?_ h1 rfl;rw[h1];show wpAny _ _ (spliced ((false,eval e X.env)::[])) _ _ s;refine Calls.spliced_cons (thn (he pins s σ H _ I h) fun u s1 ⟨x,H1,I1,r1,q1⟩=>?_);obtain⟨a,ys,rfl,hq,q⟩:=q1;cases r1;obtain⟨its,rv,pl,hz⟩:=I1.list hq;have hlen:=rv.length;refine Calls.spliced_nil ?_;refine call_reversed_list pl.isList ?_;refine Calls.spliced_nil ?_;have hla:a<s1.heap.objs.size:=by
  obtain⟨o,ho,_⟩:=pl.isList;exact Heap.lt_size ho
 have hl':(s1.heap.push (revObj a ((its.toArray.size:Int)-1))).IsList a its.toArray:=by
  obtain⟨o,ho,hc',n,hd⟩:=pl.isList;exact⟨o,Heap.get?_push_of_some _ ho,hc',n,hd⟩
 refine jfi (I1.ok.hd hc) (xau hla) ⟨_,Heap.get?_push_size _ rfl,rfl,rfl⟩ hl' (by rw[xag];omega) fun h' tk acc' c' k e' it=>?_;have er:=jik it;rw[List.toList_toArray] at er;have kp:∀(b:Addr) (o:Obj),s1.heap.get? b=some o->h'.get? b=some o:=fun b o hb=>k b o (xau (Heap.lt_size hb)) (Heap.get?_push_of_some _ hb);have sz:(s1.heap.push (revObj a ((its.toArray.size:Int)-1))).objs.size=s1.heap.objs.size+1:=by
  unfold Heap.push;exact Array.size_push ..
 have hle:s1.heap.objs.size<=(s1.heap.push (revObj a ((its.toArray.size:Int)-1))).objs.size:=by omega
 refine⟨.ref _,_,I1.laid (t':=tk) (o:=.lst ys.reverse) kp hle ?_,rfl,q _ (I1.hok.fresh hle)⟩;refine⟨by rw[xaU];exact hz,its.reverse,c',rv.rev,?_⟩;rw[e',<- er]
end
def jdH (J:It) (n:Nat) (ρ:St) (g:TG) (tt:TT) (te:TE) (acc:Addr) (Z:Hp->Prop) (H1:Hp):Prop :=
  ∃ W : Nat -> Nat -> List V -> Hp -> Prop, (∃ m, W 0 m [] (upd H1 acc (.lst []))) /\ ∀ i m xs H, W i m xs H ->
    ((J.stop i H /\ Z H) \/ (J.go i H /\ ∃ (Nx : V -> Hp -> Prop) (Nn : Hp -> Prop), (∀ y H4, Nx y H4 -> H4 acc = some (.lst xs) /\ xs.length < sizeLine /\ ∃ m', m' < m /\ W (i + 1) m' (xs ++ [y]) (upd H4 acc (.lst (xs ++ [y])))) /\
      (∀H3,Nn H3->∃m',m'<m/\W (i+1) m' xs H3)/\∀(v0:St) x H',v0.length=n->J.yld i H x H'->g x (v0++ρ) H' fun σ2 H2=>(∃v:St,v.length=n/\σ2=v++ρ)/\tt σ2 H2 fun b H3=>if b=true then te σ2 H3 Nx else Nn H3))
section
variable {X:Cx} {N' r xs0:List Str} {ix:List Nat} {cs:Scope} {tg iter elt:Expr} {ifs:List Expr} {pos:Pos} {wi:TI} {g:TG} {tt:TT} {te:TE}
def jil (wi:TI) (ix:List Nat) (n:Nat) (g:TG) (tt:TT) (te:TE):TE:=fun σ H Q=>wi σ H fun J H1=>∀acc,H1 acc=none->jdH J n (jaN σ ix) g tt te acc (fun H'=>Q (.ref acc) H') H1
end
section
variable {K:PySem.W.Frag} {ta:TA} {tl:TE} {ix:List Nat} {n:Nat} {g:TG} {tt:TT} {te:TE} {σ:St} {H:Hp} {Q:VK}
theorem jgL:jil (jjb K tl) ix n g tt te σ H Q=tl σ H fun x H1=>∃a,x=.ref a/\(∃xs,SqL K H1 a xs)/\∀acc,H1 acc=none->jdH (Itl K a) n (jaN σ ix) g tt te acc (fun H'=>Q (.ref acc) H') H1:=rfl
end
theorem jem {X:Cx}:jc8 X (.type "tuple") (fun xs H Q=>∃p ys,xs=[.ref p]/\SqL X.K H p ys/\∀l,H l=none->Q (.ref l) (upd H l (.tup ys))):=fun pins s σ H xs us Q I r ⟨p,ys,e,k,q⟩=>jbq pins s σ H xs us Q I r ⟨p,ys,e,.inl ⟨k,q⟩⟩
theorem jgo {X:Cx} {K:PySem.W.Frag} {es:List Expr} {k:Nat} {t:TGs} {n:Nat} {pos:Pos} (hK:X.K=K) (hc:X.calm=true) (h:PGs X es t)
  (hn:(assignEach es X.env).length=n:=by rfl) (hst:(assignEach es X.env).findIdx? (·.1)=none:=by rfl):PG X (.Tuple es k pos) (jjX K n t):=hK▸jeV hc h hn hst
def SameB (L:Addr) (H H':Hp):Prop:=∀b o,b≠L->H b=some o->H' b=some o
theorem SameB.refl (L:Addr) (H:Hp):SameB L H H:=fun _ _ _ h=>h
theorem SameB.trans {L:Addr} {H H' J:Hp} (s:SameB L H H') (t:SameB L H' J):SameB L H J:=fun b o n h=>t b o n (s b o n h)
theorem Same.b {L:Addr} {H H':Hp} (s:Same H H'):SameB L H H':=fun b o _ h=>s b o h
theorem SameB.acc {L acc:Addr} {H H':Hp} {o:HO} (s:SameB L H H') (h:H acc=none):SameB L H (upd H' acc o):=fun b u n q=>by rw[jar (jau q h)];exact s b u n q
theorem SameB.none {L b:Addr} {H H':Hp} (s:SameB L H H') (n:b≠L) (h:H' b=none):H b=none:=by
 cases e:H b with
 | none=>rfl
 | some o=>rw[s b o n e] at h;cases h
theorem SameB.set {L:Addr} {H:Hp} {o:HO}:SameB L H (upd H L o):=fun b u n h=>by rw[jar n];exact h
end L2
namespace L2
open PySem PyProof.Rows PySem.Calls
section
variable {X:Cx} {e st:Expr} {te ts:TE} {pos p2:Pos}
def jmn (K:PySem.W.Frag) (te ts:TE):TE:=fun σ H Q=>te σ H fun x H1=>ts σ H1 fun k H2=>k=.int (-1)/\∃a xs,x=.ref a/\SqL K H2 a xs/\∀p,H2 p=none->Q (.ref p) (upd H2 p (.lst xs.reverse))
theorem jen (he:PE X e te) (hs:PE X st ts):PE X (.Subscript e (.Slice none none (some st) p2) pos) (jmn X.K te ts):=by
 intro pins s σ H Q I h;refine Subscript_ (thn (he pins s σ H _ I h) fun v s1 ⟨x,H1,I1,r1,q1⟩=>?_);refine wpAny_Slice ?_;rw[evalPart_none];refine wpAny_pure (wpAny_pure ?_);rw[evalPart_some];refine thn (hs pins s1 σ H1 _ I1 q1) fun u s2 ⟨k,H2,I2,r2,q2⟩=>?_;obtain⟨rfl,a,xs,rfl,hx,q⟩:=q2;obtain⟨t,rfl⟩:=r2;cases r1;have I4:Inv X pins σ H2 { s2 with heap:=s2.heap.push { cls:=.type "slice",data:=.fields #[.none,.none,.int (-1) t] } }:=I2.kept (t':=s2.toks) fun b ob q=>Heap.get?_push_of_some _ q;obtain⟨its,r,ht,hz⟩:=I4.list hx;have hlen:=r.length;show wpAny (model X.prog X.w) X.A (subscriptTail e (.Slice none none (some st) p2) (.ref a) (.ref s2.heap.objs.size)) (EP X pins σ Q) X.xe { s2 with heap:=s2.heap.push { cls:=.type "slice",data:=.fields #[.none,.none,.int (-1) t] } };refine tail_any (ops:=[.ref a,.ref s2.heap.objs.size]) ht.isList.typeIs slot_list_getitem.lookup ?_ (by with_unfolding_all rfl);refine wpAny_getItem_list_slice ht.isList (Heap.IsSliceOf.new ..) .none .none (.int (-1) t) (by simp) ?_ (by rw[xag]<;>omega);rw[PySem.W.krv_pick];refine⟨.ref _,_,I4.laid (t':=s2.toks) (o:=.lst xs.reverse) (fun b ob q=>Heap.get?_push_of_some _ q) (xaj _) ?_,rfl,q _ (I4.hok.fresh (xaj _))⟩;exact⟨by rw[xaU];exact hz,_,0,r.reverse,Heap.get?_push_size _ rfl⟩
end
end L2
namespace L2
open PySem PySem.Spec PyProof.Rows
section
variable {X:Cx} {tg:Expr}
def It3 (lo c:Int) (n:Nat):It:=⟨fun i _=>i<n,fun i H x H'=>H'=H/\x=.int (lo+i*c),fun i _=>n<=i⟩
def iRng3 (ta:TA):TI:=fun σ H R=>ta σ H fun vs H1=>∃i j c:Int,vs=[.int i,.int j,.int c]/\(-(2^30)<=i/\i<2^30/\-(2^30)<=j/\j<2^30/\1<=c/\c<2^30)/\R (It3 i c (Builtin.Range.rangeSize i j c).toNat) H1
end
end L2
namespace L2
section
variable {K:PySem.W.Frag} {tl:TE} {ta:TA} {ix:List Nat} {g:TG} {tt:TT} {te:TE} {σ:St} {H:Hp} {Q:VK}
theorem jgM:jfS (iRng3 ta) ix g tt te σ H Q=ta σ H fun vs H1=>∃i j c:Int,vs=[.int i,.int j,.int c]/\(-(2^30)<=i/\i<2^30/\-(2^30)<=j/\j<2^30/\1<=c/\c<2^30)/\∀acc,H1 acc=none->CompGo (It3 i c (PySem.Builtin.Range.rangeSize i j c).toNat) (jaN σ ix) g tt te acc (fun H'=>Q (.ref acc) H') H1:=rfl
end
end L2
namespace L2
open PySem PySem.Spec PyProof.Rows
theorem jfk {M:Model} {A:Around} {E:Value->Shared->Prop} {s:Shared} {scope:Scope} {globals:Addr} {cl:List (Str × Addr)} {qual:Str} {env:Env} {Q:Env->Shared->Prop}
  (hQ:Q (newEnv scope s.heap.objs.size globals (cellsFrom (s.heap.objs.size+1) scope.names cl) qual none .none (some env) builtinsNs) { s with heap:=pushCells (s.heap.push { cls:=.type "dict",data:=.dict #[] }) scope.names }) :
  wpAny M A (newFunctionEnv scope globals cl [] qual none .none (some env)) Q E s:=by
 simp only[newFunctionEnv,Option.isSome_some,if_true];refine wpAny_bind (wpAny_alloc ?_);refine wpAny_bind (wpAny_layCells _ (fun name kind cells=>by cases hkc:kind==NameKind.cell<;>simp [hkc]) _ _ _ _ ?_);rw[show ({ s with heap:=s.heap.push { cls:=.type "dict",data:=.dict #[] } }:Shared).heap.objs.size=s.heap.objs.size+1 from Heap.size_push ..];rw[List.forIn_nil];exact wpAny_bind (wpAny_pure (wpAny_pure hQ))
structure CfOk (n:Nat) (cs:List (Str × Addr)):Prop where
 lt:∀y c,cs.lookup y=some c->c<n
 inj:∀x y c,cs.lookup x=some c->cs.lookup y=some c->x=y
theorem jk1 {n:Nat} {name:Str} {acc:List (Str × Addr)} (k:CfOk n acc):CfOk (n+1) ((name,n)::acc):=by
  refine⟨fun y c e=>?_,fun x y c e1 e2=>?_⟩
  . rw[xaw] at e
    cases z:y==name with
    | true=>rw[z] at e;cases e;exact xbB _
    | false=>rw[z] at e;exact xa4 (k.lt y c e)
  . rw[xaw] at e1 e2
    cases z1:x==name with
    | true =>
      cases z2:y==name with
      | true=>exact (beq_iff_eq.mp z1).trans (beq_iff_eq.mp z2).symm
      | false =>
        rw[z1] at e1;rw[z2] at e2;cases e1;exact absurd (k.lt y _ e2) (xaY _)
    | false =>
      cases z2:y==name with
      | true =>
        rw[z1] at e1;rw[z2] at e2;cases e2;exact absurd (k.lt x _ e1) (xaY _)
      | false =>
        rw[z1] at e1;rw[z2] at e2;exact k.inj x y c e1 e2
theorem jk2:∀(names:List (Str × NameKind)) (h:Heap) (acc:List (Str × Addr)),CfOk h.objs.size acc->CfOk (pushCells h names).objs.size (cellsFrom h.objs.size names acc)
  | [],_,_,k=>k
  | (name, kind) :: r, h, acc, k => by
    unfold pushCells cellsFrom;split
    . have z:=jk2 r (h.push { cls:=.type "cell",data:=.cell none }) ((name,h.objs.size)::acc) (by rw[Heap.size_push]; exact jk1 k)
      rwa [Heap.size_push] at z
    . exact jk2 r h acc k
theorem jgp:∀(names:List (Str × NameKind)) (h:Heap) (acc:List (Str × Addr)) (y:Str) (c:Addr),(cellsFrom h.objs.size names acc).lookup y=some c ->
    acc.lookup y=some c\/((y,NameKind.cell)∈names/\h.objs.size<=c/\(pushCells h names).IsCell c none)
  | [],_,_,_,_,e=>.inl e
  | (name, kind) :: r, h, acc, y, c, e => by
    unfold pushCells;unfold cellsFrom at e;by_cases hk:(kind==NameKind.cell)=true
    . rw[if_pos hk] at e |-
      rw[<- Heap.size_push (h:=h) (o:={ cls:=.type "cell",data:=.cell none })] at e;rcases jgp r _ _ y c e with z | ⟨z1,z2,z3⟩
      . rw[xaw] at z
        cases q:y==name with
        | true =>
          rw[q] at z;cases z;have e1:=beq_iff_eq.mp q;have e2:=beq_iff_eq.mp hk;subst e1;subst e2;refine .inr ⟨xaL,xaj _,⟨_,pushCells_keeps r _ _ _ (Heap.get?_push_size _ rfl),rfl⟩⟩
        | false =>
          rw[q] at z;exact .inl z
      . rw[Heap.size_push] at z2
        exact .inr ⟨xar _ z1,by omega,z3⟩
    . rw[if_neg hk] at e |-
      rcases jgp r h acc y c e with z | ⟨z1,z2,z3⟩
      . exact .inl z
      . exact .inr ⟨xar _ z1,z2,z3⟩
theorem jfY:∀(names:List (Str × NameKind)) (n:Nat) (acc:List (Str × Addr)) (y:Str),(y,NameKind.cell)∉names->(cellsFrom n names acc).lookup y=acc.lookup y
  | [],_,_,_,_=>rfl
  | (name, kind) :: r, n, acc, y, hn => by
    unfold cellsFrom;have hr:(y,NameKind.cell)∉r:=fun z=>hn (xar _ z);by_cases hk:(kind==NameKind.cell)=true
    . rw[if_pos hk,jfY r _ _ y hr,xaw]
      cases q:y==name with
      | true =>
        have e1:=beq_iff_eq.mp q;have e2:=beq_iff_eq.mp hk;subst e1;subst e2;exact absurd xaL hn
      | false=>rfl
    . rw[if_neg hk,jfY r _ _ y hr]
theorem jfZ:∀(names:List (Str × NameKind)) (n:Nat) (acc:List (Str × Addr)) (y:Str),(y,NameKind.cell)∈names->∃c,(cellsFrom n names acc).lookup y=some c/\n<=c
  | (name, kind) :: r, n, acc, y, hy => by
    unfold cellsFrom;by_cases hr:(y,NameKind.cell)∈r
    . by_cases hk:(kind==NameKind.cell)=true
      . rw[if_pos hk]
        obtain⟨c,h1,h2⟩:=jfZ r (n+1) ((name,n)::acc) y hr;exact⟨c,h1,by omega⟩
      . rw[if_neg hk]
        exact jfZ r n acc y hr
    . rcases xad.mp hy with z | z
      . cases z
        rw[if_pos (by rfl),jfY r _ _ _ hr,xaw];exact⟨n,by rw[beq_self_eq_true],xaj _⟩
      . exact absurd z hr
theorem jk3 {names:List (Str × NameKind)} {n:Nat} {acc:List (Str × Addr)} {y:Str} (h:∃c,acc.lookup y=some c):∃c,(cellsFrom n names acc).lookup y=some c:=by
 by_cases hy:(y,NameKind.cell)∈names
 ·obtain⟨c,h1,_⟩:=jfZ names n acc y hy;exact⟨c,h1⟩
 ·rw[jfY names n acc y hy];exact h
theorem jk4 {N:List Str} {sc cs:Scope}:∀{r:List Str} {ix:List Nat},Ixs N sc cs r ix->(∀y∈cs.names,y.2=.free->y.1∈r)->∀y∈cs.names,y.2=.free->sc.names.lookup y.1=some .cell\/sc.names.lookup y.1=some .free:=by
 intro r ix t h y hy hk;obtain⟨i,hi⟩:=xaP (h y hy hk);obtain⟨j,_,_,h2,_⟩:=t.get hi;exact h2
structure CompScopeC (N:List Str) (sc:Scope) (N':List Str) (ix:List Nat) (x:Str) (r:List Str) (cs:Scope):Prop where
 eq:N'=x::r
 kind:cs.kind=.function
 hown:∀y∈cs.names,y.2=.cell->cs.names.lookup y.1=some .cell
 hnames:∀y∈cs.names,y.2=.local->cs.names.lookup y.1=some .local
 nd:(x::r).Nodup
 fr:∀y∈cs.names,y.2=.free->sc.names.lookup y.1=some .cell\/sc.names.lookup y.1=some .free
 ixs:Ixs N sc cs r ix
theorem CompScope.nest {N:List Str} {sc:Scope} {N':List Str} {ix:List Nat} {x:Str} {r:List Str} {cs:Scope} (eq:N'=x::r) (kind:cs.kind=.function) (hcell:∀y∈cs.names,y.2≠.cell) (hnames:∀y∈cs.names,y.2=.local->cs.names.lookup y.1=some .local)
  (hx:cs.names.lookup x=some .local) (nd:(x::r).Nodup) (h:∀y∈cs.names,y.2=.free->y.1∈r) (ixs:Ixs N sc cs r ix):CompScope N sc N' ix x r cs:=⟨eq,kind,hcell,hnames,hx,nd,jk4 ixs h,ixs⟩
theorem CompScopeC.nest {N:List Str} {sc:Scope} {N':List Str} {ix:List Nat} {x:Str} {r:List Str} {cs:Scope} (eq:N'=x::r) (kind:cs.kind=.function) (hown:∀y∈cs.names,y.2=.cell->cs.names.lookup y.1=some .cell) (hnames:∀y∈cs.names,y.2=.local->cs.names.lookup y.1=some .local)
  (nd:(x::r).Nodup) (h:∀y∈cs.names,y.2=.free->y.1∈r) (ixs:Ixs N sc cs r ix):CompScopeC N sc N' ix x r cs:=⟨eq,kind,hown,hnames,nd,jk4 ixs h,ixs⟩
def jaS (X:Cx) (N':List Str) (cs:Scope) (cl:List (Str × Addr)) (s3:Shared) (H3:Hp) (fp:List Addr):Cx :=
 { X with N:=N',s₀:=s3,H₀:=H3,env:=compEnvC cs (cellsFrom (s3.heap.objs.size+1) cs.names cl) s3.heap.objs.size X.env,outer:=X.stack,stack:=X.stack,ex:=fp,fn:=fun y=>cs.names.lookup y==some .cell,pn:=[],xe:=fun _ _=>False }
theorem jdl {env:Env} {cs:Scope} {y:Str} {k:NameKind} (h:(relabel cs env).names.lookup y=some k) (hk:k=.cell\/k=.free):(y,NameKind.free)∈cs.names\/(y,NameKind.cell)∈cs.names:=by
 have m:=PySem.mem_of_lookup h;obtain⟨⟨n,k0⟩,h1,h2⟩:=xaC.mp m;by_cases c:(k0==NameKind.free&&env.scope.kind==.function&&env.kindOf n==some .cell)=true
 ·have h2':(n,NameKind.cell)=(y,k):=by rw[<- h2];exact (if_pos c).symm
  cases h2';have:k0=.free:=by
   have z:=(xba.mp (xba.mp c).1).1;exact beq_iff_eq.mp z
  rw[this] at h1;exact .inl h1
 ·have h2':(n,k0)=(y,k):=by rw[<- h2];exact (if_neg c).symm
  cases h2';rcases hk with rfl | rfl
  ·exact .inr h1
  ·exact .inl h1
section
variable {X:Cx} {pins:List (Addr × Obj)} {σ:St} {H:Hp} {s:Shared}
theorem Inv.cfs {cs:Scope} {cl:List (Str × Addr)} (I:Inv X pins σ H s) (h2:∀y c,cl.lookup y=some c->X.env.cells.lookup y=some c) :
  CfOk (pushCells (s.heap.push { cls:=.type "dict",data:=.dict #[] }) cs.names).objs.size (cellsFrom (s.heap.objs.size+1) cs.names cl) /\
  ∀y c,(cellsFrom (s.heap.objs.size+1) cs.names cl).lookup y=some c->X.env.cells.lookup y=some c\/((y,NameKind.cell)∈cs.names/\s.heap.objs.size+1<=c/\(pushCells (s.heap.push { cls:=.type "dict",data:=.dict #[] }) cs.names).IsCell c none):=by
 have e:s.heap.objs.size+1=(s.heap.push { cls:=.type "dict",data:=.dict #[] }).objs.size:=(Heap.size_push ..).symm;rw[e];refine⟨jk2 _ _ _ ⟨fun y c q=>?_,fun a b c ha hb=>I.ok.inj a b c (h2 a c ha) (h2 b c hb)⟩,fun y c q=>?_⟩
 ·obtain⟨v,o,ho,_⟩:=I.cell y c (h2 y c q);rw[<- e];exact xa4 (Heap.lt_size ho)
 ·rcases jgp _ _ _ y c q with z | z
  ·exact .inl (h2 y c z)
  ·exact .inr z
end
section
variable {X:Cx} {N' r:List Str} {ix:List Nat} {x:Str} {cs:Scope} {tg iter elt:Expr} {ifs:List Expr} {pos:Pos} {wi:TI} {g:TG} {tt:TT} {te:TE}
theorem CompScopeC.clos {sc:Scope} {N:List Str} (S:CompScopeC N sc N' ix x r cs) {env:Env} (he:env.scope=sc) (has:∀y,(env.kindOf y=some .cell\/env.kindOf y=some .free)->∃c,env.cells.lookup y=some c) :
  ∃cl:List (Str × Addr),closureFor cs env=pure cl/\(∀y c,cl.lookup y=some c->env.cells.lookup y=some c)/\(∀y,(y,NameKind.free)∈cs.names->∃c,cl.lookup y=some c) :=
 jdE fun y hy hk=>has y.1 (by
  subst he;exact S.fr y hy hk)
end
end L2
namespace L2
open PySem PyProof.Rows
end L2
namespace L2
open PySem PySem.Spec PyProof.Rows
def Ite (K:PySem.W.Frag) (a:Addr):It :=
 ⟨fun i H=>∃xs x,SqL K H a xs/\xs[i]?=some x,fun i H x H'=>∃T v,x=.ref T/\H T=none/\H'=upd H T (.tup [.int i,v])/\∀xs,SqL K H a xs->xs[i]?=some v,fun i H=>∃xs,SqL K H a xs/\xs.length<=i⟩
section
variable {X:Cx} {elts:List Expr} {x1:Nat} {tpos:Pos}
def iEnum (K:PySem.W.Frag) (ta:TA):TI:=fun σ H R=>ta σ H fun vs H1=>∃a,vs=[.ref a]/\(∃xs,SqL K H1 a xs)/\R (Ite K a) H1
end
section
variable {K:PySem.W.Frag} {ta:TA} {tl:TE} {g:TG} {tb:TS} {D:Ends} {σ:St} {H:Hp}
theorem jj7:jkG (iEnum K ta) g tb D σ H=ta σ H fun vs H1=>∃a,vs=[.ref a]/\(∃xs,SqL K H1 a xs)/\jlM (Ite K a) g tb D σ H1:=rfl
end
structure XCls (K:PySem.W.Frag) (C:Addr):Prop where
 cls:(PySem.W.clsIn K C).isSome=true
 ga:PySem.W.findIn K (.ref C) "__getattribute__"=some (some (.builtin "BaseException.__getattribute__"))
 gh:PySem.W.findIn K (.ref C) "__getattr__"=some none
 be:PySem.W.subIn K (.ref C) (.type "BaseException")=some true
 ca:PySem.W.findIn K (.ref C) "__class__"=some (some (.builtin "object.__class__"))
 cg:PySem.W.specialIn K (.builtin "object.__class__") "__get__"=some (some (.builtin "getset_descriptor.__get__"))
 ct:PySem.W.takesIn K (.builtin "object.__class__")=some true
 ob:PySem.W.mroIn K C (.type "object")=some true
section
variable {P:Program} {w:World} {H:Hp} {h h':Heap} {a:Addr} {o:HO}
theorem ObjOk.get (x:ObjOk P w H h a o):∃ob,h.get? a=some ob:=by
 cases o with
 | lst xs=>obtain⟨_,_,_,_,e⟩:=x;exact⟨_,e⟩
 | tup xs=>obtain⟨_,_,_,ob,e,_⟩:=x;exact⟨_,e⟩
 | dK kvs=>obtain⟨_,_,_,_,o,_,_,e,_⟩:=x;exact⟨_,e⟩
 | dT kvs=>obtain⟨_,_,_,_,o,_,_,e,_⟩:=x;exact⟨_,e⟩
 | set S n=>obtain⟨o,_,_,_,e,_⟩:=x;exact⟨_,e⟩
 | ins C dx fs=>obtain⟨_,_,_,e,_⟩:=x;exact⟨_,e⟩
 | own y=>exact x
 | xd fs=>obtain⟨_,⟨_,_,_,e,_⟩,_⟩:=x;exact⟨_,e⟩
 | rng lo hi=>obtain⟨_,_,_,e⟩:=x;exact⟨_,e⟩
 | frz ob u=>obtain⟨e,_⟩:=x;exact⟨_,e⟩
 | tbl ps=>exact⟨_,(show h.get? a=some _ from x)⟩
 | met f y=>exact⟨_,(show h.get? a=some _ from x)⟩
 | ext φ=>obtain⟨_,e,_⟩:=x;exact e
theorem HOk.freshN (x:HOk P w H h) (e:h.get? a=none):H a=none:=by
 cases q:H a with
 | none=>rfl
 | some u=>obtain⟨_,z⟩:=(x a u q).get;rw[e] at z;cases z
end
section
variable {X:Cx} {pins:List (Addr × Obj)} {σ:St} {H:Hp} {s:Shared} {h':Heap} {C:Addr} {x:Str} {p pos:Pos} {e:Expr} {es:List Expr} {t:TA}
theorem jmo {P:Program} {w:World} {h:Heap} {a:Addr} {φ:Obj->Prop} {ob:Obj} (e:h.get? a=some ob) (q:φ ob):ObjOk P w H h a (.ext fun h=>∃o,h.get? a=some o/\φ o) :=
 ⟨⟨ob,e,q⟩,⟨ob,e⟩,fun h1 h2 ⟨o,e1,q1⟩ k=>⟨o,k o e1,q1⟩⟩
end
section
open PySem.W PySem.Calls PySem.Builtin PySem.Builtin.ObjectAttr
variable {prog:Program} {w:World} {A:Around} {K:PySem.W.Frag} {x C:Addr} {ox:Obj} {od:Option Obj} {s:Shared} {name:Str} {tk:Tok} {v:Value} {R:Result->Shared->Prop}
end
theorem jim {a:Expr} {f:Str} {jbt:List Expr} {pos:Pos} {env:Env}:starEach (.Attribute a f pos::jbt) env=(false,eval (.Attribute a f pos) env)::starEach jbt env:=by rfl
def TyAt (h:Heap) (x C:Addr):Prop:=∃ox,h.get? x=some ox/\ox.cls=.ref C
theorem TyAt.type {M:Model} {h:Heap} {x C:Addr} (I:TyAt h x C):PySem.W.Looks M h (typeOf (.ref x)) (.ref C):=by
 obtain⟨ox,e,c⟩:=I;exact c▸(PySem.W.Looks.ld e).andThen .now
section
open PySem.W PySem.Calls PySem.Builtin PySem.Builtin.ObjectAttr PySem.Builtin.Getset_descriptor
variable {prog:Program} {w:World} {A:Around} {E:Value->Shared->Prop} {K:PySem.W.Frag} {x C:Addr} {s:Shared} {name:Str} {tk:Tok} {v:Value}
theorem jhz {R:Result->Shared->Prop} {tp:Value} (X:K.In s.heap) (I:TyAt s.heap x C) (hm:mroIn K C (.type "object")=some true)
  (h:R (.ok (.ret (.ref C))) s):codeAny (model prog w) A (.call (.builtin "getset_descriptor.__get__") ⟨[.builtin "object.__class__",.ref x,tp],[]⟩) R s:=by
 obtain⟨hh,g,dr,t,os⟩:=s;have L0:=I.type (M:=model prog w);have L1:=looks_mroIn (M:=model prog w) X hm;refine codeAny_call_builtin KF.slot_gs.plain KF.entry_gs (KF.slot_gs.check _ _ _ _ _ _ _ _ KF.type_class (KF.args_gs _ _ _) ?_);unfold Builtin.«getset_descriptor.__get__» descrGet;rw[dga_obj];refine wpAny_bind (wpAny_pure ?_);unfold descrGetter descrCheckInstance descrNameAndClass isInstance;simp only[KF.owner_class]
 repeat lk
 refine⟨Code.quiet_builtin _ (by decide +kernel),codeAny_builtin KF.entry_class ?_⟩;unfold Builtin.«object.__class__» shownTypeOf
 repeat lk
 exact h
theorem jhA {M:Model} {h:Heap} (X:K.In h) (Z:XCls K C):Looks M h (find (.ref x) (.ref C) "__class__") (.bind (.builtin "getset_descriptor.__get__") (.builtin "object.__class__")):=by
 have L1:=looks_findIn (M:=M) X Z.ca;have L2:Looks M h (getOf (some (.builtin "object.__class__"))) (some (.builtin "getset_descriptor.__get__")):=looks_specialIn X Z.cg;have L3:=looks_takesIn (M:=M) X Z.ct;refine L1.andThen (L2.andThen ?_);exact (show Looks M h (dataDescriptor? (some (.builtin "object.__class__")) (some (.builtin "getset_descriptor.__get__"))) (some (.builtin "getset_descriptor.__get__",.builtin "object.__class__")) from L3.andThen .now).andThen (Looks.tag .now)
theorem jhB {M:Model} {nameV:Value} {Q:Unit->Shared->Prop} (X:K.In s.heap) (Z:XCls K C) (I:TyAt s.heap x C) (hq:Q () s) :
  wpAny M A (checkBuiltinCall "BaseException.__getattribute__" ⟨[.ref x,nameV],[]⟩) Q E s:=by
 have hk:builtinKind "BaseException.__getattribute__"=some .slot:=by decide +kernel
 have hsplit:splitId "BaseException.__getattribute__"=some ("BaseException","__getattribute__"):=by decide +kernel
 have ha:=PySem.F.args_bexc_ga (.ref x) nameV;have L0:=I.type (M:=M);have L1:=PySem.W.looks_subIn (M:=M) X Z.be;obtain⟨h,g,d,t,os⟩:=s;simp only[checkBuiltinCall,hk,hsplit];refine wpAny_bind ?_;unfold isInstance;refine wpAny_bind (L0.at (L1.at ?_))
 repeat (first | exact hq | wp_step)
theorem jhC {Q:Option Value->Shared->Prop} (X:K.In s.heap) (Z:XCls K C) (I:TyAt s.heap x C) (h:Q (some (.ref C)) { s with toks:=s.toks+1 }):wpAny (model prog w) A (getAttr? (.ref x) "__class__") Q E s:=by
 have FB:=PySem.F.excAttr_ValueError;have f3:=FB.ga.bind (.ref x);have hx2:(Value.builtin "BaseException.__getattribute__"==Value.builtin "object.__getattribute__")=false:=by decide +kernel
 have hx1:(onTheHeap (Value.ref C)&&Value.builtin "BaseException.__getattribute__"==Value.builtin "object.__getattribute__")=false:=by rw[hx2];rfl
 have L0:=I.type (M:=model prog w);have L1:=PySem.W.looks_findIn (M:=model prog w) X Z.ga;have L2:=PySem.W.looks_findIn (M:=model prog w) X Z.gh;have L3:=jhA (M:=model prog w) (x:=x) X Z;obtain⟨hh,g,d,t,os⟩:=s;unfold getAttr? getAttrBy? getAttrBy;refine wpAny_bind (wpAny_mkText (wpAny_bind (wpAny_attempt (wpAny_holding (wpAny_bind (L0.at (wpAny_bind (L1.at ?_))))))));show wpAny _ _ (if (onTheHeap (Value.ref C)&&Value.builtin "BaseException.__getattribute__"==Value.builtin "object.__getattribute__")=true then _ else _) _ _ _;rw[if_neg (by rw[hx1];exact xap)];unfold getAttrByItsOwn hookBefore;refine wpAny_bind ?_;show wpAny _ _ (typeLookup (.ref C) "__getattr__") _ _ _;refine L2.at ?_;refine wpAny_bind (wpAny_attempt (wpAny_holding ?_));unfold callGetattribute;rw[if_neg (by exact xap)];unfold boundAndCalled;refine wpAny_bind (wpAny_of_eq f3 ?_);refine wpAny_call (codeAny_call_builtin FB.ga.plain PySem.F.entry_bexc_ga (jhB (s:=⟨hh,g,d,t+1,os⟩) X Z I ?_));unfold Builtin.«object.__getattribute__»;refine wpAny_bind (wpAny_pure (wpAny_bind (wpAny_pure (wpAny_bind (L0.at (wpAny_bind (L3.at ?_)))))));show wpAny _ _ (holding [Value.builtin "object.__class__"] (call (.builtin "getset_descriptor.__get__") [.builtin "object.__class__",.ref x,.ref C]) >>= ret) _ _ _;exact wpAny_bind (wpAny_holding (wpAny_call (jhz (s:=⟨hh,g,d,t+1,os⟩) X I Z.ob (wpAny_pure (wpAny_pure (wpAny_pure h))))))
theorem jk5 (Z:XCls K C):PySem.W.KitX K (.ref x) (.ref C) (fun h=>TyAt h x C) where
 ty:=fun _ _ _ I=>I.type
 it:=fun _ _ X _=>by
  obtain⟨cdD,hcD⟩:=xbm.mp Z.cls;unfold PySem.W.clsIn at hcD;split at hcD
  ·rename_i c' d' cd' sl' ho
   intro A' Q' E' s' k q;unfold isType loadHead;exact wpAny_bind (wpAny_loadPart (k _ _ (X _ _ ho)) (wpAny_pure q))
  ·cases hcD
 ne:=fun h tp dd its n sl X htp=>by
  obtain⟨cdD,hcD⟩:=xbm.mp Z.cls;refine Bool.eq_false_iff.mpr fun q=>?_;have e:C=tp:=Value.ref.inj (beq_iff_eq.mp q);subst e;unfold PySem.W.clsIn at hcD;split at hcD
  ·rename_i c' d' cd' sl' ho
   have z:=(X _ _ ho).symm.trans htp;cases z
  ·cases hcD
 ca:=fun X I k=>jhC X Z I k
end
def jb8 (a C:Addr):HO:=.ext fun h=>∃o,h.get? a=some o/\o.cls=.ref C
section
variable {X:Cx} {pins:List (Addr × Obj)} {σ:St} {H:Hp} {s:Shared} {a C:Addr}
theorem jeo (I:Inv X pins σ H s) (e:H a=some (jb8 a C)):TyAt s.heap a C:=(show ObjOk X.prog X.w H s.heap a (jb8 a C) from I.hok a _ e).1
theorem jf0:∀{cs:List Addr} {its:List Value},Vals (cs.map V.ref) its->its=cs.map Value.ref
  | [],_,.nil=>rfl
  | c :: cs, _, .cons r t => by
    cases r;rw[xaJ,jf0 t]
theorem jf1:jc8 X (.builtin "isinstance") (fun xs H Q=>∃a C c b,xs=[.ref a,c]/\H a=some (jb8 a C)/\XCls X.K C /\
    ((∃ D, c = .ref D /\ PySem.W.kitOne X.K (.ref C) (.ref D) = some b) \/ (∃ T, c = .ty T /\ PySem.W.kitOne X.K (.ref C) (.type T) = some b) \/
      ∃(tp:Addr) (cs:List Addr),c=.ref tp/\H tp=some (.tup (cs.map V.ref))/\PySem.W.kitAny X.K (.ref C) (cs.map Value.ref)=some b)/\Q (.bl b) H):=by
  intro pins s σ H xs us Q I r h;obtain⟨a,C,c,b,rfl,ie,Z,e,q⟩:=h;obtain⟨u,w',rfl,r1,r2⟩:=jhT r;cases (show u=Value.ref a from r1);rcases e with ⟨D,rfl,e⟩ | ⟨T,rfl,e⟩ | ⟨tp,cs,rfl,et,e⟩
  . cases r2
    exact PySem.W.kia_one (jk5 Z) I.kIn (jeo I ie) e (fun z=>nomatch z) fun tk=>⟨.bl b,H,I.tok tk,rfl,q⟩
  . cases r2
    exact PySem.W.kia_one (jk5 Z) I.kIn (jeo I ie) e (fun z=>nomatch z) fun tk=>⟨.bl b,H,I.tok tk,rfl,q⟩
  . cases (show w'=Value.ref tp from r2)
    obtain⟨_,its,rv,⟨cl,dd,da,sl⟩,ho,hc,n,hd⟩:=(show ObjOk X.prog X.w H s.heap tp (.tup (cs.map V.ref)) from I.hok tp _ et);simp only at hc hd;subst hc hd;have ei:=jf0 rv;subst ei;exact PySem.W.kia_tup (jk5 Z) I.kIn (jeo I ie) ho e (fun z=>nomatch z) fun tk=>⟨.bl b,H,I.tok tk,rfl,q⟩
theorem jbD {K:PySem.W.Frag} (hK:X.K=K):jc8 X (.builtin "isinstance") (fun xs H Q=>∃a C c b,xs=[.ref a,c]/\H a=some (jb8 a C)/\XCls K C /\
    ((∃ D, c = .ref D /\ PySem.W.kitOne K (.ref C) (.ref D) = some b) \/ (∃ T, c = .ty T /\ PySem.W.kitOne K (.ref C) (.type T) = some b) \/
      ∃(tp:Addr) (cs:List Addr),c=.ref tp/\H tp=some (.tup (cs.map V.ref))/\PySem.W.kitAny K (.ref C) (cs.map Value.ref)=some b)/\Q (.bl b) H):=by
  subst hK;exact jf1
theorem Inv.track {o:HO} (I:Inv X pins σ H s) (hn:H a=none) (new:X.s₀.heap.get? a=none) (hl:a≠X.env.locals) (hc:∀x c,X.env.cells.lookup x=some c->c≠a) (hp:∀p∈X.pn++pins,p.1≠a)
  (ok:ObjOk X.prog X.w (upd H a o) s.heap a o):Inv X pins σ (upd H a o) s:=by
 have up:∀b u,H b=some u->upd H a o b=some u:=fun b u q=>by rw[jar (jau q hn)];exact q
 refine⟨I.ok,I.os,I.bare,⟨I.base.keep,I.base.slot,fun b v q n hx=>?_,I.base.there,fun b xs q=>up _ _ (I.base.tups b xs q),fun b u xs q=>up _ _ (I.base.frzs b u xs q),fun b ps q=>?_⟩,I.loc,I.cell,by rw[jar (Ne.symm hl)];exact I.free,
  fun x c q=>by rw[jar (hc x c q)];exact I.freeC x c q,fun p q=>?_,fun b u q=>?_,I.len⟩
 ·rw[jar (fun z=>by rw[z,new] at q;cases q)];exact I.base.free b v q n hx
 ·obtain⟨m,z⟩:=I.base.tbls b ps q;exact⟨m,up _ _ z⟩
 ·obtain⟨h1,h2,h3⟩:=I.pin p q;exact⟨h1,by rw[jar (hp p q)];exact h2,h3⟩
 ·by_cases hb:b=a
  ·subst hb;rw[upd_same] at q;cases q;exact ok
  ·rw[jar hb] at q;exact (I.hok b u q).stay (fun c v _ r=>r) (fun c r=>up _ _ r) fun c xs r=>up _ _ r
end
section
variable {X:Cx} {pins:List (Addr × Obj)} {σ:St} {H:Hp} {s:Shared}
theorem jfl {M:Model} {A:Around} {E:Value->Shared->Prop} {i:Nat} {n:Str} {pos:Pos} {Q:Unit->Shared->Prop} (I:Inv X pins σ H s) (hN:X.N.Nodup) (hi:X.N[i]?=some n) (hk:X.env.kindOf n=some .local)
  (h:∀s',Inv X pins (σ.set i none) H s'->Q () s'):wpAny M A (do bindName X.env n .none;unbindBehindTheSuite X.env n pos) Q E s:=by
 obtain⟨m,hn,hl⟩:=id I.loc;have hcls:(X.env.scope.kind==.class||(X.env.scope.kind==.module&&X.env.locals != X.env.globals))=false:=by rw[I.ok.kind];rfl
 have hiσ:i<σ.length:=by rw[I.len];exact (xan.mp hi).1
 have cne:=I.cne;refine wpAny_nameGoes_keeps hk hn hcls fun h' v hn' hs=>?_;refine h _ ⟨I.ok,I.os,I.bare,⟨fun b o e n hb hx=>?_,fun b o e n hb hx=>?_,I.base.free,fun b o e hx=>?_,I.base.tups,I.base.frzs,I.base.tbls⟩,⟨_,hn',fun j y v' e1 e2 e3=>?_⟩,fun y c e=>?_,I.free,I.freeC,fun p hp=>?_,fun b u e=>?_,by simpa using I.len⟩
 ·exact (hs.2 b (xau (xal (Heap.lt_size e) I.ok.above))).trans (I.base.keep b o e n hb hx)
 ·obtain⟨sl,e1⟩:=I.base.slot b o e n hb hx;exact⟨sl,(hs.2 b (xau (xal (Heap.lt_size e) I.ok.above))).trans e1⟩
 ·obtain⟨o',e1⟩:=I.base.there b o e hx;exact⟨o',(hs.2 b (xau (xal (Heap.lt_size e) I.ok.above))).trans e1⟩
 ·by_cases hj:j=i
  ·subst hj;rw[xbu hiσ] at e2;cases e2
  ·rw[xbD (Ne.symm hj)] at e2;obtain⟨u',r',q⟩:=hl j y v' e1 e2 e3;refine⟨u',r',?_⟩;rcases q with ⟨k,e⟩ | ⟨k,c,e,z⟩
   ·refine .inl ⟨k,?_⟩;have:y≠n:=fun e=>hj (je8 hN e1 (e▸hi));simp [this,e]
   ·exact .inr ⟨k,c,e,z.sameBut hs (cne y c e)⟩
 ·obtain⟨w',z⟩:=I.cell y c e;exact⟨w',z.sameBut hs (cne y c e)⟩
 ·obtain⟨e,n,ne,nf,d⟩:=I.pin p hp;exact⟨(hs.2 p.1 ne).trans e,n,ne,nf,d⟩
 ·have nl:∀c v,H c=some v->c≠X.env.locals:=fun c v q z=>by rw[z,I.free] at q;cases q
  refine (I.hok b u e).stay (fun c v hc r=>(hs.2 c ?_).trans r) (fun _ q=>q) fun _ _ q=>q;rcases hc with z | z
  ·rw[z];exact nl b u e
  ·exact nl c _ z
end
def Ends.gone (D:Ends) (i:Nat):Ends:={ nx:=fun σ H=>D.nx (σ.set i none) H,bk:=fun σ H=>D.bk (σ.set i none) H,ct:=fun σ H=>D.ct (σ.set i none) H,rt:=D.rt }
section
variable {X:Cx}
theorem jgN {c n:Str} {D₀:Addr} {i:Nat} {body:List Stmt} {b₀:Stmt} {suite:List Stmt} {tb:TSX} {th:TS} {np hpos pos:Pos} (T:Top1 X) (hg:Gl X c) (hm:X.mg c=some (.ref D₀)) (hN:X.N.Nodup) (hi:X.N[i]?=some n)
  (hkd:X.env.kindOf n=some .local) (hx:Loc X.env.scope n) (hb:PSX X body tb) (hs:∀e,PSs (X.caught e) (b₀::suite) th) (hdb:(c==("__debug__":Str))=false:=by decide)
  (hf:X.fn n=true\/X.env.scope.names.lookup n=some .local:=by first | exact .inl rfl | exact .inr rfl | assumption) :
  PS X (.Try body [.ExceptHandler (some (.Name c np)) (some n) (b₀::suite) hpos] [] [] pos) (fun D σ H=>tb D (fun σ1 cls _ H1=>∃C,cls=.ref C/\PySem.W.exmOne X.K (.ref C) (.ref D₀)=some true /\
   ∀ea,H1 ea=none->th (D.gone i) (σ1.set i (some (.ref ea))) (upd H1 ea (jb8 ea C))) σ H):=by
 intro pins s σ H D I h;refine wpAny_Try_except (wpAny_mono (hb pins s σ H D _ I h) (fun f s1 q=>?_) fun ex s' ⟨σ1,H1,s1,I1,hx'⟩=>?_)
 ·cases f with
  | next=>exact wpAny_execs_nil q
  | brk=>exact q
  | cont=>exact q
  | ret u=>exact q
 ·obtain⟨ea,C',a0,H',Bh,pd,rfl,fl,os,ba,un,hk,kb,tbb,dk,C,ec,em,q⟩:=hx';cases ec;have hfr:X.A.frames=some (X.env::X.outer):=by rw[<- T.stk];exact I1.ok.frames
  have ff:=fl.2.2.1;have hB:Bh.get? ea=none:=fl.2.1;have dat:∀h l,Heap.FlyingW Bh l ea (.ref C') a0 h->∃oe vs,h.get? ea=some oe/\oe.cls=.ref C'/\oe.data=.fields vs:=fun h l z=>by
   obtain⟨_,_,_,oe,vs,_,_,_,he,hc,hd,_⟩:=z;exact⟨oe,vs,he,hc.1,hd⟩
  have nofr:ea∉frs X.stack:=fun hb=>by
   obtain⟨_,o,e1,nf⟩:=ff.mem hb;obtain⟨oe,vs,e2,_,hd⟩:=dat _ _ fl;rw[e1] at e2;cases e2;exact nf vs hd
  have s1n:s1.heap.get? ea=none:=by
   cases z:s1.heap.get? ea with
   | none=>rfl
   | some o=>obtain⟨o',e⟩:=tbb ea o z nofr;rw[hB] at e;cases e
  have nx:∀b:Addr,b∉X.ex:=fun b z=>by rw[T.ex] at z;cases z
  have s0n:X.s₀.heap.get? ea=none:=by
   cases z:X.s₀.heap.get? ea with
   | none=>rfl
   | some o=>obtain⟨o',e⟩:=I1.base.there ea o z (nx ea);rw[s1n] at e;cases e
  have hn:H' ea=none:=hk.freshN hB;rw[T.stk] at fl;refine wpAny_looks_onW hfr T.frm fl fun h₄ held₄ sm₄=>?_;refine wpAny_landsW held₄ fun h₅ fl₅ sm₅'=>?_;have sm₅:=sm₄.trans sm₅';have I5:Inv X pins σ1 H' { s' with heap:=h₅ }:=I1.landed T os ba un hk kb tbb fl₅.1 sm₅ ff;obtain⟨ob,hob,hobc⟩:=fl₅.there;refine wpAny_handleBy_cons (codeAny_handlers_test (jdA (X:=X.caught (.ref ea)) (I5.caught (.ref ea)) hg hm ?_ hdb)) (by intro q;cases q);have LT:PySem.W.Looks (model X.prog X.w) h₅ (typeOf (.ref ea)) (.ref C'):=TyAt.type ⟨ob,hob,hobc⟩;refine PySem.W.Looks.here (s:={ s' with heap:=h₅ }) (PySem.W.exm_one I5.kIn LT em) ?_;refine codeAny_handlers_suite_as ?_;refine lands_againW fl₅ fun h₆ fl₆ sm₆=>?_;have I6:Inv X pins σ1 H' { s' with heap:=h₆ }:=I1.landed T os ba un hk kb tbb fl₆.1 (sm₅.trans sm₆) ff;obtain⟨oe,vs,he,hec,hed⟩:=dat _ _ fl₆;have I7:Inv X pins σ1 (upd H' ea (jb8 ea C')) { s' with heap:=h₆ }:=I6.track hn s0n (fun z=>nofr (T.mem.mpr (.inl z))) (fun y c e z=>by
    obtain⟨v,o,e1,e2⟩:=I6.cell y c e;rw[z] at e1;rw[he] at e1;cases e1;rw[hed] at e2;cases e2) (fun p hp z=>by
    obtain⟨e1,_⟩:=I1.pin p hp;rw[z,s1n] at e1;cases e1) (jmo (φ:=fun o=>o.cls=.ref C') he hec)
  refine jcN (X:=X.caught (.ref ea)) (I7.caught (.ref ea)) hN hi hx (v:=.ref ea) rfl (fun s8 I8=>?_) hf;refine wpAny_mono (hs (.ref ea) pins s8 _ _ (D.gone i) I8 (q ea hn)) (fun f s9 q9=>?_) fun _ _ z=>z.elim;have q9:=SP.uncaught I6.ok q9;cases f with
  | next=>obtain⟨a,b,J,z⟩:=q9;exact jfl J hN hi hkd fun s' J'=>⟨_,b,J',z⟩
  | brk=>obtain⟨a,b,J,z⟩:=q9;exact jfl J hN hi hkd fun s' J'=>⟨_,b,J',z⟩
  | cont=>obtain⟨a,b,J,z⟩:=q9;exact jfl J hN hi hkd fun s' J'=>⟨_,b,J',z⟩
  | ret u=>obtain⟨v,a,b,J,r,z⟩:=q9;exact jfl J hN hi hkd fun s' J'=>⟨v,_,b,J',r,z⟩
def jk6:V->List V->Hp->VK->Prop:=fun x vs H Q=>∃l xs y,∃i:Nat,x=.ref l/\vs=[.int (i:Int),y]/\H l=some (.lst xs)/\i<=xs.length/\xs.length<sizeLine/\i<1000000/\Q .non (upd H l (.lst (xs.take i++y::xs.drop i)))
theorem jin {xs:List V} {us:List Value} (r:Vals xs us):∀n,Vals (xs.take n) (us.take n)/\Vals (xs.drop n) (us.drop n):=by
  induction r with
  | nil=>intro n;cases n<;>exact⟨.nil,.nil⟩
  | cons h t ih =>
    intro n;cases n with
    | zero=>exact⟨.nil,.cons h t⟩
    | succ n=>exact⟨.cons h (ih n).1,(ih n).2⟩
theorem jio:MtM X "list.insert" jk6:=by
 intro pins s σ H x vs v us Q I rx rv h;obtain⟨l,xs,y,i,rfl,rfl,hH,hi,hz,hm,q⟩:=h;cases rx;obtain⟨u0,u,rfl,r0,ru⟩:=jhT rv;obtain⟨tk,rfl⟩:=r0;obtain⟨z,its,n,r,hl,e⟩:=I.lstM hH;have hf:Builtin.List.listFitsIndex (i:Int)=true:=by
  unfold Builtin.List.listFitsIndex;simp;omega
 have hsz:its.toArray.size<=sizeLine:=by rw[xag];omega
 have hnf:¬(!Builtin.List.listFitsIndex (i:Int))=true:=by rw[hf];exact xap
 have hj0:¬((i:Int)<0):=by omega
 have hj1:((i:Int)).toNat=i:=xbe i;generalize (i:Int)=j at hnf hj0 hj1 rv |-
 have M:=AutoSeq1.list_insert_list_int_val_1 l its.toArray n j tk u hnf hsz;refine call_meets F.slot_list_insert ⟨_,e,rfl⟩ F.entry_list_insert (F.args_list_insert_3 _ _ _) M ⟨e,?_⟩;refine⟨.non,_,I.lset (its':=its.take i++u::its.drop i) hH e ?_ (((jin r i).1).append (.cons ru (jin r i).2)) ?_,rfl,q⟩
 ·have hil:i<=its.length:=by omega
  simp only[if_neg hj0,hj1,xag,Nat.min_eq_left hil];simp;exact xbv (by simp)
 ·rw[xaf,xak,xav,xao];omega
end
def del (H:Hp) (q:Addr):Hp:=fun b=>if b=q then none else H b
@[elab_as_elim] theorem ja9 {C:Hp->Prop} {H:Hp} {p:Addr} {o:HO} (hp:H p=none) (k:∀J,Same H J->J p=some o->C J):C (upd H p o):=k _ (Same.new hp o) upd_same
theorem lt3 {i:Nat} (h:i<3):i=0\/i=1\/i=2:=by omega
section
variable {prog:Program} {w:World} {A:Around} {R:Result->Shared->Prop} {it Z:Addr} {fp wr:List Addr} {n:Nat} {P:Nat->Value->Prop} {St:Nat->Heap->Prop} {G:Heap->Prop}
def Stay (wr:List Addr) (Z:Addr) (h h':Heap):Prop:=∀b o,b∉wr->b≠Z->h.get? b=some o->h'.get? b=some o
theorem Stay.trans {h h' h'':Heap} (a:Stay wr Z h h') (b:Stay wr Z h' h''):Stay wr Z h h'':=fun c o x y e=>b c o x y (a c o x y e)
theorem Stay.set {h:Heap} {g:Obj->Obj}:Stay wr Z h (h.update Z g):=fun _ _ _ y e=>(Heap.get?_update_other _ _ (Ne.symm y)).trans e
def jmp (v:Value) (c:Nat):Obj:={ cls:=.type "list",dict:=none,data:=.seq #[v,v] c,slots:=#[] }
end
section
open PySem.AutoSeq1 (wpAny_loadPart')
open PySem.MeetsSeq3 (plain_eq_loop entry_eq_loop)
def jmq (dd:Option Addr) (sl:Array (Option Value)) (xs:Array Value) (n:Nat):Obj:={ cls:=.type "list",dict:=dd,data:=.seq xs n,slots:=sl }
end
structure CompScopeMC (N:List Str) (sc:Scope) (N':List Str) (ix:List Nat) (xs0:List Str) (r:List Str) (cs:Scope):Prop where
 eq:N'=xs0++r
 kind:cs.kind=.function
 hown:∀y∈cs.names,y.2=.cell->cs.names.lookup y.1=some .cell
 hnames:∀y∈cs.names,y.2=.local->cs.names.lookup y.1=some .local
 nd:(xs0++r).Nodup
 fr:∀y∈cs.names,y.2=.free->sc.names.lookup y.1=some .cell\/sc.names.lookup y.1=some .free
 ixs:Ixs N sc cs r ix
theorem CompScopeMC.nest {N:List Str} {sc:Scope} {N':List Str} {ix:List Nat} {xs0:List Str} {r:List Str} {cs:Scope} (eq:N'=xs0++r) (kind:cs.kind=.function) (hown:∀y∈cs.names,y.2=.cell→cs.names.lookup y.1=some .cell) (hnames:∀y∈cs.names,y.2=.local→cs.names.lookup y.1=some .local) (nd:(xs0++r).Nodup) (h:∀y∈cs.names,y.2=.free→y.1∈r) (ixs:Ixs N sc cs r ix):CompScopeMC N sc N' ix xs0 r cs:=⟨eq,kind,hown,hnames,nd,jk4 ixs h,ixs⟩
section
variable {X:Cx} {pins:List (Addr × Obj)} {σ:St} {H:Hp} {s:Shared}
theorem Inv.compOkMC {N' r:List Str} {ix:List Nat} {xs0:List Str} {cs:Scope} {cl:List (Str × Addr)} {fp:List Addr} (I:Inv X pins σ H s) (S:CompScopeMC X.N X.env.scope N' ix xs0 r cs)
  (h2:∀y c,cl.lookup y=some c->X.env.cells.lookup y=some c) (h3:∀y,(y,NameKind.free)∈cs.names->∃c,cl.lookup y=some c) (hf:∀b∈fp,jgA X pins H b) (hfp:∀b∈fp,b<s.heap.objs.size) :
  (jaS X N' cs cl s H fp).Ok where
 mod:=I.ok.mod
 kind:=S.kind
 glob:=I.ok.glob
 blt:=I.ok.blt
 above:=xaj _
 inj:=(I.cfs (cs:=cs) h2).1.inj
 has:=fun y hy=>by
  rcases hy.elim (fun z=>jdl z (.inl rfl)) fun z=>jdl z (.inr rfl) with z | z
  ·exact jk3 (h3 y z)
  ·obtain⟨c,h,_⟩:=jfZ cs.names (s.heap.objs.size+1) cl y z;exact⟨c,h⟩
 cab:=fun y c hy e=>by
  have z:cs.names.lookup y=some .cell:=beq_iff_eq.mp hy;obtain⟨c',h,hl⟩:=jfZ cs.names (s.heap.objs.size+1) cl y (PySem.mem_of_lookup z);have e':(cellsFrom (s.heap.objs.size+1) cs.names cl).lookup y=some c:=e;rw[h] at e';cases e';exact xaA (xbl _) hl
 hd:=I.ok.hd
 frames:=I.ok.frames
 stk:=.inl rfl
 exf:=fun b hb=>⟨xau (hfp b hb),fun y c e=>by
  rcases (I.cfs (cs:=cs) h2).2 y c e with z | ⟨_,z,_⟩
  ·exact (hf b hb).2.2.2.2.1 y c z
  ·exact Nat.ne_of_gt (xal (xa4 (hfp b hb)) z)⟩
 bs:=I.bs
 bsz:=xaA I.ok.bsz I.sz
 noex:=fun b o e hb=>by
  rcases (hf b hb).2.2.2.1 with z | z
  ·exact I.ok.noex b o e z
  ·exact absurd (xal (Heap.lt_size e) (xaA I.ok.bsz z)) (xaY _)
 exfs:=fun b hb hs=>by
  rcases xad.mp (I.stkSub b hs) with z | z
  ·exact (hf b hb).2.1 z
  ·exact (hf b hb).2.2.1 z
 funs:=I.stack
 frf:=I.stkFree
theorem Inv.compStartMC {N' r:List Str} {ix:List Nat} {xs0:List Str} {cs:Scope} {cl:List (Str × Addr)} {fp:List Addr} (I:Inv X pins σ H s) (S:CompScopeMC X.N X.env.scope N' ix xs0 r cs)
  (h2:∀y c,cl.lookup y=some c->X.env.cells.lookup y=some c) (h3:∀y,(y,NameKind.free)∈cs.names->∃c,cl.lookup y=some c) (hf:∀b∈fp,jgA X pins H b) (hfp:∀b∈fp,b<s.heap.objs.size) :
  Inv (jaS X N' cs cl s H fp) [] (List.replicate xs0.length none++jaN σ ix) H { s with heap:=pushCells (s.heap.push { cls:=.type "dict",data:=.dict #[] }) cs.names }:=by
 have ok:=I.compOkMC (N':=N') (fp:=fp) S h2 h3 hf hfp;obtain⟨mo,hno,hlo⟩:=id I.loc;have hk:∀b o,s.heap.get? b=some o->(pushCells (s.heap.push { cls:=.type "dict",data:=.dict #[] }) cs.names).get? b=some o:=fun b o e=>pushCells_keeps _ _ _ _ (Heap.get?_push_of_some _ e);have cf:=(I.cfs (cs:=cs) h2).2;refine⟨ok,rfl,I.bare,Un.kept hk,⟨fun _=>none,(Heap.Ns.new s.heap (.type "dict")).keeps (pushCells_keeps _ _),fun i y v e1 e2 e3=>?_⟩,fun y c e=>?_,I.hok.fresh (xaj _),fun y c e=>?_,fun p hp=>absurd (show p∈([]:List (Addr × Obj)) from hp) (by simp),I.hok.kept hk,?_⟩
 ·by_cases hi:i<xs0.length
  ·rw[xaD (by rw[xaV];exact hi),xbq,if_pos hi] at e2;cases e2
  ·have e1':r[i-xs0.length]?=some y:=by
    have:N'[i]?=some y:=e1;rw[S.eq,xaG (by omega)] at this;exact this
   have e2:(jaN σ ix)[i-xs0.length]?=some (some v):=by
    rw[xaG (by rw[xaV];omega),xaV] at e2;exact e2
   obtain⟨j,j1,j2,j3,j4⟩:=S.ixs.get e1';obtain⟨j',k1,k2⟩:=jej (σ:=σ) (ix:=ix) (i:=i-xs0.length) (v:=v) e2;rw[j1] at k1;cases k1;obtain⟨u,ru,lk⟩:=hlo j y v j2 k2 (j3.elim (fun z=>.inr (.inl z)) fun z=>.inr (.inr z));refine⟨u,ru,?_⟩;obtain⟨c,hc⟩:=h3 y (PySem.mem_of_lookup j4);rcases lk with ⟨k,_⟩ | ⟨k,c',e',z⟩
   ·have k':X.env.scope.names.lookup y=some .local:=k;rcases j3 with q | q<;>(rw[q] at k';cases k')
   ·rw[h2 y c hc] at e';cases e';refine .inr ⟨?_,c,?_,?_⟩
    ·exact jbh (env:=X.env) j4
    ·have no:(y,NameKind.cell)∉cs.names:=fun q=>by
      have:=S.hown _ q rfl;rw[j4] at this;cases this
     show (cellsFrom (s.heap.objs.size+1) cs.names cl).lookup y=some c;rw[jfY _ _ _ y no];exact hc
    ·obtain⟨o,ho,hd⟩:=z;exact⟨o,hk c o ho,hd⟩
 ·rcases cf y c e with z | ⟨_,_,z⟩
  ·obtain⟨v,o,ho,hd⟩:=I.cell y c z;exact⟨v,o,hk c o ho,hd⟩
  ·exact⟨none,z⟩
 ·rcases cf y c e with z | ⟨_,z,_⟩
  ·exact I.freeC y c z
  ·exact I.hok.fresh (xaA (xbl _) z)
 ·show (List.replicate xs0.length none++jaN σ ix).length=N'.length;rw[S.eq,xaf,xaf,xaV,S.ixs.len];unfold jaN;rw[xaa]
theorem jb9 {N' r:List Str} {ix:List Nat} {xs0:List Str} {cs:Scope} {cl:List (Str × Addr)} {tg iter elt:Expr} {ifs:List Expr} {pos:Pos} {J:It} {fp:List Addr} {it:Addr} {tn:Nat->Heap->Prop} {g:TG} {tt:TT} {te:TE} {Z:Addr->Hp->Prop}
    {RR:Value->Addr->Result->Shared->Prop} {E:Value->Shared->Prop}
    (I:Inv X pins σ H s) (hc:X.calm=true) (S:CompScopeMC X.N X.env.scope N' ix xs0 r cs) (h2:∀y c,cl.lookup y=some c->X.env.cells.lookup y=some c) (h3:∀y,(y,NameKind.free)∈cs.names->∃c,cl.lookup y=some c)
    (T:Turn X.prog X.w X.K tg J fp it tn) (st:tn 0 s.heap) (hf:∀b∈fp,jgA X pins H b)
    (hg:∀s3 H3,PG (jaS X N' cs cl s3 H3 fp) tg g) (ht:∀s3 H3,PTs (jaS X N' cs cl s3 H3 fp) ifs tt) (he:∀s3 H3,PE (jaS X N' cs cl s3 H3 fp) elt te)
    (go:∀acc,H acc=none->jdH J xs0.length (jaN σ ix) g tt te acc (Z acc) H)
    (fin:∀acc C s' H' m,Inv X pins σ H' s'->jgA X pins H' C->s'.heap.Ns C m->Z acc H'->RR (.ref acc) C (.ok .next) s') :
    wpAny (model X.prog X.w) X.A (newList []) (fun acc s₃=>wpAny (model X.prog X.w) X.A (newFunctionEnv cs X.env.globals cl [] X.env.qual none .none (some X.env)) (fun cenv s₄ =>
      codeAny (model X.prog X.w) X.A (.compStart (.ListComp elt [⟨tg,iter,ifs,0⟩] cs pos) 0 (.ref it) acc { cenv with scope:=relabel cs X.env }) (RR acc cenv.locals) s₄) E s₃) E s:=by
  refine wpAny_newObj_type (jfk ?_);dsimp only;have hfs:∀b∈fp,b<s.heap.objs.size:=fun b hb=>by
    obtain⟨o,e,_⟩:=T.obj _ _ st b hb;exact Heap.lt_size e
  have I3:Inv X pins σ (upd H s.heap.objs.size (.lst [])) { s with heap:=s.heap.push { cls:=.type "list",data:=.seq ([]:List Value).toArray } }:=I.lnew (its:=[]) (t':=s.toks) .nil (xaT _);have nacc:H s.heap.objs.size=none:=I.fresh;have hf3:∀b∈fp,jgA X pins (upd H s.heap.objs.size (.lst [])) b:=fun b hb=>⟨by rw[jar (xau (hfs b hb))];exact (hf b hb).1,(hf b hb).2⟩;have hfs3:∀b∈fp,b<(s.heap.push { cls:=.type "list",data:=.seq ([]:List Value).toArray }).objs.size:=fun b hb=>by
    rw[Heap.size_push];exact xa4 (hfs b hb)
  generalize hs3:({ s with heap:=s.heap.push { cls:=.type "list",data:=.seq ([]:List Value).toArray } }:Shared)=s3 at I3;generalize hH3:upd H s.heap.objs.size (.lst [])=H3 at I3 hf3;have eh:s.heap.push { cls:=.type "list",data:=.seq ([]:List Value).toArray }=s3.heap:=by rw[<- hs3]
  rw[eh] at hfs3;have I4:Inv (jaS X N' cs cl s3 H3 fp) [] (List.replicate xs0.length none++jaN σ ix) H3 { s3 with heap:=pushCells (s3.heap.push { cls:=.type "dict",data:=.dict #[] }) cs.names } :=
    I3.compStartMC S h2 h3 hf3 hfs3
  have cf:=(I3.cfs (cs:=cs) h2).2;have kp2:∀b o,s.heap.get? b=some o->(pushCells (s3.heap.push { cls:=.type "dict",data:=.dict #[] }) cs.names).get? b=some o:=fun b o e=>pushCells_keeps _ _ _ _ (Heap.get?_push_of_some _ (by rw[<- eh];exact Heap.get?_push_of_some _ e));have st4:tn 0 (pushCells (s3.heap.push { cls:=.type "dict",data:=.dict #[] }) cs.names):=T.keep _ _ _ st fun b hb o e=>kp2 b o e;obtain⟨W,⟨m0,w0⟩,turn⟩:=go s.heap.objs.size nacc;rw[hH3] at w0;have stat:∀{H':Hp},(∀b∈fp,H' b=none)->∀b∈fp,jgA (jaS X N' cs cl s3 H3 fp) [] H' b:=fun hn b hb =>
    ⟨hn b hb,xau (hfs3 b hb),fun hs=>by
      rcases xad.mp (I.stkSub b hs) with z | z
      . exact (hf b hb).2.1 z
      . exact (hf b hb).2.2.1 z,.inl hb,fun y c e=>by
        rcases cf y c e with z | ⟨_,z,_⟩
        . exact (hf b hb).2.2.2.2.1 y c z
        . exact Nat.ne_of_gt (xal (xa4 (hfs3 b hb)) z),fun p hp=>absurd (show p∈([]:List (Addr × Obj)) from hp) (by simp)⟩
  have es:s3.heap.objs.size=s.heap.objs.size+1:=by rw[<- eh,Heap.size_push]
  have loop:codeAny (model X.prog X.w) X.A (.compLoop (.ListComp elt [⟨tg,iter,ifs,0⟩] cs pos) 0 (.ref it) (.ref s.heap.objs.size) (jaS X N' cs cl s3 H3 fp).env)
      (RR (.ref s.heap.objs.size) s3.heap.objs.size) { s3 with heap:=pushCells (s3.heap.push { cls:=.type "dict",data:=.dict #[] }) cs.names }:=by
    refine jfR (fun n s'=>∃i v0 H' xs,v0.length=xs0.length/\Inv (jaS X N' cs cl s3 H3 fp) [] (v0++jaN σ ix) H' s'/\tn i s'.heap/\(∀b∈fp,H' b=none)/\W i n xs H') ?_ m0
      ⟨0,List.replicate xs0.length none,H3,[],xaV,I4,st4,fun b hb=>(hf3 b hb).1,w0⟩
    rintro n s5 ⟨i,v0,H5,xs,l5,I5,st5,fr5,w5⟩;rcases turn i n xs H5 w5 with ⟨stop,q⟩ | ⟨hgo,Nx,Nn,hNx,hNn,step⟩
    . refine thn (T.done (jaS X N' cs cl s3 H3 fp) rfl rfl rfl hc i [] s5 _ H5 _ I5 (stat fr5) st5 stop) fun r' s6 ⟨hr,I6⟩=>?_
      subst hr;have u:Un (frs X.stack) fp H H5 s.heap s6.heap:=by
        refine Un.trans (H1:=H3) (h1:=s3.heap) ?_ I6.base;rw[<- hH3,<- eh];exact Un.laid (fun _ _ q=>Heap.get?_push_of_some _ q) (xaj _) nacc
      have e3:s3.os=s.os:=by rw[<- hs3]
      have os6:s6.os=s.os:=I6.os.trans e3;have J6:Inv X pins σ H5 s6:=I.call' os6 u I6.hok I6.bare fun b hb=>⟨(hf b hb).2.2.2.1,(hf b hb).2.1,(hf b hb).2.2.2.2.1,(hf b hb).2.2.2.2.2⟩;obtain⟨m6,n6,_⟩:=I6.loc;exact fin _ _ s6 H5 m6 J6 (I.fpOk (by rw[es];exact xbl _) I6.free) n6 q
    . refine thn (T.item (jaS X N' cs cl s3 H3 fp) rfl rfl rfl hc i [] s5 _ H5 _ I5 (stat fr5) st5 hgo) fun r' s6 ⟨u,hr,h6⟩=>?_
      subst hr;refine thn h6 fun _ s7 ⟨y,H7,I7,r7,y7,st7,fr7⟩=>?_;have I7':=I7.pinned (stat fr7) (T.obj _ _ st7);refine wpAny_mono (hg s3 H3 _ s7 _ H7 y u _ I7' r7 (step v0 y H7 l5 y7)) (fun _ s8 ⟨σ8,H8,I8,⟨v8,l8,e8⟩,q8⟩=>?_) fun _ _ z=>z.elim;subst e8;have back:∀{s9:Shared} {H9:Hp} {m':Nat} {xs':List V},Inv (jaS X N' cs cl s3 H3 fp) ([]++jfH fp s7.heap) (v8++jaN σ ix) H9 s9->m'<n->W (i+1) m' xs' H9 ->
          ∃m,m<n/\∃i v0 H' xs,v0.length=xs0.length/\Inv (jaS X N' cs cl s3 H3 fp) [] (v0++jaN σ ix) H' s9/\tn i s9.heap/\(∀b∈fp,H' b=none)/\W i m xs H':=fun {s9 H9 m' xs'} I9 hm w9 =>
        ⟨m',hm,i+1,v8,H9,xs',l8,I9.unpinned,T.keep _ _ _ st7 fun b hb o e=>(I9.pin (b,o) (xaz _ (xaz _ (jcO hb e)))).1,fun b hb=>by
          obtain⟨o,e,d⟩:=T.obj _ _ st7 b hb;exact (I9.pin (b,o) (xaz _ (xaz _ (jcO hb e)))).2.1,w9⟩
      refine thn (ht s3 H3 _ _ s8 _ H8 _ (fun _ _ z=>z.elim) I8 q8) fun b s9 ⟨H9,I9,q9⟩=>?_;cases b with
      | false =>
        rw[if_neg xap] at q9 |-
        obtain⟨m',hm,w9⟩:=hNn H9 q9;exact back I9 hm w9
      | true =>
        rw[if_pos rfl] at q9 |-
        refine wpAny_mono (he s3 H3 _ s9 _ H9 _ I9 q9) (fun u2 s10 ⟨y2,H10,I10,r10,q10⟩=>?_) fun _ _ z=>z.elim;obtain⟨a10,z10,m',hm,w10⟩:=hNx y2 H10 q10;refine wpAny_mono (jbr (X:=jaS X N' cs cl s3 H3 fp) _ s10 _ H10 (.ref s.heap.objs.size) [y2] (.ref s.heap.objs.size) [u2] (fun _ H'=>H'=upd H10 s.heap.objs.size (.lst (xs++[y2]))) I10 rfl (.cons r10 .nil) ⟨_,xs,y2,rfl,rfl,a10,z10,rfl⟩) (fun _ s11 ⟨_,H11,I11,_,e11⟩=>?_) fun _ _ z=>z.elim;subst e11;exact back I11 hm w10
  subst hs3;exact codeAny_compStart_list loop (T.self X.A 0 _ _ _ st4 loop)
end
section
variable {X:Cx} {N' r xs0:List Str} {ix:List Nat} {cs:Scope} {tg iter elt:Expr} {ifs:List Expr} {pos:Pos} {wi:TI} {g:TG} {tt:TT} {te:TE}
theorem CompScopeMC.clos {sc:Scope} {N:List Str} (S:CompScopeMC N sc N' ix xs0 r cs) {env:Env} (he:env.scope=sc) (has:∀y,(env.kindOf y=some .cell\/env.kindOf y=some .free)->∃c,env.cells.lookup y=some c) :
  ∃cl:List (Str × Addr),closureFor cs env=pure cl/\(∀y c,cl.lookup y=some c->env.cells.lookup y=some c)/\(∀y,(y,NameKind.free)∈cs.names->∃c,cl.lookup y=some c) :=
 jdE fun y hy hk=>has y.1 (by
  subst he;exact S.fr y hy hk)
theorem jf2 (hc:X.calm=true) (S:CompScopeMC X.N X.env.scope N' ix xs0 r cs) (hi:PI X tg iter wi)
  (hg:∀cl s3 H3 fp,PG (jaS X N' cs cl s3 H3 fp) tg g) (ht:∀cl s3 H3 fp,PTs (jaS X N' cs cl s3 H3 fp) ifs tt) (he:∀cl s3 H3 fp,PE (jaS X N' cs cl s3 H3 fp) elt te)
  (hs:∀x,foldedSetIterable iter X.env x=pure x:=by intro _;rfl):PE X (.ListComp elt [⟨tg,iter,ifs,0⟩] cs pos) (jil wi ix xs0.length g tt te):=by
 intro pins s σ H Q I h;obtain⟨cl,c1,c2,c3⟩:=S.clos rfl I.ok.has;rw[eval_ListComp];refine wpAny_comprehension_free (use:=none) rfl hs c1 S.kind S.hnames (thn (hi pins s σ H _ I h) fun v s1 h1=>thn h1 fun itv s2 h2=>?_);obtain⟨it,fp,tn,J,H2,e,I2,T,st2,f2,R⟩:=h2;subst e;refine jb9 (RR:=fun acc C=>compPost (model X.prog X.w) X.A X.xe none (EP X pins σ Q) acc C) I2 hc S c2 c3 T st2 f2 (fun s3 H3=>hg cl s3 H3 fp) (fun s3 H3=>ht cl s3 H3 fp) (fun s3 H3=>he cl s3 H3 fp) R ?_;intro acc C s' H' m I' fC hn q;refine⟨m,hn,fun h' hb=>⟨.ref acc,H',?_,rfl,q⟩⟩;exact I'.turned (t':=s'.toks) (fun b o hne e=>(hb.2 b hne).trans e) fC.1 fC.2.1 fC.2.2.2.1 fC.2.2.2.2.1 fC.2.2.2.2.2
end
theorem CompScopeC.mc {N:List Str} {sc:Scope} {N':List Str} {ix:List Nat} {x:Str} {r:List Str} {cs:Scope} (S:CompScopeC N sc N' ix x r cs):CompScopeMC N sc N' ix [x] r cs:=⟨S.eq,S.kind,S.hown,S.hnames,S.nd,S.fr,S.ixs⟩
theorem CompGo.m1 {J:It} {ρ:St} {g:TG} {tt:TT} {te:TE} {acc:Addr} {Z:Hp->Prop} {H1:Hp} (h:CompGo J ρ g tt te acc Z H1):jdH J [("":Str)].length ρ g tt te acc Z H1:=by
 obtain⟨W,h0,hs⟩:=h;refine⟨W,h0,fun i m xs H w=>?_⟩;rcases hs i m xs H w with h | ⟨hg,Nx,Nn,h1,h2,step⟩
 ·exact .inl h
 ·refine .inr ⟨hg,Nx,Nn,h1,h2,fun v0 x H' l0 y=>?_⟩;obtain⟨a,rfl⟩:=List.length_eq_one_iff.mp l0;have e:(fun (σ2:St) (H2:Hp)=>(∃v,σ2=v::ρ)/\tt σ2 H2 fun b H3=>if b=true then te σ2 H3 Nx else Nn H3)=fun σ2 H2=>(∃v:St,v.length=[("":Str)].length/\σ2=v++ρ)/\tt σ2 H2 fun b H3=>if b=true then te σ2 H3 Nx else Nn H3:=by
   funext σ2 H2
   refine congrArg (·/\_) (propext ⟨fun ⟨v,e⟩=>⟨[v],rfl,e⟩,fun ⟨v,l,e⟩=>?_⟩);obtain⟨b,rfl⟩:=List.length_eq_one_iff.mp l;exact⟨b,e⟩
  have:=step a x H' y;rw[e] at this;exact this
section
variable {X:Cx} {N' r:List Str} {ix:List Nat} {x:Str} {cs:Scope} {tg iter elt:Expr} {ifs:List Expr} {pos:Pos} {wi:TI} {g:TG} {tt:TT} {te:TE}
theorem ja1 (hc:X.calm=true) (S:CompScopeC X.N X.env.scope N' ix x r cs) (hi:PI X tg iter wi)
  (hg:∀cl s3 H3 fp,PG (jaS X N' cs cl s3 H3 fp) tg g) (ht:∀cl s3 H3 fp,PTs (jaS X N' cs cl s3 H3 fp) ifs tt) (he:∀cl s3 H3 fp,PE (jaS X N' cs cl s3 H3 fp) elt te)
  (hs:∀x,foldedSetIterable iter X.env x=pure x:=by intro _;rfl):PE X (.ListComp elt [⟨tg,iter,ifs,0⟩] cs pos) (jfS wi ix g tt te):=by
 intro pins s σ H Q I h;obtain⟨cl,c1,c2,c3⟩:=S.mc.clos rfl I.ok.has;rw[eval_ListComp];refine wpAny_comprehension_free (use:=none) rfl hs c1 S.kind S.hnames (thn (hi pins s σ H _ I h) fun v s1 h1=>thn h1 fun itv s2 h2=>?_);obtain⟨it,fp,tn,J,H2,e,I2,T,st2,f2,R⟩:=h2;subst e;refine jb9 (RR:=fun acc C=>compPost (model X.prog X.w) X.A X.xe none (EP X pins σ Q) acc C) I2 hc S.mc c2 c3 T st2 f2 (fun s3 H3=>hg cl s3 H3 fp) (fun s3 H3=>ht cl s3 H3 fp) (fun s3 H3=>he cl s3 H3 fp) (fun acc h=>(R acc h).m1) ?_;intro acc C s' H' m I' fC hn q;refine⟨m,hn,fun h' hb=>⟨.ref acc,H',?_,rfl,q⟩⟩;exact I'.turned (t':=s'.toks) (fun b o hne e=>(hb.2 b hne).trans e) fC.1 fC.2.1 fC.2.2.2.1 fC.2.2.2.2.1 fC.2.2.2.2.2
theorem jep {i:Nat} {y:Str} {py spos:Pos} (hc:X.calm=true) (hN:X.N.Nodup) (hiN:X.N[i]?=some y) (hy:X.env.scope.names.lookup y=some .local) (S:CompScopeC X.N X.env.scope N' ix x r cs) (hi:PI X tg iter wi)
  (hg:∀cl s3 H3 fp,PG (jaS X N' cs cl s3 H3 fp) tg g) (ht:∀cl s3 H3 fp,PTs (jaS X N' cs cl s3 H3 fp) ifs tt) (he:∀cl s3 H3 fp,PE (jaS X N' cs cl s3 H3 fp) elt te)
  (hsw:swapsWith (.ListComp elt [⟨tg,iter,ifs,0⟩] cs pos) (some (.Name y py)) spos.line X.env=pure true:=by rfl)
  (hs:∀x,foldedSetIterable iter X.env x=pure x:=by intro _;rfl):PS X (.Assign [.Name y py] (.ListComp elt [⟨tg,iter,ifs,0⟩] cs pos) spos) (jjY (jfS wi ix g tt te) (jbw i)):=by
 intro pins s σ H D I h;obtain⟨cl,c1,c2,c3⟩:=S.mc.clos rfl I.ok.has;rw[exec_Assign_Name_used _ _ _ _ hsw];refine wpAny_bind (wpAny_standAt (wpAny_bind ?_));show wpAny _ X.A (do let _ <- comprehension (.ListComp elt [⟨tg,iter,ifs,0⟩] cs pos) cs X.env _ (newList []) false (eval iter X.env) (some (assign (.Name y py) X.env))) _ _ s;refine wpAny_bind (wpAny_mono (wpAny_comprehension_free (use:=some (assign (.Name y py) X.env)) (Q:=fun _ s'=>SP X pins D .next s') rfl hs c1 S.kind S.hnames
  (thn (hi pins s σ H _ I h) fun v s1 h1=>thn h1 fun itv s2 h2=>?_)) (fun _ s' hq=>wpAny_pure (wpAny_pure hq)) fun _ _ e=>e)
 obtain⟨it,fp,tn,J,H2,e,I2,T,st2,f2,R⟩:=h2;subst e;refine jb9 (RR:=fun acc C=>compPost (model X.prog X.w) X.A X.xe (some (assign (.Name y py) X.env)) (fun _ s'=>SP X pins D .next s') acc C) I2 hc S.mc c2 c3 T st2 f2 (fun s3 H3=>hg cl s3 H3 fp) (fun s3 H3=>ht cl s3 H3 fp) (fun s3 H3=>he cl s3 H3 fp) (fun acc h=>(R acc h).m1) ?_;intro acc C s' H' m I' fC hn q;show wpAny _ X.A (assign (.Name y py) X.env (.ref acc)) _ _ _;refine wpAny_assign_Name (jd7 (v:=.ref acc) I' hN hiN (.inl hy) rfl (fun s'' I'' ⟨a,hb,ha⟩=>?_) (.inr hy));have hCa:C≠a:=fun z=>by
  rcases ha with ha | ha
  ·exact fC.2.1 (z.trans ha)
  ·exact fC.2.2.2.2.1 y a ha z.symm
 refine⟨m,hn.sameBut hb hCa,fun h' hb'=>⟨_,H',?_,q⟩⟩;exact I''.turned (t':=s''.toks) (fun b o hne e=>(hb'.2 b hne).trans e) fC.1 fC.2.1 fC.2.2.2.1 fC.2.2.2.2.1 fC.2.2.2.2.2
end
def AtM (K:PySem.W.Frag) (C:Addr) (m qual:Str) (st:Stmt) (ps:List Str):Prop:=∃f fd dV,FunD K m qual st f fd dV/\Meth K C m f/\Binds K fd ps []
def jaW (P:Program) (w:World) (K:PySem.W.Frag) (mg:Str->Option Value) (base:Heap) (CX:CXT) (k:Nat) (C:Addr) (m:Str) (ps:List Str) (sp:Sp):Prop :=
 ∃f fd,FnOk P w K mg base CX k f fd ps sp/\Meth K C m f/\Binds K fd ps []
section
variable {P:Program} {w:World} {K:PySem.W.Frag} {mg:Str->Option Value} {base:Heap}
theorem AtM.ok {C:Addr} {m qual:Str} {st:Stmt} {N ps:List Str} {k:Nat} {sp:Sp} (F:AtM K C m qual st ps) (S:FnScope N ps (jag st)) (len:∀vs H Q E,sp vs H Q E->vs.length=ps.length)
  (hbody:∀(f:Addr) (cdv:Value) (A:Around) (outer:List Env) (s:Shared) (H:Hp) (vs:List V) (Q:VK) (E:XK),Room k (A.deeper (envOfC qual (jag st) s.heap.objs.size f cdv))->sp vs H Q E ->
   ∃t,PSs (jgf CX0 P w K mg base N qual (jag st) f cdv A outer s H E).nox (ja3 st) t/\t { nx:=fun _ H'=>Q .non H',rt:=Q } (start N vs) H):jaW P w K mg base CX0 (k+1) C m ps sp:=by
 obtain⟨f,fd,dV,F1,hm,hb⟩:=F;exact⟨f,fd,F1.ok S len (hbody f),hm,hb⟩
theorem AtM.okX {C:Addr} {m qual:Str} {st:Stmt} {N ps:List Str} {k:Nat} {sp:Sp} (F:AtM K C m qual st ps) (S:FnScope N ps (jag st)) (len:∀vs H Q E,sp vs H Q E->vs.length=ps.length)
  (hbody:∀(f:Addr) (cdv:Value) (A:Around) (outer:List Env) (s:Shared) (H:Hp) (vs:List V) (Q:VK) (E:XK),Room k (A.deeper (envOfC qual (jag st) s.heap.objs.size f cdv))->sp vs H Q E ->
   ∃t,PSs (cxX P w K mg base N qual (jag st) f cdv A outer s H E) (ja3 st) t/\t { nx:=fun _ H'=>Q .non H',rt:=Q } (start N vs) H):jaW P w K mg base (XOk P w) (k+1) C m ps sp:=by
 obtain⟨f,fd,dV,F1,hm,hb⟩:=F;exact⟨f,fd,F1.okX S len (hbody f),hm,hb⟩
end
section
variable {X:Cx} {CX:CXT} {k:Nat} {C:Addr} {ps:List Str} {sp:Sp} {E:XK} {m x:Str} {p pos apos:Pos} {e o:Expr} {es:List Expr} {ta:TE} {t:TA}
theorem jfm {pl:Sem Bool} (D:jaW X.prog X.w X.K X.mg X.base CX k C m ps sp) (he:PE X o ta) (c:Cls X.K C) (hr:Room k X.A) (hx:jcn CX X E) (ha:PA X (e::es) t)
  (hst:starEach (e::es) X.env=(false,eval e X.env)::starEach es X.env:=by rfl) (hpl:(backTo pos (starEach es X.env)).any (·.1)=false:=by rfl)
  (ht:eval (.Call (.Attribute o m apos) (e::es) [] pos) X.env=(do
   let ov <- eval o X.env
   standAt apos.atName
   let (f,first) <- holding [ov] (getMethod ov m pl)
   callWith pos f first (backTo pos (starEach (e::es) X.env)) (backToKw pos (keywordEach [] X.env))):=by rfl) :
  PE X (.Call (.Attribute o m apos) (e::es) [] pos) (jji C m sp [] E ta t):=by
 obtain⟨f,fd,F,hm,hb⟩:=D;exact jkP he c hm F hr hb .nil hx ha hst hpl ht
theorem jbx {pl:Sem Bool} (D:jaW X.prog X.w X.K X.mg X.base CX k C m ps sp) (he:PE X o ta) (c:Cls X.K C) (hr:Room k X.A) (hx:jcn CX X E)
  (ht:eval (.Call (.Attribute o m apos) [] [] pos) X.env=(do
   let ov <- eval o X.env
   standAt apos.atName
   let (f,first) <- holding [ov] (getMethod ov m pl)
   callWith pos f first (backTo pos (starEach [] X.env)) (backToKw pos (keywordEach [] X.env))):=by rfl) :
  PE X (.Call (.Attribute o m apos) [] [] pos) (jji C m sp [] E ta jhs):=by
 obtain⟨f,fd,F,hm,hb⟩:=D;exact jjj he c hm F hr hb .nil hx ht
theorem jf3 (D:jaW X.prog X.w X.K X.mg X.base CX k C "__init__" ps sp) (mk:PySem.W.makesIn X.K C=true) (kp:PySem.W.keepIn X.K (.ref C)=true) (hr:Room (k+1) X.A) (hg:Gl X x) (hm:X.mg x=some (.ref C)) (hx:jcn CX X E)
  (hdb:(x==("__debug__":Str))=false:=by decide):PE X (.Call (.Name x p) [] [] pos) (jl8 C sp [] E jhs):=by
 obtain⟨f,fd,F,M,hb⟩:=D;exact jjl ⟨mk,M.at_,M.fn,kp⟩ F hr hg hm hb .nil hx hdb
theorem jip {f:Addr} {fd:FuncData} {pins:List (Addr × Obj)} {σ:St} {H:Hp} {s:Shared} {Q:VK} {us:List Value} {vs:List V} (F:FnOk X.prog X.w X.K X.mg X.base (XOk X.prog X.w) k f fd ps sp) (hr:Room k X.A) (hb:Binds X.K fd ps [])
    (I:Inv X pins σ H s) (r:Vals vs us) (h:sp vs H Q E):wpAny (model X.prog X.w) X.A (call (.ref f) us) (EP X pins σ Q) (XP X pins σ E) s:=by
  have hl:(us++[]).length=ps.length:=by rw[xbp,<- r.length];exact F.len _ _ _ _ h
  have hbb:=hb s us I.kIn hl;rw[xbp] at hbb;refine wpAny_call (codeAny_mono (F.run X.A X.stack s H ⟨us,[]⟩ us vs Q E hr I.env0 hbb r h) fun r s' hq=>?_);cases r with
  | error e=>exact⟨H,s,I,hq⟩
  | ok fl =>
    cases fl with
    | ret u=>exact I.after hq
    | next=>exact False.elim hq
    | brk=>exact False.elim hq
    | cont=>exact False.elim hq
def jj8 (C:Addr) (m:Str) (sp:Sp) (ta:TE) (t:TA):TX:=fun σ H Q E=>ta σ H fun x H1=>∃a dx fs,x=.ref a/\H1 a=some (.ins C dx fs)/\fs.lookup m=none/\t σ H1 fun vs H2=>sp (x::vs) H2 Q E
theorem jfn {pl:Sem Bool} (D:jaW X.prog X.w X.K X.mg X.base (XOk X.prog X.w) k C m ps sp) (he:PE X.nox o ta) (c:Cls X.K C) (hr:Room k X.A) (ha:PA X.nox (e::es) t)
  (hst:starEach (e::es) X.env=(false,eval e X.env)::starEach es X.env:=by rfl) (hpl:(backTo pos (starEach es X.env)).any (·.1)=false:=by rfl)
  (ht:eval (.Call (.Attribute o m apos) (e::es) [] pos) X.env=(do
   let ov <- eval o X.env
   standAt apos.atName
   let (f,first) <- holding [ov] (getMethod ov m pl)
   callWith pos f first (backTo pos (starEach (e::es) X.env)) (backToKw pos (keywordEach [] X.env))):=by rfl) :
  PX X (.Call (.Attribute o m apos) (e::es) [] pos) (jj8 C m sp ta t):=by
 obtain⟨f,fd,F,hm,hb⟩:=D;intro pins s σ H Q E I h;refine PySem.W.methodCall_KW (pl:=pl) (wpAny_mono (he pins s σ H _ (I.wish _) h) (fun u s1 ⟨x,H1,I1',rx,a,dx,fs,ex,ea,l,q⟩=>?_) fun _ _ z=>z.elim) ht;have I1:Inv X pins σ H1 s1:=I1'.unwish;subst ex;obtain rfl:u=Value.ref a:=rx;refine jcP I1 ea c hm l ?_;refine PySem.W.callWith_K (first:=[.ref a]) (h₀:=X.base) I.ok.mod.kin hm.kp (wpAny_mono (ha pos pins s1 σ H1 _ (I1.wish _) q) (fun us s2 ⟨vs,H2,I2',r,q2⟩=>?_) fun _ _ z=>z.elim) hst hpl;have I2:Inv X pins σ H2 s2:=I2'.unwish;exact⟨I2.kIn,jip (us:=.ref a::us) (vs:=.ref a::vs) F hr hb I2 (.cons rfl r) q2⟩
theorem jiq {pl:Sem Bool} (D:jaW X.prog X.w X.K X.mg X.base (XOk X.prog X.w) k C m ps sp) (he:PE X.nox o ta) (c:Cls X.K C) (hr:Room k X.A)
  (ht:eval (.Call (.Attribute o m apos) [] [] pos) X.env=(do
   let ov <- eval o X.env
   standAt apos.atName
   let (f,first) <- holding [ov] (getMethod ov m pl)
   callWith pos f first (backTo pos (starEach [] X.env)) (backToKw pos (keywordEach [] X.env))):=by rfl) :
  PX X (.Call (.Attribute o m apos) [] [] pos) (jj8 C m sp ta jhs):=by
 obtain⟨f,fd,F,hm,hb⟩:=D;intro pins s σ H Q E I h;refine PySem.W.methodCall_KW (pl:=pl) (wpAny_mono (he pins s σ H _ (I.wish _) h) (fun u s1 ⟨x,H1,I1',rx,a,dx,fs,ex,ea,l,q⟩=>?_) fun _ _ z=>z.elim) ht;have I1:Inv X pins σ H1 s1:=I1'.unwish;subst ex;obtain rfl:u=Value.ref a:=rx;refine jcP I1 ea c hm l ?_;exact PySem.W.callWith_K0 (first:=[.ref a]) I1.kIn hm.kp (jip (us:=[.ref a]) (vs:=[.ref a]) F hr hb I1 (.cons rfl .nil) q)
theorem jj9 {c:Expr} {a b:List Stmt} {tc:TT} {u v:TSX} (hc:PT X.nox c tc) (ha:PSX X a u) (hb:PSX X b v):PSX X [.If c a b pos] (fun D E σ H=>tc σ H fun d H1=>if d=true then u D E σ H1 else v D E σ H1):=by
  intro pins s σ H D E I h;refine wpAny_execs_cons (wpAny_If (wpAny_mono (hc pins s σ H _ (I.wish _) h) (fun d s1 ⟨H1,I1',q1⟩=>?_) fun _ _ z=>z.elim));have I1:Inv X pins σ H1 s1:=I1'.unwish;have fin:∀{b:List Stmt},wpAny (model X.prog X.w) X.A (execs b X.env) (SP X pins D) (fun ex s'=>∃σ1,XP X pins σ1 (E σ1) ex s') s1->wpAny (model X.prog X.w) X.A (execs b X.env) (fun f s2=>match f with
    | .next=>wpAny (model X.prog X.w) X.A (execs [] X.env) (SP X pins D) (fun ex s'=>∃σ1,XP X pins σ1 (E σ1) ex s') s2
    | f => SP X pins D f s2) (fun ex s' => ∃ σ1, XP X pins σ1 (E σ1) ex s') s1 := fun z => wpAny_mono z (fun f s2 q => by
      cases f with
      | next=>exact wpAny_execs_nil q
      | ret v=>exact q
      | brk=>exact q
      | cont=>exact q) fun _ _ z=>z
  cases d with
  | true=>exact fin (ha pins s1 σ H1 D E I1 q1)
  | false=>exact fin (hb pins s1 σ H1 D E I1 q1)
def jk7 (K:PySem.W.Frag):V->List V->Hp->VK->Prop:=fun x ys H Q=>∃(p:Addr) (xs:List V) (y:V),x=.ref p/\ys=[y]/\SqL K H p xs/\jd4 y=true/\xs.all jd4=true/\inV y xs=true/\xs.length<1000/\Q (.int (xs.findIdx fun z=>eqV z y:Nat)) H
theorem jgO {x:V}:∀{xs:List V} {us:List Value},Vals xs us->xs.all jd4=true->us.findIdx (eqU x)=xs.findIdx fun y=>eqV y x
  | _,_,.nil,_=>rfl
  | y :: xs, u :: us, .cons r t, f => by
    rw[List.all_cons,xaE] at f;rw[xbx,xbx,jh2 r f.1,jgO t f.2]
theorem jeq:MtR X "list.index" (jk7 X.K):=by
 intro pins s σ H x xs v us Q I rx r h;obtain⟨p,zs,y,rfl,rfl,hq,fy,fs,hin,hn,q⟩:=h;cases (show v=Value.ref p from rx);obtain⟨u,rfl,r1⟩:=jfc r;obtain⟨its,rv,pl,hz⟩:=I.list hq;have hl:=rv.length;obtain⟨⟨cls,dd,data,sl⟩,ho,hc,n,hd⟩:=id pl.isList;simp only at hc hd;subst hc hd;have ha:its.any (eqU y)=true:=(jdC rv fs).trans hin;obtain⟨w0,hw0,e0⟩:=List.any_eq_true.mp ha;have hj:its.findIdx (eqU y)<its.length:=xa9 ⟨w0,hw0,e0⟩;have ej:=jgO (x:=y) rv fs;refine call_meets F.slot_list_index ⟨_,ho,rfl⟩ F.entry_list_index (F.args_list_index_2 _ _) (SeqAt.list_indexAt p its.toArray n dd sl u (eqU y) (its.findIdx (eqU y)) (by simpa using hj) (by omega) ?_ ?_) ⟨ho,fun w hw=>jcQ r1 fy rv fs w (by simpa using hw),⟨.int _,H,I.tok _,⟨_,rfl⟩,by rw[ej];exact q⟩⟩
 ·simpa using List.findIdx_getElem (w:=hj)
 ·intro m hm hlt;have:=List.not_of_lt_findIdx hlt;simpa using this
end
section
variable {X:Cx} {N' r xs0:List Str} {ix:List Nat} {cs:Scope} {tg iter elt:Expr} {ifs:List Expr} {pos:Pos} {wi:TI} {g:TG} {tt:TT} {te:TE}
theorem jf4 {i:Nat} {y:Str} {py spos:Pos} (hc:X.calm=true) (hN:X.N.Nodup) (hiN:X.N[i]?=some y) (hy:X.env.scope.names.lookup y=some .local) (S:CompScopeMC X.N X.env.scope N' ix xs0 r cs) (hi:PI X tg iter wi)
  (hg:∀cl s3 H3 fp,PG (jaS X N' cs cl s3 H3 fp) tg g) (ht:∀cl s3 H3 fp,PTs (jaS X N' cs cl s3 H3 fp) ifs tt) (he:∀cl s3 H3 fp,PE (jaS X N' cs cl s3 H3 fp) elt te)
  (hsw:swapsWith (.ListComp elt [⟨tg,iter,ifs,0⟩] cs pos) (some (.Name y py)) spos.line X.env=pure true:=by rfl)
  (hs:∀x,foldedSetIterable iter X.env x=pure x:=by intro _;rfl):PS X (.Assign [.Name y py] (.ListComp elt [⟨tg,iter,ifs,0⟩] cs pos) spos) (jjY (jil wi ix xs0.length g tt te) (jbw i)):=by
 intro pins s σ H D I h;obtain⟨cl,c1,c2,c3⟩:=S.clos rfl I.ok.has;rw[exec_Assign_Name_used _ _ _ _ hsw];refine wpAny_bind (wpAny_standAt (wpAny_bind ?_));show wpAny _ X.A (do let _ <- comprehension (.ListComp elt [⟨tg,iter,ifs,0⟩] cs pos) cs X.env _ (newList []) false (eval iter X.env) (some (assign (.Name y py) X.env))) _ _ s;refine wpAny_bind (wpAny_mono (wpAny_comprehension_free (use:=some (assign (.Name y py) X.env)) (Q:=fun _ s'=>SP X pins D .next s') rfl hs c1 S.kind S.hnames
  (thn (hi pins s σ H _ I h) fun v s1 h1=>thn h1 fun itv s2 h2=>?_)) (fun _ s' hq=>wpAny_pure (wpAny_pure hq)) fun _ _ e=>e)
 obtain⟨it,fp,tn,J,H2,e,I2,T,st2,f2,R⟩:=h2;subst e;refine jb9 (RR:=fun acc C=>compPost (model X.prog X.w) X.A X.xe (some (assign (.Name y py) X.env)) (fun _ s'=>SP X pins D .next s') acc C) I2 hc S c2 c3 T st2 f2 (fun s3 H3=>hg cl s3 H3 fp) (fun s3 H3=>ht cl s3 H3 fp) (fun s3 H3=>he cl s3 H3 fp) R ?_;intro acc C s' H' m I' fC hn q;show wpAny _ X.A (assign (.Name y py) X.env (.ref acc)) _ _ _;refine wpAny_assign_Name (jd7 (v:=.ref acc) I' hN hiN (.inl hy) rfl (fun s'' I'' ⟨a,hb,ha⟩=>?_) (.inr hy));have hCa:C≠a:=fun z=>by
  rcases ha with ha | ha
  ·exact fC.2.1 (z.trans ha)
  ·exact fC.2.2.2.2.1 y a ha z.symm
 refine⟨m,hn.sameBut hb hCa,fun h' hb'=>⟨_,H',?_,q⟩⟩;exact I''.turned (t':=s''.toks) (fun b o hne e=>(hb'.2 b hne).trans e) fC.1 fC.2.1 fC.2.2.2.1 fC.2.2.2.2.1 fC.2.2.2.2.2
end
structure RoomN (k:Nat) (A:Around):Prop where
 dp:A.depth+3*k+5<recursionLimit
 un:A.units+16*k+200<cLine
theorem RoomN.deeper {k:Nat} {A:Around} (r:RoomN (k+1) A) (env:Env):RoomN k (A.deeper env) :=
 ⟨by have:=r.dp;show A.depth+1+3*k+5<_;omega,by have:=r.un;show A.units+3+16*k+200<_;omega⟩
theorem RoomN.depth {k:Nat} {A:Around} (r:RoomN k A):A.depth<recursionLimit:=by have:=r.dp;omega
theorem Room.caught {j k:Nat} {A:Around} {e:Value} (r:Room k A) (h:j<=k):RoomN j (A.mark (some e)):=⟨by have:=r.dp;show A.depth+3*j+5<_;omega,by have:=r.un;show A.units+16*j+200<_;omega⟩
def cxN (P:Program) (w:World) (K:PySem.W.Frag) (mg:Str->Option Value) (base:Heap) (N:List Str) (qual:Str) (scope:Scope) (f:Addr) (cd:Value) (A:Around) (outer:List Env) (s:Shared) (H:Hp):Cx :=
 { (jgf CX0 P w K mg base N qual scope f cd A outer s H (fun _ _ _=>False)) with calm:=false,xe:=fun _ _=>False }
theorem jhD {P:Program} {w:World} {K:PySem.W.Frag} {mg:Str->Option Value} {base:Heap} {N ps:List Str} {qual:Str} {scope:Scope} {f:Addr} {cd:Value} {A:Around} {outer:List Env} {s s1:Shared} {H:Hp} {us:List Value} {vs:List V}
  (S:FnScope N ps scope) (e0:Env0 P w K mg base A outer s H) (hl:vs.length=ps.length) (r:Vals vs us)
  (x:InCallC s s.heap.objs.size (bindL (envOfC qual scope s.heap.objs.size f cd).kindOf (ps.zip us) fun _=>none) (cellsFrom (s.heap.objs.size+1) scope.names []) (bindC (envOfC qual scope s.heap.objs.size f cd).kindOf (ps.zip us) fun _=>none) s1) :
  Inv (cxN P w K mg base N qual scope f cd A outer s H) [] (start N vs) H s1:=by
 have hpl:ps.length<=N.length:=by have:=congrArg List.length S.pre;rw[xak] at this;omega
 obtain⟨h1,tk,rfl,hk⟩:=x.done;have noA:∀b:Addr,b∉(cxN P w K mg base N qual scope f cd A outer s H).ex:=fun b z=>absurd (show b∈([]:List Addr) from z) (by simp);refine⟨⟨e0.mod,S.kind,rfl,rfl,xaj _,fun y z c h1 h2=>?_,fun y hy=>?_,fun y c _ h=>?_,(fun z=>nomatch z),Around.frames_deeper e0.frames,.inr ⟨rfl,rfl⟩,fun b z=>absurd z (noA b),e0.bs,e0.bsz,fun b _ _=>noA b,fun b z=>absurd z (noA b),e0.funs,e0.frf⟩,
  rfl,e0.bare,Un.kept hk,⟨_,x.toInCall.ns,fun i y v h1 h2 h3=>?_⟩,fun y c h=>⟨_,x.cell y c h⟩,e0.hok.fresh (xaj _),fun y c h=>?_,fun p hp=>absurd (show p∈([]:List (Addr × Obj)) from hp) (by simp),e0.hok.kept hk,?_⟩
 ·exact name_of_addr x.apart (PySem.mem_of_lookup h1) (PySem.mem_of_lookup h2)
 ·have hy:scope.names.lookup y=some .cell\/scope.names.lookup y=some .free:=hy;rcases hy with hy | hy
  ·exact jd5 hy
  ·exact absurd rfl (S.nofree _ (PySem.mem_of_lookup hy))
 ·exact xaI (x.above y c (PySem.mem_of_lookup h))
 ·have hi:i<vs.length:=by
   unfold start at h2;by_cases hi:i<vs.length
   ·exact hi
   ·rw[xaG (by simpa using hi)] at h2;rw[xbq] at h2;split at h2<;>cases h2
  have ha:vs[i]?=some v:=by
   unfold start at h2;rw[xaD (by simpa using hi),xai] at h2;cases e:vs[i]? with
   | none=>rw[e] at h2;cases h2
   | some a=>rw[e] at h2;cases h2;rfl
  obtain⟨u,hu,rv⟩:=r.get ha;have hp:ps[i]?=some y:=by
   rw[<- S.pre,xbn (by omega)];exact h1
  have ndP:ps.Nodup:=by rw[<- S.pre];exact S.nd.sublist (List.take_sublist _ _)
  refine⟨u,rv,?_⟩;rcases S.par y (xas hp) with k | k
  ·exact .inl ⟨k,jed ndP hp hu k⟩
  ·obtain⟨c,e⟩:=jd5 (n:=s.heap.objs.size+1) k;refine .inr ⟨.inl k,c,e,?_⟩;have q:=x.cell y c e;rw[jee ndP hp hu (by show scope.names.lookup y≠_;rw[k];decide)] at q;exact q
 ·exact e0.hok.fresh (xaI (x.above y c (PySem.mem_of_lookup h)))
 ·unfold start;show _=N.length;rw[xaf,xaa,xaV];omega
structure FnN (P:Program) (w:World) (K:PySem.W.Frag) (mg:Str->Option Value) (base:Heap) (k:Nat) (f:Addr) (fd:FuncData) (ps:List Str) (sp:Sp):Prop where
 len:∀vs H Q E,sp vs H Q E->vs.length=ps.length
 run:∀(A:Around) (outer:List Env) (s:Shared) (H:Hp) (args:Args) (us:List Value) (vs:List V) (Q:VK) (E:XK),RoomN k A->Env0 P w K mg base A outer s H->BindsTo s fd args (ps.zip us)->Vals vs us->sp vs H Q E ->
  codeAny (model P w) A (.call (.ref f) args) (CR CX0 outer P w H s Q E) s
theorem jmr {P:Program} {w:World} {K:PySem.W.Frag} {mg:Str->Option Value} {base:Heap} {k:Nat} {f:Addr} {name qual:Str} {params:Arguments} {body:List Stmt} {scope:Scope} {dV kV doc pm cdv ct oc:Value} {an od:Option Addr}
    {osl:Array (Option Value)} {N ps:List Str} {sp:Sp} (lk:K.lookup f=some ⟨oc,od,.func (PySem.W.fnOf name qual params body scope dV kV doc pm an cdv ct),osl⟩) (hcd:PySem.W.codeIn K cdv qual=true) (S:FnScope N ps scope)
    (len:∀vs H Q E,sp vs H Q E->vs.length=ps.length)
    (hbody:∀(A:Around) (outer:List Env) (s:Shared) (H:Hp) (vs:List V) (Q:VK) (E:XK),RoomN k (A.deeper (envOfC qual scope s.heap.objs.size f cdv))->sp vs H Q E ->
      ∃t,PSs (cxN P w K mg base N qual scope f cdv A outer s H) body t/\t { nx:=fun _ H'=>Q .non H',rt:=Q } (start N vs) H) :
    FnN P w K mg base (k+1) f (PySem.W.fnOf name qual params body scope dV kV doc pm an cdv ct) ps sp:=by
  refine⟨len,fun A outer s H args us vs Q E hr e0 hb r hsp=>?_⟩;have hl:=len _ _ _ _ hsp;have KX:K.In s.heap:=e0.mod.kin.keeps fun b o e=>(e0.bs b o e).1;have lim:s.heap.NoLimit:=e0.mod.nolimit.keeps fun b o e=>(e0.bs b o e).1;have hkind:∀y∈ps.zip us,scope.names.lookup y.1=some .local\/(scope.names.lookup y.1=some .cell/\((cellsFrom (s.heap.objs.size+1) scope.names []).lookup y.1).isSome=true):=fun ⟨n,v⟩ hy=>by
    rcases S.par n (xbH hy).1 with q | q
    . exact .inl q
    . exact .inr ⟨q,PySem.W.cellsFrom_some _ _ _ (.inl q)⟩
  refine codeAny_call_function hr.depth (KX _ _ lk) rfl S.co S.gen rfl (PySem.W.codeRec_of KX hcd) (hb _ _ _ _ ?_);refine wpAny_newFunctionEnv_cells S.kind hkind fun env he s1 x=>?_;subst he;refine⟨lim.keeps x.toInCall.keep,codeAny_func ?_⟩;obtain⟨t,ht,hq⟩:=hbody A outer s H vs Q E (hr.deeper _) hsp;have I:Inv (cxN P w K mg base N qual scope f cdv A outer s H) [] (start N vs) H s1:=jhD S e0 hl r x;refine wpAny_mono (ht [] s1 (start N vs) H _ I hq) (fun fl s' hs=>?_) fun e s' hs=>hs.elim;have fin:∀{σ':St} {H':Hp} {v:V} {u:Value},Inv (cxN P w K mg base N qual scope f cdv A outer s H) [] σ' H' s'->RelV v u->Q v H'->CE outer P w H s Q u s' :=
    fun {σ' H' v u} J rv q=>⟨v,H',J.os,J.bare,J.base,J.hok,rv,q⟩
  cases fl with
  | ret u =>
    obtain⟨v,σ',H',J,rv,q⟩:=hs;exact fin J rv q
  | next =>
    obtain⟨σ',H',J,q⟩:=hs;exact fin (v:=V.non) (u:=Value.none) J rfl q
  | brk =>
    obtain⟨_,_,_,q⟩:=hs;exact False.elim q
  | cont =>
    obtain⟨_,_,_,q⟩:=hs;exact False.elim q
def jms (P:Program) (w:World) (K:PySem.W.Frag) (mg:Str->Option Value) (base:Heap) (k:Nat) (x:Str) (ps:List Str) (sp:Sp):Prop :=
 ∃f fd ds,FnN P w K mg base k f fd ps sp/\mg x=some (.ref f)/\PySem.W.keepIn K (.ref f)=true/\Binds K fd ps ds/\Vals [] ds
section
variable {P:Program} {w:World} {K:PySem.W.Frag} {mg:Str->Option Value} {base:Heap}
theorem At.okN {x:Str} {st:Stmt} {N ps:List Str} {k:Nat} {sp:Sp} (F:At K mg x st ps []) (S:FnScope N ps (jag st)) (len:∀vs H Q E,sp vs H Q E->vs.length=ps.length)
  (hbody:∀(f:Addr) (cdv:Value) (A:Around) (outer:List Env) (s:Shared) (H:Hp) (vs:List V) (Q:VK) (E:XK),RoomN k (A.deeper (envOfC x (jag st) s.heap.objs.size f cdv))->sp vs H Q E ->
   ∃t,PSs (cxN P w K mg base N x (jag st) f cdv A outer s H) (ja3 st) t/\t { nx:=fun _ H'=>Q .non H',rt:=Q } (start N vs) H):jms P w K mg base (k+1) x ps sp:=by
 obtain⟨f,fd,dV,ds,F1,hm,hb,hd⟩:=F;obtain⟨oc,od,kV,doc,pm,an,cdv,ct,osl,rfl,lk,hcd⟩:=F1.ex;exact⟨f,_,ds,jmr lk hcd S len fun A outer s H vs Q E hr hsp=>hbody f cdv A outer s H vs Q E hr hsp,hm,F1.kp,hb,hd⟩
end
section
variable {X:Cx} {k:Nat} {ps:List Str} {sp:Sp} {x:Str} {p pos:Pos} {e:Expr} {es:List Expr} {t:TA}
theorem jgP (D:jms X.prog X.w X.K X.mg X.base k x ps sp) (hr:RoomN k X.A) (hg:Gl X x) (ha:PA X (e::es) t) (hdb:(x==("__debug__":Str))=false:=by decide)
    (he:starEach (e::es) X.env=(false,eval e X.env)::starEach es X.env:=by rfl) (hpl:(backTo pos (starEach es X.env)).any (·.1)=false:=by rfl):PE X (.Call (.Name x p) (e::es) [] pos) (jgj sp [] (fun _ _ _=>False) t):=by
  obtain⟨f,fd,ds,F,hm,hk,hb,hd⟩:=D;intro pins s σ H Q I h;refine wpAny_Call_Name_kw (jdA I hg hm ?_ hdb);refine PySem.W.callWith_K (h₀:=X.base) I.ok.mod.kin hk (thn (ha pos pins s σ H _ I h) fun us s1 ⟨vs,H1,I1,r,q⟩=>⟨I1.kIn,?_⟩) he hpl;have r2:Vals (vs++[]) (us++ds):=r.append hd;have hl:(us++ds).length=ps.length:=by rw[<- r2.length];exact F.len _ _ _ _ q
  refine wpAny_call (codeAny_mono (F.run X.A X.stack s1 H1 ⟨us,[]⟩ (us++ds) (vs++[]) Q _ hr I1.env0 (hb s1 us I1.kIn hl) r2 q) fun r s' hq=>?_);cases r with
  | error e=>exact (show False from hq).elim
  | ok fl =>
    cases fl with
    | ret u=>exact I1.after hq
    | next=>exact False.elim hq
    | brk=>exact False.elim hq
    | cont=>exact False.elim hq
def tCutE (M:St->Hp->St->Hp->Prop) (t u:TS):TS:=fun D σ H=>t { D with nx:=M σ H } σ H/\∀σ' H',M σ H σ' H'->u D σ' H'
theorem jdm {st:Stmt} {jbt:List Stmt} {t u:TS} (M:St->Hp->St->Hp->Prop) (h1:PS X st t) (h2:PSs X jbt u):PSs X (st::jbt) (tCutE M t u):=by
  intro pins s σ H D I h;refine wpAny_execs_cons (thn (h1 pins s σ H { D with nx:=M σ H } I h.1) fun f s1 q=>?_);cases f with
  | next =>
    obtain⟨σ',H',I',q⟩:=q;exact h2 pins s1 σ' H' D I' (h.2 σ' H' q)
  | ret v=>exact q
  | brk=>exact q
  | cont=>exact q
end
section
variable {prog:Program} {w:World} {A:Around} {R:Result->Shared->Prop} {it Z:Addr} {fp wr:List Addr} {n:Nat} {P:Nat->Value->Prop} {St:Nat->Heap->Prop} {G:Heap->Prop}
structure MinUseE (lss:Value->Value->Bool) (prog:Program) (w:World) (A:Around) (wr:List Addr) (Z:Addr) (P:Nat->Value->Prop) (G:Heap->Prop):Prop where
 keep:∀h h',G h->Stay wr Z h h'->G h'
 cmp:∀(u v:Value) (s:Shared) (Q:Value->Shared->Prop) (E:Value->Shared->Prop),(∃i,P i u)->(∃j,P j v)->G s.heap->Q (.bool (lss u v)) s->wpAny (model prog w) A (richCompare .Lt u v) Q E s
theorem minWE {lss:Value->Value->Bool} (tr:∀a b c,lss a b=true->lss b c=true->lss a c=true) (ir:∀a,lss a a=false) (fn:∀j u v,P j u->P j v->u=v) (W:Walks prog w A.in1 it fp wr n P St) (M:MinUseE lss prog w A.in1 wr Z P G) (off:Z∉fp):∀(left:Nat) (s:Shared) (best:Value) (c:Nat),left<n->St (n-left) s.heap->(∃i,P i best)->G s.heap->s.heap.get? Z=some (jmp best c)->(∀j u,j<n-left->P j u->lss u best=false) ->
    (∀v h tk,(∃i,P i v)->(∀j u,j<n->P j u->lss u v=false)->Stay wr Z s.heap h->R (.ok (.ret v)) { s with heap:=h,toks:=tk })->codeAny (model prog w) A (.builtin "min.loop" ⟨[.ref it,.none,.ref Z],[]⟩) R s:=by
  have zw:Z∉wr:=fun h=>off (W.sub _ h);have fr:∀{i:Nat} {h:Heap} {g:Obj->Obj},St i h->St i (h.update Z g):=fun {i h g} st=>W.frame _ _ _ st fun b bf o e=>(Heap.get?_update_other _ _ (fun x:Z=b=>off (x▸bf))).trans e;have word:(toString "min"++toString ".loop":String)="min.loop":=by decide
  intro left;induction left with
  | zero =>
    intro s best c _ st pb gs hZ bb q;refine codeAny_builtin F.entry_min_loop (Around.under_plainId F.plain_min_loop _▸?_);refine wpAny_bind (m:=seqItems? (.ref Z)) (wpAny_seqItems hZ rfl (wpAny_bind (m:=tryCatch (pyNext (.ref it)) _) (wpAny_tryCatch (W.done s _ _ st fun h1 t1 k1=>?_))));refine wpAny_bind (m:=updateSeq Z fun _=>#[]) (wpAny_updateSeq (k1 Z _ zw hZ) rfl (wpAny_bind (wpAny_letGo (wpAny_pure ?_))));exact q best _ t1 pb (fun j u hj=>bb j u (by omega)) (Stay.trans (fun b o x _ e=>k1 b o x e) Stay.set)
  | succ left ih =>
    intro s best c lt st pb gs hZ bb q;have en:n-(left+1)+1=n-left:=by omega
    refine codeAny_builtin F.entry_min_loop (Around.under_plainId F.plain_min_loop _▸?_);refine wpAny_bind (m:=seqItems? (.ref Z)) (wpAny_seqItems hZ rfl (wpAny_bind (m:=tryCatch (pyNext (.ref it)) _) (wpAny_tryCatch (W.item (n-(left+1)) s _ _ (by omega) st fun v h1 t1 pv st1 k1=>?_))));have y1:Stay wr Z s.heap h1:=fun b o x _ e=>k1 b o x e;have g1:=M.keep _ _ gs y1;have z1:=k1 Z _ zw hZ;rw[en] at st1;refine wpAny_bind (m:=tryCatch (holding [v,v] (richCompare .Lt v best >>= _)) _) (wpAny_tryCatch (wpAny_holding (wpAny_bind (M.cmp v best _ _ _ ⟨_,pv⟩ pb g1 ?_))));refine wpAny_bind (wpAny_holding (wpAny_truthy_bool (wpAny_bind (wpAny_letGo (wpAny_pure ?_)))));cases less:lss v best with
    | true =>
      simp only[if_true];refine wpAny_bind (wpAny_updateSeq z1 rfl (wpAny_bind (wpAny_letGo ?_)));rw[word];refine wpAny_pure ⟨plainId_quiet F.plain_min_loop _,ih _ v _ (by omega) (fr st1) ⟨_,pv⟩ (M.keep _ _ g1 Stay.set) (Heap.get?_update_self _ z1 rfl) (fun j u hj pj=>?_) fun u h2 t2 pu bu y2=>q u h2 t2 pu bu (y1.trans (Stay.set.trans y2))⟩;by_cases cj:j<n-(left+1)
      . cases e:lss u v with
        | false=>rfl
        | true=>rw[<- bb j u cj pj];exact (tr u v best e less).symm
      . have ej:j=n-(left+1):=by omega
        subst ej;rw[fn _ _ _ pj pv];exact ir v
    | false =>
      simp only[if_false,Bool.false_eq_true];refine wpAny_bind (wpAny_letGo ?_);rw[word];refine wpAny_pure ⟨plainId_quiet F.plain_min_loop _,ih _ best c (by omega) st1 pb g1 z1 (fun j u hj pj=>?_) fun u h2 t2 pu bu y2=>q u h2 t2 pu bu (y1.trans y2)⟩;by_cases cj:j<n-(left+1)
      . exact bb j u cj pj
      . have ej:j=n-(left+1):=by omega
        subst ej;rw[fn _ _ _ pj pv];exact less
theorem jmt {lss:Value->Value->Bool} (tr:∀a b c,lss a b=true->lss b c=true->lss a c=true) (ir:∀a,lss a a=false) {E:Value->Shared->Prop} {s:Shared} {l:Addr} {xs:Array Value} {Q:Value->Shared->Prop} (hh:A.handled=none) (hl:s.heap.IsList l xs) (hn:0<xs.size) (G:Heap->Prop) (gs:G s.heap)
  (keep:∀h h',G h->(∀b o,b<s.heap.objs.size->h.get? b=some o->h'.get? b=some o)->G h')
  (cmp:∀(u v:Value) (s:Shared) (Q:Value->Shared->Prop) (E:Value->Shared->Prop),u∈xs->v∈xs->G s.heap->Q (.bool (lss u v)) s->wpAny (model prog w) A.in1 (richCompare .Lt u v) Q E s)
  (q:∀v h tk,v∈xs->(∀u,u∈xs->lss u v=false)->(∀b o,s.heap.get? b=some o->h.get? b=some o)->Q v { s with heap:=h,toks:=tk }):wpAny (model prog w) A (call (.builtin "min") [.ref l]) Q E s:=by
 have lt:l<s.heap.objs.size:=by obtain⟨o,ho,_⟩:=hl;exact Heap.lt_size ho
 have word:(toString "min"++toString ".loop":String)="min.loop":=by decide
 have W:=Walks.list (prog:=prog) (w:=w) (A:=A.in1) hh s.heap.objs.size l (xau lt) xs;refine call_function_tree F.kind_min F.plain_min F.entry_min (F.args_min1 _) (wpAny_bind (m:=Builtin.Builtins.bindParams "min" ["key","default"] 0 ⟨[],[]⟩) (wpAny_of_eq (a:=[none,none]) rfl (wpAny_bind (wpAny_pure (wpAny_bind (wpAny_pyIter_list hl (wpAny_bind (wpAny_newObj_type ?_))))))));rw[word];obtain⟨h0,e0⟩:∃h0,h0=s.heap.push { cls:=.type "list_iterator",data:=.fields #[.ref l,.int 0 0] }:=⟨_,rfl⟩;obtain⟨h1,e1⟩:∃h1,h1=h0.push { cls:=.type "list",data:=.seq #[] }:=⟨_,rfl⟩;have z0:h0.objs.size=s.heap.objs.size+1:=by rw[e0];exact Heap.size_push ..
 have up:∀b o,s.heap.get? b=some o->h1.get? b=some o:=fun b o e=>by rw[e1];exact Heap.get?_push_of_some _ (by rw[e0];exact Heap.get?_push_of_some _ e)
 have far:∀{b:Nat},b<s.heap.objs.size->b∉[s.heap.objs.size]/\b≠h0.objs.size:=fun {b} hb=>⟨fun m=>xau hb (xay.mp m),xau (Nat.lt_of_lt_of_eq (xa4 hb) z0.symm)⟩;have off:h0.objs.size∉[s.heap.objs.size,l]:=fun m=>by
  rcases xad.mp m with e | e
  ·exact Nat.succ_ne_self _ (z0.symm.trans e)
  ·exact Nat.ne_of_gt (xa4 lt) (z0.symm.trans (xay.mp e))
 have M:MinUseE lss prog w A.in1 [s.heap.objs.size] h0.objs.size (fun i v=>xs[i]?=some v) G:=⟨fun h h' g y=>keep h h' g fun b o hb e=>y b o (far hb).1 (far hb).2 e,fun u v s' Q' E' ⟨i,hi⟩ ⟨j,hj⟩ g q'=>cmp u v s' Q' E' (Array.mem_of_getElem? hi) (Array.mem_of_getElem? hj) g q'⟩;have cell:h1.get? h0.objs.size=some { cls:=.type "list",dict:=none,data:=.seq #[] 0,slots:=#[] }:=by rw[e1];exact Heap.get?_push_size _ rfl
 have st:h1.IsListIter s.heap.objs.size l 0/\h1.IsList l xs:=⟨⟨_,by rw[e1];exact Heap.get?_push_of_some _ (by rw[e0];exact Heap.get?_push_size _ rfl),rfl,rfl⟩,by rw[e1,e0];exact (hl.push _).push _⟩;have zw:h0.objs.size∉[s.heap.objs.size]:=fun m=>off (W.sub _ m);rw[<- e0,<- e1];refine wpAny_pure ⟨plainId_quiet F.plain_min_loop _,codeAny_builtin F.entry_min_loop (Around.under_plainId F.plain_min_loop _▸?_)⟩;refine wpAny_bind (m:=seqItems? (.ref h0.objs.size)) (wpAny_seqItems cell rfl (wpAny_bind (m:=tryCatch (pyNext (.ref s.heap.objs.size)) _) (wpAny_tryCatch (W.item 0 _ _ _ hn st fun v h2 t2 pv st2 k2=>?_))));have z2:=k2 _ _ zw cell;refine wpAny_bind (m:=updateSeq h0.objs.size fun _=>#[v,v]) (wpAny_updateSeq z2 rfl ?_);rw[word];have y2:Stay [s.heap.objs.size] h0.objs.size h1 h2:=fun b o x _ e=>k2 b o x e;refine wpAny_pure ⟨plainId_quiet F.plain_min_loop _,minWE tr ir (fun j u v (a:xs[j]?=some u) (b:xs[j]?=some v)=>Option.some.inj (a.symm.trans b)) W M off (xs.size-1) _ v _ (by omega) ?_ ⟨_,pv⟩ (M.keep _ _ (M.keep _ _ (keep _ _ gs fun b o _ e=>up b o e) y2) Stay.set) (Heap.get?_update_self _ z2 rfl) (fun j u hj pj=>?_) fun u h3 t3 ⟨i,pu⟩ bu y3=>?_⟩
 ·rw[show xs.size-(xs.size-1)=0+1 by omega];exact W.frame _ _ _ st2 fun b bf o e=>(Heap.get?_update_other _ _ (fun x:h0.objs.size=b=>off (x▸bf))).trans e
 ·have ej:j=0:=by omega
  subst ej;rw[show u=v from Option.some.inj ((show xs[0]?=some u from pj).symm.trans pv)];exact ir v
 ·refine q u h3 t3 (Array.mem_of_getElem? pu) (fun u' hu'=>?_) fun b o e=>?_
  ·obtain⟨j,hj,e⟩:=Array.mem_iff_getElem.mp hu';exact bu j u' hj (by rw[<- e];exact Array.getElem?_eq_getElem hj)
  have f:=far (Heap.lt_size e);exact (y2.trans (Stay.set.trans y3)) b o f.1 f.2 (up b o e)
end
section
open PySem.AutoSeq1 (wpAny_loadPart')
open PySem.MeetsSeq3 (plain_eq_loop entry_eq_loop)
def jdc:List Int->List Int->Bool
 | a::as,b::bs=>if a=b then jdc as bs else decide (a<b)
 | _,_=>false
def jju (xs:Array Value) (ns:List Int):Prop:=xs.size=ns.length/\∀(j:Nat) (a:Int),ns[j]?=some a->∃t,xs[j]?=some (.int a t)
theorem jjv {ns ms:List Int} {i:Nat} {u v:Int} (h1:ns[i]?=some u) (h2:ms[i]?=some v):jdc (ns.drop i) (ms.drop i)=if u=v then jdc (ns.drop (i+1)) (ms.drop (i+1)) else decide (u<v):=by
 obtain⟨l1,e1⟩:=xan.mp h1;obtain⟨l2,e2⟩:=xan.mp h2;rw[List.drop_eq_getElem_cons l1,List.drop_eq_getElem_cons l2,e1,e2];rfl
theorem ltGoE {ns ms:List Int} {l m:Addr} {xs ys:Array Value} {n1 n2:Nat} {d1 d2:Option Addr} {o1 o2:Array (Option Value)} (sz:xs.size=ys.size) (ix:jju xs ns) (iy:jju ys ms) (left:Nat):∀i:Nat,xs.size=i+left ->
    Meets (Builtin.«list.__eq__.loop» ⟨[.ref l,.ref m,rawInt i,rawInt 0],[]⟩) (fun _ R s=>s.heap.get? l=some (jmq d1 o1 xs n1)/\s.heap.get? m=some (jmq d2 o2 ys n2)/\R (.ok (.ret (.bool (jdc (ns.drop i) (ms.drop i))))) s):=by
  induction left with
  | zero =>
    rintro i e prog w A R ⟨hp,g,d,tk,os⟩ ⟨a,b,q⟩
    wp_walk using wpAny_loadPart' a,wpAny_loadPart' b
    rw[show xs[((i:Nat):Int).toNat]?=none by simp;omega]
    wp_walk using wpAny_loadPart' a,wpAny_loadPart' b
    have d1:ns.drop i=[]:=List.drop_eq_nil_of_le (by have:=ix.1;omega);rw[d1] at q;have d2:(decide (xs.size<ys.size))=false:=decide_eq_false (by omega);have z:R (.ok (.ret (.bool (decide (xs.size<ys.size))))) ⟨hp,g,d,tk,os⟩:=by rw[d2];exact q
    exact z
  | succ left ih =>
    rintro i e prog w A R ⟨hp,g,d,tk,os⟩ ⟨a,b,q⟩;have lx:i<xs.size:=by omega
    have ly:i<ys.size:=by omega
    have lx':i<ns.length:=by rw[<- ix.1];exact lx
    have ly':i<ms.length:=by rw[<- iy.1];exact ly
    obtain⟨t,eu⟩:=ix.2 i _ (xab lx');obtain⟨t',ev⟩:=iy.2 i _ (xab ly');rw[jjv (xab lx') (xab ly')] at q;generalize ns[i]=u at eu q;generalize ms[i]=v at ev q;have e1:xs[((i:Nat):Int).toNat]?=some (.int u t):=by rw[xbe];exact eu
    have e2:ys[((i:Nat):Int).toNat]?=some (.int v t'):=by rw[xbe];exact ev
    wp_walk using wpAny_loadPart' a,wpAny_loadPart' b
    rw[e1,e2];obtain⟨k,hk,hkk⟩:=HT.eqAt_int A.in1 ⟨hp,g,d,tk,os⟩ u t v t';refine wpAny_bind (hk prog w _ _ ?_);cases k with
    | true =>
      rw[if_pos (hkk.mp rfl)] at q
      wp_walk
      refine⟨plainId_quiet plain_eq_loop _,codeAny_builtin entry_eq_loop (Around.under_plainId plain_eq_loop _▸?_)⟩;rw[show ((i:Int)+1)=((i+1:Nat):Int) by omega];exact ih (i+1) (by omega) prog w A R _ ⟨a,b,q⟩
    | false =>
      rw[if_neg (fun z=>nomatch hkk.mpr z)] at q
      wp_walk using wpAny_loadPart' a,wpAny_loadPart' b
      rw[e1,e2];have less:=HT.rcLt_int A.in1 ⟨hp,g,d,tk,os⟩ u t v t' prog w
      wp_walk using less
      exact q
theorem jmu {ns ms:List Int} {l m:Addr} {xs ys:Array Value} {n1 n2:Nat} {d1 d2:Option Addr} {o1 o2:Array (Option Value)} (sz:xs.size=ys.size) (ix:jju xs ns) (iy:jju ys ms) :
  Meets (Builtin.«list.__lt__» ⟨[.ref l,.ref m],[]⟩) (fun _ R s=>s.heap.get? l=some (jmq d1 o1 xs n1)/\s.heap.get? m=some (jmq d2 o2 ys n2)/\R (.ok (.ret (.bool (jdc ns ms)))) s):=by
 rintro prog w A R ⟨hp,g,d,tk,os⟩ ⟨a,b,q⟩;have sub:=AutoSeq1.sub_list_list;unfold jmq at a b
 wp_walk using wpAny_loadPart' a,wpAny_loadPart' b
 exact⟨plainId_quiet plain_eq_loop _,codeAny_builtin entry_eq_loop (Around.under_plainId plain_eq_loop _▸ltGoE sz ix iy xs.size 0 (by omega) prog w A R _ ⟨a,b,q⟩)⟩
theorem jir {ns ms:List Int} {prog:Program} {w:World} {A:Around} {E:Value->Shared->Prop} {s:Shared} {l m:Addr} {xs ys:Array Value} {Q:Value->Shared->Prop} (hl:s.heap.IsList l xs) (hm:s.heap.IsList m ys) (sz:xs.size=ys.size) (ix:jju xs ns) (iy:jju ys ms) (hu:A.units<cLine) (q:Q (.bool (jdc ns ms)) s):wpAny (model prog w) A (compareOp .Lt (.ref l) (.ref m)) Q E s:=by
 obtain⟨⟨c1,d1,a1,o1⟩,h1,e1,n,f1⟩:=id hl;obtain⟨⟨c2,d2,a2,o2⟩,h2,e2,k,f2⟩:=id hm;cases e1;cases e2;cases f1;cases f2;exact richCompare_meets_room (op:=.Lt) ⟨_,h1,rfl⟩ ⟨_,h2,rfl⟩ F.slot_list_lt F.entry_list_lt (F.args_list_lt_2 _ _) (jmu sz ix iy) ⟨h1,h2,⟨(fun x=>nomatch x),q⟩⟩ hu
end
section
variable {X:Cx}
theorem jgq {vs:List Value} {ns:List Int} (h:IntsAre vs ns):jju vs.toArray ns:=by
  induction h with
  | nil=>exact⟨rfl,fun j a h=>nomatch h⟩
  | cons a t _ ih =>
    refine⟨by have:=ih.1;simp at this |-;omega,fun j b h=>?_⟩;cases j with
    | zero=>cases h;exact⟨_,rfl⟩
    | succ j =>
      obtain⟨t',e⟩:=ih.2 j b h;exact⟨t',by simpa using e⟩
theorem jgQ:∀{as bs cs:List Int},jdc as bs=true->jdc bs cs=true->jdc as cs=true
  | [],_,_,h,_=>nomatch h
  | _::_,[],_,h,_=>nomatch h
  | _::_,_::_,[],_,h=>nomatch h
  | a :: as, b :: bs, c :: cs, h3, h4 => by
    unfold jdc at *
    by_cases e1:a=b
    . rw[if_pos e1] at h3
      by_cases e2:b=c
      . rw[if_pos e2] at h4
        rw[if_pos (e1.trans e2)];exact jgQ h3 h4
      . rw[if_neg e2] at h4
        rw[if_neg (by rw[e1];exact e2),e1];exact h4
    . rw[if_neg e1] at h3
      by_cases e2:b=c
      . rw[<- e2,if_neg e1]
        exact h3
      . rw[if_neg e2] at h4
        have z1:=of_decide_eq_true h3;have z2:=of_decide_eq_true h4;rw[if_neg (by omega)];exact decide_eq_true (by omega)
theorem jis:∀(as:List Int),jdc as as=false
  | []=>rfl
  | a :: as => by
    unfold jdc;rw[if_pos rfl];exact jis as
def rLtE (K:PySem.W.Frag):R2:=fun x y H Q=>∃(a b:Addr) (ns ms:List Int),x=.ref a/\y=.ref b/\SqL K H a (ns.map V.int)/\SqL K H b (ms.map V.int)/\ns.length=ms.length/\Q (.bl (jdc ns ms)) H
theorem jmv (hu:X.A.units<cLine):OpR X (compareOp .Lt) (rLtE X.K):=by
 rintro pins s σ H x y v u Q I rx ry ⟨a,b,ns,ms,rfl,rfl,ha,hb,hl,q⟩;cases rx;cases ry;obtain⟨xs,r1,p1,_⟩:=I.list ha;obtain⟨ys,r2,p2,_⟩:=I.list hb;have i1:=jgq (jdB r1);have i2:=jgq (jdB r2);exact jir p1.isList p2.isList (by rw[i1.1,i2.1];exact hl) i1 i2 hu ⟨.bl _,H,I,rfl,q⟩
def valR (f:Addr->List Int):Value->List Int
 | .ref r=>f r
 | _=>[]
def rMinE (K:PySem.W.Frag):List V->Hp->VK->Prop:=fun ys H Q=>∃(a:Addr) (rs:List Addr) (m:Nat) (f:Addr->List Int),ys=[.ref a]/\SqL K H a (rs.map V.ref)/\rs≠[]/\(∀r∈rs,SqL K H r ((f r).map V.int)/\(f r).length=m)/\∀r∈rs,(∀r'∈rs,jdc (f r') (f r)=false)->Q (.ref r) H
theorem jit (hc:X.calm=true) (hu:X.A.units+64<cLine):jc8 X (.builtin "min") (rMinE X.K):=by
 rintro pins s σ H ys us Q I r ⟨a,rs,m,f,rfl,hq,ne,hr,q⟩;obtain⟨u,rfl,rx⟩:=jfc r;cases rx;obtain⟨its,rv,pl,hz⟩:=I.list hq;have len:=rv.length;rw[xaa] at len;have at_:∀{i:Nat} {r:Addr},rs[i]?=some r->its[i]?=some (.ref r):=fun {i r} h=>by
  obtain⟨w',e1,e2⟩:=rv.get (i:=i) (show (rs.map V.ref)[i]?=some (.ref r) by rw[xai,h];rfl);cases e2;exact e1
 have ref:∀v∈its,∃r∈rs,v=.ref r:=fun v hv=>by
  obtain⟨i,hi⟩:=xaP hv;have i2:i<rs.length:=by have:=(xan.mp hi).1;omega
  have z:=at_ (xab i2);rw[hi] at z;exact⟨_,xbb i2,Option.some.inj z⟩
 have fer:∀r∈rs,Value.ref r∈its:=fun r hr'=>by
  obtain⟨i,hi⟩:=xaP hr';exact xas (at_ hi)
 have pos:0<its.toArray.size:=by
  have:=List.length_pos_iff.mpr ne;simp;omega
 have lists:∀r∈rs,∃xs:Array Value,s.heap.IsList r xs/\jju xs (f r):=fun r hr'=>by
  obtain⟨h1,h2⟩:=hr r hr';obtain⟨is,r1,p1,_⟩:=I.list h1;exact⟨_,p1.isList,jgq (jdB r1)⟩
 refine jmt (lss:=fun u v=>jdc (valR f u) (valR f v)) (fun a b c=>jgQ) (fun a=>jis _) (I.ok.hd hc) pl.isList pos (fun h=>∀r∈rs,∃xs:Array Value,h.IsList r xs/\jju xs (f r)) lists (fun h h' g k r hr'=>?_) (fun u v s' Q' E' hi hj g q'=>?_) fun v h' tk hv hm hk=>?_
 ·obtain⟨xs,⟨o,ho,x3⟩,x2⟩:=g r hr';obtain⟨_,⟨o0,ho0,_⟩,_⟩:=lists r hr';exact⟨xs,⟨o,k r o (Heap.lt_size ho0) ho,x3⟩,x2⟩
 ·obtain⟨r1,m1,rfl⟩:=ref u (by simpa using hi);obtain⟨r2,m2,rfl⟩:=ref v (by simpa using hj);obtain⟨xs,x1,x2⟩:=g r1 m1;obtain⟨ys,y1,y2⟩:=g r2 m2;have hu':X.A.in1.units<cLine:=by
   have:X.A.in1.units=X.A.units+1:=rfl;omega
  exact jir x1 y1 (by rw[x2.1,y2.1,(hr r1 m1).2,(hr r2 m2).2]) x2 y2 hu' q'
 ·obtain⟨r1,m1,rfl⟩:=ref v (by simpa using hv);exact⟨.ref r1,H,I.kept hk,rfl,q r1 m1 fun r' hr'=>hm (.ref r') (by simpa using fer r' hr')⟩
theorem jgR:∀{ns ms:List Int},PyData.eqvAll (ns.map PyData.int) (ms.map PyData.int)=true->ns=ms
  | [],[],_=>rfl
  | [],_::_,h=>nomatch h
  | _::_,[],h=>nomatch h
  | n :: ns, m :: ms, h => by
    rw[xaJ,xaJ,PyData.eqvAll,xaE] at h;have e:n=m:=by
      have:=h.1;rw[PyData.eqv] at this;exact beq_iff_eq.mp this
    rw[e,jgR h.2]
def jk8 (K:PySem.W.Frag):V->List V->Hp->VK->Prop:=fun x ys H Q=>∃(p y:Addr) (rs:List Addr) (f:Addr->List Int),x=.ref p/\ys=[.ref y]/\SqL K H p (rs.map V.ref)/\(∀r∈rs,SqL K H r ((f r).map V.int))/\y∈rs/\rs.length<1000/\∀(j:Nat) (r:Addr),rs[j]?=some r->f r=f y->Q (.int j) H
theorem jiu (hu:X.A.units+64<cLine):MtR X "list.index" (jk8 X.K):=by
 intro pins s σ H x xs v us Q I rx r h;obtain⟨p,y,rs,f,rfl,rfl,hq,hr,hy,hn,q⟩:=h;cases (show v=Value.ref p from rx);obtain⟨u,rfl,r1⟩:=jfc r;cases r1;obtain⟨its,rv,pl,hz⟩:=I.list hq;have hl:=rv.length;rw[xaa] at hl;obtain⟨⟨cls,dd,data,sl⟩,ho,hc,n,hd⟩:=id pl.isList;simp only at hc hd;subst hc hd;have at_:∀{i:Nat} {r:Addr},rs[i]?=some r->its[i]?=some (.ref r):=fun {i r} h=>by
  obtain⟨w',e1,e2⟩:=rv.get (i:=i) (show (rs.map V.ref)[i]?=some (.ref r) by rw[xai,h];rfl);cases e2;exact e1
 have rd:∀r∈rs,∃as,Reads s.heap (.ref r) (.list ((f r).map PyData.int)) as:=fun r h=>Rds.reads (x:=.ref r) I (.lst (hr r h) (RdsAll.ints _)) rfl;have sh:∀ns:List Int,PyData.canLay0 (.list (ns.map PyData.int))=true/\PyData.depth (.list (ns.map PyData.int))<=64:=fun ns=>⟨SeqAt.canLay_of_shaped (PySem.W.ke_shaped_ints ns),SeqAt.depth_of_shaped (PySem.W.ke_shaped_ints ns)⟩
 let e:Value->Bool:=fun w=>PyData.eqv (.list ((valR f w).map PyData.int)) (.list ((f y).map PyData.int))
 have u1:X.A.in1.units=X.A.units+1:=rfl;have he:∀w∈its,SeqAt.EqAt X.A.in1 s w (.ref y) (e w):=fun w hw=>by
  obtain⟨i,hi⟩:=xaP hw;have i2:i<rs.length:=by have:=(xan.mp hi).1;omega
  have z:=at_ (xab i2);rw[hi] at z;cases z;obtain⟨as,ra⟩:=rd _ (xbb i2);obtain⟨bs,rb⟩:=rd y hy;exact SeqAt.eqAt_reads _ _ _ s _ _ as bs ra rb (sh _).1 (sh _).1 (by
   have:=Nat.min_le_left (PyData.depth (.list ((f rs[i]).map PyData.int))) (PyData.depth (.list ((f y).map PyData.int)));have:=(sh (f rs[i])).2;simp only[PyData.depth,PySem.W.ke_depthAll] at *
   omega)
 obtain⟨i0,hi0⟩:=xaP hy;have e0:e (.ref y)=true:=SeqAt.eqv_refl _ (sh _).1;have hj:its.findIdx e<its.length:=xa9 ⟨_,xas (at_ hi0),e0⟩;have hj2:its.findIdx e<rs.length:=by omega
 have ej:=List.findIdx_getElem (p:=e) (w:=hj);have er:its[its.findIdx e]=.ref rs[its.findIdx e]:=by
  have z:=at_ (xab hj2);rw[xab hj] at z;exact Option.some.inj z
 refine call_meets F.slot_list_index ⟨_,ho,rfl⟩ F.entry_list_index (F.args_list_index_2 _ _) (SeqAt.list_indexAt p its.toArray n dd sl (.ref y) e (its.findIdx e) (by simpa using hj) (by omega) ?_ ?_) ⟨ho,fun w hw=>he w (by simpa using hw),⟨.int _,H,I.tok _,⟨_,rfl⟩,q _ _ (xab hj2) ?_⟩⟩
 ·simpa using ej
 ·intro m hm hlt;have:=List.not_of_lt_findIdx hlt;simpa using this
 ·rw[er] at ej;exact jgR (show PyData.eqvAll _ _=true by
   have z:PyData.eqv (.list ((f rs[its.findIdx e]).map PyData.int)) (.list ((f y).map PyData.int))=true:=ej;rw[PyData.eqv] at z;exact z)
end
end L2
set_option maxHeartbeats 2000000
namespace My
def G (d:Int) (ns:List Int):Int:=ns.foldl (fun d n=>((Int.gcd d n:Nat):Int)) d
abbrev gl (ns:List Int):Int:=G 0 ns
theorem jgS (d n:Int) (r:List Int):G d (n::r)=G (Int.gcd d n:Nat) r:=rfl
theorem jmw (d:Int) (l:List Int) (n:Int):G d (l++[n])=(Int.gcd (G d l) n:Nat):=by
 unfold G;rw[List.foldl_append];rfl
theorem jgT:∀(ns:List Int) (d:Int),0<=d->0<=G d ns
 | [],_,h=>h
 | n::r,d,_=>by rw[jgS];exact jgT r _ (by omega)
theorem jbK (ns:List Int):0<=gl ns:=jgT ns 0 (by omega)
theorem jmx:∀(ns:List Int) (d:Int),G d ns ∣ d/\∀n∈ns,G d ns ∣ n
  | [],d=>⟨Int.dvd_refl d,fun n h=>nomatch h⟩
  | m :: r, d => by
    obtain⟨h1,h2⟩:=jmx r (Int.gcd d m:Nat);rw[jgS];refine⟨xbs h1 (xbC ..),fun n hn=>?_⟩;rcases xad.mp hn with rfl | hn
    . exact xbs h1 (xby ..)
    . exact h2 n hn
variable {ns:List Int}
theorem ja4 {n:Int} (h:n∈ns):gl ns ∣ n:=(jmx ns 0).2 n h
theorem jmy:∀(ns:List Int) (d k:Int),k ∣ d->(∀n∈ns,k ∣ n)->k ∣ G d ns
  | [],_,_,h,_=>h
  | m :: r, d, k, h, hn => by
    rw[jgS];refine jmy r _ k ?_ fun n h'=>hn n (xar _ h');have h2:=hn m xaL;exact xbI h h2
variable {k g c a d z j:Int}
theorem jf5 (h:∀n∈ns,k ∣ n):k ∣ gl ns:=jmy ns 0 k (Int.dvd_zero k) h
theorem jk9 (h0:0<=k) (h:k ∣ 1):k=1:=by
 exact Int.eq_one_of_dvd_one h0 h
theorem jmz (hg:gl ns≠0):gl (ns.map (· / gl ns))=1:=by
 have h0:=jbK ns;refine jk9 (jbK _) ?_;have h1:∀n∈ns,gl (ns.map (· / gl ns))*gl ns ∣ n:=fun n hn=>by
  obtain⟨c,hc⟩:=ja4 (ns:=ns.map (· / gl ns)) (xaC.mpr ⟨n,hn,rfl⟩);refine⟨c,?_⟩;have e:n=n / gl ns*gl ns:=(xat (ja4 hn)).symm;rw[e,hc,Int.mul_assoc,Int.mul_comm c,<- Int.mul_assoc]
 obtain⟨c,hc⟩:=jf5 h1;refine⟨c,?_⟩;have h2:gl ns*1=gl ns*(gl (ns.map (· / gl ns))*c):=by
  rw[Int.mul_one,<- Int.mul_assoc,Int.mul_comm (gl ns) (gl (ns.map (· / gl ns)))];exact hc
 exact Int.eq_of_mul_eq_mul_left hg h2
theorem jmA:∀ns:List Int,G 1 ns=1
  | []=>rfl
  | n :: r => by
    rw[jgS];have:Int.gcd 1 n=1:=by simp
    rw[this];exact jmA r
theorem jjw (d:Int) (a b:List Int):G d (a++b)=G (G d a) b:=by
 unfold G;exact List.foldl_append
variable {n i f:Nat}
theorem jeS (h:gl (ns.take i)=1):gl ns=1:=by
 have e:ns=ns.take i++ns.drop i:=(List.take_append_drop i ns).symm;rw[e];show G 0 _=1;rw[jjw];have h':G 0 (ns.take i)=1:=h;rw[h'];exact jmA _
theorem jf6 {n:Int} (h:ns[i]?=some n):gl (ns.take (i+1))=(Int.gcd (gl (ns.take i)) n:Nat):=by
 rw[xa3,h];exact jmw 0 _ n
theorem jgr (ns:List Int):ns.map (· / 1)=ns:=by
 induction ns with
 | nil=>rfl
 | cons a r ih=>rw[xaJ,ih,Int.ediv_one]
theorem jgU (a b:Int) (ha:0<=a):Int.gcd b (a % b)=Int.gcd a b:=by
 have h1:(a % b).natAbs=a.natAbs % b.natAbs:=Int.natAbs_emod_of_nonneg ha b;rw[Int.gcd_eq_natAbs_gcd_natAbs,Int.gcd_eq_natAbs_gcd_natAbs,h1];rw[Nat.gcd_comm,Nat.gcd_comm a.natAbs,<- Nat.gcd_rec]
theorem jiv (a b:Int):Int.gcd (if a<0 then -a else a) (if b<0 then -b else b)=Int.gcd a b:=by
 split<;>split<;>simp [Int.gcd_neg,Int.neg_gcd]
theorem jhE (a b:Int):Int.gcd (if b>a then b else a) (if b<a then b else a)=Int.gcd a b:=by
 split<;>split
 ·omega
 ·exact Int.gcd_comm b a
 ·rfl
 ·have:a=b:=by omega
  rw[this]
theorem jf7 {n:Int} (h:n∈ns) (hn:n≠0):0<gl ns:=by
 have h0:=jbK ns;rcases Int.lt_or_eq_of_le h0 with h1 | h1
 ·exact h1
 ·obtain⟨c,hc⟩:=ja4 h;rw[<- h1,xa0] at hc;exact absurd hc hn
end My
namespace My
variable {k g c a d z j:Int}
theorem jgs {n:Int} (h:g ∣ n) (hn:n≠0):n / g≠0:=fun z=>by
 have e:=xat h;rw[z,xa0] at e;exact hn e.symm
end My
local macro_rules | `(tactic| walk_at "cs") => `(tactic| exact .nest rfl rfl (by decide +kernel) (by decide +kernel) (by decide +kernel) (by decide +kernel) (by repeat (first | exact .nil | refine .cons rfl (.inl rfl) rfl ?_)))
local macro_rules | `(tactic| walk_at "rjs") => `(tactic| simp only [L2.start, L2.jkB, L2.jhk, L2.jjY, L2.jbw, L2.jhj, L2.tC, L2.tOp, L2.tUn, L2.jgi, L2.tB, L2.jkC, L2.ji5, L2.ji9, L2.jhM, L2.jgz, L2.ji8, L2.jlW, L2.tOr, L2.jlX, L2.jhK, L2.tOrV, L2.jhL, L2.jgj, L2.tCB, L2.jfe, L2.jhs, L2.jkM, L2.jkN, L2.jl1, L2.jme, L2.tBM, L2.tyV, L2.jmi, L2.gk, and_self, L2.tSl, L2.jef, L2.jh0, L2.jjX, L2.je9, L2.jkD, L2.jgf, and_assoc, L2.rI, L2.rI0, L2.rU, L2.rEq, L2.rNe, L2.jlL, List.map_cons, List.map_nil, List.length_cons, List.length_nil, List.replicate_succ, List.replicate_zero, List.cons_append, List.nil_append, List.append_nil, Nat.reduceSub, Nat.reduceAdd, Nat.sub_self, List.set_cons_zero, List.set_cons_succ, List.getElem?_cons_zero, List.getElem?_cons_succ, Option.some.injEq, exists_eq_left', exists_eq_left, L2.V.int.injEq, L2.V.bl.injEq, L2.V.ref.injEq, L2.V.ty.injEq, List.cons.injEq, exists_and_left, and_true, true_and, reduceCtorEq, false_and, and_false, exists_false, or_false, false_or, L2.jaN, Option.getD_some, Bool.true_eq_false, decide_eq_true_eq, Bool.not_eq_true', decide_eq_false_iff_not, decide_not, Bool.false_eq_true, if_true, if_false, ite_not])
local macro_rules | `(tactic| walk_at "rj") => `(tactic| first | ((dsimp only [L2.start, L2.jkB, L2.jhk, L2.jjY, L2.jbw, L2.jhj, L2.tC, L2.tOp, L2.tUn, L2.jgi, L2.tB, L2.jkC, L2.ji5, L2.ji9, L2.jhM, L2.jgz, L2.ji8, L2.jlW, L2.tOr, L2.jlX, L2.jhK, L2.tOrV, L2.jhL, L2.jgj, L2.tCB, L2.jfe, L2.jhs, L2.jkM, L2.jkN, L2.jl1, L2.jme, L2.tBM, L2.tyV, L2.jmi, L2.gk, L2.tSl, L2.jef, L2.jh0, L2.jjX, L2.je9, L2.jkD, L2.jgf, L2.rI, L2.rI0, L2.rU, L2.rEq, L2.rNe, L2.jlL, L2.jaN, List.map_cons, List.map_nil, List.length_cons, List.length_nil, List.replicate_succ, List.replicate_zero, List.cons_append, List.nil_append, List.set_cons_zero, List.set_cons_succ, List.getElem?_cons_zero, List.getElem?_cons_succ, Option.getD_some, Nat.reduceSub, Nat.reduceAdd]); (try walk_at "rjs")) | walk_at "rjs")
local macro_rules | `(tactic| walk_at "go") => `(tactic| repeat (first | refine L2.ixT (by assumption) rfl ?_ | refine L2.ixL (by assumption) rfl ?_ | refine And.intro (by assumption) ?_ | walk_at "rj"))
local macro_rules | `(tactic| walk_at "ris") => `(tactic| simp only [L2.start, L2.jkB, L2.jhk, L2.jjY, L2.jbw, L2.jhj, L2.tC, L2.tOp, L2.tUn, L2.jgi, L2.tB, L2.jkC, L2.ji5, L2.ji9, L2.jhM, L2.jgz, L2.ji8, L2.jlW, L2.tOr, L2.jlX, L2.jhK, L2.tOrV, L2.jhL, L2.jgj, L2.tCB, L2.jfe, L2.jhs, L2.jkM, L2.jkN, L2.jl1, L2.jme, L2.tBM, L2.tyV, L2.jmi, L2.gk, and_self, L2.tSl, L2.jef, L2.jh0, L2.jjX, L2.je9, L2.jkD, L2.jgf, and_assoc, L2.rI, L2.rI0, L2.rU, L2.rEq, L2.rNe, L2.jlL, List.map_cons, List.map_nil, List.length_cons, List.length_nil, List.replicate_succ, List.replicate_zero, List.cons_append, List.nil_append, List.append_nil, Nat.reduceSub, Nat.reduceAdd, Nat.sub_self, List.set_cons_zero, List.set_cons_succ, List.getElem?_cons_zero, List.getElem?_cons_succ, Option.some.injEq, exists_eq_left', exists_eq_left, L2.V.int.injEq, L2.V.bl.injEq, L2.V.ref.injEq, L2.V.ty.injEq, List.cons.injEq, exists_and_left, and_true, true_and, reduceCtorEq, false_and, and_false, exists_false, or_false, false_or, L2.jaN, Option.getD_some, Bool.true_eq_false, decide_eq_true_eq, Bool.not_eq_true', decide_eq_false_iff_not, decide_not, Bool.false_eq_true, if_true, if_false, ite_not, L2.jie, L2.jif, L2.jj4, L2.jj5, L2.jgJ, L2.jgK, L2.jig, L2.jih, L2.jj6, L2.jij, L2.jgD, L2.V.str.injEq, L2.jgL, L2.jfj, L2.jgM, L2.jj7])
local macro_rules | `(tactic| walk_at "ri") => `(tactic| first | ((dsimp only [L2.start, L2.jkB, L2.jhk, L2.jjY, L2.jbw, L2.jhj, L2.tC, L2.tOp, L2.tUn, L2.jgi, L2.tB, L2.jkC, L2.ji5, L2.ji9, L2.jhM, L2.jgz, L2.ji8, L2.jlW, L2.tOr, L2.jlX, L2.jhK, L2.tOrV, L2.jhL, L2.jgj, L2.tCB, L2.jfe, L2.jhs, L2.jkM, L2.jkN, L2.jl1, L2.jme, L2.tBM, L2.tyV, L2.jmi, L2.gk, L2.tSl, L2.jef, L2.jh0, L2.jjX, L2.je9, L2.jkD, L2.jgf, L2.rI, L2.rI0, L2.rU, L2.rEq, L2.rNe, L2.jlL, L2.jaN, L2.jie, L2.jif, L2.jj4, L2.jj5, L2.jgJ, L2.jgK, L2.jig, L2.jih, L2.jj6, L2.jij, L2.jgD, L2.jgL, L2.jfj, L2.jgM, L2.jj7, List.map_cons, List.map_nil, List.length_cons, List.length_nil, List.replicate_succ, List.replicate_zero, List.cons_append, List.nil_append, List.set_cons_zero, List.set_cons_succ, List.getElem?_cons_zero, List.getElem?_cons_succ, Option.getD_some, Nat.reduceSub, Nat.reduceAdd]); (try walk_at "ris")) | walk_at "ris")
local macro_rules | `(tactic| walk_at "sd") => `(tactic| first | assumption | exact L2.Fit.o (by omega) (by omega) | (show L2.CPow _ _; exact ⟨by decide, by decide, by decide⟩) | decide)
local macro_rules | `(tactic| walk_at "gf") => `(tactic| repeat (first | ((with_reducible apply L2.ixT); assumption; rfl) | ((with_reducible apply L2.ixL); assumption; rfl) | ((with_reducible apply L2.FoR.lst); assumption) | ((with_reducible apply L2.FoR.tup); assumption) | ((with_reducible apply L2.FoR.len); assumption) | ((with_reducible apply L2.FoR.lenT); assumption) | ((with_reducible apply And.intro); (walk_at "sd")) | walk_at "ri"))
local macro_rules | `(tactic| walk_at "sc") => `(tactic| exact ⟨rfl, rfl, rfl, by decide +kernel, rfl, by decide +kernel, by decide +kernel⟩)
local macro_rules | `(tactic| walk_at "rd") => `(tactic| try walk_at "rj")
local macro_rules | `(tactic| walk_at "rf") => `(tactic| try walk_at "ri")
namespace My
open PySem L2 PyProof.Rows
def top (i:Nat):Stmt:=PySem.Challenge.pw_boardsight_k82_yards_keep_their_own.main.body.getD i (.Pass ⟨0,0,0,0⟩)
abbrev jer:Stmt:=top 11
abbrev jbs:Stmt:=top 13
abbrev jbu:Stmt:=top 14
abbrev jes:Stmt:=top 15
abbrev jca:Stmt:=top 16
abbrev jbW:Stmt:=top 18
abbrev jet:Stmt:=top 19
abbrev jdI:Stmt:=top 20
abbrev jeu:Stmt:=top 21
abbrev jcy:Stmt:=top 23
abbrev jbX:Stmt:=top 24
abbrev jdJ:Stmt:=top 25
abbrev jcb:Stmt:=top 26
abbrev jbL:Stmt:=top 27
abbrev jcc:Stmt:=top 28
abbrev jev:Stmt:=top 29
abbrev jfo:Stmt:=top 32
abbrev jdd:Stmt:=top 33
abbrev jbY:Stmt:=top 34
abbrev jde:Stmt:=top 35
abbrev jcz:Stmt:=top 36
abbrev jew:Stmt:=top 40
abbrev jbM:Stmt:=jb5 (top 41) 0
abbrev jbZ:Stmt:=jb5 (top 41) 1
abbrev jdK:Stmt:=jb5 (top 41) 2
abbrev jdf:Stmt:=jb5 (top 41) 3
abbrev jdg:Stmt:=jb5 (top 41) 4
abbrev jcA:Stmt:=jb5 (top 41) 6
abbrev jcd:Stmt:=jb5 (top 41) 7
abbrev jbN:Stmt:=jb5 (top 41) 8
abbrev jcB:Stmt:=jb5 (top 41) 9
abbrev jce:Stmt:=top 43
abbrev jb0:Stmt:=top 44
abbrev jcC:Stmt:=top 45
abbrev jbO:Stmt:=top 46
abbrev jcD:Stmt:=top 47
abbrev jcf:Stmt:=top 48
abbrev jdh:Stmt:=top 49
abbrev jcE:Stmt:=top 50
abbrev jdi:Stmt:=top 51
abbrev jcg:Stmt:=top 52
abbrev jch:Stmt:=top 53
abbrev jcF:Stmt:=top 54
abbrev jcG:Stmt:=top 55
abbrev jdL:Stmt:=top 56
abbrev jcH:Stmt:=top 57
abbrev jci:Stmt:=top 58
abbrev jdM:Stmt:=top 59
abbrev jcj:Stmt:=top 60
abbrev jck:Stmt:=top 61
abbrev jfp:Stmt:=top 62
def Small (i:Int):Prop:=i.natAbs<2^1990
theorem Small.neg {i:Int} (h:Small i):Small (-i):=by unfold Small at *;rw[Int.natAbs_neg];exact h
theorem Small.ite {c:Prop} [Decidable c] {i j:Int} (h:Small i) (h':Small j):Small (if c then i else j):=by split<;>assumption
theorem Small.bd {i:Int} (h:Small i):Bd 1990 i:=h
theorem Small.of {i:Int} (h1:-1606938044258990275541962092341162602522202993782792835301376<i) (h2:i<1606938044258990275541962092341162602522202993782792835301376):Small i:=(Bd.of h1 h2).mono
variable {k g c a d z j:Int}
theorem Small.div {i:Int} (h:Small i):Small (i / g):=xa1 (xa6 i g) h
variable {ns:List Int}
theorem jgV (h:∀n∈ns,Small n):Small (gl ns):=by
 by_cases c:∃n∈ns,n≠0
 ·obtain⟨n,hn,h0⟩:=c;have z:=Int.natAbs_dvd_natAbs.mpr (ja4 hn);exact xa1 (Nat.le_of_dvd (by omega) z) (h n hn)
 ·have z:(0:Int) ∣ gl ns:=jf5 fun n hn=>by
   have:n=0:=xa7 fun q=>c ⟨n,hn,q⟩;rw[this];exact Int.dvd_refl 0
  rw[Int.zero_dvd.mp z];exact Nat.two_pow_pos _
variable {H H' H1:Hp}
theorem Same.keep {p:Addr} {o:HO} (h:Same H H') (n:H p=none):Same H (upd H' p o):=fun b u q=>by rw[jar (jau q n)];exact h b u q
variable {n i f:Nat}
theorem jka {v:V} (h:(ns.map V.int)[i]?=some v):∃z,v=V.int z/\ns[i]?=some z:=by
 rw[xai] at h;cases e:ns[i]? with
 | none=>rw[e] at h;cases h
 | some z=>rw[e] at h;exact⟨z,(Option.some.inj h).symm,rfl⟩
def spGd:Sp:=fun vs H Q _=>∃a b:Int,vs=[.int a,.int b]/\Small a/\Small b/\Q (.int (Int.gcd a b:Nat)) H
def jla:Sp:=fun vs H Q _=>∃(a:Addr) (ns:List Int),vs=[.ref a]/\H a=some (.tup (ns.map V.int))/\ns.length<=10/\(∀n∈ns,Small n)/\gl ns≠0 /\
 ∀(r:Addr) (H':Hp),Same H H'->H' r=some (.tup ((ns.map (· / gl ns)).map V.int))->Q (.ref r) H'
def jjx (K:PySem.W.Frag):Sp:=fun vs H Q _=>∃(a:Addr) (ns:List Int),vs=[.ref a]/\SqL K H a (ns.map V.int)/\ns.length<=63/\∀H',Q (.bl true) H'
structure Tx (K:PySem.W.Frag) (mg:Str->Option Value) (t1 t2:Tok):Prop where
 m_abs:mg "abs"=none
 m_max:mg "max"=none
 m_min:mg "min"=none
 m_len:mg "len"=none
 m_all:mg "all"=none
 m_range:mg "range"=none
 m_tuple:mg "tuple"=none
 m_list:mg "list"=none
 m_str:mg "str"=none
 m_isinstance:mg "isinstance"=none
 m_reversed:mg "reversed"=none
 m_int:mg "int"=none
 m_bool:mg "bool"=none
 m_SHORT_BITS:mg "SHORT_BITS"=some (.int 2000 t1)
 m_MOST_CORNERS:mg "MOST_CORNERS"=some (.int 8 t2)
 e_MOST_LETTERS:∃v,mg "MOST_LETTERS"=some v/\RelV (.int 8) v
 e_MOST_BOARDS:∃v,mg "MOST_BOARDS"=some v/\RelV (.int 6) v
theorem Tx.m_MOST_LETTERS {K:PySem.W.Frag} {mg:Str->Option Value} {t1 t2:Tok} (T:Tx K mg t1 t2):mg "MOST_LETTERS"=some T.e_MOST_LETTERS.choose:=T.e_MOST_LETTERS.choose_spec.1
theorem Tx.r_MOST_LETTERS {K:PySem.W.Frag} {mg:Str->Option Value} {t1 t2:Tok} (T:Tx K mg t1 t2):RelV (.int 8) T.e_MOST_LETTERS.choose:=T.e_MOST_LETTERS.choose_spec.2
theorem Tx.m_MOST_BOARDS {K:PySem.W.Frag} {mg:Str->Option Value} {t1 t2:Tok} (T:Tx K mg t1 t2):mg "MOST_BOARDS"=some T.e_MOST_BOARDS.choose:=T.e_MOST_BOARDS.choose_spec.1
theorem Tx.r_MOST_BOARDS {K:PySem.W.Frag} {mg:Str->Option Value} {t1 t2:Tok} (T:Tx K mg t1 t2):RelV (.int 6) T.e_MOST_BOARDS.choose:=T.e_MOST_BOARDS.choose_spec.2
theorem Tx.r_SHORT_BITS {K:PySem.W.Frag} {mg:Str->Option Value} {t1 t2:Tok} (_:Tx K mg t1 t2):RelV (.int 2000) (.int 2000 t1):=⟨_,rfl⟩
theorem Tx.r_MOST_CORNERS {K:PySem.W.Frag} {mg:Str->Option Value} {t1 t2:Tok} (_:Tx K mg t1 t2):RelV (.int 8) (.int 8 t2):=⟨_,rfl⟩
def low (ns:List Int):List Int:=ns.map (· / gl ns)
def Sm2 (i:Int):Prop:=i.natAbs<2^200
theorem Sm2.bd {i:Int} (h:Sm2 i):Bd 1990 i:=Bd.mono (n:=200) h
theorem Sm2.of {i:Int} (h1:-1606938044258990275541962092341162602522202993782792835301376<i) (h2:i<1606938044258990275541962092341162602522202993782792835301376):Sm2 i:=Bd.of h1 h2
theorem Sm2.div {i:Int} (h:Sm2 i):Sm2 (i / g):=xa1 (xa6 i g) h
structure Pt where
 x:Int
 y:Int
 z:Int
 w:Int
def Pt.sm (p:Pt):Prop:=Sm2 p.x/\Sm2 p.y/\Sm2 p.z/\Sm2 p.w
def Is4 (H:Hp) (r:Addr) (p:Pt):Prop:=H r=some (.tup [.int p.x,.int p.y,.int p.z,.int p.w])/\p.sm
variable {r y Y SE pL rL dL:Addr}
variable {p:Pt}
theorem Is4.keep (h:Is4 H r p) (s:Same H H'):Is4 H' r p:=⟨s _ _ h.1,h.2⟩
theorem Is4.sq {K:PySem.W.Frag} (h:Is4 H r p):SqT K H r [.int p.x,.int p.y,.int p.z,.int p.w]:=SqT.of h.1
theorem Pt.sm.fx (h:p.sm):Fit p.x:=h.1.bd.fit
theorem Pt.sm.fy (h:p.sm):Fit p.y:=h.2.1.bd.fit
theorem Pt.sm.fz (h:p.sm):Fit p.z:=h.2.2.1.bd.fit
theorem Pt.sm.fw (h:p.sm):Fit p.w:=h.2.2.2.bd.fit
def wo (k:Int) (p:Pt):List Int:=if k=0 then [p.y,p.z,p.w] else if k=1 then [p.x,p.z,p.w] else if k=2 then [p.x,p.y,p.w] else [p.x,p.y,p.z]
def jcT (a b c x y z u v w:Int):Int:=(b*z-c*y)*u+(c*x-a*z)*v+(a*y-b*x)*w
def detL:List Int->List Int->List Int->Int
 | [a,b,c],[x,y,z],[u,v,w]=>jcT a b c x y z u v w
 | _,_,_=>0
def jaG (k:Int) (p q r:Pt):Int:=detL (wo k p) (wo k q) (wo k r)
def inl (p q r:Pt):Bool:=decide (jaG 0 p q r=0/\jaG 1 p q r=0/\jaG 2 p q r=0)
def Tup3 (H:Hp) (r:Addr) (a b c:Int):Prop:=H r=some (.tup [.int a,.int b,.int c])/\Sm2 a/\Sm2 b/\Sm2 c
def jiw:Sp:=fun vs H Q _=>∃(r p:Addr) (a b c x y z:Int),vs=[.ref r,.ref p]/\Tup3 H r a b c/\Tup3 H p x y z /\
 ∀(t:Addr) (H':Hp),Same H H'->H' t=some (.tup [.int (b*z-c*y),.int (c*x-a*z),.int (a*y-b*x)])->Q (.ref t) H'
def jmB:Sp:=fun vs H Q _=>∃(r p s:Addr) (a b c x y z u v w:Int),vs=[.ref r,.ref p,.ref s]/\Tup3 H r a b c/\Tup3 H p x y z/\Tup3 H s u v w/\∀H':Hp,Same H H'->Q (.int (jcT a b c x y z u v w)) H'
def jf8:Sp:=fun vs H Q _=>∃(r:Addr) (k:Int) (p:Pt),vs=[.ref r,.int k]/\Is4 H r p/\0<=k/\k<=3/\∀(t:Addr) (H':Hp),Same H H'->H' t=some (.tup ((wo k p).map V.int))->Q (.ref t) H'
def jfq:Sp:=fun vs H Q _=>∃(r s t:Addr) (k:Int) (p q o:Pt),vs=[.ref r,.ref s,.ref t,.int k]/\Is4 H r p/\Is4 H s q/\Is4 H t o/\0<=k/\k<=3/\∀H':Hp,Same H H'->Q (.int (jaG k p q o)) H'
def jkb:Sp:=fun vs H Q _=>∃(r s t:Addr) (p q o:Pt),vs=[.ref r,.ref s,.ref t]/\Is4 H r p/\Is4 H s q/\Is4 H t o/\∀H':Hp,Same H H'->Q (.bl (inl p q o)) H'
def jgW:Sp:=fun vs H Q _=>∃(r:Addr) (ns:List Int),vs=[.ref r]/\H r=some (.tup (ns.map V.int))/\ns.length<=10/\∀(t:Addr) (H':Hp),Same H H'->H' t=some (.tup ((ns.map fun n=>-n).map V.int))->Q (.ref t) H'
def plb (a b c:Int):Bool:=if a≠0 then decide (0<a) else if b≠0 then decide (0<b) else if c≠0 then decide (0<c) else false
def jix:Sp:=fun vs H Q _=>∃(r:Addr) (a b c d:Int),vs=[.ref r]/\H r=some (.tup [.int a,.int b,.int c,.int d])/\∀H':Hp,Same H H'->Q (.bl (plb a b c)) H'
def rgh (p o u:Pt):List Int:=[jaG 0 p o u,-jaG 1 p o u,jaG 2 p o u,jaG 3 p o u]
def jiy:Sp:=fun vs H Q _=>∃(r e t:Addr) (p o u:Pt),vs=[.ref r,.ref e,.ref t]/\Is4 H r p/\Is4 H e o/\Is4 H t u/\∀(g:Addr) (H':Hp),Same H H'->H' g=some (.tup ((rgh p o u).map V.int))->Q (.ref g) H'
def pln (ns:List Int):List Int:=match low ns with
 | [a,b,c,d]=>if plb a b c=true then [a,b,c,d] else [-a,-b,-c,-d]
 | l=>l
def jgt (p o u:Pt):Prop:=jaG 0 p o u=0/\jaG 1 p o u=0/\jaG 2 p o u=0
def hgt (a b c d:Int) (p:Pt):Int:=a*p.x+b*p.y+c*p.z-d*p.w
def sgn (n:Int):Int:=if n>0 then 1 else if n<0 then -1 else 0
def jiz:Sp:=fun vs H Q _=>∃n:Int,vs=[.int n]/\Q (.int (sgn n)) H
def sf (x y z w x' y' z' w':Int):Bool:=if x*w'≠x'*w then decide (x*w'<x'*w) else if y*w'≠y'*w then decide (y*w'<y'*w) else if z*w'≠z'*w then decide (z*w'<z'*w) else false
def sfp (p o:Pt):Bool:=sf p.x p.y p.z p.w o.x o.y o.z o.w
def jiA:Sp:=fun vs H Q _=>∃(r e:Addr) (p o:Pt),vs=[.ref r,.ref e]/\Is4 H r p/\Is4 H e o/\Q (.bl (sfp p o)) H
def jiB:Sp:=fun vs H Q _=>∃a b c d:Int,vs=[.int a,.int b,.int c,.int d]/\Small a/\Small b/\Small c/\Small d/\¬(a=0/\b=0/\c=0)/\∀(r:Addr) (H':Hp),Same H H'->H' r=some (.tup ((low [a,b,c,d]).map V.int))->Q (.ref r) H'
def jf9:Sp:=fun vs H Q _=>∃(r e t:Addr) (p o u:Pt),vs=[.ref r,.ref e,.ref t]/\Is4 H r p/\Is4 H e o/\Is4 H t u/\¬jgt p o u/\∀(g:Addr) (H':Hp),Same H H'->H' g=some (.tup ((pln (rgh p o u)).map V.int))->Q (.ref g) H'
def spHt:Sp:=fun vs H Q _=>∃(r e:Addr) (a b c d:Int) (p:Pt),vs=[.ref r,.ref e]/\H r=some (.tup [.int a,.int b,.int c,.int d])/\Small a/\Small b/\Small c/\Small d/\Is4 H e p/\Q (.int (hgt a b c d p)) H
def jkc:Sp:=fun vs H Q _=>∃(r e:Addr) (a b c d:Int) (p:Pt),vs=[.ref r,.ref e]/\H r=some (.tup [.int a,.int b,.int c,.int d])/\Small a/\Small b/\Small c/\Small d/\Is4 H e p/\Q (.int (sgn (hgt a b c d p))) H
inductive Sps (H:Hp):List Addr->List Pt->Prop
 | nil:Sps H [] []
 | cons {r:Addr} {p:Pt} {rs:List Addr} {ps:List Pt} (h:Is4 H r p) (t:Sps H rs ps):Sps H (r::rs) (p::ps)
variable {rs S M ds:List Addr}
variable {ps qs l:List Pt}
theorem Sps.keep (h:Sps H rs ps) (s:SameT H H'):Sps H' rs ps:=by
 induction h with
 | nil=>exact .nil
 | cons h _ ih=>exact .cons ⟨s _ _ h.1,h.2⟩ ih
theorem Sps.len (h:Sps H rs ps):rs.length=ps.length:=by
 induction h with
 | nil=>rfl
 | cons h _ ih=>rw[xav,xav,ih]
theorem Sps.app {rs':List Addr} {ps':List Pt} (h:Sps H rs ps) (k:Sps H rs' ps'):Sps H (rs++rs') (ps++ps'):=by
 induction h with
 | nil=>exact k
 | cons h _ ih=>exact .cons h ih
theorem Sps.rev (h:Sps H rs ps):Sps H rs.reverse ps.reverse:=by
  induction h with
  | nil=>exact .nil
  | cons h _ ih =>
    rw[xaZ,xaZ];exact ih.app (.cons h .nil)
theorem Sps.drop (h:Sps H rs ps):∀n,Sps H (rs.drop n) (ps.drop n):=by
  induction h with
  | nil=>intro n;rw[xbR,xbR];exact .nil
  | cons h k ih =>
    intro n;cases n with
    | zero=>exact .cons h k
    | succ n=>exact ih n
theorem Sps.take (h:Sps H rs ps):∀n,Sps H (rs.take n) (ps.take n):=by
  induction h with
  | nil=>intro n;rw[xbF,xbF];exact .nil
  | cons h k ih =>
    intro n;cases n with
    | zero=>exact .nil
    | succ n=>exact .cons h (ih n)
def p0:Pt:=⟨0,0,0,0⟩
def pt (ps:List Pt) (i:Nat):Pt:=ps.getD i p0
def ad (rs:List Addr) (i:Nat):Addr:=rs.getD i 0
theorem Sps.get (h:Sps H rs ps):∀{i:Nat},i<ps.length->(rs.map V.ref)[i]?=some (.ref (ad rs i))/\Is4 H (ad rs i) (pt ps i):=by
  induction h with
  | nil=>intro i hi;exact absurd hi (by simp)
  | cons h k ih =>
    intro i hi;cases i with
    | zero=>exact⟨rfl,h⟩
    | succ i=>exact ih (by simpa using hi)
theorem jfr {α:Type} {xs:List α} {v:α} (hn:xs.length=n+1) (h:xs[n]?=some v):atI xs (-1)=some v:=by
 have e:xs=xs.take n++[v]:=by
  have z:=xa3 (l:=xs) (i:=n);rw[h,<- hn,xa2] at z;exact z
 rw[e];exact jjn _ _
variable {xs:List V}
theorem jbE :jfD xs (some (f:Int)) none=xs.drop f:=by
 unfold jfD;rw[HT.sIx_nat,HT.sIx_none];by_cases h:f<=xs.length
 ·rw[Nat.min_eq_left h,xbv (by rw[xao];exact xaj _)]
 ·rw[Nat.min_eq_right (by omega),List.drop_of_length_le (xaj _),List.drop_of_length_le (by omega),xbF]
theorem jbF :jfD xs none (some (f:Int))=xs.take f:=by
 unfold jfD;rw[HT.sIx_nat,HT.sIx_none];by_cases h:f<=xs.length
 ·rw[Nat.min_eq_left h];rfl
 ·rw[Nat.min_eq_right (by omega)];show xs.take (xs.length-0)=_;rw[Nat.sub_zero,xa2,xbv (by omega)]
def jgX (ps:List Pt):Nat->Nat
 | 0=>0
 | i+1=>if sfp (pt ps (i+1)) (pt ps (jgX ps i))=true then i+1 else jgX ps i
theorem jex (ps:List Pt):∀i,jgX ps i<=i
  | 0=>xaj _
  | i + 1 => by
    have:=jex ps i;unfold jgX;split<;>omega
def rot {α:Type} (f:Nat) (l:List α):List α:=l.drop f++l.take f
def turn {α:Type} (b:Bool) (l:List α):List α:=if b=true then l.take 1++(l.drop 1).reverse else l
def fF (ps:List Pt):Nat:=jgX ps (ps.length-1)
def fB (ps:List Pt):Bool:=sfp (pt (rot (fF ps) ps) (ps.length-1)) (pt (rot (fF ps) ps) 1)
def frm {α:Type} (ps:List Pt) (l:List α):List α:=turn (fB ps) (rot (fF ps) l)
theorem Sps.rot (h:Sps H rs ps) (f:Nat):Sps H (rot f rs) (rot f ps):=(h.drop f).app (h.take f)
theorem Sps.turn (h:Sps H rs ps) (b:Bool):Sps H (turn b rs) (turn b ps):=by
 unfold My.turn;cases b
 ·exact h
 ·exact (h.take 1).app (h.drop 1).rev
theorem Sps.frm (h:Sps H rs qs):Sps H (frm ps rs) (frm ps qs):=(h.rot _).turn _
def Cor (H:Hp) (l:Addr) (rs:List Addr) (ps:List Pt):Prop:=H l=some (.lst (rs.map V.ref))/\Sps H rs ps
theorem Cor.keep {l:Addr} (h:Cor H l rs ps) (s:Same H H'):Cor H' l rs ps:=⟨s _ _ h.1,h.2.keep s.t⟩
def jgY:Sp:=fun vs H Q _=>∃(l:Addr) (rs:List Addr) (ps:List Pt),vs=[.ref l]/\Cor H l rs ps/\3<=ps.length/\ps.length<=8 /\
 ∀(t:Addr) (H':Hp),Same H H'->H' t=some (.tup ((frm ps rs).map V.ref))->Q (.ref t) H'
def jkd:Sp:=fun vs H Q _=>∃(r:Addr) (a b c d:Int),vs=[.ref r]/\H r=some (.tup [.int a,.int b,.int c,.int d])/\¬(a=0/\b=0/\c=0)/\∀k:Int,(k=0/\a≠0)\/(k=1/\a=0/\b≠0)\/(k=2/\a=0/\b=0/\c≠0)->Q (.int k) H
def jke:Sp:=fun vs H Q _=>∃(g r e t:Addr) (k:Int) (p o u:Pt),vs=[.ref g,.ref t,.int k]/\H g=some (.tup [.ref r,.ref e])/\Is4 H r p/\Is4 H e o/\Is4 H t u/\0<=k/\k<=3/\∀H':Hp,Same H H'->Q (.int (sgn (jaG k p o u))) H'
def Rnd (k:Int) (ps:List Pt):Prop:=∀i j,i<ps.length->1<=j->j<ps.length-1->sgn (jaG k (pt ps ((i+(ps.length-1)) % ps.length)) (pt ps i) (pt ps ((i+j) % ps.length)))=sgn (jaG k (pt ps 0) (pt ps 1) (pt ps 2))
section
variable {P:Program} {w:World} {K:PySem.W.Frag} {mg:Str->Option Value} {base:Heap} {t1 t2:Tok}
theorem je2:FnScope ["number"] ["number"] (jag jer):=by walk_at "sc"
theorem jbP:FnScope ["one","other","great","small","steps","rest"] ["one","other"] (jag jbs):=by walk_at "sc"
theorem jbT:FnScope ["numbers","divisor","number"] ["numbers"] (jag jbu):=by walk_at "sc"
theorem je3:FnScope ["one","other"] ["one","other"] (jag jes):=by walk_at "sc"
theorem jcU:FnScope ["one","other","third","arrow"] ["one","other","third"] (jag jca):=by walk_at "sc"
theorem jcI:FnScope ["one","other","k","mine","yours"] ["one","other"] (jag jbW):=by walk_at "sc"
theorem je4:FnScope ["spot","place"] ["spot","place"] (jag jet):=by walk_at "sc"
theorem jey:FnScope ["one","other","third","place"] ["one","other","third","place"] (jag jdI):=by walk_at "sc"
theorem je5:FnScope ["one","other","third","place"] ["one","other","third"] (jag jeu):=by walk_at "sc"
theorem jdn:FnScope ["a","b","c","d"] ["a","b","c","d"] (jag jcy):=by walk_at "sc"
theorem jcJ:FnScope ["plane"] ["plane"] (jag jbX):=by walk_at "sc"
theorem jez:FnScope ["plane","number"] ["plane"] (jag jdJ):=by walk_at "sc"
theorem jcV:FnScope ["one","other","third"] ["one","other","third"] (jag jcb):=by walk_at "sc"
theorem jco:FnScope ["one","other","third","rough","plane"] ["one","other","third"] (jag jbL):=by walk_at "sc"
theorem jcW:FnScope ["plane","spot"] ["plane","spot"] (jag jcc):=by walk_at "sc"
theorem je6:FnScope ["plane","spot"] ["plane","spot"] (jag jev):=by walk_at "sc"
theorem jga:FnScope ["corners","first","k","ring"] ["corners"] (jag jfo):=by walk_at "sc"
theorem jdW:FnScope ["plane","axis"] ["plane"] (jag jdd):=by walk_at "sc"
theorem jcK:FnScope ["edge","spot","axis"] ["edge","spot","axis"] (jag jbY):=by walk_at "sc"
theorem jdX:FnScope ["corners","axis","turn","many","k","edge","ahead"] ["corners","axis"] (jag jde):=by walk_at "sc"
theorem jdo:FnScope ["corners","plane","corner"] ["corners"] (jag jcz):=by walk_at "sc"
theorem je7:FnScope ["text"] ["text"] (jag jew):=by walk_at "sc"
theorem jcp:FnScope ["self"] ["self"] (jag jbM):=by walk_at "sc"
theorem jcL:FnScope ["self","standing"] ["self","standing"] (jag jbZ):=by walk_at "sc"
theorem jeA:FnScope ["self","name","corners","board"] ["self","name","corners"] (jag jdK):=by walk_at "sc"
theorem jdY:FnScope ["self","name","place"] ["self","name"] (jag jdf):=by walk_at "sc"
theorem jdZ:FnScope ["self"] ["self"] (jag jdg):=by walk_at "sc"
theorem jdp:FnScope ["self"] ["self"] (jag jcA):=by walk_at "sc"
theorem jcX:FnScope ["self"] ["self"] (jag jcd):=by walk_at "sc"
theorem jcq:FnScope ["self","name","names"] ["self","name"] (jag jbN):=by walk_at "sc"
theorem jdq:FnScope ["self"] ["self"] (jag jcB):=by walk_at "sc"
theorem jcY:FnScope ["script","k","cell","turn","left","j","prime","number"] ["script","k"] (jag jce):=by walk_at "sc"
theorem jcM:FnScope ["one","other"] ["one","other"] (jag jb0):=by walk_at "sc"
theorem jdr:FnScope ["number","letters","many","word","k","at","names","sign"] ["number"] (jag jcC):=by walk_at "sc"
theorem jcr:FnScope ["number","name","at"] ["number","name"] (jag jbO):=by walk_at "sc"
theorem jds:FnScope ["number","way"] ["number"] (jag jcD):=by walk_at "sc"
theorem jcZ:FnScope ["number","p","q"] ["number"] (jag jcf):=by walk_at "sc"
theorem jd0:FnScope ["number","shape","most","w","p","q","start","rows"] ["number"] (jag jdh):=by walk_at "sc"
theorem jdt:FnScope ["rows","w","spots","row","by"] ["rows","w"] (jag jcE):=by walk_at "sc"
theorem jd1:FnScope ["rows","w","at","some"] ["rows","w"] (jag jdi):=by walk_at "sc"
theorem jc0:FnScope ["rows","number","at","some"] ["rows","number"] (jag jcg):=by walk_at "sc"
theorem jc1:FnScope ["rows","number","way","at","a","b","up"] ["rows","number"] (jag jch):=by walk_at "sc"
theorem jdu:FnScope ["e"] ["e"] (jag jcF):=by walk_at "sc"
theorem jdv:FnScope ["yard","deed","found","flags","e"] ["yard","deed"] (jag jcG):=by walk_at "sc"
theorem jeB:FnScope ["rows","done","deed","names","at","word","row"] ["rows","done","deed"] (jag jdL):=by walk_at "sc"
theorem jdw:FnScope ["yard","rows","done","deed","due","found","flags"] ["yard","rows","done","deed"] (jag jcH):=by walk_at "sc"
theorem jc2:FnScope ["yard","rows","done","names","boards","many"] ["yard","rows","done"] (jag jci):=by walk_at "sc"
theorem jeC:FnScope ["names","number","more","rows","w","name","form","spots"] ["names","number","more"] (jag jdM):=by walk_at "sc"
theorem jc3:FnScope ["yard","name","found","flags","e"] ["yard","name"] (jag jcj):=by walk_at "sc"
theorem jc4:FnScope ["yard","rows","names","standing","name","found","flags"] ["yard","rows","names"] (jag jck):=by walk_at "sc"
theorem jkf:FnScope ["script","names","others","yards","kept","k","number","at","deed","handed","j"] ["script"] (jag jfp):=by walk_at "sc"
theorem ok_gd (T:Tx K mg t1 t2) (F:At K mg "greatest_divisor" jbs ["one","other"] []):jaz P w K mg base CX0 1 "greatest_divisor" ["one","other"] [] spGd:=by
 refine F.ok jbP (fun vs H Q E h=>?_) (fun f cdv A outer s H vs Q E hr h=>?_)
 ·obtain⟨a,b,rfl,_⟩:=h;rfl
 obtain⟨a,b,rfl,ha,hb,q⟩:=h;have S:=jbP;refine⟨_,(jac (jal (i:=2) S.nd rfl (Or.inl rfl) (jat (jfJ rfl) rfl T.m_max boot_max (jaa (jat jbS rfl T.m_abs boot_abs (jaa (pv 0) jad jaf)) (jaa (jat jbS rfl T.m_abs boot_abs (jaa (pv 1) jad jaf)) jad jaO) jaO)))
  (jac (jal (i:=3) S.nd rfl (Or.inl rfl) (jat (jfK rfl) rfl T.m_min boot_min (jaa (jat jbS rfl T.m_abs boot_abs (jaa (pv 0) jad jaf)) (jaa (jat jbS rfl T.m_abs boot_abs (jaa (pv 1) jad jaf)) jad jaO) jaO)))
  (jac (jfa PassesOwn.never (jam jeP (jfO PySem.F.plainAttrs_int PySem.F.slot_int_bit_length PySem.F.type_int_bit_length jkW (pv 3)) (jct rfl T.m_SHORT_BITS T.r_SHORT_BITS) (jas _)) jfE)
  (jac (jfa PassesOwn.never (jam jeO (pv 3) jab (jas _))
  (jac (jal (i:=5) S.nd rfl (Or.inl rfl) (jah jaE (pv 2) (pv 3)))
  (jac (jal (i:=2) S.nd rfl (Or.inl rfl) (pv 3))
  (jae (jal (i:=3) S.nd rfl (Or.inl rfl) (pv 5))))))
  (jae (jao (pv 2))))))),?_⟩
 walk_at "rd";have hg:Int.gcd (if (if b<0 then -b else b)>(if a<0 then -a else a) then (if b<0 then -b else b) else (if a<0 then -a else a)) (if (if b<0 then -b else b)<(if a<0 then -a else a) then (if b<0 then -b else b) else (if a<0 then -a else a))=Int.gcd a b:=(jhE _ _).trans (jiv a b);have hM:0<=(if (if b<0 then -b else b)>(if a<0 then -a else a) then (if b<0 then -b else b) else (if a<0 then -a else a)):=by split<;>split<;>omega
 have hm:0<=(if (if b<0 then -b else b)<(if a<0 then -a else a) then (if b<0 then -b else b) else (if a<0 then -a else a)):=by split<;>split<;>omega
 have hs:Small (if (if b<0 then -b else b)<(if a<0 then -a else a) then (if b<0 then -b else b) else (if a<0 then -a else a)):=by
  exact Small.ite (Small.ite hb.neg hb) (Small.ite ha.neg ha)
 generalize (if (if b<0 then -b else b)>(if a<0 then -a else a) then (if b<0 then -b else b) else (if a<0 then -a else a))=M at hg hM |-
 generalize (if (if b<0 then -b else b)<(if a<0 then -a else a) then (if b<0 then -b else b) else (if a<0 then -a else a))=m at hg hm hs |-
 have hz:Builtin.Int.intBits m<=1990:=L2.jdG hs;refine⟨fun _ σ H1=>σ=[some (.int a),some (.int b),some (.int M),some (.int m),none,none]/\H1=H,⟨0,rfl,rfl⟩,?_⟩;rintro _ σ H1 ⟨rfl,rfl⟩;walk_at "rd";rw[if_neg (by omega)];refine⟨fun n σ H2=>H2=H1/\∃(x y:Int) (o:Option V),σ=[some (.int a),some (.int b),some (.int x),some (.int y),none,o]/\0<=x/\0<=y/\Int.gcd x y=Int.gcd a b/\n=y.toNat,⟨_,rfl,M,m,none,rfl,hM,hm,hg,rfl⟩,?_⟩;rintro n σ H2 ⟨rfl,x,y,o,rfl,hx,hy,hgg,rfl⟩;walk_at "rd";by_cases c:y=0
 ·subst c;rw[if_pos rfl];rw[<- hgg,Int.gcd_zero_right] at q;have e2:((x.natAbs:Nat):Int)=x:=by omega
  rw[e2] at q;exact q
 ·rw[if_neg c];have b1:=xaq x c;have b2:=xam x (show 0<y by omega);exact⟨fun σ' H'=>σ'=[some (V.int a),some (V.int b),some (V.int y),some (V.int (x % y)),none,some (V.int (x % y))]/\H'=H2,fun σ' H' ⟨h1,h2⟩=>⟨_,by omega,h2,y,x % y,_,h1,by omega,b1,(jgU x y hx).trans hgg,rfl⟩,by omega,rfl,rfl⟩
theorem jmC (T:Tx K mg t1 t2) (F:At K mg "in_lowest_terms" jbu ["numbers"] []) (dE:jaz P w K mg base CX0 1 "greatest_divisor" ["one","other"] [] spGd):jaz P w K mg base CX0 2 "in_lowest_terms" ["numbers"] [] jla:=by
 refine F.ok jbT (fun vs H Q E h=>?_) (fun f cdv A outer s H vs Q E hr h=>?_)
 ·obtain⟨a,ns,rfl,_⟩:=h;rfl
 obtain⟨a,ns,rfl,ha,hl,hs,hg,q⟩:=h;have S:=jbT;refine⟨_,(jac (jal (i:=1) S.nd rfl (Or.inr rfl) jab)
  (jac (jbA PassesOwn.never rfl (jgB (pv 0)) (jaw (i:=2) S.nd rfl (Or.inl rfl))
  (jac (jal (i:=1) S.nd rfl (Or.inr rfl) (jaj dE hr.m rfl jaF (jaa (pv 1) (jaa (pv 2) jad jaf) jaf)))
  (jae (jaK (jam jbd (pv 1) jab (jas _))
  (jae (jao (jbp jbq rfl T.m_tuple boot_tuple (jaa (pv 0) jad jaf))))
  jap))))
  (jae (jao (jbp jbq rfl T.m_tuple boot_tuple (jaa (ja1 rfl (N':=["number","divisor"]) (ix:=[1]) (by walk_at "cs") (jgB (pv 0)) (fun _ _ _ _=>jaw (i:=0) (show (["number","divisor"]:List Str).Nodup from by decide +kernel) rfl (Or.inl rfl)) (fun _ _ _ _=>ja2) (fun _ _ _ _=>(jah jax (pv 0) (pv 1)))) jad je1)))))),?_⟩
 walk_at "rd";refine⟨_,rfl,a,rfl,⟨_,SqT.of ha⟩,jhP (K:=K) (a:=a) (xs:=ns.map V.int) (fun i σ H2=>H2=H/\∃o:Option V,σ=[some (.ref a),some (.int (gl (ns.take i))),o]) ⟨rfl,none,rfl⟩ (fun i σ H2 _ ⟨h,_⟩=>by rw[h];exact SqT.of ha) ?_ ?_⟩
 ·rintro i v σ H2 hi ⟨rfl,o,rfl⟩;obtain⟨z,rfl,hz⟩:=jka hi;walk_at "rd";refine⟨_,_,rfl,jgV fun n hn=>hs n (xaN hn),hs z (xas hz),?_⟩;walk_at "rd";rw[<- jf6 hz];refine jb2 (fun c=>⟨_,.inr ⟨SqT.of ha,?_⟩⟩) fun c=>⟨rfl,_,rfl⟩;have g1:gl ns=1:=jeS c;refine q a H2 (Same.refl _) ?_;rw[g1,jgr];exact ha
 ·rintro σ H2 ⟨rfl,o,rfl⟩;walk_at "rd";have el:(ns.map V.int).length=ns.length:=xaa _;rw[el,xa2];have gp:0<gl ns:=by have:=jbK ns;omega
  refine⟨_,rfl,a,rfl,⟨_,SqT.of ha⟩,fun acc hacc=>jgI (K:=K) (a:=a) (zs:=ns.map V.int) (fun i xs H3=>Same H2 H3/\H3 acc=some (.lst xs)/\xs=((ns.take i).map (· / gl ns)).map V.int) ⟨Same.new hacc _,upd_same,rfl⟩ (fun i xs H3 _ h=>h.1.tup (SqT.of ha)) ?_ ?_⟩
  ·rintro i v xs H3 hi ⟨h1,h2,rfl⟩;obtain⟨z,rfl,hz⟩:=jka hi;walk_at "rd";have li:=(xan.mp hz).1;refine⟨gp,(jgV hs).bd.fit,h2,?_,Same.keep h1 hacc,upd_same,?_⟩
   ·rw[xaa,xaa,xak];exact jh6 (by omega)
   ·rw[xa3,hz,xah,xah];rfl
  ·rintro xs H3 ⟨h1,h2,rfl⟩;rw[el,xa2] at h2;exact⟨acc,rfl,_,.inl ⟨SqL.of h2,fun l hl=>q l _ (h1.trans (Same.new hl _)) upd_same⟩⟩
theorem jhF (T:Tx K mg t1 t2) (F:At K mg "crossed" jes ["one","other"] []):jaz P w K mg base CX0 1 "crossed" ["one","other"] [] jiw:=by
 refine F.ok je3 (fun vs H Q E h=>?_) (fun f cdv A outer s H vs Q E hr h=>?_)
 ·obtain⟨r,p,a,b,c,x,y,z,rfl,_⟩:=h;rfl
 obtain⟨r,p,a,b,c,x,y,z,rfl,⟨h1,sa,sb,sc⟩,⟨h2,sx,sy,sz⟩,q⟩:=h;have S:=je3;refine⟨_,(jae (jao (jbc (jaa (jah ja7 (jah jay (jai jav (pv 0) jab) (jai jav (pv 1) jab)) (jah jay (jai jav (pv 0) jab) (jai jav (pv 1) jab))) (jaa (jah ja7 (jah jay (jai jav (pv 0) jab) (jai jav (pv 1) jab)) (jah jay (jai jav (pv 0) jab) (jai jav (pv 1) jab))) (jaa (jah ja7 (jah jay (jai jav (pv 0) jab) (jai jav (pv 1) jab)) (jah jay (jai jav (pv 0) jab) (jai jav (pv 1) jab))) jad jaR) jaR) jaR)))),?_⟩;have k1:SqT K H r [.int a,.int b,.int c]:=SqT.of h1;have k2:SqT K H p [.int x,.int y,.int z]:=SqT.of h2;have fa:=sa.bd.fit;have fb:=sb.bd.fit;have fc:=sc.bd.fit;have fx:=sx.bd.fit;have fy:=sy.bd.fit;have fz:=sz.bd.fit;walk_at "rf";walk_at "gf";intro t ht;exact q t _ (Same.new ht _) upd_same
theorem jmD (T:Tx K mg t1 t2) (F:At K mg "determinant" jca ["one","other","third"] []) (Dp:jaz P w K mg base CX0 1 "crossed" ["one","other"] [] jiw):jaz P w K mg base CX0 2 "determinant" ["one","other","third"] [] jmB:=by
 refine F.ok jcU (fun vs H Q E h=>?_) (fun f cdv A outer s H vs Q E hr h=>?_)
 ·obtain⟨r,p,e,a,b,c,x,y,z,u,v,o,rfl,_⟩:=h;rfl
 obtain⟨r,p,e,a,b,c,x,y,z,u,v,o,rfl,h1,h2,h3,q⟩:=h;have S:=jcU;refine⟨_,(jac (jal (i:=3) S.nd rfl (Or.inl rfl) (jaj Dp hr.m rfl jaF (jaa (pv 0) (jaa (pv 1) jad jaf) jaf)))
  (jae (jao (jah jbf (jah jbf (jah jay (jai jav (pv 3) jab) (jai jav (pv 2) jab)) (jah jay (jai jav (pv 3) jab) (jai jav (pv 2) jab))) (jah jay (jai jav (pv 3) jab) (jai jav (pv 2) jab)))))),?_⟩
 walk_at "rf";refine⟨r,p,a,b,c,x,y,z,rfl,h1,h2,fun t H1 s1 e1=>?_⟩;have k1:SqT K H1 t _:=SqT.of e1;have k2:SqT K H1 e [.int u,.int v,.int o]:=SqT.of (s1 _ _ h3.1);have fu:=h3.2.1.bd.fit;have fv:=h3.2.2.1.bd.fit;have fo:=h3.2.2.2.bd.fit;have ma:∀{i j k l:Int},Sm2 i->Sm2 j->Sm2 k->Sm2 l->Fit (i*j-k*l):=fun h1 h2 h3 h4=>Bd.fit (n:=401) (Bd.sub (Bd.mul (n:=200) (m:=200) h1 h2) (Bd.mul (n:=200) (m:=200) h3 h4));have g1:=ma h1.2.2.1 h2.2.2.2 h1.2.2.2 h2.2.2.1;have g2:=ma h1.2.2.2 h2.2.1 h1.2.1 h2.2.2.2;have g3:=ma h1.2.1 h2.2.2.1 h1.2.2.1 h2.2.1;walk_at "gf";exact q _ s1
theorem jhG (T:Tx K mg t1 t2) (F:At K mg "without" jet ["spot","place"] []):jaz P w K mg base CX0 1 "without" ["spot","place"] [] jf8:=by
  refine F.ok je4 (fun vs H Q E h=>?_) (fun f cdv A outer s H vs Q E hr h=>?_)
  . obtain⟨r,k,p,rfl,_⟩:=h
    rfl
  obtain⟨r,k,p,rfl,h1,k0,k3,q⟩:=h;have S:=je4;refine⟨_,(jae (jao (jbp jbq rfl T.m_tuple boot_tuple (jaa (ja1 rfl (N':=["k","spot","place"]) (ix:=[0,1]) (by walk_at "cs") (jaI rfl T.m_range (jaa jab jad jan)) (fun _ _ _ _=>jaw (i:=0) (show (["k","spot","place"]:List Str).Nodup from by decide +kernel) rfl (Or.inl rfl)) (fun _ _ _ _=>(jkU (jam jeO (pv 0) (pv 2) (jas _)))) (fun _ _ _ _=>(jai (jek (K:=K) rfl) (pv 1) (pv 0)))) jad je1)))),?_⟩;have k_h1:=h1.sq (K:=K);have e:k=0\/k=1\/k=2\/k=3:=by omega
  walk_at "rf";walk_at "gf";intro acc hacc;refine jkY (n:=4) (fun i=>.int (match i with | 0=>p.x | 1=>p.y | 2=>p.z | _=>p.w)) (fun i=>!decide ((i:Int)=k)) (by decide) hacc ?_ ?_ ?_
  . intro i H3 R hi s3 hR
    walk_at "rf";have z:=hR H3 (Same.refl _);rw[xbA];exact z
  . intro i H3 R hi ci s3 hR
    have k1:=s3.tup k_h1
    match i,hi with
    | 0, _ =>
      walk_at "rf";walk_at "gf";exact hR _ (Same.refl _)
    | 1, _ =>
      walk_at "rf";walk_at "gf";exact hR _ (Same.refl _)
    | 2, _ =>
      walk_at "rf";walk_at "gf";exact hR _ (Same.refl _)
    | 3, _ =>
      walk_at "rf";walk_at "gf";exact hR _ (Same.refl _)
  intro H1 s1 e1;refine FoR.tupOf (X:=True) (SqL.of e1) fun t H2 s2 e2=>q t H2 (s1.trans s2) ?_;rw[e2];rcases e with rfl | rfl | rfl | rfl<;>rfl
theorem jiC (hp:p.sm) (h:H r=some (.tup ((wo k p).map V.int))):∃a b c,wo k p=[a,b,c]/\Tup3 H r a b c:=by
 by_cases k0:k=0
 ·have e:wo k p=[p.y,p.z,p.w]:=if_pos k0;rw[e] at h;exact⟨_,_,_,e,h,hp.2.1,hp.2.2.1,hp.2.2.2⟩
 by_cases k1:k=1
 ·have e:wo k p=[p.x,p.z,p.w]:=by unfold wo;rw[if_neg k0,if_pos k1]
  rw[e] at h;exact⟨_,_,_,e,h,hp.1,hp.2.2.1,hp.2.2.2⟩
 by_cases k2:k=2
 ·have e:wo k p=[p.x,p.y,p.w]:=by unfold wo;rw[if_neg k0,if_neg k1,if_pos k2]
  rw[e] at h;exact⟨_,_,_,e,h,hp.1,hp.2.1,hp.2.2.2⟩
 have e:wo k p=[p.x,p.y,p.z]:=by unfold wo;rw[if_neg k0,if_neg k1,if_neg k2]
 rw[e] at h;exact⟨_,_,_,e,h,hp.1,hp.2.1,hp.2.2.1⟩
theorem Tup3.keep {b:Int} (h:Tup3 H r a b c) (s:Same H H'):Tup3 H' r a b c:=⟨s _ _ h.1,h.2⟩
theorem jjy (T:Tx K mg t1 t2) (F:At K mg "minor_of" jdI ["one","other","third","place"] []) (dw:jaz P w K mg base CX0 1 "without" ["spot","place"] [] jf8) (dS:jaz P w K mg base CX0 2 "determinant" ["one","other","third"] [] jmB):jaz P w K mg base CX0 3 "minor_of" ["one","other","third","place"] [] jfq:=by
 refine F.ok jey (fun vs H Q E h=>?_) (fun f cdv A outer s H vs Q E hr h=>?_)
 ·obtain⟨r,e,t,k,p,o,u,rfl,_⟩:=h;rfl
 obtain⟨r,e,t,k,p,o,u,rfl,h1,h2,h3,k0,k3,q⟩:=h;have S:=jey;refine⟨_,(jae (jao (jaj dS hr.m rfl jaF (jaa (jaj dw hr.m rfl jaF (jaa (pv 0) (jaa (pv 3) jad jaf) jaf)) (jaa (jaj dw hr.m rfl jaF (jaa (pv 1) (jaa (pv 3) jad jaf) jaf)) (jaa (jaj dw hr.m rfl jaF (jaa (pv 2) (jaa (pv 3) jad jaf) jaf)) jad jaO) jaO) jaO)))),?_⟩;walk_at "rf";refine⟨r,k,p,rfl,h1,k0,k3,fun t1 H1 s1 e1=>?_⟩;refine⟨e,k,o,rfl,h2.keep s1,k0,k3,fun t2 H2 s2 e2=>?_⟩;refine⟨t,k,u,rfl,h3.keep (s1.trans s2),k0,k3,fun t3 H3 s3 e3=>?_⟩;obtain⟨a,b,c,w1,z1⟩:=jiC h1.2 e1;obtain⟨a2,b2,c2,w2,z2⟩:=jiC h2.2 e2;obtain⟨a3,b3,c3,w3,z3⟩:=jiC h3.2 e3;have em:jaG k p o u=jcT a b c a2 b2 c2 a3 b3 c3:=by
  unfold jaG;rw[w1,w2,w3];rfl
 refine⟨t1,t2,t3,a,b,c,a2,b2,c2,a3,b3,c3,rfl,z1.keep (s2.trans s3),z2.keep s3,z3,fun H4 s4=>?_⟩;rw[<- em];exact q H4 (s1.trans (s2.trans (s3.trans s4)))
theorem jlb (T:Tx K mg t1 t2) (F:At K mg "in_line" jeu ["one","other","third"] []) (db:jaz P w K mg base CX0 3 "minor_of" ["one","other","third","place"] [] jfq):jaz P w K mg base CX0 4 "in_line" ["one","other","third"] [] jkb:=by
  refine F.ok je5 (fun vs H Q E h=>?_) (fun f cdv A outer s H vs Q E hr h=>?_)
  . obtain⟨r,e,t,p,o,u,rfl,_⟩:=h
    rfl
  obtain⟨r,e,t,p,o,u,rfl,h1,h2,h3,q⟩:=h;have S:=je5;refine⟨_,(jac (jbA PassesOwn.never rfl (jaI rfl T.m_range (jaa jab jad jan)) (jaw (i:=3) S.nd rfl (Or.inl rfl))
    (jae (jaK (jam jeO (jaj db hr.m rfl jaF (jaa (pv 0) (jaa (pv 1) (jaa (pv 2) (jaa (pv 3) jad jaf) jaf) jaf) jaf)) jab (jas _))
    (jae (jao jby))
    jap)))
    (jae (jao jby))),?_⟩
  walk_at "rf";walk_at "gf";refine jbe (lo:=0) (n:=3) (fun i σ H2=>Same H H2/\∃o3:Option V,σ=[some (.ref r),some (.ref e),some (.ref t),o3]/\(1<=i->jaG 0 p o u=0)/\(2<=i->jaG 1 p o u=0)/\(3<=i->jaG 2 p o u=0)) ⟨Same.refl _,none,rfl,by simp,by simp,by simp⟩ ?_ ?_
  . rintro i σ H2 hi ⟨s2,o3,rfl,e0,e1,e2⟩
    walk_at "rf";refine⟨r,e,t,_,p,o,u,rfl,h1.keep s2,h2.keep s2,h3.keep s2,by omega,by omega,fun H3 s3=>?_⟩;have ei:(0:Int)+(i:Int)=(i:Int):=xbA _;rw[ei]
    match i,hi with
    | 0, _ =>
      walk_at "rf";refine jb2 (fun c=>⟨s2.trans s3,fun _=>c,fun h=>absurd h (by decide),fun h=>absurd h (by decide)⟩) fun c=>?_;have ef:inl p o u=false:=decide_eq_false fun z=>c z.1;exact ef▸q H3 (s2.trans s3)
    | 1, _ =>
      have d0:=e0 (by decide);walk_at "rf";refine jb2 (fun c=>⟨s2.trans s3,fun _=>d0,fun _=>c,fun h=>absurd h (by decide)⟩) fun c=>?_;have ef:inl p o u=false:=decide_eq_false fun z=>c z.2.1;exact ef▸q H3 (s2.trans s3)
    | 2, _ =>
      have d0:=e0 (by decide);have d1:=e1 (by decide);walk_at "rf";refine jb2 (fun c=>⟨s2.trans s3,fun _=>d0,fun _=>d1,fun _=>c⟩) fun c=>?_;have ef:inl p o u=false:=decide_eq_false fun z=>c z.2.2;exact ef▸q H3 (s2.trans s3)
  . rintro σ H2 ⟨s2,o3,rfl,e0,e1,e2⟩
    have ef:inl p o u=true:=decide_eq_true ⟨e0 (by decide),e1 (by decide),e2 (by decide)⟩;exact ef▸q H2 s2
theorem mem4 {b:Int} (ha:Small a) (hb:Small b) (hc:Small c) (hd:Small d):∀n∈[a,b,c,d],Small n:=fun n hn=>by
 simp only[xad,xae,or_false] at hn;rcases hn with rfl | rfl | rfl | rfl<;>assumption
theorem gl4 {b:Int} (h:¬(a=0/\b=0/\c=0)):0<gl [a,b,c,d]:=by
 by_cases c1:a=0
 ·by_cases c2:b=0
  ·exact jf7 (n:=c) (by simp) fun z=>h ⟨c1,c2,z⟩
  ·exact jf7 (n:=b) (by simp) c2
 ·exact jf7 (n:=a) (by simp) c1
def vneg (v:V):V:=match v with | .int i=>.int (-i) | _=>v
theorem jjz (ns:List Int):(ns.map V.int).map vneg=(ns.map fun n=>-n).map V.int:=by
 rw[xbN,xbN];rfl
theorem jiD (T:Tx K mg t1 t2) (F:At K mg "turned_about" jbX ["plane"] []):jaz P w K mg base CX0 1 "turned_about" ["plane"] [] jgW:=by
 refine F.ok jcJ (fun vs H Q E h=>?_) (fun f cdv A outer s H vs Q E hr h=>?_)
 ·obtain⟨r,ns,rfl,_⟩:=h;rfl
 obtain⟨r,ns,rfl,h1,hl,q⟩:=h;have S:=jcJ;refine⟨_,(jae (jao (jbp jbq rfl T.m_tuple boot_tuple (jaa (ja1 rfl (N':=["number"]) (ix:=[]) (by walk_at "cs") (jgB (pv 0)) (fun _ _ _ _=>jaw (i:=0) (show (["number"]:List Str).Nodup from by decide +kernel) rfl (Or.inl rfl)) (fun _ _ _ _=>ja2) (fun _ _ _ _=>(jd9 jcv (pv 0)))) jad je1)))),?_⟩;have k1:SqT K H r (ns.map V.int):=SqT.of h1;walk_at "rf";walk_at "gf";intro acc hacc;refine compT vneg (by rw[xaa];omega) hacc k1 ?_ ?_
 ·intro z H3 R hz s3 hR;obtain⟨m,hm,rfl⟩:=xaC.mp hz;walk_at "rd";exact hR _ (Same.refl _)
 intro H1 s1 e1;rw[jjz] at e1;exact FoR.tupOf (X:=True) (SqL.of e1) fun t H2 s2 e2=>q t H2 (s1.trans s2) e2
theorem jlc (T:Tx K mg t1 t2) (F:At K mg "sign_of" jer ["number"] []):jaz P w K mg base CX0 1 "sign_of" ["number"] [] jiz:=by
 refine F.ok je2 (fun vs H Q E h=>?_) (fun f cdv A outer s H vs Q E hr h=>?_)
 ·obtain⟨a,rfl,_⟩:=h;rfl
 obtain⟨n,rfl,q⟩:=h;have S:=je2;refine⟨_,(jac (jaK (jam jeP (pv 0) jab (jas _))
  (jae (jao jab))
  jap)
  (jac (jaK (jam jkH (pv 0) jab (jas _))
  (jae (jao (jd9 jcv jab)))
  jap)
  (jae (jao jab)))),?_⟩
 unfold sgn at q;walk_at "rd";refine jb2 (fun c=>?_) fun c=>jb2 (fun c1=>?_) fun c1=>?_
 ·rw[if_pos c] at q;exact q
 ·rw[if_neg c,if_pos c1] at q;exact q
 ·rw[if_neg c,if_neg c1] at q;exact q
theorem jjA (T:Tx K mg t1 t2) (F:At K mg "is_plain" jdJ ["plane"] []):jaz P w K mg base CX0 1 "is_plain" ["plane"] [] jix:=by
  refine F.ok jez (fun vs H Q E h=>?_) (fun f cdv A outer s H vs Q E hr h=>?_)
  . obtain⟨r,a,b,c,d,rfl,_⟩:=h
    rfl
  obtain⟨r,a,b,c,d,rfl,h1,q⟩:=h;have S:=jez;refine⟨_,(jac (jbA PassesOwn.never rfl (jgB (jaV jmb (pv 0) jaP (jaQ jab))) (jaw (i:=1) S.nd rfl (Or.inl rfl))
    (jae (jaK (jam jeO (pv 1) jab (jas _))
    (jae (jao (jc9 jeP (pv 1) jab (jas _))))
    jap)))
    (jae (jao jby))),?_⟩
  walk_at "rf";refine⟨r,_,rfl,SqT.of h1,(show ¬(HT.sIx 4 0 none=0/\HT.sIx 4 4 (some 3)=4) by decide),fun p hp=>?_⟩;have sp:=Same.new hp (.tup (jfD [.int a,.int b,.int c,.int d] none (some 3)));have ep:upd H p (.tup (jfD [.int a,.int b,.int c,.int d] none (some 3))) p=some (.tup ([a,b,c].map V.int)):=upd_same;generalize upd H p (.tup (jfD [.int a,.int b,.int c,.int d] none (some 3)))=H1 at sp ep |-
  have kp:SqT K H1 p ([a,b,c].map V.int):=SqT.of ep;walk_at "gf";have q:=q H1 sp;unfold plb at q;refine jhP (K:=K) (a:=p) (xs:=[a,b,c].map V.int) (fun i σ H2=>H2=H1/\∃o1:Option V,σ=[some (.ref r),o1]/\(1<=i->a=0)/\(2<=i->b=0)/\(3<=i->c=0)) ⟨rfl,none,rfl,by simp,by simp,by simp⟩ (fun i σ H2 _ ⟨h,_⟩=>by rw[h];exact kp) ?_ ?_
  . rintro i v σ H2 hi ⟨rfl,o1,rfl,e0,e1,e2⟩
    match i,hi with
    | 0, hi =>
      cases hi;walk_at "rf";refine jb2 (fun cc=>⟨fun _=>cc,fun h=>absurd h (by decide),fun h=>absurd h (by decide)⟩) fun cc=>?_;rw[if_pos cc] at q;exact q
    | 1, hi =>
      cases hi;have d0:=e0 (by decide);walk_at "rf";refine jb2 (fun cc=>⟨fun _=>d0,fun _=>cc,fun h=>absurd h (by decide)⟩) fun cc=>?_;rw[if_neg (fun n=>n d0),if_pos cc] at q;exact q
    | 2, hi =>
      cases hi;have d0:=e0 (by decide);have d1:=e1 (by decide);walk_at "rf";refine jb2 (fun cc=>⟨fun _=>d0,fun _=>d1,fun _=>cc⟩) fun cc=>?_;rw[if_neg (fun n=>n d0),if_neg (fun n=>n d1),if_pos cc] at q;exact q
  . rintro σ H2 ⟨rfl,o1,rfl,e0,e1,e2⟩
    rw[if_neg (fun n=>n (e0 (show 1<=3 by decide))),if_neg (fun n=>n (e1 (show 2<=3 by decide))),if_neg (fun n=>n (e2 (show 3<=3 by decide)))] at q;exact q
theorem jjB (T:Tx K mg t1 t2) (F:At K mg "rough_plane" jcb ["one","other","third"] []) (db:jaz P w K mg base CX0 3 "minor_of" ["one","other","third","place"] [] jfq):jaz P w K mg base CX0 4 "rough_plane" ["one","other","third"] [] jiy:=by
 refine F.ok jcV (fun vs H Q E h=>?_) (fun f cdv A outer s H vs Q E hr h=>?_)
 ·obtain⟨r,e,t,p,o,u,rfl,_⟩:=h;rfl
 obtain⟨r,e,t,p,o,u,rfl,h1,h2,h3,q⟩:=h;have S:=jcV;refine⟨_,(jae (jao (jbc (jaa (jaj db hr.m rfl jaF (jaa (pv 0) (jaa (pv 1) (jaa (pv 2) (jaa jab jad jan) jaf) jaf) jaf)) (jaa (jd9 jcv (jaj db hr.m rfl jaF (jaa (pv 0) (jaa (pv 1) (jaa (pv 2) (jaa jab jad jan) jaf) jaf) jaf))) (jaa (jaj db hr.m rfl jaF (jaa (pv 0) (jaa (pv 1) (jaa (pv 2) (jaa jab jad jan) jaf) jaf) jaf)) (jaa (jaj db hr.m rfl jaF (jaa (pv 0) (jaa (pv 1) (jaa (pv 2) (jaa jab jad jan) jaf) jaf) jaf)) jad jaO) jaO) se_un) jaO)))),?_⟩;walk_at "rf";refine⟨r,e,t,0,p,o,u,rfl,h1,h2,h3,by decide,by decide,fun H1 s1=>?_⟩;refine⟨r,e,t,1,p,o,u,rfl,h1.keep s1,h2.keep s1,h3.keep s1,by decide,by decide,fun H2 s2=>?_⟩;have s12:=s1.trans s2;walk_at "rf";refine⟨r,e,t,2,p,o,u,rfl,h1.keep s12,h2.keep s12,h3.keep s12,by decide,by decide,fun H3 s3=>?_⟩;have s13:=s12.trans s3;refine⟨r,e,t,3,p,o,u,rfl,h1.keep s13,h2.keep s13,h3.keep s13,by decide,by decide,fun H4 s4=>?_⟩;exact⟨by decide,fun g hg=>q g _ (s13.trans (s4.trans (Same.new hg _))) upd_same⟩
theorem jgZ {b x y u v w:Int} (ha:Sm2 a) (hb:Sm2 b) (hc:Sm2 c) (hx:Sm2 x) (hy:Sm2 y) (hz:Sm2 z) (hu:Sm2 u) (hv:Sm2 v) (hw:Sm2 w):Bd 603 (jcT a b c x y z u v w):=by
 have m:∀{i j k l e:Int},Sm2 i->Sm2 j->Sm2 k->Sm2 l->Sm2 e->Bd 601 ((i*j-k*l)*e):=fun h1 h2 h3 h4 h5=>Bd.mul (n:=401) (m:=200) (Bd.sub (Bd.mul (n:=200) (m:=200) h1 h2) (Bd.mul (n:=200) (m:=200) h3 h4)) h5;exact Bd.add (Bd.add (m hb hz hc hy hu) (m hc hx ha hz hv)) (Bd.mono (n:=601) (m ha hy hb hx hw))
theorem jg0 {o u:Pt} (hp:p.sm) (ho:o.sm) (hu:u.sm):Small (jaG 0 p o u)/\Small (jaG 1 p o u)/\Small (jaG 2 p o u)/\Small (jaG 3 p o u):=by
 obtain⟨a,b,c,d⟩:=hp;obtain⟨a',b',c',d'⟩:=ho;obtain⟨a2,b2,c2,d2⟩:=hu;exact⟨Bd.mono (n:=603) (jgZ b c d b' c' d' b2 c2 d2),Bd.mono (n:=603) (jgZ a c d a' c' d' a2 c2 d2),Bd.mono (n:=603) (jgZ a b d a' b' d' a2 b2 d2),Bd.mono (n:=603) (jgZ a b c a' b' c' a2 b2 c2)⟩
theorem jjC (T:Tx K mg t1 t2) (F:At K mg "made_plane" jcy ["a","b","c","d"] []) (dF:jaz P w K mg base CX0 2 "in_lowest_terms" ["numbers"] [] jla):jaz P w K mg base CX0 3 "made_plane" ["a","b","c","d"] [] jiB:=by
 refine F.ok jdn (fun vs H Q E h=>?_) (fun f cdv A outer s H vs Q E hr h=>?_)
 ·obtain⟨a,b,c,d,rfl,_⟩:=h;rfl
 obtain⟨a,b,c,d,rfl,sa,sb,sc,sd,nz,q⟩:=h;have S:=jdn;refine⟨_,(jac (jaK (PW.pt (jdk (jam jbd (pv 0) jab (jas _)) (jdk (jam jbd (pv 1) jab (jas _)) (jc7 (jam jbd (pv 2) jab (jas _))))))
  jfE
  jap)
  (jae (jao (jaj dF hr.m rfl jaF (jaa (jbc (jaa (pv 0) (jaa (pv 1) (jaa (pv 2) (jaa (pv 3) jad jaf) jaf) jaf) jaf)) jad jaZ))))),?_⟩
 have fin:∀p,H p=none->jla [.ref p] (upd H p (.tup [.int a,.int b,.int c,.int d])) Q (fun _ _ _=>False):=fun p hp =>
  ⟨p,[a,b,c,d],rfl,upd_same,by simp,mem4 sa sb sc sd,by have:=gl4 (d:=d) nz;omega,fun r H' h1 h2=>q r H' ((Same.new hp _).trans h1) h2⟩
 walk_at "rf";by_cases c1:a=0
 ·rw[if_pos c1];by_cases c2:b=0
  ·rw[if_pos c2];by_cases c3:c=0
   ·exact absurd ⟨c1,c2,c3⟩ nz
   ·rw[if_neg c3];exact⟨by decide,fin⟩
  ·rw[if_neg c2];exact⟨by decide,fin⟩
 ·rw[if_neg c1];exact⟨by decide,fin⟩
theorem jhH (T:Tx K mg t1 t2) (F:At K mg "plane_through" jbL ["one","other","third"] []) (dO:jaz P w K mg base CX0 4 "rough_plane" ["one","other","third"] [] jiy) (dY:jaz P w K mg base CX0 3 "made_plane" ["a","b","c","d"] [] jiB) (Dl:jaz P w K mg base CX0 1 "is_plain" ["plane"] [] jix) (dH:jaz P w K mg base CX0 1 "turned_about" ["plane"] [] jgW):jaz P w K mg base CX0 5 "plane_through" ["one","other","third"] [] jf9:=by
  refine F.ok jco (fun vs H Q E h=>?_) (fun f cdv A outer s H vs Q E hr h=>?_)
  . obtain⟨r,e,t,p,o,u,rfl,_⟩:=h
    rfl
  obtain⟨r,e,t,p,o,u,rfl,h1,h2,h3,na,q⟩:=h;have S:=jco;refine⟨_,(jac (jal (i:=3) S.nd rfl (Or.inl rfl) (jaj dO hr.m rfl jaF (jaa (pv 0) (jaa (pv 1) (jaa (pv 2) jad jaf) jaf) jaf)))
    (jac (jal (i:=4) S.nd rfl (Or.inl rfl) (jaj dY hr.m rfl jaF (jaa (jai jav (pv 3) jab) (jaa (jai jav (pv 3) jab) (jaa (jai jav (pv 3) jab) (jaa (jai jav (pv 3) jab) jad jaA) jaA) jaA) jaA)))
    (jac (jaK (jbz (jaj Dl hr.m rfl jaF (jaa (pv 4) jad jaf)))
    (jae (jao (pv 4)))
    jap)
    (jae (jao (jaj dH hr.m rfl jaF (jaa (pv 4) jad jaf))))))),?_⟩
  obtain⟨m0,m1,m2,m3⟩:=jg0 h1.2 h2.2 h3.2;walk_at "rf";refine⟨r,e,t,p,o,u,rfl,h1,h2,h3,fun g H1 s1 e1=>?_⟩;have kg:SqT K H1 g [.int (jaG 0 p o u),.int (-jaG 1 p o u),.int (jaG 2 p o u),.int (jaG 3 p o u)]:=SqT.of e1;walk_at "gf";refine⟨_,_,_,_,rfl,m0,m1.neg,m2,m3,fun z=>na ⟨z.1,by omega,z.2.2⟩,fun g2 H2 s2 e2=>?_⟩;have el:∃a b c d,low (rgh p o u)=[a,b,c,d]:=⟨_,_,_,_,rfl⟩;have e2':H2 g2=some (.tup ((low (rgh p o u)).map V.int)):=e2;obtain⟨a,b,c,d,el⟩:=el;unfold pln at q;rw[el] at q e2';walk_at "rf";refine⟨g2,a,b,c,d,rfl,e2',fun H3 s3=>?_⟩;have s13:=s1.trans (s2.trans s3);dsimp only at q;cases eb:plb a b c with
  | true =>
    rw[eb,if_pos rfl] at q;walk_at "rf";exact q g2 H3 s13 (s3 _ _ e2')
  | false =>
    rw[eb,if_neg (by decide)] at q;walk_at "rf";refine⟨g2,[a,b,c,d],rfl,s3 _ _ e2',by simp,fun g3 H4 s4 e4=>?_⟩;exact q g3 H4 (s13.trans s4) e4
theorem ok_ht (T:Tx K mg t1 t2) (F:At K mg "height_over" jcc ["plane","spot"] []):jaz P w K mg base CX0 1 "height_over" ["plane","spot"] [] spHt:=by
 refine F.ok jcW (fun vs H Q E h=>?_) (fun f cdv A outer s H vs Q E hr h=>?_)
 ·obtain⟨r,e,a,b,c,d,p,rfl,_⟩:=h;rfl
 obtain⟨r,e,a,b,c,d,p,rfl,h1,sa,sb,sc,sd,h2,q⟩:=h;have S:=jcW;refine⟨_,(jae (jao (jah ja7 (jah jbf (jah jbf (jah jay (jai jav (pv 0) jab) (jai jav (pv 1) jab)) (jah jay (jai jav (pv 0) jab) (jai jav (pv 1) jab))) (jah jay (jai jav (pv 0) jab) (jai jav (pv 1) jab))) (jah jay (jai jav (pv 0) jab) (jai jav (pv 1) jab))))),?_⟩;have k1:SqT K H r [.int a,.int b,.int c,.int d]:=SqT.of h1;have f1:=sa.bd.fit;have f2:=sb.bd.fit;have f3:=sc.bd.fit;have f4:=sd.bd.fit;have k_h2:=h2.sq (K:=K);have g0:=h2.2.fx;have g1:=h2.2.fy;have g2:=h2.2.fz;have g3:=h2.2.fw;walk_at "rf";walk_at "gf";exact q
theorem jld (T:Tx K mg t1 t2) (F:At K mg "side_of" jev ["plane","spot"] []) (dz:jaz P w K mg base CX0 1 "sign_of" ["number"] [] jiz) (dJ:jaz P w K mg base CX0 1 "height_over" ["plane","spot"] [] spHt):jaz P w K mg base CX0 2 "side_of" ["plane","spot"] [] jkc:=by
 refine F.ok je6 (fun vs H Q E h=>?_) (fun f cdv A outer s H vs Q E hr h=>?_)
 ·obtain⟨r,e,a,b,c,d,p,rfl,_⟩:=h;rfl
 obtain⟨r,e,a,b,c,d,p,rfl,h1,sa,sb,sc,sd,h2,q⟩:=h;have S:=je6;refine⟨_,(jae (jao (jaj dz hr.m rfl jaF (jaa (jaj dJ hr.m rfl jaF (jaa (pv 0) (jaa (pv 1) jad jaf) jaf)) jad jaO)))),?_⟩;walk_at "rf";exact⟨r,e,a,b,c,d,p,rfl,h1,sa,sb,sc,sd,h2,_,rfl,q⟩
theorem jjD (T:Tx K mg t1 t2) (F:At K mg "stands_first" jbW ["one","other"] []):jaz P w K mg base CX0 1 "stands_first" ["one","other"] [] jiA:=by
  refine F.ok jcI (fun vs H Q E h=>?_) (fun f cdv A outer s H vs Q E hr h=>?_)
  . obtain⟨r,e,p,o,rfl,_⟩:=h
    rfl
  obtain⟨r,e,p,o,rfl,h1,h2,q⟩:=h;have S:=jcI;refine⟨_,(jac (jbA PassesOwn.never rfl (jaI rfl T.m_range (jaa jab jad jan)) (jaw (i:=2) S.nd rfl (Or.inl rfl))
    (jac (jal (i:=3) S.nd rfl (Or.inl rfl) (jah jay (jai jav (pv 0) (pv 2)) (jai jav (pv 1) jab)))
    (jac (jal (i:=4) S.nd rfl (Or.inl rfl) (jah jay (jai jav (pv 1) (pv 2)) (jai jav (pv 0) jab)))
    (jae (jaK (jam jeO (pv 3) (pv 4) (jas _))
    (jae (jao (jc9 jkH (pv 3) (pv 4) (jas _))))
    jap)))))
    (jae (jao jby))),?_⟩
  have k_h1:=h1.sq (K:=K);have k_h2:=h2.sq (K:=K);have f0:=h1.2.fx;have f1:=h1.2.fy;have f2:=h1.2.fz;have f3:=h1.2.fw;have g0:=h2.2.fx;have g1:=h2.2.fy;have g2:=h2.2.fz;have g3:=h2.2.fw;unfold sfp at q;walk_at "rd";refine⟨3,rfl,by decide,by decide,jbe (lo:=0) (n:=3) (fun i σ H2=>H2=H/\∃(o0 o1 o2:Option V),σ=[some (.ref r),some (.ref e),o0,o1,o2]/\(1<=i->p.x*o.w=o.x*p.w)/\(2<=i->p.y*o.w=o.y*p.w)/\(3<=i->p.z*o.w=o.z*p.w)) ⟨rfl,none,none,none,rfl,by simp,by simp,by simp⟩ ?_ ?_⟩
  . rintro i σ H2 hi ⟨rfl,o0,o1,o2,rfl,e0,e1,e2⟩
    match i,hi with
    | 0, _ =>
      walk_at "rd";walk_at "go";refine jb2 (fun c=>⟨fun _=>c,fun h=>absurd h (by decide),fun h=>absurd h (by decide)⟩) fun c=>?_;rw[sf,if_pos c] at q;exact q
    | 1, _ =>
      have d0:=e0 (by decide);walk_at "rd";walk_at "go";refine jb2 (fun c=>⟨fun _=>d0,fun _=>c,fun h=>absurd h (by decide)⟩) fun c=>?_;rw[sf,if_neg (fun n=>n d0),if_pos c] at q;exact q
    | 2, _ =>
      have d0:=e0 (by decide);have d1:=e1 (by decide);walk_at "rd";walk_at "go";refine jb2 (fun c=>⟨fun _=>d0,fun _=>d1,fun _=>c⟩) fun c=>?_;rw[sf,if_neg (fun n=>n d0),if_neg (fun n=>n d1),if_pos c] at q;exact q
  . rintro σ H2 ⟨rfl,o0,o1,o2,rfl,e0,e1,e2⟩
    rw[sf,if_neg (fun n=>n (e0 (by decide))),if_neg (fun n=>n (e1 (by decide))),if_neg (fun n=>n (e2 (by decide)))] at q;walk_at "rd";exact q
theorem jle (T:Tx K mg t1 t2) (F:At K mg "flat_axis" jdd ["plane"] []):jaz P w K mg base CX0 1 "flat_axis" ["plane"] [] jkd:=by
  refine F.ok jdW (fun vs H Q E h=>?_) (fun f cdv A outer s H vs Q E hr h=>?_)
  . obtain⟨r,a,b,c,d,rfl,_⟩:=h
    rfl
  obtain⟨r,a,b,c,d,rfl,h1,nz,q⟩:=h;have S:=jdW;refine⟨_,(jac (jbA PassesOwn.never rfl (jaI rfl T.m_range (jaa jab jad jan)) (jaw (i:=1) S.nd rfl (Or.inl rfl))
    (jae (jaK (jam jeO (jai jav (pv 0) (pv 1)) jab (jas _))
    (jae (jao (pv 1)))
    jap)))
    (jae (jao jeU))),?_⟩
  have k1:SqT K H r [.int a,.int b,.int c,.int d]:=SqT.of h1;walk_at "rf";walk_at "gf";refine jbe (lo:=0) (n:=3) (fun i σ H2=>H2=H/\∃o1:Option V,σ=[some (.ref r),o1]/\(1<=i->a=0)/\(2<=i->b=0)/\(3<=i->c=0)) ⟨rfl,none,rfl,by simp,by simp,by simp⟩ ?_ ?_
  . rintro i σ H2 hi ⟨rfl,o1,rfl,e0,e1,e2⟩
    match i,hi with
    | 0, _ =>
      walk_at "rf";walk_at "gf";refine jb2 (fun cc=>⟨fun _=>cc,fun h=>absurd h (by decide),fun h=>absurd h (by decide)⟩) fun cc=>?_;exact q _ (.inl ⟨rfl,cc⟩)
    | 1, _ =>
      have d0:=e0 (by decide);walk_at "rf";walk_at "gf";refine jb2 (fun cc=>⟨fun _=>d0,fun _=>cc,fun h=>absurd h (by decide)⟩) fun cc=>?_;exact q _ (.inr (.inl ⟨rfl,d0,cc⟩))
    | 2, _ =>
      have d0:=e0 (by decide);have d1:=e1 (by decide);walk_at "rf";walk_at "gf";refine jb2 (fun cc=>⟨fun _=>d0,fun _=>d1,fun _=>cc⟩) fun cc=>?_;exact q _ (.inr (.inr ⟨rfl,d0,d1,cc⟩))
  . rintro σ H2 ⟨rfl,o1,rfl,e0,e1,e2⟩
    exact absurd ⟨e0 (by decide),e1 (by decide),e2 (by decide)⟩ nz
theorem jlf (T:Tx K mg t1 t2) (F:At K mg "side_of_edge" jbY ["edge","spot","axis"] []) (dz:jaz P w K mg base CX0 1 "sign_of" ["number"] [] jiz) (db:jaz P w K mg base CX0 3 "minor_of" ["one","other","third","place"] [] jfq):jaz P w K mg base CX0 4 "side_of_edge" ["edge","spot","axis"] [] jke:=by
 refine F.ok jcK (fun vs H Q E h=>?_) (fun f cdv A outer s H vs Q E hr h=>?_)
 ·obtain⟨g,r,e,t,k,p,o,u,rfl,_⟩:=h;rfl
 obtain⟨g,r,e,t,k,p,o,u,rfl,hg,h1,h2,h3,k0,k3,q⟩:=h;have S:=jcK;refine⟨_,(jae (jao (jaj dz hr.m rfl jaF (jaa (jaj db hr.m rfl jaF (jaa (jai jav (pv 0) jab) (jaa (jai jav (pv 0) jab) (jaa (pv 1) (jaa (pv 2) jad jaf) jaf) jaA) jaA)) jad jaO)))),?_⟩;have kg:SqT K H g [.ref r,.ref e]:=SqT.of hg;walk_at "rf";walk_at "gf";refine⟨r,e,t,k,p,o,u,rfl,h1,h2,h3,k0,k3,fun H1 s1=>?_⟩;exact⟨_,rfl,q H1 s1⟩
def fM1 (H:Hp) (l:Addr) (ps:List Pt):L2.St->Hp->Prop:=fun σ H'=>∃o2:Option V,σ=[some (.ref l),some (.int (fF ps:Nat)),o2,none]/\H'=H
def fM2 (H:Hp) (l:Addr) (ps:List Pt) (rs:List Addr):L2.St->Hp->Prop:=fun σ H'=>∃(g:Addr) (o1 o2:Option V),σ=[some (.ref l),o1,o2,some (.ref g)]/\H' g=some (.lst ((rot (fF ps) rs).map V.ref))/\Same H H'
def fM3 (H:Hp) (ps:List Pt) (rs:List Addr):L2.St->Hp->Prop:=fun σ H'=>∃(g:Addr) (o0 o1 o2:Option V),σ=[o0,o1,o2,some (.ref g)]/\H' g=some (.lst ((frm ps rs).map V.ref))/\Same H H'
theorem jfs {α:Type} {l:List α} (h:f<=l.length):(rot f l).length=l.length:=by
 unfold rot;rw[xaf,xao,xak];omega
theorem jiE (T:Tx K mg t1 t2) (F:At K mg "formed" jfo ["corners"] []) (dC:jaz P w K mg base CX0 1 "stands_first" ["one","other"] [] jiA):jaz P w K mg base CX0 2 "formed" ["corners"] [] jgY:=by
  refine F.ok jga (fun vs H Q E h=>?_) (fun f cdv A outer s H vs Q E hr h=>?_)
  . obtain⟨l,rs,ps,rfl,_⟩:=h
    rfl
  obtain⟨l,rs,ps,rfl,hc,n3,n8,q⟩:=h;have S:=jga;refine⟨_,(jac (jal (i:=1) S.nd rfl (Or.inl rfl) jab)
    (jbb (fM1 H l ps) (jbA PassesOwn.never rfl (jfG rfl T.m_range (jaa jab (jaa (jat jaB rfl T.m_len PySem.boot_len (jaa (pv 0) jad jaf)) jad jaO) jan)) (jaw (i:=2) S.nd rfl (Or.inl rfl))
    (jae (jaK (jbz (jaj dC hr.m rfl jaF (jaa (jai jak (pv 0) (pv 2)) (jaa (jai jak (pv 0) (pv 1)) jad jaA) jaA)))
    (jae (jal (i:=1) S.nd rfl (Or.inl rfl) (pv 2)))
    jap)))
    (jbb (fM2 H l ps rs) (jal (i:=3) S.nd rfl (Or.inl rfl) (jah jb1 (jbp jcx rfl T.m_list boot_list (jaa (jaV jba (pv 0) (jaQ (pv 1)) jaP) jad jaA)) (jbp jcx rfl T.m_list boot_list (jaa (jaV jba (pv 0) jaP (jaQ (pv 1))) jad jaA))))
    (jbb (fM3 H ps rs) (jaK (jbz (jaj dC hr.m rfl jaF (jaa (jai jak (pv 3) (jd9 jcv jab)) (jaa (jai jak (pv 3) jab) jad jaA) jaA)))
    (jae (jal (i:=3) S.nd rfl (Or.inl rfl) (jah jb1 (jaV jba (pv 3) jaP (jaQ jab)) (jhy rfl rfl T.m_list rfl T.m_reversed (jaV jba (pv 3) (jaQ jab) jaP)))))
    jap)
    (jae (jao (jbp jem rfl T.m_tuple boot_tuple (jaa (pv 3) jad jaf)))))))),?_⟩
  have ln:=hc.2.len;have lm:(rs.map V.ref).length=ps.length:=by rw[xaa,ln]
  have kl:SqL K H l (rs.map V.ref):=SqL.of hc.1;walk_at "rf";refine⟨⟨_,.inl kl,by decide,by decide,by omega,by omega,?_⟩,?_⟩
  . refine jbe (lo:=1) (n:=_) (fun i σ H2=>H2=H /\ ∃o2:Option V,σ=[some (.ref l),some (.int (jgX ps i:Nat)),o2,none]) ⟨rfl,none,rfl⟩ ?_ ?_
    . rintro i σ H2 hi ⟨rfl,o2,rfl⟩
      have hi2:i+1<ps.length:=by omega
      have al:=jex ps i;obtain⟨g1,g2⟩:=hc.2.get hi2;obtain⟨g3,g4⟩:=hc.2.get (i:=jgX ps i) (by omega);have e1:atI (rs.map V.ref) (1+(i:Int))=some (.ref (ad rs (i+1))):=by
        have z:(1+(i:Int))=((i+1:Nat):Int):=by omega
        rw[z];exact jaM g1
      walk_at "rf";refine ixL kl e1 ?_;refine ixL kl (jaM g3) ?_;refine⟨_,_,_,_,rfl,g2,g4,?_⟩;have ea:jgX ps (i+1)=if sfp (pt ps (i+1)) (pt ps (jgX ps i))=true then i+1 else jgX ps i:=rfl;walk_at "rf";cases es:sfp (pt ps (i+1)) (pt ps (jgX ps i)) with
      | true =>
        rw[es,if_pos rfl] at ea;rw[ea,if_pos rfl];exact⟨by omega,_,rfl⟩
      | false =>
        rw[es,if_neg (by decide)] at ea;rw[ea,if_neg (by decide)];exact⟨rfl,_,rfl⟩
    . rintro σ H2 ⟨rfl,o2,rfl⟩
      have e:(((List.map V.ref rs).length:Int)-1).toNat=ps.length-1:=by omega
      rw[e];exact⟨_,rfl,rfl⟩
  rintro σ1 H1 ⟨o2,rfl,rfl⟩;have fl:fF ps<ps.length:=by have:=jex ps (ps.length-1);unfold fF;omega
  walk_at "rf";refine⟨⟨l,_,rfl,kl,fun a1 h1=>?_⟩,?_⟩
  . rw[jbE]
    refine ja9 h1 fun J1 s1 e1=>?_;refine⟨a1,rfl,_,.inl (SqL.of e1),fun a2 h2=>?_⟩;refine ja9 h2 fun J2 s2 e2=>?_;refine⟨l,_,rfl,(s1.trans s2).seq kl,fun a3 h3=>?_⟩;rw[jbF];refine ja9 h3 fun J3 s3 e3=>?_;refine⟨a3,rfl,_,.inl (SqL.of e3),fun a4 h4=>?_⟩;refine ja9 h4 fun J4 s4 e4=>?_;refine⟨a2,a4,_,_,rfl,rfl,s4 _ _ (s3 _ _ e2),e4,?_,fun a5 h5=>⟨a5,_,_,rfl,?_,s1.trans (s2.trans (s3.trans (s4.trans (Same.new h5 _))))⟩⟩
    . rw[xao,xak]
      exact xaA (show _<=1000 by omega) (by decide)
    . unfold rot
      rw[xah,xaK,xaM];exact upd_same
  rintro σ2 H2 ⟨g,o1,o2,rfl,hg,s2⟩;have hr2:=(hc.2.keep s2.t).rot (fF ps);have rl:(rot (fF ps) ps).length=ps.length:=jfs (by omega);have rl2:((rot (fF ps) rs).map V.ref).length=ps.length:=by rw[xaa,jfs (by omega),ln]
  have kg:SqL K H2 g ((rot (fF ps) rs).map V.ref):=SqL.of hg;obtain⟨b1,b2⟩:=hr2.get (i:=ps.length-1) (by omega);obtain⟨b3,b4⟩:=hr2.get (i:=1) (by omega);have ef:∀{α:Type} (x:List α),frm ps x=turn (fB ps) (rot (fF ps) x):=fun _=>rfl;have eb:fB ps=sfp (pt (rot (fF ps) ps) (ps.length-1)) (pt (rot (fF ps) ps) 1):=rfl;walk_at "rf";refine⟨ixL kg (jfr (n:=ps.length-1) (by omega) b1) (ixL kg (jaM (j:=1) b3) ?_),?_⟩
  . refine⟨_,_,_,_,rfl,b2,b4,?_⟩
    rw[<- eb];have ef:=ef rs;cases es:fB ps with
    | false =>
      rw[es] at ef;walk_at "rf";exact⟨g,_,_,_,rfl,by rw[ef];exact hg,s2⟩
    | true =>
      rw[es] at ef;have ef2:frm ps rs=(rot (fF ps) rs).take 1++((rot (fF ps) rs).drop 1).reverse:=ef;walk_at "rf";refine⟨g,_,rfl,kg,fun a1 h1=>?_⟩;have c1:jfD ((rot (fF ps) rs).map V.ref) none (some 1)=((rot (fF ps) rs).map V.ref).take 1:=jbF (f:=1);rw[c1];refine ja9 h1 fun J1 s3 e1=>?_;refine⟨g,_,rfl,s3.seq kg,fun a2 h2=>?_⟩;have c2:jfD ((rot (fF ps) rs).map V.ref) (some 1) none=((rot (fF ps) rs).map V.ref).drop 1:=jbE (f:=1);rw[c2];refine ja9 h2 fun J2 s4 e2=>?_;refine⟨a2,rfl,_,SqL.of e2,fun a3 h3=>?_⟩;refine ja9 h3 fun J3 s5 e3=>?_;refine⟨a1,a3,_,_,rfl,rfl,s5 _ _ (s4 _ _ e1),e3,?_,fun a4 h4=>⟨a4,_,_,_,rfl,?_,s2.trans (s3.trans (s4.trans (s5.trans (Same.new h4 _))))⟩⟩
      . rw[xaU,xao,xak]
        exact xaA (show _<=1000 by omega) (by decide)
      . rw[ef2,xah,xaM,xbc,xaK]
        exact upd_same
  rintro σ3 H3 ⟨g,o0,o1,o2,rfl,hg,s3⟩;walk_at "rf";exact⟨_,SqL.of hg,fun t ht=>q t _ (s3.trans (Same.new ht _)) upd_same⟩
theorem jjE (h:Sps H rs ps) (hi:i<ps.length):atI (rs.map V.ref) ((i:Int)-1)=some (.ref (ad rs ((i+(ps.length-1)) % ps.length))):=by
  have lm:(rs.map V.ref).length=ps.length:=by rw[xaa,h.len]
  cases i with
  | zero =>
    have e:(0+(ps.length-1)) % ps.length=ps.length-1:=by rw[Nat.zero_add];exact xaF (by omega)
    rw[e];have z:((0:Nat):Int)-1=-1:=rfl;rw[z];exact jfr (n:=ps.length-1) (by omega) (h.get (i:=ps.length-1) (by omega)).1
  | succ i =>
    have e:(i+1+(ps.length-1)) % ps.length=i:=by
      have z:i+1+(ps.length-1)=i+ps.length:=by omega
      rw[z,Nat.add_mod_right];exact xaF (by omega)
    rw[e];have z:((i+1:Nat):Int)-1=(i:Int):=by omega
    rw[z];exact jaM (h.get (i:=i) (by omega)).1
theorem jlg {b:Int} (h:¬(a=0/\b=0/\c=0)) (hp:plb a b c=false):plb (-a) (-b) (-c)=true:=by
 by_cases ha:a=0
 ·by_cases hb:b=0
  ·have hc:c≠0:=fun z=>h ⟨ha,hb,z⟩;simp [plb,ha,hb,hc] at hp |-
   omega
  ·simp [plb,ha,hb] at hp |-
   omega
 ·simp [plb,ha] at hp |-
  omega
theorem jmE (ns:List Int):gl (ns.map fun n=>-n)=gl ns:=by
 have d1:gl (ns.map fun n=>-n) ∣ gl ns:=jf5 fun n hn=>Int.dvd_neg.mp (ja4 (xaC.mpr ⟨n,hn,rfl⟩));have d2:gl ns ∣ gl (ns.map fun n=>-n):=jf5 fun n hn=>by
  obtain⟨m,hm,rfl⟩:=xaC.mp hn;exact Int.dvd_neg.mpr (ja4 hm)
 exact Int.dvd_antisymm (jbK _) (jbK _) d1 d2
theorem jiF {b:Int} (h:¬(a=0/\b=0/\c=0)) (sa:Small a) (sb:Small b) (sc:Small c) (sd:Small d):∃x y z w:Int,pln [a,b,c,d]=[x,y,z,w]/\Small x/\Small y/\Small z/\Small w/\gl [x,y,z,w]=1/\plb x y z=true/\∀p:Pt,hgt a b c d p=0->hgt x y z w p=0:=by
  have gp:=gl4 (d:=d) h;have g1:gl (low [a,b,c,d])=1:=jmz (ns:=[a,b,c,d]) (by omega);have nz:¬(a / gl [a,b,c,d]=0/\b / gl [a,b,c,d]=0/\c / gl [a,b,c,d]=0):=fun z=>by
    have g:∀{x:Int},x∈[a,b,c,d]->x / gl [a,b,c,d]=0->x=0:=fun hx z=>xa7 fun q=>jgs (ja4 hx) q z;exact h ⟨g (by simp) z.1,g (by simp) z.2.1,g (by simp) z.2.2⟩
  have el:low [a,b,c,d]=[a / gl [a,b,c,d],b / gl [a,b,c,d],c / gl [a,b,c,d],d / gl [a,b,c,d]]:=rfl;have ea:=xat (ja4 (ns:=[a,b,c,d]) (n:=a) (by simp));have eb:=xat (ja4 (ns:=[a,b,c,d]) (n:=b) (by simp));have ec:=xat (ja4 (ns:=[a,b,c,d]) (n:=c) (by simp));have ed:=xat (ja4 (ns:=[a,b,c,d]) (n:=d) (by simp));have s1:=sa.div (g:=gl [a,b,c,d]);have s2:=sb.div (g:=gl [a,b,c,d]);have s3:=sc.div (g:=gl [a,b,c,d]);have s4:=sd.div (g:=gl [a,b,c,d]);unfold pln;rw[el] at g1 |-
  generalize gl [a,b,c,d]=g at gp g1 nz ea eb ec ed s1 s2 s3 s4 |-
  generalize a / g=x at g1 nz ea s1 |-
  generalize b / g=y at g1 nz eb s2 |-
  generalize c / g=z at g1 nz ec s3 |-
  generalize d / g=w at g1 ed s4 |-
  have hz:∀p:Pt,hgt a b c d p=0->hgt x y z w p=0:=fun p hp=>by
    have e:hgt x y z w p*g=0:=by
      rw[<- hp,<- ea,<- eb,<- ec,<- ed];unfold hgt;grind
    rcases xaB.mp e with q | q
    . exact q
    . omega
  show ∃x' y' z' w':Int,(if plb x y z=true then [x,y,z,w] else [-x,-y,-z,-w])=[x',y',z',w']/\_;cases eb:plb x y z with
  | true=>exact⟨x,y,z,w,if_pos rfl,s1,s2,s3,s4,g1,eb,hz⟩
  | false =>
    refine⟨-x,-y,-z,-w,if_neg (by decide),s1.neg,s2.neg,s3.neg,s4.neg,?_,jlg nz eb,fun p hp=>?_⟩
    . rw[<- g1]
      exact jmE [x,y,z,w]
    . have e:=hz p hp
      have e2:hgt (-x) (-y) (-z) (-w) p=-hgt x y z w p:=by
        unfold hgt;grind
      rw[e2,e];rfl
theorem jmF {b x y w:Int} (h:pln [a,b,c,d]=[x,y,z,w]):(x≠0->a≠0)/\(y≠0->b≠0)/\(z≠0->c≠0):=by
 have el:low [a,b,c,d]=[a / gl [a,b,c,d],b / gl [a,b,c,d],c / gl [a,b,c,d],d / gl [a,b,c,d]]:=rfl;unfold pln at h;rw[el] at h;generalize gl [a,b,c,d]=g at h;have h':(if plb (a / g) (b / g) (c / g)=true then [a / g,b / g,c / g,d / g] else [-(a / g),-(b / g),-(c / g),-(d / g)])=[x,y,z,w]:=h;have z0:∀{i:Int},i=0->i / g=0:=fun e=>by rw[e];exact Int.zero_ediv g
 split at h'
 ·simp only[List.cons.injEq,and_true] at h';obtain⟨e1,e2,e3,_⟩:=h';exact⟨fun q e=>q (by rw[<- e1];exact z0 e),fun q e=>q (by rw[<- e2];exact z0 e),fun q e=>q (by rw[<- e3];exact z0 e)⟩
 ·simp only[List.cons.injEq,and_true] at h';obtain⟨e1,e2,e3,_⟩:=h';exact⟨fun q e=>q (by rw[<- e1,z0 e];rfl),fun q e=>q (by rw[<- e2,z0 e];rfl),fun q e=>q (by rw[<- e3,z0 e];rfl)⟩
theorem jmG {x y:Int} (h:plb x y z=true):¬(x=0/\y=0/\z=0):=fun e=>by
 simp [plb,e.1,e.2.1,e.2.2] at h
theorem sgn0:sgn 0=0:=rfl
structure Tri where
 x:Int
 y:Int
 z:Int
def Tri.bd (n:Nat) (v:Tri):Prop:=Bd n v.x/\Bd n v.y/\Bd n v.z
structure Sht where
 s:Tri
 w:Int
 c:Tri
 d:Tri
def Sht.u (S:Sht):Tri:=⟨S.c.y*S.d.z-S.c.z*S.d.y,S.c.z*S.d.x-S.c.x*S.d.z,S.c.x*S.d.y-S.c.y*S.d.x⟩
def Box (H:Hp) (L:Addr):Prop:=∃m:Int,H L=some (.lst [.int m])
theorem SameB.t {L:Addr} (s:SameB L H H') (h:Box H L):SameT H H':=fun b xs hb=>by
 by_cases e:b=L
 ·obtain⟨m,hm⟩:=h;rw[e,hm] at hb;cases hb
 ·exact s b _ e hb
theorem Bd.div {i:Int} (h:Bd n i):Bd n (i / g):=xa1 (xa6 i g) h
def w3 (Z:Sht):Int:=Z.w*Z.w*Z.w
def uk (Z:Sht) (k:Int):Int:=if k=0 then Z.u.x else if k=1 then -Z.u.y else Z.u.z
theorem jc5 (h:i<l.length):pt l i∈l:=by
 unfold pt;rw[xac,xab h];exact xbb h
theorem jiG (h:p∈l):∃i,i<l.length/\pt l i=p:=by
 obtain⟨i,hi,e⟩:=List.mem_iff_getElem.mp h;refine⟨i,hi,?_⟩;unfold pt;rw[xac,xab hi];exact e
theorem jbv {j:Nat} (h:3<=n):∃k,k<n/\j≠k/\i≠k:=by
 by_cases h0:i=0\/j=0
 ·by_cases h1:i=1\/j=1
  ·exact⟨2,by omega,by omega,by omega⟩
  ·exact⟨1,by omega,by omega,by omega⟩
 ·exact⟨0,by omega,by omega,by omega⟩
def jkg:Sp:=fun vs H Q _=>∃(l:Addr) (k:Int) (rs:List Addr) (ps:List Pt),vs=[.ref l,.int k]/\Cor H l rs ps/\3<=ps.length/\ps.length<=8/\0<=k/\k<=2/\((Rnd k ps/\∀H':Hp,Same H H'->Q (.bl true) H')\/(¬Rnd k ps/\∀H':Hp,Same H H'->Q (.bl false) H'))
theorem jjF {b x y w:Int} (h:pln [a,b,c,d]=[x,y,z,w]) (hp:hgt x y z w p=0):hgt a b c d p=0:=by
 have ea:=xat (ja4 (ns:=[a,b,c,d]) (n:=a) (by simp));have eb:=xat (ja4 (ns:=[a,b,c,d]) (n:=b) (by simp));have ec:=xat (ja4 (ns:=[a,b,c,d]) (n:=c) (by simp));have ed:=xat (ja4 (ns:=[a,b,c,d]) (n:=d) (by simp));have el:low [a,b,c,d]=[a / gl [a,b,c,d],b / gl [a,b,c,d],c / gl [a,b,c,d],d / gl [a,b,c,d]]:=rfl;unfold pln at h;rw[el] at h;generalize gl [a,b,c,d]=g at ea eb ec ed h;generalize a / g=x' at ea h;generalize b / g=y' at eb h;generalize c / g=z' at ec h;generalize d / g=w' at ed h;have h:(if plb x' y' z'=true then [x',y',z',w'] else [-x',-y',-z',-w'])=[x,y,z,w]:=h;have k:hgt a b c d p=hgt x' y' z' w' p*g:=by
  rw[<- ea,<- eb,<- ec,<- ed];unfold hgt;grind
 rw[k];split at h
 ·cases h;rw[hp,xa0]
 ·cases h;have e2:hgt (-x') (-y') (-z') (-w') p=-hgt x' y' z' w' p:=by
   unfold hgt;grind
  rw[e2] at hp;have:hgt x' y' z' w' p=0:=by omega
  rw[this,xa0]
theorem jg1 {n:Int} (h:sgn n=0):n=0:=by
 unfold sgn at h;split at h
 ·cases h
 ·split at h
  ·cases h
  ·omega
theorem jlh (T:Tx K mg t1 t2) (F:At K mg "is_convex" jde ["corners","axis"] []) (dB:jaz P w K mg base CX0 4 "side_of_edge" ["edge","spot","axis"] [] jke):jaz P w K mg base CX0 5 "is_convex" ["corners","axis"] [] jkg:=by
 refine F.ok jdX (fun vs H Q E h=>?_) (fun f cdv A outer s H vs Q E hr h=>?_)
 ·obtain⟨l,k,rs,ps,rfl,_⟩:=h;rfl
 obtain⟨l,k,rs,ps,rfl,hc,n3,n8,k0,k2,q⟩:=h;have S:=jdX;refine⟨_,(jac (jal (i:=2) S.nd rfl (Or.inl rfl) (jaj dB hr.m rfl jaF (jaa (jbc (jaa (jai jak (pv 0) jab) (jaa (jai jak (pv 0) jab) jad jaA) jaA)) (jaa (jai jak (pv 0) jab) (jaa (pv 1) jad jaf) jaA) jaZ)))
  (jac (jal (i:=3) S.nd rfl (Or.inl rfl) (jat jaB rfl T.m_len PySem.boot_len (jaa (pv 0) jad jaf)))
  (jac (jbA PassesOwn.never rfl (jaI rfl T.m_range (jaa (pv 3) jad jaf)) (jaw (i:=4) S.nd rfl (Or.inl rfl))
  (jac (jal (i:=5) S.nd rfl (Or.inl rfl) (jbc (jaa (jai jak (pv 0) (jah ja7 (pv 4) jab)) (jaa (jai jak (pv 0) (pv 4)) jad jaA) jaA)))
  (jae (jbA PassesOwn.never rfl (jfG rfl T.m_range (jaa jab (jaa (jah ja7 (pv 3) jab) jad jaR) jan)) (jaw (i:=6) S.nd rfl (Or.inl rfl))
  (jae (jaK (jam jeO (jaj dB hr.m rfl jaF (jaa (pv 5) (jaa (jai jak (pv 0) (jah jaE (jah jbf (pv 4) (pv 6)) (pv 3))) (jaa (pv 1) jad jaf) jaA) jaf)) (pv 2) (jas _))
  (jae (jao jby))
  jap))))))
  (jae (jao jby))))),?_⟩
 have ln:=hc.2.len;have lm:(rs.map V.ref).length=ps.length:=by rw[xaa,ln]
 have kl:SqL K H l (rs.map V.ref):=SqL.of hc.1;obtain⟨a1,a2⟩:=hc.2.get (i:=0) (by omega);obtain⟨a3,a4⟩:=hc.2.get (i:=1) (by omega);obtain⟨a5,a6⟩:=hc.2.get (i:=2) (by omega);walk_at "rf";refine ixL kl (jaM (j:=0) a1) (ixL kl (jaM (j:=1) a3) ⟨by decide,fun g hg=>?_⟩);refine ja9 hg fun H1 s1 e1=>?_;refine ixL (s1.seq kl) (jaM (j:=2) a5) ?_;refine⟨g,_,_,_,k,_,_,_,rfl,e1,a2.keep s1,a4.keep s1,a6.keep s1,k0,by omega,fun H2 s2=>?_⟩;have s12:=s1.trans s2;have kl2:=s12.seq kl;walk_at "rf";refine⟨_,.inl kl2,?_⟩;rw[lm];refine⟨by omega,by omega,?_⟩;refine jbe (lo:=0) (n:=_) (fun i σ H3=>Same H H3/\(∀i' j',i'<i->1<=j'->j'<ps.length-1->sgn (jaG k (pt ps ((i'+(ps.length-1)) % ps.length)) (pt ps i') (pt ps ((i'+j') % ps.length)))=sgn (jaG k (pt ps 0) (pt ps 1) (pt ps 2)))/\∃o4 o5 o6:Option V,σ=[some (.ref l),some (.int k),some (.int (sgn (jaG k (pt ps 0) (pt ps 1) (pt ps 2)))),some (.int (ps.length:Nat)),o4,o5,o6]) ⟨s12,fun i' j' h=>absurd h (Nat.not_lt_zero _),none,none,none,rfl⟩ ?_ ?_
 ·rintro i σ H3 hi ⟨s3,al,o4,o5,o6,rfl⟩;have hi2:i<ps.length:=by simpa using hi
  have kl3:=s3.seq kl;have sp3:=hc.2.keep s3.t;obtain⟨b1,b2⟩:=sp3.get hi2;have hm:(i+(ps.length-1)) % ps.length<ps.length:=xaR _ (by omega);obtain⟨b3,b4⟩:=sp3.get hm;have ep:=jjE sp3 hi2;have z0:(0:Int)+(i:Int)=(i:Int):=xbA _;rw[z0];walk_at "rf";refine ixL kl3 ep (ixL kl3 (jaM b1) ⟨by decide,fun g3 hg3=>?_⟩);refine ja9 hg3 fun H4 s4 e4=>?_;refine⟨by decide,by decide,by omega,by omega,?_⟩;refine jbe (lo:=1) (n:=_) (fun j σ H5=>Same H4 H5/\(∀j',j'<j->sgn (jaG k (pt ps ((i+(ps.length-1)) % ps.length)) (pt ps i) (pt ps ((i+(j'+1)) % ps.length)))=sgn (jaG k (pt ps 0) (pt ps 1) (pt ps 2)))/\∃o6:Option V,σ=[some (.ref l),some (.int k),some (.int (sgn (jaG k (pt ps 0) (pt ps 1) (pt ps 2)))),some (.int (ps.length:Nat)),some (.int (i:Int)),some (.ref g3),o6]) ⟨Same.refl _,fun j' h=>absurd h (Nat.not_lt_zero _),_,rfl⟩ ?_ ?_
  ·rintro j σ H5 hj ⟨s5,al5,o6,rfl⟩;have hj2:j+1<ps.length-1:=by omega
   have s35:=s4.trans s5;have s05:=s3.trans s35;have sp5:=hc.2.keep s05.t;have hm2:(i+(j+1)) % ps.length<ps.length:=xaR _ (by omega);obtain⟨c1,c2⟩:=sp5.get hm2;have ez:((i:Int)+(1+(j:Int))) % ((ps.length:Nat):Int)=(((i+(j+1)) % ps.length:Nat):Int):=by
    rw[Int.natCast_emod]
    congr 1
    omega
   walk_at "rf";rw[ez];refine⟨by omega,ixL (s05.seq kl) (jaM c1) ?_⟩;refine⟨g3,_,_,_,k,_,_,_,rfl,s5 _ _ e4,b4.keep s35,b2.keep s35,c2,k0,by omega,fun H6 s6=>?_⟩;try walk_at "rf"
   refine jb2 (fun ce=>?_) fun ce=>?_
   ·refine⟨s5.trans s6,fun j' hj'=>?_,_,rfl⟩;by_cases cj:j'<j
    ·exact al5 j' cj
    ·have ej:j'=j:=by omega
     rw[ej];exact ce
   ·rcases q with ⟨rn,q⟩ | ⟨nr,q⟩
    ·exact absurd (rn i (j+1) hi2 (by omega) hj2) ce
    ·exact q _ (s05.trans s6)
  ·rintro σ H5 ⟨s5,al5,o6,rfl⟩;refine⟨s3.trans (s4.trans s5),fun i' j' hi' j1 j2=>?_,_,_,_,rfl⟩;by_cases ci:i'<i
   ·exact al i' j' ci j1 j2
   ·have ei:i'=i:=by omega
    subst ei;have z:=al5 (j'-1) (by omega);rw[show j'-1+1=j' by omega] at z;exact z
 ·rintro σ H3 ⟨s3,al,o4,o5,o6,rfl⟩;rcases q with ⟨_,q⟩ | ⟨nr,q⟩
  ·exact q _ s3
  ·exact absurd (fun i j hi j1 j2=>al i j (by simpa using hi) j1 j2) nr
def jg2 (K:PySem.W.Frag):Sp:=fun vs H Q _=>∃(a:Addr) (ns:List Int) (k:Int),vs=[.ref a,.int k]/\SqL K H a (ns.map V.int)/\ns.length<=63/\0<=k/\k<=1000 /\
 ∀(n:Int) (H':Hp),Same H H'->0<=n->n<10^31->Q (.int n) H'
def nM1 (H:Hp) (a:Addr) (k:Int):L2.St->Hp->Prop:=fun σ H'=>∃cell turn:Int,σ=[some (.ref a),some (.int k),some (.int cell),some (.int turn),none,none,none,none]/\Same H H'/\0<=turn/\turn<=1000
def nM2 (H:Hp) (a:Addr) (k:Int):L2.St->Hp->Prop:=fun σ H'=>∃(cell turn:Int) (o4 o5:Option V),σ=[some (.ref a),some (.int k),some (.int cell),some (.int turn),o4,o5,none,none]/\Same H H'
def nM3 (H:Hp) (a:Addr) (k:Int):L2.St->Hp->Prop:=fun σ H'=>∃(o2 o3 o4 o5:Option V) (n:Int),σ=[some (.ref a),some (.int k),o2,o3,o4,o5,some (.int 618970019642690137449562111),some (.int n)]/\0<=n/\n<618970019642690137449562111/\Same H H'
theorem jjG {i:Int} (h0:0<=i) (h:i<(ns.length:Nat)):∃c:Int,atI (ns.map V.int) i=some (.int c):=by
 have hk:i.toNat<ns.length:=by omega
 have ek:i=((i.toNat:Nat):Int):=by omega
 have q:atI (ns.map V.int) ((i.toNat:Nat):Int)=some (.int ns[i.toNat]):=jaM (by rw[xai,xab hk]<;>rfl);rw[<- ek] at q;exact⟨_,q⟩
theorem jiH (T:Tx K mg t1 t2) (F:At K mg "_law_number" jce ["script","k"] []):jaz P w K mg base CX0 1 "_law_number" ["script","k"] [] (jg2 K):=by
  refine F.ok jcY (fun vs H Q E h=>?_) (fun f cdv A outer s H vs Q E hr h=>?_)
  . obtain⟨a,ns,k,rfl,_⟩:=h
    rfl
  obtain⟨a,ns,k,rfl,hS,h63,h0,h1,q⟩:=h;have S:=jcY;refine⟨_,(jac (jal (i:=2) S.nd rfl (Or.inl rfl) jab)
    (jac (jal (i:=3) S.nd rfl (Or.inl rfl) (pv 1))
    (jbb (nM1 H a k) (jaK (jam (jdV (jhw hr)) (pv 0) (jaU jad) (jas _))
    (jac (jal (i:=2) S.nd rfl (Or.inl rfl) (jai jak (pv 0) (jah jaE (pv 1) (jat jaB rfl T.m_len PySem.boot_len (jaa (pv 0) jad jaf)))))
    (jae (jal (i:=3) S.nd rfl (Or.inl rfl) (jah jax (pv 1) (jat jaB rfl T.m_len PySem.boot_len (jaa (pv 0) jad jaf))))))
    jap)
    (jbb (nM2 H a k) (jaK (jam jl5 (jat jbS rfl T.m_abs boot_abs (jaa (pv 2) jad jaf)) (jah jeW jab jab) (jas _))
    (jac (jal (i:=4) S.nd rfl (Or.inl rfl) (jat jbS rfl T.m_abs boot_abs (jaa (pv 2) jad jaf)))
    (jac (jbA PassesOwn.never rfl (jaI rfl T.m_range (jaa (pv 3) jad jaf)) (jaw (i:=5) S.nd rfl (Or.inl rfl))
    (jae (jal (i:=4) S.nd rfl (Or.inl rfl) (jah jax (pv 4) (jah jeW jab jab)))))
    (jae (jaK (jam jeP (pv 4) jab (jas _))
    (jae (jao (jah jaE (pv 4) (jah jeW jab jab))))
    jap))))
    jap)
    (jac (jal (i:=6) S.nd rfl (Or.inl rfl) jab)
    (jbb (nM3 H a k) (jal (i:=7) S.nd rfl (Or.inl rfl) (jah jaE (jah jay (jah jbf (jah jbf (jah jbf (jah jaE (pv 2) (pv 6)) (jah jay (jah jay jab (pv 1)) (pv 1))) (pv 1)) jab) jab) (pv 6)))
    (jbb (nM3 H a k) (jal (i:=7) S.nd rfl (Or.inl rfl) (jah jaE (jah jbf (jah jay (pv 7) (pv 7)) (jah jay jab (pv 1))) (pv 6)))
    (jae (jao (jah jaE (jah jay (jah jaE (jah jay (pv 7) (pv 7)) (pv 6)) jab) (jah jeW jab jab))))))))))),?_⟩
  walk_at "rd";refine⟨by decide,fun p hp=>⟨.list (ns.map PyData.int),.list [],.lst ((Same.new hp _).seq hS) (RdsAll.ints ns),.lst (SqL.of upd_same) .nil,PySem.W.ke_shaped_ints ns,by decide,_,rfl,?_⟩,?_⟩
  . have hS':=(Same.new hp (.lst [])).seq hS
    have el:(ns.map V.int).length=ns.length:=xaa _;cases ns with
    | nil =>
      refine iteF ?_;exact⟨0,k,rfl,Same.new hp _,h0,h1⟩
    | cons n r =>
      refine iteT ⟨_,.inl hS',?_,?_⟩
      . rw[el];simp
      . have hp1:(0:Int) < ((n::r).length:Nat):=by simp
        have b1:=xaq k (show (((n::r).length:Nat):Int)≠0 by omega);have b2:=xam k hp1;obtain⟨c,hc⟩:=jjG (ns:=n::r) b1 b2;refine⟨a,_,_,_,rfl,rfl,hS',by rw[el];exact hc,_,.inl hS',by rw[el];exact hp1,.o (by rw[el];omega) (by rw[el];omega),?_⟩;refine⟨c,_,rfl,Same.new hp _,xaH h0 (by rw[el];omega),?_⟩;rw[el];exact Int.le_trans (Int.ediv_le_self _ h0) h1
  rintro σ1 H1 ⟨cell,turn,rfl,s1,t0,t1⟩;walk_at "rd";have e31:(10:Int)^31=10000000000000000000000000000000:=by decide
  have e31':(10:Int)^Int.toNat 31=10000000000000000000000000000000:=by decide
  rw[e31] at q;refine⟨⟨by decide,by decide,by decide⟩,jb2 (fun c=>?_) fun c=>⟨cell,turn,none,none,rfl,s1⟩,?_⟩
  . refine⟨_,rfl,turn,rfl,by omega,by omega,jbe (lo:=0) (n:=turn.toNat) (fun i σ H2=>H2=H1 /\ ∃(left:Int) (o:Option V),σ=[some (.ref a),some (.int k),some (.int cell),some (.int turn),some (.int left),o,none,none] /\ 0 <= left) ⟨rfl,_,none,rfl,by split<;>omega⟩ ?_ ?_⟩
    . rintro i σ H2 hi ⟨rfl,left,o,rfl,hl⟩
      walk_at "rd";rw[e31'];exact⟨⟨by decide,by decide,by decide⟩,by decide,.o (by decide) (by decide),xaH hl (by decide)⟩
    . rintro σ H2 ⟨rfl,left,o,rfl,hl⟩
      walk_at "rd";rw[e31'];refine jb2 (fun c=>⟨⟨by decide,by decide,by decide⟩,by decide,q _ _ s1 (xaq _ (by decide)) (xam _ (by decide))⟩) fun c=>⟨cell,turn,_,_,rfl,s1⟩
  rintro σ2 H2 ⟨cell,turn,o4,o5,rfl,s2⟩;walk_at "rd";have k1:0<=7919*k*k/\7919*k*k<=7919000000:=by
    have z1:0<=7919*k:=by omega
    exact⟨Int.mul_nonneg z1 h0,Int.le_trans (Int.mul_le_mul_of_nonneg_left h1 z1) (by omega)⟩
  have m1:=xaq cell (show (618970019642690137449562111:Int)≠0 by decide);have m2:=xam cell (show (0:Int)<618970019642690137449562111 by decide);refine⟨by decide,.o (by decide) (by decide),.o (by omega) (by omega),.o (by omega) (by omega),.o (by omega) (by omega),.o (by omega) (by omega),.o (by decide) (by decide),by decide,⟨_,_,_,_,_,rfl,xaq _ (by decide),xam _ (by decide),s2⟩,?_⟩;rintro σ3 H3 ⟨c3,c4,c5,c6,n,rfl,n0,n1,s3⟩;walk_at "rd";have bn:Fit n:=.o (by omega) (by omega);refine⟨bn,bn,.o (by decide) (by decide),.o (by omega) (by omega),by decide,⟨_,_,_,_,_,rfl,xaq _ (by decide),xam _ (by decide),s3⟩,?_⟩;rintro σ4 H4 ⟨c3,c4,c5,c6,n,rfl,n0,n1,s4⟩;walk_at "rd";rw[e31'];have bn:Fit n:=.o (by omega) (by omega);have r1:=xaq (n*n) (show (618970019642690137449562111:Int)≠0 by decide);have r2:=xam (n*n) (show (0:Int)<618970019642690137449562111 by decide);exact⟨bn,bn,by decide,.o (by omega) (by omega),.o (by decide) (by decide),⟨by decide,by decide,by decide⟩,by decide,q _ _ s4 (xaq _ (by decide)) (xam _ (by decide))⟩
def az (c:Nat):Bool:=decide (97<=c/\c<=122)
def nm (x:Str):Bool:=decide (1<=x.cps.size/\x.cps.size<=8)&&x.cps.toList.all az
def AZ (x:Str):Prop:=∀c∈x.cps.toList,97<=c/\c<=122
def Lo (x:Str):Prop:=∀c∈x.cps.toList,c<128
def abc:Str:=Str.ofString "abcdefghijklmnopqrstuvwxyz"
theorem jmH {x:Str} (h:Lo x):Asc x:=by
 unfold Asc;rw[Array.all_eq_true];intro i hi;exact decide_eq_true (h _ (by simp))
theorem AZ.lo {x:Str} (h:AZ x):Lo x:=fun c hc=>by have:=h c hc;omega
theorem AZ.nm {x:Str} (h:AZ x):nm x=decide (1<=x.cps.size/\x.cps.size<=8):=by
 unfold My.nm;have e:x.cps.toList.all az=true:=xaS.mpr fun c hc=>decide_eq_true (h c hc);rw[e,Bool.and_true]
theorem jmI {x:Str} {c:Nat} (hc:c∈x.cps.toList) (h:az c=false):nm x=false:=by
 unfold nm;have e:x.cps.toList.all az=false:=List.all_eq_false.mpr ⟨c,hc,by rw[h];decide⟩;rw[e,Bool.and_false]
theorem jmJ {c:Nat} (h:abc.cps[i]?=some c):97<=c/\c<=122:=by
 have e:abc.cps.all az=true:=by decide +kernel
 rw[Array.all_eq_true] at e;obtain⟨hi,rfl⟩:=Array.getElem?_eq_some_iff.mp h;exact of_decide_eq_true (e i hi)
theorem jmK (c d:Nat):([c] < [d])=(c<d):=by
 simp [List.cons_lt_cons_iff]
theorem jiI {x:Str} (h0:0<=j) (h1:j<=x.cps.size):(∀c∈(Txt.slice x none (some j)).cps.toList,c∈x.cps.toList)/\(Txt.slice x none (some j)).cps.size<=x.cps.size:=by
 have e:Txt.slice x none (some j)=_:=StrLaws.sliceText_to (x:=x) (j:=j) ⟨h0,by rw[Array.length_toList];exact h1⟩;rw[e];refine⟨fun c hc=>?_,?_⟩
 ·exact xaQ (xaN hc)
 ·rw[xag,xak,xao,Array.length_toList];omega
theorem jg3 {x:Str} (h0:0<=j) (h1:j<=x.cps.size):(∀c∈(Txt.slice x (some j) none).cps.toList,c∈x.cps.toList)/\(Txt.slice x (some j) none).cps.size<=x.cps.size:=by
 have e:Txt.slice x (some j) none=_:=StrLaws.sliceText_from (x:=x) (i:=j) ⟨h0,by rw[Array.length_toList];exact h1⟩;rw[e];refine⟨fun c hc=>?_,?_⟩
 ·exact xaQ (xaN hc)
 ·rw[xag,xak,xao,Array.length_toList];omega
def jkh:Sp:=fun vs H Q _=>∃x:Str,vs=[.str x]/\Lo x/\x.cps.size<=900/\∀H',Same H H'->Q (.bl (nm x)) H'
theorem jli (T:Tx K mg t1 t2) (F:At K mg "is_name" jew ["text"] []):jaz P w K mg base CX0 1 "is_name" ["text"] [] jkh:=by
 refine F.ok je7 (fun vs H Q E h=>?_) (fun f cdv A outer s H vs Q E hr h=>?_)
 ·obtain⟨x,rfl,_⟩:=h;rfl
 obtain⟨x,rfl,hx,h9,q⟩:=h;have S:=je7;refine⟨_,(jac (jaK (PW.pt (jeN (jcm (jbz (jat jbi rfl T.m_isinstance boot_isinstance (jaa (pv 0) (jaa (jc6 (v:=.ty "str") rfl T.m_str boot_str rfl) jad jaf) jaf)))) (jdS (jcm (jjd jl4 jl4 jab (jat jgE rfl T.m_len PySem.boot_len (jaa (pv 0) jad jaf)) (jct rfl T.m_MOST_LETTERS T.r_MOST_LETTERS))))))
  (jae (jao jby))
  jap)
  (jae (jao (jat (jeQ rfl) rfl T.m_all boot_all (jaa (ja1 rfl (N':=["sign"]) (ix:=[]) (by walk_at "cs") (jmm (pv 0)) (fun _ _ _ _=>jaw (i:=0) (show (["sign"]:List Str).Nodup from by decide +kernel) rfl (Or.inl rfl)) (fun _ _ _ _=>ja2) (fun _ _ _ _=>(jjc jfX jfX jaY (pv 0) jaY))) jad je1))))),?_⟩
 walk_at "rf";refine⟨_,.str x,_,rfl,?_⟩;rw[if_neg (by decide)];refine⟨x.cps.size,⟨xaA (show x.length<=900 from h9) (by decide),rfl⟩,?_⟩;by_cases c1:1<=x.cps.size/\x.cps.size<=8
 ·rw[if_pos (by omega),if_pos (by omega)];refine⟨jmH hx,fun acc hacc=>?_⟩;refine compS (fun c=>.bl (az c)) (by omega) hacc ?_ ?_
  ·intro c H3 R hc s3 hR;walk_at "rf";have e1:(Str.ofString "a").cps.toList=[97]:=by decide +kernel
   have e2:(Str.ofString "z").cps.toList=[122]:=by decide +kernel
   rw[e1];simp only[e2,jmK,List.toList_toArray];have q:=hR H3 (Same.refl _);unfold az at q;by_cases c2:c<97
   ·rw[decide_eq_false (by omega)] at q;rw[if_pos c2];exact q
   ·rw[if_neg c2];rw[show (!decide (122<c))=decide (97<=c/\c<=122) from by by_cases z:122<c<;>simp [z]<;>omega];exact q
  ·intro H1 s1 e1;refine⟨x.cps.toList.map az,by rw[xbN];exact SqL.of e1,?_⟩;have q:=q H1 s1;unfold nm at q;rw[decide_eq_true c1,Bool.true_and] at q;rw[List.all_map];exact q
 ·have q:=q H (Same.refl _);unfold nm at q;rw[decide_eq_false c1,Bool.false_and] at q;by_cases c2:(1:Int)<=(x.cps.size:Int)
  ·rw[if_pos c2,if_neg (by omega)];exact q
  ·rw[if_neg c2];exact q
def jmL:Sp:=fun vs H Q _=>∃a b:Int,vs=[.int a,.int b]/\Q (.int (Int.gcd a b:Nat)) H
theorem jmM (T:Tx K mg t1 t2) (F:At K mg "_law_divisor" jb0 ["one","other"] []):jaz P w K mg base CX0 1 "_law_divisor" ["one","other"] [] jmL:=by
 refine F.ok jcM (fun vs H Q E h=>?_) (fun f cdv A outer s H vs Q E hr h=>?_)
 ·obtain⟨a,b,rfl,_⟩:=h;rfl
 obtain⟨a,b,rfl,q⟩:=h;have S:=jcM;refine⟨_,(jac (jal (i:=0) S.nd rfl (Or.inl rfl) (jat jbS rfl T.m_abs boot_abs (jaa (pv 0) jad jaf)))
  (jac (jal (i:=1) S.nd rfl (Or.inl rfl) (jat jbS rfl T.m_abs boot_abs (jaa (pv 1) jad jaf)))
  (jac (jfa PassesOwn.never (jam jeP (pv 1) jab (jas _))
  (jae (jl2 (i:=0) (j:=1) rfl S.nd rfl rfl (by decide) rfl rfl (jaa (pv 1) (jaa (jah jaE (pv 0) (pv 1)) jad jaR) jaf) rfl)))
  (jae (jao (pv 0)))))),?_⟩
 walk_at "rd";refine⟨fun n σ H2=>H2=H/\∃(x y:Int),σ=[some (.int x),some (.int y)]/\0<=x/\0<=y/\Int.gcd x y=Int.gcd a b/\n=y.toNat,⟨_,rfl,_,_,rfl,by split<;>omega,by split<;>omega,jiv a b,rfl⟩,?_⟩;rintro n σ H2 ⟨rfl,x,y,rfl,hx,hy,hgg,rfl⟩;walk_at "rd";by_cases c:0<y
 ·rw[if_pos c];refine⟨fun σ' H'=>σ'=[some (.int y),some (.int (x % y))]/\H'=H2,fun σ' H' ⟨h1,h2⟩=>?_,c,rfl,rfl⟩;have b1:=xaq x (show y≠0 by omega);have b2:=xam x c;exact⟨_,by omega,h2,y,x % y,h1,by omega,b1,(jgU x y hx).trans hgg,rfl⟩
 ·rw[if_neg c];have e:y=0:=by omega
  subst e;rw[<- hgg,Int.gcd_zero_right] at q;have e2:((x.natAbs:Nat):Int)=x:=by omega
  rw[e2] at q;exact q
theorem gcd4 (x y z w:Int):((Int.gcd (Int.gcd x y:Nat) (Int.gcd z w:Nat):Nat):Int)=gl [x,y,z,w]:=by
 have p1:((Int.gcd (Int.gcd x y:Nat) (Int.gcd z w:Nat):Nat):Int) ∣ (Int.gcd x y:Nat):=xbC ..;have p2:((Int.gcd (Int.gcd x y:Nat) (Int.gcd z w:Nat):Nat):Int) ∣ (Int.gcd z w:Nat):=xby ..;have d:((Int.gcd (Int.gcd x y:Nat) (Int.gcd z w:Nat):Nat):Int) ∣ gl [x,y,z,w]:=jf5 fun n hn=>by
  simp only[xad,xae,or_false] at hn;rcases hn with rfl | rfl | rfl | rfl
  ·exact xbs p1 (xbC ..)
  ·exact xbs p1 (xby ..)
  ·exact xbs p2 (xbC ..)
  ·exact xbs p2 (xby ..)
 have d':gl [x,y,z,w] ∣ ((Int.gcd (Int.gcd x y:Nat) (Int.gcd z w:Nat):Nat):Int):=xbI (xbI (ja4 (by simp)) (ja4 (by simp))) (xbI (ja4 (by simp)) (ja4 (by simp)));exact Int.dvd_antisymm (by omega) (jbK _) d d'
def Mk (σ:L2.St) (te:TE) (φ:V->Hp->Prop):Prop:=∀H R,(∀v H',Same H H'->φ v H'->R v H')->te σ H R
def MkA (σ:L2.St) (ta:TA) (φ:List V->Hp->Prop):Prop:=∀H R,(∀v H',Same H H'->φ v H'->R v H')->ta σ H R
inductive Prs (H:Hp):List Addr->List (Int × Int)->Prop
 | nil:Prs H [] []
 | cons {r:Addr} {p:Int × Int} {rs:List Addr} {ps:List (Int × Int)}:H r=some (.tup [.int p.1,.int p.2])->Prs H rs ps->Prs H (r::rs) (p::ps)
theorem Prs.len {ps:List (Int × Int)} (h:Prs H rs ps):rs.length=ps.length:=by
 induction h with
 | nil=>rfl
 | cons _ _ ih=>rw[xav,xav,ih]
theorem Prs.keep {ps:List (Int × Int)} (h:Prs H rs ps) (s:SameT H H'):Prs H' rs ps:=by
 induction h with
 | nil=>exact .nil
 | cons e _ ih=>exact .cons (s _ _ e) ih
def IsP (p:Int × Int) (v:V) (H:Hp):Prop:=∃r,v=.ref r/\H r=some (.tup [.int p.1,.int p.2])
def RowA (ps:List (Int × Int)) (vs:List V) (H:Hp):Prop:=∃rs:List Addr,vs=rs.map V.ref/\Prs H rs ps
def IsL (ps:List (Int × Int)) (v:V) (H:Hp):Prop:=∃(l:Addr) (rs:List Addr),v=.ref l/\H l=some (.lst (rs.map V.ref))/\Prs H rs ps
theorem IsL.keep {ps:List (Int × Int)} {v:V} (h:IsL ps v H) (s:Same H H'):IsL ps v H':=by
 obtain⟨l,rs,rfl,h1,h2⟩:=h;exact⟨l,rs,rfl,s _ _ h1,h2.keep s.t⟩
def MkI (σ:L2.St) (te:TE) (a:Int):Prop:=∀H R,R (.int a) H->te σ H R
variable {σ ρ:L2.St}
theorem jb4 :MkI σ (tC (.int a)) a:=fun _ _ h=>h
theorem ja5 {ta tb:TE} {b:Int} (ha:MkI σ ta a) (hb:MkI σ tb b):Mk σ (jkM (jfe ta (jfe tb jhs))) (IsP (a,b)):=fun H R q =>
 ha _ _ (hb _ _ ⟨xaI (jaL (show 2<1000 by decide)),fun p hp=>q _ _ (Same.new hp _) ⟨p,rfl,upd_same⟩⟩)
theorem jdx :MkA σ jhs (RowA []):=fun H R q=>q _ _ (fun _ _ z=>z) ⟨[],rfl,.nil⟩
variable {te:TE}
theorem jaJ {ta:TA} {p:Int × Int} {ps:List (Int × Int)} (h:Mk σ te (IsP p)) (k:MkA σ ta (RowA ps)):MkA σ (jfe te ta) (RowA (p::ps)):=fun H R q=>h H _ fun v H1 s1 ⟨r,e,hr⟩=>k H1 _ fun ws H2 s2 ⟨rs,e',hs⟩=>q _ _ (s1.trans s2) ⟨r::rs,by rw[e,e'];rfl,.cons (s2 _ _ hr) hs⟩
theorem jgb {ta:TA} {ps:List (Int × Int)} (k:MkA σ ta (RowA ps)) (hl:ps.length<1000):Mk σ (jkN ta) (IsL ps):=fun H R q=>k H _ fun vs H1 s1 ⟨rs,e,hs⟩=>by
 subst e;exact⟨xaI (jaL (by rw[xaa,hs.len];exact hl)),fun p hp=>q _ _ (s1.trans (Same.new hp _)) ⟨p,rs,rfl,upd_same,hs.keep (Same.new hp _).t⟩⟩
def L3 (K:PySem.W.Frag) (H:Hp) (a:Addr) (u:Tri):Prop:=SqL K H a [.int u.x,.int u.y,.int u.z]
def A3 (H:Hp) (a:Addr) (u:Tri):Prop:=H a=some (.lst [.int u.x,.int u.y,.int u.z])
theorem A3.l3 {K:PySem.W.Frag} {a:Addr} {u:Tri} (h:A3 H a u):L3 K H a u:=SqL.of h
def tc (u:Tri) (k:Nat):Int:=if k=0 then u.x else if k=1 then u.y else u.z
theorem at3 {u:Tri} {k:Nat} (h:k<3):atI [V.int u.x,V.int u.y,V.int u.z] (0+(k:Int))=some (V.int (tc u k)):=by
 obtain rfl | rfl | rfl:=lt3 h<;>rfl
def rfs (ps:List (Addr × Tri)):List V:=(ps.map Prod.fst).map V.ref
theorem jjH (ps:List (Addr × Tri)) (p:Addr × Tri):rfs ps++[.ref p.1]=rfs (ps++[p]):=by
 unfold rfs;simp
def Acc3 (f:Nat->Tri) (H1:Hp) (acc:Addr) (i:Nat) (xs:List V) (H:Hp):Prop:=Same H1 H/\H acc=some (.lst xs)/\∃ps:List (Addr × Tri),xs=rfs ps/\ps.length=i/\ps.map Prod.snd=(List.range i).map f/\∀p∈ps,A3 H p.1 p.2/\p.1≠acc
theorem Acc3.start {f:Nat->Tri} {acc:Addr} (h:H1 acc=none):Acc3 f H1 acc 0 [] (upd H1 acc (.lst [])):=⟨Same.new h _,upd_same,[],rfl,rfl,rfl,fun _ z=>nomatch z⟩
theorem Acc3.step {f:Nat->Tri} {H4:Hp} {acc:Addr} (ha:H1 acc=none) (h:Acc3 f H1 acc i xs H) (s4:Same H H4) (hr:H r=none) (e:A3 H4 r (f i)):H4 acc=some (.lst xs)/\Acc3 f H1 acc (i+1) (xs++[.ref r]) (upd H4 acc (.lst (xs++[.ref r]))):=by
 obtain⟨g1,g2,ps,rfl,hl,hm,hp⟩:=h;have ra:r≠acc:=Ne.symm (jau g2 hr);refine⟨s4 _ _ g2,Same.keepN (g1.trans s4) ha _,upd_same,ps++[(r,f i)],jjH ps (r,f i),by rw[xaf,hl];rfl,?_,fun p hp'=>?_⟩
 ·rw[xah,hm,xbr,xah];rfl
 ·rcases xax.mp hp' with h | h
  ·obtain⟨h1,h2⟩:=hp p h;exact⟨by unfold A3;rw[jar h2];exact s4 _ _ h1,h2⟩
  ·rw[xay.mp h];exact⟨by unfold A3;rw[jar ra];exact e,ra⟩
variable {Z:Hp->Prop}
theorem jlj {a:Addr} {zs:List V} {g:TG} {acc:Addr} (f:Nat->Tri) (hn:zs.length<1000) (hacc:H1 acc=none) (hz:SqL K H1 a zs)
  (hs:∀(i:Nat) (z:V) (v0:L2.St) (H3:Hp) (R:V->Hp->Prop),zs[i]?=some z->v0.length=n->Same H1 H3->(∀r H4,Same H3 H4->H3 r=none->A3 H4 r (f i)->R (.ref r) H4)->g z (v0++ρ) H3 fun σ2 H2=>(∃v:L2.St,v.length=n/\σ2=v++ρ)/\te σ2 H2 R)
  (hd:∀(ps:List (Addr × Tri)) H',Same H1 H'->H' acc=some (.lst (rfs ps))->ps.map Prod.snd=(List.range zs.length).map f->(∀p∈ps,A3 H' p.1 p.2)->Z H')
  (mono:∀z σ H (A B:L2.St->Hp->Prop),(∀σ' H',A σ' H'->B σ' H')->g z σ H A->g z σ H B):jdH (Itl K a) n ρ g jbR te acc Z H1:=by
 refine⟨fun i m xs H=>Acc3 f H1 acc i xs H/\i<=zs.length/\m=zs.length-i,⟨zs.length,.start hacc,xaT _,rfl⟩,?_⟩;rintro i m xs H ⟨A,hi,rfl⟩;have sq:=A.1.seq hz;have lx:xs.length=i:=by
  obtain⟨_,_,ps,rfl,hl,_⟩:=A;unfold rfs;rw[xaa,xaa,hl]
 by_cases hlt:i<zs.length
 ·have ez:zs[i]?=some zs[i]:=xab hlt;refine .inr ⟨⟨zs,zs[i],sq,ez⟩,(fun y H4=>∃r,y=.ref r/\Same H H4/\H r=none/\A3 H4 r (f i)),fun _=>False,?_,fun _ z=>z.elim,?_⟩
  ·rintro y H4 ⟨r,rfl,s4,nr,er⟩;obtain⟨h1,h2⟩:=A.step hacc s4 nr er;exact⟨h1,jaL (by omega),zs.length-(i+1),by omega,h2,hlt,rfl⟩
  ·rintro v0 x H' l0 ⟨rfl,hx⟩;have ex:x=zs[i]:=by
    have z:=hx zs sq;rw[ez] at z;exact (Option.some.inj z).symm
   subst ex;refine mono _ _ _ _ _ (fun σ' H'' h=>?_) (hs i _ v0 H' (fun y H4=>∃r,y=.ref r/\Same H' H4/\H' r=none/\A3 H4 r (f i)) ez l0 A.1 fun r H4 s4 nr er=>⟨r,rfl,s4,nr,er⟩);refine⟨h.1,?_⟩;simp only[jbR,if_true];exact h.2
 ·have:i=zs.length:=by omega
  subst this;obtain⟨g1,g2,ps,rfl,hl,hm,hp⟩:=A;exact .inl ⟨⟨zs,sq,xaj _⟩,hd ps H g1 g2 hm fun p h=>(hp p h).1⟩
structure Tyd (K:PySem.W.Frag) (mg:Str->Option Value) (t1 t2:Tok) (cs:Nat->Addr) (S Y:Addr):Prop extends Tx K mg t1 t2 where
 m_SightError:mg "SightError"=some (.ref S)
 m_NoName:mg "NoName"=some (.ref (cs 0))
 m_NoBoard:mg "NoBoard"=some (.ref (cs 1))
 m_TooMany:mg "TooMany"=some (.ref (cs 2))
 m_NoDeed:mg "NoDeed"=some (.ref (cs 3))
 x_NoName:Exc K (cs 0) "ValueError" "ValueError.__new__" "ValueError.__init__" [.type "ValueError",.type "Exception",.type "BaseException",.type "object"]
 x_NoBoard:Exc K (cs 1) "ValueError" "ValueError.__new__" "ValueError.__init__" [.type "ValueError",.type "Exception",.type "BaseException",.type "object"]
 x_TooMany:Exc K (cs 2) "ValueError" "ValueError.__new__" "ValueError.__init__" [.type "ValueError",.type "Exception",.type "BaseException",.type "object"]
 x_NoDeed:Exc K (cs 3) "ValueError" "ValueError.__new__" "ValueError.__init__" [.type "ValueError",.type "Exception",.type "BaseException",.type "object"]
 xc:∀i,i<4->XCls K (cs i)
 em:∀i,i<4->PySem.W.exmOne K (.ref (cs i)) (.ref S)=some true
 kt:∀i j,i<4->j<4->PySem.W.kitOne K (.ref (cs i)) (.ref (cs j))=some (decide (i=j))
 m_Yard:mg "Yard"=some (.ref Y)
 cl:Cls K Y
 nS:NoAttr K Y "standing"
 nP:NoAttr K Y "past"
 mkY:PySem.W.makesIn K Y=true
 kpY:PySem.W.keepIn K (.ref Y)=true
variable {cs:Nat->Addr}
theorem Tyd.r_NoName {S:Addr} (_:Tyd K mg t1 t2 cs S Y):RelV (.ref (cs 0)) (.ref (cs 0)):=rfl
theorem Tyd.r_NoBoard {S:Addr} (_:Tyd K mg t1 t2 cs S Y):RelV (.ref (cs 1)) (.ref (cs 1)):=rfl
theorem Tyd.r_TooMany {S:Addr} (_:Tyd K mg t1 t2 cs S Y):RelV (.ref (cs 2)) (.ref (cs 2)):=rfl
theorem Tyd.r_NoDeed {S:Addr} (_:Tyd K mg t1 t2 cs S Y):RelV (.ref (cs 3)) (.ref (cs 3)):=rfl
def axk (ps:List Pt):Int:=if jaG 0 (pt ps 0) (pt ps 1) (pt ps 2)≠0 then 0 else if jaG 1 (pt ps 0) (pt ps 1) (pt ps 2)≠0 then 1 else 2
structure GoodB (ps:List Pt):Prop where
 n3:3<=ps.length
 n8:ps.length<=8
 na:¬jgt (pt ps 0) (pt ps 1) (pt ps 2)
 flat:∀i,i<ps.length->hgt (jaG 0 (pt ps 0) (pt ps 1) (pt ps 2)) (-jaG 1 (pt ps 0) (pt ps 1) (pt ps 2)) (jaG 2 (pt ps 0) (pt ps 1) (pt ps 2)) (jaG 3 (pt ps 0) (pt ps 1) (pt ps 2)) (pt ps i)=0
 rnd:Rnd (axk ps) ps
def jg4 (C:Addr):Sp:=fun vs H Q E=>∃(l:Addr) (rs:List Addr) (ps:List Pt),vs=[.ref l]/\Cor H l rs ps/\(GoodB ps->∀(t:Addr) (H':Hp),Same H H'->H' t=some (.tup ((frm ps rs).map V.ref))->Q (.ref t) H')/\(¬GoodB ps->∀H':Hp,Same H H'->E (.ref C) none H')
theorem jjI {b x y w:Int} (h:pln [a,b,c,d]=[x,y,z,w]):(x=0->a=0)/\(y=0->b=0)/\(z=0->c=0):=by
 have ea:=xat (ja4 (ns:=[a,b,c,d]) (n:=a) (by simp));have eb:=xat (ja4 (ns:=[a,b,c,d]) (n:=b) (by simp));have ec:=xat (ja4 (ns:=[a,b,c,d]) (n:=c) (by simp));have el:low [a,b,c,d]=[a / gl [a,b,c,d],b / gl [a,b,c,d],c / gl [a,b,c,d],d / gl [a,b,c,d]]:=rfl;unfold pln at h;rw[el] at h;generalize gl [a,b,c,d]=g at ea eb ec h;generalize a / g=x' at ea h;generalize b / g=y' at eb h;generalize c / g=z' at ec h;generalize d / g=w' at h;have h:(if plb x' y' z'=true then [x',y',z',w'] else [-x',-y',-z',-w'])=[x,y,z,w]:=h;have k:(x=0->x'=0)/\(y=0->y'=0)/\(z=0->z'=0):=by
  split at h
  ·cases h;exact⟨id,id,id⟩
  ·cases h;exact⟨fun q=>by omega,fun q=>by omega,fun q=>by omega⟩
 refine⟨fun q=>?_,fun q=>?_,fun q=>?_⟩
 ·rw[<- ea,k.1 q,xa0]
 ·rw[<- eb,k.2.1 q,xa0]
 ·rw[<- ec,k.2.2 q,xa0]
theorem jmN {x y v:Int} (ep:pln [jaG 0 (pt ps 0) (pt ps 1) (pt ps 2),-jaG 1 (pt ps 0) (pt ps 1) (pt ps 2),jaG 2 (pt ps 0) (pt ps 1) (pt ps 2),jaG 3 (pt ps 0) (pt ps 1) (pt ps 2)]=[x,y,z,v])
  (hk:(k=0/\x≠0)\/(k=1/\x=0/\y≠0)\/(k=2/\x=0/\y=0/\z≠0)):k=axk ps:=by
 obtain⟨nx,ny,nz⟩:=jmF ep;obtain⟨zx,zy,zz⟩:=jjI ep;unfold axk;rcases hk with ⟨rfl,h⟩ | ⟨rfl,h0,h⟩ | ⟨rfl,h0,h1,h⟩
 ·rw[if_pos (nx h)]
 ·rw[if_neg (by intro q;exact q (zx h0)),if_pos (by intro e;exact ny h (by omega))]
 ·have:=zy h1;rw[if_neg (by intro q;exact q (zx h0)),if_neg (by omega)]
theorem jiJ (T:Tyd K mg t1 t2 cs SE Y) (F:At K mg "made_board" jcz ["corners"] []) (Dm:jaz P w K mg base CX0 4 "in_line" ["one","other","third"] [] jkb) (dG:jaz P w K mg base CX0 5 "plane_through" ["one","other","third"] [] jf9) (Do:jaz P w K mg base CX0 2 "side_of" ["plane","spot"] [] jkc) (Db:jaz P w K mg base CX0 1 "flat_axis" ["plane"] [] jkd) (Df:jaz P w K mg base CX0 5 "is_convex" ["corners","axis"] [] jkg) (Dq:jaz P w K mg base CX0 2 "formed" ["corners"] [] jgY):jaz P w K mg base (XOk P w) 6 "made_board" ["corners"] [] (jg4 (cs 1)):=by
 refine F.okX jdo (fun vs H Q E h=>?_) (fun f cdv A outer s H vs Q E hr h=>?_)
 ·obtain⟨l,rs,ps,rfl,_⟩:=h;rfl
 obtain⟨l,rs,ps,rfl,hc,q,qb⟩:=h;have S:=jdo;refine⟨_,(jac (jaK (PW.pt (jeN (jam jkH (jat jaB rfl T.m_len PySem.boot_len (jaa (pv 0) jad jaf)) jab (jas _)) (jdS (jam jeP (jat jaB rfl T.m_len PySem.boot_len (jaa (pv 0) jad jaf)) (jct rfl T.m_MOST_CORNERS T.r_MOST_CORNERS) (jas _)))))
  (jae (jbC rfl rfl T.m_NoBoard T.x_NoBoard (jaa jaY jad jan) jb7))
  jap)
  (jac (jaK (jbz (jaj Dm hr.m rfl jaF (jaa (jai jak (pv 0) jab) (jaa (jai jak (pv 0) jab) (jaa (jai jak (pv 0) jab) jad jaA) jaA) jaA)))
  (jae (jbC rfl rfl T.m_NoBoard T.x_NoBoard (jaa jaY jad jan) jb7))
  jap)
  (jac (jal (i:=1) S.nd rfl (Or.inl rfl) (jaj dG hr.m rfl jaF (jaa (jai jak (pv 0) jab) (jaa (jai jak (pv 0) jab) (jaa (jai jak (pv 0) jab) jad jaA) jaA) jaA)))
  (jac (jbA PassesOwn.leaving rfl (jbV (pv 0)) (jaw (i:=2) S.nd rfl (Or.inl rfl))
  (jae (jaK (jam jeO (jaj Do hr.m rfl jaF (jaa (pv 1) (jaa (pv 2) jad jaf) jaf)) jab (jas _))
  (jae (jbC rfl rfl T.m_NoBoard T.x_NoBoard (jaa jaY jad jan) jb7))
  jap)))
  (jac (jaK (jcm (jbz (jaj Df hr.m rfl jaF (jaa (pv 0) (jaa (jaj Db hr.m rfl jaF (jaa (pv 1) jad jaf)) jad jaO) jaf))))
  (jae (jbC rfl rfl T.m_NoBoard T.x_NoBoard (jaa jaY jad jan) jb7))
  jap)
  (jae (jao (jaj Dq hr.m rfl jaF (jaa (pv 0) jad jaf))))))))),?_⟩
 have ln:=hc.2.len;have lm:(rs.map V.ref).length=ps.length:=by rw[xaa,ln]
 have kl:SqL K H l (rs.map V.ref):=SqL.of hc.1;try walk_at "rf"
 refine⟨_,.inl kl,?_⟩;rw[lm];refine jb2 (fun c1=>⟨by decide,qb (fun B=>by have:=B.n3;omega) _ (Same.refl _)⟩) fun c1=>?_;refine⟨_,.inl kl,?_⟩;rw[lm];refine jb2 (fun c2=>⟨by decide,qb (fun B=>by have:=B.n8;omega) _ (Same.refl _)⟩) fun c2=>?_;have n3:3<=ps.length:=by omega
 have n8:ps.length<=8:=by omega
 obtain⟨a1,a2⟩:=hc.2.get (i:=0) (by omega);obtain⟨a3,a4⟩:=hc.2.get (i:=1) (by omega);obtain⟨a5,a6⟩:=hc.2.get (i:=2) (by omega);obtain⟨m0,m1,m2,m3⟩:=jg0 a2.2 a4.2 a6.2;refine ixL kl (jaM (j:=0) a1) (ixL kl (jaM (j:=1) a3) (ixL kl (jaM (j:=2) a5) ?_));refine⟨_,_,_,_,_,_,rfl,a2,a4,a6,fun H1 s1=>⟨_,rfl,jb2 (fun cl=>⟨by decide,qb (fun B=>B.na (by have z:=cl;unfold inl at z;have y:=of_decide_eq_true z;exact y)) _ s1⟩) fun cl=>?_⟩⟩;have na:¬jgt (pt ps 0) (pt ps 1) (pt ps 2):=fun z=>cl (decide_eq_true z);obtain⟨x,y,z,v,ep,sx,sy,sz,sv,g1',pb,hz⟩:=jiF (a:=jaG 0 (pt ps 0) (pt ps 1) (pt ps 2)) (b:=-jaG 1 (pt ps 0) (pt ps 1) (pt ps 2)) (c:=jaG 2 (pt ps 0) (pt ps 1) (pt ps 2)) (d:=jaG 3 (pt ps 0) (pt ps 1) (pt ps 2)) (fun z=>na ⟨z.1,by omega,z.2.2⟩) m0 m1.neg m2 m3;have er:rgh (pt ps 0) (pt ps 1) (pt ps 2)=[jaG 0 (pt ps 0) (pt ps 1) (pt ps 2),-jaG 1 (pt ps 0) (pt ps 1) (pt ps 2),jaG 2 (pt ps 0) (pt ps 1) (pt ps 2),jaG 3 (pt ps 0) (pt ps 1) (pt ps 2)]:=rfl;have kl1:=s1.seq kl;refine ixL kl1 (jaM (j:=0) a1) (ixL kl1 (jaM (j:=1) a3) (ixL kl1 (jaM (j:=2) a5) ?_));refine⟨_,_,_,_,_,_,rfl,a2.keep s1,a4.keep s1,a6.keep s1,na,fun g H2 s2 e2=>?_⟩;rw[er,ep] at e2;have s12:=s1.trans s2;have kl2:=s12.seq kl;refine⟨⟨_,kl2⟩,?_⟩;refine jfb (K:=K) (a:=l) (xs:=rs.map V.ref) (fun i σ H3=>H3=H2/\(∀i',i'<i->hgt (jaG 0 (pt ps 0) (pt ps 1) (pt ps 2)) (-jaG 1 (pt ps 0) (pt ps 1) (pt ps 2)) (jaG 2 (pt ps 0) (pt ps 1) (pt ps 2)) (jaG 3 (pt ps 0) (pt ps 1) (pt ps 2)) (pt ps i')=0)/\∃o2:Option V,σ=[some (.ref l),some (.ref g),o2]) ⟨rfl,fun i' h=>absurd h (Nat.not_lt_zero _),none,rfl⟩ (fun i σ H3 _ ⟨h,_⟩=>by rw[h];exact kl2) ?_ ?_
 ·rintro i r σ H3 hi ⟨rfl,al,o2,rfl⟩;have hlt:i<ps.length:=by
   have:=(xan.mp hi).1;omega
  obtain⟨b1,b2⟩:=(hc.2.keep s12.t).get hlt;rw[b1] at hi;cases hi;try walk_at "rf"
  refine⟨g,_,x,y,z,v,_,rfl,e2,sx,sy,sz,sv,b2,?_⟩;try walk_at "rf"
  refine jb2 (fun c0=>?_) fun c0=>⟨by decide,qb (fun B=>c0 (by rw[hz _ (B.flat i hlt)];exact sgn0)) _ s12⟩;refine⟨fun i' hi'=>?_,_,rfl⟩;by_cases ci:i'<i
  ·exact al i' ci
  ·have ei:i'=i:=by omega
   rw[ei];exact jjF ep (jg1 c0)
 ·rintro σ H3 ⟨rfl,al,o2,rfl⟩;try walk_at "rf"
  refine⟨g,x,y,z,v,rfl,e2,jmG pb,fun k hk=>?_⟩;have ek:=jmN ep hk;have kk:0<=k/\k<=2:=by
   rcases hk with ⟨rfl,h⟩ | ⟨rfl,_,h⟩ | ⟨rfl,_,_,h⟩<;>exact⟨by decide,by decide⟩
  have fl:∀i,i<ps.length->hgt (jaG 0 (pt ps 0) (pt ps 1) (pt ps 2)) (-jaG 1 (pt ps 0) (pt ps 1) (pt ps 2)) (jaG 2 (pt ps 0) (pt ps 1) (pt ps 2)) (jaG 3 (pt ps 0) (pt ps 1) (pt ps 2)) (pt ps i)=0:=fun i hi=>al i (by rw[lm];exact hi);refine⟨l,k,rs,ps,rfl,hc.keep s12,n3,n8,kk.1,kk.2,?_⟩;by_cases cr:Rnd k ps
  ·refine .inl ⟨cr,fun H4 s4=>?_⟩;have B:GoodB ps:=⟨n3,n8,na,fl,ek▸cr⟩;try walk_at "rf"
   refine⟨l,rs,ps,rfl,hc.keep (s12.trans s4),n3,n8,fun t H5 s5 e5=>?_⟩;exact q B t H5 (s12.trans (s4.trans s5)) e5
  ·refine .inr ⟨cr,fun H4 s4=>?_⟩;try walk_at "rf"
   exact⟨by decide,qb (fun B=>cr (ek▸B.rnd)) _ (s12.trans s4)⟩
def rm (M:List Addr) (H:Hp):Hp:=fun a=>if a∈M then none else H a
theorem jaD {a:Addr} {o:HO} (h:rm M H a=some o):H a=some o/\a∉M:=by
 unfold rm at h;split at h
 ·cases h
 ·exact⟨h,by assumption⟩
theorem jcs {a:Addr} {o:HO} (h:H a=some o) (n:a∉M):rm M H a=some o:=by
 unfold rm;rw[if_neg n];exact h
theorem jbB (M:List Addr) (H:Hp):Same (rm M H) H:=fun _ _ h=>(jaD h).1
theorem jaX (s:Same H H'):Same (rm M H) (rm M H'):=fun _ _ h=>jcs (s _ _ (jaD h).1) (jaD h).2
def SX (S:List Addr) (H H':Hp):Prop:=∀b o,b∉S->H b=some o->H' b=some o
theorem SX.rm (s:SX S H H') (h:∀a∈S,a∈M):Same (rm M H) (rm M H'):=fun b o q=>jcs (s b o (fun z=>(jaD q).2 (h _ z)) (jaD q).1) (jaD q).2
theorem SX.refl (S:List Addr) (H:Hp):SX S H H:=fun _ _ _ h=>h
theorem SX.trans {J:Hp} (s:SX S H H') (t:SX S H' J):SX S H J:=fun b o n h=>t b o n (s b o n h)
theorem Same.x (s:Same H H') (S:List Addr):SX S H H':=fun b o _ h=>s b o h
inductive All2 {α β:Type} (R:α->β->Prop):List α->List β->Prop
 | nil:All2 R [] []
 | cons {a:α} {b:β} {as:List α} {bs:List β} (h:R a b) (t:All2 R as bs):All2 R (a::as) (b::bs)
section
variable {α β:Type} {R R':α->β->Prop}
theorem All2.len {as:List α} {bs:List β} (h:All2 R as bs):as.length=bs.length:=by
 induction h with
 | nil=>rfl
 | cons _ _ ih=>rw[xav,xav,ih]
theorem All2.mono {as:List α} {bs:List β} (h:All2 R as bs) (f:∀a b,R a b->R' a b):All2 R' as bs:=by
 induction h with
 | nil=>exact .nil
 | cons h _ ih=>exact .cons (f _ _ h) ih
theorem All2.app {as as':List α} {bs bs':List β} (h:All2 R as bs) (h':All2 R as' bs'):All2 R (as++as') (bs++bs'):=by
 induction h with
 | nil=>exact h'
 | cons h _ ih=>exact .cons h ih
theorem All2.get {as:List α} {bs:List β} (h:All2 R as bs):∀{i:Nat} {b:β},bs[i]?=some b->∃a,as[i]?=some a/\R a b:=by
  induction h with
  | nil=>intro i b e;cases e
  | cons h _ ih =>
    intro i b e;cases i with
    | zero=>cases e;exact⟨_,rfl,h⟩
    | succ i=>exact ih e
theorem All2.getA {as:List α} {bs:List β} (h:All2 R as bs):∀{i:Nat} {a:α},as[i]?=some a->∃b,bs[i]?=some b/\R a b:=by
  induction h with
  | nil=>intro i b e;cases e
  | cons h _ ih =>
    intro i b e;cases i with
    | zero=>cases e;exact⟨_,rfl,h⟩
    | succ i=>exact ih e
theorem All2.take {as:List α} {bs:List β} (h:All2 R as bs):∀n,All2 R (as.take n) (bs.take n):=by
  induction h with
  | nil=>intro n;rw[xbF,xbF];exact .nil
  | cons h _ ih =>
    intro n;cases n with
    | zero=>exact .nil
    | succ n=>exact .cons h (ih n)
theorem All2.drop {as:List α} {bs:List β} (h:All2 R as bs):∀n,All2 R (as.drop n) (bs.drop n):=by
  induction h with
  | nil=>intro n;rw[xbR,xbR];exact .nil
  | cons h t ih =>
    intro n;cases n with
    | zero=>exact .cons h t
    | succ n=>exact ih n
end
theorem jiK {α β:Type} {R:α->β->Prop}:∀{as:List α} {bs:List β},as.length=bs.length->(∀(i:Nat) (a:α),as[i]?=some a->∃b,bs[i]?=some b/\R a b)->All2 R as bs
  | [],[],_,_=>.nil
  | a :: as, b :: bs, hl, h => by
    refine .cons ?_ (jiK (Nat.succ.inj hl) fun i a' e=>h (i+1) a' e);obtain⟨b',e,r⟩:=h 0 a rfl;cases e;exact r
  | [],_::_,hl,_=>nomatch hl
  | _::_,[],hl,_=>nomatch hl
def BoAt (H:Hp) (t:Addr) (b:List Pt):Prop:=∃rs,H t=some (.tup (rs.map V.ref))/\Sps H rs b
theorem BoAt.keep {t:Addr} {b:List Pt} (h:BoAt H t b) (s:Same H H'):BoAt H' t b:=by
 obtain⟨rs,e,q⟩:=h;exact⟨rs,s _ _ e,q.keep s.t⟩
def ItAt (H:Hp) (r:Addr) (it:Str × List Pt):Prop:=(∃t,H r=some (.tup [.str it.1,.ref t])/\BoAt H t it.2)/\Lo it.1
theorem ItAt.keep {it:Str × List Pt} (h:ItAt H r it) (s:Same H H'):ItAt H' r it:=by
 obtain⟨⟨t,e,q⟩,l⟩:=h;exact⟨⟨t,s _ _ e,q.keep s⟩,l⟩
def StAt (H:Hp) (l:Addr) (st:List (Str × List Pt)):Prop:=∃rs,H l=some (.lst (rs.map V.ref))/\All2 (ItAt H) rs st
theorem StAt.keep {l:Addr} {st:List (Str × List Pt)} (h:StAt H l st) (s:Same H H'):StAt H' l st:=by
 obtain⟨rs,e,q⟩:=h;exact⟨rs,s _ _ e,q.mono fun _ _ h=>h.keep s⟩
theorem kSP:¬(("past":Str)="standing"):=by decide +kernel
def jeT (sL pL:Addr):List (Str × V):=[("standing",.ref sL),("past",.ref pL)]
theorem jeD (sL pL:Addr):(jeT sL pL).lookup ("standing":Str)=some (.ref sL):=by
 unfold jeT;rw[xaw];simp
theorem jg5 (sL pL:Addr):(jeT sL pL).lookup ("past":Str)=some (.ref pL):=by
 have e:(("past":Str)=="standing")=false:=by decide +kernel
 unfold jeT;rw[xaw,e,xaw];simp
theorem jbj {sL:Addr} {m:Str} (h1:(m==("standing":Str))=false) (h2:(m==("past":Str))=false):(jeT sL pL).lookup m=none:=by
 unfold jeT;rw[xaw,h1,xaw,h2];rfl
theorem jg6 (sL pL sN:Addr):jeM "standing" (.ref sN) (jeT sL pL)=jeT sN pL:=by
 show (if ("standing":Str)="standing" then _ else _)=_;rw[if_pos rfl];rfl
theorem jlk (sL pL:Addr):jeM "past" (.ref pL) (jeM "standing" (.ref sL) [])=jeT sL pL:=by
 show (if ("standing":Str)="past" then _ else _)=_;rw[if_neg (fun z=>kSP z.symm)];rfl
def Mut (H:Hp) (m:Addr):Prop:=∃o,H m=some o/\∀xs,o≠.tup xs
theorem Mut.keep {m:Addr} (h:Mut H m) (s:Same H H'):Mut H' m:=by
 obtain⟨o,e,n⟩:=h;exact⟨o,s _ _ e,n⟩
theorem Mut.nn {m:Addr} (h:Mut H m):H m≠none:=by
 obtain⟨o,e,_⟩:=h;rw[e];exact fun z=>nomatch z
theorem Mut.ls {m:Addr} (h:H m=some (.lst xs)):Mut H m:=⟨_,h,fun _ z=>nomatch z⟩
theorem Mut.is {m dx:Addr} {fs:List (Str × V)} (h:H m=some (.ins Y dx fs)):Mut H m:=⟨_,h,fun _ z=>nomatch z⟩
theorem Mut.up {m p:Addr} {o:HO} (h:Mut H m) (n:∀xs,o≠.tup xs):Mut (upd H p o) m:=by
 by_cases c:m=p
 ·rw[c];exact⟨o,upd_same,n⟩
 ·obtain⟨o',e,n'⟩:=h;exact⟨o',by rw[jar c];exact e,n'⟩
structure YardAt (Y:Addr) (M:List Addr) (H:Hp) (y pL:Addr) (st:List (Str × List Pt)) (past:List (List (Str × List Pt))):Prop where
 yM:y∈M
 pM:pL∈M
 mu:∀m∈M,Mut H m
 ob:∃dx sL ss,H y=some (.ins Y dx (jeT sL pL))/\H pL=some (.lst (ss.map V.ref))/\StAt (rm M H) sL st/\All2 (StAt (rm M H)) ss past
theorem YardAt.al {st:List (Str × List Pt)} {past:List (List (Str × List Pt))} (h:YardAt Y M H y pL st past):∀m∈M,H m≠none:=fun m hm=>(h.mu m hm).nn
theorem YardAt.ne {st:List (Str × List Pt)} {past:List (List (Str × List Pt))} (h:YardAt Y M H y pL st past):y≠pL:=by
 obtain⟨dx,sL,ss,h1,h2,_⟩:=h.ob;exact ne_of h1 h2 (by intro z;cases z)
theorem YardAt.keep {st:List (Str × List Pt)} {past:List (List (Str × List Pt))} (h:YardAt Y M H y pL st past) (s:Same H H'):YardAt Y M H' y pL st past:=by
 obtain⟨dx,sL,ss,h1,h2,h3,h4⟩:=h.ob;exact⟨h.yM,h.pM,fun m hm=>(h.mu m hm).keep s,dx,sL,ss,s _ _ h1,s _ _ h2,h3.keep (jaX s),h4.mono fun _ _ q=>q.keep (jaX s)⟩
theorem YardAt.off {st:List (Str × List Pt)} {past:List (List (Str × List Pt))} (h:YardAt Y M H y pL st past) (s:SX S H H') (hS:∀a∈S,a∈M) (al:∀m∈M,Mut H' m) (n1:y∉S) (n2:pL∉S):YardAt Y M H' y pL st past:=by
 obtain⟨dx,sL,ss,h1,h2,h3,h4⟩:=h.ob;exact⟨h.yM,h.pM,al,dx,sL,ss,s _ _ n1 h1,s _ _ n2 h2,h3.keep (s.rm hS),h4.mono fun _ _ q=>q.keep (s.rm hS)⟩
theorem YardAt.more {M':List Addr} {st:List (Str × List Pt)} {past:List (List (Str × List Pt))} (h:YardAt Y M H y pL st past) (hM:∀m∈M,m∈M') (al:∀m∈M',Mut H m) (s:Same (rm M H) (rm M' H)):YardAt Y M' H y pL st past:=by
 obtain⟨dx,sL,ss,h1,h2,h3,h4⟩:=h.ob;exact⟨hM _ h.yM,hM _ h.pM,al,dx,sL,ss,h1,h2,h3.keep s,h4.mono fun _ _ q=>q.keep s⟩
def nmL (st:List (Str × List Pt)):List Str:=st.map (·.1)
def stV (st:List (Str × List Pt)):List V:=(nmL st).map V.str
def jeE (Y:Addr):Sp:=fun vs H Q _=>∃(y dx sL pL:Addr) (st:List (Str × List Pt)),vs=[.ref y]/\H y=some (.ins Y dx (jeT sL pL))/\StAt H sL st/\st.length<=900/\∀(l:Addr) (H':Hp),H l=none->Same H H'->H' l=some (.lst (stV st))->Q (.ref l) H'
def jft (Y:Addr):Sp:=fun vs H Q _=>∃(y dx sL pL:Addr) (st:List (Str × List Pt)),vs=[.ref y]/\H y=some (.ins Y dx (jeT sL pL))/\StAt H sL st/\st.length<=900/\∀(l:Addr) (ts:List Addr) (H':Hp),H l=none->Same H H'->H' l=some (.lst (ts.map V.ref))->All2 (BoAt H') ts (st.map (·.2))->Q (.ref l) H'
def jgu (Y:Addr):Sp:=fun vs H Q _=>∃(y pL dx sL:Addr) (ss:List Addr),vs=[.ref y]/\H y=some (.ins Y dx (jeT sL pL))/\H pL=some (.lst (ss.map V.ref))/\Q (.int (ss.length:Nat)) H
def jiL (Y:Addr):Sp:=fun vs H Q _=>∃(y dx:Addr),vs=[.ref y]/\H y=some (.ins Y dx [])/\∀(sL pL:Addr) (H':Hp),H sL=none->H pL=none->sL≠pL->SX [y] H H'->H' y=some (.ins Y dx (jeT sL pL))->H' sL=some (.lst [])->H' pL=some (.lst [])->Q .non H'
theorem jiM {a:Addr} {zs:List V} {g:TG} {acc:Addr} (f:Nat->V) (hn:zs.length<1000) (hacc:H1 acc=none) (hz:SqL K H1 a zs)
  (hs:∀(i:Nat) (z:V) (v0:L2.St) (H3:Hp) (R:V->Hp->Prop),zs[i]?=some z->v0.length=n->Same H1 H3->(∀H4,Same H3 H4->R (f i) H4)->g z (v0++ρ) H3 fun σ2 H2=>(∃v:L2.St,v.length=n/\σ2=v++ρ)/\te σ2 H2 R)
  (hd:∀H',Same H1 H'->H' acc=some (.lst ((List.range zs.length).map f))->Z H')
  (mono:∀z σ H (A B:L2.St->Hp->Prop),(∀σ' H',A σ' H'->B σ' H')->g z σ H A->g z σ H B):jdH (Itl K a) n ρ g jbR te acc Z H1:=by
 refine⟨fun i m xs H=>(Same H1 H/\H acc=some (.lst xs)/\xs=(List.range i).map f)/\i<=zs.length/\m=zs.length-i,⟨zs.length,⟨Same.new hacc _,upd_same,rfl⟩,xaT _,rfl⟩,?_⟩;rintro i m xs H ⟨⟨g1,g2,rfl⟩,hi,rfl⟩;have sq:=g1.seq hz;by_cases hlt:i<zs.length
 ·have ez:zs[i]?=some zs[i]:=xab hlt;refine .inr ⟨⟨zs,zs[i],sq,ez⟩,(fun y H4=>y=f i/\Same H1 H4/\H4 acc=some (.lst ((List.range i).map f))),fun _=>False,?_,fun _ z=>z.elim,?_⟩
  ·rintro y H4 ⟨rfl,s4,a4⟩;refine⟨a4,jaL (by simp;omega),zs.length-(i+1),by omega,⟨Same.keepN s4 hacc _,upd_same,?_⟩,hlt,rfl⟩;rw[xbr,xah];rfl
  ·rintro v0 x H' l0 ⟨rfl,hx⟩;have ex:x=zs[i]:=by
    have z:=hx zs sq;rw[ez] at z;exact (Option.some.inj z).symm
   subst ex;refine mono _ _ _ _ _ (fun σ' H'' h=>?_) (hs i _ v0 H' (fun y H4=>y=f i/\Same H1 H4/\H4 acc=some (.lst ((List.range i).map f))) ez l0 g1 fun H4 s4=>⟨rfl,g1.trans s4,s4 _ _ g2⟩);refine⟨h.1,?_⟩;simp only[jbR,if_true];exact h.2
 ·have e:i=zs.length:=by omega
  subst e;exact .inl ⟨⟨zs,sq,xaj _⟩,hd _ g1 g2⟩
theorem jeF {α β:Type} (f:α->β) (l:List α) (g:Nat->β) (h:∀i a,l[i]?=some a->g i=f a):(List.range l.length).map g=l.map f:=by
 apply List.ext_getElem?;intro i;rw[xai,xai];by_cases c:i<l.length
 ·rw[List.getElem?_range c,xab c];show some (g i)=some (f l[i]);rw[h i l[i] (xab c)]
 ·rw[xbd (by simp;omega),xbd (by omega)];rfl
theorem jgv {j:Nat}:∀(z:V) (σ:L2.St) (H:Hp) (A B:L2.St->Hp->Prop),(∀σ' H',A σ' H'->B σ' H')->jjX K 2 (je9 (jbw i) (je9 (jbw j) jkD)) z σ H A->jjX K 2 (je9 (jbw i) (je9 (jbw j) jkD)) z σ H B:=by
 intro z σ H A B hAB h;obtain⟨p,xs,h1,h2,h3,h4⟩:=h;refine⟨p,xs,h1,h2,h3,?_⟩;obtain⟨v,r,e1,v',r',e2,e3,h5⟩:=h4;exact⟨v,r,e1,v',r',e2,e3,hAB _ _ h5⟩
theorem jll {v0:L2.St} (h:v0.length=2):∃a b,v0=[a,b]:=match v0,h with | [a,b],_=>⟨a,b,rfl⟩
theorem jjJ (T:Tyd K mg t1 t2 cs SE Y) (F:AtM K Y "names" "Yard.names" jcA ["self"]):jaW P w K mg base CX0 1 Y "names" ["self"] (jeE Y):=by
 refine F.ok jdp (fun vs H Q E h=>?_) (fun f cdv A outer s H vs Q E hr h=>?_)
 ·obtain⟨y,dx,sL,pL,st,rfl,_⟩:=h;rfl
 obtain⟨y,dx,sL,pL,st,rfl,hy,⟨rs,hs,ha⟩,hn,q⟩:=h;have S:=jdp;refine⟨_,(jae (jao (jf2 rfl (N':=["name","board"]) (ix:=[]) (xs0:=["name","board"]) (by walk_at "cs") (jbV (jcw (pv 0) rfl)) (fun _ _ _ _=>jgo (K:=K) (n:=2) rfl rfl (ja0 (jaw (i:=0) (show (["name","board"]:List Str).Nodup from by decide +kernel) rfl (Or.inl rfl)) (ja0 (jaw (i:=1) (show (["name","board"]:List Str).Nodup from by decide +kernel) rfl (Or.inl rfl)) jcu))) (fun _ _ _ _=>ja2) (fun _ _ _ _=>(pv 0))))),?_⟩;walk_at "rf";refine⟨_,rfl,y,Y,dx,_,_,rfl,hy,T.cl,T.nS,jeD _ _,sL,rfl,⟨_,SqL.of hs⟩,fun acc hacc=>?_⟩;have ln:=ha.len;refine jiM (fun i=>V.str ((nmL st).getD i "")) (by rw[xaa];omega) hacc (SqL.of hs) (fun i z v0 H3 R hz l0 s3 hR=>?_) (fun H3 s3 e3=>?_) jgv
 ·rw[xai] at hz;obtain⟨r,hr1,rfl⟩:=xa5.mp hz;obtain⟨it,hi,⟨t,e1,e2⟩,_⟩:=ha.getA hr1;obtain⟨v1,v2,rfl⟩:=jll l0;have en:(nmL st).getD i ""=it.1:=by
   unfold nmL;rw[xac,xai,hi];rfl
  refine⟨_,_,rfl,SqT.of (s3 _ _ e1),rfl,_,_,rfl,_,_,rfl,rfl,⟨[_,_],rfl,rfl⟩,_,rfl,?_⟩;have z:=hR H3 (Same.refl _);rw[en] at z;exact z
 ·refine q acc H3 hacc s3 ?_;rw[e3,xaa,ln];have z:=jeF (fun it:Str × List Pt=>V.str it.1) st (fun i=>V.str ((nmL st).getD i "")) fun i a h=>by
   unfold nmL;rw[xac,xai,h];rfl
  rw[z];unfold stV nmL;rw[xbN];rfl
theorem jiN (T:Tyd K mg t1 t2 cs SE Y) (F:AtM K Y "boards" "Yard.boards" jcd ["self"]):jaW P w K mg base CX0 1 Y "boards" ["self"] (jft Y):=by
  refine F.ok jcX (fun vs H Q E h=>?_) (fun f cdv A outer s H vs Q E hr h=>?_)
  . obtain⟨y,dx,sL,pL,st,rfl,_⟩:=h
    rfl
  obtain⟨y,dx,sL,pL,st,rfl,hy,⟨rs,hs,ha⟩,hn,q⟩:=h;have S:=jcX;refine⟨_,(jae (jao (jf2 rfl (N':=["name","board"]) (ix:=[]) (xs0:=["name","board"]) (by walk_at "cs") (jbV (jcw (pv 0) rfl)) (fun _ _ _ _=>jgo (K:=K) (n:=2) rfl rfl (ja0 (jaw (i:=0) (show (["name","board"]:List Str).Nodup from by decide +kernel) rfl (Or.inl rfl)) (ja0 (jaw (i:=1) (show (["name","board"]:List Str).Nodup from by decide +kernel) rfl (Or.inl rfl)) jcu))) (fun _ _ _ _=>ja2) (fun _ _ _ _=>(pv 1))))),?_⟩;walk_at "rf";refine⟨_,rfl,y,Y,dx,_,_,rfl,hy,T.cl,T.nS,jeD _ _,sL,rfl,⟨_,SqL.of hs⟩,fun acc hacc=>?_⟩;have ln:=ha.len;obtain⟨ts,ht⟩:∃ts:List Addr,ts.length=rs.length/\∀(i:Nat) (r:Addr) (it:Str × List Pt),rs[i]?=some r->st[i]?=some it->∃t,ts[i]?=some t/\H r=some (.tup [.str it.1,.ref t])/\BoAt H t it.2:=by
    clear hs q hn ln;induction ha with
    | nil=>exact⟨[],rfl,fun i r it h=>nomatch h⟩
    | cons h _ ih =>
      obtain⟨ts,hl,ht⟩:=ih;obtain⟨⟨t,e1,e2⟩,_⟩:=h;refine⟨t::ts,by rw[xav,xav,hl],fun i r it h1 h2=>?_⟩;cases i with
      | zero=>cases h1;cases h2;exact⟨t,rfl,e1,e2⟩
      | succ i=>exact ht i r it h1 h2
  refine jiM (fun i=>V.ref (ts.getD i 0)) (by rw[xaa];omega) hacc (SqL.of hs) (fun i z v0 H3 R hz l0 s3 hR=>?_) (fun H3 s3 e3=>?_) jgv
  . rw[xai] at hz
    obtain⟨r,hr1,rfl⟩:=xa5.mp hz;obtain⟨it,hi,_⟩:=ha.getA hr1;obtain⟨t,h1,h2,h3⟩:=ht.2 i r it hr1 hi;obtain⟨v1,v2,rfl⟩:=jll l0;have en:ts.getD i 0=t:=by
      rw[xac,h1];rfl
    refine⟨_,_,rfl,SqT.of (s3 _ _ h2),rfl,_,_,rfl,_,_,rfl,rfl,⟨[_,_],rfl,rfl⟩,_,rfl,?_⟩;have z:=hR H3 (Same.refl _);rw[en] at z;exact z
  . refine q acc ts H3 hacc s3 ?_ ?_
    . rw[e3,xaa,<- ht.1]
      rw[jeF V.ref ts (fun i=>V.ref (ts.getD i 0)) fun i a h=>by rw[xac,h];rfl]
    . have:∀(i:Nat) (t:Addr),ts[i]?=some t->∃b,(st.map (·.2))[i]?=some b/\BoAt H3 t b:=fun i t h=>by
        have il:i<rs.length:=by have:=(xan.mp h).1;omega
        obtain⟨it,hi,_⟩:=ha.getA (xab il);obtain⟨t',h1,_,h3⟩:=ht.2 i _ it (xab il) hi;rw[h] at h1;cases h1;exact⟨it.2,by rw[xai,hi];rfl,h3.keep s3⟩
      exact jiK (by rw[xaa];omega) this
theorem jjK (T:Tyd K mg t1 t2 cs SE Y) (F:AtM K Y "deeds" "Yard.deeds" jcB ["self"]):jaW P w K mg base CX0 1 Y "deeds" ["self"] (jgu Y):=by
 refine F.ok jdq (fun vs H Q E h=>?_) (fun f cdv A outer s H vs Q E hr h=>?_)
 ·obtain⟨y,pL,dx,sL,ss,rfl,_⟩:=h;rfl
 obtain⟨y,pL,dx,sL,ss,rfl,hy,hp,q⟩:=h;have S:=jdq;refine⟨_,(jae (jao (jat jaB rfl T.m_len PySem.boot_len (jaa (jcw (pv 0) rfl) jad jim)))),?_⟩;walk_at "rf";refine⟨_,rfl,y,Y,dx,_,_,rfl,hy,T.cl,T.nP,jg5 _ _,pL,rfl,_,.inl (SqL.of hp),?_⟩;rw[xaa];exact q
theorem jjL (T:Tyd K mg t1 t2 cs SE Y) (F:AtM K Y "__init__" "Yard.__init__" jbM ["self"]):jaW P w K mg base CX0 1 Y "__init__" ["self"] (jiL Y):=by
 refine F.ok jcp (fun vs H Q E h=>?_) (fun f cdv A outer s H vs Q E hr h=>?_)
 ·obtain⟨y,dx,rfl,_⟩:=h;rfl
 obtain⟨y,dx,rfl,hy,q⟩:=h;have S:=jcp;refine⟨_,(jac (jgF (pv 0) (jaU jad) rfl)
  (jae (jgF (pv 0) (jaU jad) rfl))),?_⟩
 walk_at "rf";refine⟨by decide,fun a ha=>⟨_,rfl,y,Y,dx,[],rfl,?_,T.cl,T.nS,by decide,?_⟩⟩
 ·rw[jar (jau hy ha)];exact hy
 have nya:=jau hy ha;refine⟨by decide,fun b hb=>⟨_,rfl,y,Y,dx,jeM "standing" (.ref a) [],rfl,?_,T.cl,T.nP,(by show 1<1000;decide),?_⟩⟩
 ·have nyb:y≠b:=fun z=>by rw[<- z,upd_same] at hb;cases hb
  rw[jar nyb,upd_same]
 have nyb:y≠b:=fun z=>by rw[<- z,upd_same] at hb;cases hb
 rw[jar (Ne.symm nyb)] at hb;have nab:a≠b:=fun z=>by rw[<- z,upd_same] at hb;cases hb
 rw[jar (Ne.symm nab)] at hb;refine q a b _ ha hb nab (fun c o hc e=>?_) ?_ ?_ ?_
 ·have c1:c≠y:=fun z=>hc (by rw[z];exact xay.mpr rfl);rw[jar c1,jar (jau e hb),jar c1,jar (jau e ha)];exact e
 ·rw[upd_same,jlk]
 ·rw[jar (Ne.symm nya),jar nab,jar (Ne.symm nya),upd_same]
 ·rw[jar (Ne.symm nyb),upd_same]
theorem jb3 {a:Addr} (mu:∀m∈M,Mut H m) (h:H a=some (.tup xs)):rm M H a=some (.tup xs):=jcs h fun z=>by
 obtain⟨o,e,n⟩:=mu a z;rw[h] at e;exact n xs (Option.some.inj e).symm
theorem jg7 (mu:∀m∈M,Mut H m) (h:Sps H rs ps):Sps (rm M H) rs ps:=by
 induction h with
 | nil=>exact .nil
 | cons h _ ih=>exact .cons ⟨jb3 mu h.1,h.2⟩ ih
theorem bo_rm {t:Addr} {b:List Pt} (mu:∀m∈M,Mut H m) (h:BoAt H t b):BoAt (rm M H) t b:=by
 obtain⟨rs,e,q⟩:=h;exact⟨rs,jb3 mu e,jg7 mu q⟩
def spDo (Y:Addr):Sp:=fun vs H Q _=>∃(M:List Addr) (y pL sN:Addr) (st sn:List (Str × List Pt)) (past:List (List (Str × List Pt))),vs=[.ref y,.ref sN]/\YardAt Y M H y pL st past/\StAt (rm M H) sN sn/\past.length<=900/\∀H',SX [y,pL] H H'->YardAt Y M H' y pL sn (past++[st])->Q .non H'
theorem ok_do (T:Tyd K mg t1 t2 cs SE Y) (F:AtM K Y "do_deed" "Yard.do_deed" jbZ ["self","standing"]):jaW P w K mg base CX0 1 Y "do_deed" ["self","standing"] (spDo Y):=by
 refine F.ok jcL (fun vs H Q E h=>?_) (fun f cdv A outer s H vs Q E hr h=>?_)
 ·obtain⟨M,y,pL,sN,st,sn,past,rfl,_⟩:=h;rfl
 obtain⟨M,y,pL,sN,st,sn,past,rfl,hY,hn,hl,q⟩:=h;have S:=jcL;refine⟨_,(jac (jbo (jdb PySem.F.plainAttrs_list PySem.F.slot_list_append PySem.F.type_list_append jbr (jcw (pv 0) rfl) (jaa (jcw (pv 0) rfl) jad jim)))
  (jae (jgF (pv 0) (pv 1) rfl))),?_⟩
 have nyp:=hY.ne;obtain⟨dx,sL,ss,h1,h2,h3,h4⟩:=hY.ob;have l4:=h4.len;walk_at "rf";refine⟨_,rfl,y,Y,dx,_,_,rfl,h1,T.cl,T.nP,jg5 _ _,.inl ⟨_,SqL.of h2⟩,_,rfl,y,Y,dx,_,_,rfl,h1,T.cl,T.nS,jeD _ _,pL,_,_,rfl,rfl,h2,?_,?_⟩
 ·rw[xaa];exact jaL (by omega)
 refine⟨_,rfl,_,rfl,y,Y,dx,jeT sL pL,rfl,?_,T.cl,T.nS,(by show 2<1000;decide),?_⟩
 ·rw[jar nyp];exact h1
 have sx:SX [y,pL] H (upd (upd H pL (.lst (ss.map V.ref++[.ref sL]))) y (.ins Y dx (jeM "standing" (.ref sN) (jeT sL pL)))):=fun b o hb e=>by
  simp only[xad,xae,or_false,not_or] at hb;rw[jar hb.1,jar hb.2];exact e
 have hM:∀a∈[y,pL],a∈M:=fun a ha=>by
  simp only[xad,xae,or_false] at ha;rcases ha with rfl | rfl
  ·exact hY.yM
  ·exact hY.pM
 refine q _ sx ⟨hY.yM,hY.pM,fun m hm=>?_,dx,sN,ss++[sL],?_,?_,hn.keep (sx.rm hM),(h4.mono fun _ _ z=>z.keep (sx.rm hM)).app (.cons (h3.keep (sx.rm hM)) .nil)⟩
 ·refine Mut.up (Mut.up (hY.mu m hm) ?_) ?_<;>(intro _ z;cases z)
 ·rw[upd_same,jg6]
 ·rw[jar (Ne.symm nyp),upd_same,xah];rfl
def inN (x:Str) (st:List (Str × List Pt)):Bool:=(nmL st).any fun z=>z==x
def plN (x:Str) (st:List (Str × List Pt)):Nat:=(nmL st).findIdx fun z=>z==x
theorem jbU (st:List (Str × List Pt)):(stV st).all jd4=true:=by
 unfold stV;rw[List.all_map];exact xaS.mpr fun _ _=>rfl
theorem jd2 (x:Str) (st:List (Str × List Pt)):inV (.str x) (stV st)=inN x st:=by
 unfold inV stV inN;rw[List.any_map];rfl
theorem jfu (x:Str) (st:List (Str × List Pt)):(stV st).findIdx (fun z=>eqV z (.str x))=plN x st:=by
  unfold stV plN;induction nmL st with
  | nil=>rfl
  | cons a l ih =>
    rw[xaJ,xbx,xbx,ih];rfl
theorem jfv (st:List (Str × List Pt)):(stV st).length=st.length:=by
 unfold stV nmL;rw[xaa,xaa]
theorem jiO {x:Str} {st:List (Str × List Pt)} (h:inN x st=true):plN x st<st.length:=by
 unfold inN at h;unfold plN;obtain⟨z,hz,e⟩:=List.any_eq_true.mp h;have:=xa9 (p:=fun z=>z==x) ⟨z,hz,e⟩;unfold nmL at this;rw[xaa] at this;exact this
def jgw (Y C0:Addr):Sp:=fun vs H Q E=>∃(y dx sL pL:Addr) (st:List (Str × List Pt)) (x:Str),vs=[.ref y,.str x]/\H y=some (.ins Y dx (jeT sL pL))/\StAt H sL st/\st.length<=900/\(inN x st=true->∀H',Same H H'->Q (.int (plN x st:Nat)) H')/\(inN x st=false->∀H',Same H H'->E (.ref C0) none H')
theorem jjM (T:Tyd K mg t1 t2 cs SE Y) (F:AtM K Y "place_of" "Yard.place_of" jbN ["self","name"]) (de:jaW P w K mg base CX0 1 Y "names" ["self"] (jeE Y)):jaW P w K mg base (XOk P w) 2 Y "place_of" ["self","name"] (jgw Y (cs 0)):=by
  refine F.okX jcq (fun vs H Q E h=>?_) (fun f cdv A outer s H vs Q E hr h=>?_)
  . obtain⟨y,dx,sL,pL,st,x,rfl,_⟩:=h
    rfl
  obtain⟨y,dx,sL,pL,st,x,rfl,hy,hs,hn,q1,q2⟩:=h;have S:=jcq;refine⟨_,(jac (jal (i:=2) S.nd rfl (Or.inl rfl) (jbx de (pv 0) T.cl hr.m jaF))
    (jac (jaK (jam jdT (pv 1) (pv 2) rfl)
    (jae (jbC rfl rfl T.m_NoName T.x_NoName (jaa jaY jad jan) jb7))
    jap)
    (jae (jao (jdb PySem.F.plainAttrs_list PySem.F.slot_list_index PySem.F.type_list_index jeq (pv 2) (jaa (pv 1) jad jaf)))))),?_⟩
  walk_at "rf";refine⟨_,rfl,y,dx,_,rfl,hy,jbj (by decide +kernel) (by decide +kernel),y,dx,sL,pL,st,rfl,hy,hs,hn,fun l H1 hl s1 e1=>?_⟩;walk_at "rf";refine⟨l,_,rfl,.inl (SqL.of e1),rfl,jbU st,?_⟩;walk_at "rf";rw[jd2];cases ci:inN x st with
  | false =>
    rw[if_pos rfl];exact⟨by decide,q2 ci _ s1⟩
  | true =>
    rw[if_neg (by decide)];refine⟨.inl ⟨_,SqL.of e1⟩,l,_,_,rfl,rfl,SqL.of e1,rfl,jbU st,by rw[jd2];exact ci,by rw[jfv];omega,?_⟩;rw[jfu];exact q1 ci _ s1
def jki (Y C0:Addr):Sp:=fun vs H Q E=>∃(M:List Addr) (y pL:Addr) (st:List (Str × List Pt)) (past:List (List (Str × List Pt))) (x:Str),vs=[.ref y,.str x]/\YardAt Y M H y pL st past/\st.length<=900/\past.length<=900 /\
 (inN x st=true->∀H',SX [y,pL] H H'->YardAt Y M H' y pL (st.eraseIdx (plN x st)) (past++[st])->Q .non H')/\(inN x st=false->∀H',Same H H'->E (.ref C0) none H')
theorem jlm (T:Tyd K mg t1 t2 cs SE Y) (F:AtM K Y "drop" "Yard.drop" jdf ["self","name"]) (dh:jaW P w K mg base (XOk P w) 2 Y "place_of" ["self","name"] (jgw Y (cs 0))) (dl:jaW P w K mg base CX0 1 Y "do_deed" ["self","standing"] (spDo Y)):jaW P w K mg base (XOk P w) 3 Y "drop" ["self","name"] (jki Y (cs 0)):=by
 refine F.okX jdY (fun vs H Q E h=>?_) (fun f cdv A outer s H vs Q E hr h=>?_)
 ·obtain⟨M,y,pL,st,past,x,rfl,_⟩:=h;rfl
 obtain⟨M,y,pL,st,past,x,rfl,hY,hn,hl,q1,q2⟩:=h;have S:=jdY;refine⟨_,(jac (jal (i:=2) S.nd rfl (Or.inl rfl) (jfm dh (pv 0) T.cl hr.m jmh (jaa (pv 1) jad jaf)))
  (jae (jbo (jfm dl (pv 0) T.cl hr.m jaF (jaa (jah jb1 (jaV jba (jcw (pv 0) rfl) jaP (jaQ (pv 2))) (jaV jba (jcw (pv 0) rfl) (jaQ (jah jbf (pv 2) jab)) jaP)) jad jaR))))),?_⟩
 obtain⟨dx,sL,ss,h1,h2,h3,h4⟩:=hY.ob;walk_at "rf";refine⟨_,rfl,y,dx,_,rfl,h1,jbj (by decide +kernel) (by decide +kernel),_,rfl,y,dx,sL,pL,st,x,rfl,h1,h3.keep (jbB _ _),hn,fun ci H1 s1=>?_,fun ci H1 s1=>q2 ci _ s1⟩;obtain⟨rs,e1,e2⟩:=h3.keep (jaX s1);have e1':=(jaD e1).1;have ln:=e2.len;have lt:=jiO ci;have hY1:=hY.keep s1;walk_at "rf";refine⟨_,rfl,y,dx,_,rfl,s1 _ _ h1,jbj (by decide +kernel) (by decide +kernel),_,rfl,y,Y,dx,_,_,rfl,s1 _ _ h1,T.cl,T.nS,jeD _ _,?_⟩;refine⟨_,rfl,_,rfl,sL,_,rfl,SqL.of e1',fun a1 n1=>?_⟩;rw[jbF];refine ja9 n1 fun J1 j1 i1=>?_;refine⟨_,rfl,y,Y,dx,_,_,rfl,j1 _ _ (s1 _ _ h1),T.cl,T.nS,jeD _ _,_,rfl,_,_,rfl,rfl,_,rfl,sL,_,rfl,SqL.of (j1 _ _ e1'),fun a2 n2=>?_⟩;rw[show ((plN x st:Nat):Int)+1=((plN x st+1:Nat):Int) by omega,jbE];refine ja9 n2 fun J2 j2 i2=>?_;refine⟨a1,a2,_,_,rfl,rfl,j2 _ _ i1,i2,?_,fun a3 n3=>ja9 n3 fun J3 j3 i3=>?_⟩
 ·rw[xak,xao,xaa];exact xaI (jaL (by omega))
 have s13:=s1.trans (j1.trans (j2.trans j3));have hY3:=hY.keep s13;have r3:rm M J3 a3=some (.lst ((rs.take (plN x st)++rs.drop (plN x st+1)).map V.ref)):=by
  refine jcs ?_ fun z=>?_
  ·rw[i3,xah,xaM,xaK]
  ·refine hY.al a3 z (s1.noneN (j1.noneN (j2.noneN n3)))
 refine⟨M,y,pL,a3,st,st.take (plN x st)++st.drop (plN x st+1),past,rfl,hY3,⟨_,r3,((e2.take _).app (e2.drop _)).mono fun _ _ h=>h.keep (jaX (j1.trans (j2.trans j3)))⟩,hl,fun H4 s4 h4=>?_⟩;refine q1 ci H4 ((Same.x s13 _).trans s4) ?_;rw[xaO];exact h4
def jkj (Y C3:Addr):Sp:=fun vs H Q E=>∃(M:List Addr) (y pL:Addr) (st:List (Str × List Pt)) (past:List (List (Str × List Pt))),vs=[.ref y]/\YardAt Y M H y pL st past/\past.length<=900 /\
 (∀p0 s0,past=p0++[s0]->∀H',SX [y,pL] H H'->YardAt Y M H' y pL s0 p0->Q .non H')/\(past=[]->∀H',Same H H'->E (.ref C3) none H')
theorem jln (T:Tyd K mg t1 t2 cs SE Y) (F:AtM K Y "back" "Yard.back" jdg ["self"]):jaW P w K mg base (XOk P w) 1 Y "back" ["self"] (jkj Y (cs 3)):=by
 refine F.okX jdZ (fun vs H Q E h=>?_) (fun f cdv A outer s H vs Q E hr h=>?_)
 ·obtain⟨M,y,pL,st,past,rfl,_⟩:=h;rfl
 obtain⟨M,y,pL,st,past,rfl,hY,hl,q1,q2⟩:=h;have S:=jdZ;refine⟨_,(jac (jaK (jcm (jje (jcw (pv 0) rfl) (fun _=>rfl)))
  (jae (jbC rfl rfl T.m_NoDeed T.x_NoDeed (jaa jaY jad jan) jb7))
  jap)
  (jae (jgF (pv 0) (jfO PySem.F.plainAttrs_list PySem.F.slot_list_pop PySem.F.type_list_pop jj1 (jcw (pv 0) rfl)) rfl))),?_⟩
 obtain⟨dx,sL,ss,h1,h2,h3,h4⟩:=hY.ob;have nyp:=hY.ne;walk_at "rf";refine⟨_,rfl,y,Y,dx,_,_,rfl,h1,T.cl,T.nP,jg5 _ _,?_⟩;have l4:=h4.len;refine⟨!(ss.map V.ref).isEmpty,.inl ⟨_,SqL.of h2,rfl⟩,?_⟩;by_cases ce:past=[]
 ·have es:ss=[]:=List.eq_nil_of_length_eq_zero (by rw[l4,ce];rfl);subst es;rw[if_pos (by rfl)];exact⟨by decide,q2 ce _ (Same.refl _)⟩
 obtain⟨p0,s0,rfl⟩:∃p0 s0,past=p0++[s0]:=⟨past.dropLast,past.getLast ce,(xaW ce).symm⟩;have ns:ss≠[]:=fun z=>by rw[z,xaf] at l4;cases l4
 obtain⟨ss0,a,rfl⟩:∃q0 t0,ss=q0++[t0]:=⟨ss.dropLast,ss.getLast ns,(xaW ns).symm⟩;have e0:(!((ss0++[a]).map V.ref).isEmpty)=true:=by simp
 rw[e0,if_neg (by decide)];have l0:ss0.length=p0.length:=by simpa using l4
 have h40:All2 (StAt (rm M H)) ss0 p0:=by
  have:=h4.take ss0.length;rw[xbJ rfl,xbJ l0.symm] at this;exact this
 have h4a:StAt (rm M H) a s0:=by
  have:=h4.drop ss0.length;rw[xbK rfl,xbK l0.symm] at this;cases this with
  | cons h _=>exact h
 refine⟨_,rfl,y,Y,dx,_,_,rfl,h1,T.cl,T.nP,jg5 _ _,.inl ⟨rfl,_,SqL.of h2⟩,pL,_,.ref a,rfl,rfl,h2,?_,_,rfl,y,Y,dx,jeT sL pL,rfl,?_,T.cl,T.nS,(by show 2<1000;decide),?_⟩
 ·rw[xah,xaf];simp
 ·rw[jar nyp];exact h1
 have sx:SX [y,pL] H (upd (upd H pL (.lst ((ss0++[a]).map V.ref).dropLast)) y (.ins Y dx (jeM "standing" (.ref a) (jeT sL pL)))):=fun b o hb e=>by
  simp only[xad,xae,or_false,not_or] at hb;rw[jar hb.1,jar hb.2];exact e
 have hM:∀a∈[y,pL],a∈M:=fun a ha=>by
  simp only[xad,xae,or_false] at ha;rcases ha with rfl | rfl
  ·exact hY.yM
  ·exact hY.pM
 refine q1 p0 s0 rfl _ sx ⟨hY.yM,hY.pM,fun m hm=>?_,dx,a,ss0,?_,?_,h4a.keep (sx.rm hM),h40.mono fun _ _ z=>z.keep (sx.rm hM)⟩
 ·refine Mut.up (Mut.up (hY.mu m hm) ?_) ?_<;>(intro _ z;cases z)
 ·rw[upd_same,jg6]
 ·rw[jar (Ne.symm nyp),upd_same,xah];show some (HO.lst (ss0.map V.ref++[V.ref a]).dropLast)=_;rw[xbh]
def jbm (st:List (Str × List Pt)) (x:Str) (g:Bool):Option Nat:=if nm x=false then some 0 else if inN x st=true then some 0 else if g=false then some 1 else if 6<=st.length then some 2 else none
def jmO (Y:Addr) (cs:Nat->Addr):Sp:=fun vs H Q E=>∃(M:List Addr) (y pL l:Addr) (rs:List Addr) (ps:List Pt) (st:List (Str × List Pt)) (past:List (List (Str × List Pt))) (x:Str) (g:Bool),vs=[.ref y,.str x,.ref l]/\(g=true↔GoodB ps)/\YardAt Y M H y pL st past/\st.length<=6/\past.length<=900/\Lo x/\x.cps.size<=900/\Cor H l rs ps /\
 (jbm st x g=none->∀H',SX [y,pL] H H'->YardAt Y M H' y pL (st++[(x,frm ps ps)]) (past++[st])->Q .non H')/\(∀i,jbm st x g=some i->∀H',Same H H'->E (.ref (cs i)) none H')
theorem jmP (T:Tyd K mg t1 t2 cs SE Y) (F:AtM K Y "put" "Yard.put" jdK ["self","name","corners"]) (Dn:jaz P w K mg base CX0 1 "is_name" ["text"] [] jkh) (de:jaW P w K mg base CX0 1 Y "names" ["self"] (jeE Y)) (dX:jaz P w K mg base (XOk P w) 6 "made_board" ["corners"] [] (jg4 (cs 1))) (dl:jaW P w K mg base CX0 1 Y "do_deed" ["self","standing"] (spDo Y)):jaW P w K mg base (XOk P w) 7 Y "put" ["self","name","corners"] (jmO Y cs):=by
  refine F.okX jeA (fun vs H Q E h=>?_) (fun f cdv A outer s H vs Q E hr h=>?_)
  . obtain⟨M,y,pL,l,rs,ps,st,past,x,g,rfl,_⟩:=h
    rfl
  obtain⟨M,y,pL,l,rs,ps,st,past,x,g,rfl,hg,hY,hn,hl,lo,l9,hc,q1,q2⟩:=h;have S:=jeA;refine⟨_,(jac (jaK (jcm (jbz (jaj Dn hr.m rfl jaF (jaa (pv 1) jad jaf))))
    (jae (jbC rfl rfl T.m_NoName T.x_NoName (jaa jaY jad jan) jb7))
    jap)
    (jac (jaK (jam jeh (pv 1) (jbx de (pv 0) T.cl hr.m jaF) rfl)
    (jae (jbC rfl rfl T.m_NoName T.x_NoName (jaa jaY jad jan) jb7))
    jap)
    (jac (jal (i:=3) S.nd rfl (Or.inl rfl) (jaj dX hr.m rfl jmh (jaa (pv 2) jad jaf)))
    (jac (jaK (jam jl5 (jat jaB rfl T.m_len PySem.boot_len (jaa (jcw (pv 0) rfl) jad jim)) (jct rfl T.m_MOST_BOARDS T.r_MOST_BOARDS) (jas _))
    (jae (jbC rfl rfl T.m_TooMany T.x_TooMany (jaa jaY jad jan) jb7))
    jap)
    (jae (jbo (jfm dl (pv 0) T.cl hr.m jaF (jaa (jah jb1 (jcw (pv 0) rfl) (jaU (jaa (jbc (jaa (pv 1) (jaa (pv 3) jad jaf) jaf)) jad jaZ))) jad jaR)))))))),?_⟩
  obtain⟨dx,sL,ss,h1,h2,h3,h4⟩:=hY.ob;walk_at "rf";refine⟨x,rfl,lo,l9,fun H1 s1=>⟨_,rfl,?_⟩⟩;cases c1:nm x with
  | false =>
    rw[if_pos rfl];exact⟨by decide,q2 0 (by unfold jbm;rw[if_pos c1]) _ s1⟩
  | true =>
  have n1:¬nm x=false:=by rw[c1];decide
  rw[if_neg (by decide)];refine⟨_,rfl,y,dx,_,rfl,s1 _ _ h1,jbj (by decide +kernel) (by decide +kernel),y,dx,sL,pL,st,rfl,s1 _ _ h1,h3.keep ((jbB _ _).trans s1),by omega,fun nl H2 hnl s2 e2=>?_⟩;refine⟨nl,_,rfl,.inl (SqL.of e2),rfl,jbU st,_,rfl,?_⟩;rw[show (if false=true then !inV (V.str x) (stV st) else inV (V.str x) (stV st))=inN x st from jd2 x st];have s12:=s1.trans s2;cases c2:inN x st with
  | true =>
    rw[if_pos rfl];exact⟨by decide,q2 0 (by unfold jbm;rw[if_neg n1,if_pos c2]) _ s12⟩
  | false =>
  have n2:¬inN x st=true:=by rw[c2];decide
  rw[if_neg (by decide)];refine⟨l,rs,ps,rfl,hc.keep s12,fun G t H3 s3 e3=>?_,fun G H3 s3=>q2 1 ?_ _ (s12.trans s3)⟩
  . have s13:=s12.trans s3
    obtain⟨srs,i1,i2⟩:=h3.keep (jaX s13);have ln:=i2.len;have gt:g=true:=hg.mpr G;have n3:¬g=false:=by rw[gt];decide
    refine⟨_,rfl,y,Y,dx,_,_,rfl,s13 _ _ h1,T.cl,T.nS,jeD _ _,sL,rfl,_,.inl (SqL.of (jaD i1).1),?_⟩;rw[xaa,ln];by_cases c4:6<=st.length
    . rw[if_pos (by omega)]
      exact⟨by decide,q2 2 (by unfold jbm;rw[if_neg n1,if_neg n2,if_neg n3,if_pos c4]) _ s13⟩
    rw[if_neg (by omega)];refine⟨_,rfl,y,dx,_,rfl,s13 _ _ h1,jbj (by decide +kernel) (by decide +kernel),_,rfl,y,Y,dx,_,_,rfl,s13 _ _ h1,T.cl,T.nS,jeD _ _,?_⟩;refine⟨_,rfl,_,rfl,by show 2<=sizeLine;decide,fun a1 n1'=>ja9 n1' fun J1 j1 k1=>⟨by show 1<=sizeLine;decide,fun a2 n2'=>ja9 n2' fun J2 j2 k2=>?_⟩⟩;have s02:=s13.trans (j1.trans j2);refine⟨sL,a2,_,_,rfl,rfl,j2 _ _ (j1 _ _ (jaD i1).1),k2,?_,fun a3 n3'=>ja9 n3' fun J3 j3 k3=>?_⟩
    . rw[xaa,ln]
      exact xaI (jaL (by show st.length+1<1000;omega))
    have s03:=s02.trans j3;have r1:rm M J3 a1=some (.tup [.str x,.ref t]):=jcs (j3 _ _ (j2 _ _ k1)) fun z=>hY.al a1 z (s13.noneN n1');have r3:rm M J3 a3=some (.lst ((srs++[a1]).map V.ref)):=by
      refine jcs ?_ fun z=>hY.al a3 z (s02.noneN n3');rw[k3,xah];rfl
    have ft:rm M J3 t=some (.tup ((frm ps rs).map V.ref)):=jcs (j3 _ _ (j2 _ _ (j1 _ _ e3))) fun z=>?_
    . have b0:BoAt (rm M J3) t (frm ps ps):=⟨_,ft,((jg7 hY.mu hc.2).keep (jaX s03).t).frm⟩
      refine⟨M,y,pL,a3,st,st++[(x,frm ps ps)],past,rfl,hY.keep s03,⟨_,r3,(i2.mono fun _ _ h=>h.keep (jaX (j1.trans (j2.trans j3)))).app (.cons ⟨⟨t,r1,b0⟩,lo⟩ .nil)⟩,hl,fun H4 s4 h4=>?_⟩;exact q1 (by unfold jbm;rw[if_neg n1,if_neg n2,if_neg n3,if_neg c4]) H4 ((Same.x s03 _).trans s4) h4
    . obtain⟨o,e,n⟩:=hY.mu t z
      rw[s13 _ _ e] at e3;exact n _ (Option.some.inj e3)
  . unfold jbm
    have gf:g=false:=by
      cases g with
      | false=>rfl
      | true=>exact absurd (hg.mp rfl) G
    rw[if_neg n1,if_neg n2,if_pos gf]
def Nam (x:Str):Prop:=AZ x/\1<=x.cps.size/\x.cps.size<=8
theorem Nam.nm {x:Str} (h:Nam x):nm x=true:=by
 rw[h.1.nm];exact decide_eq_true h.2
theorem jfw {x:Str} (h0:0<=j):(∀c∈(Txt.slice x none (some j)).cps.toList,c∈x.cps.toList)/\(Txt.slice x none (some j)).cps.size<=x.cps.size:=by
 by_cases h1:j<=x.cps.size
 ·exact jiI h0 h1
 ·have e:Txt.slice x none (some j)=Txt.slice x none (some (x.cps.size:Int)):=by
   show StrLaws.sliceText x none (some j)=StrLaws.sliceText x none (some (x.cps.size:Int));have e2:Builtin.Str.strSliceIndices none (some j) 1 x.length=Builtin.Str.strSliceIndices none (some (x.cps.size:Int)) 1 x.length:=by
    have a:¬(j<0):=by omega
    have b:min j (x.length:Int)=(x.length:Int):=by unfold Str.length;omega
    have c:min (x.cps.size:Int) (x.length:Int)=(x.length:Int):=by unfold Str.length;omega
    have d:¬((x.cps.size:Int)<0):=by omega
    simp [Builtin.Str.strSliceIndices,a,b,c,d]
   unfold StrLaws.sliceText;rw[e2]
  rw[e];exact jiI (by omega) (by omega)
theorem jiP {x:Str} (h0:0<=j) (h1:j<=x.cps.size):(Txt.slice x none (some j)).cps.size=j.toNat:=by
 have e:Txt.slice x none (some j)=_:=StrLaws.sliceText_to (x:=x) (j:=j) ⟨h0,by rw[Array.length_toList];exact h1⟩;rw[e];rw[xag,xak,xao,Array.length_toList];omega
theorem jlo {x:Str} (h0:0<=j) (h1:j<=x.cps.size):(Txt.slice x (some j) none).cps.size=x.cps.size-j.toNat:=by
 have e:Txt.slice x (some j) none=_:=StrLaws.sliceText_from (x:=x) (i:=j) ⟨h0,by rw[Array.length_toList];exact h1⟩;rw[e];rw[xag,xak,xao,Array.length_toList];omega
theorem jfx {x y:Str} {c:Nat} (h:c∈(x++y).cps.toList):c∈x.cps.toList\/c∈y.cps.toList:=by
 have h':c∈(x.cps++y.cps).toList:=h;rw[Array.toList_append,xax] at h';exact h'
theorem jiQ {x y:Str} {c:Nat} (h:c∈x.cps.toList\/c∈y.cps.toList):c∈(x++y).cps.toList:=by
 show c∈(x.cps++y.cps).toList;rw[Array.toList_append,xax];exact h
theorem jeG (x y:Str):(x++y).cps.size=x.cps.size+y.cps.size:=by
 show (x.cps++y.cps).size=_;rw[Array.size_append]
theorem AZ.app {x y:Str} (h:AZ x) (h':AZ y):AZ (x++y):=fun c hc=>(jfx hc).elim (h c) (h' c)
theorem jkk (h0:0<=k) (h1:k<26):∃c,abc.cps[k.toNat]?=some c/\AZ ⟨#[c]⟩/\k<((abc.cps.size:Nat):Int):=by
 have sz:abc.cps.size=26:=by decide +kernel
 have hlt:k.toNat<abc.cps.size:=by omega
 refine⟨_,Array.getElem?_eq_getElem hlt,fun d hd=>?_,by omega⟩;have:d=abc.cps[k.toNat]:=by simpa using hd
 rw[this];exact jmJ (Array.getElem?_eq_getElem hlt)
def jmQ:Sp:=fun vs H Q _=>∃n:Int,vs=[.int n]/\0<=n/\∀(l:Addr) (xs:List Str) (H':Hp),H l=none->Same H H'->H' l=some (.lst (xs.map V.str))->xs.length=8->(∀x∈xs,Nam x)->Q (.ref l) H'
def nmM (H:Hp):L2.St->Hp->Prop:=fun σ H'=>∃(n many:Int) (x:Str) (o4:Option V),σ=[some (.int n),some (.str abc),some (.int many),some (.str x),o4,none,none,none]/\H'=H/\0<=n/\0<=many/\many<8/\AZ x/\(x.cps.size:Int)=many
theorem jmR (T:Tx K mg t1 t2) (F:At K mg "_law_names" jcC ["number"] []):jaz P w K mg base CX0 1 "_law_names" ["number"] [] jmQ:=by
 refine F.ok jdr (fun vs H Q E h=>?_) (fun f cdv A outer s H vs Q E hr h=>?_)
 ·obtain⟨n,rfl,_⟩:=h;rfl
 obtain⟨n,rfl,n0,q⟩:=h;have S:=jdr;refine⟨_,(jac (jal (i:=1) S.nd rfl (Or.inl rfl) jaY)
  (jac (jal (i:=2) S.nd rfl (Or.inl rfl) (jah jaE (pv 0) jab))
  (jac (jal (i:=0) S.nd rfl (Or.inl rfl) (jah jax (pv 0) jab))
  (jac (jal (i:=3) S.nd rfl (Or.inl rfl) jaY)
  (jbb (nmM H) (jbA PassesOwn.never rfl (jaI rfl T.m_range (jaa (pv 2) jad jaf)) (jaw (i:=4) S.nd rfl (Or.inl rfl))
  (jac (jal (i:=3) S.nd rfl (Or.inl rfl) (jah jbH (pv 3) (jda (pv 1) (jah jaE (pv 0) jab) (fun _ _=>rfl))))
  (jae (jal (i:=0) S.nd rfl (Or.inl rfl) (jah jax (pv 0) jab)))))
  (jac (jal (i:=5) S.nd rfl (Or.inl rfl) (jah jaE (pv 0) (jah jbf (pv 2) jab)))
  (jac (jal (i:=0) S.nd rfl (Or.inl rfl) (jah jax (pv 0) jab))
  (jac (jal (i:=6) S.nd rfl (Or.inl rfl) (jaU jad))
  (jac (jbA PassesOwn.never rfl (jaI rfl T.m_range (jaa jab jad jan)) (jaw (i:=4) S.nd rfl (Or.inl rfl))
  (jac (jal (i:=7) S.nd rfl (Or.inl rfl) (jda (pv 1) (jah jaE (jah jbf (pv 0) (jah jay jab (pv 4))) jab) (fun _ _=>rfl)))
  (jae (jaK (jam jbd (jah jaE (pv 4) jab) jab (jas _))
  (jae (jbo (jdb PySem.F.plainAttrs_list PySem.F.slot_list_append PySem.F.type_list_append jbr (pv 6) (jaa (pv 7) jad jaf))))
  (jae (jbo (jdb PySem.F.plainAttrs_list PySem.F.slot_list_append PySem.F.type_list_append jbr (pv 6) (jaa (jah jbH (jah jbH (jbJ (pv 3) jaP (jaQ (pv 5))) (pv 7)) (jbJ (pv 3) (jaQ (pv 5)) jaP)) jad jaR))))))))
  (jae (jao (pv 6)))))))))))),?_⟩
 have m0:=xaq n (show (8:Int)≠0 by decide);have m1:=xam n (show (0:Int)<8 by decide);have n8:0<=n / 8:=xaH n0 (by decide);walk_at "rf";refine⟨by decide,by decide,.o (by decide) (by decide),by omega,by omega,?_,?_⟩
 ·refine jbe (lo:=0) (n:=(n % 8).toNat) (fun i σ H2=>H2=H/\∃(k:Int) (x:Str) (o4:Option V),σ=[some (.int k),some (.str abc),some (.int (n % 8)),some (.str x),o4,none,none,none]/\0<=k/\AZ x/\x.cps.size=i) ⟨rfl,_,_,none,rfl,n8,fun c hc=>(nomatch hc),rfl⟩ ?_ ?_
  ·rintro i σ H2 hi ⟨rfl,k,x,o4,rfl,k0,hx,hl⟩;have r0:=xaq k (show (26:Int)≠0 by decide);have r1:=xam k (show (0:Int)<26 by decide);obtain⟨c,hc,az',kl⟩:=jkk r0 r1;walk_at "rf";refine⟨by decide,r0,by omega,kl,c,hc,?_,?_⟩
   ·have:x.length=i:=hl;rw[this];exact xaA (show i+1<=1000 by omega) (by decide)
   refine⟨by decide,.o (by decide) (by decide),xaH k0 (by decide),hx.app az',?_⟩;rw[jeG,hl];rfl
  ·rintro σ H2 ⟨rfl,k,x,o4,rfl,k0,hx,hl⟩;exact⟨k,_,x,_,rfl,rfl,k0,m0,m1,hx,by omega⟩
 rintro σ1 H1 ⟨k,many,x,o4,rfl,rfl,k0,y0,y1,hx,hl⟩;have a0:=xaq k (show many+1≠0 by omega);have a1:=xam k (show 0<many+1 by omega);walk_at "rf";refine⟨by omega,by decide,.o (by decide) (by decide),by decide,fun p hp=>⟨by decide,by decide,?_⟩⟩;have k8:0<=k / 8:=xaH k0 (by decide);have b0:k % (many+1)<=x.cps.size:=by omega
 refine jbe (lo:=0) (n:=8) (fun i σ H2=>Same H1 H2/\∃(xs:List Str) (o4 o7:Option V),σ=[some (.int (k / 8)),some (.str abc),some (.int many),some (.str x),o4,some (.int (k % (many+1))),some (.ref p),o7]/\H2 p=some (.lst (xs.map V.str))/\xs.length=i/\∀z∈xs,Nam z) ⟨Same.new hp _,[],_,_,rfl,upd_same,rfl,fun _ z=>nomatch z⟩ ?_ ?_
 ·rintro i σ H2 hi ⟨s2,xs,o4,o7,rfl,e2,lx,hz⟩;have r0:=xaq (k / 8+3*(0+(i:Int))) (show (26:Int)≠0 by decide);have r1:=xam (k / 8+3*(0+(i:Int))) (show (0:Int)<26 by decide);obtain⟨c,hc,az',kl⟩:=jkk r0 r1;walk_at "rf";refine⟨.o (by decide) (by decide),.o (by omega) (by omega),by decide,r0,by omega,kl,c,hc,?_⟩;have fin:∀z:Str,Nam z->∃xs':List Str,upd H2 p (.lst (xs.map V.str++[.str z])) p=some (.lst (xs'.map V.str))/\xs'.length=i+1/\∀z∈xs',Nam z:=fun z hz'=>⟨xs++[z],by rw[upd_same,xah];rfl,by rw[xaf,lx];rfl,fun y hy=>by
   rcases xax.mp hy with h | h
   ·exact hz y h
   ·rw[xay.mp h];exact hz'⟩
  have sm:∀o,Same H1 (upd H2 p o):=fun o=>Same.keepN s2 hp o;have ll:(xs.map V.str).length<sizeLine:=by
   rw[xaa,lx];exact jaL (by omega)
  refine⟨by decide,jb2 (fun c3=>?_) fun c3=>?_⟩
  ·refine⟨.inl ⟨_,SqL.of e2⟩,p,_,_,rfl,rfl,e2,ll,?_⟩;exact⟨sm _,fin _ ⟨az',xaj _,by show 1<=8;decide⟩⟩
  ·have xl:x.length<=sizeLine:=xaA (show x.cps.size<=1000 by omega) (by decide);have t1':=jiP a0 b0;have t2':=jlo a0 b0;have c1:=(jiI a0 b0).1;have c2:=(jg3 a0 b0).1;refine⟨.inl ⟨_,SqL.of e2⟩,x,rfl,xl,.inl ⟨rfl,fun z=>nomatch z⟩,_,rfl,?_,x,rfl,xl,.inr ⟨(fun z=>nomatch z),rfl⟩,?_⟩
   ·show (Txt.slice x none (some (k % (many+1)))).cps.size+1<=sizeLine;exact xaA (show _<=1000 by omega) (by decide)
   have t3:(Txt.slice x none (some (k % (many+1)))++(⟨#[c]⟩:Str)).cps.size=(k % (many+1)).toNat+1:=by rw[jeG,t1'];rfl
   refine⟨_,rfl,?_,p,_,_,rfl,rfl,e2,ll,sm _,fin _ ⟨?_,?_,?_⟩⟩
   ·show (Txt.slice x none (some (k % (many+1)))++(⟨#[c]⟩:Str)).cps.size+(Txt.slice x (some (k % (many+1))) none).cps.size<=sizeLine;rw[t3,t2'];exact xaA (show _<=1000 by omega) (by decide)
   ·exact AZ.app (AZ.app (fun d hd=>hx d (c1 d hd)) az') fun d hd=>hx d (c2 d hd)
   ·rw[jeG,t3];omega
   ·rw[jeG,t3,t2'];omega
 ·rintro σ H2 ⟨s2,xs,o4,o7,rfl,e2,lx,hz⟩;walk_at "rf";exact q p xs H2 hp s2 e2 lx hz
def jiR:Sp:=fun vs H Q _=>∃(n:Int) (x:Str),vs=[.int n,.str x]/\0<=n/\Nam x/\∀z:Str,Lo z->z.cps.size<=900->nm z=false->Q (.str z) H
theorem jlp (T:Tx K mg t1 t2) (F:At K mg "_law_bad_name" jbO ["number","name"] []):jaz P w K mg base CX0 1 "_law_bad_name" ["number","name"] [] jiR:=by
 refine F.ok jcr (fun vs H Q E h=>?_) (fun f cdv A outer s H vs Q E hr h=>?_)
 ·obtain⟨n,x,rfl,_⟩:=h;rfl
 obtain⟨n,x,rfl,n0,⟨hz0,x1,x8⟩,q⟩:=h;have S:=jcr;refine⟨_,(jac (jal (i:=2) S.nd rfl (Or.inl rfl) (jah jaE (jah jax (pv 0) jab) (jah jbf (jat jgE rfl T.m_len PySem.boot_len (jaa (pv 1) jad jaf)) jab)))
  (jac (jaK (jam jbd (jah jaE (pv 0) jab) jab (jas _))
  (jae (jao jaY))
  jap)
  (jac (jaK (jam jbd (jah jaE (pv 0) jab) jab (jas _))
  (jae (jao (jbJ (jah jbH (pv 1) jaY) jaP (jaQ jab))))
  jap)
  (jae (jao (jah jbH (jah jbH (jbJ (jbJ (pv 1) jaP (jaQ (pv 2))) jaP (jaQ jab)) (jda jaY (jah jaE (jah jax (pv 0) jab) jab) (fun _ _=>rfl))) (jbJ (jbJ (pv 1) (jaQ (pv 2)) jaP) jaP (jaQ jab)))))))),?_⟩
 have n3:0<=n / 3:=xaH n0 (by decide);have a0:=xaq (n / 3) (show (x.cps.size:Int)+1≠0 by omega);have a1:=xam (n / 3) (show 0<(x.cps.size:Int)+1 by omega);have n27:0<=n / 27:=xaH n0 (by decide);have b0:=xaq (n / 27) (show (10:Int)≠0 by decide);have b1:=xam (n / 27) (show (0:Int)<10 by decide);have big:∀{m:Nat},m<=900->m<=sizeLine:=fun h=>xaA h (by decide);walk_at "rf";refine⟨by decide,.o (by decide) (by decide),x.cps.size,⟨big (show x.length<=900 by show x.cps.size<=900;omega),rfl⟩,by omega,by decide,jb2 (fun _=>q _ (fun c hc=>(nomatch hc)) (by decide) (by decide +kernel)) fun _=>⟨by decide,jb2 (fun _=>?_) fun _=>?_⟩⟩
 ·have e9:(Str.ofString "abcdefghi").cps.size=9:=by decide +kernel
  have l9:Lo (Str.ofString "abcdefghi"):=fun c hc=>by
   have e:(Str.ofString "abcdefghi").cps.toList.all (fun c=>decide (c<128))=true:=by decide +kernel
   exact of_decide_eq_true (xaS.mp e c hc)
  have sz:=jeG x (Str.ofString "abcdefghi");have tk:=jiP (x:=x++Str.ofString "abcdefghi") (j:=9) (by decide) (by omega);refine⟨big (show x.cps.size+(Str.ofString "abcdefghi").cps.size<=900 by omega),_,rfl,big (show (x++Str.ofString "abcdefghi").cps.size<=900 by omega),.inl ⟨rfl,fun z=>nomatch z⟩,q _ (fun c hc=>?_) (by rw[tk];decide) ?_⟩
  ·rcases jfx ((jfw (x:=x++Str.ofString "abcdefghi") (j:=9) (by decide)).1 c hc) with h | h
   ·exact hz0.lo c h
   ·exact l9 c h
  ·unfold nm;rw[tk];rfl
 ·have c1:=jfw (x:=x) a0;refine⟨x,rfl,big (show x.cps.size<=900 by omega),.inl ⟨rfl,fun z=>nomatch z⟩,?_⟩;show rSlS (.str (Txt.slice x none (some (n / 3 % ((x.cps.size:Int)+1))))) _ _ _ _;generalize Txt.slice x none (some (n / 3 % ((x.cps.size:Int)+1)))=u1 at c1 |-
  have c2:=jfw (x:=u1) (j:=7) (by decide);refine⟨u1,rfl,big (show u1.cps.size<=900 by omega),.inl ⟨rfl,fun z=>nomatch z⟩,?_⟩;generalize Txt.slice u1 none (some 7)=u2 at c2 |-
  have e10:(Str.ofString "AZ09 _-.{`").cps.size=10:=by decide +kernel
  have hlt:(n / 27 % 10).toNat<(Str.ofString "AZ09 _-.{`").cps.size:=by omega
  have hc:(Str.ofString "AZ09 _-.{`").cps[(n / 27 % 10).toNat]?=some (Str.ofString "AZ09 _-.{`").cps[(n / 27 % 10).toNat]:=Array.getElem?_eq_getElem hlt
  have hb:(Str.ofString "AZ09 _-.{`").cps[(n / 27 % 10).toNat]<128/\az (Str.ofString "AZ09 _-.{`").cps[(n / 27 % 10).toNat]=false:=by
   have e:(Str.ofString "AZ09 _-.{`").cps.all (fun c=>decide (c<128/\az c=false))=true:=by decide +kernel
   rw[Array.all_eq_true] at e;exact of_decide_eq_true (e _ hlt)
  generalize (Str.ofString "AZ09 _-.{`").cps[(n / 27 % 10).toNat]=c at hc hb
  have d1:=jg3 (x:=x) a0 (by omega);refine⟨by decide,.o (by decide) (by decide),by decide,b0,by omega,(by show n / 27 % 10<(((Str.ofString "AZ09 _-.{`").cps.size:Nat):Int);omega),c,hc,u2,rfl,big (show u2.cps.size+1<=900 by omega),x,rfl,big (show x.cps.size<=900 by omega),.inr ⟨(fun z=>nomatch z),rfl⟩,?_⟩
  generalize Txt.slice x (some (n / 3 % ((x.cps.size:Int)+1))) none=u3 at d1 |-
  have d2:=jfw (x:=u3) (j:=1) (by decide);refine⟨u3,rfl,big (show u3.cps.size<=900 by omega),.inl ⟨rfl,fun z=>nomatch z⟩,_,rfl,?_⟩;generalize Txt.slice u3 none (some 1)=u4 at d2 |-
  have z1:=jeG u2 (⟨#[c]⟩:Str);have z2:=jeG (u2++(⟨#[c]⟩:Str)) u4;have z3:(⟨#[c]⟩:Str).cps.size=1:=rfl;refine⟨big (show (u2++(⟨#[c]⟩:Str)).cps.size+u4.cps.size<=900 by omega),q _ (fun d hd=>?_) (by omega) (jmI (c:=c) (jiQ (.inl (jiQ (.inr (by simp))))) hb.2)⟩;rcases jfx hd with h | h
  ·rcases jfx h with h | h
   ·exact hz0.lo d (c1.1 d (c2.1 d h))
   ·have:d=c:=by simpa using h
    rw[this];exact hb.1
  ·exact hz0.lo d (d1.1 d (d2.1 d h))
def jfy (n:Nat):List (Int × Int):=(List.range n).map fun k:Nat=>((k:Int),(k:Int)*(k:Int))
def jgg:List (List (Int × Int)):=[[(0,0),(1,0),(0,1)],[(0,0),(1,0),(1,1),(0,1)],[(0,0),(3,0),(1,2)],[(0,0),(2,0),(3,1),(1,2)],[(0,1),(1,0),(3,0),(4,1),(3,3),(1,3)],jfy 3,jfy 4,jfy 5,jfy 6,jfy 7,jfy 8]
def jmS:Sp:=fun vs H Q _=>∃n:Int,vs=[.int n]/\0<=n/\∀(l:Addr) (rs:List Addr) (ps:List (Int × Int)) (H':Hp),Same H H'->H' l=some (.lst (rs.map V.ref))->Prs H' rs ps->ps∈jgg->Q (.ref l) H'
theorem jkl {H:Hp}:∀{rs:List Addr} {ps:List (Int × Int)},rs.length=ps.length->(∀(i:Nat) (r:Addr) (p:Int × Int),rs[i]?=some r->ps[i]?=some p->H r=some (.tup [.int p.1,.int p.2]))->Prs H rs ps
 | [],[],_,_=>.nil
 | r::rs,p::ps,hl,h=>.cons (h 0 r p rfl rfl) (jkl (Nat.succ.inj hl) fun i r' p' h1 h2=>h (i+1) r' p' h1 h2)
 | [],_::_,hl,_=>nomatch hl
 | _::_,[],hl,_=>nomatch hl
theorem jmT {φ:V->Hp->Prop} {D:Ends} (h:Mk σ te φ) (q:∀v H',Same H H'->φ v H'->D.rt v H'):ji5 te D σ H:=h H _ q
theorem jiS {φ:Nat->Addr->Prop}:∀(ys:List V),(∀(i:Nat) (y:V),ys[i]?=some y->∃r,y=.ref r/\φ i r)->∃rs:List Addr,ys=rs.map V.ref/\∀(i:Nat) (r:Addr),rs[i]?=some r->φ i r
  | [],_=>⟨[],rfl,fun _ _ h=>nomatch h⟩
  | y :: ys, h => by
    obtain⟨rs,e,hr⟩:=jiS (φ:=fun i r=>φ (i+1) r) ys fun i y' h'=>h (i+1) y' h';obtain⟨r,e',h0⟩:=h 0 y rfl;refine⟨r::rs,by rw[e,e'];rfl,fun i r' h'=>?_⟩;cases i with
    | zero=>cases h';exact h0
    | succ i=>exact hr i r' h'
theorem jgc {m:Int} {tn:TS} {D:Ends} (h:σ[i]?=some (some (.int m))) (a:m=k->ji5 te D σ H) (b:m≠k->tn D σ H):jkB (jkC (jgi (tOp rEq (jhj i) (tC (.int k)))) (ji5 te) jhk) tn D σ H:=by
 refine⟨_,h,rfl,_,rfl,?_⟩;by_cases c:m=k
 ·show if decide (V.int m=V.int k)=true then _ else _;rw[if_pos (decide_eq_true (by rw[c]))];exact a c
 ·show if decide (V.int m=V.int k)=true then _ else _;rw[if_neg (fun z=>c (V.int.inj (of_decide_eq_true z)))];exact b c
theorem jmU (T:Tx K mg t1 t2) (F:At K mg "_law_shape" jcD ["number"] []):jaz P w K mg base CX0 1 "_law_shape" ["number"] [] jmS:=by
 refine F.okW jds (fun vs H Q E h=>?_) (fun f cdv A outer s H vs Q E hr h=>?_)
 ·obtain⟨n,rfl,_⟩:=h;rfl
 obtain⟨n,rfl,n0,q⟩:=h;have S:=jds;refine⟨_,(jcS ⟨(jal (i:=1) S.nd rfl (Or.inl rfl) (jah jaE (pv 0) jab))⟩
  (jcS (jii (jam jbd (pv 1) jab (jas _)) (jel (jfV (jfW (jaq (jbl (jaq ⟨jab⟩ (jaq ⟨jab⟩ ja8 jan) jan)) (jaq (jbl (jaq ⟨jab⟩ (jaq ⟨jab⟩ ja8 jan) jan)) (jaq (jbl (jaq ⟨jab⟩ (jaq ⟨jab⟩ ja8 jan) jan)) ja8 jaZ) jaZ) jaZ)))) ⟨jap⟩)
  (jcS (jii (jam jbd (pv 1) jab (jas _)) (jel (jfV (jfW (jaq (jbl (jaq ⟨jab⟩ (jaq ⟨jab⟩ ja8 jan) jan)) (jaq (jbl (jaq ⟨jab⟩ (jaq ⟨jab⟩ ja8 jan) jan)) (jaq (jbl (jaq ⟨jab⟩ (jaq ⟨jab⟩ ja8 jan) jan)) (jaq (jbl (jaq ⟨jab⟩ (jaq ⟨jab⟩ ja8 jan) jan)) ja8 jaZ) jaZ) jaZ) jaZ)))) ⟨jap⟩)
  (jcS (jii (jam jbd (pv 1) jab (jas _)) (jel (jfV (jfW (jaq (jbl (jaq ⟨jab⟩ (jaq ⟨jab⟩ ja8 jan) jan)) (jaq (jbl (jaq ⟨jab⟩ (jaq ⟨jab⟩ ja8 jan) jan)) (jaq (jbl (jaq ⟨jab⟩ (jaq ⟨jab⟩ ja8 jan) jan)) ja8 jaZ) jaZ) jaZ)))) ⟨jap⟩)
  (jcS (jii (jam jbd (pv 1) jab (jas _)) (jel (jfV (jfW (jaq (jbl (jaq ⟨jab⟩ (jaq ⟨jab⟩ ja8 jan) jan)) (jaq (jbl (jaq ⟨jab⟩ (jaq ⟨jab⟩ ja8 jan) jan)) (jaq (jbl (jaq ⟨jab⟩ (jaq ⟨jab⟩ ja8 jan) jan)) (jaq (jbl (jaq ⟨jab⟩ (jaq ⟨jab⟩ ja8 jan) jan)) ja8 jaZ) jaZ) jaZ) jaZ)))) ⟨jap⟩)
  (jcS (jii (jam jbd (pv 1) jab (jas _)) (jel (jfV (jfW (jaq (jbl (jaq ⟨jab⟩ (jaq ⟨jab⟩ ja8 jan) jan)) (jaq (jbl (jaq ⟨jab⟩ (jaq ⟨jab⟩ ja8 jan) jan)) (jaq (jbl (jaq ⟨jab⟩ (jaq ⟨jab⟩ ja8 jan) jan)) (jaq (jbl (jaq ⟨jab⟩ (jaq ⟨jab⟩ ja8 jan) jan)) (jaq (jbl (jaq ⟨jab⟩ (jaq ⟨jab⟩ ja8 jan) jan)) (jaq (jbl (jaq ⟨jab⟩ (jaq ⟨jab⟩ ja8 jan) jan)) ja8 jaZ) jaZ) jaZ) jaZ) jaZ) jaZ)))) ⟨jap⟩)
  ⟨(jae (jao (ja1 rfl (N':=["k"]) (ix:=[]) (by walk_at "cs") (jaI rfl T.m_range (jaa (jah jbf jab (jah jaE (jah jax (pv 0) jab) jab)) jad jaR)) (fun _ _ _ _=>jaw (i:=0) (show (["k"]:List Str).Nodup from by decide +kernel) rfl (Or.inl rfl)) (fun _ _ _ _=>ja2) (fun _ _ _ _=>(jbc (jaa (pv 0) (jaa (jah jay (pv 0) (pv 0)) jad jaR) jaf))))))⟩)))))),?_⟩
 have q':∀ps,ps∈jgg->∀v H',Same H H'->IsL ps v H'->Q v H':=fun ps hp v H' s' ⟨l,rs,e,h1,h2⟩=>by
  subst e;exact q l rs ps H' s' h1 h2 hp
 have m1:=xaq (n / 6) (show (6:Int)≠0 by decide);have m2:=xam (n / 6) (show (0:Int)<6 by decide);refine⟨_,rfl,_,_,rfl,rfl,(by show (0:Int)<6;decide),?_⟩;have rows:∀{σ:L2.St} {te:TE} {D:Ends} {ps:List (Int × Int)},D.rt=Q->ps∈jgg->Mk σ te (IsL ps)->ji5 te D σ H:=fun hD hp h=>jmT h fun v H' s' i=>by rw[hD];exact q' _ hp v H' s' i
 refine jgc (m:=n % 6) rfl (fun _=>rows (ps:=[(0,0),(1,0),(0,1)]) rfl (by decide) ?_) fun c0=>?_
 ·exact jgb (jaJ (ja5 jb4 jb4) (jaJ (ja5 jb4 jb4) (jaJ (ja5 jb4 jb4) jdx))) (by decide)
 refine jgc (m:=n % 6) rfl (fun _=>rows (ps:=[(0,0),(1,0),(1,1),(0,1)]) rfl (by decide) ?_) fun c1=>?_
 ·exact jgb (jaJ (ja5 jb4 jb4) (jaJ (ja5 jb4 jb4) (jaJ (ja5 jb4 jb4) (jaJ (ja5 jb4 jb4) jdx)))) (by decide)
 refine jgc (m:=n % 6) rfl (fun _=>rows (ps:=[(0,0),(3,0),(1,2)]) rfl (by decide) ?_) fun c2=>?_
 ·exact jgb (jaJ (ja5 jb4 jb4) (jaJ (ja5 jb4 jb4) (jaJ (ja5 jb4 jb4) jdx))) (by decide)
 refine jgc (m:=n % 6) rfl (fun _=>rows (ps:=[(0,0),(2,0),(3,1),(1,2)]) rfl (by decide) ?_) fun c3=>?_
 ·exact jgb (jaJ (ja5 jb4 jb4) (jaJ (ja5 jb4 jb4) (jaJ (ja5 jb4 jb4) (jaJ (ja5 jb4 jb4) jdx)))) (by decide)
 refine jgc (m:=n % 6) rfl (fun _=>rows (ps:=[(0,1),(1,0),(3,0),(4,1),(3,3),(1,3)]) rfl (by decide) ?_) fun c4=>?_
 ·exact jgb (jaJ (ja5 jb4 jb4) (jaJ (ja5 jb4 jb4) (jaJ (ja5 jb4 jb4) (jaJ (ja5 jb4 jb4) (jaJ (ja5 jb4 jb4) (jaJ (ja5 jb4 jb4) jdx)))))) (by decide)
 walk_at "rf";refine⟨by decide,.o (by decide) (by decide),by decide,by omega,by omega,fun acc hacc=>?_⟩;obtain⟨m,em⟩:∃m:Nat,(3+n / 6 % 6).toNat=m:=⟨_,rfl⟩;have m3:3<=m:=by omega
 have m8:m<=8:=by omega
 rw[em];refine jml (fun i y H=>∃r,y=.ref r/\H r=some (.tup [.int (i:Int),.int ((i:Int)*(i:Int))])) (fun i y H H' h s=>?_) (by omega) hacc (fun i H3 R hi s3 hR=>?_) (fun ys H3 s3 e3 l3 hp=>?_)
 ·obtain⟨r,e,h⟩:=h;exact⟨r,e,s _ _ h⟩
 ·walk_at "rf";have z:(0:Int)+(i:Int)=(i:Int):=xbA _;rw[z];refine⟨.o (by omega) (by omega),.o (by omega) (by omega),by show 2<=sizeLine;decide,fun p hp=>?_⟩;exact hR _ _ (Same.new hp _) ⟨p,rfl,upd_same⟩
 ·obtain⟨rs,rfl,hr⟩:=jiS (φ:=fun i r=>H3 r=some (.tup [.int (i:Int),.int ((i:Int)*(i:Int))])) ys hp;rw[xaa] at l3;refine q acc rs (jfy m) H3 s3 e3 (jkl (by unfold jfy;rw[xaa,xbf,l3]) fun i r p h1 h2=>?_) ?_
  ·have hi:i<m:=by
    have:=(xan.mp h1).1;omega
   unfold jfy at h2;rw[xai,List.getElem?_range hi] at h2;cases h2;exact hr i r h1
  ·have:m=3\/m=4\/m=5\/m=6\/m=7\/m=8:=by omega
   rcases this with rfl | rfl | rfl | rfl | rfl | rfl<;>decide
def jmV:Sp:=fun vs H Q _=>∃n:Int,vs=[.int n]/\0<=n/\∀(t a b:Addr) (u v:Tri) (H':Hp),Same H H'->H' t=some (.tup [.ref a,.ref b])->A3 H' a u->A3 H' b v->(-3<=u.x/\u.x<=3)/\(-3<=u.y/\u.y<=3)/\(-3<=u.z/\u.z<=3)->(-3<=v.x/\v.x<=3)/\(-3<=v.y/\v.y<=3)/\(-3<=v.z/\v.z<=3)->¬(u.x*v.y=u.y*v.x/\u.x*v.z=u.z*v.x/\u.y*v.z=u.z*v.y)->Q (.ref t) H'
theorem jmW (T:Tx K mg t1 t2) (F:At K mg "_law_arrows" jcf ["number"] []):jaz P w K mg base CX0 1 "_law_arrows" ["number"] [] jmV:=by
 refine F.ok jcZ (fun vs H Q E h=>?_) (fun f cdv A outer s H vs Q E hr h=>?_)
 ·obtain⟨n,rfl,_⟩:=h;rfl
 obtain⟨n,rfl,n0,q⟩:=h;have S:=jcZ;refine⟨_,(jac (jal (i:=1) S.nd rfl (Or.inl rfl) (jaU (jaa (jah ja7 (jah jaE (pv 0) jab) jab) (jaa (jah ja7 (jah jaE (jah jax (pv 0) jab) jab) jab) (jaa (jah ja7 (jah jaE (jah jax (pv 0) jab) jab) jab) jad jaR) jaR) jaR)))
  (jac (jal (i:=0) S.nd rfl (Or.inl rfl) (jah jax (pv 0) jab))
  (jac (jal (i:=2) S.nd rfl (Or.inl rfl) (jaU (jaa (jah ja7 (jah jaE (pv 0) jab) jab) (jaa (jah ja7 (jah jaE (jah jax (pv 0) jab) jab) jab) (jaa (jah ja7 (jah jaE (jah jax (pv 0) jab) jab) jab) jad jaR) jaR) jaR)))
  (jac (jaK (PW.pt (jdk (jam jbd (jah jay (jai jak (pv 1) jab) (jai jak (pv 2) jab)) (jah jay (jai jak (pv 1) jab) (jai jak (pv 2) jab)) (jas _)) (jdk (jam jbd (jah jay (jai jak (pv 1) jab) (jai jak (pv 2) jab)) (jah jay (jai jak (pv 1) jab) (jai jak (pv 2) jab)) (jas _)) (jc7 (jam jbd (jah jay (jai jak (pv 1) jab) (jai jak (pv 2) jab)) (jah jay (jai jak (pv 1) jab) (jai jak (pv 2) jab)) (jas _))))))
  (jae (jao (jbc (jaa (jaU (jaa jab (jaa jab (jaa (jah ja7 (jah jaE (pv 0) jab) jab) jad jaR) jan) jan)) (jaa (jaU (jaa jab (jaa jab (jaa (jah ja7 (jah jaE (jah jax (pv 0) jab) jab) jab) jad jaR) jan) jan)) jad je0) je0))))
  jap)
  (jae (jao (jbc (jaa (pv 1) (jaa (pv 2) jad jaf) jaf)))))))),?_⟩
 have e7:∀k:Int,0<=k % 7/\k % 7<7:=fun k=>⟨xaq _ (by decide),xam _ (by decide)⟩;have e5:∀k:Int,0<=k % 5/\k % 5<5:=fun k=>⟨xaq _ (by decide),xam _ (by decide)⟩;have f7:Fit 7:=.o (by decide) (by decide);have f49:Fit 49:=.o (by decide) (by decide);have f343:Fit 343:=.o (by decide) (by decide);have f5:Fit 5:=.o (by decide) (by decide);have sl3:3<=sizeLine:=by decide
 have sl2:2<=sizeLine:=by decide
 walk_at "rf";refine⟨by decide,by decide,f7,by decide,by decide,f49,by decide,sl3,fun p hp=>ja9 hp fun J1 j1 k1=>⟨by decide,f343,by decide,by decide,f7,by decide,by decide,f49,by decide,sl3,fun p1 hp1=>ja9 hp1 fun J2 j2 k2=>?_⟩⟩;have a1:=e7 n;have a2:=e7 (n / 7);have a3:=e7 (n / 49);have a4:=e7 (n / 343);have a5:=e7 (n / 343 / 7);have a6:=e7 (n / 343 / 49);have qa:=SqL.of (K:=K) (j2 _ _ k1);have qb:=SqL.of (K:=K) k2;have ka:=j2 _ _ k1;generalize n % 7=x1 at *
 generalize n / 7 % 7=x2 at *
 generalize n / 49 % 7=x3 at *
 generalize n / 343 % 7=y1 at *
 generalize n / 343 / 7 % 7=y2 at *
 generalize n / 343 / 49 % 7=y3 at *
 have fin:¬((x1-3)*(y2-3)=(x2-3)*(y1-3)/\(x1-3)*(y3-3)=(x3-3)*(y1-3)/\(x2-3)*(y3-3)=(x3-3)*(y2-3))->∀t H',Same J2 H'->H' t=some (.tup [.ref p,.ref p1])->Q (.ref t) H':=fun c t H' s' e=>q t p p1 ⟨x1-3,x2-3,x3-3⟩ ⟨y1-3,y2-3,y3-3⟩ H' (j1.trans (j2.trans s')) e (s' _ _ ka) (s' _ _ k2) ⟨⟨by show -3<=x1-3;omega,by show x1-3<=3;omega⟩,⟨by show -3<=x2-3;omega,by show x2-3<=3;omega⟩,by show -3<=x3-3;omega,by show x3-3<=3;omega⟩ ⟨⟨by show -3<=y1-3;omega,by show y1-3<=3;omega⟩,⟨by show -3<=y2-3;omega,by show y2-3<=3;omega⟩,by show -3<=y3-3;omega,by show y3-3<=3;omega⟩ c;have mk:¬((x1-3)*(y2-3)=(x2-3)*(y1-3)/\(x1-3)*(y3-3)=(x3-3)*(y1-3)/\(x2-3)*(y3-3)=(x3-3)*(y2-3))->2<=sizeLine/\∀r:Addr,J2 r=none->Q (V.ref r) (upd J2 r (HO.tup [V.ref p,V.ref p1])):=fun c=>⟨sl2,fun r hr=>fin c r _ (Same.new hr _) upd_same⟩;walk_at "gf";refine jb2 (fun c1=>?_) fun c1=>mk fun z=>c1 z.1;walk_at "gf";refine jb2 (fun c2=>?_) fun c2=>mk fun z=>c2 z.2.1;walk_at "gf";refine jb2 (fun c3=>?_) fun c3=>mk fun z=>c3 z.2.2;walk_at "gf";intro a ha;refine ja9 ha fun J3 j3 k3=>⟨by decide,f5,by decide,sl3,fun b hb=>ja9 hb fun J4 j4 k4=>⟨sl2,fun r hr=>?_⟩⟩;have b1:=e5 (n / 343);have b2:=e5 (n / 343 / 5);refine q r a b ⟨1,0,n / 343 % 5-2⟩ ⟨0,1,n / 343 / 5 % 5-2⟩ _ (j1.trans (j2.trans (j3.trans (j4.trans (Same.new hr _))))) upd_same (Same.new hr _ _ _ (j4 _ _ k3)) (Same.new hr _ _ _ k4) ⟨⟨by show (-3:Int)<=1;decide,by show (1:Int)<=3;decide⟩,⟨by show (-3:Int)<=0;decide,by show (0:Int)<=3;decide⟩,by show -3<=n / 343 % 5-2;omega,by show n / 343 % 5-2<=3;omega⟩ ⟨⟨by show (-3:Int)<=0;decide,by show (0:Int)<=3;decide⟩,⟨by show (-3:Int)<=1;decide,by show (1:Int)<=3;decide⟩,by show -3<=n / 343 / 5 % 5-2;omega,by show n / 343 / 5 % 5-2<=3;omega⟩ fun z=>?_;have z1:(1:Int)*1=0*0:=z.1;exact absurd z1 (by decide)
def RwAt (H:Hp) (l:Addr) (rs:List Addr) (us:List Tri):Prop:=H l=some (.lst (rs.map V.ref))/\All2 (A3 H) rs us
variable {us:List Tri}
theorem RwAt.keep {l:Addr} (h:RwAt H l rs us) (s:Same H H'):RwAt H' l rs us:=⟨s _ _ h.1,h.2.mono fun _ _ e=>s _ _ e⟩
def jaH (s u v:Tri) (p:Int × Int):Tri:=⟨s.x+p.1*u.x+p.2*v.x,s.y+p.1*u.y+p.2*v.y,s.z+p.1*u.z+p.2*v.z⟩
def tsm (d:Int) (u:Tri):Prop:=(-d<=u.x/\u.x<=d)/\(-d<=u.y/\u.y<=d)/\(-d<=u.z/\u.z<=d)
structure RowD (us:List Tri) (w:Int):Prop where
 w1:1<=w
 w3:w<=3
 ex:∃(s u v:Tri) (ps:List (Int × Int)),ps∈jgg/\us=ps.map (jaH s u v)/\tsm 1000001 s/\tsm 3 u/\tsm 3 v/\¬(u.x*v.y=u.y*v.x/\u.x*v.z=u.z*v.x/\u.y*v.z=u.z*v.y)
def jkm:Sp:=fun vs H Q _=>∃n:Int,vs=[.int n]/\0<=n/\∀(t l:Addr) (rs:List Addr) (us:List Tri) (w:Int) (H':Hp),Same H H'->H' t=some (.tup [.ref l,.int w])->RwAt H' l rs us->RowD us w->Q (.ref t) H'
def rwM (H:Hp):L2.St->Hp->Prop:=fun σ H'=>∃(l:Addr) (rs:List Addr) (ps:List (Int × Int)) (m w n:Int),σ=[some (.int n),some (.ref l),some (.int m),some (.int w),none,none,none,none]/\Same H H'/\H' l=some (.lst (rs.map V.ref))/\Prs H' rs ps/\ps∈jgg/\(m=13\/m=2000001)/\1<=w/\w<=3/\0<=n
theorem jeH:∀ps∈jgg,ps.length<=8/\3<=ps.length/\∀p∈ps,(0<=p.1/\p.1<=7)/\0<=p.2/\p.2<=49:=by decide +kernel
theorem Prs.get {ps:List (Int × Int)} (h:Prs H rs ps):∀{i:Nat} {r:Addr},rs[i]?=some r->∃p,ps[i]?=some p/\H r=some (.tup [.int p.1,.int p.2]):=by
  induction h with
  | nil=>intro i r e;cases e
  | cons h _ ih =>
    intro i r e;cases i with
    | zero=>cases e;exact⟨_,rfl,h⟩
    | succ i=>exact ih e
theorem jlq (T:Tx K mg t1 t2) (F:At K mg "_law_rows" jdh ["number"] []) (dU:jaz P w K mg base CX0 1 "_law_shape" ["number"] [] jmS) (dQ:jaz P w K mg base CX0 1 "_law_arrows" ["number"] [] jmV):jaz P w K mg base CX0 2 "_law_rows" ["number"] [] jkm:=by
 refine F.ok jd0 (fun vs H Q E h=>?_) (fun f cdv A outer s H vs Q E hr h=>?_)
 ·obtain⟨n,rfl,_⟩:=h;rfl
 obtain⟨n,rfl,n0,q⟩:=h;have S:=jd0;refine⟨_,(jac (jal (i:=1) S.nd rfl (Or.inl rfl) (jaj dU hr.m rfl jaF (jaa (pv 0) jad jaf)))
  (jac (jal (i:=0) S.nd rfl (Or.inl rfl) (jah jax (pv 0) jab))
  (jac (jal (i:=2) S.nd rfl (Or.inl rfl) (jai jak (jaU (jaa jab (jaa jab jad jan) jan)) (jah jaE (pv 0) jab)))
  (jac (jal (i:=3) S.nd rfl (Or.inl rfl) (jah jbf jab (jah jaE (jah jax (pv 0) jab) jab)))
  (jbb (rwM H) (jal (i:=0) S.nd rfl (Or.inl rfl) (jah jax (pv 0) jab))
  (jac (jfF (jaj dQ hr.m rfl jaF (jaa (pv 0) jad jaf)) (jeV rfl (ja0 (jaw (i:=4) S.nd rfl (Or.inr rfl)) (ja0 (jaw (i:=5) S.nd rfl (Or.inr rfl)) jcu))))
  (jac (jal (i:=0) S.nd rfl (Or.inl rfl) (jah jax (pv 0) jab))
  (jac (jal (i:=6) S.nd rfl (Or.inr rfl) (jaU (jaa (jah ja7 (jah jaE (pv 0) (pv 2)) (jah jax (pv 2) jab)) (jaa (jah ja7 (jah jaE (jah jax (pv 0) (pv 2)) (pv 2)) (jah jax (pv 2) jab)) (jaa (jah ja7 (jah jaE (jah jax (pv 0) (jah jay (pv 2) (pv 2))) (pv 2)) (jah jax (pv 2) jab)) jad jaR) jaR) jaR)))
  (jac (jf4 (i:=7) rfl S.nd rfl rfl (N':=["i","l","start","p","q"]) (ix:=[6,4,5]) (xs0:=["i","l"]) (by walk_at "cs") (jbV (pv 1)) (fun _ _ _ _=>jgo (K:=K) (n:=2) rfl rfl (ja0 (jaw (i:=0) (show (["i","l","start","p","q"]:List Str).Nodup from by decide +kernel) rfl (Or.inr rfl)) (ja0 (jaw (i:=1) (show (["i","l","start","p","q"]:List Str).Nodup from by decide +kernel) rfl (Or.inr rfl)) jcu))) (fun _ _ _ _=>ja2) (fun _ _ _ _=>(ja1 rfl (N':=["j","start","i","p","l","q"]) (ix:=[2,0,3,1,4]) (CompScopeC.nest rfl rfl (by decide +kernel) (by decide +kernel) (by decide +kernel) (show ∀y:Str × NameKind,y∈_->y.2=NameKind.free->y.1∈(["start","i","p","l","q"]:List Str) from by decide +kernel) (.cons rfl (.inl rfl) rfl (.cons rfl (.inl rfl) rfl (.cons rfl (.inl rfl) rfl (.cons rfl (.inl rfl) rfl (.cons rfl (.inl rfl) rfl .nil)))))) (jaI rfl T.m_range (jaa jab jad jan)) (fun _ _ _ _=>jaw (i:=0) (show (["j","start","i","p","l","q"]:List Str).Nodup from by decide +kernel) rfl (Or.inl rfl)) (fun _ _ _ _=>ja2) (fun _ _ _ _=>(jah jbf (jah jbf (jai (jaC (K:=K) rfl) (pv 1) (pv 0)) (jah jay (pv 2) (jai (jaC (K:=K) rfl) (pv 3) (pv 0)))) (jah jay (pv 4) (jai (jaC (K:=K) rfl) (pv 5) (pv 0))))))))
  (jae (jao (jbc (jaa (pv 7) (jaa (pv 3) jad jaf) jaf))))))))))))),?_⟩
 walk_at "rf";refine⟨n,rfl,n0,fun l rs ps H1 s1 e1 h1 hp=>?_⟩;walk_at "rf";have f36:Fit 36:=.o (by decide) (by decide);have f2:Fit 2:=.o (by decide) (by decide);have f6:Fit 6:=.o (by decide) (by decide);have sl2:2<=sizeLine:=by decide
 have sl3:3<=sizeLine:=by decide
 have c0:=xaq (n / 36) (show (2:Int)≠0 by decide);have c1:=xam (n / 36) (show (0:Int)<2 by decide);have w0:=xaq (n / 36 / 2) (show (3:Int)≠0 by decide);have w1:=xam (n / 36 / 2) (show (0:Int)<3 by decide);have n36:0<=n / 36 / 6:=xaH (xaH n0 (by decide)) (by decide);refine⟨by decide,f36,sl2,fun p hp'=>ja9 hp' fun J1 j1 k1=>⟨by decide,?_⟩⟩;obtain⟨m,hm,hat⟩:∃m:Int,(m=13\/m=2000001)/\atI [V.int 13,V.int 2000001] (n / 36 % 2)=some (V.int m):=by
  have:n / 36 % 2=0\/n / 36 % 2=1:=by omega
  rcases this with e | e
  ·exact⟨13,.inl rfl,by rw[e];rfl⟩
  ·exact⟨2000001,.inr rfl,by rw[e];rfl⟩
 refine ixL (SqL.of k1) hat ⟨by decide,f2,by decide,by decide,f6,⟨l,rs,ps,m,_,_,rfl,s1.trans j1,j1 _ _ e1,h1.keep j1.t,hp,hm,by omega,by omega,n36⟩,?_⟩;clear hp h1 e1 s1 k1 j1 hp' hat hm;rintro σ H1 ⟨l,rs,ps,m,v,n,rfl,s1,e1,h1,hp,hm,v1,v3,n0⟩;have m13:13<=m/\m<=2000001:=by omega
 walk_at "rf";refine⟨n,rfl,n0,fun t a b u2 u3 H2 s2 et ea eb bu bv nz=>?_⟩;refine⟨t,rfl,_,SqT.of et,rfl,?_⟩;walk_at "rf";have fm:Fit m:=.o (by omega) (by omega);have mm:0<m*m:=xa8 (by omega) (by omega);have mm2:m*m<=2000001*2000001:=Int.mul_le_mul m13.2 m13.2 (by omega) (by omega);have f11:Fit 117649:=.o (by decide) (by decide);have em:∀k:Int,0<=k % m/\k % m<m:=fun k=>⟨xaq _ (by omega),xam _ (by omega)⟩;have b1:=em (n / 117649);have b2:=em (n / 117649 / m);have b3:=em (n / 117649 / (m*m));refine⟨by decide,f11,by omega,by decide,f2,by omega,fm,by omega,by decide,f2,fm,fm,mm,.o (by omega) (by omega),by omega,by decide,f2,sl3,fun p hp'=>ja9 hp' fun J1 j1 k1=>?_⟩;have bs:tsm 1000001 ⟨n / 117649 % m-m / 2,n / 117649 / m % m-m / 2,n / 117649 / (m*m) % m-m / 2⟩:=⟨⟨by show _<=n / 117649 % m-m / 2;omega,by show n / 117649 % m-m / 2<=_;omega⟩,⟨by show _<=n / 117649 / m % m-m / 2;omega,by show n / 117649 / m % m-m / 2<=_;omega⟩,by show _<=n / 117649 / (m*m) % m-m / 2;omega,by show n / 117649 / (m*m) % m-m / 2<=_;omega⟩;generalize hsv:(⟨n / 117649 % m-m / 2,n / 117649 / m % m-m / 2,n / 117649 / (m*m) % m-m / 2⟩:Tri)=sv at bs;have k1':A3 J1 p sv:=by rw[<- hsv];exact k1
 have e1':=j1 _ _ (s2 _ _ e1);have hps:=jeH ps hp;have lr:=h1.len;refine⟨⟨_,SqL.of e1'⟩,fun acc hacc=>?_⟩;refine jlj (fun i=>jaH sv u2 u3 (ps.getD i (0,0))) (by rw[xaa];omega) hacc (SqL.of e1') (fun i z v0 H5 R hz l0 s5 hR=>?_) (fun qs H5 s5 e5 pm py=>?_) jgv
 ·rw[xai] at hz;obtain⟨r,hr1,rfl⟩:=xa5.mp hz;obtain⟨pp,hi,he⟩:=h1.get hr1;obtain⟨v1',v2',rfl⟩:=jll l0;have en:ps.getD i (0,0)=pp:=by
   rw[xac,hi];rfl
  have hpp:=hps.2.2 pp (xas hi);refine⟨_,_,rfl,SqT.of (s5 _ _ (j1 _ _ (s2 _ _ he))),rfl,_,_,rfl,_,_,rfl,rfl,⟨[_,_],rfl,rfl⟩,?_⟩;walk_at "rf";refine⟨by decide,by decide,fun acc' hacc'=>?_⟩;refine jkX (n:=3) (fun k=>.int (tc (jaH sv u2 u3 pp) k)) (by decide) hacc' (fun k H6 R6 hk s6 hR6=>?_) (fun H6 s6 e6=>hR acc' H6 s6 hacc' (by rw[en];exact e6));have s56:=s5.trans s6;have qa:=A3.l3 (K:=K) (s56 _ _ k1');have qb:=A3.l3 (K:=K) (s56 _ _ (j1 _ _ ea));have qc:=A3.l3 (K:=K) (s56 _ _ (j1 _ _ eb));unfold L3 at qa qb qc;have tb:-3<=tc u2 k/\tc u2 k<=3:=by
   unfold tc;split
   ·exact bu.1
   ·split
    ·exact bu.2.1
    ·exact bu.2.2
  have td:-3<=tc u3 k/\tc u3 k<=3:=by
   unfold tc;split
   ·exact bv.1
   ·split
    ·exact bv.2.1
    ·exact bv.2.2
  walk_at "rf";refine ixL qa (at3 hk) (ixL qb (at3 hk) ⟨_,rfl,.o (by omega) (by omega),.o (by omega) (by omega),_,rfl,ixL qc (at3 hk) ⟨_,rfl,.o (by omega) (by omega),.o (by omega) (by omega),?_⟩⟩);have z:=hR6 H6 (Same.refl _);obtain rfl | rfl | rfl:k=0\/k=1\/k=2:=by omega
  ·exact z
  ·exact z
  ·exact z
 ·have e1:qs.map Prod.snd=ps.map (jaH sv u2 u3):=by
   rw[pm,xaa,lr];exact jeF (jaH sv u2 u3) ps (fun i=>jaH sv u2 u3 (ps.getD i (0,0))) fun i a h=>by rw[xac,h];rfl
  walk_at "rf";refine⟨sl2,fun r hr=>?_⟩;have s6:=Same.new hr (HO.tup [V.ref acc,V.int v]);refine q r acc (qs.map Prod.fst) (ps.map (jaH sv u2 u3)) v _ (s1.trans (s2.trans (j1.trans (s5.trans s6)))) upd_same ⟨s6 _ _ e5,?_⟩ ⟨v1,v3,sv,u2,u3,ps,hp,rfl,bs,bu,bv,nz⟩;rw[<- e1];clear e1 pm e5;induction qs with
  | nil=>exact .nil
  | cons x l ih=>exact .cons (s6 _ _ (py x (xaL ..))) (ih fun y hy=>py y (xar _ hy))
def jbn (w:Int) (u:Tri):Pt:=⟨u.x / gl [u.x,u.y,u.z,w],u.y / gl [u.x,u.y,u.z,w],u.z / gl [u.x,u.y,u.z,w],w / gl [u.x,u.y,u.z,w]⟩
def jfz:Sp:=fun vs H Q _=>∃(l:Addr) (rs:List Addr) (us:List Tri) (w:Int),vs=[.ref l,.int w]/\RwAt H l rs us/\us.length<=20/\(∀u∈us,tsm (2^100) u)/\1<=w/\w<=3/\∀(a:Addr) (ts:List Addr) (H':Hp),H a=none->Same H H'->Cor H' a ts (us.map (jbn w))->Q (.ref a) H'
theorem jjN (T:Tx K mg t1 t2) (F:At K mg "_law_spots" jcE ["rows","w"] []) (dj:jaz P w K mg base CX0 1 "_law_divisor" ["one","other"] [] jmL):jaz P w K mg base CX0 2 "_law_spots" ["rows","w"] [] jfz:=by
 refine F.ok jdt (fun vs H Q E h=>?_) (fun f cdv A outer s H vs Q E hr h=>?_)
 ·obtain⟨l,rs,us,v,rfl,_⟩:=h;rfl
 obtain⟨l,rs,us,v,rfl,hR,lu,hb,v1,v3,q⟩:=h;have S:=jdt;refine⟨_,(jac (jal (i:=2) S.nd rfl (Or.inl rfl) (jaU jad))
  (jac (jbA PassesOwn.never rfl (jbV (pv 0)) (jaw (i:=3) S.nd rfl (Or.inl rfl))
  (jac (jal (i:=4) S.nd rfl (Or.inl rfl) (jaj dj hr.m rfl jaF (jaa (jaj dj hr.m rfl jaF (jaa (jai jak (pv 3) jab) (jaa (jai jak (pv 3) jab) jad jaA) jaA)) (jaa (jaj dj hr.m rfl jaF (jaa (jai jak (pv 3) jab) (jaa (pv 1) jad jaf) jaA)) jad jaO) jaO)))
  (jae (jbo (jdb PySem.F.plainAttrs_list PySem.F.slot_list_append PySem.F.type_list_append jbr (pv 2) (jaa (jbc (jaa (jah jax (jai jak (pv 3) jab) (pv 4)) (jaa (jah jax (jai jak (pv 3) jab) (pv 4)) (jaa (jah jax (jai jak (pv 3) jab) (pv 4)) (jaa (jah jax (pv 1) (pv 4)) jad jaR) jaR) jaR) jaR)) jad jaZ))))))
  (jae (jao (pv 2))))),?_⟩
 have lr:=hR.2.len;walk_at "rf";refine⟨by decide,fun p hp=>?_⟩;have hpl:l≠p:=jau hR.1 hp;refine⟨⟨_,SqL.of (by rw[jar hpl];exact hR.1)⟩,?_⟩;refine jfb (K:=K) (a:=l) (xs:=rs.map V.ref) (fun i σ H2=>Same H H2/\∃(ts:List Addr) (o3 o4:Option V),σ=[some (.ref l),some (.int v),some (.ref p),o3,o4]/\H2 p=some (.lst (ts.map V.ref))/\Sps H2 ts ((us.take i).map (jbn v))) ⟨Same.new hp _,[],_,_,rfl,upd_same,.nil⟩ (fun i σ H2 _ ⟨h,_⟩=>SqL.of (h _ _ hR.1)) ?_ ?_
 ·rintro i z σ H2 hz ⟨s2,ts,o3,o4,rfl,e2,h2⟩;rw[xai] at hz;obtain⟨r,hr1,rfl⟩:=xa5.mp hz;obtain⟨u,hu,ea⟩:=hR.2.getA hr1;have qa:=A3.l3 (K:=K) (s2 _ _ ea);unfold L3 at qa;have bu:=hb u (xas hu);walk_at "rf";refine ixL qa (i:=0) rfl (ixL qa (i:=1) rfl ⟨u.x,u.y,rfl,ixL qa (i:=2) rfl ⟨u.z,v,rfl,_,_,rfl,?_⟩⟩);rw[gcd4];have gp:0<gl [u.x,u.y,u.z,v]:=jf7 (n:=v) (by simp) (by omega);have gv:gl [u.x,u.y,u.z,v]<=v:=Int.le_of_dvd (by omega) (ja4 (by simp));have gf:Fit (gl [u.x,u.y,u.z,v]):=.o (by omega) (by omega);have il:i<us.length:=(xan.mp hu).1;have lts:ts.length<1000:=by
   rw[h2.len,xaa,xak];omega
  refine⟨.inl ⟨_,SqL.of e2⟩,ixL qa (i:=0) rfl ⟨_,rfl,_,rfl,gp,gf,ixL qa (i:=1) rfl ⟨_,rfl,_,rfl,gp,gf,ixL qa (i:=2) rfl ⟨_,rfl,_,rfl,gp,gf,_,rfl,gp,gf,by show 4<=sizeLine;decide,fun a ha=>ja9 ha fun J1 j1 k1=>?_⟩⟩⟩⟩;refine⟨p,_,_,rfl,rfl,j1 _ _ e2,?_,Same.keepN (s2.trans j1) hp _,ts++[a],upd_same.trans (by rw[xah];rfl),?_⟩
  ·rw[xaa];exact jaL lts
  ·have st:=SameT.upd (ys:=ts.map V.ref++[V.ref a]) (j1 _ _ e2);rw[xa3,hu,Option.toList_some,xah];refine (h2.keep (j1.t.trans st)).app (.cons ⟨st _ _ k1,?_⟩ .nil);have dv:∀k d:Int,0<d->-(2^100)<=k/\k<=2^100->Sm2 (k / d):=fun k d hd ⟨h1,h2⟩=>by
    unfold Sm2;have n1:(k / d).natAbs<=k.natAbs:=xa6 k d;have n2:k.natAbs<=2^100:=by omega
    exact xa1 (xaA n1 n2) (by decide)
   exact⟨dv _ _ gp bu.1,dv _ _ gp bu.2.1,dv _ _ gp bu.2.2,dv _ _ gp ⟨by omega,by omega⟩⟩
 ·rintro σ H2 ⟨s2,ts,o3,o4,rfl,e2,h2⟩;walk_at "rf";rw[xaa,lr,xa2] at h2;exact q p ts H2 hp s2 ⟨e2,h2⟩
theorem All2.rev {α β:Type} {R:α->β->Prop} {as:List α} {bs:List β} (h:All2 R as bs):All2 R as.reverse bs.reverse:=by
  induction h with
  | nil=>exact .nil
  | cons h _ ih =>
    rw[xaZ,xaZ];exact ih.app (.cons h .nil)
def jmX:Sp:=fun vs H Q _=>∃(l:Addr) (rs:List Addr) (us:List Tri) (n:Int),vs=[.ref l,.int n]/\RwAt H l rs us/\us≠[]/\us.length<=20/\0<=n/\∀(a:Addr) (ts:List Addr) (k:Nat) (b:Bool) (H':Hp),Same H H'->RwAt H' a ts (if b=true then (rot k us).reverse else rot k us)->k<us.length->Q (.ref a) H'
theorem jmY (T:Tx K mg t1 t2) (F:At K mg "_law_turned" jcg ["rows","number"] []):jaz P w K mg base CX0 1 "_law_turned" ["rows","number"] [] jmX:=by
 refine F.ok jc0 (fun vs H Q E h=>?_) (fun f cdv A outer s H vs Q E hr h=>?_)
 ·obtain⟨l,rs,us,n,rfl,_⟩:=h;rfl
 obtain⟨l,rs,us,n,rfl,hR,un,lu,n0,q⟩:=h;have S:=jc0;refine⟨_,(jac (jal (i:=2) S.nd rfl (Or.inl rfl) (jah jaE (pv 1) (jat jaB rfl T.m_len PySem.boot_len (jaa (pv 0) jad jaf))))
  (jac (jal (i:=3) S.nd rfl (Or.inl rfl) (jah jb1 (jaV jba (pv 0) (jaQ (pv 2)) jaP) (jaV jba (pv 0) jaP (jaQ (pv 2)))))
  (jac (jaK (jam jbd (jah jaE (jah jax (pv 1) jab) jab) jab (jas _))
  (jae (jao (jen (pv 3) (jd9 jcv jab))))
  jap)
  (jae (jao (pv 3)))))),?_⟩
 have lr:=hR.2.len;have kl:=SqL.of (K:=K) hR.1;have l1:0<us.length:=List.length_pos_iff.mpr un;have k0:=xaq n (show (us.length:Int)≠0 by omega);have k1:=xam n (show 0<(us.length:Int) by omega);walk_at "rf";refine⟨_,.inl kl,?_⟩;rw[xaa,lr];obtain⟨k,ek⟩:∃k:Nat,n % (us.length:Int)=(k:Int):=⟨(n % (us.length:Int)).toNat,by omega⟩;rw[ek];refine⟨by omega,l,_,rfl,kl,fun a1 n1=>?_⟩;rw[jbE];refine ja9 n1 fun J1 j1 i1=>⟨l,_,rfl,SqL.of (j1 _ _ hR.1),fun a2 n2=>?_⟩;rw[jbF];refine ja9 n2 fun J2 j2 i2=>⟨a1,a2,_,_,rfl,rfl,j2 _ _ i1,i2,?_,fun a3 n3=>ja9 n3 fun J3 j3 i3=>⟨by decide,.o (by decide) (by decide),by decide,?_⟩⟩
 ·rw[xak,xao,xaa];exact xaI (jaL (by omega))
 have sj:=j1.trans (j2.trans j3);have h3:RwAt J3 a3 (rot k rs) (rot k us):=by
  refine⟨?_,((hR.2.drop k).app (hR.2.take k)).mono fun _ _ e=>sj _ _ e⟩;rw[i3];unfold rot;rw[xah,xaK,xaM]
 have kl2:k<us.length:=by omega
 refine jb2 (fun c=>?_) fun c=>q a3 _ k false J3 sj h3 kl2;refine⟨_,rfl,_,rfl,rfl,a3,_,rfl,SqL.of i3,fun a4 n4=>ja9 n4 fun J4 j4 i4=>?_⟩;refine q a4 (rot k rs).reverse k true J4 (sj.trans j4) ⟨?_,(h3.2.rev).mono fun _ _ e=>j4 _ _ e⟩ kl2;rw[i4];unfold rot;rw[xbc,xah,xaK,xaM]
theorem All2.mem {α β:Type} {R:α->β->Prop} {as:List α} {bs:List β} (h:All2 R as bs) {a:α} (m:a∈as):∃b∈bs,R a b:=by
 obtain⟨i,hi⟩:=xaP m;obtain⟨b,hb,r⟩:=h.getA hi;exact⟨b,xas hb,r⟩
theorem jkn (h:i<rs.length):rs[i]?=some (ad rs i):=by
 unfold ad;rw[xac,xab h];rfl
theorem A3.rds {a:Addr} {u:Tri} (h:A3 H a u):Rds K H (.ref a) (.list [.int u.x,.int u.y,.int u.z]):=.lst (SqL.of h) (.cons (.int _) (.cons (.int _) (.cons (.int _) .nil)))
theorem jjO {acc:Addr} (u:Tri) (hacc:H1 acc=none)
  (hs:∀(k:Nat) (H3:Hp) (R:V->Hp->Prop),k<3->Same H1 H3->R (.int (tc u k)) H3->te (some (.int (0+(k:Int)))::ρ) H3 R)
  (hd:∀H',Same H1 H'->A3 H' acc u->Z H'):CompGo (Itr 0 (Int.toNat 3)) ρ (jbw 0) jbR te acc Z H1 :=
 jkX (n:=3) (fun k=>.int (tc u k)) (by decide) hacc (fun k H3 R hk s3 hR=>hs k H3 R hk s3 (hR H3 (Same.refl _))) (fun H' s' e'=>hd H' s' e')
theorem jmZ {acc:Addr} (f:Nat->Tri) (hn:n<1000) (hacc:H1 acc=none)
  (hs:∀(i:Nat) (H3:Hp) (R:V->Hp->Prop),i<n->Same H1 H3->(∀r H4,Same H3 H4->H3 r=none->A3 H4 r (f i)->R (.ref r) H4)->te (some (.int (0+(i:Int)))::ρ) H3 R)
  (hd:∀(ps:List (Addr × Tri)) H',Same H1 H'->H' acc=some (.lst (rfs ps))->ps.map Prod.snd=(List.range n).map f->(∀p∈ps,A3 H' p.1 p.2)->Z H'):CompGo (Itr 0 n) ρ (jbw 0) jbR te acc Z H1:=by
 refine jdF (fun i xs H=>Acc3 f H1 acc i xs H) (.start hacc) ?_ ?_
 ·rintro i xs H hi A;have lx:xs.length=i:=by
   obtain⟨_,_,ps,rfl,hl,_⟩:=A;unfold rfs;rw[xaa,xaa,hl]
  refine hs i H _ hi A.1 fun r H4 s4 nr er=>?_;obtain⟨h1,h2⟩:=A.step hacc s4 nr er;exact⟨h1,jaL (by omega),h2⟩
 ·rintro xs H ⟨g1,g2,ps,rfl,hl,hm,hp⟩;exact hd ps H g1 g2 hm fun p h=>(hp p h).1
theorem jg8 {H:Hp}:∀(ps:List (Addr × Tri)),(∀p∈ps,A3 H p.1 p.2)->All2 (A3 H) (ps.map Prod.fst) (ps.map Prod.snd)
 | [],_=>.nil
 | p::ps,h=>.cons (h p (xaL ..)) (jg8 ps fun x hx=>h x (xar _ hx))
def jhI (u v:Tri):Tri:=⟨u.x-v.x,u.y-v.y,u.z-v.z⟩
variable {v s:Tri}
theorem tc3 {f:Int->Int->Int} {u:Tri} {k:Nat} (hk:k<3):tc ⟨f u.x v.x,f u.y v.y,f u.z v.z⟩ k=f (tc u k) (tc v k):=by
 obtain rfl | rfl | rfl:k=0\/k=1\/k=2:=by omega
 ·rfl
 ·rfl
 ·rfl
theorem dfc {l x acc:Addr} {u:Tri} {i:Int} (kl:SqL K H1 l xs) (hi:atI xs i=some (.ref x)) (hj:atI xs j=some (.ref y)) (hx:A3 H1 x u) (hy:A3 H1 y v) (hacc:H1 acc=none) (hd:∀H',Same H1 H'->A3 H' acc (jhI u v)->Z H') :
  CompGo (Itr 0 (Int.toNat 3)) [some (.ref l)] (jbw 0) jbR (tOp (rI0 fun i j=>V.int (i-j)) (tOp (jkS K) (tOp (jkS K) (jhj 1) (tC (V.int i))) (jhj 0)) (tOp (jkS K) (tOp (jkS K) (jhj 1) (tC (V.int j))) (jhj 0))) acc Z H1:=by
 refine jjO (jhI u v) hacc (fun k H3 R hk s3 hR=>?_) hd;walk_at "rf";refine ixL (s3.seq kl) hi (ixL (SqL.of (s3 _ _ hx)) (at3 hk) (ixL (s3.seq kl) hj (ixL (SqL.of (s3 _ _ hy)) (at3 hk) ⟨_,rfl,_,rfl,?_⟩)));rw[show tc (jhI u v) k=tc u k-tc v k from tc3 (f:=fun a b=>a-b) hk] at hR;exact hR
def slM (H:Hp) (l:Addr) (n m:Int):L2.St->Hp->Prop:=fun σ H'=>H'=H/\σ=[some (.ref l),some (.int n),some (.int (n % 6)),some (.int (n / 6 % m)),none,none,none]--@@CUT
def crs (u v:Tri):Tri:=⟨u.y*v.z-u.z*v.y,u.z*v.x-u.x*v.z,u.x*v.y-u.y*v.x⟩
def e2 (a b c:Int × Int):Int:=(b.1-a.1)*(c.2-a.2)-(b.2-a.2)*(c.1-a.1)
theorem jdy {w:Int} {u:Tri} (w1:1<=w):∃g:Int,0<g/\(jbn w u).x*g=u.x/\(jbn w u).y*g=u.y/\(jbn w u).z*g=u.z/\(jbn w u).w*g=w :=
 ⟨gl [u.x,u.y,u.z,w],jf7 (n:=w) (by simp) (by omega),xat (ja4 (ns:=[u.x,u.y,u.z,w]) (by simp)),xat (ja4 (ns:=[u.x,u.y,u.z,w]) (by simp)),xat (ja4 (ns:=[u.x,u.y,u.z,w]) (by simp)),xat (ja4 (ns:=[u.x,u.y,u.z,w]) (by simp))⟩
theorem jdz {n:Int} (h:0<g):sgn (n*g)=sgn n:=by
 unfold sgn;have a:n*g>0↔n>0:=⟨fun z=>Int.lt_of_not_ge fun y=>absurd (Int.mul_nonpos_of_nonpos_of_nonneg y (Int.le_of_lt h)) (by omega),fun z=>xa8 z h⟩;have b:n*g<0↔n<0:=⟨fun z=>Int.lt_of_not_ge fun y=>absurd (Int.mul_nonneg y (Int.le_of_lt h)) (by omega),fun z=>Int.mul_neg_of_neg_of_pos z h⟩;simp only[a,b]
def axv (k:Int) (n:Tri):Int:=if k=0 then n.x else if k=1 then -n.y else n.z
theorem jgd {w:Int} {u:Tri} {a b c:Int × Int} (w1:1<=w) (k0:0<=k) (k2:k<=2):∃G:Int,0<G/\jaG k (jbn w (jaH s u v a)) (jbn w (jaH s u v b)) (jbn w (jaH s u v c))*G=axv k (crs u v)*e2 a b c*w:=by
 obtain⟨g1,p1,x1,y1,z1,w1'⟩:=jdy (u:=jaH s u v a) w1;obtain⟨g2,p2,x2,y2,z2,w2'⟩:=jdy (u:=jaH s u v b) w1;obtain⟨g3,p3,x3,y3,z3,w3'⟩:=jdy (u:=jaH s u v c) w1;refine⟨g1*g2*g3,xa8 (xa8 p1 p2) p3,?_⟩;generalize jbn w (jaH s u v a)=A at *
 generalize jbn w (jaH s u v b)=B at *
 generalize jbn w (jaH s u v c)=C at *
 obtain rfl | rfl | rfl:k=0\/k=1\/k=2:=by omega
 ·show jcT A.y A.z A.w B.y B.z B.w C.y C.z C.w*(g1*g2*g3)=(u.y*v.z-u.z*v.y)*e2 a b c*w;have e:jcT A.y A.z A.w B.y B.z B.w C.y C.z C.w*(g1*g2*g3)=jcT (A.y*g1) (A.z*g1) (A.w*g1) (B.y*g2) (B.z*g2) (B.w*g2) (C.y*g3) (C.z*g3) (C.w*g3):=by unfold jcT;grind
  rw[e,y1,z1,w1',y2,z2,w2',y3,z3,w3'];unfold jcT jaH e2;grind
 ·show jcT A.x A.z A.w B.x B.z B.w C.x C.z C.w*(g1*g2*g3)=-(u.z*v.x-u.x*v.z)*e2 a b c*w;have e:jcT A.x A.z A.w B.x B.z B.w C.x C.z C.w*(g1*g2*g3)=jcT (A.x*g1) (A.z*g1) (A.w*g1) (B.x*g2) (B.z*g2) (B.w*g2) (C.x*g3) (C.z*g3) (C.w*g3):=by unfold jcT;grind
  rw[e,x1,z1,w1',x2,z2,w2',x3,z3,w3'];unfold jcT jaH e2;grind
 ·show jcT A.x A.y A.w B.x B.y B.w C.x C.y C.w*(g1*g2*g3)=(u.x*v.y-u.y*v.x)*e2 a b c*w;have e:jcT A.x A.y A.w B.x B.y B.w C.x C.y C.w*(g1*g2*g3)=jcT (A.x*g1) (A.y*g1) (A.w*g1) (B.x*g2) (B.y*g2) (B.w*g2) (C.x*g3) (C.y*g3) (C.w*g3):=by unfold jcT;grind
  rw[e,x1,y1,w1',x2,y2,w2',x3,y3,w3'];unfold jcT jaH e2;grind
theorem jg9 {w:Int} {a b c d:Tri} (w1:1<=w):∃G:Int,0<G/\hgt (jaG 0 (jbn w a) (jbn w b) (jbn w c)) (-jaG 1 (jbn w a) (jbn w b) (jbn w c)) (jaG 2 (jbn w a) (jbn w b) (jbn w c)) (jaG 3 (jbn w a) (jbn w b) (jbn w c)) (jbn w d)*G=w*(((b.y-a.y)*(c.z-a.z)-(b.z-a.z)*(c.y-a.y))*(d.x-a.x)+((b.z-a.z)*(c.x-a.x)-(b.x-a.x)*(c.z-a.z))*(d.y-a.y)+((b.x-a.x)*(c.y-a.y)-(b.y-a.y)*(c.x-a.x))*(d.z-a.z)):=by
 obtain⟨g1,p1,x1,y1,z1,w1'⟩:=jdy (u:=a) w1;obtain⟨g2,p2,x2,y2,z2,w2'⟩:=jdy (u:=b) w1;obtain⟨g3,p3,x3,y3,z3,w3'⟩:=jdy (u:=c) w1;obtain⟨g4,p4,x4,y4,z4,w4'⟩:=jdy (u:=d) w1;refine⟨g1*g2*g3*g4,xa8 (xa8 (xa8 p1 p2) p3) p4,?_⟩;generalize jbn w a=A at *
 generalize jbn w b=B at *
 generalize jbn w c=C at *
 generalize jbn w d=D at *
 show (jcT A.y A.z A.w B.y B.z B.w C.y C.z C.w*D.x+-jcT A.x A.z A.w B.x B.z B.w C.x C.z C.w*D.y+jcT A.x A.y A.w B.x B.y B.w C.x C.y C.w*D.z-jcT A.x A.y A.z B.x B.y B.z C.x C.y C.z*D.w)*(g1*g2*g3*g4)=_;have e:(jcT A.y A.z A.w B.y B.z B.w C.y C.z C.w*D.x+-jcT A.x A.z A.w B.x B.z B.w C.x C.z C.w*D.y+jcT A.x A.y A.w B.x B.y B.w C.x C.y C.w*D.z-jcT A.x A.y A.z B.x B.y B.z C.x C.y C.z*D.w)*(g1*g2*g3*g4)=jcT (A.y*g1) (A.z*g1) (A.w*g1) (B.y*g2) (B.z*g2) (B.w*g2) (C.y*g3) (C.z*g3) (C.w*g3)*(D.x*g4)+-jcT (A.x*g1) (A.z*g1) (A.w*g1) (B.x*g2) (B.z*g2) (B.w*g2) (C.x*g3) (C.z*g3) (C.w*g3)*(D.y*g4)+jcT (A.x*g1) (A.y*g1) (A.w*g1) (B.x*g2) (B.y*g2) (B.w*g2) (C.x*g3) (C.y*g3) (C.w*g3)*(D.z*g4)-jcT (A.x*g1) (A.y*g1) (A.z*g1) (B.x*g2) (B.y*g2) (B.z*g2) (C.x*g3) (C.y*g3) (C.z*g3)*(D.w*g4):=by unfold jcT;grind
 rw[e,x1,y1,z1,w1',x2,y2,z2,w2',x3,y3,z3,w3',x4,y4,z4,w4'];unfold jcT;grind
def qt (qs:List (Int × Int)) (i:Nat):Int × Int:=qs.getD i (0,0)
def bdP (w:Int) (s u v:Tri) (qs:List (Int × Int)):List Pt:=qs.map fun p=>jbn w (jaH s u v p)
theorem jbk {w:Int} {u:Tri} {qs:List (Int × Int)}:(bdP w s u v qs).length=qs.length:=xaa _
theorem jbQ {w:Int} {u:Tri} {qs:List (Int × Int)} (h:i<qs.length):pt (bdP w s u v qs) i=jbn w (jaH s u v (qt qs i)):=by
 unfold pt bdP qt;rw[xac,xac,xai,xab h];rfl
theorem jha {x y w:Int} (h:sgn x=sgn y) (hw:1<=w):sgn (c*x*w)=sgn (c*y*w):=by
 rw[jdz (n:=c*x) (g:=w) (by omega),jdz (n:=c*y) (g:=w) (by omega)];have cx:∀z:Int,sgn (c*z)=sgn c*sgn z:=fun z=>by
  unfold sgn;rcases xbQ c 0 with hc | hc | hc
  ·rcases xbQ z 0 with hz | hz | hz
   ·have:=Int.mul_pos_of_neg_of_neg hc hz;rw[if_pos this,if_neg (by omega),if_pos hc,if_neg (by omega),if_pos hz];rfl
   ·rw[hz,Int.mul_zero,if_neg (by omega),if_neg (by omega),if_neg (by omega),if_pos hc];rfl
   ·have:=Int.mul_neg_of_neg_of_pos hc hz;rw[if_neg (by omega),if_pos this,if_neg (by omega),if_pos hc,if_pos hz];rfl
  ·rw[hc,xa0,if_neg (by omega),if_neg (by omega),xa0]
  ·rcases xbQ z 0 with hz | hz | hz
   ·have:=Int.mul_neg_of_pos_of_neg hc hz;rw[if_neg (by omega),if_pos this,if_pos hc,if_neg (by omega),if_pos hz];rfl
   ·rw[hz,Int.mul_zero,if_neg (by omega),if_neg (by omega),if_pos hc];rfl
   ·have:=xa8 hc hz;rw[if_pos this,if_pos hc,if_pos hz];rfl
 rw[cx,cx,h]
theorem jjP {x y w:Int} (hc:c≠0) (hw:1<=w) (h:sgn (c*x*w)=sgn (c*y*w)):sgn x=sgn y:=by
 have k:=jha (c:=c) h (Int.le_refl 1);rw[Int.mul_one,Int.mul_one] at k;have e:∀z,c*(c*z*w)=z*(c*c*w):=fun z=>by grind
 have p:0<c*c*w:=by
  refine xa8 ?_ (by omega);rcases xbt hc with q | q
  ·exact Int.mul_pos_of_neg_of_neg q q
  ·exact xa8 q q
 rw[e,e,jdz p,jdz p] at k;exact k
theorem jfA {w:Int} {u:Tri} {a b c:Int × Int} (w1:1<=w) (k0:0<=k) (k2:k<=2):sgn (jaG k (jbn w (jaH s u v a)) (jbn w (jaH s u v b)) (jbn w (jaH s u v c)))=sgn (axv k (crs u v)*e2 a b c*w):=by
 obtain⟨G,hG,e⟩:=jgd (s:=s) (u:=u) (v:=v) (a:=a) (b:=b) (c:=c) w1 k0 k2;rw[<- e,jdz hG]
theorem jcl {w:Int} {u:Tri} {a b c:Int × Int} (w1:1<=w) (k0:0<=k) (k2:k<=2):jaG k (jbn w (jaH s u v a)) (jbn w (jaH s u v b)) (jbn w (jaH s u v c))=0↔axv k (crs u v)=0\/e2 a b c=0:=by
 obtain⟨G,hG,e⟩:=jgd (s:=s) (u:=u) (v:=v) (a:=a) (b:=b) (c:=c) w1 k0 k2;constructor
 ·intro z;rw[z,xa0] at e;rcases xaB.mp e.symm with h | h
  ·exact xaB.mp h
  ·omega
 ·intro z;have:axv k (crs u v)*e2 a b c=0:=xaB.mpr z;rw[this,xa0] at e;rcases xaB.mp e with h | h
  ·exact h
  ·omega
def cnz (u v:Tri):Prop:=¬(u.x*v.y=u.y*v.x/\u.x*v.z=u.z*v.x/\u.y*v.z=u.z*v.y)
theorem jko {u:Tri} (h:cnz u v):¬(axv 0 (crs u v)=0/\axv 1 (crs u v)=0/\axv 2 (crs u v)=0):=fun z=>by
 have z0:u.y*v.z-u.z*v.y=0:=z.1;have z1:-(u.z*v.x-u.x*v.z)=0:=z.2.1;have z2:u.x*v.y-u.y*v.x=0:=z.2.2;exact h ⟨by omega,by omega,by omega⟩
def g2 (qs:List (Int × Int)):Bool:=decide (3<=qs.length)&&decide (qs.length<=8)&&decide (e2 (qt qs 0) (qt qs 1) (qt qs 2)≠0)&&((List.range qs.length).all fun i=>(List.range (qs.length-2)).all fun j=>decide (sgn (e2 (qt qs ((i+(qs.length-1)) % qs.length)) (qt qs i) (qt qs ((i+(j+1)) % qs.length)))=sgn (e2 (qt qs 0) (qt qs 1) (qt qs 2))))
def b2 (qs:List (Int × Int)):Bool:=decide (qs.length<3)||decide (8<qs.length)||decide (e2 (qt qs 0) (qt qs 1) (qt qs 2)=0)||((List.range qs.length).any fun i=>(List.range (qs.length-2)).any fun j=>decide (sgn (e2 (qt qs ((i+(qs.length-1)) % qs.length)) (qt qs i) (qt qs ((i+(j+1)) % qs.length)))≠sgn (e2 (qt qs 0) (qt qs 1) (qt qs 2))))
theorem jkp (ps:List Pt):0<=axk ps/\axk ps<=2:=by
 unfold axk;split
 ·exact⟨by decide,by decide⟩
 ·split
  ·exact⟨by decide,by decide⟩
  ·exact⟨by decide,by decide⟩
theorem jlr {w:Int} {u:Tri} {qs:List (Int × Int)} (w1:1<=w) (hn:cnz u v) (h:g2 qs=true):GoodB (bdP w s u v qs):=by
 unfold g2 at h;simp only[xaE,decide_eq_true_eq,xaS,xaX] at h;obtain⟨⟨⟨n3,n8⟩,d⟩,al⟩:=h;have q0:=jbQ (w:=w) (s:=s) (u:=u) (v:=v) (show 0<qs.length by omega);have q1:=jbQ (w:=w) (s:=s) (u:=u) (v:=v) (show 1<qs.length by omega);have q2:=jbQ (w:=w) (s:=s) (u:=u) (v:=v) (show 2<qs.length by omega);refine⟨by rw[jbk];exact n3,by rw[jbk];exact n8,fun z=>?_,fun i hi=>?_,fun i j hi j1 j2=>?_⟩
 ·rw[q0,q1,q2] at z;refine jko hn ⟨?_,?_,?_⟩
  ·exact ((jcl w1 (by decide) (by decide)).mp z.1).resolve_right d
  ·exact ((jcl w1 (by decide) (by decide)).mp z.2.1).resolve_right d
  ·exact ((jcl w1 (by decide) (by decide)).mp z.2.2).resolve_right d
 ·rw[jbk] at hi;rw[q0,q1,q2,jbQ hi];obtain⟨G,hG,e⟩:=jg9 (a:=jaH s u v (qt qs 0)) (b:=jaH s u v (qt qs 1)) (c:=jaH s u v (qt qs 2)) (d:=jaH s u v (qt qs i)) w1;have z:∀a b c d:Int × Int,(((jaH s u v b).y-(jaH s u v a).y)*((jaH s u v c).z-(jaH s u v a).z)-((jaH s u v b).z-(jaH s u v a).z)*((jaH s u v c).y-(jaH s u v a).y))*((jaH s u v d).x-(jaH s u v a).x)+(((jaH s u v b).z-(jaH s u v a).z)*((jaH s u v c).x-(jaH s u v a).x)-((jaH s u v b).x-(jaH s u v a).x)*((jaH s u v c).z-(jaH s u v a).z))*((jaH s u v d).y-(jaH s u v a).y)+(((jaH s u v b).x-(jaH s u v a).x)*((jaH s u v c).y-(jaH s u v a).y)-((jaH s u v b).y-(jaH s u v a).y)*((jaH s u v c).x-(jaH s u v a).x))*((jaH s u v d).z-(jaH s u v a).z)=0:=fun a b c d=>by
   unfold jaH;grind
  rw[z,Int.mul_zero] at e;exact (xaB.mp e).resolve_right (by omega)
 ·rw[jbk] at hi j2 |-
  obtain⟨k0,k2⟩:=jkp (bdP w s u v qs);generalize axk (bdP w s u v qs)=k at k0 k2;rw[jbQ (xaR _ (by omega)),jbQ hi,jbQ (xaR _ (by omega)),q0,q1,q2,jfA w1 k0 k2,jfA w1 k0 k2];have z:=al i hi (j-1) (by omega);rw[show j-1+1=j by omega] at z;exact jha z w1
theorem jiT {w:Int} {u:Tri} {qs:List (Int × Int)} (w1:1<=w) (hn:cnz u v) (h:b2 qs=true):¬GoodB (bdP w s u v qs):=fun B=>by
 have n3:=B.n3;have n8:=B.n8;rw[jbk] at n3 n8;have q0:=jbQ (w:=w) (s:=s) (u:=u) (v:=v) (show 0<qs.length by omega);have q1:=jbQ (w:=w) (s:=s) (u:=u) (v:=v) (show 1<qs.length by omega);have q2:=jbQ (w:=w) (s:=s) (u:=u) (v:=v) (show 2<qs.length by omega);have na:=B.na;rw[q0,q1,q2] at na;have d:e2 (qt qs 0) (qt qs 1) (qt qs 2)≠0:=fun z=>na ⟨(jcl w1 (by decide) (by decide)).mpr (.inr z),(jcl w1 (by decide) (by decide)).mpr (.inr z),(jcl w1 (by decide) (by decide)).mpr (.inr z)⟩;unfold b2 at h;simp only[Bool.or_eq_true,decide_eq_true_eq,List.any_eq_true,xaX] at h;rcases h with ((h | h) | h) | ⟨i,hi,j,hj,hne⟩
 ·omega
 ·omega
 ·exact d h
 ·have r:=B.rnd i (j+1) (by rw[jbk];exact hi) (by omega) (by rw[jbk];omega);have kn:axv (axk (bdP w s u v qs)) (crs u v)≠0:=fun z=>by
   have e:∀k,0<=k->k<=2->axv k (crs u v)=0->jaG k (pt (bdP w s u v qs) 0) (pt (bdP w s u v qs) 1) (pt (bdP w s u v qs) 2)=0:=fun k k0 k2 z=>by
    rw[q0,q1,q2];exact (jcl w1 k0 k2).mpr (.inl z)
   unfold axk at z;split at z
   ·rename_i c
    exact c (e 0 (by decide) (by decide) z)
   ·rename_i c
    split at z
    ·rename_i c1
     exact c1 (e 1 (by decide) (by decide) z)
    ·rename_i c1
     have m0:jaG 0 (pt (bdP w s u v qs) 0) (pt (bdP w s u v qs) 1) (pt (bdP w s u v qs) 2)=0:=by omega
     have m1:jaG 1 (pt (bdP w s u v qs) 0) (pt (bdP w s u v qs) 1) (pt (bdP w s u v qs) 2)=0:=by omega
     have m2:=e 2 (by decide) (by decide) z;exact B.na ⟨m0,m1,m2⟩
  obtain⟨k0,k2⟩:=jkp (bdP w s u v qs);generalize axk (bdP w s u v qs)=k at k0 k2 kn r;rw[jbk,jbQ (xaR _ (by omega)),jbQ hi,jbQ (xaR _ (by omega)),q0,q1,q2,jfA w1 k0 k2,jfA w1 k0 k2] at r;exact hne (jjP kn w1 r)
theorem jhb:∀ps∈jgg,∀k,k<ps.length->∀b:Bool,g2 (if b=true then (rot k ps).reverse else rot k ps)=true:=by decide +kernel
theorem jls:∀ps∈jgg,∀k,k<ps.length->b2 (ps.take k++[qt ps k]++ps.drop k)=true:=by decide +kernel
theorem jlt:∀ps∈jgg,3<ps.length->b2 ([qt ps 1,qt ps 0]++ps.drop 2)=true:=by decide +kernel
theorem jlu:∀ps∈jgg,b2 [qt ps 0,qt ps 1,(2*(qt ps 1).1-(qt ps 0).1,2*(qt ps 1).2-(qt ps 0).2)]=true:=by decide +kernel
def t0:Tri:=⟨0,0,0⟩
def tr (vs:List Tri) (i:Nat):Tri:=vs.getD i t0
def vol (a b c d:Tri):Int:=((b.y-a.y)*(c.z-a.z)-(b.z-a.z)*(c.y-a.y))*(d.x-a.x)+((b.z-a.z)*(c.x-a.x)-(b.x-a.x)*(c.z-a.z))*(d.y-a.y)+((b.x-a.x)*(c.y-a.y)-(b.y-a.y)*(c.x-a.x))*(d.z-a.z)
def jdN (a l:Tri):Tri:=⟨a.x+l.x,a.y+l.y,a.z+l.z⟩
def jiU (a b:Tri):Int:=a.x*b.x+a.y*b.y+a.z*b.z
theorem vol_d {u l:Tri} {a b c d:Int × Int}:vol (jaH s u v a) (jaH s u v b) (jaH s u v c) (jdN (jaH s u v d) l)=e2 a b c*jiU (crs u v) l:=by
 unfold vol jaH jdN jiU crs e2;grind
theorem vol_a {u l:Tri} {a b c d:Int × Int}:vol (jdN (jaH s u v a) l) (jaH s u v b) (jaH s u v c) (jaH s u v d)=-(e2 b c d*jiU (crs u v) l):=by
 unfold vol jaH jdN jiU crs e2;grind
theorem vol_b {u l:Tri} {a b c d:Int × Int}:vol (jaH s u v a) (jdN (jaH s u v b) l) (jaH s u v c) (jaH s u v d)=e2 a c d*jiU (crs u v) l:=by
 unfold vol jaH jdN jiU crs e2;grind
theorem vol_c {u l:Tri} {a b c d:Int × Int}:vol (jaH s u v a) (jaH s u v b) (jdN (jaH s u v c) l) (jaH s u v d)=-(e2 a b d*jiU (crs u v) l):=by
 unfold vol jaH jdN jiU crs e2;grind
theorem jm0 {u:Tri} (h:cnz u v) (hk:k≠0):jiU (crs u v) ⟨k*(crs u v).x,k*(crs u v).y,k*(crs u v).z⟩≠0:=fun z=>by
 have e:jiU (crs u v) ⟨k*(crs u v).x,k*(crs u v).y,k*(crs u v).z⟩=k*((crs u v).x*(crs u v).x+(crs u v).y*(crs u v).y+(crs u v).z*(crs u v).z):=by
  unfold jiU;grind
 rw[e] at z;have sq:∀x:Int,0<=x*x:=fun x=>by
  rcases Int.le_total 0 x with h | h
  ·exact Int.mul_nonneg h h
  ·exact Int.mul_nonneg_of_nonpos_of_nonpos h h
 rcases xaB.mp z with z | z
 ·exact hk z
 ·have a:=sq (crs u v).x;have b:=sq (crs u v).y;have c:=sq (crs u v).z;have x0:(crs u v).x*(crs u v).x=0:=by omega
  have y0:(crs u v).y*(crs u v).y=0:=by omega
  have z0:(crs u v).z*(crs u v).z=0:=by omega
  have x1:(crs u v).x=0:=(xaB.mp x0).elim id id;have y1:(crs u v).y=0:=(xaB.mp y0).elim id id;have z1:(crs u v).z=0:=(xaB.mp z0).elim id id;refine jko h ⟨x1,?_,z1⟩;show -(crs u v).y=0;omega
theorem jhc {w:Int} (w1:1<=w) (B:GoodB (us.map (jbn w))) (hi:i<us.length):vol (tr us 0) (tr us 1) (tr us 2) (tr us i)=0:=by
 have n3:=B.n3;rw[xaa] at n3;have p:∀{j:Nat},j<us.length->pt (us.map (jbn w)) j=jbn w (tr us j):=fun {j} h=>by
  unfold pt tr;rw[xac,xac,xai,xab h];rfl
 have f:=B.flat i (by rw[xaa];exact hi);rw[p (show 0<us.length by omega),p (show 1<us.length by omega),p (show 2<us.length by omega),p hi] at f;obtain⟨G,hG,e⟩:=jg9 (a:=tr us 0) (b:=tr us 1) (c:=tr us 2) (d:=tr us i) w1;rw[f,xa0] at e;exact (xaB.mp e.symm).resolve_left (by omega)
theorem jm1 {w:Int} {u:Tri} {ps:List (Int × Int)} {k:Nat} {t:Int} (w1:1<=w) (hn:cnz u v) (ht:t≠0) (hk:k<ps.length) (l4:3<ps.length) (hp:g2 ps=true) :
  ¬GoodB ((((ps.map (jaH s u v)).take k++[jdN (jaH s u v (qt ps k)) ⟨t*(crs u v).x,t*(crs u v).y,t*(crs u v).z⟩])++(ps.map (jaH s u v)).drop (k+1)).map (jbn w)):=fun B=>by
 have dn:=jm0 hn ht;generalize (⟨t*(crs u v).x,t*(crs u v).y,t*(crs u v).z⟩:Tri)=l at B dn;have lU:(((ps.map (jaH s u v)).take k++[jdN (jaH s u v (qt ps k)) l])++(ps.map (jaH s u v)).drop (k+1)).length=ps.length:=by
  simp;omega
 have ld:∀j,j<ps.length->tr (((ps.map (jaH s u v)).take k++[jdN (jaH s u v (qt ps k)) l])++(ps.map (jaH s u v)).drop (k+1)) j=if j=k then jdN (jaH s u v (qt ps k)) l else jaH s u v (qt ps j):=fun j hj=>by
  have lt:((ps.map (jaH s u v)).take k).length=k:=by simp;omega
  have mj:∀i,i<ps.length->(ps.map (jaH s u v))[i]?=some (jaH s u v (qt ps i)):=fun i h=>by
   unfold qt;rw[xai,xac,xab h];rfl
  unfold tr;rw[xac];by_cases c1:j<k
  ·rw[xaD (by simp;omega),xaD (by omega),xbn c1,mj j hj,if_neg (by omega)];rfl
  ·by_cases c2:j=k
   ·subst c2;rw[xaD (by simp;omega),xaG (by omega),lt,Nat.sub_self,if_pos rfl];rfl
   ·rw[xaG (by simp;omega),if_neg c2,xbO];have e:k+1+(j-((ps.map (jaH s u v)).take k++[jdN (jaH s u v (qt ps k)) l]).length)=j:=by
     rw[xaf,lt];show k+1+(j-(k+1))=j;omega
    rw[e,mj j hj];rfl
 unfold g2 at hp;simp only[xaE,decide_eq_true_eq,xaS,xaX] at hp;obtain⟨⟨⟨n3,n8⟩,d⟩,al⟩:=hp;have nz:∀{x y:Int},sgn x=sgn y->y≠0->x≠0:=fun {x y} h hy z=>by
  rw[z] at h;exact hy (jg1 (h.symm.trans (by decide)))
 have m1:(0+(ps.length-1)) % ps.length=ps.length-1:=by rw[Nat.zero_add];exact xaF (by omega)
 have md:∀a,1<=a->a<ps.length->(a+(ps.length-1)) % ps.length=a-1:=fun a h1 h2=>by
  rw[show a+(ps.length-1)=(a-1)+ps.length by omega,Nat.add_mod_right];exact xaF (by omega)
 have t123:e2 (qt ps 1) (qt ps 2) (qt ps 3)≠0:=by
  have z:=al 2 (by omega) 0 (by omega);rw[md 2 (by decide) (by omega),xaF (show 2+(0+1)<ps.length by omega)] at z;exact nz z d
 have t013:e2 (qt ps 0) (qt ps 1) (qt ps 3)≠0:=by
  have z:=al 1 (by omega) 1 (by omega);rw[md 1 (by decide) (by omega),xaF (show 1+(1+1)<ps.length by omega)] at z;exact nz z d
 have t023:e2 (qt ps 0) (qt ps 2) (qt ps 3)≠0:=by
  have z:=al 3 (by omega) (ps.length-4) (by omega);rw[md 3 (by decide) (by omega),show 3+(ps.length-4+1)=ps.length by omega,Nat.mod_self] at z;have e:e2 (qt ps (3-1)) (qt ps 3) (qt ps 0)=e2 (qt ps 0) (qt ps 2) (qt ps 3):=by
   show e2 (qt ps 2) (qt ps 3) (qt ps 0)=_;unfold e2;grind
  rw[e] at z;exact nz z d
 by_cases c:3<=k
 ·have f:=jhc w1 B (i:=k) (by rw[lU];exact hk);rw[ld 0 (by omega),ld 1 (by omega),ld 2 (by omega),ld k hk,if_neg (by omega),if_neg (by omega),if_neg (by omega),if_pos rfl,vol_d] at f;exact (xaB.mp f).elim d dn
 ·have f:=jhc w1 B (i:=3) (by rw[lU];omega);rw[ld 0 (by omega),ld 1 (by omega),ld 2 (by omega),ld 3 (by omega)] at f;obtain rfl | rfl | rfl:k=0\/k=1\/k=2:=by omega
  ·rw[if_pos rfl,if_neg (by decide),if_neg (by decide),if_neg (by decide),vol_a] at f;exact (xaB.mp (Int.neg_eq_zero.mp f)).elim t123 dn
  ·rw[if_neg (by decide),if_pos rfl,if_neg (by decide),if_neg (by decide),vol_b] at f;exact (xaB.mp f).elim t023 dn
  ·rw[if_neg (by decide),if_neg (by decide),if_pos rfl,if_neg (by decide),vol_c] at f;exact (xaB.mp (Int.neg_eq_zero.mp f)).elim t013 dn
theorem jiV (p:Pt):sfp p p=false:=by
 unfold sfp sf;rw[if_neg (fun n=>n rfl),if_neg (fun n=>n rfl),if_neg (fun n=>n rfl)]
theorem jkq (hf:f<l.length) (hi:i<l.length):pt (rot f l) i=pt l ((f+i) % l.length):=by
 unfold pt rot;rw[xac,xac];by_cases c:f+i<l.length
 ·rw[xaF c,xaD (by rw[xao];omega),xbO]
 ·have e:(f+i) % l.length=f+i-l.length:=by
   rw[Nat.mod_eq_sub_mod (by omega)];exact xaF (by omega)
  rw[e,xaG (by rw[xao];omega),xao,List.getElem?_take,if_pos (by omega)]
  congr 2
  omega
theorem ix1:∀n,n<9->∀a,a<n->∀f,f<n->∀i,i<n->(a+(f+i) % n) % n=((a+f) % n+i) % n/\(a+(n-(f+i) % n)) % n=((a+(n-f)) % n+(n-i)) % n:=by decide +kernel
theorem ix2:∀n,n<9->∀a,a<n->∀i,i<n->(a+(n-i) % n) % n=(a+(n-i)) % n/\(a+(n-(n-i) % n)) % n=(a+i) % n:=by decide +kernel
theorem ix3:∀n,n<9->∀a,a<n->∀i,i<n->(a+(n-1-i)) % n=((a+(n-1)) % n+(n-i)) % n/\(a+(n-(n-1-i))) % n=((a+1) % n+i) % n:=by decide +kernel
theorem ix4:∀n,n<9->∀a,a<n->∀i,i<n->(a+(i+(n-a)) % n) % n=i/\(a+(n-(a+(n-i)) % n)) % n=i:=by decide +kernel
theorem ix7:∀n,n<9->3<=n->∀a,a<n->(a+1) % n≠(a+(n-1)) % n/\(a+0) % n=a/\(a+(n-0)) % n=a:=by decide +kernel
def Dih (ps qs:List Pt):Prop:=qs.length=ps.length/\∃a,a<ps.length/\((∀i,i<ps.length->pt qs i=pt ps ((a+i) % ps.length))\/(∀i,i<ps.length->pt qs i=pt ps ((a+(ps.length-i)) % ps.length)))
theorem Dih.refl (h:3<=ps.length):Dih ps ps:=⟨rfl,0,by omega,.inl fun i hi=>by rw[Nat.zero_add,xaF hi]⟩
theorem Dih.rot (d:Dih ps qs) (n8:ps.length<=8) (hf:f<ps.length):Dih ps (rot f qs):=by
 obtain⟨hl,a,ha,d⟩:=d;have rp:∀i,i<ps.length->pt (My.rot f qs) i=pt qs ((f+i) % ps.length):=fun i hi=>by rw[jkq (by omega) (by omega),hl]
 have m:∀i,(f+i) % ps.length<ps.length:=fun i=>xaR _ (by omega);refine⟨by rw[jfs (by omega),hl],?_⟩;rcases d with d | d
 ·refine⟨(a+f) % ps.length,xaR _ (by omega),.inl fun i hi=>?_⟩;rw[rp i hi,d _ (m i),(ix1 _ (by omega) a ha f hf i hi).1]
 ·refine⟨(a+(ps.length-f)) % ps.length,xaR _ (by omega),.inr fun i hi=>?_⟩;rw[rp i hi,d _ (m i),(ix1 _ (by omega) a ha f hf i hi).2]
theorem jdj (hi:i<l.length):pt (turn true l) i=pt l ((l.length-i) % l.length):=by
  match l,hi with
  | x :: r, hi =>
    have e:turn true (x::r)=x::r.reverse:=rfl;rw[e];cases i with
    | zero=>rw[Nat.sub_zero,Nat.mod_self];rfl
    | succ j =>
      have hj:j<r.length:=by simpa using hi
      have e2:((x::r).length-(j+1)) % (x::r).length=r.length-1-j+1:=by
        rw[xav,xaF (by omega)];omega
      rw[e2];unfold pt;rw[xac,xac,List.getElem?_cons_succ,List.getElem?_cons_succ,xbz hj]
theorem jjQ (b:Bool):(turn b l).length=l.length:=by
 unfold turn;cases b
 ·rfl
 ·rw[if_pos rfl,xaf,xaU,xak,xao];omega
theorem Dih.turn (d:Dih ps qs) (n8:ps.length<=8) (b:Bool):Dih ps (turn b qs):=by
  cases b with
  | false=>exact d
  | true =>
    obtain⟨hl,a,ha,d⟩:=d;refine⟨by rw[jjQ,hl],a,ha,?_⟩;have tp:∀i,i<ps.length->pt (My.turn true qs) i=pt qs ((ps.length-i) % ps.length):=fun i hi=>by rw[jdj (by omega),hl]
    have m:∀i,(ps.length-i) % ps.length<ps.length:=fun i=>xaR _ (by omega);rcases d with d | d
    . exact .inr fun i hi=>by rw[tp i hi,d _ (m i),(ix2 _ (by omega) a ha i hi).1]
    . exact .inl fun i hi=>by rw[tp i hi,d _ (m i),(ix2 _ (by omega) a ha i hi).2]
theorem jm2 (hi:i<l.length):pt l.reverse i=pt l (l.length-1-i):=by
 unfold pt;rw[xac,xac,xbz hi]
theorem Dih.rev (d:Dih ps qs) (n8:ps.length<=8):Dih ps qs.reverse:=by
 obtain⟨hl,a,ha,d⟩:=d;refine⟨by rw[xaU,hl],?_⟩;have tp:∀i,i<ps.length->pt qs.reverse i=pt qs (ps.length-1-i):=fun i hi=>by rw[jm2 (by omega),hl]
 rcases d with d | d
 ·exact⟨(a+(ps.length-1)) % ps.length,xaR _ (by omega),.inr fun i hi=>by rw[tp i hi,d _ (by omega),(ix3 _ (by omega) a ha i hi).1]⟩
 ·exact⟨(a+1) % ps.length,xaR _ (by omega),.inl fun i hi=>by rw[tp i hi,d _ (by omega),(ix3 _ (by omega) a ha i hi).2]⟩
theorem jm3 (h:3<=ps.length):fF ps<ps.length:=by have:=jex ps (ps.length-1);unfold fF;omega
theorem Dih.frm (d:Dih ps qs) (n3:3<=ps.length) (n8:ps.length<=8):Dih ps (frm qs qs) :=
 (d.rot n8 (by have:=jm3 (ps:=qs) (by rw[d.1];exact n3);rw[d.1] at this;exact this)).turn n8 _
structure Tot (ps:List Pt):Prop where
 tr:∀p q r,p∈ps->q∈ps->r∈ps->sfp p q=true->sfp q r=true->sfp p r=true
 ne:∀i j,i<ps.length->j<ps.length->i≠j->sfp (pt ps i) (pt ps j)=true\/sfp (pt ps j) (pt ps i)=true
theorem Dih.mem (d:Dih ps qs) (n8:ps.length<=8) :p∈qs↔p∈ps:=by
 obtain⟨hl,a,ha,d⟩:=d;constructor
 ·intro h;obtain⟨i,hi,rfl⟩:=jiG h;rcases d with d | d
  ·rw[d i (by omega)];exact jc5 (xaR _ (by omega))
  ·rw[d i (by omega)];exact jc5 (xaR _ (by omega))
 ·intro h;obtain⟨i,hi,rfl⟩:=jiG h;rcases d with d | d
  ·have z:=d ((i+(ps.length-a)) % ps.length) (xaR _ (by omega));rw[(ix4 _ (by omega) a ha i hi).1] at z;rw[<- z];exact jc5 (by rw[hl];exact xaR _ (by omega))
  ·have z:=d ((a+(ps.length-i)) % ps.length) (xaR _ (by omega));rw[(ix4 _ (by omega) a ha i hi).2] at z;rw[<- z];exact jc5 (by rw[hl];exact xaR _ (by omega))
theorem jhd {ps qs:List Pt} (T:Tot ps) (hq:∀p,p∈qs->p∈ps):∀n,n<qs.length->∀i,i<=n->sfp (pt qs i) (pt qs (jgX qs n))=false
  | 0, hn, i, hi => by
    have e:i=0:=by omega
    subst e;exact jiV _
  | n + 1, hn, i, hi => by
    have ih:=jhd T hq n (by omega);have al:=jex qs n;unfold jgX;cases c:sfp (pt qs (n+1)) (pt qs (jgX qs n)) with
    | true =>
      rw[if_pos rfl];by_cases e:i=n+1
      . rw[e]
        exact jiV _
      . cases z:sfp (pt qs i) (pt qs (n+1)) with
        | false=>rfl
        | true =>
          have t:=T.tr _ _ _ (hq _ (jc5 (by omega))) (hq _ (jc5 (by omega))) (hq _ (jc5 (by omega))) z c;rw[ih i (by omega)] at t;cases t
    | false =>
      rw[if_neg (by decide)];by_cases e:i=n+1
      . rw[e]
        exact c
      . exact ih i (by omega)
theorem jkr {m:List Pt} (hl:l.length=n) (hm:m.length=n) (h:∀i,i<n->pt l i=pt m i):l=m:=by
 refine List.ext_getElem (by rw[hl,hm]) fun i h1 h2=>?_;have z:=h i (by omega);unfold pt at z;rw[xac,xac,xab h1,xab h2] at z;exact z
theorem jm4 (T:Tot ps) (d:Dih ps qs) (n3:3<=ps.length) (n8:ps.length<=8):(∀p,p∈ps->sfp p (pt (frm qs qs) 0)=false)/\sfp (pt (frm qs qs) (ps.length-1)) (pt (frm qs qs) 1)=false:=by
  have hl:=d.1;have fl:=jm3 (ps:=qs) (by omega);have rl:(rot (fF qs) qs).length=ps.length:=by rw[jfs (by omega),hl]
  have dr:=d.rot n8 (f:=fF qs) (by omega);have h0:pt (rot (fF qs) qs) 0=pt qs (fF qs):=by rw[jkq fl (by omega),Nat.add_zero,xaF fl]
  have mn:∀p,p∈ps->sfp p (pt (rot (fF qs) qs) 0)=false:=fun p hp=>by
    rw[h0];obtain⟨i,hi,rfl⟩:=jiG ((d.mem n8).mpr hp);exact jhd T (fun p h=>(d.mem n8).mp h) (qs.length-1) (by omega) i (by omega)
  have eb:fB qs=sfp (pt (rot (fF qs) qs) (ps.length-1)) (pt (rot (fF qs) qs) 1):=by unfold fB;rw[hl]
  unfold frm;cases c:fB qs with
  | false=>exact⟨mn,eb.symm.trans c⟩
  | true =>
    have t0:pt (turn true (rot (fF qs) qs)) 0=pt (rot (fF qs) qs) 0:=by rw[jdj (by omega),Nat.sub_zero,Nat.mod_self]
    have t1':pt (turn true (rot (fF qs) qs)) 1=pt (rot (fF qs) qs) (ps.length-1):=by rw[jdj (by omega),rl,xaF (by omega)]
    have t2':pt (turn true (rot (fF qs) qs)) (ps.length-1)=pt (rot (fF qs) qs) 1:=by
      rw[jdj (by omega),rl,xaF (by omega)]
      congr 1
      omega
    rw[t0,t1',t2'];refine⟨mn,?_⟩;rw[eb] at c;cases z:sfp (pt (rot (fF qs) qs) 1) (pt (rot (fF qs) qs) (ps.length-1)) with
    | false=>rfl
    | true =>
      have m:∀i,i<ps.length->pt (rot (fF qs) qs) i∈ps:=fun i hi=>(dr.mem n8).mp (jc5 (by omega));have t:=T.tr _ _ _ (m _ (by omega)) (m _ (by omega)) (m _ (by omega)) z c;rw[jiV] at t;cases t
theorem jjR {us:List Pt} (T:Tot ps) (n3:3<=ps.length) (n8:ps.length<=8) (d1:Dih ps qs) (d2:Dih ps us) (m1:∀p,p∈ps->sfp p (pt qs 0)=false) (m2:∀p,p∈ps->sfp p (pt us 0)=false) (l1:sfp (pt qs (ps.length-1)) (pt qs 1)=false) (l2:sfp (pt us (ps.length-1)) (pt us 1)=false):qs=us:=by
 obtain⟨hl,a,ha,d1⟩:=d1;obtain⟨hl',b,hb,d2⟩:=d2;have h0:pt qs 0=pt ps a:=by
  rcases d1 with d | d
  ·rw[d 0 (by omega),(ix7 _ (by omega) n3 a ha).2.1]
  ·rw[d 0 (by omega),(ix7 _ (by omega) n3 a ha).2.2]
 have h0':pt us 0=pt ps b:=by
  rcases d2 with d | d
  ·rw[d 0 (by omega),(ix7 _ (by omega) n3 b hb).2.1]
  ·rw[d 0 (by omega),(ix7 _ (by omega) n3 b hb).2.2]
 have ab:a=b:=by
  apply xa7;intro n;rw[h0] at m1;rw[h0'] at m2;rcases T.ne a b ha hb n with z | z
  ·rw[m2 _ (jc5 ha)] at z;cases z
  ·rw[m1 _ (jc5 hb)] at z;cases z
 subst ab;have e7:=(ix7 _ (by omega) n3 a ha).1;have m:∀i,(a+i) % ps.length<ps.length:=fun i=>xaR _ (by omega);have sub:ps.length-(ps.length-1)=1:=by omega
 rcases d1 with d | d<;>rcases d2 with d' | d'
 ·exact jkr hl hl' fun i hi=>by rw[d i hi,d' i hi]
 ·rw[d _ (by omega),d _ (by omega)] at l1;rw[d' _ (by omega),d' _ (by omega),sub] at l2;rcases T.ne _ _ (m 1) (m (ps.length-1)) e7 with z | z
  ·rw[l2] at z;cases z
  ·rw[l1] at z;cases z
 ·rw[d _ (by omega),d _ (by omega),sub] at l1;rw[d' _ (by omega),d' _ (by omega)] at l2;rcases T.ne _ _ (m 1) (m (ps.length-1)) e7 with z | z
  ·rw[l1] at z;cases z
  ·rw[l2] at z;cases z
 ·exact jkr hl hl' fun i hi=>by rw[d i hi,d' i hi]
def l3 (a:Tri):List Int:=[a.x,a.y,a.z]
theorem jiW {b p o h w x y:Int} (g0:0<g) (h0:0<h) (w1:1<=w) (e1:p*g=a) (e2:o*h=b) (ex:x*g=w) (ey:y*h=w):(p*y=o*x↔a=b)/\(p*y<o*x↔a<b):=by
 have k1:p*y*(g*h)=a*w:=by rw[<- e1];rw[show w=y*h from ey.symm];grind
 have k2:o*x*(g*h)=b*w:=by rw[<- e2];rw[show w=x*g from ex.symm];grind
 have gh:0<g*h:=xa8 g0 h0;have w0:(0:Int)<w:=by omega
 refine⟨⟨fun z=>?_,fun z=>?_⟩,⟨fun z=>?_,fun z=>?_⟩⟩
 ·rw[z,k2] at k1;exact (Int.eq_of_mul_eq_mul_right (by omega) k1).symm
 ·rw[z,<- k2] at k1;exact Int.eq_of_mul_eq_mul_right (by omega) k1
 ·have:=Int.mul_lt_mul_of_pos_right z gh;rw[k1,k2] at this;exact Int.lt_of_mul_lt_mul_right this (Int.le_of_lt w0)
 ·have:=Int.mul_lt_mul_of_pos_right z w0;rw[<- k1,<- k2] at this;exact Int.lt_of_mul_lt_mul_right this (Int.le_of_lt gh)
theorem jdO {w:Int} {a b:Tri} (w1:1<=w):sfp (jbn w a) (jbn w b)=jdc (l3 a) (l3 b):=by
 obtain⟨g,g0,x1,y1,z1,v1⟩:=jdy (u:=a) w1;obtain⟨h,h0,x2,y2,z2,v2⟩:=jdy (u:=b) w1;have cx:=jiW g0 h0 w1 x1 x2 v1 v2;have cy:=jiW g0 h0 w1 y1 y2 v1 v2;have cz:=jiW g0 h0 w1 z1 z2 v1 v2;unfold sfp sf l3;generalize jbn w a=A at *
 generalize jbn w b=B at *
 unfold jdc;by_cases ex:a.x=b.x
 ·rw[if_neg (by rw[Ne,cx.1];exact fun z=>z ex),if_pos ex];unfold jdc;by_cases ey:a.y=b.y
  ·rw[if_neg (by rw[Ne,cy.1];exact fun z=>z ey),if_pos ey];unfold jdc;by_cases ez:a.z=b.z
   ·rw[if_neg (by rw[Ne,cz.1];exact fun z=>z ez),if_pos ez];rfl
   ·rw[if_pos (by rw[Ne,cz.1];exact ez),if_neg ez];exact decide_eq_decide.mpr cz.2
  ·rw[if_pos (by rw[Ne,cy.1];exact ey),if_neg ey];exact decide_eq_decide.mpr cy.2
 ·rw[if_pos (by rw[Ne,cx.1];exact ex),if_neg ex];exact decide_eq_decide.mpr cx.2
theorem jlv {a b:Tri} (h:a≠b):jdc (l3 a) (l3 b)=true\/jdc (l3 b) (l3 a)=true:=by
 unfold l3 jdc;by_cases ex:a.x=b.x
 ·rw[if_pos ex,if_pos ex.symm];unfold jdc;by_cases ey:a.y=b.y
  ·rw[if_pos ey,if_pos ey.symm];unfold jdc;by_cases ez:a.z=b.z
   ·exact absurd (by cases a;cases b;simp only at ex ey ez;rw[ex,ey,ez]) h
   ·rw[if_neg ez,if_neg (fun z=>ez z.symm)];rcases xbt ez with z | z
    ·exact .inl (decide_eq_true z)
    ·exact .inr (decide_eq_true z)
  ·rw[if_neg ey,if_neg (fun z=>ey z.symm)];rcases xbt ey with z | z
   ·exact .inl (decide_eq_true z)
   ·exact .inr (decide_eq_true z)
 ·rw[if_neg ex,if_neg (fun z=>ex z.symm)];rcases xbt ex with z | z
  ·exact .inl (decide_eq_true z)
  ·exact .inr (decide_eq_true z)
theorem jlw {u:Tri} (hn:cnz u v) {p q:Int × Int} (h:jaH s u v p=jaH s u v q):p=q:=by
 have hx:s.x+p.1*u.x+p.2*v.x=s.x+q.1*u.x+q.2*v.x:=congrArg Tri.x h;have hy:s.y+p.1*u.y+p.2*v.y=s.y+q.1*u.y+q.2*v.y:=congrArg Tri.y h;have hz:s.z+p.1*u.z+p.2*v.z=s.z+q.1*u.z+q.2*v.z:=congrArg Tri.z h;have ax:(p.1-q.1)*u.x+(p.2-q.2)*v.x=0:=by rw[xbL,xbL];omega
 have ay:(p.1-q.1)*u.y+(p.2-q.2)*v.y=0:=by rw[xbL,xbL];omega
 have az:(p.1-q.1)*u.z+(p.2-q.2)*v.z=0:=by rw[xbL,xbL];omega
 have e:p.1=q.1/\p.2=q.2:=by
  generalize hi:p.1-q.1=i at ax ay az;generalize hl:p.2-q.2=l at ax ay az;have i1:i*(u.x*v.y-u.y*v.x)=0:=by
   have:i*(u.x*v.y-u.y*v.x)=(i*u.x+l*v.x)*v.y-(i*u.y+l*v.y)*v.x:=by grind
   rw[this,ax,ay];simp
  have i2:i*(u.x*v.z-u.z*v.x)=0:=by
   have:i*(u.x*v.z-u.z*v.x)=(i*u.x+l*v.x)*v.z-(i*u.z+l*v.z)*v.x:=by grind
   rw[this,ax,az];simp
  have i3:i*(u.y*v.z-u.z*v.y)=0:=by
   have:i*(u.y*v.z-u.z*v.y)=(i*u.y+l*v.y)*v.z-(i*u.z+l*v.z)*v.y:=by grind
   rw[this,ay,az];simp
  have l1:l*(u.x*v.y-u.y*v.x)=0:=by
   have:l*(u.x*v.y-u.y*v.x)=u.x*(i*u.y+l*v.y)-u.y*(i*u.x+l*v.x):=by grind
   rw[this,ax,ay];simp
  have l2:l*(u.x*v.z-u.z*v.x)=0:=by
   have:l*(u.x*v.z-u.z*v.x)=u.x*(i*u.z+l*v.z)-u.z*(i*u.x+l*v.x):=by grind
   rw[this,ax,az];simp
  have l3':l*(u.y*v.z-u.z*v.y)=0:=by
   have:l*(u.y*v.z-u.z*v.y)=u.y*(i*u.z+l*v.z)-u.z*(i*u.y+l*v.y):=by grind
   rw[this,ay,az];simp
  have z:∀k:Int,k*(u.x*v.y-u.y*v.x)=0->k*(u.x*v.z-u.z*v.x)=0->k*(u.y*v.z-u.z*v.y)=0->k=0:=fun k a b c=>by
   apply xa7;intro nk;have a':=(xaB.mp a).resolve_left nk;have b':=(xaB.mp b).resolve_left nk;have c':=(xaB.mp c).resolve_left nk;exact hn ⟨by omega,by omega,by omega⟩
  have zi:=z i i1 i2 i3;have zl:=z l l1 l2 l3';exact⟨by omega,by omega⟩
 exact Prod.ext e.1 e.2
theorem jm5:∀ps∈jgg,ps.Nodup:=by decide +kernel
theorem jlx {w:Int} {u:Tri} {ps:List (Int × Int)} (w1:1<=w) (hn:cnz u v) (nd:ps.Nodup):Tot (bdP w s u v ps):=by
 refine⟨fun p q r hp hq hr h1 h2=>?_,fun i j hi hj ne=>?_⟩
 ·obtain⟨a,_,rfl⟩:=xaC.mp hp;obtain⟨b,_,rfl⟩:=xaC.mp hq;obtain⟨c,_,rfl⟩:=xaC.mp hr;rw[jdO w1] at *
  exact jgQ h1 h2
 ·rw[jbk] at hi hj;rw[jbQ hi,jbQ hj,jdO w1,jdO w1];refine jlv fun z=>ne ?_;have e:=jlw hn z;unfold qt at e;rw[xac,xac,xab hi,xab hj] at e;exact (List.getElem_inj nd).mp e
theorem jiX {l:List Tri} (b:Bool):(turn b l).length=l.length:=by
 cases b
 ·rfl
 ·unfold turn;rw[if_pos rfl,xaf,xak,xaU,xao];omega
theorem jiY {l:List Tri} {b:Bool} {u:Tri} (h:u∈turn b l):u∈l:=by
 cases b
 ·exact h
 ·unfold turn at h;rw[if_pos rfl] at h;rcases xax.mp h with h | h
  ·exact xaN h
  ·exact xaQ (List.mem_reverse.mp h)
structure FmD (us:List Tri) (k:Nat) (b:Bool):Prop where
 kl:k<us.length
 mn:∀u∈us,jdc (l3 u) (l3 (tr us k))=false
 bb:b=jdc (l3 (tr (rot k us) (us.length-1))) (l3 (tr (rot k us) 1))
def fmL (us:List Tri) (k:Nat) (b:Bool):List Tri:=turn b (rot k us)
def jlN (H:Hp) (r:Addr):List Int:=match H r with
 | some (.lst [.int x,.int y,.int z])=>[x,y,z]
 | _=>[]
theorem jgx {u:Tri} (h:A3 H r u):jlN H r=l3 u:=by
 unfold A3 at h;unfold jlN;rw[h];rfl
def jm6:Sp:=fun vs H Q _=>∃(l:Addr) (rs:List Addr) (us:List Tri) (w:Int),vs=[.ref l,.int w]/\RwAt H l rs us/\3<=us.length/\us.length<=8/\(∀u∈us,tsm (2^100) u)/\1<=w/\w<=3/\∀(a:Addr) (H':Hp) (k:Nat) (b:Bool),Same H H'->BoAt H' a ((fmL us k b).map (jbn w))->FmD us k b->Q (.ref a) H'
theorem jm7 (T:Tx K mg t1 t2) (F:At K mg "_law_form" jdi ["rows","w"] []) (dg:jaz P w K mg base CX0 2 "_law_spots" ["rows","w"] [] jfz):jaz P w K mg base CX0 3 "_law_form" ["rows","w"] [] jm6:=by
  refine F.ok jd1 (fun vs H Q E h=>?_) (fun f cdv A outer s H vs Q E hr h=>?_)
  . obtain⟨l,rs,us,v,rfl,_⟩:=h
    rfl
  obtain⟨l,rs,us,v,rfl,hR,l3',l8,hb,v1,v3,q⟩:=h;have S:=jd1;refine⟨_,(jac (jal (i:=2) S.nd rfl (Or.inl rfl) (jdb PySem.F.plainAttrs_list PySem.F.slot_list_index PySem.F.type_list_index (jiu (jhw hr)) (pv 0) (jaa (jat (jit rfl (jhw hr)) rfl T.m_min boot_min (jaa (pv 0) jad jaf)) jad jaO)))
    (jac (jal (i:=3) S.nd rfl (Or.inl rfl) (jah jb1 (jaV jba (pv 0) (jaQ (pv 2)) jaP) (jaV jba (pv 0) jaP (jaQ (pv 2)))))
    (jac (jaK (jam (jmv (xa1 (Nat.le_add_right _ 64) (jhw hr))) (jai jak (pv 3) (jd9 jcv jab)) (jai jak (pv 3) jab) (jas _))
    (jae (jal (i:=3) S.nd rfl (Or.inl rfl) (jah jb1 (jaV jba (pv 3) jaP (jaQ jab)) (jen (jaV jba (pv 3) (jaQ jab) jaP) (jd9 jcv jab)))))
    jap)
    (jae (jao (jbp jem rfl T.m_tuple boot_tuple (jaa (jaj dg hr.m rfl jaF (jaa (pv 3) (jaa (pv 1) jad jaf) jaf)) jad jaO))))))),?_⟩
  have lr:=hR.2.len;have kl:=SqL.of (K:=K) hR.1;walk_at "rf";have rf:∀r∈rs,SqL K H r ((jlN H r).map V.int)/\(jlN H r).length=3:=fun r hr=>by
    obtain⟨u,_,hu⟩:=hR.2.mem hr;rw[jgx hu];exact⟨SqL.of hu,rfl⟩
  refine⟨.inl ⟨_,kl⟩,l,rs,3,jlN H,rfl,kl,fun z=>by rw[z] at lr;rw[<- lr] at l3';exact absurd l3' (by decide),rf,fun rm hm mn=>⟨l,rm,rs,jlN H,rfl,rfl,kl,(fun r hr=>(rf r hr).1),hm,by omega,fun k rk hk ek=>⟨_,rfl,l,_,rfl,kl,fun a1 n1=>?_⟩⟩⟩;have kl2:k<us.length:=by have:=(xan.mp hk).1;omega
  obtain⟨uk,guk,duk⟩:=hR.2.getA hk;have tk:tr us k=uk:=by
    unfold tr;rw[xac,guk];rfl
  have mnk:∀u∈us,jdc (l3 u) (l3 (tr us k))=false:=fun u hu=>by
    obtain⟨i,hi⟩:=xaP hu;obtain⟨r,hr,dr⟩:=hR.2.get hi;have z:=mn r (xas hr);rw[<- ek,jgx dr,jgx duk] at z;rw[tk];exact z
  rw[jbE];refine ja9 n1 fun J1 j1 i1=>⟨_,rfl,l,_,rfl,SqL.of (j1 _ _ hR.1),fun a2 n2=>?_⟩;rw[jbF];refine ja9 n2 fun J2 j2 i2=>⟨a1,a2,_,_,rfl,rfl,j2 _ _ i1,i2,?_,fun a3 n3=>ja9 n3 fun J3 j3 i3=>?_⟩
  . rw[xak,xao,xaa]
    exact xaI (jaL (by omega))
  have sj:=j1.trans (j2.trans j3);have h3:RwAt J3 a3 (rot k rs) (rot k us):=by
    refine⟨?_,((hR.2.drop k).app (hR.2.take k)).mono fun _ _ e=>sj _ _ e⟩;rw[i3];unfold rot;rw[xah,xaK,xaM]
  have lk:(rot k rs).length=us.length:=by
    unfold rot;rw[xaf,xao,xak];omega
  have lk2:=h3.2.len;have bk:∀u∈rot k us,tsm (2^100) u:=fun u hu=>hb u (by
    unfold rot at hu;exact (xax.mp hu).elim xaQ xaN)
  have q3:=SqL.of (K:=K) h3.1;generalize rot k rs=rs' at h3 lk lk2 q3;generalize hus:rot k us=us' at h3 lk2 bk;have e0:rs'[us.length-1]?=some (ad rs' (us.length-1)):=jkn (by omega);have e1:rs'[1]?=some (ad rs' 1):=jkn (by omega);obtain⟨u0,w0,d0⟩:=h3.2.getA e0;obtain⟨u1,w1,d1⟩:=h3.2.getA e1;have t0':tr us' (us.length-1)=u0:=by
    unfold tr;rw[xac,w0];rfl
  have t1':tr us' 1=u1:=by
    unfold tr;rw[xac,w1];rfl
  refine ixL q3 (v:=.ref (ad rs' (us.length-1))) (jfr (n:=us.length-1) (by rw[xaa];omega) (by rw[xai,e0];rfl)) (ixL q3 (i:=((1:Nat):Int)) (v:=.ref (ad rs' 1)) (jaM (by rw[xai,e1];rfl)) ?_);refine⟨_,_,[u0.x,u0.y,u0.z],[u1.x,u1.y,u1.z],rfl,rfl,SqL.of d0,SqL.of d1,rfl,_,rfl,?_⟩;have fin:∀{J:Hp} {x:Addr} {rs:List Addr} (b:Bool),Same H J->RwAt J x rs (turn b us')->b=jdc (l3 u0) (l3 u1)->jfz [V.ref x,V.int v] J (fun x H1=>∃p,x=V.ref p/\∃x,SqL K H1 p x/\∀(l:Addr),H1 l=none->Q (V.ref l) (upd H1 l (HO.tup x))) E0:=fun {J x rs} b sJ h hb'=>⟨x,rs,turn b us',v,rfl,h,by rw[jiX];omega,(fun u hu=>bk u (jiY hu)),v1,v3,fun a ts H' _ s' hc=>⟨a,rfl,_,SqL.of hc.1,fun l hl=>q l _ k b (sJ.trans (s'.trans (Same.new hl _))) ⟨ts,upd_same,by unfold fmL;rw[hus];exact hc.2.keep (Same.new hl _).t⟩ ⟨kl2,mnk,by rw[hus,t0',t1'];exact hb'⟩⟩⟩;cases hbb:jdc (l3 u0) (l3 u1) with
  | false =>
    rw[if_neg (by rw[show [u0.x,u0.y,u0.z]=l3 u0 from rfl,show [u1.x,u1.y,u1.z]=l3 u1 from rfl,hbb];decide)];exact fin false sj h3 hbb.symm
  | true =>
    rw[if_pos (show jdc [u0.x,u0.y,u0.z] [u1.x,u1.y,u1.z]=true from hbb)];refine⟨a3,_,rfl,q3,fun a4 n4=>?_⟩;rw[show jfD (rs'.map V.ref) none (some 1)=(rs'.map V.ref).take 1 from jbF (f:=1)];refine ja9 n4 fun J4 j4 i4=>⟨_,rfl,_,rfl,a3,_,rfl,SqL.of (j4 _ _ h3.1),fun a5 n5=>?_⟩;rw[show jfD (rs'.map V.ref) (some 1) none=(rs'.map V.ref).drop 1 from jbE (f:=1)];refine ja9 n5 fun J5 j5 i5=>⟨_,rfl,rfl,a5,_,rfl,SqL.of i5,fun a6 n6=>ja9 n6 fun J6 j6 i6=>⟨a4,a6,_,_,rfl,rfl,j6 _ _ (j5 _ _ i4),i6,?_,fun a7 n7=>ja9 n7 fun J7 j7 i7=>?_⟩⟩
    . rw[xaU,xao,xak,xaa]
      exact xaI (jaL (by omega))
    have s7:=j4.trans (j5.trans (j6.trans j7));refine fin (rs:=rs'.take 1++(rs'.drop 1).reverse) true (sj.trans s7) ⟨?_,((h3.2.take 1).app (h3.2.drop 1).rev).mono fun _ _ e=>s7 _ _ e⟩ hbb.symm;rw[i7,xah,xaM,xbc,xaK]
theorem jhe {β:Type} {l:List Tri} {k:Nat} {f:Tri->β}:(rot k l).map f=rot k (l.map f):=by
 unfold rot;rw[xah,xaK,xaM]
theorem jiZ {β:Type} {l:List Tri} {b:Bool} {f:Tri->β}:(turn b l).map f=turn b (l.map f):=by
 cases b
 ·rfl
 ·unfold turn;rw[if_pos rfl,if_pos rfl,xah,xaM,xbc,xaK]
theorem jm8 {w:Int} {l:List Tri} (h:i<l.length):pt (l.map (jbn w)) i=jbn w (tr l i):=by
 unfold pt tr;rw[xac,xac,xai,xab h];rfl
theorem jhf {l:List Tri} {k:Nat} (h:k<l.length):(rot k l).length=l.length:=by
 unfold rot;rw[xaf,xao,xak];omega
theorem jm9 {l:List Tri} {k:Nat} (h:k<l.length):tr (rot k l) 0=tr l k:=by
 unfold tr rot;rw[xac,xac,xaD (by rw[xao];omega),xbO,Nat.add_zero]
theorem jdP {w:Int} {u:Tri} {ps:List (Int × Int)}:bdP w s u v ps=(ps.map (jaH s u v)).map (jbn w):=by
 unfold bdP;rw[xbN];rfl
theorem jly {w:Int} {u:Tri} {ps:List (Int × Int)} {k:Nat} {b:Bool} {us':List Pt} (w1:1<=w) (hn:cnz u v) (hp:ps∈jgg) (h:FmD (ps.map (jaH s u v)) k b) (d:Dih (bdP w s u v ps) us'):frm us' us'=(fmL (ps.map (jaH s u v)) k b).map (jbn w):=by
  have ln:=jeH ps hp;have T:=jlx (s:=s) w1 hn (jm5 ps hp);have n3:3<=(bdP w s u v ps).length:=by rw[jbk];exact ln.2.1
  have n8:(bdP w s u v ps).length<=8:=by rw[jbk];exact ln.1
  have lu:(ps.map (jaH s u v)).length=ps.length:=xaa _;have lb:(bdP w s u v ps).length=ps.length:=jbk;have kl:=h.kl;have e0:rot k (bdP w s u v ps)=(rot k (ps.map (jaH s u v))).map (jbn w):=by rw[jdP,jhe]
  have e:(fmL (ps.map (jaH s u v)) k b).map (jbn w)=turn b (rot k (bdP w s u v ps)):=by
    unfold fmL;rw[jiZ,e0]
  have rl:(rot k (bdP w s u v ps)).length=ps.length:=by rw[e0,xaa,jhf kl,lu]
  have at_:∀i,i<ps.length->pt (rot k (bdP w s u v ps)) i=jbn w (tr (rot k (ps.map (jaH s u v))) i):=fun i hi=>by rw[e0,jm8 (by rw[jhf kl,lu];exact hi)]
  obtain⟨a1,a2⟩:=jm4 T d n3 n8;have dr:Dih (bdP w s u v ps) (rot k (bdP w s u v ps)):=(Dih.refl n3).rot n8 (by rw[lb,<- lu];exact kl);have t0:pt (turn b (rot k (bdP w s u v ps))) 0=pt (rot k (bdP w s u v ps)) 0:=by
    cases b
    . rfl
    . rw[jdj (by omega),Nat.sub_zero,Nat.mod_self]
  rw[e];refine jjR T n3 n8 (d.frm n3 n8) (dr.turn n8 b) a1 (fun p hp'=>?_) a2 ?_
  . rw[t0,at_ 0 (by omega),jm9 kl]
    rw[jdP] at hp';obtain⟨u',hu',rfl⟩:=xaC.mp hp';rw[jdO w1];exact h.mn u' hu'
  . have hb:=h.bb
    rw[lu] at hb;rw[lb];cases b with
    | false =>
      show sfp (pt (rot k (bdP w s u v ps)) (ps.length-1)) (pt (rot k (bdP w s u v ps)) 1)=false;rw[at_ _ (by omega),at_ 1 (by omega),jdO w1];exact hb.symm
    | true =>
      rw[jdj (by omega),jdj (by omega),rl,xaF (show ps.length-1<ps.length by omega),show ps.length-(ps.length-1)=1 by omega,xaF (show 1<ps.length by omega),at_ 1 (by omega),at_ (ps.length-1) (by omega),jdO w1];cases z:jdc (l3 (tr (rot k (ps.map (jaH s u v))) 1)) (l3 (tr (rot k (ps.map (jaH s u v))) (ps.length-1))) with
      | false=>rfl
      | true =>
        have c:=jgQ z hb.symm;rw[jis] at c;cases c
theorem jlz {w:Int} {u:Tri} {ps:List (Int × Int)} {k:Nat} (hp:ps∈jgg) (hk:k<ps.length) (b:Bool):Dih (bdP w s u v ps) ((if b=true then (rot k (ps.map (jaH s u v))).reverse else rot k (ps.map (jaH s u v))).map (jbn w)):=by
 have ln:=jeH ps hp;have n3:3<=(bdP w s u v ps).length:=by rw[jbk];exact ln.2.1
 have n8:(bdP w s u v ps).length<=8:=by rw[jbk];exact ln.1
 have dr:Dih (bdP w s u v ps) (rot k (bdP w s u v ps)):=(Dih.refl n3).rot n8 (by rw[jbk];exact hk);have e0:rot k (bdP w s u v ps)=(rot k (ps.map (jaH s u v))).map (jbn w):=by rw[jdP,jhe]
 rw[e0] at dr;cases b
 ·exact dr
 ·have z:=dr.rev n8;rw[<- xbc] at z;exact z
theorem jjS {w:Int} {u:Tri} {ps:List (Int × Int)} {k:Nat} (w1:1<=w) (hn:cnz u v) (hp:ps∈jgg) (hk:k<ps.length) (b:Bool):GoodB ((if b=true then (rot k (ps.map (jaH s u v))).reverse else rot k (ps.map (jaH s u v))).map (jbn w)):=by
 have g:=jlr (s:=s) w1 hn (jhb ps hp k hk b);have e:bdP w s u v (if b=true then (rot k ps).reverse else rot k ps)=(if b=true then (rot k (ps.map (jaH s u v))).reverse else rot k (ps.map (jaH s u v))).map (jbn w):=by
  have r:(rot k ps).map (jaH s u v)=rot k (ps.map (jaH s u v)):=by
   unfold rot;rw[xah,xaK,xaM]
  rw[jdP];cases b
  ·rw[if_neg (by decide),if_neg (by decide),r]
  ·rw[if_pos rfl,if_pos rfl,xbc,r]
 rw[<- e];exact g
def jks:Sp:=fun vs H Q _=>∃(l:Addr) (rs:List Addr) (us:List Tri) (n:Int) (Z:Tri × Tri × Tri × List (Int × Int)),vs=[.ref l,.int n]/\RwAt H l rs us/\3<=us.length/\us.length<=8/\(∀u∈us,tsm (2^30) u)/\0<=n/\(us=Z.2.2.2.map (jaH Z.1 Z.2.1 Z.2.2.1)/\cnz Z.2.1 Z.2.2.1/\Z.2.2.2∈jgg)/\∀(a:Addr) (ts:List Addr) (us':List Tri) (H':Hp),Same H H'->RwAt H' a ts us'->us'.length<=9->(∀u∈us',tsm (2^70) u)->(∀w,1<=w->¬GoodB (us'.map (jbn w)))->Q (.ref a) H'
theorem jlA (T:Tx K mg t1 t2) (F:At K mg "_law_spoilt" jch ["rows","number"] []):jaz P w K mg base CX0 1 "_law_spoilt" ["rows","number"] [] jks:=by
 refine F.ok jc1 (fun vs H Q E h=>?_) (fun f cdv A outer s H vs Q E hr h=>?_)
 ·obtain⟨l,rs,us,n,Z,rfl,_⟩:=h;rfl
 obtain⟨l,rs,us,n,⟨zs,zu,zv,ps⟩,rfl,hR,l3,l8,hb,n0,⟨hus,hn,hps⟩,q⟩:=h;replace hus:us=ps.map (jaH zs zu zv):=hus;replace hn:cnz zu zv:=hn;replace hps:ps∈jgg:=hps;have S:=jc1;refine⟨_,(jac (jal (i:=2) S.nd rfl (Or.inl rfl) (jah jaE (pv 1) jab))
  (jbb (slM H l n (us.length:Nat)) (jal (i:=3) S.nd rfl (Or.inr rfl) (jah jaE (jah jax (pv 1) jab) (jat jaB rfl T.m_len PySem.boot_len (jaa (pv 0) jad jaf))))
  (jbb (slM H l n (us.length:Nat)) (jaK (jam jbd (pv 2) jab (jas _))
  (jae (jao (jaV jba (pv 0) jaP (jaQ (jah jaE (jah jax (pv 1) jab) jab)))))
  jap)
  (jbb (slM H l n (us.length:Nat)) (jaK (jam jbd (pv 2) jab (jas _))
  (jae (jao (jah jb1 (jah jb1 (jaV jba (pv 0) jaP (jaQ (pv 3))) (jaU (jaa (jai jak (pv 0) (pv 3)) jad jaA))) (jaV jba (pv 0) (jaQ (pv 3)) jaP))))
  jap)
  (jbb (slM H l n (us.length:Nat)) (jaK (PW.pt (jdk (jam jbd (pv 2) jab (jas _)) (jc7 (jam jeP (jat jaB rfl T.m_len PySem.boot_len (jaa (pv 0) jad jaf)) jab (jas _)))))
  (jac (jal (i:=4) S.nd rfl (Or.inr rfl) (ja1 rfl (N':=["j","rows"]) (ix:=[0]) (by walk_at "cs") (jaI rfl T.m_range (jaa jab jad jan)) (fun _ _ _ _=>jaw (i:=0) (show (["j","rows"]:List Str).Nodup from by decide +kernel) rfl (Or.inl rfl)) (fun _ _ _ _=>ja2) (fun _ _ _ _=>(jah ja7 (jai (jaC (K:=K) rfl) (jai (jaC (K:=K) rfl) (pv 1) jab) (pv 0)) (jai (jaC (K:=K) rfl) (jai (jaC (K:=K) rfl) (pv 1) jab) (pv 0))))))
  (jac (jal (i:=5) S.nd rfl (Or.inr rfl) (ja1 rfl (N':=["j","rows"]) (ix:=[0]) (by walk_at "cs") (jaI rfl T.m_range (jaa jab jad jan)) (fun _ _ _ _=>jaw (i:=0) (show (["j","rows"]:List Str).Nodup from by decide +kernel) rfl (Or.inl rfl)) (fun _ _ _ _=>ja2) (fun _ _ _ _=>(jah ja7 (jai (jaC (K:=K) rfl) (jai (jaC (K:=K) rfl) (pv 1) jab) (pv 0)) (jai (jaC (K:=K) rfl) (jai (jaC (K:=K) rfl) (pv 1) jab) (pv 0))))))
  (jac (jal (i:=6) S.nd rfl (Or.inr rfl) (jaU (jaa (jah ja7 (jah jay (jai jak (pv 4) jab) (jai jak (pv 5) jab)) (jah jay (jai jak (pv 4) jab) (jai jak (pv 5) jab))) (jaa (jah ja7 (jah jay (jai jak (pv 4) jab) (jai jak (pv 5) jab)) (jah jay (jai jak (pv 4) jab) (jai jak (pv 5) jab))) (jaa (jah ja7 (jah jay (jai jak (pv 4) jab) (jai jak (pv 5) jab)) (jah jay (jai jak (pv 4) jab) (jai jak (pv 5) jab))) jad jaR) jaR) jaR)))
  (jae (jao (jah jb1 (jah jb1 (jaV jba (pv 0) jaP (jaQ (pv 3))) (jaU (jaa (ja1 rfl (N':=["j","rows","at","up"]) (ix:=[0,3,6]) (by walk_at "cs") (jaI rfl T.m_range (jaa jab jad jan)) (fun _ _ _ _=>jaw (i:=0) (show (["j","rows","at","up"]:List Str).Nodup from by decide +kernel) rfl (Or.inl rfl)) (fun _ _ _ _=>ja2) (fun _ _ _ _=>(jah jbf (jai (jaC (K:=K) rfl) (jai (jaC (K:=K) rfl) (pv 1) (pv 2)) (pv 0)) (jai (jaC (K:=K) rfl) (pv 3) (pv 0))))) jad je1))) (jaV jba (pv 0) (jaQ (jah jbf (pv 3) jab)) jaP)))))))
  jap)
  (jbb (slM H l n (us.length:Nat)) (jaK (PW.pt (jdk (jam jbd (pv 2) jab (jas _)) (jc7 (jam jeP (jat jaB rfl T.m_len PySem.boot_len (jaa (pv 0) jad jaf)) jab (jas _)))))
  (jae (jao (jah jb1 (jaU (jaa (jai jak (pv 0) jab) (jaa (jai jak (pv 0) jab) jad jaA) jaA)) (jaV jba (pv 0) (jaQ jab) jaP))))
  jap)
  (jbb (slM H l n (us.length:Nat)) (jaK (jam jbd (pv 2) jab (jas _))
  (jac (jal (i:=4) S.nd rfl (Or.inr rfl) (ja1 rfl (N':=["j","rows"]) (ix:=[0]) (by walk_at "cs") (jaI rfl T.m_range (jaa jab jad jan)) (fun _ _ _ _=>jaw (i:=0) (show (["j","rows"]:List Str).Nodup from by decide +kernel) rfl (Or.inl rfl)) (fun _ _ _ _=>ja2) (fun _ _ _ _=>(jah ja7 (jai (jaC (K:=K) rfl) (jai (jaC (K:=K) rfl) (pv 1) jab) (pv 0)) (jai (jaC (K:=K) rfl) (jai (jaC (K:=K) rfl) (pv 1) jab) (pv 0))))))
  (jac (jal (i:=5) S.nd rfl (Or.inr rfl) (ja1 rfl (N':=["j","rows"]) (ix:=[0]) (by walk_at "cs") (jaI rfl T.m_range (jaa jab jad jan)) (fun _ _ _ _=>jaw (i:=0) (show (["j","rows"]:List Str).Nodup from by decide +kernel) rfl (Or.inl rfl)) (fun _ _ _ _=>ja2) (fun _ _ _ _=>(jah ja7 (jai (jaC (K:=K) rfl) (jai (jaC (K:=K) rfl) (pv 1) jab) (pv 0)) (jai (jaC (K:=K) rfl) (jai (jaC (K:=K) rfl) (pv 1) jab) (pv 0))))))
  (jae (jao (ja1 rfl (N':=["k","rows","a","b"]) (ix:=[0,4,5]) (by walk_at "cs") (jaI rfl T.m_range (jaa jab jad jan)) (fun _ _ _ _=>jaw (i:=0) (show (["k","rows","a","b"]:List Str).Nodup from by decide +kernel) rfl (Or.inr rfl)) (fun _ _ _ _=>ja2) (fun _ _ _ _=>(ja1 rfl (N':=["j","rows","k","a","b"]) (ix:=[1,0,2,3]) (CompScopeC.nest rfl rfl (by decide +kernel) (by decide +kernel) (by decide +kernel) (show ∀y:Str × NameKind,y∈_->y.2=NameKind.free->y.1∈(["rows","k","a","b"]:List Str) from by decide +kernel) (.cons rfl (.inl rfl) rfl (.cons rfl (.inl rfl) rfl (.cons rfl (.inl rfl) rfl (.cons rfl (.inl rfl) rfl .nil))))) (jaI rfl T.m_range (jaa jab jad jan)) (fun _ _ _ _=>jaw (i:=0) (show (["j","rows","k","a","b"]:List Str).Nodup from by decide +kernel) rfl (Or.inl rfl)) (fun _ _ _ _=>ja2) (fun _ _ _ _=>(jah jbf (jah jbf (jai (jaC (K:=K) rfl) (jai (jaC (K:=K) rfl) (pv 1) jab) (pv 0)) (jah jay (pv 2) (jai (jaC (K:=K) rfl) (pv 3) (pv 0)))) (jah jay (jah jay (pv 2) (pv 2)) (jai (jaC (K:=K) rfl) (pv 4) (pv 0))))))))))))
  jap)
  (jae (jao (jaU (jaa (jai jak (pv 0) jab) (jaa (jai jak (pv 0) jab) (jaa (ja1 rfl (N':=["j","rows"]) (ix:=[0]) (by walk_at "cs") (jaI rfl T.m_range (jaa jab jad jan)) (fun _ _ _ _=>jaw (i:=0) (show (["j","rows"]:List Str).Nodup from by decide +kernel) rfl (Or.inl rfl)) (fun _ _ _ _=>ja2) (fun _ _ _ _=>(jah ja7 (jah jay jab (jai (jaC (K:=K) rfl) (jai (jaC (K:=K) rfl) (pv 1) jab) (pv 0))) (jai (jaC (K:=K) rfl) (jai (jaC (K:=K) rfl) (pv 1) jab) (pv 0))))) jad je1) jaA) jaA))))))))))),?_⟩
 have lr:=hR.2.len;have lps:us.length=ps.length:=by rw[hus];exact xaa _
 have usq:∀{i:Nat},i<ps.length->us[i]?=some (jaH zs zu zv (qt ps i)):=fun {i} h=>by
  unfold qt;rw[hus,xai,xac,xab h];rfl
 have kl:=SqL.of (K:=K) hR.1;have lm:(rs.map V.ref).length=us.length:=by rw[xaa,lr]
 have f6:Fit 6:=.o (by decide) (by decide);have p30:(2:Int)^30=1073741824:=by decide
 have p70:(2:Int)^70=1180591620717411303424:=by decide
 have b70:∀u∈us,tsm (2^70) u:=fun u hu=>by
  obtain⟨⟨h1,h2⟩,⟨h3,h4⟩,h5,h6⟩:=hb u hu;rw[p30] at h1 h2 h3 h4 h5 h6;unfold tsm;rw[p70];omega
 have bt:∀u∈us,∀k,-1073741824<=tc u k/\tc u k<=1073741824:=fun u hu k=>by
  obtain⟨h1,h2,h3⟩:=hb u hu;rw[p30] at h1 h2 h3;unfold tc;split
  ·exact h1
  ·split
   ·exact h2
   ·exact h3
 obtain⟨r0,g0⟩:∃r,rs[0]?=some r:=⟨_,xab (by omega)⟩;obtain⟨r1,g1⟩:∃r,rs[1]?=some r:=⟨_,xab (by omega)⟩;obtain⟨r2,g2⟩:∃r,rs[2]?=some r:=⟨_,xab (by omega)⟩;obtain⟨u0,w0,d0⟩:=hR.2.getA g0;obtain⟨u1,w1,d1⟩:=hR.2.getA g1;obtain⟨u2,w2,d2⟩:=hR.2.getA g2;have m0:=xas w0;have m1:=xas w1;have m2:=xas w2;have i0:atI (rs.map V.ref) (((0:Nat)):Int)=some (.ref r0):=jaM (by rw[xai,g0];rfl);have i1:atI (rs.map V.ref) (((1:Nat)):Int)=some (.ref r1):=jaM (by rw[xai,g1];rfl);have i2:atI (rs.map V.ref) (((2:Nat)):Int)=some (.ref r2):=jaM (by rw[xai,g2];rfl);obtain⟨at',ea⟩:∃k:Nat,n / 6 % ((us.length:Nat):Int)=(k:Int):=⟨(n / 6 % ((us.length:Nat):Int)).toNat,by have:=xaq (n / 6) (show ((us.length:Nat):Int)≠0 by omega);omega⟩;have al:at'<us.length:=by have:=xam (n / 6) (show 0<((us.length:Nat):Int) by omega);omega
 walk_at "rf";refine⟨by decide,by decide,f6,⟨_,.inl kl,?_⟩,?_⟩
 ·rw[lm];exact⟨by omega,rfl,rfl⟩
 rintro σ H1 ⟨rfl,rfl⟩;walk_at "rf";refine⟨jb2 (fun c=>?_) fun c=>⟨rfl,rfl⟩,?_⟩
 ·have k0:=xaq (n / 6) (show (3:Int)≠0 by decide);obtain⟨k,ek⟩:∃k:Nat,n / 6 % 3=(k:Int):=⟨(n / 6 % 3).toNat,by omega⟩;rw[ek];refine⟨by decide,f6,by decide,l,_,rfl,kl,fun a1 n1=>?_⟩;rw[jbF];refine ja9 n1 fun J1 j1 e1=>q a1 (rs.take k) (us.take k) J1 j1 ⟨by rw[e1,xaM],(hR.2.take k).mono fun _ _ e=>j1 _ _ e⟩ (by rw[xak];omega) (fun u hu=>b70 u (xaN hu)) fun w _ B=>by
   have z:=B.n3;rw[xaa,xak] at z;have k3:=xam (n / 6) (show (0:Int)<3 by decide);omega
 rintro σ H2 ⟨rfl,rfl⟩;walk_at "rf";rw[ea];refine⟨jb2 (fun c=>?_) fun c=>⟨rfl,by rw[ea]⟩,?_⟩
 ·refine⟨l,_,rfl,kl,fun a1 n1=>?_⟩;rw[jbF];obtain⟨ra,ga⟩:∃r,rs[at']?=some r:=⟨_,xab (by omega)⟩;obtain⟨ua,wa,da⟩:=hR.2.getA ga;refine ja9 n1 fun J1 j1 e1=>ixL (SqL.of (j1 _ _ hR.1)) (v:=.ref ra) (jaM (by rw[xai,ga];rfl)) ⟨by show 1<=sizeLine;decide,fun a2 n2=>ja9 n2 fun J2 j2 e2=>⟨a1,a2,_,_,rfl,rfl,j2 _ _ e1,e2,?_,fun a3 n3=>ja9 n3 fun J3 j3 e3=>?_⟩⟩
  ·rw[xak,lm];exact xaI (jaL (by show _+1<1000;omega))
  refine⟨l,_,rfl,SqL.of (j3 _ _ (j2 _ _ (j1 _ _ hR.1))),fun a4 n4=>?_⟩;rw[jbE];refine ja9 n4 fun J4 j4 e4=>⟨a3,a4,_,_,rfl,rfl,j4 _ _ e3,e4,?_,fun a5 n5=>ja9 n5 fun J5 j5 e5=>?_⟩
  ·rw[xaf,xak,xao,lm];exact xaI (jaL (by show _+1+_<1000;omega))
  have sj:=j1.trans (j2.trans (j3.trans (j4.trans j5)));refine q a5 (rs.take at'++[ra]++rs.drop at') (us.take at'++[ua]++us.drop at') J5 sj ⟨by rw[e5,xah,xah,xaM,xaK];rfl,(((hR.2.take _).app (.cons da .nil)).app (hR.2.drop _)).mono fun _ _ e=>sj _ _ e⟩ ?_ (fun u hu=>?_) fun w w1=>?_
  ·rw[xaf,xaf,xak,xao];show _+1+_<=9;omega
  ·rcases xax.mp hu with h | h
   ·rcases xax.mp h with h | h
    ·exact b70 u (xaN h)
    ·rw[xay.mp h];exact b70 _ (xas wa)
   ·exact b70 u (xaQ h)
  ·have z:=jiT (s:=zs) w1 hn (jls ps hps at' (by omega));have ua':ua=jaH zs zu zv (qt ps at'):=Option.some.inj (wa.symm.trans (usq (by omega)));rw[jdP,xah (f:=jaH zs zu zv),xah (f:=jaH zs zu zv),xaM (f:=jaH zs zu zv),xaK (f:=jaH zs zu zv),<- hus] at z;rw[ua'];exact z
 have sub31:∀{u v:Tri},u∈us->v∈us->∀k,-2147483648<=tc (jhI u v) k/\tc (jhI u v) k<=2147483648:=fun {u v} hu hv k=>by
  have x:=bt u hu;have y:=bt v hv;have x0:=x 0;have x1:=x 1;have x2:=x 2;have y0:=y 0;have y1:=y 1;have y2:=y 2;unfold tc at *
  simp only[jhI] at *
  split
  ·simp at x0 y0 |-
   omega
  ·split
   ·simp at x1 y1 |-
    omega
   ·simp at x2 y2 |-
    omega
 have fit:∀{x:Int},-2147483648<=x/\x<=2147483648->Fit x:=fun h=>.o (by omega) (by omega);have mul62:∀{x y:Int},-2147483648<=x/\x<=2147483648->-2147483648<=y/\y<=2147483648->-4611686018427387904<=x*y/\x*y<=4611686018427387904:=fun {x y} hx hy=>by
  have h:(x*y).natAbs<=2147483648*2147483648:=by
   rw[xbP];exact Nat.mul_le_mul (by omega) (by omega)
  omega
 rintro σ H3 ⟨rfl,rfl⟩;walk_at "rf";refine⟨jb2 (fun c=>⟨_,.inl kl,?_⟩) fun c=>⟨rfl,rfl⟩,?_⟩
 ·rw[lm];refine jb2 (fun c3=>?_) fun c3=>⟨rfl,rfl⟩;refine⟨by decide,by decide,fun a1 n1=>dfc kl i1 i0 d1 d0 n1 fun J1 j1 e1=>⟨by decide,by decide,fun a2 n2=>dfc (SqL.of (j1 _ _ hR.1)) i2 i0 (j1 _ _ d2) (j1 _ _ d0) n2 fun J2 j2 e2=>?_⟩⟩;have A:=sub31 m1 m0;have B:=sub31 m2 m0;have qa:=SqL.of (K:=K) (j2 _ _ e1);have qb:=SqL.of (K:=K) e2;have j02:=j1.trans j2;have cr:crs (jhI u1 u0) (jhI u2 u0)=⟨My.e2 (qt ps 0) (qt ps 1) (qt ps 2)*(crs zu zv).x,My.e2 (qt ps 0) (qt ps 1) (qt ps 2)*(crs zu zv).y,My.e2 (qt ps 0) (qt ps 1) (qt ps 2)*(crs zu zv).z⟩:=by
   rw[Option.some.inj (w0.symm.trans (usq (by omega))),Option.some.inj (w1.symm.trans (usq (by omega))),Option.some.inj (w2.symm.trans (usq (by omega)))];unfold crs jhI jaH My.e2
   congr 1<;>simp only<;>grind
  generalize jhI u1 u0=p1 at e1 qa A cr;generalize jhI u2 u0=p2 at e2 qb B cr;have A0:=A 0;have A1:=A 1;have A2:=A 2;have B0:=B 0;have B1:=B 1;have B2:=B 2;simp only[tc] at A0 A1 A2 B0 B1 B2;simp at A0 A1 A2 B0 B1 B2;have F0:=fit A0;have F1:=fit A1;have F2:=fit A2;have G0:=fit B0;have G1:=fit B1;have G2:=fit B2;have P1:=mul62 A1 B2;have P2:=mul62 A2 B1;have P3:=mul62 A2 B0;have P4:=mul62 A0 B2;have P5:=mul62 A0 B1;have P6:=mul62 A1 B0;walk_at "gf";intro a3 n3;rw[ea];obtain⟨ra,ga⟩:∃r,rs[at']?=some r:=⟨_,xab (by omega)⟩;obtain⟨ua,wa,da⟩:=hR.2.getA ga;have ba:=bt ua (xas wa);refine ja9 n3 fun J3 j3 e3=>⟨l,_,rfl,SqL.of (j3 _ _ (j02 _ _ hR.1)),fun a4 n4=>?_⟩;rw[jbF];refine ja9 n4 fun J4 j4 e4=>⟨by decide,by decide,fun a5 n5=>?_⟩;have j04:=j02.trans (j3.trans j4);refine jjO ⟨ua.x+(p1.y*p2.z-p1.z*p2.y),ua.y+(p1.z*p2.x-p1.x*p2.z),ua.z+(p1.x*p2.y-p1.y*p2.x)⟩ n5 (fun k H5 R hk s5 hR5=>?_) fun J5 j5 e5=>?_
  ·walk_at "rf";refine ixL (SqL.of (s5 _ _ (j04 _ _ hR.1))) (v:=.ref ra) (jaM (by rw[xai,ga];rfl)) (ixL (SqL.of (s5 _ _ (j04 _ _ da))) (at3 hk) (ixL (SqL.of (s5 _ _ (j4 _ _ e3))) (at3 (u:=⟨_,_,_⟩) hk) ⟨_,rfl,_,rfl,?_⟩));rw[tc3 (f:=fun a b=>a+b) (v:=⟨p1.y*p2.z-p1.z*p2.y,p1.z*p2.x-p1.x*p2.z,p1.x*p2.y-p1.y*p2.x⟩) hk] at hR5;exact hR5
  ·refine⟨by show 1<=sizeLine;decide,fun a6 n6=>ja9 n6 fun J6 j6 e6=>⟨a4,a6,_,_,rfl,rfl,j6 _ _ (j5 _ _ e4),e6,?_,fun a7 n7=>ja9 n7 fun J7 j7 e7=>?_⟩⟩
   ·rw[xak,lm];exact xaI (jaL (by show _+1<1000;omega))
   have j07:=j04.trans (j5.trans (j6.trans j7));refine⟨l,_,rfl,SqL.of (j07 _ _ hR.1),fun a8 n8=>?_⟩;rw[show (at':Int)+1=((at'+1:Nat):Int) by omega,jbE];refine ja9 n8 fun J8 j8 e8=>⟨a7,a8,_,_,rfl,rfl,j8 _ _ e7,e8,?_,fun a9 n9=>ja9 n9 fun J9 j9 e9=>?_⟩
   ·rw[xaf,xak,xao,lm];exact xaI (jaL (by show _+1+_<1000;omega))
   have sj:=j07.trans (j8.trans j9);refine q a9 (rs.take at'++[a5]++rs.drop (at'+1)) (us.take at'++[_]++us.drop (at'+1)) J9 sj ⟨by rw[e9,xah,xah,xaM,xaK];rfl,(((hR.2.take _).mono fun _ _ e=>sj _ _ e).app (.cons (j9 _ _ (j8 _ _ (j7 _ _ (j6 _ _ e5)))) .nil)).app ((hR.2.drop _).mono fun _ _ e=>sj _ _ e)⟩ ?_ (fun u hu=>?_) fun w w1'=>?_
   ·rw[xaf,xaf,xak,xao];show _+1+_<=9;omega
   ·rcases xax.mp hu with h | h
    ·rcases xax.mp h with h | h
     ·exact b70 u (xaN h)
     ·rw[xay.mp h];have b0:=ba 0;have b1:=ba 1;have b2:=ba 2;simp only[tc] at b0 b1 b2;simp at b0 b1 b2;unfold tsm;rw[p70];simp only;omega
    ·exact b70 u (xaQ h)
   ·have gd:My.g2 ps=true:=by
     have z:=jhb ps hps 0 (by omega) false;rw[if_neg (by decide)] at z;unfold rot at z;rw[List.drop_zero,List.take_zero,xbp] at z;exact z
    have te:My.e2 (qt ps 0) (qt ps 1) (qt ps 2)≠0:=by
     have z:=gd;unfold My.g2 at z;simp only[xaE,decide_eq_true_eq] at z;exact z.1.2
    have z:=jm1 (s:=zs) (k:=at') (ps:=ps) w1' hn te (by omega) (by omega) gd;rw[<- hus,<- cr] at z;have ua':ua=jaH zs zu zv (qt ps at'):=Option.some.inj (wa.symm.trans (usq (by omega)));rw[ua'];exact z
 rintro σ H4 ⟨rfl,rfl⟩;walk_at "rf";refine⟨jb2 (fun c=>⟨_,.inl kl,?_⟩) fun c=>⟨rfl,rfl⟩,?_⟩
 ·rw[lm];refine jb2 (fun c3=>?_) fun c3=>⟨rfl,rfl⟩;refine ixL kl i1 (ixL kl i0 ⟨by show 2<=sizeLine;decide,fun a1 n1=>ja9 n1 fun J1 j1 e1=>⟨l,_,rfl,SqL.of (j1 _ _ hR.1),fun a2 n2=>?_⟩⟩);rw[show jfD (rs.map V.ref) (some 2) none=(rs.map V.ref).drop 2 from jbE (f:=2)];refine ja9 n2 fun J2 j2 e2=>⟨a1,a2,_,_,rfl,rfl,j2 _ _ e1,e2,?_,fun a3 n3=>ja9 n3 fun J3 j3 e3=>?_⟩
  ·rw[xao,lm];exact xaI (jaL (by show 2+_<1000;omega))
  have sj:=j1.trans (j2.trans j3);refine q a3 ([r1,r0]++rs.drop 2) ([u1,u0]++us.drop 2) J3 sj ⟨by rw[e3,xah,xaK];rfl,((All2.cons d1 (.cons d0 .nil)).app (hR.2.drop 2)).mono fun _ _ e=>sj _ _ e⟩ ?_ (fun u hu=>?_) fun w w1'=>?_
  ·rw[xaf,xao];show 2+_<=9;omega
  ·rcases xax.mp hu with h | h
   ·simp only[xad,xae,or_false] at h;rcases h with rfl | rfl
    ·exact b70 _ m1
    ·exact b70 _ m0
   ·exact b70 u (xaQ h)
  ·have z:=jiT (s:=zs) w1' hn (jlt ps hps (by omega));rw[jdP,xah (f:=jaH zs zu zv),xaK (f:=jaH zs zu zv),<- hus] at z;rw[Option.some.inj (w0.symm.trans (usq (by omega))),Option.some.inj (w1.symm.trans (usq (by omega)))];exact z
 rintro σ H5 ⟨rfl,rfl⟩;walk_at "rf";refine⟨jb2 (fun c=>?_) fun c=>⟨rfl,rfl⟩,?_⟩
 ·refine⟨by decide,by decide,fun a1 n1=>dfc kl i1 i0 d1 d0 n1 fun J1 j1 e1=>⟨by decide,by decide,fun a2 n2=>dfc (SqL.of (j1 _ _ hR.1)) i2 i0 (j1 _ _ d2) (j1 _ _ d0) n2 fun J2 j2 e2=>⟨by decide,by decide,fun a3 n3=>?_⟩⟩⟩;have A:=sub31 m1 m0;have B:=sub31 m2 m0;have C:=bt u0 m0;have j02:=j1.trans j2;have e1':=j2 _ _ e1;generalize jhI u1 u0=p1 at e1' A;generalize jhI u2 u0=p2 at e2 B;have fk:∀i:Nat,i<9->Fit (0+(i:Int))/\Fit ((0+(i:Int))*(0+(i:Int))):=fun i hi=>by
   have h:0<=(0+(i:Int))*(0+(i:Int))/\(0+(i:Int))*(0+(i:Int))<=64:=by
    have:i=0\/i=1\/i=2\/i=3\/i=4\/i=5\/i=6\/i=7\/i=8:=by omega
    rcases this with rfl | rfl | rfl | rfl | rfl | rfl | rfl | rfl | rfl<;>decide
   exact⟨.o (by omega) (by omega),.o (by omega) (by omega)⟩
  refine jmZ (n:=9) (fun i=>⟨u0.x+(0+(i:Int))*p1.x+(0+(i:Int))*(0+(i:Int))*p2.x,u0.y+(0+(i:Int))*p1.y+(0+(i:Int))*(0+(i:Int))*p2.y,u0.z+(0+(i:Int))*p1.z+(0+(i:Int))*(0+(i:Int))*p2.z⟩) (by decide) n3 (fun i H3 R hi s3 hR3=>?_) (fun ps J5 j5 e5 pm py=>?_)
  ·walk_at "rf";refine⟨by decide,by decide,fun a4 n4=>jjO _ n4 (fun k H4 R4 hk s4 hR4=>?_) fun J6 j6 e6=>hR3 a4 J6 j6 n4 e6⟩;have s04:=j02.trans (s3.trans s4);obtain⟨f1,f2⟩:=fk i hi;walk_at "rf";refine ixL (SqL.of (s04 _ _ hR.1)) i0 (ixL (SqL.of (s04 _ _ d0)) (at3 hk) (ixL (SqL.of (s4 _ _ (s3 _ _ e1'))) (at3 hk) ⟨_,rfl,f1,fit (A k),_,rfl,f1,f1,ixL (SqL.of (s4 _ _ (s3 _ _ e2))) (at3 hk) ⟨_,rfl,f2,fit (B k),?_⟩⟩));obtain rfl | rfl | rfl:k=0\/k=1\/k=2:=by omega
   ·exact hR4
   ·exact hR4
   ·exact hR4
  ·refine q a3 (ps.map Prod.fst) (ps.map Prod.snd) J5 (j02.trans j5) ⟨e5,jg8 ps py⟩ (by rw[pm,xaa,xbf];exact xaj _) (fun u hu=>?_) fun w _ B=>by
    have z:=B.n8;rw[xaa,pm,xaa,xbf] at z;exact absurd z (by decide)
   rw[pm] at hu;obtain⟨i,hi,rfl⟩:=xaC.mp hu;have hi:=xaX.mp hi;have bd:∀{x a b:Int},(-1073741824<=x/\x<=1073741824)->(-2147483648<=a/\a<=2147483648)->(-2147483648<=b/\b<=2147483648)->-1180591620717411303424<=x+(0+(i:Int))*a+(0+(i:Int))*(0+(i:Int))*b/\x+(0+(i:Int))*a+(0+(i:Int))*(0+(i:Int))*b<=1180591620717411303424:=fun {x a b} hx ha hb=>by
    have:i=0\/i=1\/i=2\/i=3\/i=4\/i=5\/i=6\/i=7\/i=8:=by omega
    rcases this with rfl | rfl | rfl | rfl | rfl | rfl | rfl | rfl | rfl<;>simp<;>omega
   unfold tsm;rw[p70];exact⟨bd (C 0) (A 0) (B 0),bd (C 1) (A 1) (B 1),bd (C 2) (A 2) (B 2)⟩
 rintro σ H6 ⟨rfl,rfl⟩;walk_at "rf";refine ixL kl i0 (ixL kl i1 ⟨by decide,by decide,fun a1 n1=>jjO ⟨2*u1.x-u0.x,2*u1.y-u0.y,2*u1.z-u0.z⟩ n1 (fun k H3 R hk s3 hR3=>?_) fun J1 j1 e1=>⟨by show 3<=sizeLine;decide,fun a2 n2=>ja9 n2 fun J2 j2 e2=>?_⟩⟩)
 ·walk_at "rf";refine ixL (SqL.of (s3 _ _ hR.1)) i1 (ixL (SqL.of (s3 _ _ d1)) (at3 hk) ⟨_,rfl,.o (by decide) (by decide),fit ⟨by have:=bt u1 m1 k;omega,by have:=bt u1 m1 k;omega⟩,ixL (SqL.of (s3 _ _ hR.1)) i0 (ixL (SqL.of (s3 _ _ d0)) (at3 hk) ⟨_,rfl,?_⟩)⟩);rw[tc3 (f:=fun a b=>2*a-b) hk] at hR3;exact hR3
 ·have sj:=j1.trans j2;refine q a2 [r0,r1,a1] [u0,u1,_] J2 sj ⟨e2,.cons (sj _ _ d0) (.cons (sj _ _ d1) (.cons (j2 _ _ e1) .nil))⟩ (by show 3<=9;decide) (fun u hu=>?_) fun w w1'=>?_;simp only[xad,xae,or_false] at hu;rcases hu with rfl | rfl | rfl
  ·exact b70 _ m0
  ·exact b70 _ m1
  ·obtain⟨x1,x2,x3⟩:=hb u1 m1;obtain⟨y1,y2,y3⟩:=hb u0 m0;rw[p30] at x1 x2 x3 y1 y2 y3;unfold tsm;rw[p70];simp only;omega
  ·have z:=jiT (s:=zs) w1' hn (jlu ps hps);have e:bdP w zs zu zv [qt ps 0,qt ps 1,(2*(qt ps 1).1-(qt ps 0).1,2*(qt ps 1).2-(qt ps 0).2)]=[u0,u1,(⟨2*u1.x-u0.x,2*u1.y-u0.y,2*u1.z-u0.z⟩:Tri)].map (jbn w):=by
    rw[Option.some.inj (w0.symm.trans (usq (by omega))),Option.some.inj (w1.symm.trans (usq (by omega)))];have m:jaH zs zu zv (2*(qt ps 1).1-(qt ps 0).1,2*(qt ps 1).2-(qt ps 0).2)=⟨2*(jaH zs zu zv (qt ps 1)).x-(jaH zs zu zv (qt ps 0)).x,2*(jaH zs zu zv (qt ps 1)).y-(jaH zs zu zv (qt ps 0)).y,2*(jaH zs zu zv (qt ps 1)).z-(jaH zs zu zv (qt ps 0)).z⟩:=by
     unfold jaH
     congr 1<;>simp only<;>grind
    show [_,_,jbn w (jaH zs zu zv (2*(qt ps 1).1-(qt ps 0).1,2*(qt ps 1).2-(qt ps 0).2))]=[_,_,jbn w _];rw[m]
   rw[e] at z;exact z
theorem tsm.mono {b:Int} {u:Tri} (h:tsm a u) (l:a<=b):tsm b u:=by
 unfold tsm at *
 omega
theorem RowD.len {w:Int} (h:RowD us w):3<=us.length/\us.length<=8:=by
 obtain⟨s,u,v,ps,hp,rfl,_⟩:=h.ex;have:=jeH ps hp;rw[xaa];omega
theorem ji0 {s b i l:Int} (hs:-1000001<=s/\s<=1000001) (ha:-3<=a/\a<=3) (hb:-3<=b/\b<=3) (hi:0<=i/\i<=7) (hl:0<=l/\l<=49):-1073741824<=s+i*a+l*b/\s+i*a+l*b<=1073741824:=by
 have h1:(i*a).natAbs<=7*3:=by
  rw[xbP];exact Nat.mul_le_mul (by omega) (by omega)
 have h2:(l*b).natAbs<=49*3:=by
  rw[xbP];exact Nat.mul_le_mul (by omega) (by omega)
 omega
theorem RowD.sm {w:Int} (h:RowD us w):∀u∈us,tsm (2^30) u:=fun x hx=>by
 obtain⟨s,u,v,ps,hp,rfl,hs,hu,hv,_⟩:=h.ex;obtain⟨p,hp',rfl⟩:=xaC.mp hx;have:=(jeH ps hp).2.2 p hp';show tsm 1073741824 _;exact⟨ji0 hs.1 hu.1 hv.1 this.1 this.2,ji0 hs.2.1 hu.2.1 hv.2.1 this.1 this.2,ji0 hs.2.2 hu.2.2 hv.2.2 this.1 this.2⟩
def FoAt (H:Hp) (fo:V) (ps:List Pt):Prop:=(fo=.non/\¬GoodB ps)\/∃fa,fo=.ref fa/\BoAt H fa (frm ps ps)/\GoodB ps
def jkt:Sp:=fun vs H Q _=>∃(M:List Addr) (nl:Addr) (xs:List Str) (n m:Int),vs=[.ref nl,.int n,.int m]/\(∀a∈M,Mut H a)/\H nl=some (.lst (xs.map V.str))/\xs.length=8/\(∀x∈xs,Nam x)/\0<=n/\0<=m/\∀(d:Addr) (x:Str) (l:Addr) (rs:List Addr) (ps:List Pt) (fo:V) (H':Hp),Same H H'->rm M H' d=some (.tup [.str "put",.str x,.ref l,fo,.bl (!nm x)])->Cor (rm M H') l rs ps->FoAt (rm M H') fo ps->Lo x->x.cps.size<=900->Q (.ref d) H'
def puE (M:List Addr) (H:Hp) (x:Str):L2.St->Hp->Prop:=fun σ H'=>∃(o0 o2 o3 o4:Option V) (fo:V) (n:Int) (l:Addr) (rs:List Addr) (ps:List Pt),σ=[o0,some (.int n),o2,o3,o4,some (.str x),some fo,some (.ref l)]/\0<=n/\Same H H'/\H l=none/\Cor H' l rs ps/\FoAt H' fo ps
theorem jlB (T:Tx K mg t1 t2) (F:At K mg "_law_put" jdM ["names","number","more"] []) (Dh:jaz P w K mg base CX0 2 "_law_rows" ["number"] [] jkm) (De:jaz P w K mg base CX0 3 "_law_form" ["rows","w"] [] jm6) (dg:jaz P w K mg base CX0 2 "_law_spots" ["rows","w"] [] jfz) (dI:jaz P w K mg base CX0 1 "_law_turned" ["rows","number"] [] jmX) (dN:jaz P w K mg base CX0 1 "_law_spoilt" ["rows","number"] [] jks) (di:jaz P w K mg base CX0 1 "_law_bad_name" ["number","name"] [] jiR):jaz P w K mg base CX0 4 "_law_put" ["names","number","more"] [] jkt:=by
 refine F.ok jeC (fun vs H Q E h=>?_) (fun f cdv A outer s H vs Q E hr h=>?_)
 ·obtain⟨M,nl,xs,n,m,rfl,_⟩:=h;rfl
 obtain⟨M,nl,xs,n,m,rfl,mu,hn,lx,hx,n0,m0,q⟩:=h;have S:=jeC;obtain⟨k,ek⟩:∃k:Nat,n % 8=(k:Int):=⟨(n % 8).toNat,by have:=xaq n (show (8:Int)≠0 by decide);omega⟩;have k8:k<xs.length:=by have:=xam n (show (0:Int)<8 by decide);omega
 have ex:xs[k]?=some xs[k]:=xab k8;have nx:=hx xs[k] (xbb k8);generalize xs[k]=x at ex nx;refine⟨_,(jac (jfF (jaj Dh hr.m rfl jaF (jaa (pv 2) jad jaf)) (jeV rfl (ja0 (jaw (i:=3) S.nd rfl (Or.inl rfl)) (ja0 (jaw (i:=4) S.nd rfl (Or.inl rfl)) jcu))))
  (jac (jal (i:=5) S.nd rfl (Or.inl rfl) (jai jak (pv 0) (jah jaE (pv 1) jab)))
  (jac (jal (i:=1) S.nd rfl (Or.inl rfl) (jah jax (pv 1) jab))
  (jac (jal (i:=6) S.nd rfl (Or.inl rfl) (jaj De hr.m rfl jaF (jaa (pv 3) (jaa (pv 4) jad jaf) jaf)))
  (jac (jal (i:=7) S.nd rfl (Or.inl rfl) (jaj dg hr.m rfl jaF (jaa (jaj dI hr.m rfl jaF (jaa (pv 3) (jaa (jah jax (pv 1) jab) jad jaR) jaf)) (jaa (pv 4) jad jaf) jaO)))
  (jbb (puE M H x) (jaK (jam jbd (jah jaE (pv 1) jab) jab (jas _))
  (jac (jal (i:=6) S.nd rfl (Or.inl rfl) jeU)
  (jae (jal (i:=7) S.nd rfl (Or.inl rfl) (jaj dg hr.m rfl jaF (jaa (jaj dN hr.m rfl jaF (jaa (pv 3) (jaa (jah jax (pv 1) jab) jad jaR) jaf)) (jaa (pv 4) jad jaf) jaO)))))
  jap)
  (jac (jaK (jam jeP (jah jaE (pv 1) jab) jab (jas _))
  (jae (jao (jbc (jaa jaY (jaa (jaj di hr.m rfl jaF (jaa (jah jax (pv 1) jab) (jaa (pv 5) jad jaf) jaR)) (jaa (pv 7) (jaa (pv 6) (jaa jby jad jan) jaf) jaf) jaO) jan))))
  jap)
  (jae (jao (jbc (jaa jaY (jaa (pv 5) (jaa (pv 7) (jaa (pv 6) (jaa jby jad jan) jaf) jaf) jaf) jan))))))))))),?_⟩
 walk_at "rf";refine⟨m,rfl,m0,fun t l rs us v H1 s1 et hR hD=>⟨t,rfl,_,SqT.of et,rfl,?_⟩⟩;obtain⟨l3,l8⟩:=hD.len;have sm:=hD.sm;obtain⟨zs,zu,zv,zp,hzp,hzu,_,_,_,hzn⟩:=hD.ex;have un:us≠[]:=fun z=>by rw[z] at l3;exact absurd l3 (by decide)
 have p30:(2:Int)^30<=2^100:=by decide
 have p70:(2:Int)^70<=2^100:=by decide
 walk_at "rf";rw[ek];have f8:Fit 8:=.o (by decide) (by decide);have f12:Fit 12:=.o (by decide) (by decide);have n12:0<=n / 8 / 12:=xaH (xaH n0 (by decide)) (by decide);have n8:0<=n / 8:=xaH n0 (by decide);refine⟨by decide,ixL (SqL.of (s1 _ _ hn)) (v:=.str x) (jaM (by rw[xai,ex];rfl)) ⟨by decide,f8,l,rs,us,v,rfl,hR,l3,l8,(fun u hu=>(sm u hu).mono p30),hD.w1,hD.w3,fun fa H2 kf bf s2 hfa hfd=>⟨by decide,f12,l,rs,us,_,rfl,hR.keep s2,un,by omega,n12,fun a3 ts3 k3 b3 H3 s3 h3 hk3=>?_⟩⟩⟩;have len3:(if b3=true then (rot k3 us).reverse else rot k3 us).length<=20:=by
  have:(rot k3 us).length<=20:=by
   unfold rot;rw[xaf,xao,xak];omega
  cases b3<;>simp<;>omega
 have mem3:∀u∈(if b3=true then (rot k3 us).reverse else rot k3 us),tsm (2^100) u:=fun u hu=>by
  have hu':u∈rot k3 us:=by
   cases b3
   ·exact hu
   ·exact List.mem_reverse.mp hu
  unfold rot at hu';exact (sm u ((xax.mp hu').elim xaQ xaN)).mono p30
 have s03:=s1.trans (s2.trans s3);refine⟨a3,ts3,_,v,rfl,h3,len3,mem3,hD.w1,hD.w3,fun a4 ts4 H4 n4 s4 h4=>⟨by decide,jb2 (fun c=>?_) fun c=>?_,?_⟩⟩
 ·refine⟨by decide,f12,l,rs,us,_,(zs,zu,zv,zp),rfl,hR.keep (s2.trans (s3.trans s4)),l3,l8,sm,n12,⟨hzu,hzn,hzp⟩,fun a5 ts5 us5 H5 s5 h5 l5 b5 ng=>?_⟩;refine⟨a5,ts5,us5,v,rfl,h5,by omega,fun u hu=>(b5 u hu).mono p70,hD.w1,hD.w3,fun a6 ts6 H6 n6 s6 h6=>?_⟩;have s05:=s03.trans (s4.trans s5);exact⟨_,_,_,_,_,_,a6,ts6,_,rfl,n8,s05.trans s6,s05.noneN n6,h6,.inl ⟨rfl,ng v hD.w1⟩⟩
 ·have hfb:=hfa.keep (s3.trans s4);subst hzu;have lz:k3<zp.length:=by rw[xaa] at hk3;exact hk3
  refine⟨_,_,_,_,_,_,a4,ts4,_,rfl,n8,s03.trans s4,s03.noneN n4,h4,.inr ⟨fa,rfl,?_,jjS hD.w1 hzn hzp lz b3⟩⟩;rw[jly hD.w1 hzn hzp hfd (jlz hzp lz b3)];exact hfb
 rintro σ H5 ⟨o0,o2,o3,o4,vf,n',lL,rs',ps',rfl,n0',s5,nl5,h5,hfo⟩;have fin:∀(z:Str) (b:Bool),b=(!nm z)->Lo z->z.cps.size<=900->∀d:Addr,H5 d=none->Q (.ref d) (upd H5 d (.tup [.str "put",.str z,.ref lL,vf,.bl b])):=fun z b eb lo z9 d hd=>by
  have sd:=Same.new hd (.tup [.str "put",.str z,.ref lL,vf,.bl b]);have s06:=s5.trans sd;have mu':∀a∈M,Mut (upd H5 d (.tup [.str "put",.str z,.ref lL,vf,.bl b])) a:=fun a ha=>(mu a ha).keep s06;have cg:Cor (rm M (upd H5 d (.tup [.str "put",.str z,.ref lL,vf,.bl b]))) lL rs' ps':=⟨jcs (sd _ _ h5.1) fun z=>(mu lL z).nn nl5,jg7 mu' (h5.2.keep sd.t)⟩;have fo':FoAt (rm M (upd H5 d (.tup [.str "put",.str z,.ref lL,vf,.bl b]))) vf ps':=by
   rcases hfo with h | ⟨fa,h1,h2,h3⟩
   ·exact .inl h
   ·exact .inr ⟨fa,h1,bo_rm mu' (h2.keep sd),h3⟩
  exact q d z lL rs' ps' vf _ s06 (by rw[<- eb];exact jb3 mu' upd_same) cg fo' lo z9
 walk_at "rf";refine⟨by decide,jb2 (fun c=>?_) fun c=>?_⟩
 ·refine⟨by decide,f12,_,x,rfl,xaH n0' (by decide),nx,fun z lo z9 ez=>⟨by show 5<=sizeLine;decide,fun d hd=>fin z true (by rw[ez];rfl) lo z9 d hd⟩⟩
 ·exact⟨by show 5<=sizeLine;decide,fun d hd=>fin x false (by rw[nx.nm];rfl) nx.1.lo (by have:=nx.2.2;omega) d hd⟩
inductive Mark
 | put (n:Nat) (r:Str × List Pt)
 | drop (n:Nat) (r:Str × List Pt)
def jna (st:List (Str × List Pt)):Mark->List (Str × List Pt)
 | .put n _=>st.eraseIdx n
 | .drop n r=>st.take n++r::st.drop n
def Vld (st:List (Str × List Pt)):Mark->Prop
 | .put n _=>n<st.length
 | .drop n _=>n<=st.length
inductive Und:List (Str × List Pt)->List (List (Str × List Pt))->List Mark->Prop
 | nil {st}:Und st [] []
 | snoc {st s past done m}:Und s past done->jna st m=s->Vld st m->Und st (past++[s]) (done++[m])
theorem Und.len {st:List (Str × List Pt)} {past:List (List (Str × List Pt))} {done:List Mark} (h:Und st past done):past.length=done.length:=by
 induction h with
 | nil=>rfl
 | snoc _ _ _ ih=>rw[xaf,xaf,ih];rfl
theorem erase_last {α:Type} {l:List α} {x:α}:(l++[x]).eraseIdx l.length=l:=by
 induction l with
 | nil=>rfl
 | cons a l ih=>exact congrArg (a::·) ih
theorem jhg {α:Type}:∀{l:List α} {i:Nat} {x:α},l[i]?=some x->(l.eraseIdx i).take i++x::(l.eraseIdx i).drop i=l
  | [],_,_,h=>nomatch h
  | a :: l, 0, x, h => by
    have:a=x:=Option.some.inj h;rw[this];rfl
  | a::l,i+1,x,h=>congrArg (a::·) (jhg (l:=l) (i:=i) h)
theorem Und.put {st:List (Str × List Pt)} {past:List (List (Str × List Pt))} {done:List Mark} (h:Und st past done) (r:Str × List Pt):Und (st++[r]) (past++[st]) (done++[.put st.length r]):=.snoc h erase_last (by show st.length<(st++[r]).length;rw[xaf];exact xbB _)
theorem Und.drop {st:List (Str × List Pt)} {past:List (List (Str × List Pt))} {done:List Mark} {r:Str × List Pt} (h:Und st past done) (e:st[i]?=some r):Und (st.eraseIdx i) (past++[st]) (done++[.drop i r]):=.snoc h (jhg e) (by have:=(xan.mp e).1;show i<=(st.eraseIdx i).length;rw[List.length_eraseIdx,if_pos this];omega)
theorem Und.none {st:List (Str × List Pt)} {past:List (List (Str × List Pt))} {done:List Mark} (h:Und st past done) (e:done=[]):past.getLast?=none:=by
 have l:=h.len;rw[e] at l;rw[List.length_eq_zero_iff.mp l];rfl
theorem Und.back {st:List (Str × List Pt)} {past:List (List (Str × List Pt))} {done:List Mark} (h:Und st past done) (e:done≠[]):∃m done',done=done'++[m]/\past.getLast?=some (jna st m)/\Und (jna st m) past.dropLast done':=by
  cases h with
  | nil=>exact absurd rfl e
  | snoc g u vl =>
    rename_i s past' done' m
    subst u;exact⟨m,done',rfl,by rw[xbi];rfl,by rw[xbh];exact g⟩
theorem Und.vld {st:List (Str × List Pt)} {past:List (List (Str × List Pt))} {done:List Mark} (h:Und st past done):∀m,done.getLast?=some m->Vld st m:=by
  intro m e;cases h with
  | nil=>cases e
  | snoc g u vl =>
    rw[xbi] at e;cases e;exact vl
theorem FoAt.keep {fo:V} (h:FoAt H fo ps) (s:Same H H'):FoAt H' fo ps:=by
 rcases h with h | ⟨fa,h1,h2,h3⟩
 ·exact .inl h
 ·exact .inr ⟨fa,h1,h2.keep s,h3⟩
inductive Deed
 | put (x:Str) (ps:List Pt) (g:Bool)
 | drop (x:Str)
 | back
def DeedAt (S M:List Addr) (H:Hp) (d:Addr):Deed->Prop
 | .put x ps g=>(∃(l:Addr) (rs:List Addr) (fo:V),rm M H d=some (.tup [.str "put",.str x,.ref l,fo,.bl (!nm x)])/\l∉S/\Cor H l rs ps/\FoAt (rm M H) fo ps)/\(g=true↔GoodB ps)/\Lo x/\x.cps.size<=900
 | .drop x=>rm M H d=some (.tup [.str "drop",.str x])
 | .back=>rm M H d=some (.tup [.str "back"])
theorem DeedAt.keep {S':List Addr} {d:Addr} {D:Deed} (h:DeedAt S M H d D) (s:SX S H H') (hS:∀a∈S,a∈M) (mu:∀m∈M,Mut H m) (hS':∀a∈S',a∈S):DeedAt S' M H' d D:=by
  have sr:=s.rm hS;cases D with
  | put x ps g =>
    obtain⟨⟨l,rs,fo,e,n,c,k⟩,h⟩:=h;exact⟨⟨l,rs,fo,sr _ _ e,(fun z=>n (hS' l z)),⟨s _ _ n c.1,(jg7 mu c.2).keep (sr.trans (jbB _ _)).t⟩,k.keep sr⟩,h⟩
  | drop x=>exact sr _ _ h
  | back=>exact sr _ _ h
abbrev Rws:=List (Str × List Pt)
def step (st:Rws) (past:List Rws):Deed->(Rws × List Rws) × Option Nat
  | .put x ps g => match jbm st x g with
    | none=>((st++[(x,frm ps ps)],past++[st]),none)
    | some i=>((st,past),some i)
  | .drop x=>if inN x st=true then ((st.eraseIdx (plN x st),past++[st]),none) else ((st,past),some 0)
  | .back => match past.getLast? with
    | none=>((st,past),some 3)
    | some s=>((s,past.dropLast),none)
def flg:Option Nat->List Bool
 | none=>[]
 | some i=>[decide (i=0),decide (i=1),decide (i=2),decide (i=3)]
theorem jeI {st:Rws} {x:Str} {g:Bool} (h:jbm st x g=some i):i<4:=by
 unfold jbm at h;split at h
 ·cases h;decide
 ·split at h
  ·cases h;decide
  ·split at h
   ·cases h;decide
   ·split at h
    ·cases h;decide
    ·cases h
def jjT (cs:Nat->Addr):Sp:=fun vs H Q _=>∃(e:Addr) (i:Nat),vs=[.ref e]/\H e=some (jb8 e (cs i))/\i<4/\∀(l:Addr) (H':Hp),H l=none->Same H H'->H' l=some (.lst ((flg (some i)).map V.bl))->Q (.ref l) H'
theorem jnb (T:Tyd K mg t1 t2 cs SE Y) (F:At K mg "_law_flags" jcF ["e"] [])  :jms P w K mg base 1 "_law_flags" ["e"] (jjT cs):=by
 refine F.okN jdu (fun vs H Q E h=>?_) (fun f cdv A outer s H vs Q E hr h=>?_)
 ·obtain⟨e,i,rfl,_⟩:=h;rfl
 obtain⟨e,i,rfl,he,i4,q⟩:=h;have S:=jdu;refine⟨_,(jae (jao (jaU (jaa (jat (jbD (K:=K) rfl) rfl T.m_isinstance boot_isinstance (jaa (pv 0) (jaa (jct rfl T.m_NoName T.r_NoName) jad jaf) jaf)) (jaa (jat (jbD (K:=K) rfl) rfl T.m_isinstance boot_isinstance (jaa (pv 0) (jaa (jct rfl T.m_NoBoard T.r_NoBoard) jad jaf) jaf)) (jaa (jat (jbD (K:=K) rfl) rfl T.m_isinstance boot_isinstance (jaa (pv 0) (jaa (jct rfl T.m_TooMany T.r_TooMany) jad jaf) jaf)) (jaa (jat (jbD (K:=K) rfl) rfl T.m_isinstance boot_isinstance (jaa (pv 0) (jaa (jct rfl T.m_NoDeed T.r_NoDeed) jad jaf) jaf)) jad jaO) jaO) jaO) jaO)))),?_⟩;walk_at "rf";exact⟨_,he,T.xc i i4,_,.inl (T.kt i 0 i4 (by decide)),_,he,T.xc i i4,_,.inl (T.kt i 1 i4 (by decide)),_,he,T.xc i i4,_,.inl (T.kt i 2 i4 (by decide)),_,he,T.xc i i4,_,.inl (T.kt i 3 i4 (by decide)),by show 4<=sizeLine;decide,fun p hp=>q p _ hp (Same.new hp _) upd_same⟩
def jnc (Y:Addr):Sp:=fun vs H Q _=>∃(M:List Addr) (y pL d:Addr) (st:Rws) (past:List Rws) (D:Deed),vs=[.ref y,.ref d]/\YardAt Y M H y pL st past/\DeedAt [] M H d D/\st.length<=6/\past.length<=900 /\
 ∀(r fl:Addr) (H':Hp),H r=none->H fl=none->SX [y,pL] H H'->YardAt Y M H' y pL (step st past D).1.1 (step st past D).1.2->H' r=some (.tup [.non,.ref fl])->H' fl=some (.lst ((flg (step st past D).2).map V.bl))->Q (.ref r) H'
def tyM (Y:Addr) (M:List Addr) (H:Hp) (y pL d:Addr) (st:Rws) (past:List Rws) (D:Deed):L2.St->Hp->Prop:=fun σ H'=>∃(fl:Addr) (o4:Option V),σ=[some (.ref y),some (.ref d),some .non,some (.ref fl),o4]/\H fl=none/\SX [y,pL] H H'/\YardAt Y M H' y pL (step st past D).1.1 (step st past D).1.2/\H' fl=some (.lst ((flg (step st past D).2).map V.bl))
theorem jnd (T:Tyd K mg t1 t2 cs SE Y) (F:At K mg "_law_tried" jcG ["yard","deed"] []) (Dk:jaW P w K mg base (XOk P w) 7 Y "put" ["self","name","corners"] (jmO Y cs)) (Dc:jaW P w K mg base (XOk P w) 3 Y "drop" ["self","name"] (jki Y (cs 0))) (Dg:jaW P w K mg base (XOk P w) 1 Y "back" ["self"] (jkj Y (cs 3))) (du:jms P w K mg base 1 "_law_flags" ["e"] (jjT cs)):jaz P w K mg base CX0 8 "_law_tried" ["yard","deed"] [] (jnc Y):=by
  refine F.ok jdv (fun vs H Q E h=>?_) (fun f cdv A outer s H vs Q E hr h=>?_)
  . obtain⟨M,y,pL,d,st,past,D,rfl,_⟩:=h
    rfl
  obtain⟨M,y,pL,d,st,past,D,rfl,hY,hD,l6,l9,q⟩:=h;have S:=jdv;refine⟨_,(jac (jal (i:=2) S.nd rfl (Or.inl rfl) jeU)
    (jac (jal (i:=3) S.nd rfl (Or.inl rfl) (jaU jad))
    (jbb (tyM Y M H y pL d st past D) (jgN (i:=4) (jid jfh) rfl T.m_SightError S.nd rfl rfl (Or.inl rfl) (jj9 (jam jbd (jai jav (pv 1) jab) jaY (jas _))
    (jfg (i:=2) S.nd rfl (Or.inl rfl) (jfn Dk (pv 0) T.cl hr.m (jaa (jai jav (pv 1) jab) (jaa (jai jav (pv 1) jab) jad jaA) jaA)))
    (jj9 (jam jbd (jai jav (pv 1) jab) jaY (jas _))
    (jfg (i:=2) S.nd rfl (Or.inl rfl) (jfn Dc (pv 0) T.cl hr.m (jaa (jai jav (pv 1) jab) jad jaA)))
    (jfg (i:=2) S.nd rfl (Or.inl rfl) (jiq Dg (pv 0) T.cl hr.m)))) (fun _=>(jae (jal (i:=3) S.nd rfl (Or.inl rfl) (jgP du (hr.caught (by decide)) rfl (jaa (pv 4) jad jaf))))))
    (jae (jao (jbc (jaa (pv 2) (jaa (pv 3) jad jaf) jaf))))))),?_⟩
  walk_at "rf";refine⟨by decide,fun p hp=>ja9 hp fun J1 j1 k1=>⟨?_,?_⟩⟩
  . have hY1:=hY.keep j1
    have hD1:=hD.keep (S':=[]) (Same.x j1 []) (fun _ z=>nomatch z) hY.mu (fun _ z=>z);have hM:∀a∈[y,pL],a∈M:=fun a ha=>by
      simp only[xad,xae,or_false] at ha;rcases ha with rfl | rfl
      . exact hY.yM
      . exact hY.pM
    obtain⟨dx,sL,ss,h1,h2,h3,h4⟩:=hY1.ob;have np:p≠y/\p≠pL:=by
      refine⟨fun z=>?_,fun z=>?_⟩
      . rw[z] at hp
        exact hY.al y hY.yM hp
      . rw[z] at hp
        exact hY.al pL hY.pM hp
    have fin:∀H',SX [y,pL] J1 H'->YardAt Y M H' y pL (step st past D).1.1 (step st past D).1.2->(step st past D).2=none->tyM Y M H y pL d st past D [some (V.ref y),some (V.ref d),some V.non,some (V.ref p),none] H':=fun H' s' y' e=>⟨p,_,rfl,hp,(Same.x j1 _).trans s',y',by
      rw[e];exact s' p _ (by simp only[xad,xae,or_false,not_or];exact np) k1⟩
    have exc:∀i,i<4->step st past D=((st,past),some i)->∀H',Same J1 H'->∀ea,H' ea=none->jjT cs [.ref ea] (upd H' ea (jb8 ea (cs i))) (fun x H1=>tyM Y M H y pL d st past D [some (.ref y),some (.ref d),some .non,some x,none] H1) (fun _ _ _=>False):=fun i i4 es H' s' ea he=>⟨ea,i,rfl,upd_same,i4,fun l H2 hl s2 e2=>⟨l,_,rfl,?_,?_,?_,?_⟩⟩;rotate_left
    . have sn:=Same.new he (jb8 ea (cs i))
      exact j1.noneN (s'.noneN (sn.noneN hl))
    . exact Same.x (j1.trans (s'.trans ((Same.new he _).trans s2))) _
    . rw[es]
      exact hY.keep (j1.trans (s'.trans ((Same.new he _).trans s2)))
    . rw[es]
      exact e2
    cases D with
    | put x ps g =>
      obtain⟨⟨l,rs,fo,ed,_,hc,_⟩,hg,lo,l9'⟩:=hD1;have qd:=SqT.of (K:=K) (jaD ed).1;refine ixT qd (i:=0) rfl ⟨rfl,?_⟩;rw[if_pos rfl];refine⟨_,rfl,y,dx,_,rfl,h1,jbj (by decide +kernel) (by decide +kernel),?_⟩;walk_at "rf";refine ixT qd (i:=1) rfl (ixT qd (i:=2) rfl ?_);refine⟨M,y,pL,l,rs,ps,st,past,x,g,rfl,hg,hY1,l6,l9,lo,l9',hc,fun en H' s' y'=>?_,fun i en H' s'=>⟨_,rfl,T.em i (jeI en),fun ea he=>exc i (jeI en) (by simp only[step,en]) H' s' ea he⟩⟩;have es:step st past (.put x ps g)=((st++[(x,frm ps ps)],past++[st]),none):=by simp only[step,en]
      exact fin H' s' (by rw[es];exact y') (by rw[es])
    | drop x =>
      have qd:=SqT.of (K:=K) (jaD hD1).1;refine ixT qd (i:=0) rfl ⟨rfl,?_⟩;rw[if_neg (by intro z;exact absurd (V.str.inj z) (by decide +kernel))];refine ixT qd (i:=0) rfl ⟨rfl,?_⟩;rw[if_pos rfl];refine⟨_,rfl,y,dx,_,rfl,h1,jbj (by decide +kernel) (by decide +kernel),?_⟩;walk_at "rf";refine ixT qd (i:=1) rfl ?_;refine⟨M,y,pL,st,past,x,rfl,hY1,by omega,l9,fun en H' s' y'=>?_,fun en H' s'=>⟨_,rfl,T.em 0 (by decide),fun ea he=>exc 0 (by decide) (by simp [step,en]) H' s' ea he⟩⟩;have es:step st past (.drop x)=((st.eraseIdx (plN x st),past++[st]),none):=by simp [step,en]
      exact fin H' s' (by rw[es];exact y') (by rw[es])
    | back =>
      have qd:=SqT.of (K:=K) (jaD hD1).1;refine ixT qd (i:=0) rfl ⟨rfl,?_⟩;rw[if_neg (by intro z;exact absurd (V.str.inj z) (by decide +kernel))];refine ixT qd (i:=0) rfl ⟨rfl,?_⟩;rw[if_neg (by intro z;exact absurd (V.str.inj z) (by decide +kernel))];refine⟨_,rfl,y,dx,_,rfl,h1,jbj (by decide +kernel) (by decide +kernel),?_⟩;refine⟨M,y,pL,st,past,rfl,hY1,l9,fun p0 s0 en H' s' y'=>?_,fun en H' s'=>⟨_,rfl,T.em 3 (by decide),fun ea he=>exc 3 (by decide) (by simp [step,en]) H' s' ea he⟩⟩;have es:step st past .back=((s0,p0),none):=by
        simp [step,en]
      exact fin H' s' (by rw[es];exact y') (by rw[es])
  . rintro σ H1 ⟨fl,o4,rfl,hf,sx,hy,ef⟩
    walk_at "rf";refine⟨by show 2<=sizeLine;decide,fun r hr=>ja9 hr fun J1 j1 k1=>?_⟩;have rn:H r=none:=by
      cases e:H r with
      | none=>rfl
      | some o =>
        by_cases c:r∈[y,pL]
        . have hM:r∈M:=by
            simp only[xad,xae,or_false] at c;rcases c with rfl | rfl
            . exact hY.yM
            . exact hY.pM
          exact absurd hr (hy.al r hM)
        . rw[sx r o c e] at hr
          cases hr
    exact q r fl J1 rn hf (sx.trans (Same.x j1 _)) (hy.keep j1) k1 (j1 _ _ ef)
def it0:Str × List Pt:=("",[])
def due (st:Rws) (done:List Mark):Deed->(Rws × List Mark) × Option Nat
  | .put x ps g => match jbm st x g with
    | none=>((st++[(x,frm ps ps)],done++[.put st.length (x,frm ps ps)]),none)
    | some i=>((st,done),some i)
  | .drop x=>if inN x st=true then ((st.eraseIdx (plN x st),done++[.drop (plN x st) (st.getD (plN x st) it0)]),none) else ((st,done),some 0)
  | .back => match done.getLast? with
    | none=>((st,done),some 3)
    | some m=>((jna st m,done.dropLast),none)
theorem jjU {st:Rws} {past:List Rws} {done:List Mark} {D:Deed} (h:Und st past done):(due st done D).2=(step st past D).2/\(due st done D).1.1=(step st past D).1.1/\Und (step st past D).1.1 (step st past D).1.2 (due st done D).1.2:=by
  cases D with
  | put x ps g =>
    cases e:jbm st x g with
    | none =>
      simp only[due,step,e];exact⟨trivial,trivial,h.put _⟩
    | some i =>
      simp only[due,step,e];exact⟨trivial,trivial,h⟩
  | drop x =>
    by_cases c:inN x st=true
    . simp only[due,step,if_pos c]
      exact⟨trivial,trivial,h.drop (by rw[xac,xab (jiO c)];rfl)⟩
    . simp only[due,step,if_neg c]
      exact⟨trivial,trivial,h⟩
  | back =>
    by_cases c:done=[]
    . have e:=h.none c
      subst c;simp only[due,step,e];exact⟨rfl,rfl,h⟩
    . obtain⟨m,d',e1,e2,e3⟩:=h.back c
      subst e1;have e4:(d'++[m]).getLast?=some m:=by rw[xbi];rfl
      have e5:(d'++[m]).dropLast=d':=xbh;simp only[due,step,e2,e4,e5];exact⟨trivial,trivial,e3⟩
theorem ifF {b c:Bool}:(if false=true then b else c)=c:=rfl
theorem jlO {b c:Bool}:(if true=true then b else c)=b:=rfl
def boD (b:List Pt):PyData:=.tuple (b.map fun p=>.tuple [.int p.x,.int p.y,.int p.z,.int p.w])
theorem jfB (h:Sps H rs ps):RdsAll K H (rs.map V.ref) (ps.map fun p=>.tuple [.int p.x,.int p.y,.int p.z,.int p.w]):=by
 induction h with
 | nil=>exact .nil
 | cons h _ ih=>exact .cons (.tup (SqT.of h.1) (.cons (.int _) (.cons (.int _) (.cons (.int _) (.cons (.int _) .nil))))) ih
theorem ji1 {ts:List Addr} {bs:List (List Pt)} (h:All2 (BoAt H) ts bs):RdsAll K H (ts.map V.ref) (bs.map boD):=by
  induction h with
  | nil=>exact .nil
  | cons h _ ih =>
    obtain⟨rs,e,q⟩:=h;exact .cons (.tup (SqT.of e) (jfB q)) ih
theorem jfC {H:Hp}:∀(xs:List Str),RdsAll K H (xs.map V.str) (xs.map PyData.str)
 | []=>.nil
 | x::xs=>.cons (.str x) (jfC xs)
theorem jlC {x:Str} (h:Lo x):PyData.strOk x=true:=by
 unfold PyData.strOk;rw[Array.all_eq_true];intro i hi;have:=h x.cps[i] (by simp);exact decide_eq_true (by omega)
theorem jeJ:∀{ds:List PyData},(∀d∈ds,PyData.canLay0 d=true)->PyData.canLayAll0 ds=true
  | [],_=>by simp [PyData.canLayAll0]
  | d :: ds, h => by
    rw[PyData.canLayAll0,h d (xaL ..),jeJ fun x hx=>h x (xar _ hx)];rfl
theorem jeK {n:Nat}:∀{ds:List PyData},(∀d∈ds,PyData.depth d<=n)->PyData.depthAll ds<=n
  | [],_=>by rw[PyData.depthAll];omega
  | d :: ds, h => by
    rw[PyData.depthAll];have h1:=h d (xaL ..);have h2:=jeK (ds:=ds) fun x hx=>h x (xar _ hx);omega
theorem jeL (b:List Pt):PyData.canLay0 (boD b)=true/\PyData.depth (boD b)<=2:=by
 unfold boD;rw[PyData.canLay0,PyData.depth];refine⟨jeJ fun d hd=>?_,Nat.succ_le_succ (jeK fun d hd=>?_)⟩
 ·obtain⟨p,_,rfl⟩:=xaC.mp hd;simp [PyData.canLay0,PyData.canLayAll0]
 ·obtain⟨p,_,rfl⟩:=xaC.mp hd;simp [PyData.depth,PyData.depthAll]
theorem jbg {H:Hp}:∀(xs:List Bool),RdsAll K H (xs.map V.bl) (xs.map PyData.bool)
 | []=>.nil
 | x::xs=>.cons (.bl x) (jbg xs)
theorem jbG (xs:List Bool):SeqAt.shaped (.list (xs.map PyData.bool))=true:=by
 have c:PyData.canLayAll0 (xs.map PyData.bool)=true:=jeJ fun d hd=>by
  obtain⟨b,_,rfl⟩:=xaC.mp hd;rw[PyData.canLay0]
 have e:PyData.depthAll (xs.map PyData.bool)<=0:=jeK fun d hd=>by
  obtain⟨b,_,rfl⟩:=xaC.mp hd;rw[PyData.depth];exact xaj _
 unfold SeqAt.shaped;rw[PyData.canLay0,c,PyData.depth,decide_eq_true (by omega)];rfl
theorem jlD {st:Rws} (lo:∀it∈st,Lo it.1):SeqAt.shaped (.list ((nmL st).map PyData.str))=true:=by
 have c:PyData.canLayAll0 ((nmL st).map PyData.str)=true:=jeJ fun d hd=>by
  obtain⟨x,hx,rfl⟩:=xaC.mp hd;obtain⟨it,hi,rfl⟩:=xaC.mp hx;rw[PyData.canLay0];exact jlC (lo it hi)
 have e:PyData.depthAll ((nmL st).map PyData.str)<=0:=jeK fun d hd=>by
  obtain⟨x,hx,rfl⟩:=xaC.mp hd;rw[PyData.depth];exact xaj _
 unfold SeqAt.shaped;rw[PyData.canLay0,c,PyData.depth,decide_eq_true (by omega)];rfl
theorem jdQ {N:List Addr} (h:∀m∈N,H m=none) (s:Same H H'):Same (rm M H) (rm (N++M) H'):=fun b o e=>jcs (s _ _ (jaD e).1) fun z=>by
 rcases xax.mp z with z | z
 ·have:=(jaD e).1;rw[h b z] at this;cases this
 ·exact (jaD e).2 z
theorem jhh {x dx sL:Addr} (mu:∀m∈M,Mut H m) (nx:H x=none) (ndx:H dx=none) (ne:dx≠x) (n1:upd (upd H dx (.own x)) x (.ins Y dx []) sL=none) (n2:upd (upd H dx (.own x)) x (.ins Y dx []) pL=none) (n3:sL≠pL)
  (sx:SX [x] (upd (upd H dx (.own x)) x (.ins Y dx [])) H') (e1:H' x=some (.ins Y dx (jeT sL pL))) (e2:H' sL=some (.lst [])) (e3:H' pL=some (.lst [])):YardAt Y ([x,pL]++M) H' x pL [] []/\Same H H'/\H pL=none/\x≠pL:=by
 have hs:Same H H':=fun b o e=>by
  have bx:b≠x:=jau e nx;refine sx b o (fun z=>bx (xay.mp z)) ?_;rw[jar bx,jar (jau e ndx)];exact e
 have xp:x≠pL:=fun z=>by rw[<- z,upd_same] at n2;cases n2
 have xs:x≠sL:=fun z=>by rw[<- z,upd_same] at n1;cases n1
 have pn:H pL=none:=by
  rw[jar (Ne.symm xp)] at n2;by_cases c:pL=dx
  ·rw[c,upd_same] at n2;cases n2
  ·rw[jar c] at n2;exact n2
 have sn:H sL=none:=by
  rw[jar (Ne.symm xs)] at n1;by_cases c:sL=dx
  ·rw[c,upd_same] at n1;cases n1
  ·rw[jar c] at n1;exact n1
 refine⟨⟨by simp,by simp,fun m hm=>?_,dx,sL,[],e1,e3,⟨[],jcs e2 fun z=>?_,.nil⟩,.nil⟩,hs,pn,xp⟩
 ·rcases xax.mp hm with h | h
  ·simp only[xad,xae,or_false] at h;rcases h with rfl | rfl
   ·exact Mut.is e1
   ·exact Mut.ls e3
  ·exact (mu m h).keep hs
 ·rcases xax.mp z with h | h
  ·simp only[xad,xae,or_false] at h;rcases h with h | h
   ·exact xs h.symm
   ·exact n3 h
  ·exact (mu sL h).nn sn
theorem YardAt.grow {N:List Addr} {st:Rws} {past:List Rws} (h:YardAt Y M H y pL st past) (s:Same H H') (hN:∀m∈N,H m=none) (mu:∀m∈N,Mut H' m):YardAt Y (N++M) H' y pL st past:=by
 obtain⟨dx,sL,ss,h1,h2,h3,h4⟩:=h.ob;refine⟨xaz _ h.yM,xaz _ h.pM,fun m hm=>?_,dx,sL,ss,s _ _ h1,s _ _ h2,h3.keep (jdQ hN s),h4.mono fun _ _ q=>q.keep (jdQ hN s)⟩;rcases xax.mp hm with hm | hm
 ·exact mu m hm
 ·exact (h.mu m hm).keep s
theorem SX.mono {S':List Addr} (s:SX S H H') (h:∀a∈S,a∈S'):SX S' H H':=fun b o n e=>s b o (fun z=>n (h b z)) e
theorem jgy {o:Option Nat}:PyData.eqv (.list ((flg o).map PyData.bool)) (.list [])=decide (o=none):=by
 cases o with
 | none=>rfl
 | some i=>rfl
def MkAt (H:Hp) (d:Addr):Mark->Prop
 | .put n r=>n<=900/\∃t,H d=some (.tup [.str "put",.int (n:Nat),.ref t])/\ItAt H t r
 | .drop n r=>n<=900/\∃t,H d=some (.tup [.str "drop",.int (n:Nat),.ref t])/\ItAt H t r
theorem MkAt.keep {d:Addr} {m:Mark} (h:MkAt H d m) (s:Same H H'):MkAt H' d m:=by
  cases m with
  | put n r =>
    obtain⟨l,t,e,q⟩:=h;exact⟨l,t,s _ _ e,q.keep s⟩
  | drop n r =>
    obtain⟨l,t,e,q⟩:=h;exact⟨l,t,s _ _ e,q.keep s⟩
structure DoAt (M:List Addr) (H:Hp) (rL dL:Addr) (st:Rws) (done:List Mark):Prop where
 rM:rL∈M
 dM:dL∈M
 mu:∀m∈M,Mut H m
 ne:rL≠dL
 ob:∃rs ds,H rL=some (.lst (rs.map V.ref))/\H dL=some (.lst (ds.map V.ref))/\All2 (ItAt (rm M H)) rs st/\All2 (MkAt (rm M H)) ds done
theorem DoAt.set {st st':Rws} {done done':List Mark} (h:DoAt M H rL dL st done) (s:SX [rL,dL] H H') (e1:H' rL=some (.lst (rs.map V.ref))) (e2:H' dL=some (.lst (ds.map V.ref))) (a1:All2 (ItAt (rm M H')) rs st') (a2:All2 (MkAt (rm M H')) ds done'):DoAt M H' rL dL st' done':=by
 refine⟨h.rM,h.dM,fun m hm=>?_,h.ne,rs,ds,e1,e2,a1,a2⟩;by_cases c1:m=rL
 ·rw[c1];exact Mut.ls e1
 by_cases c2:m=dL
 ·rw[c2];exact Mut.ls e2
 obtain⟨o,e,n⟩:=h.mu m hm;exact⟨o,s m o (by simp only[xad,xae,or_false,not_or];exact⟨c1,c2⟩) e,n⟩
theorem DoAt.mem {st:Rws} {done:List Mark} (h:DoAt M H rL dL st done):∀a∈[rL,dL],a∈M:=fun a ha=>by
 simp only[xad,xae,or_false] at ha;rcases ha with rfl | rfl
 ·exact h.rM
 ·exact h.dM
def dueN:Option Nat->Int
 | none=>-1
 | some i=>(i:Nat)
def mkD:Mark->PyData
 | .put n r=>.tuple [.str "put",.int n,.tuple [.str r.1,boD r.2]]
 | .drop n r=>.tuple [.str "drop",.int n,.tuple [.str r.1,boD r.2]]
theorem jku {t:Addr} {b:List Pt} (h:BoAt H t b):Rds K H (.ref t) (boD b):=by
 obtain⟨rs,e,q⟩:=h;exact .tup (SqT.of e) (jfB q)
theorem MkAt.rds {d:Addr} {m:Mark} (h:MkAt H d m):Rds K H (.ref d) (mkD m)/\PyData.canLay0 (mkD m)=true/\PyData.depth (mkD m)<=4:=by
  cases m with
  | put n r =>
    obtain⟨_,t,e,⟨ft,e2,e3⟩,lo⟩:=h;refine⟨.tup (SqT.of e) (.cons (.str _) (.cons (.int _) (.cons (.tup (SqT.of e2) (.cons (.str _) (.cons (jku e3) .nil))) .nil))),?_,?_⟩
    . have:=(jeL r.2).1
      have l:=jlC lo;have l2:PyData.strOk "put"=true:=by decide +kernel
      simp [mkD,PyData.canLay0,PyData.canLayAll0,this,l,l2]
    . have:=(jeL r.2).2
      simp only[mkD,PyData.depth,PyData.depthAll];omega
  | drop n r =>
    obtain⟨_,t,e,⟨ft,e2,e3⟩,lo⟩:=h;refine⟨.tup (SqT.of e) (.cons (.str _) (.cons (.int _) (.cons (.tup (SqT.of e2) (.cons (.str _) (.cons (jku e3) .nil))) .nil))),?_,?_⟩
    . have:=(jeL r.2).1
      have l:=jlC lo;have l2:PyData.strOk "drop"=true:=by decide +kernel
      simp [mkD,PyData.canLay0,PyData.canLayAll0,this,l,l2]
    . have:=(jeL r.2).2
      simp only[mkD,PyData.depth,PyData.depthAll];omega
theorem jlE {done:List Mark} (h:All2 (MkAt H) ds done):RdsAll K H (ds.map V.ref) (done.map mkD):=by
 induction h with
 | nil=>exact .nil
 | cons h _ ih=>exact .cons h.rds.1 ih
theorem jne (K:PySem.W.Frag) {done:List Mark} (h:All2 (MkAt H) ds done):SeqAt.shaped (.list (done.map mkD))=true:=by
  have c:PyData.canLayAll0 (done.map mkD)=true/\PyData.depthAll (done.map mkD)<=4:=by
    induction h with
    | nil=>exact⟨by simp [PyData.canLayAll0],by simp [PyData.depthAll]⟩
    | cons h _ ih =>
      have h2:=(MkAt.rds (K:=K) h).2;rw[xaJ,PyData.canLayAll0,PyData.depthAll,h2.1,ih.1];exact⟨rfl,by have:=ih.2;have:=h2.2;omega⟩
  unfold SeqAt.shaped;rw[PyData.canLay0,c.1,PyData.depth,decide_eq_true (by have:=c.2;omega)];rfl
theorem jlF (done:List Mark):PyData.eqv (.list (done.map mkD)) (.list [])=done.isEmpty:=by
 cases done with
 | nil=>rfl
 | cons a l=>rfl
theorem DoAt.keep {st:Rws} {done:List Mark} (h:DoAt M H rL dL st done) (s:Same H H'):DoAt M H' rL dL st done:=by
 obtain⟨rs,ds,h1,h2,h3,h4⟩:=h.ob;exact⟨h.rM,h.dM,fun m hm=>(h.mu m hm).keep s,h.ne,rs,ds,s _ _ h1,s _ _ h2,h3.mono fun _ _ q=>q.keep (jaX s),h4.mono fun _ _ q=>q.keep (jaX s)⟩
def fstV (H:Hp):V->V
  | .ref r => match H r with
    | some (.tup (x::_))=>x
    | _=>.non
  | _=>.non
theorem jkv {it:Str × List Pt} (h:ItAt H r it):fstV H (.ref r)=.str it.1:=by
 obtain⟨⟨t,e,_⟩,_⟩:=h;simp only[fstV,e]
theorem ji2 {st:Rws} (h:All2 (ItAt H) rs st):(rs.map V.ref).map (fstV H)=stV st:=by
  induction h with
  | nil=>rfl
  | cons h _ ih =>
    rw[xaJ,xaJ,ih,jkv h];rfl
theorem ji3 {acc:Addr} {st:Rws} (h1:H rL=some (.lst (rs.map V.ref))) (h3:All2 (ItAt (rm M H)) rs st) (l9:st.length<=900) (hacc:H acc=none) (hd:∀H',Same H H'->H' acc=some (.lst (stV st))->Z H'):CompGo (Itl K rL) [] (jbw 0) jbR (tOp (jmc K) (jhj 0) (tC (V.int 0))) acc Z H:=by
 have ln:=h3.len;refine jmk (fstV (rm M H)) (by rw[xaa];omega) hacc (SqL.of h1) (fun z H3 R hz s3 hR=>?_) (fun H3 s3 e3=>hd H3 s3 ?_)
 ·obtain⟨r,hr1,rfl⟩:=xaC.mp hz;obtain⟨i,hi,rfl⟩:=List.getElem_of_mem hr1;obtain⟨it,_,hit⟩:=h3.getA (xab hi);have e:=jkv hit;obtain⟨⟨t,e1,e2⟩,_⟩:=hit;refine⟨_,rfl,ixT (SqT.of (s3 _ _ (jaD e1).1)) (i:=0) rfl ?_⟩;have z:=hR H3 (Same.refl _);rw[e] at z;exact z
 ·rw[e3,ji2 h3]
theorem seqI (h:i<n):seqIndex? (i:Int) n=some i:=by
 unfold seqIndex?;simp;omega
theorem jdR {α β:Type} {R:α->β->Prop} {as:List α} {bs:List β} (h:All2 R as bs) (i:Nat):All2 R (as.eraseIdx i) (bs.eraseIdx i):=by
 rw[xaO,xaO];exact (h.take i).app (h.drop (i+1))
theorem jge {α β:Type} (f:α->β) (l:List α) (i:Nat):(l.map f).eraseIdx i=(l.eraseIdx i).map f:=by
 rw[xaO,xaO,xah,xaM,xaK]
theorem jnf {d:Addr} {o:HO} (e:rm M H d=some o) (s:Same (rm M H) (rm M H')):H' d=some o:=(jaD (s _ _ e)).1
def jng:Sp:=fun vs H Q _=>∃(M:List Addr) (rL dL d:Addr) (st:Rws) (done:List Mark) (D:Deed),vs=[.ref rL,.ref dL,.ref d]/\DoAt M H rL dL st done/\DeedAt [] M H d D/\st.length<=6/\done.length<=900/\(∀m,done.getLast?=some m->Vld st m)/\∀H':Hp,SX [rL,dL] H H'->DoAt M H' rL dL (due st done D).1.1 (due st done D).1.2->Q (.int (dueN (due st done D).2)) H'
theorem jnh (T:Tyd K mg t1 t2 cs SE Y) (F:At K mg "_law_due" jdL ["rows","done","deed"] []):jaz P w K mg base CX0 1 "_law_due" ["rows","done","deed"] [] jng:=by
  refine F.ok jeB (fun vs H Q E h=>?_) (fun f cdv A outer s H vs Q E hr h=>?_)
  . obtain⟨M,rL,dL,d,st,done,D,rfl,_⟩:=h
    rfl
  obtain⟨M,rL,dL,d,st,done,D,rfl,hR,hD,l6,l9,vl,q⟩:=h;have S:=jeB;refine⟨_,(jac (jep (i:=3) rfl S.nd rfl rfl (N':=["row"]) (ix:=[]) (by walk_at "cs") (jbV (pv 0)) (fun _ _ _ _=>jaw (i:=0) (show (["row"]:List Str).Nodup from by decide +kernel) rfl (Or.inl rfl)) (fun _ _ _ _=>ja2) (fun _ _ _ _=>(jai (jek (K:=K) rfl) (pv 0) jab)))
    (jac (jaK (jam jbd (jai jav (pv 2) jab) jaY (jas _))
    (jac (jaK (PW.pt (jeN (jbz (jai jav (pv 2) jab)) (jdS (jam jeh (jai jav (pv 2) jab) (pv 3) rfl))))
    (jae (jao jab))
    jap)
    (jac (jaK (jam jl6 (jai jav (pv 2) jab) jeU (jas _))
    (jae (jao jab))
    jap)
    (jac (jaK (jam jeP (jat jaB rfl T.m_len PySem.boot_len (jaa (pv 0) jad jaf)) jab (jas _))
    (jae (jao jab))
    jap)
    (jac (jbo (jdb PySem.F.plainAttrs_list PySem.F.slot_list_append PySem.F.type_list_append jbr (pv 1) (jaa (jbc (jaa jaY (jaa (jat jaB rfl T.m_len PySem.boot_len (jaa (pv 0) jad jaf)) (jaa (jbc (jaa (jai jav (pv 2) jab) (jaa (jai jav (pv 2) jab) jad jaA) jaA)) jad jaZ) jaO) jan)) jad jaZ)))
    (jac (jbo (jdb PySem.F.plainAttrs_list PySem.F.slot_list_append PySem.F.type_list_append jbr (pv 0) (jaa (jbc (jaa (jai jav (pv 2) jab) (jaa (jai jav (pv 2) jab) jad jaA) jaA)) jad jaZ)))
    (jae (jao (jd9 jcv jab))))))))
    jap)
    (jac (jaK (jam jbd (jai jav (pv 2) jab) jaY (jas _))
    (jac (jaK (jam jdT (jai jav (pv 2) jab) (pv 3) rfl)
    (jae (jao jab))
    jap)
    (jac (jal (i:=4) S.nd rfl (Or.inl rfl) (jdb PySem.F.plainAttrs_list PySem.F.slot_list_index PySem.F.type_list_index jeq (pv 3) (jaa (jai jav (pv 2) jab) jad jaA)))
    (jac (jbo (jdb PySem.F.plainAttrs_list PySem.F.slot_list_append PySem.F.type_list_append jbr (pv 1) (jaa (jbc (jaa jaY (jaa (pv 4) (jaa (jdb PySem.F.plainAttrs_list PySem.F.slot_list_pop PySem.F.type_list_pop jgG (pv 0) (jaa (pv 4) jad jaf)) jad jaO) jaf) jan)) jad jaZ)))
    (jae (jao (jd9 jcv jab))))))
    jap)
    (jac (jaK (jam (jj3 (jhw hr)) (pv 1) (jaU jad) (jas _))
    (jae (jao jab))
    jap)
    (jac (jfF (jfO PySem.F.plainAttrs_list PySem.F.slot_list_pop PySem.F.type_list_pop jj1 (pv 1)) (jeV rfl (ja0 (jaw (i:=5) S.nd rfl (Or.inl rfl)) (ja0 (jaw (i:=4) S.nd rfl (Or.inl rfl)) (ja0 (jaw (i:=6) S.nd rfl (Or.inl rfl)) jcu)))))
    (jac (jaK (jam jbd (pv 5) jaY (jas _))
    (jae (jbo (jdb PySem.F.plainAttrs_list PySem.F.slot_list_pop PySem.F.type_list_pop jgG (pv 0) (jaa (pv 4) jad jaf))))
    (jae (jbo (jdb PySem.F.plainAttrs_list PySem.F.slot_list_insert PySem.F.type_list_insert jio (pv 0) (jaa (pv 4) (jaa (pv 6) jad jaf) jaf)))))
    (jae (jao (jd9 jcv jab))))))))),?_⟩
  obtain⟨rs,ds,h1,h2,h3,h4⟩:=hR.ob;have ln:=h3.len;have ld:=h4.len;walk_at "rf";refine⟨⟨_,SqL.of h1⟩,fun acc hacc=>ji3 h1 h3 (by omega) hacc fun H1 s1 e1=>?_⟩;have fin0:∀i:Nat,due st done D=((st,done),some i)->∀H',Same H H'->Q (.int (i:Nat)) H':=fun i e H' s'=>by
    have z:=q H' (Same.x s' _) (by rw[e];exact hR.keep s');rw[e] at z;exact z
  have fin1:∀(st':Rws) (done':List Mark) (rs' ds':List Addr),due st done D=((st',done'),none)->∀H',SX [rL,dL] H H'->H' rL=some (.lst (rs'.map V.ref))->H' dL=some (.lst (ds'.map V.ref))->All2 (ItAt (rm M H')) rs' st'->All2 (MkAt (rm M H')) ds' done'->Q (.int (-1)) H':=fun st' done' rs' ds' e H' s' e1 e2 a1 a2=>by
    have z:=q H' s' (by rw[e];exact hR.set s' e1 e2 a1 a2);rw[e] at z;exact z
  have nM:∀{x:Addr},H x=none->x∉M:=fun h z=>(hR.mu _ z).nn h;have h1':=s1 _ _ h1;have h2':=s1 _ _ h2;cases D with
  | put x ps g =>
    obtain⟨⟨l,rs',fo,ed,_,hc,hfo⟩,hg,lo,l9'⟩:=hD;have qd:=SqT.of (K:=K) (s1 _ _ (jaD ed).1);refine ixT qd (i:=0) rfl ⟨rfl,?_⟩;rw[if_pos rfl];refine ixT qd (i:=4) rfl ⟨_,rfl,?_⟩;cases c1:nm x with
    | false =>
      rw[if_pos (by rfl)];exact fin0 0 (by simp [due,jbm,c1]) _ s1
    | true =>
    rw[if_neg (by decide)];refine ixT qd (i:=1) rfl ⟨acc,_,rfl,.inl (SqL.of e1),rfl,jbU st,_,rfl,?_⟩;rw[show (if false=true then !inV (V.str x) (stV st) else inV (V.str x) (stV st))=inN x st from jd2 x st];cases c2:inN x st with
    | true =>
      rw[if_pos rfl];exact fin0 0 (by simp [due,jbm,c1,c2]) _ s1
    | false =>
    rw[if_neg (by decide)];refine ixT qd (i:=3) rfl ?_;rcases hfo with ⟨rfl,ng⟩ | ⟨fa,rfl,hb,gd⟩
    . have gf:g=false:=by
        cases g with
        | false=>rfl
        | true=>exact absurd (hg.mp rfl) ng
      rw[if_pos rfl];exact fin0 1 (by simp [due,jbm,c1,c2,gf]) _ s1
    have gt:g=true:=hg.mpr gd;rw[if_neg (fun z=>nomatch z)];refine⟨_,.inl (SqL.of h1'),?_⟩;rw[xaa,ln];by_cases c6:6<=st.length
    . rw[if_pos (by omega)]
      exact fin0 2 (by simp [due,jbm,c1,c2,gt,c6]) _ s1
    rw[if_neg (by omega)];have ed':due st done (.put x ps g)=((st++[(x,frm ps ps)],done++[.put st.length (x,frm ps ps)]),none):=by simp [due,jbm,c1,c2,gt,c6]
    refine⟨.inl ⟨_,SqL.of h2'⟩,_,.inl (SqL.of h1'),ixT qd (i:=1) rfl (ixT qd (i:=3) rfl ⟨by show 2<=sizeLine;decide,fun a1 n1=>ja9 n1 fun J1 j1 k1=>⟨by show 3<=sizeLine;decide,fun a2 n2=>ja9 n2 fun J2 j2 k2=>?_⟩⟩)⟩;have s2:=s1.trans (j1.trans j2);rw[xaa,ln] at k2;refine⟨dL,_,_,rfl,rfl,s2 _ _ h2,by rw[xaa,ld];exact jaL (by omega),?_⟩;have sx3:SX [rL,dL] J2 (upd J2 dL (.lst (ds.map V.ref++[.ref a2]))):=fun b o hb e=>by
      simp only[xad,xae,or_false,not_or] at hb;rw[jar hb.2];exact e
    have d3:(upd J2 dL (.lst (ds.map V.ref++[.ref a2]))) dL=some (.lst ((ds++[a2]).map V.ref)):=by rw[upd_same,xah];rfl
    have r3:(upd J2 dL (.lst (ds.map V.ref++[.ref a2]))) rL=some (.lst (rs.map V.ref)):=by rw[jar hR.ne];exact s2 _ _ h1
    generalize upd J2 dL (.lst (ds.map V.ref++[.ref a2]))=H3 at sx3 d3 r3 |-
    have m2:=jaX (M:=M) s2;have m3:Same (rm M J2) (rm M H3):=sx3.rm hR.mem;have qd3:=SqT.of (K:=K) (jnf ed (m2.trans m3));refine⟨.inl ⟨_,SqL.of r3⟩,ixT qd3 (i:=1) rfl (ixT qd3 (i:=3) rfl ⟨by show 2<=sizeLine;decide,fun a3 n3=>ja9 n3 fun J3 j3 k3=>?_⟩)⟩;refine⟨rL,_,_,rfl,rfl,j3 _ _ r3,by rw[xaa,ln];exact jaL (by omega),?_⟩;have sx4:SX [rL,dL] J3 (upd J3 rL (.lst (rs.map V.ref++[.ref a3]))):=fun b o hb e=>by
      simp only[xad,xae,or_false,not_or] at hb;rw[jar hb.1];exact e
    have r4:(upd J3 rL (.lst (rs.map V.ref++[.ref a3]))) rL=some (.lst ((rs++[a3]).map V.ref)):=by rw[upd_same,xah];rfl
    have d4:(upd J3 rL (.lst (rs.map V.ref++[.ref a3]))) dL=some (.lst ((ds++[a2]).map V.ref)):=by rw[jar (Ne.symm hR.ne)];exact j3 _ _ d3
    generalize upd J3 rL (.lst (rs.map V.ref++[.ref a3]))=H4 at sx4 d4 r4 |-
    have m4:Same (rm M H3) (rm M H4):=(jaX j3).trans (sx4.rm hR.mem);have m24:=m3.trans m4;have m04:=m2.trans m24;have mu3:∀m∈M,Mut J3 m:=fun m hm=>by
      refine (((hR.keep s2).set sx3 r3 d3 ((h3.mono fun _ _ z=>z.keep (m2.trans m3))) (done':=done++[.put st.length (x,frm ps ps)]) ?_).mu m hm).keep j3;refine (h4.mono fun _ _ z=>z.keep (m2.trans m3)).app (.cons ?_ .nil);exact⟨by omega,a1,m3 _ _ (jb3 (fun m hm=>(hR.mu m hm).keep s2) k2),⟨⟨fa,m3 _ _ (jb3 (fun m hm=>(hR.mu m hm).keep s2) (j2 _ _ k1)),hb.keep (m2.trans m3)⟩,lo⟩⟩
    have mu2:∀m∈M,Mut J2 m:=fun m hm=>(hR.mu m hm).keep s2;refine fin1 _ _ _ _ ed' H4 ((Same.x s2 _).trans (sx3.trans ((Same.x j3 _).trans sx4))) r4 d4 ((h3.mono fun _ _ z=>z.keep m04).app (.cons ⟨⟨fa,sx4.rm hR.mem _ _ (jb3 mu3 k3),hb.keep m04⟩,lo⟩ .nil)) ((h4.mono fun _ _ z=>z.keep m04).app (.cons ⟨by omega,a1,m24 _ _ (jb3 mu2 k2),⟨⟨fa,m24 _ _ (jb3 mu2 (j2 _ _ k1)),hb.keep m04⟩,lo⟩⟩ .nil))
  | drop x =>
    have qd:=SqT.of (K:=K) (s1 _ _ (jaD hD).1);refine ixT qd (i:=0) rfl ⟨rfl,?_⟩;rw[if_neg (by intro z;exact absurd (V.str.inj z) (by decide +kernel))];refine ixT qd (i:=0) rfl ⟨rfl,?_⟩;rw[if_pos rfl];refine ixT qd (i:=1) rfl ⟨acc,_,rfl,.inl (SqL.of e1),rfl,jbU st,?_⟩;refine⟨_,rfl,?_⟩;rw[show (if true=true then !inV (V.str x) (stV st) else inV (V.str x) (stV st))=!inN x st from by rw[jlO,jd2]];cases c2:inN x st with
    | false =>
      rw[if_pos (by rfl)];exact fin0 0 (by simp [due,c2]) _ s1
    | true =>
    rw[if_neg (by decide)];have lt:=jiO c2;have ltr:plN x st<rs.length:=by rw[ln];exact lt
    have er:rs[plN x st]?=some rs[plN x st]:=xab ltr;obtain⟨it,hi,hit⟩:=h3.getA er;generalize rs[plN x st]=r at er hit;refine⟨.inl ⟨_,SqL.of e1⟩,ixT qd (i:=1) rfl ⟨acc,_,_,rfl,rfl,SqL.of e1,rfl,jbU st,by rw[jd2];exact c2,by rw[jfv];omega,?_⟩⟩;rw[jfu];refine⟨.inl ⟨_,SqL.of h2'⟩,.inl ⟨_,SqL.of h1'⟩,rL,_,_,plN x st,.ref r,rfl,rfl,h1',by omega,by omega,seqI (by rw[xaa];exact ltr),by rw[xai,er];rfl,by show 3<=sizeLine;decide,?_⟩;have sx2:SX [rL,dL] H1 (upd H1 rL (.lst ((rs.map V.ref).eraseIdx (plN x st)))):=fun b o hb e=>by
      simp only[xad,xae,or_false,not_or] at hb;rw[jar hb.1];exact e
    have r2:(upd H1 rL (.lst ((rs.map V.ref).eraseIdx (plN x st)))) rL=some (.lst ((rs.eraseIdx (plN x st)).map V.ref)):=by rw[upd_same,jge]
    have d2:(upd H1 rL (.lst ((rs.map V.ref).eraseIdx (plN x st)))) dL=some (.lst (ds.map V.ref)):=by rw[jar (Ne.symm hR.ne)];exact h2'
    generalize upd H1 rL (.lst ((rs.map V.ref).eraseIdx (plN x st)))=H2 at sx2 d2 r2 |-
    have m1:=jaX (M:=M) s1;have m2:Same (rm M H1) (rm M H2):=sx2.rm hR.mem;have R2:DoAt M H2 rL dL (st.eraseIdx (plN x st)) done:=(hR.keep s1).set sx2 r2 d2 (jdR (h3.mono fun _ _ z=>z.keep (m1.trans m2)) _) (h4.mono fun _ _ z=>z.keep (m1.trans m2));refine fun a1 n1=>ja9 n1 fun J1 j1 k1=>⟨dL,_,_,rfl,rfl,j1 _ _ d2,by rw[xaa,ld];exact jaL (by omega),?_⟩;have sx3:SX [rL,dL] J1 (upd J1 dL (.lst (ds.map V.ref++[.ref a1]))):=fun b o hb e=>by
      simp only[xad,xae,or_false,not_or] at hb;rw[jar hb.2];exact e
    have d3:(upd J1 dL (.lst (ds.map V.ref++[.ref a1]))) dL=some (.lst ((ds++[a1]).map V.ref)):=by rw[upd_same,xah];rfl
    have r3:(upd J1 dL (.lst (ds.map V.ref++[.ref a1]))) rL=some (.lst ((rs.eraseIdx (plN x st)).map V.ref)):=by rw[jar hR.ne];exact j1 _ _ r2
    generalize upd J1 dL (.lst (ds.map V.ref++[.ref a1]))=H3 at sx3 d3 r3 |-
    have m3:Same (rm M J1) (rm M H3):=sx3.rm hR.mem;have m13:=m1.trans (m2.trans ((jaX j1).trans m3));have eg:st.getD (plN x st) it0=it:=by rw[xac,hi];rfl
    have dd:due st done (.drop x)=((st.eraseIdx (plN x st),done++[.drop (plN x st) (st.getD (plN x st) it0)]),none):=by simp only[due,c2,if_true]
    refine fin1 _ _ _ _ dd H3 ((Same.x s1 _).trans (sx2.trans ((Same.x j1 _).trans sx3))) r3 d3 (jdR (h3.mono fun _ _ z=>z.keep m13) _) ((h4.mono fun _ _ z=>z.keep m13).app (.cons ⟨by omega,r,m3 _ _ (jb3 (fun m hm=>(R2.mu m hm).keep j1) k1),by rw[eg];exact hit.keep m13⟩ .nil))
  | back =>
    have qd:=SqT.of (K:=K) (s1 _ _ (jaD hD).1);refine ixT qd (i:=0) rfl ⟨rfl,?_⟩;rw[if_neg (by intro z;exact absurd (V.str.inj z) (by decide +kernel))];refine ixT qd (i:=0) rfl ⟨rfl,?_⟩;rw[if_neg (by intro z;exact absurd (V.str.inj z) (by decide +kernel))];refine⟨by decide,fun p np=>ja9 np fun J1 j1 k1=>⟨_,_,.lst (SqL.of (j1 _ _ h2')) (jlE (h4.mono fun _ _ z=>z.keep ((jbB _ _).trans (s1.trans j1)))),.lst (SqL.of k1) .nil,jne K h4,by decide,_,rfl,?_⟩⟩;rw[ifF,jlF];have s2:=s1.trans j1;by_cases ce:done=[]
    . rw[ce,if_pos (by rfl)]
      exact fin0 3 (by rw[ce];rfl) _ s2
    obtain⟨d0,mk,rfl⟩:∃d0 mk,done=d0++[mk]:=⟨done.dropLast,done.getLast ce,(xaW ce).symm⟩;have ns:ds≠[]:=fun z=>by rw[z,xaf] at ld;cases ld
    obtain⟨ds0,a,rfl⟩:∃q0 t0,ds=q0++[t0]:=⟨ds.dropLast,ds.getLast ns,(xaW ns).symm⟩;have l0:ds0.length=d0.length:=by simpa using ld
    have h40:All2 (MkAt (rm M H)) ds0 d0:=by
      have:=h4.take ds0.length;rw[xbJ rfl,xbJ l0.symm] at this;exact this
    have h4a:MkAt (rm M H) a mk:=by
      have:=h4.drop ds0.length;rw[xbK rfl,xbK l0.symm] at this;cases this with
      | cons h _=>exact h
    have e0:(d0++[mk]).isEmpty=false:=by cases d0<;>rfl
    rw[e0,if_neg (by decide)];have v1:=vl mk (by rw[xbi];rfl);have dd:due st (d0++[mk]) .back=((jna st mk,d0),none):=by simp [due]
    refine⟨.inl ⟨_,SqL.of (j1 _ _ h2')⟩,dL,_,.ref a,rfl,rfl,j1 _ _ h2',by rw[xah,xaf];simp,a,rfl,?_⟩;have sx2:SX [rL,dL] J1 (upd J1 dL (.lst ((ds0++[a]).map V.ref).dropLast)):=fun b o hb e=>by
      simp only[xad,xae,or_false,not_or] at hb;rw[jar hb.2];exact e
    have d2:(upd J1 dL (.lst ((ds0++[a]).map V.ref).dropLast)) dL=some (.lst (ds0.map V.ref)):=by
      rw[upd_same,xah];show some (HO.lst (ds0.map V.ref++[V.ref a]).dropLast)=_;rw[xbh]
    have r2:(upd J1 dL (.lst ((ds0++[a]).map V.ref).dropLast)) rL=some (.lst (rs.map V.ref)):=by rw[jar hR.ne];exact s2 _ _ h1
    generalize upd J1 dL (.lst ((ds0++[a]).map V.ref).dropLast)=H2 at sx2 d2 r2 |-
    have m1:=jaX (M:=M) s2;have m2:Same (rm M J1) (rm M H2):=sx2.rm hR.mem;have h4b:=h4a.keep (m1.trans m2);cases mk with
    | put n r =>
      obtain⟨n9,t,et,hit⟩:=h4b;have nl:n<st.length:=v1;have nlr:n<rs.length:=by omega
      refine⟨_,SqT.of (jaD et).1,rfl,_,_,rfl,_,_,rfl,_,_,rfl,rfl,rfl,?_⟩;rw[if_pos rfl];refine⟨.inl ⟨_,SqL.of r2⟩,rL,_,_,n,.ref rs[n],rfl,rfl,r2,by omega,by omega,seqI (by rw[xaa];exact nlr),by rw[xai,xab nlr];rfl,?_⟩;have sx3:SX [rL,dL] H2 (upd H2 rL (.lst ((rs.map V.ref).eraseIdx n))):=fun b o hb e=>by
        simp only[xad,xae,or_false,not_or] at hb;rw[jar hb.1];exact e
      have m3:Same (rm M H2) (rm M _):=sx3.rm hR.mem;have m13:=m1.trans (m2.trans m3);refine fin1 _ _ (rs.eraseIdx n) ds0 dd _ ((Same.x s2 _).trans (sx2.trans sx3)) (by rw[upd_same,jge]) (by rw[jar (Ne.symm hR.ne)];exact d2) (jdR (h3.mono fun _ _ z=>z.keep m13) _) (h40.mono fun _ _ z=>z.keep m13)
    | drop n r =>
      obtain⟨n9,t,et,hit⟩:=h4b;have nl:n<=st.length:=v1;refine⟨_,SqT.of (jaD et).1,rfl,_,_,rfl,_,_,rfl,_,_,rfl,rfl,rfl,?_⟩;rw[if_neg (by intro z;exact absurd (V.str.inj z) (by decide +kernel))];refine⟨.inl ⟨_,SqL.of r2⟩,rL,_,_,n,rfl,rfl,r2,by rw[xaa];omega,by rw[xaa];exact jaL (by omega),by omega,?_⟩;have sx3:SX [rL,dL] H2 (upd H2 rL (.lst ((rs.map V.ref).take n++.ref t::(rs.map V.ref).drop n))):=fun b o hb e=>by
        simp only[xad,xae,or_false,not_or] at hb;rw[jar hb.1];exact e
      have m3:Same (rm M H2) (rm M _):=sx3.rm hR.mem;have m13:=m1.trans (m2.trans m3);refine fin1 _ _ (rs.take n++t::rs.drop n) ds0 dd _ ((Same.x s2 _).trans (sx2.trans sx3)) (by rw[upd_same,xah,xaJ,xaM,xaK]) (by rw[jar (Ne.symm hR.ne)];exact d2) (((h3.mono fun _ _ z=>z.keep m13).take n).app (.cons (hit.keep m3) ((h3.mono fun _ _ z=>z.keep m13).drop n))) (h40.mono fun _ _ z=>z.keep m13)
structure Bth (Y:Addr) (M:List Addr) (H:Hp) (y pL rL dL:Addr) (st:Rws) (past:List Rws) (done:List Mark):Prop where
 yd:YardAt Y M H y pL st past
 dn:DoAt M H rL dL st done
 un:Und st past done
 l6:st.length<=6
 p6:∀s∈past,s.length<=6
 n1:y∉[rL,dL]
 n2:pL∉[rL,dL]
theorem Bth.keep {st:Rws} {past:List Rws} {done:List Mark} (h:Bth Y M H y pL rL dL st past done) (s:Same H H'):Bth Y M H' y pL rL dL st past done:=⟨h.yd.keep s,h.dn.keep s,h.un,h.l6,h.p6,h.n1,h.n2⟩
theorem jkw {st:Rws} {past:List Rws} {D:Deed} (h:st.length<=6) (hp:∀s∈past,s.length<=6):(step st past D).1.1.length<=6/\(∀s∈(step st past D).1.2,s.length<=6)/\(step st past D).1.2.length<=past.length+1:=by
  have app:∀s∈past++[st],s.length<=6:=fun s hs=>(xax.mp hs).elim (hp s) fun z=>by rw[xay.mp z];exact h
  have la:(past++[st]).length<=past.length+1:=by rw[xaf];exact xaj _
  cases D with
  | put x ps g =>
    cases e:jbm st x g with
    | some i =>
      simp only[step,e];exact⟨h,hp,xbl _⟩
    | none =>
      simp only[step,e];refine⟨?_,app,la⟩;unfold jbm at e;split at e
      . cases e
      . split at e
        . cases e
        . split at e
          . cases e
          . split at e
            . cases e
            . rw[xaf]
              show st.length+1<=6;omega
  | drop x =>
    by_cases c:inN x st=true
    . simp only[step,if_pos c]
      exact⟨by rw[List.length_eraseIdx];split<;>omega,app,la⟩
    . simp only[step,if_neg c]
      exact⟨h,hp,xbl _⟩
  | back =>
    by_cases c:past=[]
    . subst c
      exact⟨h,hp,xbl _⟩
    . obtain⟨p0,s0,rfl⟩:∃p0 s0,past=p0++[s0]:=⟨past.dropLast,past.getLast c,(xaW c).symm⟩
      have e:step st (p0++[s0]) .back=((s0,p0),none):=by simp [step]
      rw[e];exact⟨hp s0 (xaz _ (xay.mpr rfl)),fun s hs=>hp s (xbg _ hs),by rw[xaf];show p0.length<=p0.length+1+1;omega⟩
def ji4 (Y:Addr):Sp:=fun vs H Q _=>∃(M:List Addr) (y pL rL dL d:Addr) (st:Rws) (past:List Rws) (done:List Mark) (D:Deed),vs=[.ref y,.ref rL,.ref dL,.ref d]/\Bth Y M H y pL rL dL st past done/\DeedAt [rL,dL] M H d D/\past.length<=900 /\
 ∀(done':List Mark) (H':Hp),SX [y,pL,rL,dL] H H'->Bth Y M H' y pL rL dL (step st past D).1.1 (step st past D).1.2 done'->Q (.bl true) H'
theorem jlG {st:Rws} {past:List Rws} {D:Deed} (h:(step st past D).2=some i):i<4:=by
  cases D with
  | put x ps g =>
    cases e:jbm st x g with
    | some j =>
      simp only[step,e] at h;cases h;exact jeI e
    | none =>
      simp only[step,e] at h;cases h
  | drop x =>
    by_cases c:inN x st=true
    . simp only[step,if_pos c] at h
      cases h
    . simp only[step,if_neg c] at h
      cases h;decide
  | back =>
    cases e:past.getLast? with
    | none =>
      simp only[step,e] at h;cases h;decide
    | some s =>
      simp only[step,e] at h;cases h
theorem jjV (T:Tyd K mg t1 t2 cs SE Y) (F:At K mg "_law_right" jcH ["yard","rows","done","deed"] []) (Di:jaz P w K mg base CX0 1 "_law_due" ["rows","done","deed"] [] jng) (dW:jaz P w K mg base CX0 8 "_law_tried" ["yard","deed"] [] (jnc Y)):jaz P w K mg base CX0 9 "_law_right" ["yard","rows","done","deed"] [] (ji4 Y):=by
  refine F.ok jdw (fun vs H Q E h=>?_) (fun f cdv A outer s H vs Q E hr h=>?_)
  . obtain⟨M,y,pL,rL,dL,d,st,past,done,D,rfl,_⟩:=h
    rfl
  obtain⟨M,y,pL,rL,dL,d,st,past,done,D,rfl,hB,hD,l9,q⟩:=h;have S:=jdw;refine⟨_,(jac (jal (i:=4) S.nd rfl (Or.inr rfl) (jaj Di hr.m rfl jaF (jaa (pv 1) (jaa (pv 2) (jaa (pv 3) jad jaf) jaf) jaf)))
    (jac (jfF (jaj dW hr.m rfl jaF (jaa (pv 0) (jaa (pv 3) jad jaf) jaf)) (jeV rfl (ja0 (jaw (i:=5) S.nd rfl (Or.inl rfl)) (ja0 (jaw (i:=6) S.nd rfl (Or.inl rfl)) jcu))))
    (jac (jaK (PW.pt (jeN (jam jkI (pv 5) jeU (jas _)) (jdS (PW.pt (jdk (jam (jdV (jhw hr)) (pv 6) (jaU jad) (jas _)) (jc7 (jam (jdV (jhw hr)) (pv 6) (ja1 rfl (N':=["k","due"]) (ix:=[4]) (by walk_at "cs") (jaI rfl T.m_range (jaa jab jad jan)) (fun _ _ _ _=>jaw (i:=0) (show (["k","due"]:List Str).Nodup from by decide +kernel) rfl (Or.inl rfl)) (fun _ _ _ _=>ja2) (fun _ _ _ _=>(jc9 jbd (pv 0) (pv 1) (jas _)))) (jas _))))))))
    (jae (jao jby))
    jap)
    (jae (jao (jc9 jbd (jc9 (jj3 (jhw hr)) (pv 6) (jaU jad) (jas _)) (jc9 jbd (pv 4) (jd9 jcv jab) (jas _)) (jas _))))))),?_⟩
  have ul:=hB.un.len;walk_at "rf";have hD0:=hD.keep (S':=[]) (SX.refl _ H) hB.dn.mem hB.dn.mu (fun _ z=>nomatch z);obtain⟨ds1,ds2,ds3⟩:=jjU (D:=D) hB.un;refine⟨M,rL,dL,d,st,done,D,rfl,hB.dn,hD0,hB.l6,by omega,hB.un.vld,fun H1 s1 d1=>?_⟩;rw[ds1];rw[ds2] at d1;have y1:=hB.yd.off s1 hB.dn.mem d1.mu hB.n1 hB.n2;refine⟨M,y,pL,d,st,past,D,rfl,y1,hD.keep s1 hB.dn.mem hB.dn.mu (fun _ z=>nomatch z),hB.l6,l9,fun r fl H2 rn fn s2 y2 e2 e3=>?_⟩;have yM:∀a∈[y,pL],a∈M:=fun a ha=>by
    simp only[xad,xae,or_false] at ha;rcases ha with rfl | rfl
    . exact hB.yd.yM
    . exact hB.yd.pM
  have g2:=s2.rm yM;have n1:=hB.n1;have n2:=hB.n2;simp only[xad,xae,or_false,not_or] at n1 n2;have d2:DoAt M H2 rL dL (step st past D).1.1 (due st done D).1.2:=by
    obtain⟨rs,ds,h1,h2,h3,h4⟩:=d1.ob;refine⟨d1.rM,d1.dM,y2.mu,d1.ne,rs,ds,s2 _ _ ?_ h1,s2 _ _ ?_ h2,h3.mono fun _ _ z=>z.keep g2,h4.mono fun _ _ z=>z.keep g2⟩
    . simp only[xad,xae,or_false,not_or]
      exact⟨Ne.symm n1.1,Ne.symm n2.1⟩
    . simp only[xad,xae,or_false,not_or]
      exact⟨Ne.symm n1.2,Ne.symm n2.2⟩
  obtain⟨u1,u2,u3⟩:=jkw (D:=D) hB.l6 hB.p6;have B2:Bth Y M H2 y pL rL dL (step st past D).1.1 (step st past D).1.2 (due st done D).1.2:=⟨y2,d2,ds3,u1,u2,hB.n1,hB.n2⟩;have sx:SX [y,pL,rL,dL] H H2:=fun b o hb e=>by
    simp only[xad,xae,or_false,not_or] at hb;exact s2 b o (by simp only[xad,xae,or_false,not_or];exact⟨hb.1,hb.2.1⟩) (s1 b o (by simp only[xad,xae,or_false,not_or];exact hb.2.2) e)
  have fin:∀H',Same H2 H'->Q (.bl true) H':=fun H' s'=>q _ H' (sx.trans (Same.x s' _)) (B2.keep s');have hi:∀{i:Nat},(step st past D).2=some i->i<4:=fun h=>jlG h;generalize (step st past D).2=o at e3 hi |-
  clear q B2 d2 g2 y2 y1 d1 ds1 ds2 ds3 u1 u2 u3;walk_at "rf";refine⟨_,SqT.of e2,rfl,_,_,rfl,_,_,rfl,rfl,?_⟩;rw[if_pos rfl];refine⟨by decide,fun p hp=>ja9 hp fun J1 j1 k1=>⟨_,_,.lst (SqL.of (j1 _ _ e3)) (jbg _),.lst (SqL.of k1) .nil,jbG _,by decide,_,rfl,?_⟩⟩;rw[jlO,jgy];cases o with
  | none =>
    rw[if_neg (by decide)];refine⟨by decide,fun p hp=>ja9 hp fun J2 j2 k2=>⟨_,_,.lst (SqL.of (j2 _ _ (j1 _ _ e3))) (jbg _),.lst (SqL.of k2) .nil,jbG _,by decide,?_⟩⟩;rw[ifF,jgy];exact⟨rfl,fin _ (j1.trans j2)⟩
  | some i =>
    have i4:=hi rfl;rw[if_pos (by rfl)];refine⟨by decide,by decide,fun acc hacc=>jkX (fun k=>.bl (decide (((k:Nat):Int)=(i:Nat)))) (by decide) hacc (fun k H3 R hk s3 hR=>?_) (fun H3 s3 e4=>?_)⟩
    . walk_at "rf"
      rw[show decide (0+((k:Nat):Int)=dueN (some i))=decide (((k:Nat):Int)=(i:Nat)) from by rw[xbA];rfl];exact hR H3 (Same.refl _)
    have e4':H3 acc=some (.lst ((flg (some i)).map V.bl)):=by
      rw[e4];have:i=0\/i=1\/i=2\/i=3:=by omega
      rcases this with rfl | rfl | rfl | rfl<;>rfl
    refine⟨_,_,.lst (SqL.of (s3 _ _ (j1 _ _ e3))) (jbg _),.lst (SqL.of e4') (jbg _),jbG _,jbG _,_,rfl,?_⟩;have er:PyData.eqv (.list ((flg (some i)).map PyData.bool)) (.list ((flg (some i)).map PyData.bool))=true:=by
      have:i=0\/i=1\/i=2\/i=3:=by omega
      rcases this with rfl | rfl | rfl | rfl<;>rfl
    rw[jlO,er,if_neg (by decide)];refine⟨by decide,fun p hp=>ja9 hp fun J2 j2 k2=>⟨_,_,.lst (SqL.of (j2 _ _ (s3 _ _ (j1 _ _ e3)))) (jbg _),.lst (SqL.of k2) .nil,jbG _,by decide,?_⟩⟩;rw[ifF,jgy];have dn:dueN (some i)≠-1:=by show ((i:Nat):Int)≠-1;omega
    rw[decide_eq_false dn];exact⟨rfl,fin _ (j1.trans (s3.trans j2))⟩
def jlP (H:Hp):V->V
  | .ref r => match H r with
    | some (.tup (_::x::_))=>x
    | _=>.non
  | _=>.non
theorem jni {it:Str × List Pt} (h:ItAt H r it):∃t,jlP H (.ref r)=.ref t/\BoAt H t it.2:=by
 obtain⟨⟨t,e,q⟩,_⟩:=h;exact⟨t,by simp only[jlP,e],q⟩
theorem jlH {st:Rws} (h:All2 (ItAt H) rs st):∃ts,(rs.map V.ref).map (jlP H)=ts.map V.ref/\All2 (BoAt H) ts (st.map (·.2)):=by
  induction h with
  | nil=>exact⟨[],rfl,.nil⟩
  | cons h _ ih =>
    obtain⟨t,e,q⟩:=jni h;obtain⟨ts,e2,q2⟩:=ih;exact⟨t::ts,by rw[xaJ,xaJ,xaJ,e,e2],.cons q q2⟩
theorem jnj {acc:Addr} {st:Rws} (h1:H rL=some (.lst (rs.map V.ref))) (h3:All2 (ItAt (rm M H)) rs st) (l9:st.length<=900) (hacc:H acc=none) (hd:∀H' ts,Same H H'->H' acc=some (.lst (ts.map V.ref))->All2 (BoAt (rm M H)) ts (st.map (·.2))->Z H'):CompGo (Itl K rL) [] (jbw 0) jbR (tOp (jmc K) (jhj 0) (tC (V.int 1))) acc Z H:=by
 have ln:=h3.len;obtain⟨ts,e2,q2⟩:=jlH h3;refine jmk (jlP (rm M H)) (by rw[xaa];omega) hacc (SqL.of h1) (fun z H3 R hz s3 hR=>?_) (fun H3 s3 e3=>hd H3 ts s3 (by rw[e3,e2]) q2);obtain⟨r,hr1,rfl⟩:=xaC.mp hz;obtain⟨i,hi,rfl⟩:=List.getElem_of_mem hr1;obtain⟨it,_,hit⟩:=h3.getA (xab hi);obtain⟨⟨t,e1,e2⟩,_⟩:=hit;have e:jlP (rm M H) (.ref rs[i])=.ref t:=by simp only[jlP,e1]
 refine⟨_,rfl,ixT (SqT.of (s3 _ _ (jaD e1).1)) (i:=1) rfl ?_⟩;have z:=hR H3 (Same.refl _);rw[e] at z;exact z
theorem Bth.lo {st:Rws} {past:List Rws} {done:List Mark} (h:Bth Y M H y pL rL dL st past done):∀it∈st,Lo it.1:=fun it hi=>by
 obtain⟨rs,ds,_,_,ha,_⟩:=h.dn.ob;obtain⟨i,hi⟩:=xaP hi;obtain⟨r,_,q⟩:=ha.get hi;exact q.2
theorem jlI (bs:List (List Pt)):SeqAt.shaped (.list (bs.map boD))=true/\PyData.eqv (.list (bs.map boD)) (.list (bs.map boD))=true:=by
 have c:PyData.canLayAll0 (bs.map boD)=true:=jeJ fun d hd=>by
  obtain⟨b,_,rfl⟩:=xaC.mp hd;exact (jeL _).1
 have e:PyData.depthAll (bs.map boD)<=2:=jeK fun d hd=>by
  obtain⟨b,_,rfl⟩:=xaC.mp hd;exact (jeL _).2
 have c':PyData.canLay0 (.list (bs.map boD))=true:=by rw[PyData.canLay0,c]
 refine⟨?_,SeqAt.eqv_refl _ c'⟩;unfold SeqAt.shaped;rw[c',PyData.depth,decide_eq_true (by omega)];rfl
def jnk (Y:Addr):Sp:=fun vs H Q _=>∃(M:List Addr) (y pL rL dL:Addr) (st:Rws) (past:List Rws) (done:List Mark),vs=[.ref y,.ref rL,.ref dL]/\Bth Y M H y pL rL dL st past done/\∀H',Same H H'->Q (.bl true) H'
theorem jnl (T:Tyd K mg t1 t2 cs SE Y) (F:At K mg "_law_stands" jci ["yard","rows","done"] []) (de:jaW P w K mg base CX0 1 Y "names" ["self"] (jeE Y)) (dm:jaW P w K mg base CX0 1 Y "boards" ["self"] (jft Y)) (dq:jaW P w K mg base CX0 1 Y "deeds" ["self"] (jgu Y)):jaz P w K mg base CX0 2 "_law_stands" ["yard","rows","done"] [] (jnk Y):=by
 refine F.ok jc2 (fun vs H Q E h=>?_) (fun f cdv A outer s H vs Q E hr h=>?_)
 ·obtain⟨M,y,pL,rL,dL,st,past,done,rfl,_⟩:=h;rfl
 obtain⟨M,y,pL,rL,dL,st,past,done,rfl,hB,q⟩:=h;have S:=jc2;refine⟨_,(jac (jal (i:=3) S.nd rfl (Or.inl rfl) (jbx de (pv 0) T.cl hr.m jaF))
  (jac (jal (i:=4) S.nd rfl (Or.inl rfl) (jbx dm (pv 0) T.cl hr.m jaF))
  (jac (jaK (PW.pt (jeN (jcm (jbz (jat jbi rfl T.m_isinstance boot_isinstance (jaa (pv 3) (jaa (jc6 (v:=.ty "list") rfl T.m_list boot_list rfl) jad jaf) jaf)))) (jdS (jam (jdV (jhw hr)) (pv 3) (ja1 rfl (N':=["row"]) (ix:=[]) (by walk_at "cs") (jbV (pv 1)) (fun _ _ _ _=>jaw (i:=0) (show (["row"]:List Str).Nodup from by decide +kernel) rfl (Or.inl rfl)) (fun _ _ _ _=>ja2) (fun _ _ _ _=>(jai (jek (K:=K) rfl) (pv 0) jab))) (jas _)))))
  (jae (jao jby))
  jap)
  (jac (jaK (PW.pt (jeN (jcm (jbz (jat jbi rfl T.m_isinstance boot_isinstance (jaa (pv 4) (jaa (jc6 (v:=.ty "list") rfl T.m_list boot_list rfl) jad jaf) jaf)))) (jdS (jam (jdV (jhw hr)) (pv 4) (ja1 rfl (N':=["row"]) (ix:=[]) (by walk_at "cs") (jbV (pv 1)) (fun _ _ _ _=>jaw (i:=0) (show (["row"]:List Str).Nodup from by decide +kernel) rfl (Or.inl rfl)) (fun _ _ _ _=>ja2) (fun _ _ _ _=>(jai (jek (K:=K) rfl) (pv 0) jab))) (jas _)))))
  (jae (jao jby))
  jap)
  (jac (jal (i:=5) S.nd rfl (Or.inl rfl) (jbx dq (pv 0) T.cl hr.m jaF))
  (jae (jao (jjW (jat jbi rfl T.m_isinstance boot_isinstance (jaa (pv 5) (jaa (jc6 (v:=.ty "int") rfl T.m_int boot_int rfl) jad jaf) jaf)) (jjW (jlZ (jat jbi rfl T.m_isinstance boot_isinstance (jaa (pv 5) (jaa (jc6 (v:=.ty "bool") rfl T.m_bool boot_bool rfl) jad jaf) jaf))) (jlY (jc9 jbd (pv 5) (jat jaB rfl T.m_len PySem.boot_len (jaa (pv 2) jad jaf)) (jas _)))))))))))),?_⟩
 obtain⟨dx,sL,ss,h1,h2,h3,h4⟩:=hB.yd.ob;obtain⟨rs,ds,g1,g2,g3,g4⟩:=hB.dn.ob;have l6:=hB.l6;have lo:=hB.lo;walk_at "rf";refine⟨_,rfl,y,dx,_,rfl,h1,jbj (by decide +kernel) (by decide +kernel),y,dx,sL,pL,st,rfl,h1,h3.keep (jbB _ _),by omega,fun l1 H1 n1 s1 e1=>?_⟩;walk_at "rf";refine⟨_,rfl,y,dx,_,rfl,s1 _ _ h1,jbj (by decide +kernel) (by decide +kernel),y,dx,sL,pL,st,rfl,s1 _ _ h1,h3.keep ((jbB _ _).trans s1),by omega,fun l2 ts H2 n2 s2 e2 a2=>?_⟩;walk_at "rf";refine⟨_,.lst (s2 _ _ e1),_,rfl,?_⟩;rw[if_neg (by decide)];refine⟨⟨_,SqL.of ((s1.trans s2) _ _ g1)⟩,fun acc hacc=>ji3 (M:=M) ((s1.trans s2) _ _ g1) (g3.mono fun _ _ z=>z.keep (jaX (s1.trans s2))) (by omega) hacc fun H3 s3 e3=>?_⟩;have z0:=jlD (st:=st) lo;refine⟨_,_,.lst (SqL.of (s3 _ _ (s2 _ _ e1))) (jfC _),.lst (SqL.of e3) (jfC _),z0,z0,_,rfl,?_⟩;rw[jlO,SeqAt.eqv_refl _ (SeqAt.canLay_of_shaped z0),if_neg (by decide)];refine⟨_,.lst (s3 _ _ e2),_,rfl,?_⟩;rw[if_neg (by decide)];have s13:=s1.trans (s2.trans s3);refine⟨⟨_,SqL.of (s13 _ _ g1)⟩,fun acc2 hacc2=>jnj (M:=M) (s13 _ _ g1) (g3.mono fun _ _ z=>z.keep (jaX s13)) (by omega) hacc2 fun H4 ts' s4 e4 a4=>?_⟩;obtain⟨z1,z2⟩:=jlI (st.map (·.2));refine⟨_,_,.lst (SqL.of (s4 _ _ (s3 _ _ e2))) (ji1 (a2.mono fun _ _ b=>b.keep (s3.trans s4))),.lst (SqL.of e4) (ji1 (a4.mono fun _ _ b=>b.keep ((jbB _ _).trans s4))),z1,z1,_,rfl,?_⟩;rw[jlO,z2,if_neg (by decide)];have s14:=s13.trans s4;refine⟨_,rfl,y,dx,_,rfl,s14 _ _ h1,jbj (by decide +kernel) (by decide +kernel),y,pL,dx,sL,ss,rfl,s14 _ _ h1,s14 _ _ h2,?_⟩;have ll:ss.length=ds.length:=by rw[h4.len,g4.len];exact hB.un.len
 refine⟨_,.int _,true,rfl,?_⟩;rw[if_pos rfl];refine⟨_,.int _,false,rfl,?_⟩;rw[if_pos rfl];refine⟨_,.inl (SqL.of (s14 _ _ g2)),rfl,?_⟩;rw[xaa,ll,decide_eq_true rfl];exact q _ s14
def pcF (x:Str) (st:Rws):V:=if inN x st=true then .int (plN x st:Nat) else .non
def pcG (x:Str) (st:Rws):List Bool:=if inN x st=true then [] else flg (some 0)
def jkx (Y:Addr):Sp:=fun vs H Q _=>∃(y dx sL pL:Addr) (st:Rws) (x:Str),vs=[.ref y,.str x]/\H y=some (.ins Y dx (jeT sL pL))/\StAt H sL st/\st.length<=900/\∀(r fl:Addr) (H':Hp),Same H H'->H' r=some (.tup [pcF x st,.ref fl])->H' fl=some (.lst ((pcG x st).map V.bl))->Q (.ref r) H'
theorem jlJ (T:Tyd K mg t1 t2 cs SE Y) (F:At K mg "_law_placed" jcj ["yard","name"] []) (dh:jaW P w K mg base (XOk P w) 2 Y "place_of" ["self","name"] (jgw Y (cs 0))) (du:jms P w K mg base 1 "_law_flags" ["e"] (jjT cs)):jaz P w K mg base CX0 3 "_law_placed" ["yard","name"] [] (jkx Y):=by
 refine F.ok jc3 (fun vs H Q E h=>?_) (fun f cdv A outer s H vs Q E hr h=>?_)
 ·obtain⟨y,dx,sL,pL,st,x,rfl,_⟩:=h;rfl
 obtain⟨y,dx,sL,pL,st,x,rfl,h1,h3,hn,q⟩:=h;have S:=jc3;refine⟨_,(jac (jal (i:=2) S.nd rfl (Or.inl rfl) jeU)
  (jac (jal (i:=3) S.nd rfl (Or.inl rfl) (jaU jad))
  (jac (jgN (i:=4) (jid jfh) rfl T.m_SightError S.nd rfl rfl (Or.inl rfl) (jfg (i:=2) S.nd rfl (Or.inl rfl) (jfn dh (pv 0) T.cl hr.m (jaa (pv 1) jad jaf))) (fun _=>(jae (jal (i:=3) S.nd rfl (Or.inl rfl) (jgP du (hr.caught (by decide)) rfl (jaa (pv 4) jad jaf))))))
  (jae (jao (jbc (jaa (pv 2) (jaa (pv 3) jad jaf) jaf))))))),?_⟩
 walk_at "rf";refine⟨by decide,fun p hp=>ja9 hp fun J1 j1 k1=>⟨_,rfl,y,dx,_,rfl,j1 _ _ h1,jbj (by decide +kernel) (by decide +kernel),_,rfl,y,dx,sL,pL,st,x,rfl,j1 _ _ h1,h3.keep j1,hn,fun c H' s'=>⟨by show 2<=sizeLine;decide,fun r hr=>ja9 hr fun J2 j2 k2=>?_⟩,fun c H' s'=>⟨_,rfl,T.em 0 (by decide),fun ea he=>⟨ea,0,rfl,upd_same,by decide,fun l H2 hl s2 e2=>?_⟩⟩⟩⟩
 ·refine⟨_,rfl,_,rfl,by show 2<=sizeLine;decide,fun r hr=>ja9 hr fun J2 j2 k2=>?_⟩;have c':¬inN x st=true:=by rw[c];decide
  refine q r l J2 (j1.trans (s'.trans ((Same.new he _).trans (s2.trans j2)))) ?_ ?_
  ·rw[k2,pcF,if_neg c']
  ·rw[j2 _ _ e2,pcG,if_neg c']
 ·refine q r p J2 (j1.trans (s'.trans j2)) ?_ ?_
  ·rw[k2,pcF,if_pos c]
  ·rw[j2 _ _ (s' _ _ k1),pcG,if_pos c];rfl
def jky (K:PySem.W.Frag) (Y:Addr):Sp:=fun vs H Q _=>∃(M:List Addr) (y pL rL dL nl:Addr) (st:Rws) (past:List Rws) (done:List Mark) (xs:List Str),vs=[.ref y,.ref rL,.ref nl]/\Bth Y M H y pL rL dL st past done/\SqL K H nl (xs.map V.str)/\xs.length<=20/\∀H',Same H H'->Q (.bl true) H'
theorem jlK (T:Tyd K mg t1 t2 cs SE Y) (F:At K mg "_law_places" jck ["yard","rows","names"] []) (dR:jaz P w K mg base CX0 3 "_law_placed" ["yard","name"] [] (jkx Y)):jaz P w K mg base CX0 4 "_law_places" ["yard","rows","names"] [] (jky K Y):=by
  refine F.ok jc4 (fun vs H Q E h=>?_) (fun f cdv A outer s H vs Q E hr h=>?_)
  . obtain⟨M,y,pL,rL,dL,nl,st,past,done,xs,rfl,_⟩:=h
    rfl
  obtain⟨M,y,pL,rL,dL,nl,st,past,done,xs,rfl,hB,hn,l20,q⟩:=h;have S:=jc4;refine⟨_,(jac (jep (i:=3) rfl S.nd rfl rfl (N':=["row"]) (ix:=[]) (by walk_at "cs") (jbV (pv 1)) (fun _ _ _ _=>jaw (i:=0) (show (["row"]:List Str).Nodup from by decide +kernel) rfl (Or.inl rfl)) (fun _ _ _ _=>ja2) (fun _ _ _ _=>(jai (jek (K:=K) rfl) (pv 0) jab)))
    (jac (jbA PassesOwn.never rfl (jbV (pv 2)) (jaw (i:=4) S.nd rfl (Or.inl rfl))
    (jac (jfF (jaj dR hr.m rfl jaF (jaa (pv 0) (jaa (pv 4) jad jaf) jaf)) (jeV rfl (ja0 (jaw (i:=5) S.nd rfl (Or.inl rfl)) (ja0 (jaw (i:=6) S.nd rfl (Or.inl rfl)) jcu))))
    (jae (jaK (jam jeh (pv 4) (pv 3) rfl)
    (jae (jaK (PW.pt (jeN (jam (jdV (jhw hr)) (pv 6) (jaU jad) (jas _)) (jeN (jcm (jbz (jat jbi rfl T.m_isinstance boot_isinstance (jaa (pv 5) (jaa (jc6 (v:=.ty "int") rfl T.m_int boot_int rfl) jad jaf) jaf)))) (jeN (jbz (jat jbi rfl T.m_isinstance boot_isinstance (jaa (pv 5) (jaa (jc6 (v:=.ty "bool") rfl T.m_bool boot_bool rfl) jad jaf) jaf))) (jdS (jam jeO (pv 5) (jdb PySem.F.plainAttrs_list PySem.F.slot_list_index PySem.F.type_list_index jeq (pv 3) (jaa (pv 4) jad jaf)) (jas _)))))))
    (jae (jao jby))
    jap))
    (jae (jaK (jam (jdV (jhw hr)) (pv 6) (jaU (jaa jby (jaa jby (jaa jby (jaa jby jad jan) jan) jan) jan)) (jas _))
    (jae (jao jby))
    jap))))))
    (jae (jao jby)))),?_⟩
  obtain⟨dx,sL,ss,h1,h2,h3,h4⟩:=hB.yd.ob;obtain⟨rs,ds,g1,g2,g3,g4⟩:=hB.dn.ob;have l6:=hB.l6;walk_at "rf";refine⟨⟨_,SqL.of g1⟩,fun acc hacc=>ji3 (M:=M) g1 g3 (by omega) hacc fun H1 s1 e1=>⟨⟨_,s1.seq hn⟩,?_⟩⟩;refine jfb (K:=K) (a:=nl) (xs:=xs.map V.str) (fun i σ H2=>∃(o4 o5 o6:Option V),σ=[some (.ref y),some (.ref rL),some (.ref nl),some (.ref acc),o4,o5,o6]/\Same H1 H2) ⟨_,_,_,rfl,Same.refl _⟩ (fun i σ H2 _ ⟨_,_,_,_,s2⟩=>(s1.trans s2).seq hn) ?_ ?_;rotate_left
  . rintro σ H2 ⟨o4,o5,o6,rfl,s2⟩
    exact q _ (s1.trans s2)
  rintro i v σ H2 hi ⟨o4,o5,o6,rfl,s2⟩;rw[xai] at hi;obtain⟨x,hx,rfl⟩:=xa5.mp hi;have s02:=s1.trans s2;walk_at "rf";refine⟨y,dx,sL,pL,st,x,rfl,s02 _ _ h1,h3.keep ((jbB _ _).trans s02),by omega,fun r fl H3 s3 e3 ef=>⟨_,rfl,_,SqT.of e3,rfl,_,_,rfl,_,_,rfl,rfl,?_⟩⟩;have ea:=s3 _ _ (s2 _ _ e1);refine⟨acc,_,rfl,.inl (SqL.of ea),rfl,jbU st,_,rfl,?_⟩;rw[show (if false=true then !inV (V.str x) (stV st) else inV (V.str x) (stV st))=inN x st from jd2 x st];cases c:inN x st with
  | false =>
    have c':¬inN x st=true:=by rw[c];decide
    rw[pcG,if_neg c'] at ef;rw[if_neg (by decide)];refine⟨by show 4<=sizeLine;decide,fun p hp=>ja9 hp fun J2 j2 k2=>⟨_,_,.lst (SqL.of (j2 _ _ ef)) (jbg _),.lst (SqL.of k2) (jbg (flg (some 0))),jbG _,jbG _,_,rfl,?_⟩⟩;rw[if_neg (by decide)];exact s2.trans (s3.trans j2)
  | true =>
    rw[pcG,if_pos c] at ef;rw[pcF,if_pos c] at e3;rw[if_pos rfl];refine⟨by decide,fun p hp=>ja9 hp fun J2 j2 k2=>⟨_,_,.lst (SqL.of (j2 _ _ ef)) (jbg _),.lst (SqL.of k2) (jbg []),jbG _,jbG _,_,rfl,?_⟩⟩;rw[if_neg (by decide),pcF,if_pos c];refine⟨_,.int _,true,rfl,?_⟩;rw[if_neg (by decide)];refine⟨_,.int _,false,rfl,?_⟩;rw[if_neg (by decide)];refine⟨.inl ⟨_,SqL.of (j2 _ _ ea)⟩,acc,_,_,rfl,rfl,SqL.of (j2 _ _ ea),rfl,jbU st,by rw[jd2];exact c,by rw[jfv];omega,rfl,?_⟩;rw[jfu,if_pos rfl];exact s2.trans (s3.trans j2)
theorem Bth.off {st:Rws} {past:List Rws} {done:List Mark} (h:Bth Y M H y pL rL dL st past done) (s:SX S H H') (hS:∀a∈S,a∈M) (mu:∀m∈M,Mut H' m) (n:∀b∈[y,pL,rL,dL],b∉S):Bth Y M H' y pL rL dL st past done:=by
 refine⟨h.yd.off s hS mu (n _ (by simp)) (n _ (by simp)),?_,h.un,h.l6,h.p6,h.n1,h.n2⟩;obtain⟨rs,ds,h1,h2,h3,h4⟩:=h.dn.ob;have g:=s.rm hS;exact⟨h.dn.rM,h.dn.dM,mu,h.dn.ne,rs,ds,s _ _ (n _ (by simp)) h1,s _ _ (n _ (by simp)) h2,h3.mono fun _ _ z=>z.keep g,h4.mono fun _ _ z=>z.keep g⟩
theorem Bth.more {l:Addr} {st:Rws} {past:List Rws} {done:List Mark} (h:Bth Y M H y pL rL dL st past done) (s:Same H H') (hl:H l=none) (ml:Mut H' l):Bth Y (l::M) H' y pL rL dL st past done:=by
 have hN:∀m∈[l],H m=none:=fun m hm=>by rw[xay.mp hm];exact hl
 have mN:∀m∈[l],Mut H' m:=fun m hm=>by rw[xay.mp hm];exact ml
 have g:Same (rm M H) (rm ([l]++M) H'):=jdQ hN s;have y':=h.yd.grow s hN mN;refine⟨y',?_,h.un,h.l6,h.p6,h.n1,h.n2⟩;obtain⟨rs,ds,h1,h2,h3,h4⟩:=h.dn.ob;exact⟨.tail _ h.dn.rM,.tail _ h.dn.dM,y'.mu,h.dn.ne,rs,ds,s _ _ h1,s _ _ h2,h3.mono fun _ _ z=>z.keep g,h4.mono fun _ _ z=>z.keep g⟩
theorem Bth.mem {st:Rws} {past:List Rws} {done:List Mark} (h:Bth Y M H y pL rL dL st past done):∀a∈[y,pL,rL,dL],a∈M:=fun z hz=>by
 simp only[xad,xae,or_false] at hz;rcases hz with rfl | rfl | rfl | rfl
 ·exact h.yd.yM
 ·exact h.yd.pM
 ·exact h.dn.rM
 ·exact h.dn.dM
structure Fx (K:PySem.W.Frag) (a:Addr) (ns:List Int) (nl ol ys ks:Addr) (y r d:Nat->Addr) (G:Hp):Prop where
 sc:SqL K G a (ns.map V.int)
 nm:∃xs:List Str,G nl=some (.lst (xs.map V.str))/\xs.length=8/\∀x∈xs,Nam x
 ol:∃zs:List Str,G ol=some (.lst (zs.map V.str))/\zs.length<=20
 ys:G ys=some (.lst [.ref (y 0),.ref (y 1)])
 ks:∃k:Nat->Addr,G ks=some (.lst [.ref (k 0),.ref (k 1)])/\∀j<2,G (k j)=some (.tup [.ref (r j),.ref (d j)])
theorem Fx.keep {a:Addr} {nl ol ys ks:Addr} {y r d:Nat->Addr} {G G':Hp} (h:Fx K a ns nl ol ys ks y r d G) (s:Same G G'):Fx K a ns nl ol ys ks y r d G':=by
 obtain⟨xs,h1,h2⟩:=h.nm;obtain⟨zs,h3,h4⟩:=h.ol;obtain⟨k,h5,h6⟩:=h.ks;exact⟨s.seq h.sc,⟨xs,s _ _ h1,h2⟩,⟨zs,s _ _ h3,h4⟩,s _ _ h.ys,⟨k,s _ _ h5,fun j hj=>s _ _ (h6 j hj)⟩⟩
structure Tw (Y:Addr) (i:Nat) (M:List Addr) (H:Hp) (y p r d:Nat->Addr) (st:Nat->Rws) (past:Nat->List Rws) (dn:Nat->List Mark):Prop where
 bt:∀j<2,Bth Y M H (y j) (p j) (r j) (d j) (st j) (past j) (dn j)
 ne:∀j<2,∀j'<2,j≠j'->∀b∈[y j,p j,r j,d j],b∉[y j',p j',r j',d j']
 lp:∀j<2,(past j).length<=i
theorem Tw.keep {y p r d:Nat->Addr} {st:Nat->Rws} {past:Nat->List Rws} {dn:Nat->List Mark} (h:Tw Y i M H y p r d st past dn) (s:Same H H'):Tw Y i M H' y p r d st past dn:=⟨fun j hj=>(h.bt j hj).keep s,h.ne,h.lp⟩
theorem Tw.more {l:Addr} {y p r d:Nat->Addr} {st:Nat->Rws} {past:Nat->List Rws} {dn:Nat->List Mark} (h:Tw Y i M H y p r d st past dn) (s:Same H H') (hl:H l=none) (ml:Mut H' l):Tw Y i (l::M) H' y p r d st past dn:=⟨fun j hj=>(h.bt j hj).more s hl ml,h.ne,h.lp⟩
theorem Tw.off {y p r d:Nat->Addr} {st:Nat->Rws} {past:Nat->List Rws} {dn:Nat->List Mark} (h:Tw Y i M H y p r d st past dn) (s:SX S H H') (hS:∀a∈S,a∈M) (mu:∀m∈M,Mut H' m) (n:∀j<2,∀b∈[y j,p j,r j,d j],b∉S):Tw Y i M H' y p r d st past dn:=⟨fun j hj=>(h.bt j hj).off s hS mu (n j hj),h.ne,h.lp⟩
def upF {α:Type} (f:Nat->α) (i:Nat) (x:α):Nat->α:=fun j=>if j=i then x else f j
theorem jd6 {α:Type} {f:Nat->α} {x:α}:upF f i x i=x:=if_pos rfl
theorem jhi {α:Type} {f:Nat->α} {j:Nat} {x:α} (h:j≠i):upF f i x j=f j:=if_neg h
theorem Tw.one {k:Nat} {y p r d:Nat->Addr} {st:Nat->Rws} {past:Nat->List Rws} {dn:Nat->List Mark} {st':Rws} {past':List Rws} {dn':List Mark} (h:Tw Y i M H y p r d st past dn) (hk:k<2) (s:SX [y k,p k,r k,d k] H H') (b:Bth Y M H' (y k) (p k) (r k) (d k) st' past' dn') (l:past'.length<=i+1):Tw Y (i+1) M H' y p r d (upF st k st') (upF past k past') (upF dn k dn'):=by
 refine⟨fun j hj=>?_,h.ne,fun j hj=>?_⟩
 ·by_cases c:j=k
  ·subst c;rw[jd6,jd6,jd6];exact b
  ·rw[jhi c,jhi c,jhi c];exact (h.bt j hj).off s (h.bt k hk).mem b.yd.mu (h.ne j hj k hk c)
 ·by_cases c:j=k
  ·subst c;rw[jd6];exact l
  ·rw[jhi c];exact Nat.le_succ_of_le (h.lp j hj)
def Dd (M:List Addr) (H:Hp) (d:Addr):Prop:=(∃(x:Str) (l:Addr) (rs:List Addr) (ps:List Pt) (fo:V),rm M H d=some (.tup [.str "put",.str x,.ref l,fo,.bl (!nm x)])/\Cor (rm M H) l rs ps/\FoAt (rm M H) fo ps/\Lo x/\x.cps.size<=900)\/∃x:Str,rm M H d=some (.tup [.str "drop",.str x])
def Hdd (M:List Addr) (H:Hp) (d' h:Addr) (y p r d:Nat->Addr):Prop:=(∃x,rm M H d'=some (.tup [.str "drop",x])/\h=d')\/∃(x fo b:V) (l l':Addr) (rs:List Addr) (ps:List Pt),rm M H d'=some (.tup [.str "put",x,.ref l,fo,b])/\rm M H h=some (.tup [.str "put",x,.ref l',fo,b])/\Cor (rm M H) l rs ps/\H l'=some (.lst (rs.map V.ref))/\l'∈M/\∀j<2,l'∉[y j,p j,r j,d j]
def lw4:L2.St->Hp->L2.St->Hp->Prop:=fun σ H σ' H'=>Same H H'/\σ'=σ
theorem jnm (ps:List Pt):SeqAt.shaped (.list (ps.map fun p=>PyData.tuple [.int p.x,.int p.y,.int p.z,.int p.w]))=true/\PyData.eqv (.list (ps.map fun p=>PyData.tuple [.int p.x,.int p.y,.int p.z,.int p.w])) (.list (ps.map fun p=>PyData.tuple [.int p.x,.int p.y,.int p.z,.int p.w]))=true:=by
 obtain⟨c,d⟩:=jeL ps;unfold boD at c d;rw[PyData.canLay0] at c;rw[PyData.depth] at d;have c':PyData.canLay0 (.list (ps.map fun p=>PyData.tuple [.int p.x,.int p.y,.int p.z,.int p.w]))=true:=by rw[PyData.canLay0,c]
 refine⟨?_,SeqAt.eqv_refl _ c'⟩;unfold SeqAt.shaped;rw[c',PyData.depth,decide_eq_true (by omega)];rfl
def lwA (K:PySem.W.Frag) (Y a:Addr) (ns:List Int):L2.St->Hp->Prop:=fun σ H=>∃(nl ol ys ks:Addr) (y p r d:Nat->Addr) (M:List Addr),σ=[some (.ref a),some (.ref nl),some (.ref ol),some (.ref ys),some (.ref ks),none,none,none,none,none,none]/\Fx K a ns nl ol ys ks y r d (rm M H)/\Tw Y 0 M H y p r d (fun _=>[]) (fun _=>[]) (fun _=>[])
def lw1:L2.St->Hp->L2.St->Hp->Prop:=fun σ H σ' H'=>Same H H'/\(σ'=σ\/∃(d:Addr) (x:Str),σ'=σ.set 8 (some (.ref d))/\H' d=some (.tup [.str "drop",.str x]))
def lw2:L2.St->Hp->L2.St->Hp->Prop:=fun σ H σ' H'=>Same H H'/\∃d,σ[8]?=some (some (.ref d))/\((∃x,H d=some (.tup [.str "drop",x])/\σ'=σ)\/∃(x fo b:V) (l h l':Addr) (rs:List V),H d=some (.tup [.str "put",x,.ref l,fo,b])/\H l=some (.lst rs)/\H l'=none/\σ'=σ.set 9 (some (.ref h))/\H' h=some (.tup [.str "put",x,.ref l',fo,b])/\H' l'=some (.lst rs))
def lw3:L2.St->Hp->L2.St->Hp->Prop:=fun σ H σ' H'=>σ'=σ/\∃h,σ[9]?=some (some (.ref h))/\(((∃x,H h=some (.tup [.str "drop",x]))/\H'=H)\/∃(x fo b:V) (l':Addr) (zs:List V),H h=some (.tup [.str "put",x,.ref l',fo,b])/\SX [l'] H H'/\H' l'=some (.lst zs))
theorem jnn {e:Addr} {ed:FuncData} (T:Tyd K mg t1 t2 cs SE Y) (F:FunD K "law" "law" jfp e ed .none) (dZ:jaz P w K mg base CX0 1 "_law_names" ["number"] [] jmQ) (df:jaz P w K mg base CX0 1 "_law_number" ["script","k"] [] (jg2 K)) (di:jaz P w K mg base CX0 1 "_law_bad_name" ["number","name"] [] jiR) (dA:jaW P w K mg base CX0 1 Y "__init__" ["self"] (jiL Y)) (Dj:jaz P w K mg base CX0 4 "_law_put" ["names","number","more"] [] jkt) (Da:jaz P w K mg base CX0 9 "_law_right" ["yard","rows","done","deed"] [] (ji4 Y)) (dD:jaz P w K mg base CX0 4 "_law_places" ["yard","rows","names"] [] (jky K Y)) (dP:jaz P w K mg base CX0 2 "_law_stands" ["yard","rows","done"] [] (jnk Y)) (de:jaW P w K mg base CX0 1 Y "names" ["self"] (jeE Y)) (dm:jaW P w K mg base CX0 1 Y "boards" ["self"] (jft Y)) (dq:jaW P w K mg base CX0 1 Y "deeds" ["self"] (jgu Y)):FnOk P w K mg base CX0 10 e ed ["script"] (jjx K):=by
 refine F.ok jkf (fun vs H Q E h=>?_) (fun cdv A outer s H vs Q E hr h=>?_)
 ·obtain⟨a,ns,rfl,_⟩:=h;rfl
 obtain⟨a,ns,rfl,hS,h63,q⟩:=h;have S:=jkf;refine⟨_,(jac (jal (i:=1) S.nd rfl (Or.inl rfl) (jaj dZ hr.m rfl jaF (jaa (jaj df hr.m rfl jaF (jaa (pv 0) (jaa jab jad jan) jaf)) jad jaO)))
  (jac (jal (i:=2) S.nd rfl (Or.inl rfl) (jah jb1 (pv 1) (jaU (jaa jaY (jaa (jaj di hr.m rfl jaF (jaa (jah jax (jaj df hr.m rfl jaF (jaa (pv 0) (jaa jab jad jan) jaf)) jab) (jaa (jai jak (pv 1) jab) jad jaA) jaR)) jad jaO) jan))))
  (jac (jal (i:=3) S.nd rfl (Or.inl rfl) (jaU (jaa (jf3 dA T.mkY T.kpY hr.m rfl T.m_Yard jaF) (jaa (jf3 dA T.mkY T.kpY hr.m rfl T.m_Yard jaF) jad jaO) jaO)))
  (jbb (lwA K Y a ns) (jal (i:=4) S.nd rfl (Or.inl rfl) (jaU (jaa (jbc (jaa (jaU jad) (jaa (jaU jad) jad je0) je0)) (jaa (jbc (jaa (jaU jad) (jaa (jaU jad) jad je0) je0)) jad jaZ) jaZ)))
  (jac (jbA PassesOwn.never rfl (jaI rfl T.m_range (jaa (jat (jfJ rfl) rfl T.m_max boot_max (jaa jab (jaa (jat (jfK rfl) rfl T.m_min boot_min (jaa jab (jaa (jat jaB rfl T.m_len PySem.boot_len (jaa (pv 0) jad jaf)) jad jaO) jan)) jad jaO) jan)) jad jaO)) (jaw (i:=5) S.nd rfl (Or.inl rfl))
  (jac (jal (i:=6) S.nd rfl (Or.inl rfl) (jaj df hr.m rfl jaF (jaa (pv 0) (jaa (jah jbf (jah jay jab (pv 5)) jab) jad jaR) jaf)))
  (jac (jal (i:=7) S.nd rfl (Or.inl rfl) (jah jaE (pv 6) jab))
  (jac (jal (i:=8) S.nd rfl (Or.inl rfl) (jaj Dj hr.m rfl jaF (jaa (pv 1) (jaa (jah jax (pv 6) jab) (jaa (jaj df hr.m rfl jaF (jaa (pv 0) (jaa (jah jbf (jah jay jab (pv 5)) jab) jad jaR) jaf)) jad jaO) jaR) jaf)))
  (jdm lw1 (jaK (jam jbd (jah jaE (jah jax (pv 6) jab) jab) jab (jas _))
  (jae (jal (i:=8) S.nd rfl (Or.inl rfl) (jbc (jaa jaY (jaa (jai jak (pv 1) (jah jaE (jah jax (pv 6) jab) jab)) jad jaA) jan))))
  jap)
  (jac (jal (i:=9) S.nd rfl (Or.inl rfl) (pv 8))
  (jdm lw2 (jaK (jam jbd (jai jav (pv 8) jab) jaY (jas _))
  (jae (jal (i:=9) S.nd rfl (Or.inl rfl) (jbc (jaa (jai jav (pv 8) jab) (jaa (jai jav (pv 8) jab) (jaa (jbp jcx rfl T.m_list boot_list (jaa (jai jav (pv 8) jab) jad jaA)) (jaa (jai jav (pv 8) jab) (jaa (jai jav (pv 8) jab) jad jaA) jaA) jaO) jaA) jaA))))
  jap)
  (jac (jaK (jcm (jbz (jaj Da hr.m rfl jaF (jaa (jai jak (pv 3) (pv 7)) (jaa (jai jav (jai jak (pv 4) (pv 7)) jab) (jaa (jai jav (jai jak (pv 4) (pv 7)) jab) (jaa (pv 9) jad jaf) jaA) jaA) jaA))))
  (jae (jao jby))
  jap)
  (jdm lw3 (jaK (jam jbd (jai jav (pv 8) jab) jaY (jas _))
  (jac (jaK (jam (jdV (jhw hr)) (jai jav (pv 9) jab) (jai jav (pv 8) jab) (jas _))
  (jae (jao jby))
  jap)
  (jae (jbo (jfO PySem.F.plainAttrs_list PySem.F.slot_list_clear PySem.F.type_list_clear jgH (jai jav (pv 9) jab)))))
  jap)
  (jae (jbA PassesOwn.never rfl (jaI rfl T.m_range (jaa jab jad jan)) (jaw (i:=10) S.nd rfl (Or.inl rfl))
  (jdm lw4 (jaK (PW.pt (jdk (jam jbd (jah jaE (jah jax (pv 6) (jah jeW jab jab)) jab) jab (jas _)) (jc7 (jcm (jbz (jaj dD hr.m rfl jaF (jaa (jai jak (pv 3) (pv 10)) (jaa (jai jav (jai jak (pv 4) (pv 10)) jab) (jaa (pv 2) jad jaf) jaA) jaA)))))))
  (jae (jao jby))
  jap)
  (jdm lw4 (jaK (PW.pt (jdk (jam jbd (jah jaE (jah jax (pv 6) (jah jeW jab jab)) jab) jab (jas _)) (jc7 (jam jeO (jbx dq (jai jak (pv 3) (pv 10)) T.cl hr.m jaF) (jat jaB rfl T.m_len PySem.boot_len (jaa (jai jav (jai jak (pv 4) (pv 10)) jab) jad jaA)) (jas _)))))
  (jae (jao jby))
  jap)
  (jac (jaK (PW.pt (jeN (jcm (jbz (jaj dP hr.m rfl jaF (jaa (jai jak (pv 3) (pv 10)) (jaa (jai jav (jai jak (pv 4) (pv 10)) jab) (jaa (jai jav (jai jak (pv 4) (pv 10)) jab) jad jaA) jaA) jaA)))) (jdS (jcm (jbz (jaj dD hr.m rfl jaF (jaa (jai jak (pv 3) (pv 10)) (jaa (jai jav (jai jak (pv 4) (pv 10)) jab) (jaa (pv 2) jad jaf) jaA) jaA)))))))
  (jae (jao jby))
  jap)
  (jac (jbo (jdb PySem.F.plainAttrs_list PySem.F.slot_list_append PySem.F.type_list_append jbr (jbx de (jai jak (pv 3) (pv 10)) T.cl hr.m jaF) (jaa jaY jad jan)))
  (jae (jbo (jfO PySem.F.plainAttrs_list PySem.F.slot_list_clear PySem.F.type_list_clear jgH (jbx dm (jai jak (pv 3) (pv 10)) T.cl hr.m jaF)))))))))))))))))))
  (jae (jao jby))))))),?_⟩
 walk_at "rf";refine⟨a,ns,0,rfl,hS,h63,by decide,by decide,fun n0 H1 s1 m0 _=>⟨n0,rfl,m0,fun nl xs H2 nn s2 e2 lx hx=>?_⟩⟩;have x1:1<xs.length:=by omega
 have fx1:(xs.map V.str)[1]?=some (.str xs[1]):=by rw[xai,xab x1];rfl
 refine⟨a,ns,0,rfl,(s1.trans s2).seq hS,h63,by decide,by decide,fun n1 H3 s3 m1 _=>⟨n1,rfl,by decide,.o (by decide) (by decide),ixL (SqL.of (s3 _ _ e2)) (jaM (j:=1) fx1) ⟨_,_,rfl,xaH m1 (by decide),hx _ (xbb x1),fun bn lo b9 _=>⟨by show 2<=sizeLine;decide,fun p1 hp1=>ja9 hp1 fun J1 j1 k1=>?_⟩⟩⟩⟩;refine⟨nl,p1,_,_,rfl,rfl,j1 _ _ (s3 _ _ e2),k1,by rw[xaa,lx];exact xaI (jaL (by show 8+2<1000;decide)),fun ol ho=>ja9 ho fun J2 j2 k2=>?_⟩;have k2':J2 ol=some (.lst ((xs++[Str.ofString "",bn]).map V.str)):=by rw[k2,xah];rfl
 have lz:(xs++[Str.ofString "",bn]).length<=20:=by rw[xaf,lx];show 8+2<=20;decide
 have s4:=s3.trans (j1.trans j2);generalize xs++[Str.ofString "",bn]=zs at k2' lz;have hS2:=(s1.trans (s2.trans s4)).seq hS;have e2':=s4 _ _ e2;clear k2 k1 j1 j2 s3 s4 e2 fx1 x1 hS s1 s2;refine fun x dx nx ndx ne=>⟨x,dx,rfl,upd_same,fun sL pL H4 n1 n2 n3 sx e1 e3 e4=>⟨rfl,?_⟩⟩;obtain⟨Yd,s4,pn,xp⟩:=jhh (M:=[]) (fun _ z=>nomatch z) nx ndx ne n1 n2 n3 sx e1 e3 e4;clear n1 n2 n3 sx e1 e3 e4;refine fun x' dx' nx' ndx' ne'=>⟨x',dx',rfl,upd_same,fun sL' pL' H5 n1 n2 n3 sx e1 e3 e4=>⟨rfl,?_⟩⟩;obtain⟨Yd',s5,pn',xp'⟩:=jhh (M:=[x,pL]++[]) Yd.mu nx' ndx' ne' n1 n2 n3 sx e1 e3 e4;clear n1 n2 n3 sx e1 e3 e4;refine⟨by show 2<=sizeLine;decide,fun ys hys=>ja9 hys fun G0 g0 k0=>⟨by decide,fun r0 hr0=>ja9 hr0 fun G1 g1 k1=>⟨by decide,fun d0 hd0=>ja9 hd0 fun G2 g2 k2=>⟨by show 2<=sizeLine;decide,fun t0 ht0=>ja9 ht0 fun G3 g3 k3=>⟨by decide,fun r1 hr1=>ja9 hr1 fun G4 g4 k4=>⟨by decide,fun d1 hd1=>ja9 hd1 fun G5 g5 k5=>⟨by show 2<=sizeLine;decide,fun tt htt=>ja9 htt fun G6 g6 k6=>⟨by show 2<=sizeLine;decide,fun ks hks=>ja9 hks fun G7 g7 k7=>?_⟩⟩⟩⟩⟩⟩,?_⟩⟩;rotate_left
 ·have s07:Same H5 G7:=g0.trans (g1.trans (g2.trans (g3.trans (g4.trans (g5.trans (g6.trans g7))))));have nr0:=g0.noneN hr0;have nd0:=g0.noneN (g1.noneN hd0);have nr1:=g0.noneN (g1.noneN (g2.noneN (g3.noneN hr1)));have nd1:=g0.noneN (g1.noneN (g2.noneN (g3.noneN (g4.noneN hd1))));have er0:G7 r0=some (.lst []):=g7 _ _ (g6 _ _ (g5 _ _ (g4 _ _ (g3 _ _ (g2 _ _ k1)))));have ed0:G7 d0=some (.lst []):=g7 _ _ (g6 _ _ (g5 _ _ (g4 _ _ (g3 _ _ k2))));have er1:G7 r1=some (.lst []):=g7 _ _ (g6 _ _ (g5 _ _ k4));have ed1:G7 d1=some (.lst []):=g7 _ _ (g6 _ _ k5);have q01:r0≠d0:=jau k1 hd0;have q02:r0≠r1:=jau (g3 _ _ (g2 _ _ k1)) hr1;have q03:r0≠d1:=jau (g4 _ _ (g3 _ _ (g2 _ _ k1))) hd1;have q12:d0≠r1:=jau (g3 _ _ k2) hr1;have q13:d0≠d1:=jau (g4 _ _ (g3 _ _ k2)) hd1;have q23:r1≠d1:=jau k4 hd1;have hN2:∀m∈[x',pL'],H4 m=none:=fun m hm=>by
   simp only[xad,xae,or_false] at hm;rcases hm with rfl | rfl
   ·exact nx'
   ·exact pn'
  have Y5:YardAt Y ([x',pL']++([x,pL]++[])) H5 x pL [] []:=Yd.grow s5 hN2 fun m hm=>Yd'.mu m (xbg _ hm);have hN4:∀m∈[r0,d0,r1,d1],H5 m=none:=fun m hm=>by
   simp only[xad,xae,or_false] at hm;rcases hm with rfl | rfl | rfl | rfl
   ·exact nr0
   ·exact nd0
   ·exact nr1
   ·exact nd1
  have mu4:∀m∈[r0,d0,r1,d1],Mut G7 m:=fun m hm=>by
   simp only[xad,xae,or_false] at hm;rcases hm with rfl | rfl | rfl | rfl
   ·exact Mut.ls er0
   ·exact Mut.ls ed0
   ·exact Mut.ls er1
   ·exact Mut.ls ed1
  have Ya:=Y5.grow s07 hN4 mu4;have Yb:=Yd'.grow s07 hN4 mu4;have n5:∀{m b:Addr},H5 m≠none->H5 b=none->m≠b:=fun h1 h2 z=>h1 (by rw[z];exact h2);have ax:=Y5.al x Y5.yM;have ap:=Y5.al pL Y5.pM;have bx:=Yd'.al x' Yd'.yM;have bp:=Yd'.al pL' Yd'.pM;have n4:∀{m b:Addr},H4 m≠none->H4 b=none->m≠b:=fun h1 h2 z=>h1 (by rw[z];exact h2);have cx:=Yd.al x Yd.yM;have cp:=Yd.al pL Yd.pM;have B0:Bth Y ([r0,d0,r1,d1]++([x',pL']++([x,pL]++[]))) G7 x pL r0 d0 [] [] []:=⟨Ya,⟨by simp,by simp,Ya.mu,q01,[],[],er0,ed0,.nil,.nil⟩,.nil,by decide,(fun _ z=>nomatch z),by simp only[xad,xae,or_false,not_or];exact⟨n5 ax nr0,n5 ax nd0⟩,by simp only[xad,xae,or_false,not_or];exact⟨n5 ap nr0,n5 ap nd0⟩⟩;have B1:Bth Y ([r0,d0,r1,d1]++([x',pL']++([x,pL]++[]))) G7 x' pL' r1 d1 [] [] []:=⟨Yb,⟨by simp,by simp,Ya.mu,q23,[],[],er1,ed1,.nil,.nil⟩,.nil,by decide,(fun _ z=>nomatch z),by simp only[xad,xae,or_false,not_or];exact⟨n5 bx nr1,n5 bx nd1⟩,by simp only[xad,xae,or_false,not_or];exact⟨n5 bp nr1,n5 bp nd1⟩⟩;have hd:∀b∈[x,pL,r0,d0],b∉[x',pL',r1,d1]:=fun b hb=>by
   simp only[xad,xae,or_false] at hb;simp only[xad,xae,or_false,not_or];rcases hb with rfl | rfl | rfl | rfl
   ·exact⟨n4 cx nx',n4 cx pn',n5 ax nr1,n5 ax nd1⟩
   ·exact⟨n4 cp nx',n4 cp pn',n5 ap nr1,n5 ap nd1⟩
   ·exact⟨Ne.symm (n5 bx nr0),Ne.symm (n5 bp nr0),q02,q03⟩
   ·exact⟨Ne.symm (n5 bx nd0),Ne.symm (n5 bp nd0),q12,q13⟩
  have b2:Same J2 (rm ([r0,d0,r1,d1]++([x',pL']++([x,pL]++[]))) G7):=by
   have u1:Same J2 (rm ([x,pL]++[]) H4):=fun b o hb=>jcs (s4 _ _ hb) fun z=>by
    rw[xbp] at z;simp only[xad,xae,or_false] at z;rcases z with rfl | rfl
    ·rw[nx] at hb;cases hb
    ·rw[pn] at hb;cases hb
   exact u1.trans ((jdQ hN2 s5).trans (jdQ hN4 s07))
  have out:∀{b:Addr} {o:HO},G7 b=some o->H5 b=none->b∉[r0,d0,r1,d1]->rm ([r0,d0,r1,d1]++([x',pL']++([x,pL]++[]))) G7 b=some o:=fun h1 h2 h3=>jcs h1 fun z=>by
   rcases xax.mp z with z | z
   ·exact h3 z
   ·exact Yd'.al _ z h2
  have kt0:=g7 _ _ (g6 _ _ (g5 _ _ (g4 _ _ k3)));have kt1:=g7 _ _ k6;refine⟨nl,ol,ys,ks,fun j=>if j=0 then x else x',fun j=>if j=0 then pL else pL',fun j=>if j=0 then r0 else r1,fun j=>if j=0 then d0 else d1,_,rfl,⟨b2.seq hS2,⟨xs,b2 _ _ e2',lx,hx⟩,⟨zs,b2 _ _ k2',lz⟩,?_,fun j=>if j=0 then t0 else tt,?_,?_⟩,?_,?_,fun _ _=>xaj _⟩
  ·refine out (g7 _ _ (g6 _ _ (g5 _ _ (g4 _ _ (g3 _ _ (g2 _ _ (g1 _ _ k0))))))) hys ?_;simp only[xad,xae,or_false,not_or];exact⟨jau k0 hr0,jau (g1 _ _ k0) hd0,jau (g3 _ _ (g2 _ _ (g1 _ _ k0))) hr1,jau (g4 _ _ (g3 _ _ (g2 _ _ (g1 _ _ k0)))) hd1⟩
  ·refine out k7 (g0.noneN (g1.noneN (g2.noneN (g3.noneN (g4.noneN (g5.noneN (g6.noneN hks))))))) ?_;simp only[xad,xae,or_false,not_or];have nn:∀{b:Addr} {o:HO},G6 b=some o->ks≠b:=fun h z=>by rw[z,h] at hks;cases hks
   exact⟨nn (g6 _ _ (g5 _ _ (g4 _ _ (g3 _ _ (g2 _ _ k1))))),nn (g6 _ _ (g5 _ _ (g4 _ _ (g3 _ _ k2)))),nn (g6 _ _ (g5 _ _ k4)),nn (g6 _ _ k5)⟩
  ·intro j hj;have:j=0\/j=1:=by omega
   rcases this with rfl | rfl
   ·exact jb3 Ya.mu kt0
   ·exact jb3 Ya.mu kt1
  ·intro j hj;have:j=0\/j=1:=by omega
   rcases this with rfl | rfl
   ·exact B0
   ·exact B1
  ·intro j hj j' hj' c;have:(j=0/\j'=1)\/(j=1/\j'=0):=by omega
   rcases this with ⟨rfl,rfl⟩ | ⟨rfl,rfl⟩
   ·exact hd
   ·exact fun b h1 h2=>hd b h2 h1
 clear Yd Yd' s4 s5 pn pn' xp xp' nx nx' ndx ndx' ne ne' hS2 e2' k2' lz lx hx hys k0 g0;rintro σ H6 ⟨nl,ol,ys,ks,y,p,r,d,M,rfl,hF,hT⟩;walk_at "rf";have lns:(ns.map V.int).length=ns.length:=xaa _;refine⟨_,.inl ((jbB _ _).seq hF.sc),?_⟩;rw[lns];obtain⟨m,em,m63⟩:∃m:Nat,(if (if ((ns.length:Nat):Int)<24 then ((ns.length:Nat):Int) else 24)>8 then (if ((ns.length:Nat):Int)<24 then ((ns.length:Nat):Int) else 24) else 8)=(m:Int)/\m<=63:=by
  by_cases c:((ns.length:Nat):Int)<24
  ·simp only[if_pos c];by_cases c2:((ns.length:Nat):Int)>8
   ·exact⟨ns.length,by rw[if_pos c2],by omega⟩
   ·exact⟨8,by rw[if_neg c2];rfl,by omega⟩
  ·simp only[if_neg c];exact⟨24,rfl,by omega⟩
 rw[em];refine⟨by omega,by omega,?_⟩;rw[xbe];refine jbe (lo:=0) (n:=m) (fun i σ H5=>∃(o5 o6 o7 o8 o9 o10:Option V) (M:List Addr) (st:Nat->Rws) (past:Nat->List Rws) (dn:Nat->List Mark),σ=[some (.ref a),some (.ref nl),some (.ref ol),some (.ref ys),some (.ref ks),o5,o6,o7,o8,o9,o10]/\Fx K a ns nl ol ys ks y r d (rm M H5)/\Tw Y i M H5 y p r d st past dn) ⟨_,_,_,_,_,_,M,_,_,_,rfl,hF,hT⟩ ?_ ?_;rotate_left
 ·rintro σ H5 ⟨o5,o6,o7,o8,o9,o10,M,st,past,dn,rfl,_⟩;exact q _
 clear hF hT M;rintro i σ H7 hi ⟨o5,o6,o7,o8,o9,o10,M,st,past,dn,rfl,hF,hT⟩;obtain⟨xs,hn,lx,hx⟩:=hF.nm;have mu:∀m∈M,Mut H7 m:=(hT.bt 0 (by decide)).yd.mu;walk_at "rf";refine⟨.o (by decide) (by decide),.o (by omega) (by omega),a,ns,_,rfl,(jbB _ _).seq hF.sc,h63,by omega,by omega,fun n H8 s8 n0 _=>⟨n,rfl,by decide,n,rfl,by decide,.o (by decide) (by decide),.o (by decide) (by decide),.o (by omega) (by omega),a,ns,_,rfl,((jbB _ _).trans s8).seq hF.sc,h63,by omega,by omega,fun m' H9 s9 m0 _=>?_⟩⟩;have s79:=s8.trans s9;have hn9:=s79 _ _ (jaD hn).1;refine⟨M,nl,xs,_,m',rfl,(fun z hz=>(mu z hz).keep s79),hn9,lx,hx,xaH n0 (by decide),m0,fun dd x l rs ps fo H10 s10 hd hc hf lo x9=>⟨?_,?_⟩⟩
 ·walk_at "rf";obtain⟨k,ek⟩:∃k:Nat,n / 8 % 8=(k:Int):=⟨(n / 8 % 8).toNat,by have:=xaq (n / 8) (show (8:Int)≠0 by decide);omega⟩;have k8:k<xs.length:=by have:=xam (n / 8) (show (0:Int)<8 by decide);omega
  have fx:(xs.map V.str)[k]?=some (.str xs[k]):=by rw[xai,xab k8];rfl
  refine⟨by decide,.o (by decide) (by decide),by decide,jb2 (fun c=>?_) fun c=>?_⟩
  ·refine⟨by decide,.o (by decide) (by decide),by decide,?_⟩;rw[ek];exact ixL (SqL.of (s10 _ _ hn9)) (jaM fx) ⟨by show 2<=sizeLine;decide,fun b nb=>⟨Same.new nb _,.inr ⟨b,_,rfl,upd_same⟩⟩⟩
  ·exact⟨Same.refl _,.inl rfl⟩
 rintro σ' H11 ⟨s11,h11⟩;have s711:=s79.trans (s10.trans s11);have T11:=hT.keep s711;have F11:=hF.keep (jaX s711);have mu11:∀z∈M,Mut H11 z:=(T11.bt 0 (by decide)).yd.mu;obtain⟨d',rfl,hD⟩:∃d',σ'=[some (.ref a),some (.ref nl),some (.ref ol),some (.ref ys),some (.ref ks),some (.int (0+(i:Int))),some (.int n),some (.int (n % 2)),some (.ref d'),o9,o10]/\Dd M H11 d':=by
  rcases h11 with rfl | ⟨d',x',rfl,e'⟩
  ·exact⟨dd,rfl,.inl ⟨x,l,rs,ps,fo,jaX s11 _ _ hd,hc.keep (jaX s11),hf.keep (jaX s11),lo,x9⟩⟩
  ·exact⟨d',rfl,.inr ⟨x',jb3 mu11 e'⟩⟩
 clear h11 hd hc hf lo x9 hT hF hn hn9 mu s711 s10 s11 s79 s8 s9;refine⟨_,rfl,?_,?_⟩
 ·rcases hD with ⟨x,l,rs,ps,fo,e1,c1,f1,lo,x9⟩ | ⟨x,e1⟩
  ·have qd:=SqT.of (K:=K) (jaD e1).1;walk_at "rf";refine ixT qd (i:=0) rfl ⟨rfl,?_⟩;rw[if_pos rfl];refine ixT qd (i:=0) rfl (ixT qd (i:=1) rfl (ixT qd (i:=2) rfl ⟨l,rfl,_,.inl (SqL.of (jaD c1.1).1),fun l' nl'=>ja9 nl' fun J1 j1 k1=>ixT (j1.tup qd) (i:=3) rfl (ixT (j1.tup qd) (i:=4) rfl ⟨by show 5<=sizeLine;decide,fun h hh=>ja9 hh fun J2 j2 k2=>?_⟩)⟩));exact⟨j1.trans j2,d',rfl,.inr ⟨_,_,_,l,h,l',_,(jaD e1).1,(jaD c1.1).1,nl',rfl,k2,j2 _ _ k1⟩⟩
  ·have qd:=SqT.of (K:=K) (jaD e1).1;walk_at "rf";refine ixT qd (i:=0) rfl ⟨rfl,?_⟩;rw[if_neg (by intro z;exact absurd (V.str.inj z) (by decide +kernel))];exact⟨Same.refl _,d',rfl,.inl ⟨_,(jaD e1).1,rfl⟩⟩
 rintro σ' H12 ⟨s12,d2,hd2,h12⟩;cases hd2;obtain⟨h,D,M2,rfl,T2,F2,hDd,hH⟩:∃(h:Addr) (D:Deed) (M2:List Addr),σ'=[some (.ref a),some (.ref nl),some (.ref ol),some (.ref ys),some (.ref ks),some (.int (0+(i:Int))),some (.int n),some (.int (n % 2)),some (.ref d'),some (.ref h),o10]/\Tw Y i M2 H12 y p r d st past dn/\Fx K a ns nl ol ys ks y r d (rm M2 H12)/\(∀j<2,DeedAt [r j,d j] M2 H12 h D)/\Hdd M2 H12 d' h y p r d:=by
  rcases hD with ⟨x,l,rs,ps,fo,e1,c1,f1,lo,x9⟩ | ⟨x,e1⟩
  ·rcases h12 with ⟨x2,e2,_⟩ | ⟨x2,fo2,b2,l2,h,l',rs2,e2,e3,nl',rfl,e4,e5⟩
   ·have:=(jaD e1).1.symm.trans e2;exact absurd (V.str.inj (List.cons.inj (HO.tup.inj (Option.some.inj this))).1) (by decide +kernel)
   ·have u:=(jaD e1).1.symm.trans e2;cases u;have v:=(jaD c1.1).1.symm.trans e3;cases v;have hN:∀m∈[l'],H11 m=none:=fun m hm=>by rw[xay.mp hm];exact nl'
    have g12:Same (rm M H11) (rm (l'::M) H12):=jdQ hN s12;have T2:=T11.more s12 nl' (Mut.ls e5);have mu2:=(T2.bt 0 (by decide)).yd.mu;have nn:∀j<2,l'∉[y j,p j,r j,d j]:=fun j hj z=>(mu11 l' ((T11.bt j hj).mem l' z)).nn nl';have hg:∃g:Bool,g=true↔GoodB ps:=by
     by_cases c:GoodB ps
     ·exact⟨true,⟨fun _=>c,fun _=>rfl⟩⟩
     ·exact⟨false,⟨fun z=>(nomatch z),fun z=>absurd z c⟩⟩
    obtain⟨g,hg⟩:=hg;have eh:=jb3 mu2 e4;refine⟨h,.put x ps g,l'::M,rfl,T2,F11.keep g12,fun j hj=>⟨⟨l',rs,fo,eh,fun z=>nn j hj (.tail _ (.tail _ z)),⟨e5,c1.2.keep (g12.trans (jbB _ _)).t⟩,f1.keep g12⟩,hg,lo,x9⟩,.inr ⟨_,_,_,l,l',rs,ps,g12 _ _ e1,eh,c1.keep g12,e5,.head _,nn⟩⟩
  ·rcases h12 with ⟨x2,e2,rfl⟩ | ⟨x2,fo2,b2,l2,h,l',rs2,e2,_⟩
   ·have g12:=jaX (M:=M) s12;exact⟨d',.drop x,M,rfl,T11.keep s12,F11.keep g12,fun j hj=>g12 _ _ e1,.inl ⟨_,g12 _ _ e1,rfl⟩⟩
   ·have:=(jaD e1).1.symm.trans e2;exact absurd (V.str.inj (List.cons.inj (HO.tup.inj (Option.some.inj this))).1) (by decide +kernel)
 clear h12 hD T11 F11 mu11 s12;obtain⟨k,ek⟩:∃k:Nat,n % 2=(k:Int):=⟨(n % 2).toNat,by have:=xaq n (show (2:Int)≠0 by decide);omega⟩;have hk:k<2:=by have:=xam n (show (0:Int)<2 by decide);omega
 obtain⟨kk,hks,hkk⟩:=F2.ks;have two:∀(f:Nat->Addr) (j:Nat),j<2->[V.ref (f 0),V.ref (f 1)][j]?=some (.ref (f j)):=fun f j hj=>by
  have:j=0\/j=1:=by omega
  rcases this with rfl | rfl<;>rfl
 have qy:=SqL.of (K:=K) (jaD F2.ys).1;have qk:=SqL.of (K:=K) (jaD hks).1;have qt:=SqT.of (K:=K) (jaD (hkk k hk)).1;walk_at "rf";rw[ek];refine ixL qy (jaM (two y k hk)) (ixL qk (jaM (two kk k hk)) (ixT qt (i:=0) rfl (ixL qk (jaM (two kk k hk)) (ixT qt (i:=1) rfl ⟨M2,y k,p k,r k,d k,h,st k,past k,dn k,D,rfl,T2.bt k hk,hDd k hk,by have:=T2.lp k hk;omega,fun dn' H13 s13 B13=>⟨_,rfl,?_⟩⟩))));rw[if_neg (by decide)];have lp':=(jkw (D:=D) (T2.bt k hk).l6 (T2.bt k hk).p6).2.2;have T13:=T2.one hk s13 B13 (by have:=T2.lp k hk;omega);have g13:=s13.rm (T2.bt k hk).mem;have F13:=F2.keep g13;have hH13:Hdd M2 H13 d' h y p r d:=by
  rcases hH with ⟨x,e1,e2⟩ | ⟨x,fo,b,l,l',rs,ps,e1,e2,e3,e4,e5,e6⟩
  ·exact .inl ⟨x,g13 _ _ e1,e2⟩
  ·exact .inr ⟨x,fo,b,l,l',rs,ps,g13 _ _ e1,g13 _ _ e2,e3.keep g13,s13 _ _ (e6 k hk) e4,e5,e6⟩
 clear hH hDd T2 F2 B13 hks hkk qy qk qt s13 g13 lp';generalize upF st k _=st',upF past k _=past',upF dn k _=dn'' at T13;refine⟨?_,?_⟩
 ·rcases hH13 with ⟨x,e1,rfl⟩ | ⟨x,fo,b,l,l',rs,ps,e1,e2,e3,e4,e5,e6⟩
  ·have qd:=SqT.of (K:=K) (jaD e1).1;walk_at "rf";refine ixT qd (i:=0) rfl ⟨rfl,?_⟩;rw[if_neg (by intro z;exact absurd (V.str.inj z) (by decide +kernel))];exact⟨rfl,h,rfl,.inl ⟨⟨_,(jaD e1).1⟩,rfl⟩⟩
  ·have qd:=SqT.of (K:=K) (jaD e1).1;have qh:=SqT.of (K:=K) (jaD e2).1;walk_at "rf";refine ixT qd (i:=0) rfl ⟨rfl,?_⟩;rw[if_pos rfl];obtain⟨z1,z2⟩:=jnm ps;refine ixT qh (i:=2) rfl (ixT qd (i:=2) rfl ⟨_,_,.lst (SqL.of e4) (jfB (e3.2.keep (jbB _ _).t)),.lst (SqL.of (jaD e3.1).1) (jfB (e3.2.keep (jbB _ _).t)),z1,z1,_,rfl,?_⟩);rw[jlO,z2,if_neg (by decide)];refine ixT qh (i:=2) rfl ⟨.inl ⟨_,SqL.of e4⟩,l',_,rfl,rfl,e4,?_⟩;exact⟨rfl,h,rfl,.inr ⟨_,_,_,l',[],(jaD e2).1,fun z o hz e=>by rw[jar (fun w=>hz (by rw[w];exact .head _))];exact e,upd_same⟩⟩
 rintro σ' H14 ⟨rfl,h',hh',h14⟩;cases hh';obtain⟨T14,F14⟩:Tw Y (i+1) M2 H14 y p r d st' past' dn''/\Fx K a ns nl ol ys ks y r d (rm M2 H14):=by
  rcases hH13 with ⟨x,e1,rfl⟩ | ⟨x,fo,b,l,l',rs,ps,e1,e2,e3,e4,e5,e6⟩
  ·rcases h14 with ⟨_,rfl⟩ | ⟨x2,fo2,b2,l2,zs,u1,_⟩
   ·exact⟨T13,F13⟩
   ·have:=(jaD e1).1.symm.trans u1;exact absurd (V.str.inj (List.cons.inj (HO.tup.inj (Option.some.inj this))).1) (by decide +kernel)
  ·rcases h14 with ⟨⟨x2,u1⟩,_⟩ | ⟨x2,fo2,b2,l2,zs,u1,sx,u2⟩
   ·have:=(jaD e2).1.symm.trans u1;exact absurd (V.str.inj (List.cons.inj (HO.tup.inj (Option.some.inj this))).1) (by decide +kernel)
   ·have u:=(jaD e2).1.symm.trans u1;cases u;have hS:∀b∈[l'],b∈M2:=fun b hb=>by rw[xay.mp hb];exact e5
    have mu:∀m∈M2,Mut H14 m:=fun m hm=>by
     by_cases c:m=l'
     ·rw[c];exact Mut.ls u2
     ·obtain⟨o,e,z⟩:=(T13.bt 0 (by decide)).yd.mu m hm;exact⟨o,sx m o (fun w=>c (xay.mp w)) e,z⟩
    exact⟨T13.off sx hS mu fun j hj b hb z=>e6 j hj (by rw[<- xay.mp z];exact hb),F13.keep (sx.rm hS)⟩
 clear h14 hH13 T13 F13;walk_at "rf";refine⟨by decide,by decide,?_⟩;refine jbe (lo:=0) (n:=2) (fun j σ H15=>∃(o10:Option V),σ=[some (.ref a),some (.ref nl),some (.ref ol),some (.ref ys),some (.ref ks),some (.int (0+(i:Int))),some (.int n),some (.int (k:Int)),some (.ref d'),some (.ref h),o10]/\Same H14 H15) ⟨_,rfl,Same.refl _⟩ ?_ ?_;rotate_left
 ·rintro σ H15 ⟨o10,rfl,s15⟩;exact⟨_,_,_,_,_,_,rfl,M2,F14.keep (jaX s15),st',past',dn'',T14.keep s15⟩
 clear hk ek;rintro j σ H15 hj ⟨o10,rfl,s15⟩;have T15:=T14.keep s15;have F15:=F14.keep (jaX (M:=M2) s15);have B15:=T15.bt j hj;obtain⟨kk,hks,hkk⟩:=F15.ks;obtain⟨zs,hol,lz⟩:=F15.ol;obtain⟨dx,sL,ss,h1,h2,h3,h4⟩:=B15.yd.ob;obtain⟨rs,ds,g1,g2,g3,g4⟩:=B15.dn.ob;have l6:=B15.l6;have ll:ss.length=ds.length:=by rw[h4.len,g4.len];exact B15.un.len
 have qy:=SqL.of (K:=K) (jaD F15.ys).1;have qk:=SqL.of (K:=K) (jaD hks).1;have qt:=SqT.of (K:=K) (jaD (hkk j hj)).1;have qo:=SqL.of (K:=K) (jaD hol).1;have tw:∀f:Nat->Addr,atI [V.ref (f 0),V.ref (f 1)] (0+(j:Int))=some (.ref (f j)):=fun f=>by
  rw[xbA];exact jaM (two f j hj)
 refine⟨?_,?_⟩
 ·walk_at "rf";refine⟨(show CPow _ _ from ⟨by decide,by decide,by decide⟩),by decide,.o (by decide) (by decide),by decide,jb2 (fun c=>?_) fun c=>?_⟩
  ·refine ixL qy (tw y) (ixL qk (tw kk) (ixT qt (i:=0) rfl ⟨M2,y j,p j,r j,d j,ol,st' j,past' j,dn'' j,zs,rfl,B15,qo,lz,fun H16 s16=>⟨_,rfl,?_⟩⟩));rw[if_neg (by decide)];exact⟨s16,rfl⟩
  ·exact⟨Same.refl _,rfl⟩
 rintro σ' H16 ⟨s16,rfl⟩;refine⟨?_,?_⟩
 ·walk_at "rf";refine⟨(show CPow _ _ from ⟨by decide,by decide,by decide⟩),by decide,.o (by decide) (by decide),by decide,jb2 (fun c=>?_) fun c=>?_⟩
  ·refine⟨_,rfl,_,rfl,ixL (s16.seq qy) (tw y) ⟨y j,dx,_,rfl,s16 _ _ h1,jbj (by decide +kernel) (by decide +kernel),y j,p j,dx,sL,ss,rfl,s16 _ _ h1,s16 _ _ h2,ixL (s16.seq qk) (tw kk) (ixT (s16.tup qt) (i:=1) rfl ⟨_,rfl,_,.inl (SqL.of (s16 _ _ g2)),rfl,?_⟩)⟩⟩;rw[xaa,ll,if_pos rfl];exact⟨Same.refl _,rfl⟩
  ·exact⟨Same.refl _,rfl⟩
 rintro σ' H17 ⟨s17,rfl⟩;have s157:=s16.trans s17;walk_at "rf";refine ixL (s157.seq qy) (tw y) (ixL (s157.seq qk) (tw kk) (ixT (s157.tup qt) (i:=0) rfl (ixL (s157.seq qk) (tw kk) (ixT (s157.tup qt) (i:=1) rfl ⟨M2,y j,p j,r j,d j,st' j,past' j,dn'' j,rfl,B15.keep s157,fun H18 s18=>⟨_,rfl,?_⟩⟩))));rw[if_neg (by decide)];have s158:=s157.trans s18;refine ixL (s158.seq qy) (tw y) (ixL (s158.seq qk) (tw kk) (ixT (s158.tup qt) (i:=0) rfl ⟨M2,y j,p j,r j,d j,ol,st' j,past' j,dn'' j,zs,rfl,B15.keep s158,s158.seq qo,lz,fun H19 s19=>⟨_,rfl,?_⟩⟩));rw[if_neg (by decide)];have s159:=s158.trans s19;refine⟨_,rfl,_,rfl,ixL (s159.seq qy) (tw y) ⟨y j,dx,_,rfl,s159 _ _ h1,jbj (by decide +kernel) (by decide +kernel),y j,dx,sL,p j,st' j,rfl,s159 _ _ h1,h3.keep ((jbB _ _).trans s159),by omega,fun l1 H20 n1 s20 e1=>?_⟩⟩;have s1520:=s159.trans s20;refine⟨.inl ⟨_,SqL.of e1⟩,l1,_,_,rfl,rfl,e1,by rw[jfv];exact jaL (by omega),?_⟩;have s21:Same H19 (upd H20 l1 (.lst (stV (st' j)++[.str (Str.ofString "more")]))):=fun b o hb=>by
  rw[jar (jau hb n1)];exact s20 _ _ hb
 have s1521:=s159.trans s21;refine⟨_,rfl,_,rfl,ixL (s1521.seq qy) (tw y) ⟨y j,dx,_,rfl,s1521 _ _ h1,jbj (by decide +kernel) (by decide +kernel),y j,dx,sL,p j,st' j,rfl,s1521 _ _ h1,h3.keep ((jbB _ _).trans s1521),by omega,fun l2 ts H22 n2 s22 e2 a2=>?_⟩⟩;refine⟨.inl ⟨_,SqL.of e2⟩,l2,_,rfl,rfl,e2,?_⟩;refine s15.trans (s1521.trans fun b o hb=>?_);rw[jar (jau hb n2)];exact s22 _ _ hb
end
def xcOk (K:PySem.W.Frag) (C:Addr):Bool:=(PySem.W.clsIn K C).isSome&&PySem.W.findIn K (.ref C) "__getattribute__"==some (some (.builtin "BaseException.__getattribute__"))&&PySem.W.findIn K (.ref C) "__getattr__"==some none
 && PySem.W.subIn K (.ref C) (.type "BaseException")==some true&&PySem.W.findIn K (.ref C) "__class__"==some (some (.builtin "object.__class__"))&&PySem.W.specialIn K (.builtin "object.__class__") "__get__"==some (some (.builtin "getset_descriptor.__get__"))
 && PySem.W.takesIn K (.builtin "object.__class__")==some true&&PySem.W.mroIn K C (.type "object")==some true
theorem xcOk.to {K:PySem.W.Frag} {C:Addr} (h:xcOk K C=true):XCls K C:=by
 unfold xcOk at h;simp only[xaE,beq_iff_eq] at h;obtain⟨⟨⟨⟨⟨⟨⟨h1,h2⟩,h3⟩,h4⟩,h5⟩,h6⟩,h7⟩,h8⟩:=h;exact⟨h1,h2,h3,h4,h5,h6,h7,h8⟩
def clsY (K:PySem.W.Frag) (S:Addr) (cs:List Addr):Bool:=((List.range 4).all fun i=>xcOk K (cs.getD i 0)&&PySem.W.exmOne K (.ref (cs.getD i 0)) (.ref S)==some true)&&(List.range 4).all fun i=>(List.range 4).all fun j=>PySem.W.kitOne K (.ref (cs.getD i 0)) (.ref (cs.getD j 0))==some (decide (i=j))
theorem clsY.to {K:PySem.W.Frag} {S:Addr} {cs:List Addr} (h:clsY K S cs=true):(∀i,i<4->XCls K (cs.getD i 0))/\(∀i,i<4->PySem.W.exmOne K (.ref (cs.getD i 0)) (.ref S)=some true)/\∀i j,i<4->j<4->PySem.W.kitOne K (.ref (cs.getD i 0)) (.ref (cs.getD j 0))=some (decide (i=j)):=by
 unfold clsY at h;rw[xaE,xaS,xaS] at h;refine⟨fun i hi=>?_,fun i hi=>?_,fun i j hi hj=>?_⟩
 ·have z:=h.1 i (xaX.mpr hi);rw[xaE] at z;exact xcOk.to z.1
 ·have z:=h.1 i (xaX.mpr hi);rw[xaE] at z;exact beq_iff_eq.mp z.2
 ·exact beq_iff_eq.mp (xaS.mp (h.2 i (xaX.mpr hi)) j (xaX.mpr hj))
def yardOk (K:PySem.W.Frag) (C:Addr):Bool:=PySem.W.plainGet K C Str.empty&&PySem.W.hasDictIn K C&&PySem.W.plainOver K C&&PySem.W.findIn K (.ref C) "__setattr__"==some (some (.builtin "object.__setattr__"))&&PySem.W.findIn K (.ref C) "standing"==some none&&PySem.W.findIn K (.ref C) "past"==some none&&PySem.W.makesIn K C&&PySem.W.keepIn K (.ref C)
theorem yardOk.to {K:PySem.W.Frag} {C:Addr} (h:yardOk K C=true):Cls K C/\NoAttr K C "standing"/\NoAttr K C "past"/\PySem.W.makesIn K C=true/\PySem.W.keepIn K (.ref C)=true:=by
 unfold yardOk at h;simp only[xaE,beq_iff_eq] at h;obtain⟨⟨⟨⟨⟨⟨⟨h1,h2⟩,h3⟩,h4⟩,h5⟩,h6⟩,h7⟩,h8⟩:=h;exact⟨⟨h1,h2,h3,h4⟩,h5,h6,h7,h8⟩
@[elab_as_elim] theorem len1 {P:List Value->Prop} (us:List Value) (hl:us.length=1) (h:∀a,P [a]):P us:=by
  cases us with
  | nil=>exact absurd hl (by decide)
  | cons a r =>
    cases r with
    | nil=>exact h a
    | cons b r=>exact absurd (Nat.succ.inj hl) (Nat.succ_ne_zero _)
@[elab_as_elim] theorem len2 {P:List Value->Prop} (us:List Value) (hl:us.length=2) (h:∀a0 a1,P [a0,a1]):P us:=by
 cases us with
 | nil=>exact absurd hl (by decide)
 | cons a0 r=>exact len1 (P:=fun r=>P (a0::r)) r (Nat.succ.inj hl) fun a1=>h a0 a1
@[elab_as_elim] theorem len3 {P:List Value->Prop} (us:List Value) (hl:us.length=3) (h:∀a0 a1 a2,P [a0,a1,a2]):P us:=by
 cases us with
 | nil=>exact absurd hl (by decide)
 | cons a0 r=>exact len2 (P:=fun r=>P (a0::r)) r (Nat.succ.inj hl) fun a1 a2=>h a0 a1 a2
@[elab_as_elim] theorem len4 {P:List Value->Prop} (us:List Value) (hl:us.length=4) (h:∀a0 a1 a2 a3,P [a0,a1,a2,a3]):P us:=by
 cases us with
 | nil=>exact absurd hl (by decide)
 | cons a0 r=>exact len3 (P:=fun r=>P (a0::r)) r (Nat.succ.inj hl) fun a1 a2 a3=>h a0 a1 a2 a3
@[elab_as_elim] theorem len5 {P:List Value->Prop} (us:List Value) (hl:us.length=5) (h:∀a0 a1 a2 a3 a4,P [a0,a1,a2,a3,a4]):P us:=by
 cases us with
 | nil=>exact absurd hl (by decide)
 | cons a0 r=>exact len4 (P:=fun r=>P (a0::r)) r (Nat.succ.inj hl) fun a1 a2 a3 a4=>h a0 a1 a2 a3 a4
inductive AtK (K:PySem.W.Frag) (x:Str) (st:Stmt):Prop
 | mk (f:Addr) (oc kV dc pm cd ct:Value) (od an:Option Addr) (sl:Array (Option Value)) (a:PySem.W.nsIn K mainGlobals x=some (some (.ref f))) (l:K.lookup f=some ⟨oc,od,.func (PySem.W.fnOf x x (jbI st) (ja3 st) (jag st) .none kV dc pm an cd ct),sl⟩) (c:PySem.W.codeIn K cd x=true) (k:PySem.W.keepIn K (.ref f)=true)
local macro_rules | `(tactic| walk_at "bn") => `(tactic| first | exact fun _ _ _ _ _ _ us hl => len1 us hl fun _ => rfl | exact fun _ _ _ _ _ _ us hl => len2 us hl fun _ _ => rfl | exact fun _ _ _ _ _ _ us hl => len3 us hl fun _ _ _ => rfl | exact fun _ _ _ _ _ _ us hl => len4 us hl fun _ _ _ _ => rfl | exact fun _ _ _ _ _ _ us hl => len5 us hl fun _ _ _ _ _ => rfl)
theorem AtK.go {K:PySem.W.Frag} {h:Heap} {mg:Str->Option Value} {x:Str} {st:Stmt} {ps:List Str} (H:AtK K x st) (X:K.In h) (G:h.Ns mainGlobals mg) (hb:∀(kV doc pm:Value) (an:Option Addr) (cdv ct:Value) (us:List Value),us.length=ps.length->bindArgs (PySem.W.fnOf x x (jbI st) (ja3 st) (jag st) .none kV doc pm an cdv ct) ⟨us,[]⟩=pure (ps.zip us):=by walk_at "bn"):At K mg x st ps [] :=
 let ⟨_,_,_,_,_,_,_,_,_,_,a,l,c,k⟩:=H
 at_mk X G hb a l c k
inductive AtMK (K:PySem.W.Frag) (C:Addr) (m q:Str) (st:Stmt):Prop
 | mk (f:Addr) (oc kV dc pm cd ct:Value) (od an:Option Addr) (sl:Array (Option Value)) (a:PySem.W.findIn K (.ref C) m=some (some (.ref f))) (l:K.lookup f=some ⟨oc,od,.func (PySem.W.fnOf m q (jbI st) (ja3 st) (jag st) .none kV dc pm an cd ct),sl⟩) (c:PySem.W.codeIn K cd q=true) (k:PySem.W.keepIn K (.ref f)=true) (n:PySem.W.isFn K (.ref f)=true)
theorem AtMK.go {K:PySem.W.Frag} {C:Addr} {m q:Str} {st:Stmt} {ps:List Str} (H:AtMK K C m q st) (hb:∀(kV doc pm:Value) (an:Option Addr) (cdv ct:Value) (us:List Value),us.length=ps.length->bindArgs (PySem.W.fnOf m q (jbI st) (ja3 st) (jag st) .none kV doc pm an cdv ct) ⟨us,[]⟩=pure (ps.zip us):=by walk_at "bn"):AtM K C m q st ps :=
 let ⟨f,_,kV,dc,pm,cd,ct,_,an,_,a,l,c,k,n⟩:=H
 ⟨f,_,.none,jgn l c k,⟨a,n,k⟩,.all (hb kV dc pm an cd ct)⟩
theorem jno {l:PySem.W.OpenLaw} {w:World} {K:PySem.W.Frag} {h:Heap} {mg:Str->Option Value} {fa YC c0 c1 c2 c3:Addr} {t1 t2:Tok} (X:K.In h) (G:h.Ns mainGlobals mg) (hfa:mg "law"=some (.ref fa))
  {f41:Addr} {od41 an41:Option Addr} {sl41:Array (Option Value)} {oc41 kV41 dc41 pm41 cd41 ct41:Value}
  (kSE:PySem.W.nsIn K mainGlobals "SightError"=some (some (.ref SE))) (kYC:PySem.W.nsIn K mainGlobals "Yard"=some (some (.ref YC)))
  (kc0:PySem.W.nsIn K mainGlobals "NoName"=some (some (.ref c0))) (qc0:PySem.W.excIn K c0 [.type "ValueError",.type "Exception",.type "BaseException",.type "object"] "ValueError.__new__"=true)
  (kc1:PySem.W.nsIn K mainGlobals "NoBoard"=some (some (.ref c1))) (qc1:PySem.W.excIn K c1 [.type "ValueError",.type "Exception",.type "BaseException",.type "object"] "ValueError.__new__"=true)
  (kc2:PySem.W.nsIn K mainGlobals "TooMany"=some (some (.ref c2))) (qc2:PySem.W.excIn K c2 [.type "ValueError",.type "Exception",.type "BaseException",.type "object"] "ValueError.__new__"=true)
  (kc3:PySem.W.nsIn K mainGlobals "NoDeed"=some (some (.ref c3))) (qc3:PySem.W.excIn K c3 [.type "ValueError",.type "Exception",.type "BaseException",.type "object"] "ValueError.__new__"=true)
  (rC:clsY K SE [c0,c1,c2,c3]=true) (rY:yardOk K YC=true)
  (b___init__:AtMK K YC "__init__" "Yard.__init__" jbM)
  (b_names:AtMK K YC "names" "Yard.names" jcA)
  (b_do_deed:AtMK K YC "do_deed" "Yard.do_deed" jbZ)
  (b_put:AtMK K YC "put" "Yard.put" jdK)
  (b_place_of:AtMK K YC "place_of" "Yard.place_of" jbN)
  (b_drop:AtMK K YC "drop" "Yard.drop" jdf)
  (b_back:AtMK K YC "back" "Yard.back" jdg)
  (b_boards:AtMK K YC "boards" "Yard.boards" jcd)
  (b_deeds:AtMK K YC "deeds" "Yard.deeds" jcB)
  {tC0:Tok} (kC0:PySem.W.nsIn K mainGlobals "MOST_LETTERS"=some (some (.int 8 tC0)))
  {tC1:Tok} (kC1:PySem.W.nsIn K mainGlobals "MOST_BOARDS"=some (some (.int 6 tC1)))
  (aS0:PySem.W.nsIn K mainGlobals "SHORT_BITS"=some (some (.int 2000 t1)))
  (aS1:PySem.W.nsIn K mainGlobals "MOST_CORNERS"=some (some (.int 8 t2)))
  (a0:AtK K "_law_names" jcC)
  (a1:AtK K "_law_number" jce)
  (a2:AtK K "_law_bad_name" jbO)
  (a3:AtK K "_law_shape" jcD)
  (a4:AtK K "_law_arrows" jcf)
  (a5:AtK K "_law_rows" jdh)
  (a6:AtK K "_law_divisor" jb0)
  (a7:AtK K "_law_spots" jcE)
  (a8:AtK K "_law_form" jdi)
  (a9:AtK K "_law_turned" jcg)
  (a10:AtK K "_law_spoilt" jch)
  (a11:AtK K "_law_put" jdM)
  (a12:AtK K "_law_due" jdL)
  (a13:AtK K "is_name" jew)
  (a14:AtK K "without" jet)
  (a15:AtK K "crossed" jes)
  (a16:AtK K "determinant" jca)
  (a17:AtK K "minor_of" jdI)
  (a18:AtK K "in_line" jeu)
  (a19:AtK K "rough_plane" jcb)
  (a20:AtK K "greatest_divisor" jbs)
  (a21:AtK K "in_lowest_terms" jbu)
  (a22:AtK K "made_plane" jcy)
  (a23:AtK K "is_plain" jdJ)
  (a24:AtK K "turned_about" jbX)
  (a25:AtK K "plane_through" jbL)
  (a26:AtK K "sign_of" jer)
  (a27:AtK K "height_over" jcc)
  (a28:AtK K "side_of" jev)
  (a29:AtK K "flat_axis" jdd)
  (a30:AtK K "side_of_edge" jbY)
  (a31:AtK K "is_convex" jde)
  (a32:AtK K "stands_first" jbW)
  (a33:AtK K "formed" jfo)
  (a34:AtK K "made_board" jcz)
  (a35:AtK K "_law_flags" jcF)
  (a36:AtK K "_law_tried" jcG)
  (a37:AtK K "_law_right" jcH)
  (a38:AtK K "_law_placed" jcj)
  (a39:AtK K "_law_places" jck)
  (a40:AtK K "_law_stands" jci)
  (a41:PySem.W.nsIn K mainGlobals "law"=some (some (.ref f41))) (l41:K.lookup f41=some ⟨oc41,od41,.func (PySem.W.fnOf "law" "law" (jbI jfp) (ja3 jfp) (jag jfp) .none kV41 dc41 pm41 an41 cd41 ct41),sl41⟩) (c41:PySem.W.codeIn K cd41 "law"=true) (k41:PySem.W.keepIn K (.ref f41)=true)
  (z0:PySem.W.nsIn K mainGlobals "abs"=some none) (z1:PySem.W.nsIn K mainGlobals "max"=some none) (z2:PySem.W.nsIn K mainGlobals "min"=some none) (z3:PySem.W.nsIn K mainGlobals "len"=some none) (z4:PySem.W.nsIn K mainGlobals "all"=some none) (z5:PySem.W.nsIn K mainGlobals "range"=some none) (z6:PySem.W.nsIn K mainGlobals "tuple"=some none) (z7:PySem.W.nsIn K mainGlobals "list"=some none) (z8:PySem.W.nsIn K mainGlobals "str"=some none) (z9:PySem.W.nsIn K mainGlobals "isinstance"=some none) (z10:PySem.W.nsIn K mainGlobals "reversed"=some none) (z11:PySem.W.nsIn K mainGlobals "int"=some none) (z12:PySem.W.nsIn K mainGlobals "bool"=some none) :
  ∃fd:FuncData,(∀(s:Shared) (v:Value),BindsTo s fd ⟨[v],[]⟩ [("script",v)])/\∀base:Heap,K.In base->base.Ns mainGlobals mg->FnOk l.prog w K mg base CX0 10 fa fd ["script"] (jjx K):=by
 have e:=hfa.symm.trans (PySem.W.mg_of X G a41);cases e;have T:Tx K mg t1 t2:=⟨PySem.W.mg_none_of X G z0,PySem.W.mg_none_of X G z1,PySem.W.mg_none_of X G z2,PySem.W.mg_none_of X G z3,PySem.W.mg_none_of X G z4,PySem.W.mg_none_of X G z5,PySem.W.mg_none_of X G z6,PySem.W.mg_none_of X G z7,PySem.W.mg_none_of X G z8,PySem.W.mg_none_of X G z9,PySem.W.mg_none_of X G z10,PySem.W.mg_none_of X G z11,PySem.W.mg_none_of X G z12,PySem.W.mg_of X G aS0,PySem.W.mg_of X G aS1,⟨_,PySem.W.mg_of X G kC0,⟨_,rfl⟩⟩,⟨_,PySem.W.mg_of X G kC1,⟨_,rfl⟩⟩⟩;have RC:=clsY.to rC;have RY:=yardOk.to rY;have TC:Tyd K mg t1 t2 (fun i=>[c0,c1,c2,c3].getD i 0) SE YC:={ toTx:=T,m_SightError:=PySem.W.mg_of X G kSE,m_NoName:=PySem.W.mg_of X G kc0,m_NoBoard:=PySem.W.mg_of X G kc1,m_TooMany:=PySem.W.mg_of X G kc2,m_NoDeed:=PySem.W.mg_of X G kc3,x_NoName:=⟨qc0,PySem.F.excBase_ValueError⟩,x_NoBoard:=⟨qc1,PySem.F.excBase_ValueError⟩,x_TooMany:=⟨qc2,PySem.F.excBase_ValueError⟩,x_NoDeed:=⟨qc3,PySem.F.excBase_ValueError⟩,xc:=RC.1,em:=RC.2.1,kt:=RC.2.2,m_Yard:=PySem.W.mg_of X G kYC,cl:=RY.1,nS:=RY.2.1,nP:=RY.2.2.1,mkY:=RY.2.2.2.1,kpY:=RY.2.2.2.2 };have FL:=jgn (st:=jfp) l41 c41 k41;refine⟨PySem.W.fnOf "law" "law" (jbI jfp) (ja3 jfp) (jag jfp) .none kV41 dc41 pm41 an41 cd41 ct41,fun s v=>.of_eq rfl,fun base _ _=>?_⟩;have D0:=jmR (P:=l.prog) (w:=w) (base:=base) T (a0.go X G);have D1:=jiH (P:=l.prog) (w:=w) (base:=base) T (a1.go X G);have D2:=jlp (P:=l.prog) (w:=w) (base:=base) T (a2.go X G);have D3:=jjL (P:=l.prog) (w:=w) (base:=base) TC b___init__.go;have D4:=jmU (P:=l.prog) (w:=w) (base:=base) T (a3.go X G);have D5:=jmW (P:=l.prog) (w:=w) (base:=base) T (a4.go X G);have D6:=jlq (P:=l.prog) (w:=w) (base:=base) T (a5.go X G) D4 D5;have D7:=jmM (P:=l.prog) (w:=w) (base:=base) T (a6.go X G);have D8:=jjN (P:=l.prog) (w:=w) (base:=base) T (a7.go X G) D7;have D9:=jm7 (P:=l.prog) (w:=w) (base:=base) T (a8.go X G) D8;have D10:=jmY (P:=l.prog) (w:=w) (base:=base) T (a9.go X G);have D11:=jlA (P:=l.prog) (w:=w) (base:=base) T (a10.go X G);have D12:=jlB (P:=l.prog) (w:=w) (base:=base) T (a11.go X G) D6 D9 D8 D10 D11 D2;have D13:=jnh (P:=l.prog) (w:=w) (base:=base) TC (a12.go X G);have D14:=jli (P:=l.prog) (w:=w) (base:=base) T (a13.go X G);have D15:=jjJ (P:=l.prog) (w:=w) (base:=base) TC b_names.go;have D16:=jhG (P:=l.prog) (w:=w) (base:=base) T (a14.go X G);have D17:=jhF (P:=l.prog) (w:=w) (base:=base) T (a15.go X G);have D18:=jmD (P:=l.prog) (w:=w) (base:=base) T (a16.go X G) D17;have D19:=jjy (P:=l.prog) (w:=w) (base:=base) T (a17.go X G) D16 D18;have D20:=jlb (P:=l.prog) (w:=w) (base:=base) T (a18.go X G) D19;have D21:=jjB (P:=l.prog) (w:=w) (base:=base) T (a19.go X G) D19;have D22:=ok_gd (P:=l.prog) (w:=w) (base:=base) T (a20.go X G);have D23:=jmC (P:=l.prog) (w:=w) (base:=base) T (a21.go X G) D22;have D24:=jjC (P:=l.prog) (w:=w) (base:=base) T (a22.go X G) D23;have D25:=jjA (P:=l.prog) (w:=w) (base:=base) T (a23.go X G);have D26:=jiD (P:=l.prog) (w:=w) (base:=base) T (a24.go X G);have D27:=jhH (P:=l.prog) (w:=w) (base:=base) T (a25.go X G) D21 D24 D25 D26;have D28:=jlc (P:=l.prog) (w:=w) (base:=base) T (a26.go X G);have D29:=ok_ht (P:=l.prog) (w:=w) (base:=base) T (a27.go X G);have D30:=jld (P:=l.prog) (w:=w) (base:=base) T (a28.go X G) D28 D29;have D31:=jle (P:=l.prog) (w:=w) (base:=base) T (a29.go X G);have D32:=jlf (P:=l.prog) (w:=w) (base:=base) T (a30.go X G) D28 D19;have D33:=jlh (P:=l.prog) (w:=w) (base:=base) T (a31.go X G) D32;have D34:=jjD (P:=l.prog) (w:=w) (base:=base) T (a32.go X G);have D35:=jiE (P:=l.prog) (w:=w) (base:=base) T (a33.go X G) D34;have D36:=jiJ (P:=l.prog) (w:=w) (base:=base) TC (a34.go X G) D20 D27 D30 D31 D33 D35;have D37:=ok_do (P:=l.prog) (w:=w) (base:=base) TC b_do_deed.go;have D38:=jmP (P:=l.prog) (w:=w) (base:=base) TC b_put.go D14 D15 D36 D37;have D39:=jjM (P:=l.prog) (w:=w) (base:=base) TC b_place_of.go D15;have D40:=jlm (P:=l.prog) (w:=w) (base:=base) TC b_drop.go D39 D37;have D41:=jln (P:=l.prog) (w:=w) (base:=base) TC b_back.go;have D42:=jnb (P:=l.prog) (w:=w) (base:=base) TC (a35.go X G);have D43:=jnd (P:=l.prog) (w:=w) (base:=base) TC (a36.go X G) D38 D40 D41 D42;have D44:=jjV (P:=l.prog) (w:=w) (base:=base) TC (a37.go X G) D13 D43;have D45:=jlJ (P:=l.prog) (w:=w) (base:=base) TC (a38.go X G) D39 D42;have D46:=jlK (P:=l.prog) (w:=w) (base:=base) TC (a39.go X G) D45;have D47:=jiN (P:=l.prog) (w:=w) (base:=base) TC b_boards.go;have D48:=jjK (P:=l.prog) (w:=w) (base:=base) TC b_deeds.go;have D49:=jnl (P:=l.prog) (w:=w) (base:=base) TC (a40.go X G) D15 D47 D48;exact jnn TC FL D0 D1 D2 D3 D12 D44 D46 D49 D15 D47 D48
theorem walk {l:PySem.W.OpenLaw} {q:Program} {loose:List Str} {XP:(Str->Option Value)->Heap->Prop} {YP:World->Heap->Prop} {d:DefRec} {K:Params->PySem.W.Frag} (hn:l.most=some 63) (hdf:d.params.defaults=[])
  (hY:∀(w:World) (h:Heap),YP w h->(K w.params).In h)
  (F:∀(w:World) (mg:Str->Option Value) (fa:Addr) (h:Heap),(K w.params).In h->h.Ns mainGlobals mg->mg d.name=some (.ref fa) ->
   ∃fd:FuncData,(∀(s:Shared) (u:Value),BindsTo s fd ⟨[u],[]⟩ [("script",u)])/\∀base:Heap,(K w.params).In base->base.Ns mainGlobals mg->FnOk l.prog w (K w.params) mg base CX0 10 fa fd ["script"] (jjx (K w.params))) :
  PySem.W.WalkO q loose XP YP l.row.toRowW d [] (fun f vs=>PySem.call f vs) :=
 L2.jkT (n:=63) (k:=10) (x:="script") (CX:=fun _=>CX0) (sp:=fun w=>jjx (K w.params)) hn (by decide) hdf ⟨rfl,by decide,by decide⟩ hY F (fun _ _ a ns hl _ hS=>⟨a,ns,rfl,hS,hl,fun _=>rfl⟩) fun _ _ _ _ _ z=>z
end My
namespace PySem.W.Fast
def tw10004885245566567924:=0
def tw10272719542802024742:=0
def tw10277697171869735686:=0
def tw10287488101263828170:=0
def tw1041091064326607571:=0
def tw10982920547957617562:=0
def tw109851349567983318:=0
def tw10993222922745127907:=0
def tw11003819607173742170:=0
def tw11011885253106611407:=0
def tw11177162891900734418:=0
def tw11181796220849734687:=0
def tw11511826870950109989:=0
def tw11699539713146678439:=0
def tw11841875670913507251:=0
def tw12010027773041512312:=0
def tw12324921465033547742:=0
def tw12454636435291825135:=0
def tw12520429927533364675:=0
def tw12693681530408750705:=0
def tw12774716162677674396:=0
def tw13003130069087835204:=0
def tw13007844333808555615:=0
def tw13336805754626940725:=0
def tw13353773385866504600:=0
def tw13550911109464426485:=0
def tw13865897440916567535:=0
def tw13886821122312018138:=0
def tw13962058645061933466:=0
def tw14211931744217478591:=0
def tw14257811216921716098:=0
def tw14564036547374229023:=0
def tw15208706784617986351:=0
def tw15254311582210155366:=0
def tw15385003398790313510:=0
def tw15619723785102654381:=0
def tw15685072240825723642:=0
def tw15740112799464016712:=0
def tw16026708782150701934:=0
def tw16263579433698603824:=0
def tw16417181936555180866:=0
def tw16425438561016728011:=0
def tw1649623005453505077:=0
def tw16547566040938048169:=0
def tw16619050037890338937:=0
def tw16637771524937169966:=0
def tw16710343229421588874:=0
def tw16958565883217455822:=0
def tw17001697951815274023:=0
def tw17073264042468024530:=0
def tw1723578362467913690:=0
def tw17338978208805381630:=0
def tw17614270063382196157:=0
def tw17652164260031035131:=0
def tw17677962763796536674:=0
def tw17690696892793629546:=0
def tw18191838712338219997:=0
def tw18234740105494445502:=0
def tw18391287372384933711:=0
def tw1886486999889944471:=0
def tw1906147192247093614:=0
def tw1914541203844713018:=0
def tw2023278704204072288:=0
def tw2199275896354222412:=0
def tw2245673308333032722:=0
def tw2320239459608898125:=0
def tw2397734446629676997:=0
def tw2545043048845491371:=0
def tw261526703464326847:=0
def tw2671781677979944739:=0
def tw28627223930588224:=0
def tw2919014355835449962:=0
def tw2986081518896534755:=0
def tw3200392216356492970:=0
def tw365746273167756036:=0
def tw3739579888599537899:=0
def tw3901808287905139404:=0
def tw3971388165408920200:=0
def tw4019857593384409728:=0
def tw4060000192371847569:=0
def tw4686320969503770734:=0
def tw4741022937650422532:=0
def tw4741268713023901020:=0
def tw4981109592332509652:=0
def tw5050002997470452409:=0
def tw5171722499020443373:=0
def tw5236099911310260690:=0
def tw5287375010495568390:=0
def tw5327410659200267398:=0
def tw536284465913014441:=0
def tw5491948156669441729:=0
def tw5495761878356606884:=0
def tw5648981676874604960:=0
def tw5767404426756528723:=0
def tw5783890129970627867:=0
def tw5865625946346262366:=0
def tw5977634524456899935:=0
def tw6035794434478886743:=0
def tw6036876935803411885:=0
def tw6202662059040205754:=0
def tw6210936029113664971:=0
def tw6468062919476948928:=0
def tw6484305494312035222:=0
def tw6547818668268308451:=0
def tw6571633596904684868:=0
def tw6718427459581835016:=0
def tw6742170181591676381:=0
def tw6840900352517034955:=0
def tw6969406265898115847:=0
def tw6975005295153859277:=0
def tw7196281395856346254:=0
def tw74163306067484846:=0
def tw7775182358316687332:=0
def tw7779847066195134372:=0
def tw7946813908562411869:=0
def tw7951817835490271680:=0
def tw8030255603097411108:=0
def tw8043654020599615123:=0
def tw8183911331826431439:=0
def tw8305046432215512586:=0
def tw8418587606514432552:=0
def tw8451047739083292842:=0
def tw8536684233928300822:=0
def tw8795124754016773453:=0
def tw8817711711032888116:=0
def tw898048108357146642:=0
def tw908311292443533290:=0
def tw9176773193533629371:=0
def tw922168151877347414:=0
def tw9333938921914952817:=0
def tw9459146248218122409:=0
def tw9478590014854228861:=0
def tw9487214943581696463:=0
def tw9503298686993572207:=0
def tw9779276733452233867:=0
def tw9817492832675725579:=0
def tw9990874477484870019:=0
end PySem.W.Fast
open PySem PySem.W PyProof.Rows
set_option maxRecDepth 100000 in
set_option maxHeartbeats 0 in
theorem PySem.Challenge.cw_boardsight_k82_yards_keep_their_own_holds : PySem.Challenge.rw_boardsight_k82_yards_keep_their_own.Holds := by
  w_on;o_law;k_head;(case hw=>w_witness2)
  k_fill
  refine My.walk (l:=PySem.Challenge.rw_boardsight_k82_yards_keep_their_own) rfl rfl (fun w h Y=>PySem.W.kIn_of Y) ?F
  case F =>
    intro w mg fa h KX G hmg
    refine' My.jno KX G hmg ?kSE ?kYC ?kc0 ?qc0 ?kc1 ?qc1 ?kc2 ?qc2 ?kc3 ?qc3 ?rC ?rY ?b___init__ ?b_names ?b_do_deed ?b_put ?b_place_of ?b_drop ?b_back ?b_boards ?b_deeds ?kC0 ?kC1 ?aS0 ?aS1 ?a0 ?a1 ?a2 ?a3 ?a4 ?a5 ?a6 ?a7 ?a8 ?a9 ?a10 ?a11 ?a12 ?a13 ?a14 ?a15 ?a16 ?a17 ?a18 ?a19 ?a20 ?a21 ?a22 ?a23 ?a24 ?a25 ?a26 ?a27 ?a28 ?a29 ?a30 ?a31 ?a32 ?a33 ?a34 ?a35 ?a36 ?a37 ?a38 ?a39 ?a40 ?a41 ?l41 ?c41 ?k41 ?z0 ?z1 ?z2 ?z3 ?z4 ?z5 ?z6 ?z7 ?z8 ?z9 ?z10 ?z11 ?z12
    (case kSE=>k_is)
    (case kYC=>k_is)
    (case kc0=>k_is)
    (case qc0=>first | k_exc | kernel_rfl | k_is)
    (case kc1=>k_is)
    (case qc1=>first | k_exc | kernel_rfl | k_is)
    (case kc2=>k_is)
    (case qc2=>first | k_exc | kernel_rfl | k_is)
    (case kc3=>k_is)
    (case qc3=>first | k_exc | kernel_rfl | k_is)
    (case rC=>first | kernel_rfl | k_is)
    (case rY=>first | kernel_rfl | k_is)
    (case b___init__=>apply My.AtMK.mk;k_is;k_is;k_is;k_is;k_is)
    (case b_names=>apply My.AtMK.mk;k_is;k_is;k_is;k_is;k_is)
    (case b_do_deed=>apply My.AtMK.mk;k_is;k_is;k_is;k_is;k_is)
    (case b_put=>apply My.AtMK.mk;k_is;k_is;k_is;k_is;k_is)
    (case b_place_of=>apply My.AtMK.mk;k_is;k_is;k_is;k_is;k_is)
    (case b_drop=>apply My.AtMK.mk;k_is;k_is;k_is;k_is;k_is)
    (case b_back=>apply My.AtMK.mk;k_is;k_is;k_is;k_is;k_is)
    (case b_boards=>apply My.AtMK.mk;k_is;k_is;k_is;k_is;k_is)
    (case b_deeds=>apply My.AtMK.mk;k_is;k_is;k_is;k_is;k_is)
    (case kC0=>k_is)
    (case kC1=>k_is)
    (case aS0=>k_is)
    (case aS1=>k_is)
    (case a41=>k_is)
    (case l41=>k_is)
    (case c41=>k_is)
    (case k41=>k_is)
    (case z0=>k_is)
    (case z1=>k_is)
    (case z2=>k_is)
    (case z3=>k_is)
    (case z4=>k_is)
    (case z5=>k_is)
    (case z6=>k_is)
    (case z7=>k_is)
    (case z8=>k_is)
    (case z9=>k_is)
    (case z10=>k_is)
    (case z11=>k_is)
    (case z12=>k_is)
    all_goals (apply My.AtK.mk;k_is;k_is;k_is;k_is)
