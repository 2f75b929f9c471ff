import PyProof.Rows.All
import Wide.All
import OpenK.AllK
import Wide.FinOn
import Lean
import PyProof.EqAt
import PyProof.EqKinds
import PyProof.TupleCall
import PyProof.DictWalks
import PyProof.ExcAttrAll.ValueError
import PyProof.ExcBaseAll.ValueError
import PyProof.ZipIter
import PyProof.SumWalk
import PyProof.Rows.SortShellK
import PyProof.Rows.SortStr
import PyProof.DictKinds
import PyProof.Rows.CallKwBuiltin
import PySem.Challenge.RW_ownshelf_k24_whole_tables_changed
set_option Elab.async false
set_option linter.all false
set_option maxRecDepth 100000
set_option maxHeartbeats 8000000
set_option compiler.extract_closed false
set_option compiler.reuse false
set_option bootstrap.genMatcherCode false
abbrev zFr:=PySem.W.Frag
abbrev zLA:=List (PySem.Str×PySem.Addr)
abbrev zAO:=List (PySem.Addr×PySem.Obj)
abbrev zVP:=PySem.Value->PySem.Shared->Prop
abbrev zMg:=PySem.Str->Option PySem.Value
abbrev z5l:=@List.length_append
abbrev z5m:=@PySem.wpAny_bind
abbrev z5n:=@List.mem_cons_of_mem
abbrev z5o:=@Nat.le_refl
abbrev z5p:=@PySem.Heap.get?_push_of_some
abbrev z5q:=@List.getElem?_eq_some_iff
abbrev z5r:=@Nat.lt_of_lt_of_le
abbrev z5s:=@List.getElem?_eq_getElem
abbrev z5t:=@List.size_toArray
abbrev z5u:=@Nat.le_of_ble_eq_true
abbrev z5v:=@List.map_cons
abbrev z5w:=@decide_eq_false
abbrev z5x:=@List.mem_cons_self
abbrev z5y:=@List.mem_append_right
abbrev z5z:=@List.forall_mem_cons
abbrev z50:=@PySem.Heap.lt_size
abbrev z51:=@List.mem_cons
abbrev z52:=@PySem.wpAny_pure
abbrev z53:=@Nat.ne_of_lt
abbrev z54:=@Nat.le_add_right
abbrev z55:=@List.mem_singleton
abbrev z56:=@List.length_take
abbrev z57:=@Nat.le_trans
abbrev z58:=@Bool.false_eq_true
abbrev z59:=@List.getElem?_append_right
abbrev z6a:=@if_pos
abbrev z6b:=@List.mem_of_getElem?
abbrev z6c:=@PySem.Heap.get?_push_size
abbrev z6d:=@decide_eq_true
abbrev z6e:=@List.mem_append
abbrev z6f:=@List.append_nil
abbrev z6g:=@Bool.and_eq_true
abbrev z6h:=@List.getElem?_append_left
abbrev z6i:=@if_neg
abbrev z6j:=@Option.some.inj
abbrev z6k:=@List.length_drop
abbrev z6l:=@List.mem_of_mem_take
abbrev z6m:=@List.all_eq_true
abbrev z6n:=@Nat.zero_le
abbrev z6o:=@List.mem_map_of_mem
abbrev z6p:=@List.getElem?_set_self
abbrev z6q:=@Bool.false_ne_true
abbrev z6r:=@PySem.W.mg_none_of
abbrev z6s:=@List.cons_lt_cons_iff
abbrev z6t:=@PySem.W.kia_one
abbrev z6u:=@decide_eq_decide
abbrev z6v:=@PySem.wpAny_truthy_bool
abbrev z6w:=@List.getElem?_map
abbrev z6x:=@List.getElem?_set_ne
abbrev z6y:=@PySem.wpAny_Call_Name_kw
abbrev z6z:=@PyProof.Rows.wpS_bind
abbrev z60:=@PySem.sizeLine_eq
abbrev z61:=@List.getElem_of_mem
abbrev z62:=@List.length_reverse
abbrev z63:=@List.take_append_drop
abbrev z64:=@List.not_lt
abbrev z65:=@List.pairwise_cons
abbrev z66:=@Int.emod_lt_of_pos
abbrev z67:=@List.drop_eq_getElem_cons
abbrev z68:=@congrArg
abbrev z69:=@List.length_pos_iff
abbrev z7a:=@Nat.lt_irrefl
abbrev z7b:=@PyProof.Rows.callWith_type1
abbrev z7c:=@if_false
abbrev z7d:=@List.mem_append_left
abbrev z7e:=@Nat.lt_or_ge
abbrev z7f:=@PySem.wpAny_mono
abbrev z7g:=@PySem.mem_of_lookup
abbrev z7h:=@of_decide_eq_true
abbrev z7i:=@PySem.Heap.get?_update_ne
abbrev z7j:=@List.pairwise_iff_getElem
abbrev z7k:=@List.length_map
abbrev z7l:=@List.of_mem_zip
abbrev z7m:=@List.length_set
abbrev z7n:=@List.cons.injEq
abbrev z7o:=@List.mem_map
abbrev z7p:=@Int.emod_nonneg
abbrev z7q:=@PySem.W.callWith_K
abbrev z7r:=@Option.isSome_iff_exists
abbrev z7s:=@if_true
abbrev z7t:=@List.drop_append_of_le_length
abbrev z7u:=@PySem.Heap.get?_none_of_le
abbrev z7v:=@Ne.symm
abbrev z7w:=@Nat.le_of_lt
abbrev z7x:=@beq_iff_eq
abbrev z7y:=@List.nodup_cons
abbrev z7z:=@PyProof.Rows.wpS_pure
abbrev z70:=@List.take_of_length_le
abbrev z71:=@PySem.wpAny_execs_cons
abbrev z72:=@List.mem_reverse
abbrev z73:=@Array.getElem?_eq_getElem
abbrev z74:=@PySem.W.hideAll_none
abbrev z75:=@List.pairwise_append
abbrev z76:=@List.mem_of_mem_drop
abbrev z77:=@List.getElem?_take_of_lt
abbrev z78:=@PyProof.Rows.slot_tuple_getitem
abbrev z79:=@Nat.not_lt
abbrev z8a:=@Nat.not_lt_zero
abbrev z8b:=@List.map_map
abbrev z8c:=@PySem.W.hideAll_get
abbrev z8d:=@Nat.add_lt_add_left
abbrev z8e:=@decide_eq_false_iff_not
abbrev z8f:=@List.filter_eq_self
abbrev z8g:=@PySem.Heap.size_update
abbrev z8h:=@List.take_append_of_le_length
abbrev z8i:=@List.lt_irrefl
abbrev z8j:=@List.drop_of_length_le
abbrev z8k:=@Nat.lt_of_le_of_lt
abbrev z8l:=@List.forIn_cons
abbrev z8m:=@PySem.wpAny_newObj_type
abbrev z8n:=@List.reverse_cons
abbrev z8o:=@PySem.W.mg_of
abbrev z8p:=@Bool.eq_false_iff
abbrev z8q:=@Bool.and_true
abbrev z8r:=@List.pairwise_map
abbrev z8s:=@Nat.lt_succ_of_lt
abbrev z8t:=@List.append_assoc
abbrev z8u:=@PySem.wpAny_newFunctionEnv_cells
abbrev z8v:=@List.reverse_reverse
abbrev z8w:=@beq_eq_false_iff_ne
abbrev z8x:=@PySem.codeAny_mono
abbrev z8y:=@PySem.F.args_tuple_add_2
abbrev z8z:=@Nat.sub_self
abbrev z80:=@Array.findIdx?_eq_some_iff_getElem
abbrev z81:=@PySem.wpAny_passesOwn
abbrev z82:=@PySem.F.entry_tuple_add
abbrev z83:=@Bool.not_true
abbrev z84:=@Nat.le_antisymm
abbrev z85:=@List.pairwise_singleton
abbrev z86:=@List.eraseIdx_append_of_length_le
abbrev z87:=@Nat.min_eq_left
abbrev z88:=@List.getElem?_drop
abbrev z89:=@List.filter_cons_of_neg
abbrev z9a:=@PySem.PassesOwn.never
abbrev z9b:=@PySem.F.slot_tuple_add
abbrev z9c:=@PySem.Heap.get?_update_other
abbrev z9d:=@List.drop_eq_nil_of_le
abbrev z9e:=@List.filter_eq_nil_iff
abbrev z9f:=@Nat.le_succ
abbrev z9g:=@List.nodup_append
abbrev z9h:=@List.getElem_take
abbrev z9i:=@List.Perm.refl
abbrev z9j:=@PySem.Heap.get?_update_self
abbrev z9k:=@PyProof.Rows.wpS_forRange
abbrev z9l:=@Nat.succ.inj
abbrev z9m:=@Nat.lt_succ_self
abbrev z9n:=@List.getElem_mem
abbrev z9o:=@Nat.max_eq_right
abbrev z9p:=@List.le_antisymm
abbrev z9q:=@PySem.wpAny_attempt
abbrev z9r:=@PySem.wpAny_call
abbrev z9s:=@List.mem_filter
abbrev z9t:=@PySem.wpAny_execs_nil
abbrev z9u:=@PySem.W.plainGet_of
abbrev z9v:=@PySem.F.attrBase_ValueError
abbrev z9w:=@List.length_eraseIdx_of_lt
abbrev z9x:=@PySem.W.of_hideAll
abbrev z9y:=@PySem.Calls.spliced_cons
abbrev z9z:=@PyProof.Rows.listItems_at
abbrev z90:=@List.filter_append
abbrev z91:=@Bool.false_and
abbrev z92:=@PySem.wpAny_loadPart
abbrev z93:=@PySem.Heap.size_push
abbrev z94:=@PySem.wpAny_Return_some
abbrev z95:=@PySem.W.kitx_list
abbrev z96:=@List.getElem_drop
abbrev z97:=@PyProof.Rows.size_push'
abbrev z98:=@List.length_filterMap_le
abbrev z99:=@List.cons.inj
abbrev qaa:=@List.getElem_inj
abbrev qab:=@Nat.succ_le_succ
abbrev qac:=@PySem.concat_meets
abbrev qad:=@Int.ofNat_lt
abbrev qae:=@Bool.eq_iff_iff
abbrev qaf:=@Int.add_zero
abbrev qag:=@List.mem_range
abbrev qah:=@List.take_take
noncomputable section
namespace L2
open PySem PySem.Spec PyProof.Rows
abbrev Key:=Sum Int Str
def zzf:Key->Value->Bool
 | .inl k,v=>Value.isInt k v
 | .inr x,v=>Value.isStrOf x v
def z43(w:World):Key->Int
 | .inl k=>hashInt k
 | .inr x=>hashStr w x
theorem jr:∀{k:Key}{v:Value},zzf k v=true->(∃i t,k=Sum.inl i/\v=Value.int i t)\/(∃x t,k=Sum.inr x/\v=Value.str x t)
 | .inl i,v,h=>by obtain⟨t,e⟩:=Value.isInt_shape (k:=i) (v:=v) h;exact .inl ⟨i,t,rfl,e⟩
 | .inr x,v,h=>by obtain⟨t,e⟩:=Value.isStrOf_shape (x:=x) (v:=v) h;exact .inr ⟨x,t,rfl,e⟩
theorem zzd(a b:Int):decide ((Sum.inl a:Key)=Sum.inl b)=(a==b):=by
 by_cases e:a=b
 · subst e;simp
 · have h:¬ (Sum.inl a:Key)=Sum.inl b:=fun q=>e (Sum.inl.inj q);rw[z5w h];exact(z8w.mpr e).symm
theorem zy9(a b:Str):decide ((Sum.inr a:Key)=Sum.inr b)=decide (a=b):=by
 by_cases e:a=b
 · subst e;simp
 · have h:¬ (Sum.inr a:Key)=Sum.inr b:=fun q=>e (Sum.inr.inj q);rw[z5w h,z5w e]
theorem zzc(a:Int)(b:Str):decide ((Sum.inl a:Key)=Sum.inr b)=false:=z5w (fun q=>nomatch q)
theorem zza(a:Str)(b:Int):decide ((Sum.inr a:Key)=Sum.inl b)=false:=z5w (fun q=>nomatch q)
def zn2(prog:Program)(w:World):PySem.KeyKind prog w Key where
 is:=zzf
 hash:=z43 w
 inj:=fun v a b ha hb=>by
   rcases jr ha with⟨i,t,rfl,rfl⟩ | ⟨x,t,rfl,rfl⟩
   · rcases jr hb with⟨j,u,rfl,e⟩ | ⟨y,u,rfl,e⟩
     · injection e with e1 _;rw[e1]
     · exact nomatch e
   · rcases jr hb with⟨j,u,rfl,e⟩ | ⟨y,u,rfl,e⟩
     · exact nomatch e
     · injection e with e1 _;rw[e1]
 byValue:=fun k v h=>by rcases jr h with⟨i,t,rfl,rfl⟩ | ⟨x,t,rfl,rfl⟩<;>rfl
 pyHash:=fun hv h=>by
   rcases jr hv with⟨i,t,rfl,rfl⟩ | ⟨x,t,rfl,rfl⟩
   · exact wpAny_pyHash_int h
   · exact wpAny_pyHash_str h
 eqBool:=fun hu hv h=>by
   rcases jr hu with⟨i,t,rfl,rfl⟩ | ⟨x,t,rfl,rfl⟩
   · rcases jr hv with⟨j,u,rfl,rfl⟩ | ⟨y,u,rfl,rfl⟩
     · rw[zzd]at h;exact wpAny_eqBool_int h
     · rw[zzc]at h;exact SeqAt.EqAt.int_str i t y u _ _ _ _ h
   · rcases jr hv with⟨j,u,rfl,rfl⟩ | ⟨y,u,rfl,rfl⟩
     · rw[zza]at h;exact SeqAt.EqAt.str_int x t j u _ _ _ _ h
     · rw[zy9]at h;exact wpAny_eqBool_str h
 «strs»:=fun k x t v h=>by
   rcases jr h with⟨i,u,rfl,e⟩ | ⟨y,u,rfl,e⟩
   · exact nomatch e
   · injection e with e1 _;subst e1;cases v<;>rfl
inductive V where
 |non | bl (b:Bool) | int (i:Int) | str (x:Str) | byt (b:Array UInt8) | flt (b:UInt64) | ref (a:Addr) | ty (n:String)
 deriving DecidableEq
def RelV:V->Value->Prop
 | .non,u=>u=Value.none
 | .bl b,u=>u=Value.bool b
 | .int i,u=>∃t,u=Value.int i t
 | .str x,u=>∃t,u=Value.str x t
 | .byt b,u=>∃t,u=Value.bytes b t
 | .flt b,u=>∃t,u=Value.float b t
 | .ref a,u=>u=Value.ref a
 | .ty n,u=>u=Value.type n
abbrev Vals:List V->List Value->Prop:=Paired RelV
theorem Vals.length{xs:List V}{us:List Value}(r:Vals xs us):xs.length=us.length:=Paired.length r
theorem Vals.get:∀{xs:List V}{us:List Value}{i:Nat}{x:V},Vals xs us->xs[i]? = some x->∃u,us[i]? = some u/\RelV x u
 |_,_,_,_,.nil,e=>by simp at e
 |_,_,0,_,.cons r _,e=>by simp at e;subst e;exact⟨_,rfl,r⟩
 | _,_,i+1,x,.cons _ t,e=>by obtain⟨u,h1,h2⟩:=Vals.get (i:=i) (x:=x) t (by simpa using e);exact⟨u,by simpa using h1,h2⟩
theorem Vals.append:∀{xs ys:List V}{us ws:List Value},Vals xs us->Vals ys ws->Vals (xs++ys) (us++ws)
 |_,_,_,_,.nil,s=>s
 |_,_,_,_,.cons r t,s=>.cons r (Vals.append t s)
theorem Vals.take:∀{xs:List V}{us:List Value} (n:Nat),Vals xs us->Vals (xs.take n) (us.take n)
 |_,_,0,_=>.nil
 |_,_,_+1,.nil=>.nil
 |_,_,n+1,.cons r t=>.cons r (Vals.take n t)
theorem Vals.drop:∀{xs:List V}{us:List Value} (n:Nat),Vals xs us->Vals (xs.drop n) (us.drop n)
 |_,_,0,r=>r
 |_,_,_+1,.nil=>.nil
 |_,_,n+1,.cons _ t=>Vals.drop n t
def RelO:Option V->Option Value->Prop
 |some v,some u=>RelV v u
 |none,none=>True
 |_,_=>False
def KV{κ:Type}:List (κ×V)->List (κ×Value)->Prop:=Paired fun(p:κ×V) (q:κ×Value)=>p.1=q.1/\RelV p.2 q.2
def kV:Key->V
 | .inl i=>.int i
 | .inr x=>.str x
inductive HO where
   |lst (xs:List V)
   |tup (xs:List V)
   |dK (kvs:List (Key×V)) | dT (kvs:List (List Key×V))
   |set (S:Int->Bool) (n:Nat)
   |ins (C dx:Addr) (fs:List (Str×V))
   |own (x:Addr)
   |xd (fs:List (Str×V))
   |met (f x:Addr)
   |rng (lo hi:Int)
   |frz (o:Obj) (u:HO)
   |tbl (ps:Array Value)
   |ext (φ:Heap->Prop)
abbrev Hp:=Addr->Option HO
def upd(H:Hp)(a:Addr)(o:HO):Hp:=fun b=>if b=a then some o else H b
theorem qq{H:Hp}{a:Addr}{o:HO}:upd H a o a=some o:=by unfold upd;rw[z6a rfl]
theorem qf{H:Hp}{a b:Addr}{o:HO}(h:b≠a):upd H a o b=H b:=by unfold upd;rw[z6i h]
theorem q0{H:Hp}{a b:Addr}{o:HO}(h:H a=some o)(h':H b=none):a≠b:=by intro e;subst e;rw[h]at h';cases h'
section
variable (P:Program) (w:World)
def ObjOk(H:Hp)(h:Heap)(a:Addr):HO->Prop
 | .lst xs=>xs.length<=sizeLine/\∃(its:List Value) (n:Nat),Vals xs its/\h.get? a=some { cls:=.type "list",data:=.seq its.toArray n }
 | .tup xs=>xs.length<=sizeLine/\∃its:List Value,Vals xs its/\IsTup h a its.toArray
 | .dK kvs=>kvs.length<=sizeLine/\(a==sysModules)=false/\∃vs,KV kvs vs/\h.DictOf (zn2 P w) a vs
 | .dT kvs=>kvs.length<=sizeLine/\(a==sysModules)=false/\∃xs:List (List Key×Addr×Value),
     Paired (fun(p:List Key×V) (q:List Key×Addr×Value)=>p.1=q.1/\H q.2.1=some (.tup (p.1.map kV))/\RelV p.2 q.2.2) kvs xs /\
     ∃o es ep,h.get? a=some o/\o.ExactDict/\o.data=.dict es ep/\es.toList=xs.map (entryOfKey (tupleKind (zn2 P w)))/\(xs.map (·.1)).Nodup
 | .set S n=>h.SetOf (intKind P w) a S n
 | .ins C dx fs=>H dx=some (.own a)/\fs.length<=1000/\dx≠a/\h.get? a=some (PySem.W.instObj C dx) /\
     ∃mA,h.Ns1 dx mA/\(∀f,RelO (fs.lookup f) (mA f))/\PySem.Within mA (fs.map (·.1))
 | .own _=>∃o,h.get? a=some o
 | .xd fs=>∃mA,h.Ns1 a mA/\∀f,RelO (fs.lookup f) (mA f)
 | .rng lo hi=>∃t u v,h.get? a=some { cls:=.type "range",data:=.fields #[.int lo t,.int hi u,.int 1 v] }
 | .frz o u=>h.get? a=some o/\ObjOk H h a u
 | .tbl ps=>h.get? a=some { cls:=.none,data:=.fields ps }
 | .met f x=>h.get? a=some (PySem.W.methodObj (.ref f) (.ref x))
 | .ext φ=>φ h/\(∃o,h.get? a=some o)/\∀h1 h2:Heap,φ h1->(∀o,h1.get? a=some o->h2.get? a=some o)->φ h2
def HOk(H:Hp)(h:Heap):Prop:=∀a o,H a=some o->ObjOk P w H h a o
end
section
variable {P:Program}{w:World}{H H':Hp}{h h':Heap}{a:Addr}{o:HO}
theorem ObjOk.lt(x:ObjOk P w H h a o):a<h.objs.size:=by
 cases o with
 |lst xs=>obtain⟨_,_,_,_,e⟩:=x;exact z50 e
 |tup xs=>obtain⟨_,_,_,p⟩:=x;exact p.lt
 |dK kvs=>obtain⟨_,_,_,_,o,_,_,e,_⟩:=x;exact z50 e
 |dT kvs=>obtain⟨_,_,_,_,o,_,_,e,_⟩:=x;exact z50 e
 |set S n=>obtain⟨o,_,_,_,e,_⟩:=x;exact z50 e
 |ins C dx fs=>obtain⟨_,_,_,e,_⟩:=x;exact z50 e
 |own y=>obtain⟨_,e⟩:=x;exact z50 e
 |xd fs=>obtain⟨_,⟨_,_,_,e,_⟩,_⟩:=x;exact z50 e
 |rng lo hi=>obtain⟨_,_,_,e⟩:=x;exact z50 e
 |frz ob u=>obtain⟨e,_⟩:=x;exact z50 e
 |tbl ps=>exact z50 (show h.get? a=some _ from x)
 |met f y=>exact z50 (show h.get? a=some _ from x)
 |ext φ=>obtain⟨_,⟨_,e⟩,_⟩:=x;exact z50 e
theorem Paired.mapP{α β:Type}{F G:α->β->Prop}:∀{l₁:List α}{l₂:List β},Paired F l₁ l₂->(∀a b,F a b->G a b)->Paired G l₁ l₂
 |_,_,.nil,_=>.nil
 |_,_,.cons r t,f=>.cons (f _ _ r) (Paired.mapP t f)
theorem ObjOk.stay(x:ObjOk P w H h a o)(k:∀b u,(b=a\/H b=some (.own a))->h.get? b=some u->h'.get? b=some u)
   (ho:∀b,H b=some (.own a)->H' b=some (.own a)) (ht:∀b xs,H b=some (.tup xs)->H' b=some (.tup xs)):ObjOk P w H' h' a o:=by
 induction o with
 |lst xs=>obtain⟨z,its,n,r,e⟩:=x;exact⟨z,its,n,r,k _ _ (.inl rfl) e⟩
 |tup xs=>obtain⟨z,its,r,ob,e,c⟩:=x;exact⟨z,its,r,ob,k _ _ (.inl rfl) e,c⟩
 |dK kvs=>obtain⟨z,y,vs,r,ob,es,ep,e,c⟩:=x;exact⟨z,y,vs,r,ob,es,ep,k _ _ (.inl rfl) e,c⟩
 | dT kvs=>
   obtain⟨z,y,xs,r,ob,es,ep,e,c⟩:=x;exact⟨z,y,xs,Paired.mapP r fun p q z=>⟨z.1,ht _ _ z.2.1,z.2.2⟩,ob,es,ep,k _ _ (.inl rfl) e,c⟩
 |set S n=>obtain⟨ob,es,ep,t,e,c⟩:=x;exact⟨ob,es,ep,t,k _ _ (.inl rfl) e,c⟩
 | ins C dx fs=>
   obtain⟨d,z,ne,e,mA,⟨od,es,ep,e2,c⟩,r⟩:=x;exact⟨ho _ d,z,ne,k _ _ (.inl rfl) e,mA,⟨od,es,ep,k _ _ (.inr d) e2,c⟩,r⟩
 |own y=>obtain⟨ob,e⟩:=x;exact⟨ob,k _ _ (.inl rfl) e⟩
 |xd fs=>obtain⟨mA,⟨od,es,ep,e,c⟩,r⟩:=x;exact⟨mA,⟨od,es,ep,k _ _ (.inl rfl) e,c⟩,r⟩
 |rng lo hi=>obtain⟨t,u,v,e⟩:=x;exact⟨t,u,v,k _ _ (.inl rfl) e⟩
 |frz ob u ih=>obtain⟨e,q⟩:=x;exact⟨k _ _ (.inl rfl) e,ih q⟩
 | tbl ps=>
   have e:h.get? a=some { cls:=.none,data:=.fields ps }:=x;show h'.get? a=some { cls:=.none,data:=.fields ps };exact k a _ (.inl rfl) e
 | met f y=>
   have e:h.get? a=some (PySem.W.methodObj (.ref f) (.ref y)):=x;show h'.get? a=some (PySem.W.methodObj (.ref f) (.ref y));exact k a _ (.inl rfl) e
 |ext φ=>obtain⟨p,⟨o,e⟩,st⟩:=x;exact⟨st _ _ p fun o q=>k _ _ (.inl rfl) q,⟨o,k _ _ (.inl rfl) e⟩,st⟩
theorem HOk.lt(x:HOk P w H h)(e:H a=some o):a<h.objs.size:=(x a o e).lt
theorem HOk.fresh(x:HOk P w H h)(e:h.objs.size<=a):H a=none:=by
 cases q:H a with
 |none=>rfl
 |some u=>exact absurd (z5r (x.lt q) e) (z7a _)
theorem HOk.kept(x:HOk P w H h)(k:∀b u,h.get? b=some u->h'.get? b=some u):HOk P w H h':=fun a o e=>
 (x a o e).stay (fun b u _ q=>k b u q) (fun _ q=>q) fun _ _ q=>q
theorem HOk.laid(x:HOk P w H h)(k:∀b u,h.get? b=some u->h'.get? b=some u)(hp:h.objs.size<=a)(new:ObjOk P w (upd H a o) h' a o):HOk P w (upd H a o) h':=fun b u e=>by
 have hn:=x.fresh hp;by_cases hb:b=a
 · subst hb;rw[qq]at e;cases e;exact new
 · rw[qf hb]at e;exact(x b u e).stay (fun c v _ q=>k c v q) (fun c q=>by rw[qf (q0 q hn)];exact q) fun c xs q=>by rw[qf (q0 q hn)];exact q
end
def Rd(H:Hp)(a:Addr)(u:HO):Prop:=H a=some u\/∃o,H a=some (.frz o u)
theorem Rd.ok{P:Program}{w:World}{H:Hp}{h:Heap}{a:Addr}{u:HO}(r:Rd H a u)(x:HOk P w H h):ObjOk P w H h a u:=by
 rcases r with r | ⟨o,r⟩
 · exact x a u r
 · obtain⟨_,q⟩:=x a _ r;exact q
def Mut:Option HO->Prop
 |some (.lst _)=>True
 |some (.dK _)=>True
 |some (.dT _)=>True
 |some (.set _ _)=>True
 |some (.ins _ _ _)=>True
 |some (.ext _)=>True
 |_=>False
section
variable {P:Program}{w:World}{H:Hp}{h h':Heap}{x e:Addr}{o':HO}
theorem HOk.write(ok:HOk P w H h)(mu:Mut (H x))(he:e=x\/H e=some (.own x))(k:∀b u,b≠e->h.get? b=some u->h'.get? b=some u)(heo:∃u,h'.get? e=some u)
   (new:ObjOk P w (upd H x o') h' x o'):HOk P w (upd H x o') h':=fun b u q=>by
 have nown:∀c y,H c=some (.own y)->c≠x:=fun c y r z=>by subst z;rw[r]at mu;exact mu
 have ntup:∀c xs,H c=some (.tup xs)->c≠x:=fun c xs r z=>by subst z;rw[r]at mu;exact mu
 by_cases hb:b=x
 · subst hb;rw[qq]at q;cases q;exact new
 · rw[qf hb]at q;by_cases hbe:b=e
   · have q':H b=some (.own x):=by
       rcases he with z | z
       · exact absurd (hbe.trans z) hb
       · rw[hbe];exact z
     rw[q]at q';cases q';obtain⟨v,hv⟩:=heo;exact⟨v,by rw[hbe];exact hv⟩
   · refine(ok b u q).stay (fun c v hc r=>k c v ?_ r) (fun c r=>by rw[qf (nown c b r)];exact r) fun c xs r=>by rw[qf (ntup c xs r)];exact r
     rcases hc with rfl | hc
     · exact hbe
     · rintro rfl;rcases he with z | z
       · exact nown c b hc z
       · rw[hc]at z;cases z;exact hb rfl
end
structure Un (fs ex:List Addr) (H H':Hp) (h h':Heap):Prop where
 keep:∀b o,h.get? b=some o->H b=none->b∉fs->b∉ex->h'.get? b=some o
 slot:∀b o,h.get? b=some o->H b=none->b∈fs->b∉ex->∃sl,h'.get? b=some { o with slots:=sl }
 free:∀b o,h.get? b=some o->H b=none->b∉ex->H' b=none
 there:∀b o,h.get? b=some o->b∉ex->∃o',h'.get? b=some o'
 tups:∀b xs,H b=some (.tup xs)->H' b=some (.tup xs)
 frzs:∀b o u,H b=some (.frz o u)->H' b=some (.frz o u)
 tbls:∀b ps,H b=some (.tbl ps)->∃more,H' b=some (.tbl (ps++more))
section
variable {fs fs' ex ex':List Addr}{H H1 H2:Hp}{h h1 h2 h':Heap}{a x e:Addr}{o:HO}
theorem Un.any(u:Un fs ex H H1 h h1){b:Addr}{ob:Obj}(q:h.get? b=some ob)(n:H b=none)(hx:b∉ex):∃sl,h1.get? b=some { ob with slots:=sl }:=by
 by_cases hb:b∈fs
 · exact u.slot b ob q n hb hx
 · exact⟨ob.slots,u.keep b ob q n hb hx⟩
theorem Un.kept(k:∀b u,h.get? b=some u->h'.get? b=some u):Un fs ex H H h h' :=
 ⟨fun b ob q _ _ _=>k b ob q,fun b ob q _ _ _=>⟨ob.slots,k b ob q⟩,fun _ _ _ n _=>n,fun b ob q _=>⟨ob,k b ob q⟩,fun _ _ q=>q,fun _ _ _ q=>q,fun _ ps q=>⟨#[],by rw[q];simp⟩⟩
theorem Un.refl:Un fs ex H H h h:=Un.kept fun _ _ q=>q
theorem Un.laid(k:∀b u,h.get? b=some u->h'.get? b=some u)(hp:h.objs.size<=a)(hn:H a=none):Un fs ex H (upd H a o) h h' where
 keep:=fun b u q _ _ _=>k b u q
 slot:=fun b u q _ _ _=>⟨u.slots,k b u q⟩
 free:=fun b u q n _=>by rw[qf (z53 (z5r (z50 q) hp))];exact n
 there:=fun b u q _=>⟨u,k b u q⟩
 tups:=fun b xs q=>by rw[qf (q0 q hn)];exact q
 frzs:=fun b u xs q=>by rw[qf (q0 q hn)];exact q
 tbls:=fun b ps q=>⟨#[],by rw[qf (q0 q hn),q];simp⟩
theorem Un.write(mu:Mut (H x))(he:e=x\/H e=some (.own x))(k:∀b u,b≠e->h.get? b=some u->h'.get? b=some u)(heo:∃u,h'.get? e=some u):Un fs ex H (upd H x o) h h':=by
 have hx:∀b,H b=none->b≠x:=fun b n z=>by subst z;rw[n]at mu;exact mu
 have hb:∀b,H b=none->b≠e:=fun b n z=>by
   subst z;rcases he with r | r
   · exact hx b n r
   · rw[n]at r;cases r
 have hm:∀b u,H b=some u->¬ Mut (some u)->b≠x:=fun b u q nm z=>by subst z;rw[q]at mu;exact nm mu
 refine⟨fun b u q n _ _=>k b u (hb b n) q,fun b u q n _ _=>⟨u.slots,k b u (hb b n) q⟩,fun b u q n _=>by rw[qf (hx b n)];exact n,fun b u q _=>?_,
   fun b xs q=>by rw[qf (hm b _ q fun z=>z)];exact q,fun b u xs q=>by rw[qf (hm b _ q fun z=>z)];exact q,fun b ps q=>⟨#[],by rw[qf (hm b _ q fun z=>z),q];simp⟩⟩
 by_cases hbe:b=e
 · subst hbe;exact heo
 · exact⟨u,k b u hbe q⟩
end
def trk(h:Heap)(H:Hp):List Addr:=(List.range h.objs.size).filter fun a=>(H a).isSome
def zrc(h:Heap)(H:Hp):Heap:=PySem.W.hideAll h (trk h H)
theorem zol(h:Heap)(H:Hp):(zrc h H).objs.size=h.objs.size:=PySem.W.hideAll_size _ _
theorem zf4{h:Heap}{H:Hp}{b:Addr}{o:Obj}(e:h.get? b=some o)(n:H b=none):(zrc h H).get? b=some o :=
 z8c _ e fun hm=>by have q:(H b).isSome=true:=(z9s.mp hm).2;rw[n]at q;simp at q
theorem zvc{h:Heap}{H:Hp}{b:Addr}{o:Obj}(e:(zrc h H).get? b=some o):h.get? b=some o/\H b=none:=by
 have e':h.get? b=some o:=z9x (trk h H) e;refine⟨e',?_⟩;cases q:H b with
 |none=>rfl
 | some x=>
   have hm:b∈trk h H:=z9s.mpr ⟨qag.mpr (z50 e'),by simp[q]⟩;have z:(zrc h H).get? b=none:=z74 (trk h H) hm;rw[z]at e;cases e
def zwp(g h:Heap)(L:Addr):zAO:=(List.range h.objs.size).filterMap fun a=>if a=L\/(g.get? a).isSome=true then none else (h.get? a).map fun o=>(a,o)
def rest(g h:Heap)(L d:Addr):zAO:=(zwp g h L).filter fun p=>decide (p.1≠d)
structure Mod (K:zFr) (mg:zMg) (base:Heap):Prop where
 kin:K.In base
 glob:base.Ns mainGlobals mg
 blt:∃mb,base.Ns builtinsNs mb/\∀x:Str,x≠"__name__"->mb x=bootBuiltins x
 nolimit:base.NoLimit
structure Cx where
 prog:Program
 w:World
 K:zFr
 mg:zMg
 base:Heap
 A:Around
 N:List Str
 s₀:Shared
 H₀:Hp
 env:Env
 outer:List Env
 stack:List Env
 ex:List Addr
 fn:Str->Bool
 calm:Bool
 pn:zAO
 xe:zVP
def frs(l:List Env):List Addr:=l.filterMap (·.frame)
abbrev Cx.fs(X:Cx):List Addr:=frs X.outer
def Vis(sc:Scope)(x:Str):Prop:=sc.names.lookup x=some .local\/sc.names.lookup x=some .cell\/sc.names.lookup x=some .free
def Loc(sc:Scope)(x:Str):Prop:=sc.names.lookup x=some .local\/sc.names.lookup x=some .cell
def z5h(env:Env)(h:Heap)(m:zMg)(x:Str)(u:Value):Prop :=
 (env.kindOf x=some .local/\m x=some u)\/((env.kindOf x=some .cell\/env.kindOf x=some .free)/\∃c,env.cells.lookup x=some c/\h.IsCell c (some u))
structure Cx.Ok (X:Cx):Prop where
 mod:Mod X.K X.mg X.base
 kind:X.env.scope.kind=.function
 glob:X.env.globals=mainGlobals
 blt:X.env.builtins=builtinsNs
 above:X.s₀.heap.objs.size<=X.env.locals
 inj:∀x y c,X.env.cells.lookup x=some c->X.env.cells.lookup y=some c->x=y
 has:∀x,(X.env.kindOf x=some .cell\/X.env.kindOf x=some .free)->∃c,X.env.cells.lookup x=some c
 cab:∀x c,X.fn x=true->X.env.cells.lookup x=some c->X.s₀.heap.objs.size<=c
 hd:X.calm=true->X.A.handled=none
 frames:X.A.frames=some X.stack
 stk:X.stack=X.outer\/(X.stack=X.env::X.outer/\X.env.frame=some X.env.locals)
 exf:∀b∈X.ex,b≠X.env.locals/\∀x c,X.env.cells.lookup x=some c->c≠b
 bs:∀b o,X.base.get? b=some o->X.s₀.heap.get? b=some o/\X.H₀ b=none
 bsz:X.base.objs.size<=X.s₀.heap.objs.size
 noex:∀b o,X.base.get? b=some o->b∉X.ex
 exfs:∀b∈X.ex,b∉X.fs
 funs:X.s₀.heap.FunFrames X.base X.outer
 frf:∀b∈X.fs,X.H₀ b=none
structure Inv (X:Cx) (pins:zAO) (σ:List (Option V)) (H:Hp) (s:Shared):Prop where
 ok:X.Ok
 os:s.os=X.s₀.os
 bare:AllBare s.gens
 base:Un X.fs X.ex X.H₀ H X.s₀.heap s.heap
 loc:∃m,s.heap.Ns X.env.locals m/\∀(i:Nat) (x:Str) (v:V),X.N[i]? = some x->σ[i]? = some (some v)->Vis X.env.scope x->∃u,RelV v u/\z5h X.env s.heap m x u
 cell:∀x c,X.env.cells.lookup x=some c->∃v,s.heap.IsCell c v
 free:H X.env.locals=none
 freeC:∀x c,X.env.cells.lookup x=some c->H c=none
 pin:∀p∈X.pn++pins,s.heap.get? p.1=some p.2/\H p.1=none/\p.1≠X.env.locals/\p.1∉X.fs/\∀v,p.2.data≠.cell v
 hok:HOk X.prog X.w H s.heap
 len:σ.length=X.N.length
section
variable {X:Cx}{pins:zAO}{σ:List (Option V)}{H H':Hp}{s:Shared}{h':Heap}
theorem Cx.Ok.nofr(ok:X.Ok){b:Addr}{o:Obj}(e:X.base.get? b=some o):b∉X.fs:=fun hb=>by have:=(ok.funs.mem hb).1;rw[e]at this;cases this
theorem Inv.bs(I:Inv X pins σ H s):∀b o,X.base.get? b=some o->s.heap.get? b=some o/\H b=none:=fun b o e=>
 ⟨I.base.keep b o (I.ok.bs b o e).1 (I.ok.bs b o e).2 (I.ok.nofr e) (I.ok.noex b o e),I.base.free b o (I.ok.bs b o e).1 (I.ok.bs b o e).2 (I.ok.noex b o e)⟩
theorem Inv.bk(I:Inv X pins σ H s):∀b o,X.base.get? b=some o->s.heap.get? b=some o:=fun b o e=>(I.bs b o e).1
theorem Inv.mod(I:Inv X pins σ H s):Mod X.K X.mg X.base:=I.ok.mod
theorem Inv.kIn(I:Inv X pins σ H s):X.K.In s.heap:=I.ok.mod.kin.keeps I.bk
theorem Inv.lt(I:Inv X pins σ H s):X.env.locals<s.heap.objs.size:=let⟨_,hn,_⟩:=I.loc;hn.lt
theorem Inv.sz(I:Inv X pins σ H s):X.s₀.heap.objs.size<=s.heap.objs.size:=z57 I.ok.above (z7w I.lt)
theorem Inv.nofs(I:Inv X pins σ H s){a:Addr}(h:s.heap.objs.size<=a):a∉X.fs:=fun hb=>by obtain⟨_,o,ho,_⟩:=I.ok.funs.mem hb;exact absurd (z5r (z50 ho) (z57 I.sz h)) (z7a _)
theorem Inv.cne(I:Inv X pins σ H s):∀x c,X.env.cells.lookup x=some c->c≠X.env.locals:=fun x c e z=>by obtain⟨v,o,ho,hd⟩:=I.cell x c e;obtain⟨m,⟨o',es,ep,ho',hd',_⟩,_⟩:=I.loc;rw[z,ho']at ho;cases ho;rw[hd']at hd;cases hd
theorem Inv.funs(I:Inv X pins σ H s):s.heap.FunFrames X.base X.outer:=by
 have all:∀(l:List Env),(∀b∈frs l,b∈X.fs)->X.s₀.heap.FunFrames X.base l->s.heap.FunFrames X.base l:=by
   intro l
   induction l with
   |nil=>intro _ _;trivial
   | cons env r ih=>
     intro hs hl;obtain⟨hk,⟨L,o,hf,hn,ho,hd⟩,hr⟩:=hl;have hL:L∈X.fs:=hs L (by unfold frs;rw[List.filterMap_cons,hf];exact z5x);obtain⟨sl,e⟩:=I.base.slot L o ho (I.ok.frf L hL) hL fun z=>I.ok.exfs L z hL;exact⟨hk,⟨L,_,hf,hn,e,hd⟩,ih (fun b hb=>hs b (by unfold frs;rw[List.filterMap_cons,hf];exact z5n _ hb)) hr⟩
 exact all X.outer (fun _ hb=>hb) I.ok.funs
theorem Inv.stack(I:Inv X pins σ H s):s.heap.FunFrames X.base X.stack:=by
 rcases I.ok.stk with e | ⟨e,hf⟩
 · rw[e];exact I.funs
 · rw[e];obtain⟨m,hn,_⟩:=I.loc;refine .cons (by rw[I.ok.kind];decide) hf hn ?_ I.funs;exact z7u (z57 I.ok.bsz I.ok.above)
theorem Inv.stkSub(I:Inv X pins σ H s):∀b∈frs X.stack,b∈X.env.locals::X.fs:=fun b hb=>by
 rcases I.ok.stk with e | ⟨e,hf⟩
 · rw[e]at hb;exact z5n _ hb
 · rw[e]at hb;unfold frs at hb;rw[List.filterMap_cons,hf]at hb;exact hb
theorem Inv.stkFree(I:Inv X pins σ H s):∀b∈frs X.stack,H b=none:=fun b hb=>by
 rcases z51.mp (I.stkSub b hb)with e | hb
 · rw[e];exact I.free
 · obtain⟨_,o,ho,_⟩:=I.ok.funs.mem hb;exact I.base.free b o ho (I.ok.frf b hb) fun z=>I.ok.exfs b z hb
theorem Inv.step{g':Array GenState}{t':Nat}{d':Drawn}{ch:List Addr}(I:Inv X pins σ H s)
   (hch:∀b∈ch,(b∈X.ex\/X.s₀.heap.objs.size<=b)/\b≠X.env.locals/\(∀x c,X.env.cells.lookup x=some c->c≠b)/\∀p∈X.pn++pins,p.1≠b)
   (keep:∀b o,b≠X.env.locals->b∉X.fs->b∉ch->s.heap.get? b=some o->H b=none->h'.get? b=some o)
   (slot:∀b o,b≠X.env.locals->b∈X.fs->b∉ch->s.heap.get? b=some o->H b=none->∃sl,h'.get? b=some { o with slots:=sl }) (free:∀b o,b∉ch->s.heap.get? b=some o->H b=none->H' b=none)
   (there:∀b o,b∉ch->s.heap.get? b=some o->∃o',h'.get? b=some o')
   (tups:∀b xs,H b=some (.tup xs)->H' b=some (.tup xs)) (frzs:∀b o u,H b=some (.frz o u)->H' b=some (.frz o u)) (tbls:∀b ps,H b=some (.tbl ps)->∃more,H' b=some (.tbl (ps++more)))
   (ns:∀m,s.heap.Ns X.env.locals m->h'.Ns X.env.locals m) (hok:HOk X.prog X.w H' h') (hg:AllBare g') :
   Inv X pins σ H' { s with heap:=h',gens:=g',drawn:=d',toks:=t' }:=by
 have neL:∀b o,X.s₀.heap.get? b=some o->b≠X.env.locals:=fun b o e=>z53 (z5r (z50 e) I.ok.above);have neC:∀b o,X.s₀.heap.get? b=some o->b∉X.ex->b∉ch:=fun b o e hx hb=>by
   rcases(hch b hb).1 with z | z
   · exact hx z
   · exact absurd (z5r (z50 e) z) (z7a _)
 have cellK:∀x c,X.env.cells.lookup x=some c->∀v,s.heap.IsCell c v->h'.IsCell c v:=fun x c e v ⟨o,ho,hd⟩=>by
   have nch:c∉ch:=fun z=>(hch c z).2.2.1 x c e rfl;by_cases hc:c∈X.fs
   · obtain⟨sl,q⟩:=slot c o (I.cne x c e) hc nch ho (I.freeC x c e);exact⟨_,q,hd⟩
   · exact⟨o,keep c o (I.cne x c e) hc nch ho (I.freeC x c e),hd⟩
 refine⟨I.ok,I.os,hg,⟨fun b o e n hb hx=>?_,fun b o e n hb hx=>?_,fun b o e n hx=>?_,fun b o e hx=>?_,fun b xs e=>tups b xs (I.base.tups b xs e),fun b o xs e=>frzs b o xs (I.base.frzs b o xs e),fun b ps e=>?_⟩,?_,fun x c e=>?_,?_,fun x c e=>?_,fun p hp=>?_,hok,I.len⟩
 · exact keep b o (neL b o e) hb (neC b o e hx) (I.base.keep b o e n hb hx) (I.base.free b o e n hx)
 · obtain⟨sl,e1⟩:=I.base.slot b o e n hb hx;obtain⟨sl',e2⟩:=slot b _ (neL b o e) hb (neC b o e hx) e1 (I.base.free b o e n hx);exact⟨sl',e2⟩
 · obtain⟨o',e1⟩:=I.base.there b o e hx;exact free b o' (neC b o e hx) e1 (I.base.free b o e n hx)
 · obtain⟨o',e1⟩:=I.base.there b o e hx;exact there b o' (neC b o e hx) e1
 · obtain⟨m1,e1⟩:=I.base.tbls b ps e;obtain⟨m2,e2⟩:=tbls b _ e1;exact⟨m1++m2,by rw[e2,Array.append_assoc]⟩
 · obtain⟨m,hn,hl⟩:=I.loc;refine⟨m,ns m hn,fun i x v e1 e2 e3=>?_⟩;obtain⟨u,r,l⟩:=hl i x v e1 e2 e3;refine⟨u,r,?_⟩;rcases l with l | ⟨k,c,e,z⟩
   · exact .inl l
   · exact .inr ⟨k,c,e,cellK x c e _ z⟩
 · obtain⟨v,z⟩:=I.cell x c e;exact⟨v,cellK x c e v z⟩
 · obtain⟨m,⟨o,_,_,ho,_⟩,_⟩:=I.loc;exact free _ o (fun z=>(hch _ z).2.1 rfl) ho I.free
 · obtain⟨v,o,ho,hd⟩:=I.cell x c e;exact free c o (fun z=>(hch c z).2.2.1 x c e rfl) ho (I.freeC x c e)
 · obtain⟨e,n,ne,nf,d⟩:=I.pin p hp;have nch:p.1∉ch:=fun z=>(hch p.1 z).2.2.2 p hp rfl;exact⟨keep p.1 p.2 ne nf nch e n,free p.1 p.2 nch e n,ne,nf,d⟩
theorem Inv.un{t':Nat}(I:Inv X pins σ H s)(u:Un X.fs [] H H' s.heap h')(hok:HOk X.prog X.w H' h'):Inv X pins σ H' { s with heap:=h',toks:=t' }:=by
 obtain⟨m,⟨o,es,ep,ho,r⟩,_⟩:=id I.loc;obtain⟨sl,hL⟩:=u.any ho I.free (by simp);exact I.step (g':=s.gens) (d':=s.drawn) (ch:=[]) (fun _ z=>nomatch z) (fun b o _ hb _ e n=>u.keep b o e n hb (by simp)) (fun b o _ hb _ e n=>u.slot b o e n hb (by simp)) (fun b o _ e n=>u.free b o e n (by simp)) (fun b o _ e=>u.there b o e (by simp)) u.tups u.frzs u.tbls (fun m' hm=>by
   obtain⟨o',es',ep',ho',r'⟩:=hm;rw[ho]at ho';cases ho';exact⟨_,es',ep',hL,r'⟩) hok I.bare
theorem Inv.call{g':Array GenState}{t':Nat}{d':Drawn}{ch:List Addr}(I:Inv X pins σ H s)(u:Un (frs X.stack) ch H H' s.heap h')(hok:HOk X.prog X.w H' h')(hg:AllBare g')
   (hch:∀b∈ch,(b∈X.ex\/X.s₀.heap.objs.size<=b)/\b≠X.env.locals/\(∀x c,X.env.cells.lookup x=some c->c≠b)/\∀p∈X.pn++pins,p.1≠b) :
   Inv X pins σ H' { s with heap:=h',gens:=g',drawn:=d',toks:=t' }:=by
 obtain⟨m,⟨o,es,ep,ho,r⟩,_⟩:=id I.loc;obtain⟨sl,hL⟩:=u.any ho I.free fun z=>(hch _ z).2.1 rfl;exact I.step (ch:=ch) hch (fun b o hL hb hc e n=>u.keep b o e n (fun z=>(z51.mp (I.stkSub b z)).elim hL hb) hc) (fun b o _ _ hc e n=>u.any e n hc) (fun b o hc e n=>u.free b o e n hc) (fun b o hc e=>u.there b o e hc) u.tups u.frzs u.tbls (fun m' hm=>by
   obtain⟨o',es',ep',ho',r'⟩:=hm;rw[ho]at ho';cases ho';exact⟨_,es',ep',hL,r'⟩) hok hg
theorem Inv.turned{t':Nat}{it:Addr}(I:Inv X pins σ H s)(k:∀b o,b≠it->s.heap.get? b=some o->h'.get? b=some o)(hn:H it=none)(hL:it≠X.env.locals)
   (h1:it∈X.ex\/X.s₀.heap.objs.size<=it) (h2:∀x c,X.env.cells.lookup x=some c->c≠it) (h3:∀p∈X.pn++pins,p.1≠it):Inv X pins σ H { s with heap:=h',toks:=t' }:=by
 have nit:∀b u,H b=some u->b≠it:=fun b u e z=>by rw[z,hn]at e;cases e
 refine I.step (g':=s.gens) (d':=s.drawn) (ch:=[it]) (fun b hb=>?_) (fun b o _ _ hc e _=>k b o (fun z=>hc (by simp[z])) e) (fun b o _ _ hc e _=>⟨o.slots,k b o (fun z=>hc (by simp[z])) e⟩) (fun _ _ _ _ n=>n)
   (fun b o hc e=>⟨o,k b o (fun z=>hc (by simp[z])) e⟩) (fun _ _ e=>e) (fun _ _ _ e=>e) (fun b ps e=>⟨#[],by rw[e];simp⟩) (fun m hm=>?_) (fun b u e=>?_) I.bare
 · have e:b=it:=by simpa using hb
   subst e;exact⟨h1,hL,h2,h3⟩
 · obtain⟨o,es,ep,ho,r⟩:=hm;exact⟨o,es,ep,k _ o (z7v hL) ho,r⟩
 · refine(I.hok b u e).stay (fun c v hc q=>k c v ?_ q) (fun _ q=>q) fun _ _ q=>q;rcases hc with z | z
   · rw[z];exact nit b u e
   · exact nit c _ z
theorem Inv.tok(I:Inv X pins σ H s)(t:Nat):Inv X pins σ H { s with toks:=t }:=I.un (h':=s.heap) (t':=t) Un.refl I.hok
theorem Inv.kept{t':Nat}(I:Inv X pins σ H s)(k:∀b u,s.heap.get? b=some u->h'.get? b=some u):Inv X pins σ H { s with heap:=h',toks:=t' }:=I.un (Un.kept k) (I.hok.kept k)
theorem Inv.laid{a:Addr}{o:HO}{t':Nat}(I:Inv X pins σ H s)(k:∀b u,s.heap.get? b=some u->h'.get? b=some u)(hp:s.heap.objs.size<=a)(new:ObjOk X.prog X.w (upd H a o) h' a o) :
   Inv X pins σ (upd H a o) { s with heap:=h',toks:=t' }:=I.un (Un.laid k hp (I.hok.fresh hp)) (I.hok.laid k hp new)
theorem Inv.write{x e:Addr}{o:HO}{t':Nat}(I:Inv X pins σ H s)(mu:Mut (H x))(he:e=x\/H e=some (.own x))(k:∀b u,b≠e->s.heap.get? b=some u->h'.get? b=some u)(heo:∃u,h'.get? e=some u)
   (new:ObjOk X.prog X.w (upd H x o) h' x o):Inv X pins σ (upd H x o) { s with heap:=h',toks:=t' }:=I.un (Un.write mu he k heo) (I.hok.write mu he k heo new)
theorem Inv.pins_of{pins':zAO}(I:Inv X pins σ H s)(h:∀p∈pins',s.heap.get? p.1=some p.2/\H p.1=none/\p.1≠X.env.locals/\p.1∉X.fs/\∀v,p.2.data≠.cell v):Inv X pins' σ H s :=
 ⟨I.ok,I.os,I.bare,I.base,I.loc,I.cell,I.free,I.freeC,fun p hp=>(z6e.mp hp).elim (fun z=>I.pin p (z7d _ z)) (h p),I.hok,I.len⟩
theorem zfs{N:List Str}(hN:N.Nodup){i j:Nat}{x:Str}(a:N[i]? = some x)(b:N[j]? = some x):i=j:=by obtain⟨h1,e1⟩:=z5q.mp a;obtain⟨h2,e2⟩:=z5q.mp b;exact(qaa hN).mp (e1.trans e2.symm)
theorem zgz{M:Model}{A:Around}{E:zVP}{i:Nat}{x:Str}{v:V}{u:Value}{Q:Unit->Shared->Prop}(I:Inv X pins σ H s)(hN:X.N.Nodup)(hi:X.N[i]? = some x)(hx:Loc X.env.scope x)(r:RelV v u)
   (h:∀s',Inv X pins (σ.set i (some v)) H s'->(∃a,Heap.SameBut a s.heap s'.heap/\(a=X.env.locals\/X.env.cells.lookup x=some a))->Q () s') (hf:X.fn x=true\/X.env.scope.names.lookup x=some .local:=by first | exact .inl rfl | exact .inr rfl | assumption):wpAny M A (storeName X.env x u) Q E s:=by
 obtain⟨m,hn,hl⟩:=id I.loc;have hcls:(X.env.scope.kind==.class||(X.env.scope.kind==.module&&X.env.locals != X.env.globals))=false:=by rw[I.ok.kind];rfl
 have hiσ:i<σ.length:=by rw[I.len];exact(z5q.mp hi).1
 have cne:=I.cne;have tracked:∀{a:Addr}{h':Heap},(∃o,s.heap.get? a=some o/\H a=none)->Heap.SameBut a s.heap h'->HOk X.prog X.w H h':=fun {a h'} ha hs b ob e=>by
   obtain⟨_,_,hfree⟩:=ha;refine(I.hok b ob e).stay (fun c w' hc q=>(hs.2 c ?_).trans q) (fun _ q=>q) fun _ _ q=>q;rintro rfl;rcases hc with rfl | hc
   · rw[hfree]at e;cases e
   · rw[hfree]at hc;cases hc
 rcases hx with hk | hk
 · refine wpAny_storeName_local hk hn (fun h' hn' hs=>?_) hcls;obtain⟨oL,_,_,hoL,_⟩:=id hn;refine h _ ⟨I.ok,I.os,I.bare,⟨fun b o e n hb hx=>?_,fun b o e n hb hx=>?_,I.base.free,fun b o e hx=>?_,I.base.tups,I.base.frzs,I.base.tbls⟩,⟨_,hn',fun j y v' e1 e2 e3=>?_⟩,fun y c e=>?_,I.free,I.freeC,fun p hp=>?_,tracked ⟨oL,hoL,I.free⟩ hs,by simpa using I.len⟩ ⟨_,hs,.inl rfl⟩
   · exact(hs.2 b (z53 (z5r (z50 e) I.ok.above))).trans (I.base.keep b o e n hb hx)
   · obtain⟨sl,e1⟩:=I.base.slot b o e n hb hx;exact⟨sl,(hs.2 b (z53 (z5r (z50 e) I.ok.above))).trans e1⟩
   · obtain⟨o',e1⟩:=I.base.there b o e hx;exact⟨o',(hs.2 b (z53 (z5r (z50 e) I.ok.above))).trans e1⟩
   · by_cases hj:j=i
     · subst hj;rw[hi]at e1;cases e1;rw[z6p hiσ]at e2;cases e2;exact⟨u,r,.inl ⟨hk,by simp⟩⟩
     · rw[z6x (z7v hj)]at e2;obtain⟨u',r',q⟩:=hl j y v' e1 e2 e3;refine⟨u',r',?_⟩;rcases q with⟨k,e⟩ | ⟨k,c,e,z⟩
       · refine .inl ⟨k,?_⟩;have:y≠x:=fun e=>hj (zfs hN e1 (e▸hi));simp[this,e]
       · exact .inr ⟨k,c,e,z.sameBut hs (cne y c e)⟩
   · obtain⟨w',z⟩:=I.cell y c e;exact⟨w',z.sameBut hs (cne y c e)⟩
   · obtain⟨e,n,ne,nf,d⟩:=I.pin p hp;exact⟨(hs.2 p.1 ne).trans e,n,ne,nf,d⟩
 · have hfn:X.fn x=true:=by
     rcases hf with z | z
     · exact z
     · rw[z]at hk;cases hk
   obtain⟨c,hc⟩:=I.ok.has x (.inl hk);obtain⟨w',z⟩:=I.cell x c hc;refine wpAny_storeName_cell I.ok.kind hk hc z (fun h' hc' hs=>?_);obtain⟨oc,hoc,hocd⟩:=id z;refine h { s with heap:=h' } ⟨I.ok,I.os,I.bare,⟨fun b o e n hb hx=>?_,fun b o e n hb hx=>?_,I.base.free,fun b o e hx=>?_,I.base.tups,I.base.frzs,I.base.tbls⟩,⟨m,hn.sameBut hs (z7v (cne x c hc)),fun j y v' e1 e2 e3=>?_⟩,fun y c' e=>?_,I.free,I.freeC,fun p hp=>?_,tracked ⟨oc,hoc,I.freeC x c hc⟩ hs,by simpa using I.len⟩ ⟨c,hs,.inr hc⟩
   · exact(hs.2 b (z53 (z5r (z50 e) (I.ok.cab x c hfn hc)))).trans (I.base.keep b o e n hb hx)
   · obtain⟨sl,e1⟩:=I.base.slot b o e n hb hx;exact⟨sl,(hs.2 b (z53 (z5r (z50 e) (I.ok.cab x c hfn hc)))).trans e1⟩
   · obtain⟨o',e1⟩:=I.base.there b o e hx;exact⟨o',(hs.2 b (z53 (z5r (z50 e) (I.ok.cab x c hfn hc)))).trans e1⟩
   · by_cases hj:j=i
     · subst hj;rw[hi]at e1;cases e1;rw[z6p hiσ]at e2;cases e2;exact⟨u,r,.inr ⟨.inl hk,c,hc,hc'⟩⟩
     · rw[z6x (z7v hj)]at e2;obtain⟨u',r',q⟩:=hl j y v' e1 e2 e3;refine⟨u',r',?_⟩;rcases q with q | ⟨k,c',e,z'⟩
       · exact .inl q
       · refine .inr ⟨k,c',e,z'.sameBut hs ?_⟩;rintro rfl;exact hj (zfs hN e1 (I.ok.inj _ _ _ e hc▸hi))
   · by_cases hcc:c'=c
     · subst hcc;exact⟨_,hc'⟩
     · obtain⟨w2,z2⟩:=I.cell y c' e;exact⟨w2,z2.sameBut hs hcc⟩
   · obtain⟨e,n,ne,nf,d⟩:=I.pin p hp;refine⟨(hs.2 p.1 ?_).trans e,n,ne,nf,d⟩;intro q;rw[q,hoc]at e;have q':oc=p.2:=z6j e;exact d w' (by rw[<-q'];exact hocd)
theorem zc3{M:Model}{A:Around}{E:zVP}{i:Nat}{x:Str}{v:V}{u:Value}{Q:Unit->Shared->Prop}(I:Inv X pins σ H s)(hN:X.N.Nodup)(hi:X.N[i]? = some x)(hx:Loc X.env.scope x)(r:RelV v u)
   (h:∀s',Inv X pins (σ.set i (some v)) H s'->Q () s') (hf:X.fn x=true\/X.env.scope.names.lookup x=some .local:=by first | exact .inl rfl | exact .inr rfl | assumption):wpAny M A (storeName X.env x u) Q E s :=
 zgz I hN hi hx r (fun s' I' _=>h s' I') hf
theorem Inv.call'{s':Shared}{ch:List Addr}(I:Inv X pins σ H s)(ho:s'.os=s.os)(u:Un (frs X.stack) ch H H' s.heap s'.heap)(hok:HOk X.prog X.w H' s'.heap)(hg:AllBare s'.gens)
   (hch:∀b∈ch,(b∈X.ex\/X.s₀.heap.objs.size<=b)/\b≠X.env.locals/\(∀x c,X.env.cells.lookup x=some c->c≠b)/\∀p∈X.pn++pins,p.1≠b):Inv X pins σ H' s':=by
 obtain⟨h',g',d',t',o'⟩:=s';have e:o'=s.os:=ho;subst e;exact I.call (g':=g') (t':=t') (d':=d') u hok hg hch
end
abbrev XK:=Value->Option Addr->Hp->Prop
abbrev St:=List (Option V)
abbrev VK:=V->Hp->Prop
abbrev TE:=St->Hp->VK->Prop
abbrev TT:=St->Hp->(Bool->Hp->Prop)->Prop
abbrev TA:=St->Hp->(List V->Hp->Prop)->Prop
structure Ends where
 nx:St->Hp->Prop
 rt:VK
 bk:St->Hp->Prop:=fun _ _=>False
 ct:St->Hp->Prop:=fun _ _=>False
abbrev TS:=Ends->St->Hp->Prop
def EP(X:Cx)(pins:zAO)(σ:St)(Q:VK)(u:Value)(s':Shared):Prop:=∃v H',Inv X pins σ H' s'/\RelV v u/\Q v H'
def TP(X:Cx)(pins:zAO)(σ:St)(Q:Bool->Hp->Prop)(b:Bool)(s':Shared):Prop:=∃H',Inv X pins σ H' s'/\Q b H'
def AP(X:Cx)(pins:zAO)(σ:St)(Q:List V->Hp->Prop)(us:List Value)(s':Shared):Prop:=∃vs H',Inv X pins σ H' s'/\Vals vs us/\Q vs H'
def SP(X:Cx)(pins:zAO)(D:Ends)(f:Flow)(s':Shared):Prop :=
 match f with
 | .next=>∃σ' H',Inv X pins σ' H' s'/\D.nx σ' H'
 | .brk=>∃σ' H',Inv X pins σ' H' s'/\D.bk σ' H'
 | .cont=>∃σ' H',Inv X pins σ' H' s'/\D.ct σ' H'
 | .ret u=>∃v σ' H',Inv X pins σ' H' s'/\RelV v u/\D.rt v H'
def PE(X:Cx)(e:Expr)(t:TE):Prop :=
 ∀(pins:zAO) (s:Shared) (σ:St) (H:Hp) (Q:VK),Inv X pins σ H s->t σ H Q->wpAny (model X.prog X.w) X.A (eval e X.env) (EP X pins σ Q) X.xe s
def PT(X:Cx)(e:Expr)(t:TT):Prop :=
 ∀(pins:zAO) (s:Shared) (σ:St) (H:Hp) (Q:Bool->Hp->Prop),Inv X pins σ H s->t σ H Q->wpAny (model X.prog X.w) X.A (isTrue e X.env (eval e X.env)) (TP X pins σ Q) X.xe s
def PW(X:Cx)(e:Expr)(t:TT):Prop :=
 ∀(whole:Sem Value) (pins:zAO) (s:Shared) (σ:St) (H:Hp) (Q:Bool->Hp->Prop),Inv X pins σ H s->t σ H Q->wpAny (model X.prog X.w) X.A (isTrue e X.env whole) (TP X pins σ Q) X.xe s
theorem PW.pt{X:Cx}{e:Expr}{t:TT}(h:PW X e t):PT X e t:=h _
def PA(X:Cx)(es:List Expr)(t:TA):Prop :=
 ∀(pos:Pos) (pins:zAO) (s:Shared) (σ:St) (H:Hp) (Q:List V->Hp->Prop),Inv X pins σ H s->t σ H Q->wpAny (model X.prog X.w) X.A (spliced (backTo pos (starEach es X.env))) (AP X pins σ Q) X.xe s
def PS(X:Cx)(st:Stmt)(t:TS):Prop :=
 ∀(pins:zAO) (s:Shared) (σ:St) (H:Hp) (D:Ends),Inv X pins σ H s->t D σ H->wpAny (model X.prog X.w) X.A (exec st X.env) (SP X pins D) X.xe s
def PSs(X:Cx)(st:List Stmt)(t:TS):Prop :=
 ∀(pins:zAO) (s:Shared) (σ:St) (H:Hp) (D:Ends),Inv X pins σ H s->t D σ H->wpAny (model X.prog X.w) X.A (execs st X.env) (SP X pins D) X.xe s
theorem thn{α:Type}{t:Sem α}{Q Q':α->Shared->Prop}{M:Model}{A:Around}{E:zVP}{s:Shared}(h:wpAny M A t Q E s)(hQ:∀a s,Q a s->Q' a s):wpAny M A t Q' E s:=z7f h hQ fun _ _ x=>x
section
variable {X:Cx}
def z4a(i:Nat):TE:=fun σ H Q=>∃v,σ[i]? = some (some v)/\Q v H
def tC(v:V):TE:=fun _ H Q=>Q v H
theorem zyb{i:Nat}{x:Str}{pos:Pos}(hN:X.N[i]? = some x)(hv:Vis X.env.scope x)(hd:(x==("__debug__":Str))=false:=by decide)(hcd:(x==("__classdict__":Str))=false:=by decide):PE X (.Name x pos) (z4a i):=by
 intro pins s σ H Q I h;obtain⟨v,e,h⟩:=h;obtain⟨m,hn,hl⟩:=I.loc;obtain⟨u,r,l⟩:=hl i x v hN e hv;have fin:EP X pins σ Q u s:=⟨v,H,I,r,h⟩
 rcases l with⟨hk,hm⟩ | ⟨hk,c,hc,hcell⟩
 · exact wpAny_Name (wpAny_loadName_local I.ok.kind hk hn hm fin) hd
 · rcases hk with hk | hk
   · exact wpAny_Name (wpAny_loadName_cell I.ok.kind hk hc hcell fin) hd
   · exact wpAny_Name (wpAny_loadName_free I.ok.kind hk hc hcell fin hcd) hd
theorem zyh{i j pos}:PE X (.Constant (.int i) j pos) (tC (.int i)):=fun _ _ _ H _ I h=>wpAny_Constant_int ⟨.int i,H,I.tok _,⟨_,rfl⟩,h⟩
theorem z2a{b j pos}:PE X (.Constant (.bool b) j pos) (tC (.bl b)):=fun _ _ _ H _ I h=>Constant_bool ⟨.bl b,H,I,rfl,h⟩
theorem zyg{j pos}:PE X (.Constant .none j pos) (tC .non):=fun _ _ _ H _ I h=>Constant_none ⟨.non,H,I,rfl,h⟩
theorem zyd{x j pos}:PE X (.Constant (.str x) j pos) (tC (.str x)):=fun _ _ _ H _ I h=>Calls.Constant_str ⟨.str x,H,I.tok _,⟨_,rfl⟩,h⟩
def Gl(X:Cx)(x:Str):Prop:=X.env.kindOf x=some .globalImplicit
theorem za0{E:zVP}{pins:zAO}{s:Shared}{σ:St}{H:Hp}{x:Str}{u:Value}{pos:Pos}{Q:zVP}(I:Inv X pins σ H s)(hg:Gl X x)(hm:X.mg x=some u)(h:Q u s)
   (hd:(x==("__debug__":Str))=false:=by decide):wpAny (model X.prog X.w) X.A (eval (.Name x pos) X.env) Q E s :=
 Calls.Name_function_global I.ok.kind hg (Calls.loadGlobal_global (by rw[I.ok.glob];exact I.mod.glob.keeps I.bk) hm h) hd
theorem zcq{E:zVP}{pins:zAO}{s:Shared}{σ:St}{H:Hp}{x:Str}{u:Value}{pos:Pos}{Q:zVP}(I:Inv X pins σ H s)(hg:Gl X x)(hm:X.mg x=none)(hv:bootBuiltins x=some u)(h:Q u s)
   (hn:x≠"__name__":=by decide) (hd:(x==("__debug__":Str))=false:=by decide):wpAny (model X.prog X.w) X.A (eval (.Name x pos) X.env) Q E s:=by
 obtain⟨mb,h1,h2⟩:=I.mod.blt;exact Calls.Name_function_global I.ok.kind hg (Calls.loadGlobal_builtin (by rw[I.ok.glob];exact I.mod.glob.keeps I.bk) hm (by rw[I.ok.blt];exact h1.keeps I.bk) ((h2 x hn).trans hv) h) hd
theorem zno{x:Str}{v:V}{u:Value}{pos:Pos}(hg:Gl X x)(hm:X.mg x=some u)(r:RelV v u)(hd:(x==("__debug__":Str))=false:=by decide):PE X (.Name x pos) (tC v) :=
 fun _ _ _ H _ I h=>za0 I hg hm ⟨v,H,I,r,h⟩ hd
theorem zu8{x:Str}{v:V}{u:Value}{pos:Pos}(hg:Gl X x)(hm:X.mg x=none)(hv:bootBuiltins x=some u)(r:RelV v u)(hn:x≠"__name__":=by decide)(hd:(x==("__debug__":Str))=false:=by decide):PE X (.Name x pos) (tC v) :=
 fun _ _ _ H _ I h=>zcq I hg hm hv ⟨v,H,I,r,h⟩ hn hd
variable {a b:Expr}{ta tb:TE}{pos:Pos}
def tB(t:TE):TT:=fun σ H Q=>t σ H fun x H1=>∃c,x=.bl c/\Q c H1
theorem zx2{e:Expr}{t:TE}(h:PE X e t)(he:∀whole,isTrue e X.env whole=(do let v <-whole;standAt e.pos;holding [v] (truthy v)):=by intro _;rfl):PT X e (tB t):=by intro pins s σ H Q I hw;refine isTrue_plain (thn (h pins s σ H _ I hw) fun v s1 ⟨x,H1,I1,r1,q1⟩=>?_) (he _);obtain⟨d,rfl,q⟩:=q1;cases r1;exact z6v ⟨H1,I1,q⟩
variable {tA tB':TT}{rest:List Expr}
def z4m(t u:TT):TT:=fun σ H Q=>t σ H fun c H1=>if c=true then u σ H1 Q else Q false H1
def tOr(t u:TT):TT:=fun σ H Q=>t σ H fun c H1=>if c=true then Q true H1 else u σ H1 Q
def z4f(t:TT):TT:=fun σ H Q=>t σ H fun c H1=>Q (!c) H1
theorem zuv(ha:PT X a tA):PW X (.BoolOp .And [a] pos) tA:=by
 intro wh pins s σ H Q I h;refine isTrue_and (thn (ha pins s σ H Q I h) fun c s1 e=>?_);cases c with
 |true=>exact isTrue_and_nil e
 |false=>exact e
theorem zxz(ha:PT X a tA):PW X (.BoolOp .Or [a] pos) tA:=by
 intro wh pins s σ H Q I h;refine isTrue_or (thn (ha pins s σ H Q I h) fun c s1 e=>?_);cases c with
 |false=>exact isTrue_or_nil e
 |true=>exact e
theorem zx0(ha:PT X a tA)(hb:PW X (.BoolOp .And (b::rest) pos) tB'):PW X (.BoolOp .And (a::b::rest) pos) (z4m tA tB'):=by
 intro wh pins s σ H Q I h;refine isTrue_and (thn (ha pins s σ H _ I h) fun c s1 ⟨H1,I1,q1⟩=>?_);cases c with
 |true=>exact hb wh pins s1 σ H1 Q I1 q1
 |false=>exact⟨H1,I1,q1⟩
theorem z12(ha:PT X a tA)(hb:PW X (.BoolOp .Or (b::rest) pos) tB'):PW X (.BoolOp .Or (a::b::rest) pos) (tOr tA tB'):=by
 intro wh pins s σ H Q I h;refine isTrue_or (thn (ha pins s σ H _ I h) fun c s1 ⟨H1,I1,q1⟩=>?_);cases c with
 |true=>exact⟨H1,I1,q1⟩
 |false=>exact hb wh pins s1 σ H1 Q I1 q1
theorem zx3(ha:PT X a tA):PT X (.UnaryOp .Not a pos) (z4f tA):=by intro pins s σ H Q I h;exact isTrue_not (ha pins s σ H (fun c H1=>Q (!c) H1) I h)
def z1v(ta tb:TE):TE:=fun σ H Q=>ta σ H fun x H1=>∃c,x=.bl c/\if c=true then tb σ H1 Q else Q (.bl false) H1
def z1p(ta:TE):TE:=fun σ H Q=>ta σ H fun x H1=>∃c,x=.bl c/\Q (.bl (!c)) H1
theorem zye{op}{t:TE}(h:PE X a t):PE X (.BoolOp op [a] pos) t:=fun pins s σ H Q I hw=>BoolOp_one (h pins s σ H Q I hw)
theorem zyj(ha:PE X a ta)(hb:PE X (.BoolOp .And (b::rest) pos) tb):PE X (.BoolOp .And (a::b::rest) pos) (z1v ta tb):=by
 intro pins s σ H Q I h;refine BoolOp_and (thn (ha pins s σ H _ I h) fun v s1 ⟨x,H1,I1,r1,q1⟩=>?_);obtain⟨c,rfl,q1⟩:=q1;cases r1;refine z6v ?_;cases c with
 |true=>exact hb pins s1 σ H1 Q I1 q1
 |false=>exact⟨.bl false,H1,I1,rfl,q1⟩
theorem zyf(ha:PE X a ta):PE X (.UnaryOp .Not a pos) (z1p ta):=by intro pins s σ H Q I h;refine UnaryOp_ (thn (ha pins s σ H _ I h) fun v s1 ⟨x,H1,I1,r1,q1⟩=>?_);obtain⟨c,rfl,q1⟩:=q1;cases r1;exact not_of (z6v ⟨.bl (!c),H1,I1,rfl,q1⟩)
end
def SqL(K:zFr)(H:Hp)(a:Addr)(xs:List V):Prop :=
 Rd H a (.lst xs) \/
   ∃(o:Obj) (its:Array Value) (n:Nat),K.lookup a=some o/\o.cls=.type "list"/\o.dict=none/\o.data=.seq its n/\its.size<=sizeLine/\Vals xs its.toList
def SqT(K:zFr)(H:Hp)(a:Addr)(xs:List V):Prop :=
 Rd H a (.tup xs) \/
   ∃(o:Obj) (its:Array Value) (n:Nat),K.lookup a=some o/\o.cls=.type "tuple"/\o.data=.seq its n/\its.size<=sizeLine/\Vals xs its.toList
def z5g:Value->Option V
 | .none=>some .non
 | .bool b=>some (.bl b)
 | .int i _=>some (.int i)
 | .str x _=>some (.str x)
 | .bytes b _=>some (.byt b)
 | .float b _=>some (.flt b)
 | .ref a=>some (.ref a)
 | .type n=>some (.ty n)
 |_=>none
theorem RelV.abs{x:V}{u:Value}(r:RelV x u):z5g u=some x:=by
 cases x with
 |non=>cases r;rfl
 |bl _=>cases r;rfl
 |int _=>obtain⟨t,rfl⟩:=r;rfl
 |str _=>obtain⟨t,rfl⟩:=r;rfl
 |byt _=>obtain⟨t,rfl⟩:=r;rfl
 |flt _=>obtain⟨t,rfl⟩:=r;rfl
 |ref _=>cases r;rfl
 |ty _=>cases r;rfl
theorem RelV.inj{x y:V}{u:Value}(r:RelV x u)(q:RelV y u):x=y:=z6j (r.abs.symm.trans q.abs)
theorem Vals.inj:∀{xs ys:List V}{us:List Value},Vals xs us->Vals ys us->xs=ys
 |_,_,_,.nil,.nil=>rfl
 |_,_,_,.cons r t,.cons r' t'=>by rw[r.inj r',Vals.inj t t']
section
variable {X:Cx}{pins:zAO}{σ:St}{H:Hp}{s:Shared}{a:Addr}{xs ys:List V}
theorem SqL.of{K:zFr}(h:H a=some (.lst xs)):SqL K H a xs:=.inl (.inl h)
theorem Inv.list(I:Inv X pins σ H s)(h:SqL X.K H a xs):∃its:List Value,Vals xs its/\PlainL s.heap a its.toArray/\xs.length<=sizeLine:=by
 rcases h with h | ⟨o,its,n,hk,hc,hd,hs,hz,r⟩
 · obtain⟨z,its,n,r,e⟩:=h.ok I.hok;exact⟨its,r,⟨_,n,e,rfl,rfl,rfl⟩,z⟩
 · refine⟨its.toList,r,⟨o,n,I.kIn a o hk,hc,hd,by simpa using hs⟩,?_⟩;have e:=r.length;simp only[Array.length_toList]at e;omega
theorem Inv.tuple(I:Inv X pins σ H s)(h:SqT X.K H a xs):∃its:List Value,Vals xs its/\IsTup s.heap a its.toArray/\xs.length<=sizeLine:=by
 rcases h with h | ⟨o,its,n,hk,hc,hs,hz,r⟩
 · obtain⟨z,its,r,p⟩:=h.ok I.hok;exact⟨its,r,p,z⟩
 · refine⟨its.toList,r,⟨o,I.kIn a o hk,hc,n,by simpa using hs⟩,?_⟩;have e:=r.length;simp only[Array.length_toList]at e;omega
theorem Inv.list_inj(I:Inv X pins σ H s)(h:SqL X.K H a xs)(h':SqL X.K H a ys):xs=ys:=by
 obtain⟨its,r,⟨o,n,e,_,_,d⟩,_⟩:=I.list h;obtain⟨its',r',⟨o',n',e',_,_,d'⟩,_⟩:=I.list h';rw[e]at e';cases e';rw[d]at d';injection d' with d1 _;have:its=its':=by simpa using z68 Array.toList d1
 subst this;exact r.inj r'
theorem Inv.tuple_inj(I:Inv X pins σ H s)(h:SqT X.K H a xs)(h':SqT X.K H a ys):xs=ys:=by
 obtain⟨its,r,⟨o,e,_,n,d⟩,_⟩:=I.tuple h;obtain⟨its',r',⟨o',e',_,n',d'⟩,_⟩:=I.tuple h';rw[e]at e';cases e';rw[d]at d';injection d' with d1 _;have:its=its':=by simpa using z68 Array.toList d1
 subst this;exact r.inj r'
end
abbrev Cx.wish(X:Cx)(E:zVP):Cx:={ X with xe:=E }
abbrev Cx.nox(X:Cx):Cx:=X.wish fun _ _=>False
theorem Cx.Ok.wish{X:Cx}(ok:X.Ok)(E:zVP):(X.wish E).Ok :=
 ⟨ok.mod,ok.kind,ok.glob,ok.blt,ok.above,ok.inj,ok.has,ok.cab,ok.hd,ok.frames,ok.stk,ok.exf,ok.bs,ok.bsz,ok.noex,ok.exfs,ok.funs,ok.frf⟩
theorem Cx.Ok.unwish{X:Cx}{E:zVP}(ok:(X.wish E).Ok):X.Ok :=
 ⟨ok.mod,ok.kind,ok.glob,ok.blt,ok.above,ok.inj,ok.has,ok.cab,ok.hd,ok.frames,ok.stk,ok.exf,ok.bs,ok.bsz,ok.noex,ok.exfs,ok.funs,ok.frf⟩
section
variable {X:Cx}{pins:zAO}{σ:St}{H:Hp}{s:Shared}{E:zVP}
theorem Inv.wish(I:Inv X pins σ H s)(E:zVP):Inv (X.wish E) pins σ H s:=⟨I.ok.wish E,I.os,I.bare,I.base,I.loc,I.cell,I.free,I.freeC,I.pin,I.hok,I.len⟩
theorem Inv.unwish(I:Inv (X.wish E) pins σ H s):Inv X pins σ H s:=⟨I.ok.unwish,I.os,I.bare,I.base,I.loc,I.cell,I.free,I.freeC,I.pin,I.hok,I.len⟩
theorem SP.unwish{D:Ends}{f:Flow}{s':Shared}(h:SP (X.wish E) pins D f s'):SP X pins D f s':=by
 cases f with
 |next=>obtain⟨σ',H',I,q⟩:=h;exact⟨σ',H',I.unwish,q⟩
 |brk=>obtain⟨σ',H',I,q⟩:=h;exact⟨σ',H',I.unwish,q⟩
 |cont=>obtain⟨σ',H',I,q⟩:=h;exact⟨σ',H',I.unwish,q⟩
 |ret u=>obtain⟨v,σ',H',I,r,q⟩:=h;exact⟨v,σ',H',I.unwish,r,q⟩
theorem PE.nox{e:Expr}{t:TE}(h:PE X.nox e t):PE X e t:=fun pins s σ H Q I hw=>
 z7f (h pins s σ H Q (I.wish _) hw) (fun _ _ ⟨v,H',I',r,q⟩=>⟨v,H',I'.unwish,r,q⟩) fun _ _ z=>False.elim z
theorem PSs.nox{st:List Stmt}{t:TS}(h:PSs X.nox st t):PSs X st t:=fun pins s σ H D I hw=>
 z7f (h pins s σ H D (I.wish _) hw) (fun _ _ q=>q.unwish) fun _ _ z=>False.elim z
end
section
variable {X:Cx}{st:Stmt}{rest:List Stmt}{t u:TS}{e:Expr}{te:TE}{pos:Pos}
def z1q:TS:=fun D σ H=>D.nx σ H
def z4c(t u:TS):TS:=fun D σ H=>t { D with nx:=u D } σ H
theorem zuz:PSs X [] z1q:=fun _ _ σ H _ I h=>z9t ⟨σ,H,I,h⟩
theorem zqu(h1:PS X st t)(h2:PSs X rest u):PSs X (st::rest) (z4c t u):=by
 intro pins s σ H D I h;refine z71 (thn (h1 pins s σ H { D with nx:=u D } I h) fun f s1 q=>?_);cases f with
 | next=>
   obtain⟨σ',H',I',q⟩:=q;exact h2 pins s1 σ' H' D I' q
 |ret v=>exact q
 |brk=>exact q
 |cont=>exact q
theorem zuy(h1:PS X st t):PSs X [st] t:=by
 intro pins s σ H D I h;refine z71 (thn (h1 pins s σ H D I h) fun f s1 q=>?_);cases f with
 |next=>exact z9t q
 |ret v=>exact q
 |brk=>exact q
 |cont=>exact q
theorem Inv.quiet{pins:zAO}{σ:St}{H:Hp}{s:Shared}(I:Inv X pins σ H s):interactive X.env=false:=by simp[interactive,I.ok.kind]
def z1t(te:TE):TS:=fun D σ H=>te σ H fun _ H1=>D.nx σ H1
theorem zni(he:PE X e te)(hs:swapsWith e none pos.line X.env=pure false:=by rfl):PS X (.Expr e pos) (z1t te):=by intro pins s σ H D I h;exact wpAny_Expr_any (thn (he pins s σ H _ I h) fun v s1 ⟨x,H1,I1,r1,q1⟩=>⟨σ,H1,I1,q1⟩) I.quiet hs
def z4e(te:TE):TS:=fun D σ H=>te σ H D.rt
theorem zx5(he:PE X e te):PS X (.Return (some e) pos) (z4e te):=by intro pins s σ H D I h;exact z94 (thn (he pins s σ H _ I h) fun v s1 ⟨x,H1,I1,r1,q1⟩=>⟨x,σ,H1,I1,r1,q1⟩)
def z1n:TS:=fun D _ H=>D.rt .non H
theorem zu0:PS X (.Return none pos) z1n:=fun _ _ σ H _ I h=>wpAny_Return_none ⟨.non,σ,H,I,rfl,h⟩
def z4i(c:TT)(t u:TS):TS:=fun D σ H=>c σ H fun b H1=>if b=true then t D σ H1 else u D σ H1
theorem z15{c:Expr}{a b:List Stmt}{tc:TT}(hc:PT X c tc)(ha:PSs X a t)(hb:PSs X b u):PS X (.If c a b pos) (z4i tc t u):=by
 intro pins s σ H D I h;refine wpAny_If (thn (hc pins s σ H _ I h) fun d s1 ⟨H1,I1,q1⟩=>?_);cases d with
 |true=>exact ha pins s1 σ H1 D I1 q1
 |false=>exact hb pins s1 σ H1 D I1 q1
def zxb:TS:=fun _ _ _=>False
theorem zqv:PS X st zxb:=fun _ _ _ _ _ _ h=>h.elim
end
abbrev TG:=V->St->Hp->(St->Hp->Prop)->Prop
abbrev TGs:=List V->St->Hp->(St->Hp->Prop)->Prop
def PG(X:Cx)(target:Expr)(t:TG):Prop :=
 ∀(pins:zAO) (s:Shared) (σ:St) (H:Hp) (v:V) (u:Value) (Q:St->Hp->Prop),Inv X pins σ H s->RelV v u->t v σ H Q ->
   wpAny (model X.prog X.w) X.A (assign target X.env u) (fun _ s'=>∃σ' H',Inv X pins σ' H' s'/\Q σ' H') X.xe s
def PGs(X:Cx)(ts:List Expr)(t:TGs):Prop :=
 ∀(pins:zAO) (s:Shared) (σ:St) (H:Hp) (vs:List V) (us:List Value) (Q:St->Hp->Prop),Inv X pins σ H s->Vals vs us->t vs σ H Q ->
   wpAny (model X.prog X.w) X.A (assignInOrder ((assignEach ts X.env).map (·.2)) us) (fun _ s'=>∃σ' H',Inv X pins σ' H' s'/\Q σ' H') X.xe s
section
variable {X:Cx}{pos:Pos}
def zhh(i:Nat):TG:=fun v σ H Q=>Q (σ.set i (some v)) H
theorem zfp{i:Nat}{x:Str}(hN:X.N.Nodup)(hi:X.N[i]? = some x)(hx:Loc X.env.scope x)(hf:X.fn x=true\/X.env.scope.names.lookup x=some .local:=by first | exact .inl rfl | exact .inr rfl | assumption):PG X (.Name x pos) (zhh i):=by intro pins s σ H v u Q I r h;exact wpAny_assign_Name (zc3 I hN hi hx r (fun s' I'=>⟨_,H,I',h⟩) hf)
def z34:TGs:=fun vs σ H Q=>vs=[]/\Q σ H
def zrg(t:TG)(u:TGs):TGs:=fun vs σ H Q=>∃v r,vs=v::r/\t v σ H fun σ' H'=>u r σ' H' Q
theorem zu3:PGs X [] z34:=by intro pins s σ H vs us Q I r h;obtain⟨e,h⟩:=h;subst e;cases r;exact assignInOrder_nil ⟨σ,H,I,h⟩
theorem zqy{e:Expr}{es:List Expr}{t:TG}{u:TGs}(h1:PG X e t)(h2:PGs X es u)
   (hs:(assignEach (e::es) X.env).map (·.2)=assign e X.env::(assignEach es X.env).map (·.2):=by rfl):PGs X (e::es) (zrg t u):=by
 intro pins s σ H vs us Q I r h;obtain⟨v,vr,e1,h⟩:=h;subst e1;cases r with
 | cons r rr=>
   rw[hs];refine assignInOrder_cons (thn (h1 pins s σ H _ _ _ I r h) fun _ s1 ⟨σ1,H1,I1,q1⟩=>?_);exact h2 pins s1 σ1 H1 _ _ Q I1 rr q1
def z45(K:zFr)(n:Nat)(t:TGs):TG:=fun v σ H Q=>∃a xs,v=.ref a/\SqT K H a xs/\xs.length=n/\t xs σ H Q
theorem znn{es:List Expr}{k:Nat}{t:TGs}{n:Nat}(hc:X.calm=true)(h:PGs X es t)
   (hn:(assignEach es X.env).length=n:=by rfl) (hst:(assignEach es X.env).findIdx? (·.1)=none:=by rfl):PG X (.Tuple es k pos) (z45 X.K n t):=by
 intro pins s σ H v u Q I r hw;obtain⟨a,xs,e1,hq,hl,hw⟩:=hw;subst e1;cases r;obtain⟨its,rv,ht,hz⟩:=I.tuple hq;refine assign_Tuple_tuple (I.ok.hd hc) ht (by simp[hn,<-hl,rv.length]) hst fun h' hx=>?_;have I1:Inv X pins σ H { s with heap:=h' }:=I.kept (t':=s.toks) fun b o e=>hx b o (z53 (z50 e)) e;exact h pins _ σ H xs _ Q I1 (by simpa using rv) hw
def z3o(te:TE)(g:TG):TS:=fun D σ H=>te σ H fun x H1=>g x σ H1 D.nx
theorem zx7{tg e:Expr}{te:TE}{g:TG}(he:PE X e te)(hg:PG X tg g)(hs:swapsWithSole [tg] e pos.line X.env=pure false:=by rfl)(hw:swappedStores [tg] e X.env=pure none:=by rfl)
   (h1:(assignEach [tg] X.env).map (·.2)=[assign tg X.env]:=by rfl):PS X (.Assign [tg] e pos) (z3o te g):=by
 intro pins s σ H D I h;refine wpAny_Assign_stores (thn (he pins s σ H _ I h) fun v s1 ⟨x,H1,I1,r1,q1⟩=>?_) hs hw;rw[h1];exact thn (hg pins s1 σ H1 x v _ I1 r1 q1) fun _ s2 q=>q
theorem zx4{i:Nat}{x:Str}{e:Expr}{te:TE}{pos':Pos}(hN:X.N.Nodup)(hi:X.N[i]? = some x)(hx:Loc X.env.scope x)(he:PE X e te)(hs:swapsWith e (some (.Name x pos')) pos.line X.env=pure false:=by rfl)(hf:X.fn x=true\/X.env.scope.names.lookup x=some .local:=by first | exact .inl rfl | exact .inr rfl | assumption) :
   PS X (.Assign [.Name x pos'] e pos) (z3o te (zhh i)):=by
 intro pins s σ H D I h;refine wpAny_Assign_Name (thn (he pins s σ H _ I h) fun v s1 ⟨y,H1,I1,r1,q1⟩=>?_) hs;exact zc3 I1 hN hi hx r1 (fun s2 I2=>⟨_,H1,I2,q1⟩) hf
end
structure It where
 go:Nat->Hp->Prop
 yld:Nat->Hp->V->Hp->Prop
 stop:Nat->Hp->Prop
def zma(X:Cx)(pins:zAO)(H:Hp)(b:Addr):Prop :=
 H b=none/\b≠X.env.locals/\b∉X.fs/\(b∈X.ex\/X.s₀.heap.objs.size<=b)/\(∀x c,X.env.cells.lookup x=some c->c≠b)/\∀p∈X.pn++pins,p.1≠b
theorem Inv.fpOk{X:Cx}{pins:zAO}{σ:St}{H H':Hp}{s:Shared}{b:Addr}(I:Inv X pins σ H s)(hb:s.heap.objs.size<=b)(hn:H' b=none):zma X pins H' b:=by
 refine⟨hn,Nat.ne_of_gt (z5r I.lt hb),I.nofs hb,.inr (z57 I.sz hb),fun x c e z=>?_,fun p hp z=>?_⟩
 · obtain⟨v,q⟩:=I.cell x c e;exact absurd (z5r q.lt (by rw[z];exact hb)) (z7a _)
 · exact absurd (z5r (z50 (I.pin p hp).1) (by rw[z];exact hb)) (z7a _)
structure Turn (P:Program) (w:World) (K:zFr) (tg:Expr) (J:It) (fp:List Addr) (it:Addr) (tn:Nat->Heap->Prop):Prop where
 mem:it∈fp
 obj:∀i h,tn i h->∀b∈fp,∃o,h.get? b=some o/\∀v,o.data≠.cell v
 keep:∀i h h',tn i h->(∀b∈fp,∀o,h.get? b=some o->h'.get? b=some o)->tn i h'
 item:∀(X:Cx),X.prog=P->X.w=w->X.K=K->X.calm=true->∀(i:Nat) (pins:zAO) (s:Shared) (σ:St) (H:Hp) (E:zVP),Inv X pins σ H s->(∀b∈fp,zma X pins H b)->tn i s.heap->J.go i H ->
   wpAny (model P w) X.A (pyNext (.ref it)) (fun r s1=>∃u,r=some u /\
     wpAny (model P w) X.A (letOwnedTupleGo tg (.ref it) u) (fun _ s2=>∃x H',Inv X pins σ H' s2/\RelV x u/\J.yld i H x H'/\tn (i+1) s2.heap/\∀b∈fp,H' b=none) E s1) E s
 done:∀(X:Cx),X.prog=P->X.w=w->X.K=K->X.calm=true->∀(i:Nat) (pins:zAO) (s:Shared) (σ:St) (H:Hp) (E:zVP),Inv X pins σ H s->(∀b∈fp,zma X pins H b)->tn i s.heap->J.stop i H ->
   wpAny (model P w) X.A (pyNext (.ref it)) (fun r s1=>r=none/\Inv X pins σ H s1) E s
 self:∀(A:Around) (i:Nat) (s:Shared) (Q:zVP) (E:zVP),tn i s.heap->Q (.ref it) s->wpAny (model P w) A (pyIter (.ref it)) Q E s
abbrev TI:=St->Hp->(It->Hp->Prop)->Prop
def PIE(X:Cx)(pins:zAO)(σ:St)(tg:Expr)(R:It->Hp->Prop)(itv:Value)(s2:Shared):Prop :=
 ∃(it:Addr) (fp:List Addr) (tn:Nat->Heap->Prop) (J:It) (H':Hp),itv=.ref it/\Inv X pins σ H' s2/\Turn X.prog X.w X.K tg J fp it tn/\tn 0 s2.heap/\(∀b∈fp,zma X pins H' b)/\R J H'
def PI(X:Cx)(tg iter:Expr)(wi:TI):Prop :=
 ∀(pins:zAO) (s:Shared) (σ:St) (H:Hp) (R:It->Hp->Prop),Inv X pins σ H s->wi σ H R ->
   wpAny (model X.prog X.w) X.A (eval iter X.env) (fun v s1=>wpAny (model X.prog X.w) X.A (pyIter v) (PIE X pins σ tg R) X.xe s1) X.xe s
theorem zvv{M:Model}{A:Around}{E:zVP}{s:Shared}{tg:Expr}{it:Addr}{u:Value}{o:Obj}{n:String}{vs:Array Value}{Q:Unit->Shared->Prop}(ho:s.heap.get? it=some o)(hc:o.cls=.type n)(hd:o.data=.fields vs)
   (hn:["enumerate", "zip", "dict_itemiterator", "dict_reverseitemiterator", "odict_iterator", "itertools.zip_longest", "itertools.pairwise"].contains n=false) (hQ:Q () s):wpAny M A (letOwnedTupleGo tg (.ref it) u) Q E s:=by
 unfold letOwnedTupleGo;cases tg<;>first
   |exact z52 hQ
   | (cases u<;>first
       |exact z52 hQ
       | (refine z5m (wpAny_load ho ?_)
          rw[hc,hd];show wpAny M A (if(["enumerate", "zip", "dict_itemiterator", "dict_reverseitemiterator", "odict_iterator", "itertools.zip_longest", "itertools.pairwise"].contains n&&vs[0]?==some (rawInt _))=true then _ else _) Q E s;rw[z6i (by intro h;rw[hn,z91]at h;cases h)];exact z52 hQ))
def Itl(K:zFr)(a:Addr):It :=
 ⟨fun i H=>∃xs x,SqL K H a xs/\xs[i]? = some x,fun i H x H'=>H'=H/\∀xs,SqL K H a xs->xs[i]? = some x,fun i H=>∃xs,SqL K H a xs/\xs.length<=i⟩
def Itt(K:zFr)(a:Addr):It :=
 ⟨fun i H=>∃xs x,SqT K H a xs/\xs[i]? = some x,fun i H x H'=>H'=H/\∀xs,SqT K H a xs->xs[i]? = some x,fun i H=>∃xs,SqT K H a xs/\xs.length<=i⟩
def Itr(lo:Int)(n:Nat):It:=⟨fun i _=>i<n,fun i H x H'=>H'=H/\x=.int (lo+i),fun i _=>n<=i⟩
theorem zmq{P:Program}{w:World}{K:zFr}{tg:Expr}(a it:Addr):Turn P w K tg (Itl K a) [it] it (fun i h=>h.IsListIter it a i) where
 mem:=by simp
 obj:=fun i h st b hb=>by
   have e:b=it:=by simpa using hb
   subst e;obtain⟨o,e,c,d⟩:=st;exact⟨o,e,fun v z=>by rw[d]at z;cases z⟩
 keep:=fun i h h' st k=>st.at fun o e=>k it (by simp) o e
 item:=by intro X hP hw hK hc i pins s σ H E I hf st hg;subst hP hw hK;obtain⟨xs,x,hq,hx⟩:=hg;obtain⟨its,rv,p,hz⟩:=I.list hq;obtain⟨u,hu,ru⟩:=rv.get hx;obtain⟨f0,f1,f2,f3,f4,f5⟩:=hf it (by simp);refine wpAny_pyNext_list_item st p.isList (x:=u) (by simpa using hu) fun h' st' sb=>?_;have I1:Inv X pins σ H { s with heap:=h' }:=I.turned (t':=s.toks) (fun b o hb e=>(sb.2 b hb).trans e) f0 f1 f3 f4 f5;obtain⟨o,e,c,d⟩:=id st';exact⟨u,rfl,zvv (s:={ s with heap:=h' }) e c d (by decide) ⟨x,H,I1,ru,⟨rfl,fun ys hy=>by rw[I.list_inj hy hq];exact hx⟩,st',fun b hb=>(hf b hb).1⟩⟩
 done:=by intro X hP hw hK hc i pins s σ H E I hf st hg;subst hP hw hK;obtain⟨xs,hq,hx⟩:=hg;obtain⟨its,rv,p,hz⟩:=I.list hq;obtain⟨f0,f1,f2,f3,f4,f5⟩:=hf it (by simp);have hl:=rv.length;exact wpAny_pyNext_list_end (I.ok.hd hc) st p.isList (by simp;omega) fun h' eb=>⟨rfl,I.turned (t':=s.toks) (fun b o hb e=>eb b o hb e) f0 f1 f3 f4 f5⟩
 self:=fun _ _ _ _ _ st h=>wpAny_pyIter_listiter st h
theorem zky{P:Program}{w:World}{K:zFr}{tg:Expr}(a it:Addr):Turn P w K tg (Itt K a) [it] it (fun i h=>h.IsTupleIter it a i) where
 mem:=by simp
 obj:=fun i h st b hb=>by
   have e:b=it:=by simpa using hb
   subst e;obtain⟨o,e,c,d⟩:=st;exact⟨o,e,fun v z=>by rw[d]at z;cases z⟩
 keep:=fun i h h' st k=>st.at fun o e=>k it (by simp) o e
 item:=by intro X hP hw hK hc i pins s σ H E I hf st hg;subst hP hw hK;obtain⟨xs,x,hq,hx⟩:=hg;obtain⟨its,rv,p,hz⟩:=I.tuple hq;obtain⟨u,hu,ru⟩:=rv.get hx;obtain⟨f0,f1,f2,f3,f4,f5⟩:=hf it (by simp);refine wpAny_pyNext_tuple_item st (show s.heap.IsTuple a its.toArray from p) (x:=u) (by simpa using hu) fun h' st' sb=>?_;have I1:Inv X pins σ H { s with heap:=h' }:=I.turned (t':=s.toks) (fun b o hb e=>(sb.2 b hb).trans e) f0 f1 f3 f4 f5;obtain⟨o,e,c,d⟩:=id st';exact⟨u,rfl,zvv (s:={ s with heap:=h' }) e c d (by decide) ⟨x,H,I1,ru,⟨rfl,fun ys hy=>by rw[I.tuple_inj hy hq];exact hx⟩,st',fun b hb=>(hf b hb).1⟩⟩
 done:=by intro X hP hw hK hc i pins s σ H E I hf st hg;subst hP hw hK;obtain⟨xs,hq,hx⟩:=hg;obtain⟨its,rv,p,hz⟩:=I.tuple hq;obtain⟨f0,f1,f2,f3,f4,f5⟩:=hf it (by simp);have hl:=rv.length;exact wpAny_pyNext_tuple_end (I.ok.hd hc) st (show s.heap.IsTuple a its.toArray from p) (by simp;omega) fun h' eb=>⟨rfl,I.turned (t':=s.toks) (fun b o hb e=>eb b o hb e) f0 f1 f3 f4 f5⟩
 self:=fun _ _ _ _ _ st h=>wpAny_pyIter_tupleiter st h
theorem zkz{P:Program}{w:World}{K:zFr}{tg:Expr}(it:Addr)(lo:Int)(n:Nat):Turn P w K tg (Itr lo n) [it] it (fun i h=>IsRangeIter h it (lo+(i:Nat)*1) ((n:Int)-(i:Nat)) 1) where
 mem:=by simp
 obj:=fun i h st b hb=>by
   have e:b=it:=by simpa using hb
   subst e;exact⟨_,st,fun v z=>by
     have z':Data.fields _=Data.cell v:=z;cases z'⟩
 keep:=fun i h h' st k=>k it (by simp) _ st
 item:=by intro X hP hw hK hc i pins s σ H E I hf st hg;subst hP hw hK;obtain⟨f0,f1,f2,f3,f4,f5⟩:=hf it (by simp);have W:=Walks.range (prog:=X.prog) (w:=X.w) (I.ok.hd hc) it lo 1 n;refine W.item i s _ _ hg st fun v h' tk hv st' kk=>?_;obtain⟨t,rfl⟩:=hv;have I1:Inv X pins σ H { s with heap:=h',toks:=tk }:=I.turned (fun b o hb e=>kk b o (by simpa using hb) e) f0 f1 f3 f4 f5;refine⟨_,rfl,zvv (s:={ s with heap:=h',toks:=tk }) (n:="range_iterator") st' rfl rfl (by decide) ⟨.int (lo+i),H,I1,⟨t,?_⟩,⟨rfl,rfl⟩,st',fun b hb=>(hf b hb).1⟩⟩;rw[Int.mul_one]
 done:=by intro X hP hw hK hc i pins s σ H E I hf st hg;subst hP hw hK;obtain⟨f0,f1,f2,f3,f4,f5⟩:=hf it (by simp);exact wpAny_pyNext_range_end (I.ok.hd hc) st (by have:n<=i:=hg;omega) fun h' eb=>⟨rfl,I.turned (t':=s.toks) (fun b o hb e=>eb b o hb e) f0 f1 f3 f4 f5⟩
 self:=fun _ _ _ _ _ st h=>wpAny_pyIter_rangeiter st h
section
variable {X:Cx}{tg:Expr}
def z2s(K:zFr)(tl:TE):TI:=fun σ H R=>tl σ H fun x H1=>∃a,x=.ref a/\(∃xs,SqL K H1 a xs)/\R (Itl K a) H1
def z44(K:zFr)(tl:TE):TI:=fun σ H R=>tl σ H fun x H1=>∃a,x=.ref a/\(∃xs,SqT K H1 a xs)/\R (Itt K a) H1
theorem zfo{l:Expr}{tl:TE}(hl:PE X l tl):PI X tg l (z2s X.K tl):=by
 intro pins s σ H R I h;refine thn (hl pins s σ H _ I h) fun v s1 ⟨x,H1,I1,r1,q1⟩=>?_;obtain⟨a,e,⟨xs,hq⟩,q⟩:=q1;subst e;cases r1;obtain⟨its,rv,p,hz⟩:=I1.list hq;refine wpAny_pyIter_list p.isList ?_;refine⟨s1.heap.objs.size,[s1.heap.objs.size],_,_,H1,rfl,I1.kept (t':=s1.toks) fun b o e=>z5p _ e,zmq a _,⟨_,z6c _ rfl,rfl,rfl⟩,fun b hb=>?_,q⟩;have e:b=s1.heap.objs.size:=by simpa using hb
 subst e;exact I1.fpOk (z5o _) (I1.hok.fresh (z5o _))
theorem zya{l:Expr}{tl:TE}(hl:PE X l tl):PI X tg l (z44 X.K tl):=by
 intro pins s σ H R I h;refine thn (hl pins s σ H _ I h) fun v s1 ⟨x,H1,I1,r1,q1⟩=>?_;obtain⟨a,e,⟨xs,hq⟩,q⟩:=q1;subst e;cases r1;obtain⟨its,rv,p,hz⟩:=I1.tuple hq;refine wpAny_pyIter_tuple (show s1.heap.IsTuple a its.toArray from p) ?_;refine⟨s1.heap.objs.size,[s1.heap.objs.size],_,_,H1,rfl,I1.kept (t':=s1.toks) fun b o e=>z5p _ e,zky a _,⟨_,z6c _ rfl,rfl,rfl⟩,fun b hb=>?_,q⟩;have e:b=s1.heap.objs.size:=by simpa using hb
 subst e;exact I1.fpOk (z5o _) (I1.hok.fresh (z5o _))
theorem zjt{pins:zAO}{σ:St}{H:Hp}{s:Shared}{R:It->Hp->Prop}{E:zVP}{lo hi:Int}{t u v:Tok}{tk:Nat}(I:Inv X pins σ H s)(h1:-(2^62)<=lo)(h2:lo<2^62)(h3:-(2^62)<=hi)(h4:hi<2^62)
   (q:R (Itr lo (hi-lo).toNat) H):wpAny (model X.prog X.w) X.A (pyIter (.ref s.heap.objs.size)) (PIE X pins σ tg R) E { s with heap:=s.heap.push { cls:=.type "range",data:=.fields #[.int lo t,.int hi u,.int 1 v] },toks:=tk }:=by
 refine wpAny_pyIter_range (IsRange.new ..) (small_one h1 h2 h3 h4) ?_;have I1:Inv X pins σ H { s with heap:=s.heap.push { cls:=.type "range",data:=.fields #[.int lo t,.int hi u,.int 1 v] },toks:=tk }:=I.kept fun b o e=>z5p _ e;refine⟨(s.heap.push { cls:=.type "range",data:=.fields #[.int lo t,.int hi u,.int 1 v] }).objs.size,[(s.heap.push { cls:=.type "range",data:=.fields #[.int lo t,.int hi u,.int 1 v] }).objs.size],_,_,H,rfl,
   I1.kept (t':=tk) fun b o e=>z5p _ e,zkz _ lo (hi-lo).toNat,?_,fun b hb=>?_,q⟩
 · have e1:lo+((0:Nat):Int)*1=lo:=by simp
   have e2:(((hi-lo).toNat:Nat):Int)-((0:Nat):Int)=Builtin.Range.rangeSize lo hi 1:=by rw[rangeSize_one];split<;>omega
   show IsRangeIter _ _ (lo+((0:Nat):Int)*1) ((((hi-lo).toNat:Nat):Int)-((0:Nat):Int)) 1;rw[e1,e2];exact z6c _ rfl
 · have e:b=(s.heap.push { cls:=.type "range",data:=.fields #[.int lo t,.int hi u,.int 1 v] }).objs.size:=by simpa using hb
   subst e;exact I1.fpOk (z5o _) (I1.hok.fresh (z5o _))
def z2r(ta:TA):TI:=fun σ H R=>ta σ H fun vs H1=>∃j:Int,vs=[.int j]/\-(2^62)<=j/\j<2^62/\R (Itr 0 j.toNat) H1
def z2q(ta:TA):TI:=fun σ H R=>ta σ H fun vs H1=>∃i j:Int,vs=[.int i,.int j]/\(-(2^62)<=i/\i<2^62/\-(2^62)<=j/\j<2^62)/\R (Itr i (j-i).toNat) H1
theorem znm{a:Expr}{ta:TA}{p pos:Pos}(hg:Gl X "range")(hm:X.mg "range"=none)(ha:PA X [a] ta)(hs:starEach [a] X.env=[(false,eval a X.env)]:=by rfl):PI X tg (.Call (.Name "range" p) [a] [] pos) (z2r ta):=by
 intro pins s σ H R I h;refine Call_ (zcq I hg hm boot_range (z7b (thn (ha pos pins s σ H _ I h) fun us s1 ⟨vs,H1,I1,r1,q1⟩=>?_) hs rfl));obtain⟨j,e,q1,q2,q⟩:=q1;subst e;cases r1 with
 | cons r rr=>
   cases rr;obtain⟨t,rfl⟩:=r;exact call_range_1 (zjt I1 (by omega) (by omega) q1 q2 (by simpa using q))
theorem znl{a b:Expr}{ta:TA}{p pos:Pos}(hg:Gl X "range")(hm:X.mg "range"=none)(ha:PA X [a,b] ta)(hs:starEach [a,b] X.env=[(false,eval a X.env),(false,eval b X.env)]:=by rfl)(hs2:starEach [b] X.env=[(false,eval b X.env)]:=by rfl) :
   PI X tg (.Call (.Name "range" p) [a,b] [] pos) (z2q ta):=by
 intro pins s σ H R I h;refine Call_ (zcq I hg hm boot_range (z7b (thn (ha pos pins s σ H _ I h) fun us s1 ⟨vs,H1,I1,r1,q1⟩=>?_) (by rw[hs,hs2]) (by rw[hs2];rfl)));obtain⟨i,j,e,⟨q1,q2,q3,q4⟩,q⟩:=q1;subst e;cases r1 with
 | cons r rr=>
   cases rr with
   | cons r' rr=>
     cases rr;obtain⟨t,rfl⟩:=r;obtain⟨t',rfl⟩:=r';exact call_range_2 (zjt I1 q1 q2 q3 q4 q)
def z4j(wi:TI)(g:TG)(tb:TS):TS:=fun D σ H=>wi σ H fun J H1=>∃W:Nat->Nat->St->Hp->Prop,(∃m,W 0 m σ H1)/\∀i m σ H,W i m σ H ->
 (J.stop i H/\D.nx σ H)\/(J.go i H/\∃N:St->Hp->Prop,(∀σ' H',N σ' H'->∃m',m'<m/\W (i+1) m' σ' H')/\∀x H',J.yld i H x H'->g x σ H' fun σ2 H2=>tb { D with nx:=N,ct:=N,bk:=D.nx } σ2 H2)
def zjx(fp:List Addr)(h:Heap):zAO:=fp.filterMap fun b=>(h.get? b).map fun o=>(b,o)
theorem k9{fp:List Addr}{h:Heap}{b:Addr}{o:Obj}(hb:b∈fp)(e:h.get? b=some o):(b,o)∈zjx fp h:=List.mem_filterMap.mpr ⟨b,hb,by rw[e];rfl⟩
theorem znv{fp:List Addr}{h:Heap}{p:Addr×Obj}(hp:p∈zjx fp h):p.1∈fp/\h.get? p.1=some p.2:=by
 obtain⟨b,hb,e⟩:=List.mem_filterMap.mp hp;cases q:h.get? b with
 |none=>rw[q]at e;cases e
 | some o=>
   rw[q]at e;have e':(b,o)=p:=z6j e;subst e';exact⟨hb,q⟩
theorem Inv.pinned{pins:zAO}{σ:St}{H:Hp}{s:Shared}{fp:List Addr}(I:Inv X pins σ H s)(hf:∀b∈fp,zma X pins H b)(ho:∀b∈fp,∃o,s.heap.get? b=some o/\∀v,o.data≠.cell v):Inv X (pins++zjx fp s.heap) σ H s :=
 I.pins_of fun p hp=>(z6e.mp hp).elim (fun z=>I.pin p (z5y _ z)) fun z=>by obtain⟨hb,e⟩:=znv z;obtain⟨f0,f1,f2,_⟩:=hf p.1 hb;obtain⟨o,e',d⟩:=ho p.1 hb;rw[e]at e';cases e';exact⟨e,f0,f1,f2,d⟩
theorem Inv.unpinned{pins pl:zAO}{σ:St}{H:Hp}{s:Shared}(I:Inv X (pins++pl) σ H s):Inv X pins σ H s:=I.pins_of fun p hp=>I.pin p (z5y _ (z7d _ hp))
theorem zjw{iter:Expr}{body:List Stmt}{wi:TI}{g:TG}{tb:TS}{pos:Pos}(hp:PassesOwn (model X.prog X.w) X.A X.env X.xe)(hc:X.calm=true)(hi:PI X tg iter wi)(hg:PG X tg g)(hb:PSs X body tb)
   (hs:∀x,foldedSetIterable iter X.env x=pure x:=by intro _;rfl):PS X (.For tg iter body [] pos) (z4j wi g tb):=by
 intro pins s σ H D I h;refine wpAny_For (thn (hi pins s σ H _ I h) fun v s1 h1=>thn h1 fun itv s2 h2=>?_) hs;obtain⟨it,fp,tn,J,H2,e,I2,T,st2,f2,W,⟨m0,w0⟩,turn⟩:=h2;subst e;have stat:∀{H':Hp},(∀b∈fp,H' b=none)->∀b∈fp,zma X pins H' b:=fun hn b hb=>⟨hn b hb,(f2 b hb).2⟩
 refine codeAny_forLoop_any (fun n s'=>∃i σ' H',Inv X pins σ' H' s'/\tn i s'.heap/\(∀b∈fp,H' b=none)/\W i n σ' H') ?_ m0 ⟨0,σ,H2,I2,st2,fun b hb=>(f2 b hb).1,w0⟩;rintro n s3 ⟨i,σ3,H3,I3,st3,fr3,w3⟩;rcases turn i n σ3 H3 w3 with⟨stop,qn⟩ | ⟨go,N,hN,step⟩
 · refine z81 hp (thn (T.done X rfl rfl rfl hc i pins s3 σ3 H3 X.xe I3 (stat fr3) st3 stop) fun r s4 ⟨hr,I4⟩=>?_);subst hr;exact z9t ⟨σ3,H3,I4,qn⟩
 · refine z81 hp (thn (T.item X rfl rfl rfl hc i pins s3 σ3 H3 X.xe I3 (stat fr3) st3 go) fun r s4 ⟨u,hr,h4⟩=>?_);subst hr;refine z81 hp (thn h4 fun _ s5 ⟨x,H5,I5,r5,y5,st5,fr5⟩=>?_);have I5':=I5.pinned (stat fr5) (T.obj _ _ st5);refine z81 hp (thn (hg _ s5 σ3 H5 x u _ I5' r5 (step x H5 y5)) fun _ s6 ⟨σ6,H6,I6,q6⟩=>?_);refine z81 hp (thn (hb _ s6 σ6 H6 _ I6 q6) fun f s7 q7=>?_);have again:∀{σ7:St}{H7:Hp},Inv X (pins++zjx fp s5.heap) σ7 H7 s7->N σ7 H7->∃m,m<n/\∃i σ' H',Inv X pins σ' H' s7/\tn i s7.heap/\(∀b∈fp,H' b=none)/\W i m σ' H':=fun {σ7 H7} I7 n7=>by obtain⟨m',hm,w7⟩:=hN σ7 H7 n7;refine⟨m',hm,i+1,σ7,H7,I7.unpinned,T.keep _ _ _ st5 fun b hb o e=>(I7.pin (b,o) (z5y _ (z5y _ (k9 hb e)))).1,fun b hb=>?_,w7⟩;obtain⟨o,e,d⟩:=T.obj _ _ st5 b hb;exact(I7.pin (b,o) (z5y _ (z5y _ (k9 hb e)))).2.1
   cases f with
   |next=>obtain⟨σ7,H7,I7,n7⟩:=q7;exact again I7 n7
   |cont=>obtain⟨σ7,H7,I7,n7⟩:=q7;exact again I7 n7
   |brk=>obtain⟨σ7,H7,I7,q7⟩:=q7;exact⟨σ7,H7,I7.unpinned,q7⟩
   |ret v=>obtain⟨x7,σ7,H7,I7,r7,q7⟩:=q7;exact⟨x7,σ7,H7,I7.unpinned,r7,q7⟩
end
theorem zrl{K:zFr}{a:Addr}{xs:List V}{g:TG}{tb:TS}{D:Ends}{σ:St}{H:Hp}(Pv:Nat->St->Hp->Prop)(h0:Pv 0 σ H)(hl:∀i σ H,i<=xs.length->Pv i σ H->SqL K H a xs)
   (hs:∀i x σ H,xs[i]? = some x->Pv i σ H->g x σ H fun σ2 H2=>tb { D with nx:=Pv (i+1),ct:=Pv (i+1),bk:=D.nx } σ2 H2) (hd:∀σ H,Pv xs.length σ H->D.nx σ H) :
   ∃W:Nat->Nat->St->Hp->Prop,(∃m,W 0 m σ H)/\∀i m σ H,W i m σ H ->
     ((Itl K a).stop i H/\D.nx σ H)\/((Itl K a).go i H/\∃N:St->Hp->Prop,(∀σ' H',N σ' H'->∃m',m'<m/\W (i+1) m' σ' H')/\∀x H',(Itl K a).yld i H x H'->g x σ H' fun σ2 H2=>tb { D with nx:=N,ct:=N,bk:=D.nx } σ2 H2):=by
 refine⟨fun i m σ H=>m=xs.length-i/\i<=xs.length/\Pv i σ H,⟨xs.length,by simp,z6n _,h0⟩,?_⟩;rintro i m σ H ⟨rfl,hi,p⟩;have q:=hl i σ H hi p;by_cases hlt:i<xs.length
 · refine .inr ⟨⟨xs,xs[i],q,by simp[hlt]⟩,Pv (i+1),fun σ' H' p'=>⟨xs.length-(i+1),by omega,rfl,hlt,p'⟩,fun x H' y=>?_⟩;obtain⟨e,y⟩:=y;subst e;exact hs i x σ _ (y xs q) p
 · have e:i=xs.length:=by omega
   subst e;exact .inl ⟨⟨xs,q,z5o _⟩,hd σ H p⟩
theorem zou{lo:Int}{n:Nat}{g:TG}{tb:TS}{D:Ends}{σ:St}{H:Hp}(Pv:Nat->St->Hp->Prop)(h0:Pv 0 σ H)
   (hs:∀i σ H,i<n->Pv i σ H->g (.int (lo+i)) σ H fun σ2 H2=>tb { D with nx:=Pv (i+1),ct:=Pv (i+1),bk:=D.nx } σ2 H2) (hd:∀σ H,Pv n σ H->D.nx σ H) :
   ∃W:Nat->Nat->St->Hp->Prop,(∃m,W 0 m σ H)/\∀i m σ H,W i m σ H ->
     ((Itr lo n).stop i H/\D.nx σ H)\/((Itr lo n).go i H/\∃N:St->Hp->Prop,(∀σ' H',N σ' H'->∃m',m'<m/\W (i+1) m' σ' H')/\∀x H',(Itr lo n).yld i H x H'->g x σ H' fun σ2 H2=>tb { D with nx:=N,ct:=N,bk:=D.nx } σ2 H2):=by
 refine⟨fun i m σ H=>m=n-i/\i<=n/\Pv i σ H,⟨n,by simp,z6n _,h0⟩,?_⟩;rintro i m σ H ⟨rfl,hi,p⟩;by_cases hlt:i<n
 · refine .inr ⟨hlt,Pv (i+1),fun σ' H' p'=>⟨n-(i+1),by omega,rfl,hlt,p'⟩,fun x H' y=>?_⟩;obtain⟨e,y⟩:=y;subst e y;exact hs i σ _ hlt p
 · have e:i=n:=by omega
   subst e;exact .inl ⟨z5o _,hd σ H p⟩
abbrev R2:=V->V->Hp->VK->Prop
def OpR(X:Cx)(f:Value->Value->Sem Value)(r:R2):Prop :=
 ∀(pins:zAO) (s:Shared) (σ:St) (H:Hp) (x y:V) (v u:Value) (Q:VK),Inv X pins σ H s->RelV x v->RelV y u->r x y H Q ->
   wpAny (model X.prog X.w) X.A (f v u) (EP X pins σ Q) X.xe s
def CallR(X:Cx)(f:Value)(r:List V->Hp->VK->Prop):Prop :=
 ∀(pins:zAO) (s:Shared) (σ:St) (H:Hp) (xs:List V) (us:List Value) (Q:VK),Inv X pins σ H s->Vals xs us->r xs H Q ->
   wpAny (model X.prog X.w) X.A (call f us) (EP X pins σ Q) X.xe s
def tOp(r:R2)(ta tb:TE):TE:=fun σ H Q=>ta σ H fun x H1=>tb σ H1 fun y H2=>r x y H2 Q
def rI(C:Int->Int->Prop)(g:Int->Int->V):R2:=fun x y H Q=>∃i j,x=.int i/\y=.int j/\C i j/\Q (g i j) H
def rI0(g:Int->Int->V):R2:=fun x y H Q=>∃i j,x=.int i/\y=.int j/\Q (g i j) H
section
variable {X:Cx}{a b c:Expr}{ta tb tc:TE}{pos:Pos}
theorem z3f(ha:PE X a ta)(hb:PE X b tb){pins:zAO}{s:Shared}{σ:St}{H:Hp}{R:V->V->Hp->Prop}(I:Inv X pins σ H s)
   (h:ta σ H fun x H1=>tb σ H1 fun y H2=>R x y H2) {Q:zVP}{f:Value->Value->Sem Value}
   (hf:∀v u s2 x y H2,Inv X pins σ H2 s2->RelV x v->RelV y u->R x y H2->wpAny (model X.prog X.w) X.A (f v u) Q X.xe s2) :
   wpAny (model X.prog X.w) X.A (eval a X.env) (fun v s₁=>wpAny (model X.prog X.w) X.A (eval b X.env) (fun u s₂=>wpAny (model X.prog X.w) X.A (f v u) Q X.xe s₂) X.xe s₁) X.xe s:=by
 refine thn (ha pins s σ H _ I h) fun v s1 ⟨x,H1,I1,r1,q1⟩=>?_;refine thn (hb pins s1 σ H1 _ I1 q1) fun u s2 ⟨y,H2,I2,r2,q2⟩=>?_;exact hf v u s2 x y H2 I2 r1 r2 q2
theorem z17{op:Operator}{r:R2}(ho:OpR X (binaryOp op) r)(ha:PE X a ta)(hb:PE X b tb):PE X (.BinOp a op b pos) (tOp r ta tb):=by intro pins s σ H Q I h;exact wpAny_BinOp (z3f ha hb I h fun v u s2 x y H2 I2 rx ry q=>ho pins s2 σ H2 x y v u Q I2 rx ry q)
theorem opI{f:Value->Value->Sem Value}{C:Int->Int->Prop}{g:Int->Int->Int}
   (rule:∀(i j:Int) (t u:Tok) (s:Shared) (Q:zVP) (E:zVP),C i j->Q (.int (g i j) s.toks) { s with toks:=s.toks+1 }->wpAny (model X.prog X.w) X.A (f (.int i t) (.int j u)) Q E s) :
   OpR X f (rI C fun i j=>.int (g i j)):=by
 intro pins s σ H x y v u Q I rx ry h;obtain⟨i,j,rfl,rfl,hc,q⟩:=h;obtain⟨t,rfl⟩:=rx;obtain⟨t',rfl⟩:=ry;exact rule i j t t' s _ _ hc ⟨.int (g i j),H,I.tok _,⟨_,rfl⟩,q⟩
theorem z3w{f:Value->Value->Sem Value}{g:Int->Int->Int}
   (rule:∀(i j:Int) (t u:Tok) (s:Shared) (Q:zVP) (E:zVP),Q (.int (g i j) s.toks) { s with toks:=s.toks+1 }->wpAny (model X.prog X.w) X.A (f (.int i t) (.int j u)) Q E s) :
   OpR X f (rI0 fun i j=>.int (g i j)):=by
 intro pins s σ H x y v u Q I rx ry h;obtain⟨i,j,rfl,rfl,q⟩:=h;obtain⟨t,rfl⟩:=rx;obtain⟨t',rfl⟩:=ry;exact rule i j t t' s _ _ ⟨.int (g i j),H,I.tok _,⟨_,rfl⟩,q⟩
theorem z01{f:Value->Value->Sem Value}{g:Int->Int->Bool}
   (rule:∀(i j:Int) (t u:Tok) (s:Shared) (Q:zVP) (E:zVP),Q (.bool (g i j)) s->wpAny (model X.prog X.w) X.A (f (.int i t) (.int j u)) Q E s) :
   OpR X f (rI0 fun i j=>.bl (g i j)):=by
 intro pins s σ H x y v u Q I rx ry h;obtain⟨i,j,rfl,rfl,q⟩:=h;obtain⟨t,rfl⟩:=rx;obtain⟨t',rfl⟩:=ry;exact rule i j t t' s _ _ ⟨.bl (g i j),H,I,rfl,q⟩
def z5j(i j:Int):Prop:=0<j/\j<1073741824
def z5i(i j:Int):Prop:=0<=j/\j<=1000000/\i.natAbs<2^64
def CMul(i j:Int):Prop:=(-(2^64)<i/\i<2^64)\/(-(2^64)<j/\j<2^64)
theorem CMul.ok{i j:Int}(h:CMul i j):IntMulOk i j:=by
 rcases h with⟨h1,h2⟩ | ⟨h1,h2⟩
 · exact .of_left (intBits_le_64 h1 h2)
 · exact .of_right (intBits_le_64 h1 h2)
theorem op_add:OpR X (binaryOp .Add) (rI0 fun i j=>.int (i+j)):=z3w fun _ _ _ _ _ _ _ q=>add_int q
theorem zyl:OpR X (binaryOp .Sub) (rI0 fun i j=>.int (i-j)):=z3w fun _ _ _ _ _ _ _ q=>sub_int q
theorem zva:OpR X (binaryOp .FloorDiv) (rI z5j fun i j=>.int (i/j)):=opI fun i j _ _ _ _ _ hc q=>by have h1:(0:Int)<j:=hc.1;have h2:j<1073741824:=hc.2;exact floordiv_int (by omega) (by rw[Int.fdiv_eq_ediv_of_nonneg i (by omega)];exact q) (.inl (PyProof.noPylong_small (by omega)))
theorem zyo:OpR X (binaryOp .Mod) (rI (fun _ j=>0<j) fun i j=>.int (i%j)):=opI fun i j _ _ _ _ _ hc q=>by have h1:(0:Int)<j:=hc;exact mod_int' (by omega) (by rw[Int.fmod_eq_emod_of_nonneg i (by omega)];exact q)
theorem zym:OpR X (binaryOp .Pow) (rI z5i fun i j=>.int (i^j.toNat)):=opI fun _ _ _ _ _ _ _ hc q=>pow_int_small hc.1 hc.2.1 hc.2.2 q
end
section
variable {X:Cx}{a b c:Expr}{ta tb tc:TE}{pos:Pos}
theorem zoz{pins:zAO}{σ:St}{H:Hp}{s:Shared}{Q:VK}{k k':Bool}(I:Inv X pins σ H s)(q:Q (.bl k) H)(e:k=k'):EP X pins σ Q (.bool k') s:=by subst e;exact⟨.bl k,H,I,rfl,q⟩
theorem zq2:OpR X (compareOp .Lt) (rI0 fun i j=>.bl (decide (i<j))):=z01 fun _ _ _ _ _ _ _ q=>lt_int q
theorem zld:OpR X (compareOp .LtE) (rI0 fun i j=>.bl (decide (i<=j))):=z01 fun _ _ _ _ _ _ _ q=>le_int q
theorem z2d:OpR X (compareOp .Gt) (rI0 fun i j=>.bl (decide (j<i))):=z01 fun _ _ _ _ _ _ _ q=>gt_int q
theorem z2e:OpR X (compareOp .GtE) (rI0 fun i j=>.bl (decide (j<=i))):=z01 fun _ _ _ _ _ _ _ q=>ge_int q
theorem zns:OpR X (compareOp .Lt) (fun x y H Q=>∃i j,x=.str i/\y=.str j/\Q (.bl (decide (i.cps.toList<j.cps.toList))) H):=by intro pins s σ H x y v u Q I rx ry h;obtain⟨i,j,rfl,rfl,q⟩:=h;obtain⟨t,rfl⟩:=rx;obtain⟨t',rfl⟩:=ry;exact lt_str (zoz I q rfl)
theorem op_isN:OpR X (compareOp .Is) (fun x y H Q=>y=.non/\Q (.bl (decide (x=.non))) H):=by
 intro pins s σ H x y v u Q I rx ry h;obtain⟨rfl,q⟩:=h;cases ry;refine is_none_gen (zoz I q ?_);cases x<;>first
   | (cases rx;rfl)
   | (obtain⟨t,rfl⟩:=rx;rfl)
theorem op_notN:OpR X (compareOp .IsNot) (fun x y H Q=>y=.non/\Q (.bl (!decide (x=.non))) H):=by
 intro pins s σ H x y v u Q I rx ry h;obtain⟨rfl,q⟩:=h;cases ry;refine isnot_none_gen (zoz I q ?_);cases x<;>first
   | (cases rx;rfl)
   | (obtain⟨t,rfl⟩:=rx;rfl)
theorem OpR.or{f:Value->Value->Sem Value}{r r':R2}(h:OpR X f r)(h':OpR X f r'):OpR X f (fun x y H Q=>r x y H Q\/r' x y H Q):=by
 intro pins s σ H x y v u Q I rx ry q;rcases q with q | q
 · exact h pins s σ H x y v u Q I rx ry q
 · exact h' pins s σ H x y v u Q I rx ry q
theorem zaq(b:Expr){op:CmpOp}(h:op≠.In:=by decide)(h2:op≠.NotIn:=by decide):behindInMarks op b=false:=by
 have e1:(op==CmpOp.In)=false:=by cases op<;>first | rfl | exact absurd rfl h
 have e2:(op==CmpOp.NotIn)=false:=by cases op<;>first | rfl | exact absurd rfl h2
 cases b<;>simp[behindInMarks,e1,e2]
theorem zu6{op:CmpOp}{r:R2}(ho:OpR X (compareOp op) r)(ha:PE X a ta)(hb:PE X b tb)(hm:behindInMarks op b=false):PE X (.Compare a [op] [b] pos) (tOp r ta tb):=by intro pins s σ H Q I h;exact wpAny_Compare1 (z3f ha hb I h fun v u s2 x y H2 I2 rx ry q=>ho pins s2 σ H2 x y v u Q I2 rx ry q) hm
def zqb(t:TE):TT:=fun σ H Q=>t σ H fun x H'=>∃k,x=.bl k/\Q k H'
theorem zux{op:CmpOp}{r:R2}(ho:OpR X (compareOp op) r)(ha:PE X a ta)(hb:PE X b tb)(hm:behindInMarks op b=false):PT X (.Compare a [op] [b] pos) (zqb (tOp r ta tb)):=by
 intro pins s σ H Q I h;refine wpAny_isTrue_Compare1 (thn (ha pins s σ H _ I h) fun v s1 ⟨x,H1,I1,r1,q1⟩=>thn (hb pins s1 σ H1 _ I1 q1) fun u s2 ⟨y,H2,I2,r2,q2⟩=>
   thn (ho pins s2 σ H2 x y v u _ I2 r1 r2 q2) fun c s3 ⟨z,H3,I3,r3,k,e,q3⟩=>?_) hm
 subst e;cases r3;exact z6v ⟨H3,I3,q3⟩
def zsq(r r':R2)(ta tb tc:TE):TE:=fun σ H Q=>ta σ H fun x H1=>tb σ H1 fun y H2=>r x y H2 fun z H3=>∃k,z=.bl k /\
 (if k=true then tc σ H3 fun w' H4=>r' y w' H4 Q else Q (.bl false) H3)
theorem zqt{op op':CmpOp}{r r':R2}(ho:OpR X (compareOp op) r)(ho':OpR X (compareOp op') r')(ha:PE X a ta)(hb:PE X b tb)(hc:PE X c tc)
   (hm:lastMarks [op,op'] [b,c]=false:=by with_unfolding_all rfl):PT X (.Compare a [op,op'] [b,c] pos) (zqb (zsq r r' ta tb tc)):=by
 intro pins s σ H Q I h;refine isTrue_chain (thn (ha pins s σ H _ I h) fun v s1 ⟨x,H1,I1,r1,q1⟩=>test_link (thn (hb pins s1 σ H1 _ I1 q1) fun u s2 ⟨y,H2,I2,r2,q2⟩=>
   thn (ho pins s2 σ H2 x y v u _ I2 r1 r2 q2) fun d s3 ⟨z,H3,I3,r3,k,e,q3⟩=>?_)) hm
 subst e;cases r3;refine z6v ?_;cases k with
 | false=>
   obtain⟨k',e',q'⟩:=q3;cases e';exact ite_ff ⟨H3,I3,q'⟩
 | true=>
   refine ite_tt (test_last (thn (hc pins s3 σ H3 _ I3 q3) fun w' s4 ⟨z',H4,I4,r4,q4⟩=>thn (ho' pins s4 σ H4 y z' u w' _ I4 r2 r4 q4) fun d' s5 ⟨z2,H5,I5,r5,k2,e2,q5⟩=>?_));subst e2;cases r5;exact z6v ⟨H5,I5,q5⟩
theorem zhc:(sizeLine:Nat)<2^63:=by rw[z60];decide
theorem op_add_str:OpR X (binaryOp .Add) (fun x y H Q=>∃i j,x=.str i/\y=.str j/\i.length+j.length<=sizeLine/\Q (.str (i++j)) H):=by intro pins s σ H x y v u Q I rx ry h;obtain⟨i,j,rfl,rfl,hz,q⟩:=h;obtain⟨t,rfl⟩:=rx;obtain⟨t',rfl⟩:=ry;exact add_str (fun t' tk=>⟨.str (i++j),H,I.tok _,⟨_,rfl⟩,q⟩) hz
theorem zp5{x:V}{us:List Value}(r:Vals [x] us):∃u,us=[u]/\RelV x u:=by
 cases r with
 |cons r1 r2=>cases r2;exact⟨_,rfl,r1⟩
theorem z1k{x y:V}{us:List Value}(r:Vals [x,y] us):∃u w',us=[u,w']/\RelV x u/\RelV y w':=by
 cases r with
 | cons r1 r2=>
   cases r2 with
   |cons r3 r4=>cases r4;exact⟨_,_,rfl,r1,r3⟩
theorem zr5:CallR X (.builtin "abs") (fun xs H Q=>∃i,xs=[.int i]/\Q (.int (if i<0 then -i else i)) H):=by intro pins s σ H xs us Q I r h;obtain⟨i,rfl,q⟩:=h;obtain⟨u,rfl,t,rfl⟩:=zp5 r;exact call_abs_int fun u tk=>⟨.int (if i<0 then -i else i),H,I.tok _,⟨_,rfl⟩,q⟩
theorem zpi(hc:X.calm=true):CallR X (.builtin "max") (fun xs H Q=>∃i j,xs=[.int i,.int j]/\Q (.int (if j>i then j else i)) H):=by
 intro pins s σ H xs us Q I r h;obtain⟨i,j,rfl,q⟩:=h;obtain⟨u,w',rfl,⟨t,rfl⟩,⟨t',rfl⟩⟩:=z1k r;refine max_two_ints (I.ok.hd hc) fun h' tk k=>⟨_,H,I.kept k,?_,q⟩
 by_cases hj:j>i
 · rw[z6a hj,z6a hj];exact⟨_,rfl⟩
 · rw[z6i hj,z6i hj];exact⟨_,rfl⟩
end
structure ObjM (h:Heap) (x dx C:Addr) (mA:zMg):Prop where
 obj:h.get? x=some (PySem.W.instObj C dx)
 ns:h.Ns1 dx mA
 ne:dx≠x
theorem zn5{h:Heap}{dx:Addr}{mA:zMg}(n:h.Ns1 dx mA):∃od,h.get? dx=some od/\∀name,PySem.W.lookIn name od=some (mA name):=by
 obtain⟨o,es,ep,ho,hd,hk,_,hm⟩:=n;refine⟨o,ho,fun name=>?_⟩;have e:=hm name;unfold nsFind findBy at e;rw[<-Array.find?_toList]at e;unfold PySem.W.lookIn;rw[hd];dsimp only;split
 · rename_i y q;rw[q]at e;exact z68 some e
 · rename_i q;rw[q]at e;have a:es.toList.any (·.refKey)=false:=by rw[List.any_eq_false];intro y hy;obtain⟨z,t,hkey⟩:=hk y (Array.mem_toList_iff.mp hy);simp[DictEntry.refKey,hkey]
   have a':¬ es.toList.any (·.refKey)=true:=by rw[a];exact z6q
   rw[z6i a'];exact z68 some e
theorem ObjM.look{h:Heap}{x dx C:Addr}{mA:zMg}(I:ObjM h x dx C mA):∃od,PySem.W.InstAt h x (PySem.W.instObj C dx) C (some od)/\∀name,PySem.W.lookIn name od=some (mA name) :=
 let⟨od,ho,hl⟩:=zn5 I.ns
 ⟨od,⟨I.obj,rfl,rfl,ho⟩,hl⟩
section
variable {prog:Program}{w:World}{A:Around}{E:zVP}{s:Shared}{K:zFr}{x dx C f:Addr}{mA:zMg}{name:Str}{v:Value}
theorem zvw{expr:Bool}{Q:zVP}(X:K.In s.heap)(I:ObjM s.heap x dx C mA)(hg:PySem.W.plainGet K C name=true)(hh:PySem.W.hasDictIn K C=true)
   (ha:PySem.W.findIn K (.ref C) name=some none) (hv:mA name=some v) (hv':PySem.W.handedIn v=true) (h:Q v { s with toks:=s.toks+1 }) :
   wpAny (model prog w) A (getAttr (.ref x) name expr) Q E s:=by
 obtain⟨od,J,hl⟩:=I.look;exact PySem.W.get_value X J (z9u hg).1 (PySem.W.findObj_own hh ha rfl (by rw[hl,hv])) hv' h
theorem zrd{pl:Sem Bool}{Q:Value×List Value->Shared->Prop}(X:K.In s.heap)(I:ObjM s.heap x dx C mA)(hg:PySem.W.plainGet K C name=true)
   (hf:PySem.W.findIn K (.ref C) name=some (some (.ref f))) (ht:PySem.W.isFn K (.ref f)=true) (hv:mA name=none) (h:Q (.ref f,[.ref x]) s) :
   wpAny (model prog w) A (getMethod (.ref x) name pl) Q E s:=by
 obtain⟨od,J,hl⟩:=I.look;exact PySem.W.method_fn X J (z9u hg).1 (z9u hg).2 hf (z7x.mp ht) (by show(PySem.W.lookIn name od).map (·.isSome)=some false;rw[hl,hv];rfl) h
theorem zuq{ns:List Str}{Q:Unit->Shared->Prop}(X:K.In s.heap)(I:ObjM s.heap x dx C mA)
   (hs:PySem.W.findIn K (.ref C) "__setattr__"=some (some (.builtin "object.__setattr__"))) (hp:PySem.W.plainOver K C=true) (ht:PySem.W.takerIn K C name=some none) (hh:PySem.W.hasDictIn K C=true)
   (hw:PySem.Within mA ns) (hsz:ns.length<=sizeLine)
   (h:∀h',ObjM h' x dx C (fun y=>if y=name then some v else mA y)->Heap.SameBut dx s.heap h'->Q () { s with heap:=h',toks:=s.toks+2 }) :
   wpAny (model prog w) A (setAttr (.ref x) name v) Q E s:=by
 obtain⟨od,J,hl⟩:=I.look;refine PySem.W.set_plain X J hs (PySem.W.osa_open (s:={ s with toks:=s.toks+1 }) (r:=none) X J hp ht fun b=>?_);obtain⟨cd,hc,hd'⟩:=PySem.W.any_some hh;have hx:s.heap.get? x=some ⟨.ref C,some dx,.plain,#[]⟩:=I.obj;refine z5m (z52 (z5m (z5m (z92 hx (z5m (PySem.W.Looks.here (s:={ s with toks:=s.toks+1 }) (PySem.W.looks_clsIn X hc) ?_))))));rw[hd'];refine z52 (a:=some dx) (z5m (z52 (z5m ?_)));refine wpAny_nsSet1 (s:={ s with toks:=s.toks+1 }) I.ns fun h' hn2 hs2=>?_;obtain⟨oD,esD,epD,hoD,hdD,hcD⟩:=hn2.count (PySem.Within.cons name v hw);refine z5m (wpAny_lookBehind hoD (by rw[hdD];exact pastItsLine_dict (z57 hcD (by rw[List.length_cons];omega))) ?_);exact z52 (h _ ⟨(hs2.2 _ (z7v I.ne)).trans I.obj,hn2,I.ne⟩ hs2)
theorem zq6{R:Result->Shared->Prop}{vs:List Value}{kw:List (Str×Value)}(X:K.In s.heap)(hm:PySem.W.makesIn K C=true)
   (hi:PySem.W.findIn K (.ref C) "__init__"=some (some (.ref f))) (hf:PySem.W.typeIn K (.ref f)=some (.type "function"))
   (h:codeAny (model prog w) (A.under (.builtin "type.__call__" ⟨.ref C::vs,kw⟩)) (.call (.ref f) ⟨.ref (s.heap.objs.size+1)::vs,kw⟩) (PySem.W.InitBack (s.heap.objs.size+1) R)
     { s with heap:=(s.heap.push PySem.W.emptyDict).push (PySem.W.instObj C s.heap.objs.size) }) :
   codeAny (model prog w) A (.call (.ref C) ⟨vs,kw⟩) R s:=by
 obtain⟨hh,g,d,t,os⟩:=s;exact PySem.W.make_core (PySem.W.makes_of X hm) (PySem.W.looks_findIn X hi) (fun self=>PySem.W.bind_fn X self hf) (.inl rfl) h
end
def zeq(f:Str)(v:V):List (Str×V)->List (Str×V)
 | []=>[(f,v)]
 | (g,x)::r=>if g=f then (g,v)::r else (g,x)::zeq f v r
theorem zdp(f g:Str)(v:V):∀fs:List (Str×V),(zeq f v fs).lookup g=if g=f then some v else fs.lookup g
 | []=>by
   show List.lookup g [(f,v)]=_;by_cases h:g=f
   · have hb:(g==f)=true:=z7x.mpr h;simp only[List.lookup,hb,z6a h]
   · have hb:(g==f)=false:=z8w.mpr h;simp only[List.lookup,hb,z6i h]
 | (k,x)::r=>by
   have ih:=zdp f g v r;rw[show zeq f v ((k,x)::r)=(if k=f then (k,v)::r else (k,x)::zeq f v r)from rfl];by_cases hk:k=f
   · rw[z6a hk];by_cases h:g=k
     · have hb:(g==k)=true:=z7x.mpr h;simp only[List.lookup,hb,z6a (h.trans hk)]
     · have hb:(g==k)=false:=z8w.mpr h;simp only[List.lookup,hb,z6i (fun e:g=f=>h (e.trans hk.symm))]
   · rw[z6i hk];by_cases h:g=k
     · have hb:(g==k)=true:=z7x.mpr h;simp only[List.lookup,hb,z6i (fun e:g=f=>hk (h.symm.trans e))]
     · have hb:(g==k)=false:=z8w.mpr h;simp only[List.lookup,hb];exact ih
theorem zdv(f:Str)(v:V):∀fs:List (Str×V),f∈(zeq f v fs).map (·.1)/\∀g,g∈fs.map (·.1)->g∈(zeq f v fs).map (·.1)
 | []=>⟨by simp[zeq],fun g h=>by simp at h⟩
 | (k,x)::r=>by
   obtain⟨i1,i2⟩:=zdv f v r;rw[show zeq f v ((k,x)::r)=(if k=f then (k,v)::r else (k,x)::zeq f v r)from rfl];by_cases hk:k=f
   · rw[z6a hk];subst hk;exact⟨by simp,fun g h=>by simpa using h⟩
   · rw[z6i hk];refine⟨?_,fun g h=>?_⟩
     · rw[z5v];exact z5n _ i1
     · rw[z5v]at h ⊢;rcases z51.mp h with e | e
       · exact z51.mpr (.inl e)
       · exact z5n _ (i2 g e)
theorem zds(f:Str)(v:V):∀fs:List (Str×V),(zeq f v fs).length<=fs.length+1
 | []=>by simp[zeq]
 | (k,x)::r=>by
   have ih:=zds f v r;rw[show zeq f v ((k,x)::r)=(if k=f then (k,v)::r else (k,x)::zeq f v r)from rfl];by_cases hk:k=f
   · rw[z6a hk,List.length_cons,List.length_cons];omega
   · rw[z6i hk,List.length_cons,List.length_cons];omega
theorem RelO.some_of{v:V}{o:Option Value}(r:RelO (some v) o):∃u,o=some u/\RelV v u:=by
 cases o with
 |none=>exact(show False from r).elim
 |some u=>exact⟨u,rfl,r⟩
theorem RelO.none_of{o:Option Value}(r:RelO none o):o=none:=by
 cases o with
 |none=>rfl
 |some u=>exact(show False from r).elim
theorem zom{v:V}{u:Value}(r:RelV v u):PySem.W.handedIn u=true:=by
 cases v with
 |non=>cases(show u=Value.none from r);rfl
 |bl b=>cases(show u=Value.bool b from r);rfl
 |int i=>obtain⟨t,e⟩:=(show ∃t,u=Value.int i t from r);cases e;rfl
 |str x=>obtain⟨t,e⟩:=(show ∃t,u=Value.str x t from r);cases e;rfl
 |byt b=>obtain⟨t,e⟩:=(show ∃t,u=Value.bytes b t from r);cases e;rfl
 |flt b=>obtain⟨t,e⟩:=(show ∃t,u=Value.float b t from r);cases e;rfl
 |ref a=>cases(show u=Value.ref a from r);rfl
 |ty n=>cases(show u=Value.type n from r);rfl
section
variable {P:Program}{w:World}{H H':Hp}{h h':Heap}{a C dx:Addr}{fs fs':List (Str×V)}
theorem zf1(hok:HOk P w H h)(e:H a=some (.ins C dx fs)):∃mA,ObjM h a dx C mA/\(∀f,RelO (fs.lookup f) (mA f))/\PySem.Within mA (fs.map (·.1))/\fs.length<=1000/\H dx=some (.own a):=by
 obtain⟨d,z,ne,ob,mA,n,r,q⟩:=(show ObjOk P w H h a (.ins C dx fs)from hok a _ e)
 exact⟨mA,⟨ob,n,ne⟩,r,q,z,d⟩
end
structure Cls (K:zFr) (C:Addr):Prop where
 pg:PySem.W.plainGet K C Str.empty=true
 hd:PySem.W.hasDictIn K C=true
 po:PySem.W.plainOver K C=true
 sa:PySem.W.findIn K (.ref C) "__setattr__"=some (some (.builtin "object.__setattr__"))
theorem Cls.get{K:zFr}{C:Addr}(c:Cls K C)(f:Str):PySem.W.plainGet K C f=true:=c.pg
def NoAttr(K:zFr)(C:Addr)(f:Str):Prop:=PySem.W.findIn K (.ref C) f=some none
theorem NoAttr.taker{K:zFr}{C:Addr}{f:Str}(n:NoAttr K C f):PySem.W.takerIn K C f=some none:=by unfold PySem.W.takerIn;rw[show PySem.W.findIn K (.ref C) f=some none from n];rfl
structure Meth (K:zFr) (C:Addr) (m:Str) (f:Addr):Prop where
 at_:PySem.W.findIn K (.ref C) m=some (some (.ref f))
 fn:PySem.W.isFn K (.ref f)=true
 kp:PySem.W.keepIn K (.ref f)=true
section
variable {X:Cx}{pins:zAO}{σ:St}{H:Hp}{s:Shared}{a C dx:Addr}{fs:List (Str×V)}{f:Str}{v:V}{A:Around}{E:zVP}
theorem zln{b:Bool}{Q:zVP}(I:Inv X pins σ H s)(e:H a=some (.ins C dx fs))(c:Cls X.K C)(n:NoAttr X.K C f)(l:fs.lookup f=some v)
   (h:∀u s',Inv X pins σ H s'->RelV v u->Q u s'):wpAny (model X.prog X.w) A (getAttr (.ref a) f b) Q E s:=by
 obtain⟨mA,O,r,_,_,_⟩:=zf1 I.hok e;obtain⟨u,hu,ru⟩:=RelO.some_of (v:=v) (o:=mA f) (by rw[<-l];exact r f);exact zvw I.kIn O (c.get f) c.hd n hu (zom ru) (h u _ (I.tok _) ru)
theorem zlm{m:Str}{g:Addr}{pl:Sem Bool}{Q:Value×List Value->Shared->Prop}(I:Inv X pins σ H s)(e:H a=some (.ins C dx fs))(c:Cls X.K C)(k:Meth X.K C m g)(l:fs.lookup m=none)
   (h:Q (.ref g,[.ref a]) s):wpAny (model X.prog X.w) A (getMethod (.ref a) m pl) Q E s:=by
 obtain⟨mA,O,r,_,_,_⟩:=zf1 I.hok e;have hn:mA m=none:=RelO.none_of (by rw[<-l];exact r m);exact zrd I.kIn O (c.get m) k.at_ k.fn hn h
theorem zk2{y:V}{u:Value}{Q:Unit->Shared->Prop}(I:Inv X pins σ H s)(e:H a=some (.ins C dx fs))(c:Cls X.K C)(n:NoAttr X.K C f)(hl:fs.length<1000)(ry:RelV y u)
   (h:∀s',Inv X pins σ (upd H a (.ins C dx (zeq f y fs))) s'->Q () s'):wpAny (model X.prog X.w) A (setAttr (.ref a) f u) Q E s:=by
 obtain⟨mA,O,r,wi,_,ho⟩:=zf1 I.hok e;have hz:(fs.map (·.1)).length<=sizeLine:=by rw[z7k,z60];omega
 refine zuq I.kIn O c.sa c.po n.taker c.hd wi hz fun h' O' sb=>h _ ?_;have hd:∃o,h'.get? dx=some o:=let⟨o,_,_,e',_⟩:=O'.ns;⟨o,e'⟩;refine I.write (x:=a) (e:=dx) (by rw[e];exact True.intro) (.inr ho) (fun b q hb z=>(sb.2 b hb).trans z) hd ?_;refine⟨by rw[qf O.ne];exact ho,?_,O.ne,O'.obj,_,O'.ns,fun g=>?_,fun g hg=>?_⟩
 · have:=zds f y fs;omega
 · show RelO ((zeq f y fs).lookup g) (if g=f then some u else mA g);rw[zdp];by_cases q:g=f
   · rw[z6a q,z6a q];exact ry
   · rw[z6i q,z6i q];exact r g
 · by_cases q:g=f
   · rw[q];exact(zdv f y fs).1
   · refine(zdv f y fs).2 g (wi g fun z=>hg ?_);show(if g=f then some u else mA g)=none;rw[z6i q];exact z
theorem Inv.made(I:Inv X pins σ H s):Inv X pins σ (upd (upd H s.heap.objs.size (.own (s.heap.objs.size+1))) (s.heap.objs.size+1) (.ins C s.heap.objs.size []))
   { s with heap:=(s.heap.push PySem.W.emptyDict).push (PySem.W.instObj C s.heap.objs.size) }:=by
 have e1:(s.heap.push PySem.W.emptyDict).get? s.heap.objs.size=some PySem.W.emptyDict:=z6c s.heap rfl;have e2:((s.heap.push PySem.W.emptyDict).push (PySem.W.instObj C s.heap.objs.size)).get? (s.heap.objs.size+1)=some (PySem.W.instObj C s.heap.objs.size):=by
   have:=z6c (s.heap.push PySem.W.emptyDict) (o:=PySem.W.instObj C s.heap.objs.size) rfl
   rwa [z93]at this
 have e3:(s.heap.push PySem.W.emptyDict).Ns s.heap.objs.size (fun _=>none):=⟨PySem.W.emptyDict,#[],_,e1,rfl,(fun e he=>absurd he (by simp)),fun _=>rfl⟩
 have I1:=I.laid (a:=s.heap.objs.size) (o:=.own (s.heap.objs.size+1)) (h':=s.heap.push PySem.W.emptyDict) (t':=s.toks) (fun b u q=>z5p _ q) (z5o _) ⟨_,e1⟩;refine I1.laid (a:=s.heap.objs.size+1) (o:=.ins C s.heap.objs.size []) (t':=s.toks) (fun b u q=>z5p _ q) (Nat.le_of_eq (z93 _ _)) ?_;have ne:s.heap.objs.size≠s.heap.objs.size+1:=z53 (z9m _);refine⟨by rw[qf ne,qq],z6n _,ne,e2,fun _=>none,(Heap.Ns1.of_empty e3).at fun o q=>z5p _ q,fun _=>True.intro,fun y hy=>absurd rfl hy⟩
theorem zwn{prog:Program}{w:World}{env:Env}{e:Expr}{f:Str}{pos:Pos}{s:Shared}{Q:zVP}(hb:attributeBase e f env (eval e env)=eval e env)
   (h:wpAny (model prog w) A (eval e env) (fun o s₁=>wpAny (model prog w) A (getAttr o f true) Q E s₁) E s):wpAny (model prog w) A (eval (.Attribute e f pos) env) Q E s :=
 Attribute_any_ h (by rw[arm_eval_Attribute,hb])
end
def z4k(K:zFr)(ta:TE)(f:Str):TE:=fun σ H Q=>ta σ H fun x H1=>∃a C dx fs v,x=.ref a/\H1 a=some (.ins C dx fs)/\Cls K C/\NoAttr K C f/\fs.lookup f=some v/\Q v H1
def z4t(K:zFr)(ta tv:TE)(f:Str):TS:=fun D σ H=>tv σ H fun y H1=>ta σ H1 fun x H2=>∃a C dx fs,x=.ref a/\H2 a=some (.ins C dx fs)/\Cls K C/\NoAttr K C f/\fs.length<1000 /\
 D.nx σ (upd H2 a (.ins C dx (zeq f y fs)))
section
variable {X:Cx}{o e value:Expr}{f:Str}{pos pos' tpos:Pos}{ta tv:TE}
theorem zyi(he:PE X e ta)(hb:attributeBase e f X.env (eval e X.env)=eval e X.env):PE X (.Attribute e f pos) (z4k X.K ta f):=by intro pins s σ H Q I h;refine zwn hb (thn (he pins s σ H _ I h) fun u s1 ⟨x,H1,I1,rx,a,C,dx,fs,v,ex,ea,c,n,l,q⟩=>?_);subst ex;obtain rfl:u=Value.ref a:=rx;exact zln I1 ea c n l fun u' s2 I2 ru=>⟨v,H1,I2,ru,q⟩
theorem zx6(ha:PE X o ta)(hv:PE X value tv)(hs:swapsWith value (some (.Attribute o f pos')) pos.line X.env=pure false):PS X (.Assign [.Attribute o f pos'] value pos) (z4t X.K ta tv f):=by intro pins s σ H D I h;refine plainObj_wpAny_Assign_Attribute (thn (hv pins s σ H _ I h) fun u s1 ⟨y,H1,I1,ry,q⟩=>thn (ha pins s1 σ H1 _ I1 q) fun ov s2 ⟨x,H2,I2,rx,a,C,dx,fs,ex,ea,c,n,l,q2⟩=>?_) hs;subst ex;obtain rfl:ov=Value.ref a:=rx;exact zk2 I2 ea c n l ry fun s3 I3=>⟨σ,_,I3,q2⟩
end
section
variable {X:Cx}{pins:zAO}{σ:St}{H:Hp}{s:Shared}{A:Around}{E:zVP}{Q:zVP}{c:Value}{b:Bool}
inductive TyOf (K:zFr) (H:Hp):V->Value->Prop where
 |non:TyOf K H .non (.type "NoneType")
 |bl (x:Bool):TyOf K H (.bl x) (.type "bool")
 |int (i:Int):TyOf K H (.int i) (.type "int")
 |str (x:Str):TyOf K H (.str x) (.type "str")
 |flt (x:UInt64):TyOf K H (.flt x) (.type "float")
 |lst {a:Addr}{xs:List V} (e:H a=some (.lst xs)):TyOf K H (.ref a) (.type "list")
 |frz {a:Addr}{o:Obj}{xs:List V} (e:H a=some (.frz o (.lst xs))):TyOf K H (.ref a) (.type "list")
 |tup {a:Addr}{xs:List V} (e:H a=some (.tup xs)):TyOf K H (.ref a) (.type "tuple")
 |dK {a:Addr}{kvs:List (Key×V)} (e:H a=some (.dK kvs)):TyOf K H (.ref a) (.type "dict")
 |dT {a:Addr}{kvs:List (List Key×V)} (e:H a=some (.dT kvs)):TyOf K H (.ref a) (.type "dict")
 |ins {a C dx:Addr}{fs:List (Str×V)} (e:H a=some (.ins C dx fs)) (cl:Cls K C) (ha:PySem.W.findIn K (.ref C) "__class__"=some (some (.builtin "object.__class__")))
     (hn:PySem.W.specialIn K (.builtin "object.__class__") "__get__"=some (some (.builtin "getset_descriptor.__get__"))) (htk:PySem.W.takesIn K (.builtin "object.__class__")=some true)
     (hm:PySem.W.mroIn K C (.type "object")=some true):TyOf K H (.ref a) (.ref C)
theorem zod{x:V}{u t:Value}(I:Inv X pins σ H s)(rx:RelV x u)(ty:TyOf X.K H x t)(e:PySem.W.kitOne X.K t c=some b)(h:∀tk,Q (.bool b) { s with toks:=tk }) :
   wpAny (model X.prog X.w) A (call (.builtin "isinstance") [u,c]) Q E s:=by
 cases ty with
 |non=>cases(show u=Value.none from rx);exact z6t PySem.W.kitx_none I.kIn True.intro e (fun z=>nomatch z) h
 |bl y=>cases(show u=Value.bool y from rx);exact z6t PySem.W.kitx_bool I.kIn True.intro e (fun z=>nomatch z) h
 |int i=>obtain⟨t,q⟩:=(show ∃t,u=Value.int i t from rx);cases q;exact z6t PySem.W.kitx_int I.kIn True.intro e (fun z=>nomatch z) h
 |str y=>obtain⟨t,q⟩:=(show ∃t,u=Value.str y t from rx);cases q;exact z6t PySem.W.kitx_str I.kIn True.intro e (fun z=>nomatch z) h
 |flt y=>obtain⟨t,q⟩:=(show ∃t,u=Value.float y t from rx);cases q;exact z6t PySem.W.kitx_float I.kIn True.intro e (fun z=>nomatch z) h
 | @lst a xs ea=>
   cases(show u=Value.ref a from rx);obtain⟨_,_,n,_,h1⟩:=(show ObjOk X.prog X.w H s.heap a (.lst xs)from I.hok a _ ea)
   exact z6t z95 I.kIn ⟨_,h1,rfl⟩ e (fun z=>nomatch z) h
 | @frz a ob xs ea=>
   cases(show u=Value.ref a from rx);obtain⟨_,_,_,n,_,h1⟩:=(show ObjOk X.prog X.w H s.heap a (.frz ob (.lst xs))from I.hok a _ ea)
   exact z6t z95 I.kIn ⟨_,h1,rfl⟩ e (fun z=>nomatch z) h
 | @tup a xs ea=>
   cases(show u=Value.ref a from rx);obtain⟨_,_,_,p⟩:=(show ObjOk X.prog X.w H s.heap a (.tup xs)from I.hok a _ ea)
   obtain⟨o,h1,h2,_⟩:=p;exact z6t PySem.W.kitx_tuple I.kIn ⟨o,h1,h2⟩ e (fun z=>nomatch z) h
 | @dK a kvs ea=>
   cases(show u=Value.ref a from rx);obtain⟨_,_,vs,_,p⟩:=(show ObjOk X.prog X.w H s.heap a (.dK kvs)from I.hok a _ ea)
   obtain⟨o,es,ep,h1,h2,_⟩:=p;exact z6t PySem.W.kitx_dict I.kIn ⟨o,h1,h2.1⟩ e (fun z=>nomatch z) h
 | @dT a kvs ea=>
   cases(show u=Value.ref a from rx);obtain⟨_,_,xs,_,o,es,ep,h1,h2,_⟩:=(show ObjOk X.prog X.w H s.heap a (.dT kvs)from I.hok a _ ea)
   exact z6t PySem.W.kitx_dict I.kIn ⟨o,h1,h2.1⟩ e (fun z=>nomatch z) h
 | @ins a C dx fs ea cl ha hn htk hm=>
   cases(show u=Value.ref a from rx);obtain⟨mA,O,_⟩:=zf1 I.hok ea;obtain⟨od,J,_⟩:=O.look;exact z6t (PySem.W.kitx_own (cl.get _) cl.hd ha hn htk hm) I.kIn J e (fun z=>nomatch z) h
end
structure Room (k:Nat) (A:Around):Prop where
 hd:A.handled=none
 dp:A.depth+3*k+5<recursionLimit
 un:A.units+16*k+200<cLine
theorem Room.mono{j k:Nat}{A:Around}(r:Room k A)(h:j<=k):Room j A:=⟨r.hd,by have:=r.dp;omega,by have:=r.un;omega⟩
theorem Room.deeper{k:Nat}{A:Around}(r:Room (k+1) A)(env:Env):Room k (A.deeper env) :=
 ⟨r.hd,by have:=r.dp;show A.depth+1+3*k+5<_;omega,by have:=r.un;show A.units+3+16*k+200<_;omega⟩
theorem Room.in1{k:Nat}{A:Around}(r:Room (k+1) A):Room k A.in1 :=
 ⟨r.hd,by have:=r.dp;show A.depth+3*k+5<_;omega,by have:=r.un;show A.units+1+16*k+200<_;omega⟩
theorem zlh{A:Around}{C:Addr}{us:List Value}{kw:List (Str×Value)}:(A.under (.builtin "type.__call__" ⟨.ref C::us,kw⟩)).depth=A.depth+1:=by
 first | rfl | simp[Around.under,Code.weight,Code.isCreation,Code.isGuard,Code.isCaller,Code.frames,Code.isFrame,guardIds]
theorem zlg{A:Around}{C:Addr}{us:List Value}{kw:List (Str×Value)}:(A.under (.builtin "type.__call__" ⟨.ref C::us,kw⟩)).units=A.units+1:=by
 first | rfl | simp[Around.under,Code.cUnits,Code.frames,Code.isFrame]
theorem Room.make{k:Nat}{A:Around}(r:Room (k+1) A)(C:Addr)(us:List Value)(kw:List (Str×Value)):Room k (A.under (.builtin "type.__call__" ⟨.ref C::us,kw⟩)) :=
 ⟨r.hd,by have:=r.dp;rw[zlh];omega,by have:=r.un;rw[zlg];omega⟩
theorem Room.depth{k:Nat}{A:Around}(r:Room k A):A.depth<recursionLimit:=by have:=r.dp;omega
def z4g:TA:=fun _ H Q=>Q [] H
def z1u(ta:TE)(tr:TA):TA:=fun σ H Q=>ta σ H fun x H1=>tr σ H1 fun xs H2=>Q (x::xs) H2
section
variable {X:Cx}{e:Expr}{es:List Expr}{te:TE}{t:TA}{pos:Pos}
theorem znp:PA X [] z4g:=fun _ _ _ _ H Q I h=>Calls.spliced_nil ⟨[],H,I,.nil,h⟩
theorem zfr(ha:PE X e te)(hr:PA X es t)(hs:starEach (e::es) X.env=(false,eval e X.env)::starEach es X.env:=by rfl):PA X (e::es) (z1u te t):=by intro pos pins s σ H Q I h;rw[hs];show wpAny _ _ (spliced ((false,eval e X.env)::backTo pos (starEach es X.env))) _ _ s;refine z9y (thn (ha pins s σ H _ I h) fun u s1 ⟨x,H1,I1,r1,q1⟩=>?_);exact thn (hr pos pins s1 σ H1 _ I1 q1) fun us s2 ⟨xs,H2,I2,r2,q2⟩=>⟨x::xs,H2,I2,.cons r1 r2,q2⟩
def z4b(t:TA):TE:=fun σ H Q=>t σ H fun xs H1=>xs.length<=sizeLine/\∀p,H1 p=none->Q (.ref p) (upd H1 p (.tup xs))
def z4h(t:TA):TE:=fun σ H Q=>t σ H fun xs H1=>xs.length<=sizeLine/\∀p,H1 p=none->Q (.ref p) (upd H1 p (.lst xs))
theorem zyc{x1}(h:PA X es t):PE X (.Tuple es x1 pos) (z4b t):=by intro pins s σ H Q I hq;refine wpAny_Tuple_spliced (thn (h pos pins s σ H _ I hq) fun us s1 ⟨xs,H1,I1,r,z,q⟩=>⟨by rw[<-r.length];exact z,?_⟩);have hf:H1 s1.heap.objs.size=none:=I1.hok.fresh (z5o _);refine⟨.ref s1.heap.objs.size,upd H1 s1.heap.objs.size (.tup xs),I1.laid (t':=s1.toks) (fun b u e=>z5p _ e) (z5o _) ?_,rfl,q _ hf⟩;exact⟨z,us,r,⟨_,z6c _ rfl,rfl,_,rfl⟩⟩
theorem zs4(h:PA X es t):PE X (.List es pos) (z4h t):=by intro pins s σ H Q I hq;refine wpAny_List_spliced (thn (h pos pins s σ H _ I hq) fun us s1 ⟨xs,H1,I1,r,z,q⟩=>⟨by rw[<-r.length];exact z,?_⟩);have hf:H1 s1.heap.objs.size=none:=I1.hok.fresh (z5o _);refine⟨.ref s1.heap.objs.size,upd H1 s1.heap.objs.size (.lst xs),I1.laid (t':=s1.toks) (fun b u e=>z5p _ e) (z5o _) ?_,rfl,q _ hf⟩;exact⟨z,us,0,r,z6c _ rfl⟩
end
abbrev Sp:=List V->Hp->VK->XK->Prop
abbrev CXT:=List Env->Hp->Shared->XK->zVP
structure Env0 (P:Program) (w:World) (K:zFr) (mg:zMg) (base:Heap) (A:Around) (outer:List Env) (s:Shared) (H:Hp):Prop where
 frames:A.frames=some outer
 mod:Mod K mg base
 bs:∀b o,base.get? b=some o->s.heap.get? b=some o/\H b=none
 bsz:base.objs.size<=s.heap.objs.size
 funs:s.heap.FunFrames base outer
 frf:∀b∈frs outer,H b=none
 hok:HOk P w H s.heap
 bare:AllBare s.gens
def CE(outer:List Env)(P:Program)(w:World)(H:Hp)(s:Shared)(Q:VK)(u:Value)(s':Shared):Prop :=
 ∃v H',s'.os=s.os/\AllBare s'.gens/\Un (frs outer) [] H H' s.heap s'.heap/\HOk P w H' s'.heap/\RelV v u/\Q v H'
def CR(CX:CXT)(outer:List Env)(P:Program)(w:World)(H:Hp)(s:Shared)(Q:VK)(E:XK)(r:Result)(s':Shared):Prop :=
 match r with
 | .ok (.ret u)=>CE outer P w H s Q u s'
 | .ok _=>False
 | .error e=>CX outer H s E e s'
structure FnOk (P:Program) (w:World) (K:zFr) (mg:zMg) (base:Heap) (CX:CXT) (k:Nat) (f:Addr) (fd:FuncData) (ps:List Str) (sp:Sp):Prop where
 len:∀vs H Q E,sp vs H Q E->vs.length=ps.length
 run:∀(A:Around) (outer:List Env) (s:Shared) (H:Hp) (args:Args) (us:List Value) (vs:List V) (Q:VK) (E:XK),Room k A->Env0 P w K mg base A outer s H->BindsTo s fd args (ps.zip us)->Vals vs us->sp vs H Q E ->
   codeAny (model P w) A (.call (.ref f) args) (CR CX outer P w H s Q E) s
theorem FnOk.mono{P:Program}{w:World}{K:zFr}{mg:zMg}{base:Heap}{CX:CXT}{j k:Nat}{f:Addr}{fd:FuncData}{ps:List Str}{sp:Sp}(F:FnOk P w K mg base CX j f fd ps sp)(h:j<=k) :
   FnOk P w K mg base CX k f fd ps sp:=⟨F.len,fun A outer s H args us vs Q E hr=>F.run A outer s H args us vs Q E (hr.mono h)⟩
theorem FnOk.imp{P:Program}{w:World}{K:zFr}{mg:zMg}{base:Heap}{CX:CXT}{k:Nat}{f:Addr}{fd:FuncData}{ps:List Str}{sp sp':Sp}(F:FnOk P w K mg base CX k f fd ps sp)
   (h:∀vs H Q E,sp' vs H Q E->sp vs H Q E):FnOk P w K mg base CX k f fd ps sp' :=
 ⟨fun vs H Q E q=>F.len vs H Q E (h _ _ _ _ q),fun A outer s H args us vs Q E hr he hb hv hs=>F.run A outer s H args us vs Q E hr he hb hv (h _ _ _ _ hs)⟩
theorem Env0.make{P:Program}{w:World}{K:zFr}{mg:zMg}{base:Heap}{A:Around}{outer:List Env}{s:Shared}{H:Hp}(e:Env0 P w K mg base A outer s H)(C:Addr)(us:List Value)(kw:List (Str×Value)) :
   Env0 P w K mg base (A.under (.builtin "type.__call__" ⟨.ref C::us,kw⟩)) outer s H:=⟨by first | exact e.frames | (simpa [Around.under,Code.envs,Code.isFrame,pushEnvs] using e.frames),e.mod,e.bs,e.bsz,e.funs,e.frf,e.hok,e.bare⟩
theorem Env0.in1{P:Program}{w:World}{K:zFr}{mg:zMg}{base:Heap}{A:Around}{outer:List Env}{s:Shared}{H:Hp}(e:Env0 P w K mg base A outer s H) :
   Env0 P w K mg base A.in1 outer s H:=⟨e.frames,e.mod,e.bs,e.bsz,e.funs,e.frf,e.hok,e.bare⟩
section
variable {X:Cx}{pins:zAO}{σ:St}{H:Hp}{s s':Shared}
theorem Inv.env0(I:Inv X pins σ H s):Env0 X.prog X.w X.K X.mg X.base X.A X.stack s H :=
 ⟨I.ok.frames,I.ok.mod,I.bs,z57 I.ok.bsz I.sz,I.stack,I.stkFree,I.hok,I.bare⟩
theorem Inv.after{Q:VK}{u:Value}(I:Inv X pins σ H s)(h:CE X.stack X.prog X.w H s Q u s'):EP X pins σ Q u s':=by obtain⟨v,H',os,bare,un,hok,r,q⟩:=h;obtain⟨hh,g,d,t,os'⟩:=s';obtain rfl:os'=s.os:=os;exact⟨v,H',I.call (h':=hh) (g':=g) (d':=d) (t':=t) (ch:=[]) un hok bare (fun b z=>absurd z (by simp)),r,q⟩
end
def zuc(sp:Sp)(dvs:List V)(E:XK)(t:TA):TE:=fun σ H Q=>t σ H fun vs H1=>sp (vs++dvs) H1 Q E
def z1r(C:Addr)(m:Str)(sp:Sp)(dvs:List V)(E:XK)(ta:TE)(t:TA):TE:=fun σ H Q=>ta σ H fun x H1=>∃a dx fs,x=.ref a/\H1 a=some (.ins C dx fs)/\fs.lookup m=none /\
 t σ H1 fun vs H2=>sp (x::(vs++dvs)) H2 Q E
def zxc(C:Addr)(sp:Sp)(dvs:List V)(E:XK)(t:TA):TE:=fun σ H Q=>t σ H fun vs H1=>∀x dx,H1 x=none->H1 dx=none->dx≠x ->
 sp (.ref x::(vs++dvs)) (upd (upd H1 dx (.own x)) x (.ins C dx [])) (fun v H2=>v=.non/\Q (.ref x) H2) E
def Binds(K:zFr)(fd:FuncData)(ps:List Str)(ds:List Value):Prop :=
 ∀(s:Shared) (us:List Value),K.In s.heap->(us++ds).length=ps.length->BindsTo s fd ⟨us,[]⟩ (ps.zip (us++ds))
theorem Binds.all{K:zFr}{fd:FuncData}{ps:List Str}(h:∀us:List Value,us.length=ps.length->bindArgs fd ⟨us,[]⟩=pure (ps.zip us)):Binds K fd ps []:=fun s us _ hl=>by rw[z6f]at hl ⊢;exact .of_eq (h us hl)
def zep(CX:CXT)(X:Cx)(E:XK):Prop:=∀(pins:zAO) (σ:St) (H:Hp) (s:Shared) (e:Value) (s':Shared),Inv X pins σ H s->CX X.stack H s E e s'->X.xe e s'
section
variable {X:Cx}{CX:CXT}{k:Nat}{f C:Addr}{fd:FuncData}{ps:List Str}{sp:Sp}{dvs:List V}{ds:List Value}{E:XK}{x m:Str}{p pos apos:Pos}{e o:Expr}{es:List Expr}{ta:TE}{t:TA}
theorem zg4{pins:zAO}{σ:St}{H:Hp}{s:Shared}{Q:VK}{us:List Value}{vs:List V}(F:FnOk X.prog X.w X.K X.mg X.base CX k f fd ps sp)(hr:Room k X.A)(hb:Binds X.K fd ps ds)(hd:Vals dvs ds)(hx:zep CX X E)
   (I:Inv X pins σ H s) (r:Vals vs us) (h:sp (vs++dvs) H Q E):wpAny (model X.prog X.w) X.A (call (.ref f) us) (EP X pins σ Q) X.xe s:=by
 have r2:Vals (vs++dvs) (us++ds):=r.append hd;have hl:(us++ds).length=ps.length:=by rw[<-r2.length];exact F.len _ _ _ _ h
 refine z9r (z8x (F.run X.A X.stack s H ⟨us,[]⟩ (us++ds) (vs++dvs) Q E hr I.env0 (hb s us I.kIn hl) r2 h) fun r s' hq=>?_);cases r with
 |error e=>exact hx pins σ H s e s' I hq
 | ok fl=>
   cases fl with
   |ret u=>exact I.after hq
   |next=>exact False.elim hq
   |brk=>exact False.elim hq
   |cont=>exact False.elim hq
theorem zu7(F:FnOk X.prog X.w X.K X.mg X.base CX k f fd ps sp)(hr:Room k X.A)(hg:Gl X x)(hm:X.mg x=some (.ref f))(hk:PySem.W.keepIn X.K (.ref f)=true)(hb:Binds X.K fd ps ds)(hd:Vals dvs ds)(hx:zep CX X E)
   (ha:PA X (e::es) t) (hdb:(x==("__debug__":Str))=false:=by decide) (he:starEach (e::es) X.env=(false,eval e X.env)::starEach es X.env:=by rfl) (hpl:(backTo pos (starEach es X.env)).any (·.1)=false:=by rfl) :
   PE X (.Call (.Name x p) (e::es) [] pos) (zuc sp dvs E t):=by
 intro pins s σ H Q I h;refine z6y (za0 I hg hm ?_ hdb);refine z7q (h₀:=X.base) I.ok.mod.kin hk (thn (ha pos pins s σ H _ I h) fun us s1 ⟨vs,H1,I1,r,q⟩=>⟨I1.kIn,?_⟩) he hpl;exact zg4 F hr hb hd hx I1 r q
theorem zu4{pl:Sem Bool}(he:PE X o ta)(c:Cls X.K C)(hm:Meth X.K C m f)(F:FnOk X.prog X.w X.K X.mg X.base CX k f fd ps sp)(hr:Room k X.A)(hb:Binds X.K fd ps ds)(hd:Vals dvs ds)(hx:zep CX X E)(ha:PA X (e::es) t)
   (hst:starEach (e::es) X.env=(false,eval e X.env)::starEach es X.env:=by rfl) (hpl:(backTo pos (starEach es X.env)).any (·.1)=false:=by rfl)
   (ht:eval (.Call (.Attribute o m apos) (e::es) [] pos) X.env=(do
     let ov <-eval o X.env
     standAt apos.atName
     let(f,first) <-holding [ov] (getMethod ov m pl)
     callWith pos f first (backTo pos (starEach (e::es) X.env)) (backToKw pos (keywordEach [] X.env))):=by rfl) :
   PE X (.Call (.Attribute o m apos) (e::es) [] pos) (z1r C m sp dvs E ta t):=by
 intro pins s σ H Q I h;refine PySem.W.methodCall_KW (pl:=pl) (thn (he pins s σ H _ I h) fun u s1 ⟨x,H1,I1,rx,a,dx,fs,ex,ea,l,q⟩=>?_) ht;subst ex;obtain rfl:u=Value.ref a:=rx;refine zlm I1 ea c hm l ?_;refine z7q (first:=[.ref a]) (h₀:=X.base) I.ok.mod.kin hm.kp (thn (ha pos pins s1 σ H1 _ I1 q) fun us s2 ⟨vs,H2,I2,r,q2⟩=>⟨I2.kIn,?_⟩) hst hpl;exact zg4 (us:=.ref a::us) (vs:=.ref a::vs) F hr hb hd hx I2 (.cons rfl r) q2
structure Mk (K:zFr) (C f:Addr):Prop where
 makes:PySem.W.makesIn K C=true
 init:PySem.W.findIn K (.ref C) "__init__"=some (some (.ref f))
 fn:PySem.W.isFn K (.ref f)=true
 kp:PySem.W.keepIn K (.ref C)=true
theorem zqk{pins:zAO}{σ:St}{H:Hp}{s:Shared}{Q:VK}{us:List Value}{vs:List V}(M:Mk X.K C f)(F:FnOk X.prog X.w X.K X.mg X.base CX k f fd ps sp)(hr:Room (k+1) X.A)(hb:Binds X.K fd ps ds)(hd:Vals dvs ds)
   (hx:zep CX X E) (I:Inv X pins σ H s) (r:Vals vs us)
   (h:∀x dx,H x=none->H dx=none->dx≠x->sp (.ref x::(vs++dvs)) (upd (upd H dx (.own x)) x (.ins C dx [])) (fun v H2=>v=.non/\Q (.ref x) H2) E) :
   wpAny (model X.prog X.w) X.A (call (.ref C) us) (EP X pins σ Q) X.xe s:=by
 have hq:=h (s.heap.objs.size+1) s.heap.objs.size (I.hok.fresh (z9f _)) (I.hok.fresh (z5o _)) (z53 (z9m _));have I2:=Inv.made (C:=C) I;have r2:Vals (V.ref (s.heap.objs.size+1)::(vs++dvs)) (Value.ref (s.heap.objs.size+1)::(us++ds)):=.cons rfl (r.append hd);have hl:(Value.ref (s.heap.objs.size+1)::us++ds).length=ps.length:=by have e:=r2.length;rw[F.len _ _ _ _ hq]at e;exact e.symm
 refine z9r (zq6 (f:=f) I.kIn M.makes M.init (z7x.mp M.fn) (z8x (F.run _ X.stack _ _ ⟨Value.ref (s.heap.objs.size+1)::us,[]⟩ (Value.ref (s.heap.objs.size+1)::(us++ds)) _ _ E (hr.make C us [])
   (I2.env0.make C us []) (hb _ (Value.ref (s.heap.objs.size+1)::us) I2.kIn hl) r2 hq) fun r s' hq'=>?_))
 cases r with
 |error e=>exact hx pins σ _ _ e s' I2 hq'
 | ok fl=>
   cases fl with
   | ret u=>
     obtain⟨v,H',I3,rv,ev,q3⟩:=I2.after hq';subst ev;exact⟨rv,⟨V.ref (s.heap.objs.size+1),H',I3,rfl,q3⟩⟩
   |next=>exact False.elim hq'
   |brk=>exact False.elim hq'
   |cont=>exact False.elim hq'
theorem zu5(M:Mk X.K C f)(F:FnOk X.prog X.w X.K X.mg X.base CX k f fd ps sp)(hr:Room (k+1) X.A)(hg:Gl X x)(hm:X.mg x=some (.ref C))(hb:Binds X.K fd ps ds)(hd:Vals dvs ds)(hx:zep CX X E)
   (ha:PA X (e::es) t) (hdb:(x==("__debug__":Str))=false:=by decide) (he:starEach (e::es) X.env=(false,eval e X.env)::starEach es X.env:=by rfl) (hpl:(backTo pos (starEach es X.env)).any (·.1)=false:=by rfl) :
   PE X (.Call (.Name x p) (e::es) [] pos) (zxc C sp dvs E t):=by
 intro pins s σ H Q I h;refine z6y (za0 I hg hm ?_ hdb);refine z7q (h₀:=X.base) I.ok.mod.kin M.kp (thn (ha pos pins s σ H _ I h) fun us s1 ⟨vs,H1,I1,r,q⟩=>⟨I1.kIn,?_⟩) he hpl;exact zqk M F hr hb hd hx I1 r q
end
structure FnScope (N P:List Str) (sc:Scope):Prop where
 kind:sc.kind=.function
 co:sc.isCoroutine=false
 gen:sc.isGenerator=false
 nd:N.Nodup
 pre:N.take P.length=P
 par:∀x∈P,sc.names.lookup x=some .local\/sc.names.lookup x=some .cell
 nofree:∀y∈sc.names,y.2≠.free
theorem zh2{kindOf:Str->Option NameKind}{x:Str}:∀{binds:List (Str×Value)}{m:zMg},(∀v,(x,v)∉binds)->bindL kindOf binds m x=m x
 | [],_,_=>rfl
 | (n,v)::r,m,h=>by
   unfold bindL;rw[zh2 fun w hw=>h w (z5n _ hw)];split
   · have:x≠n:=by rintro rfl;exact h v z5x
     simp[this]
   · rfl
theorem zh4{kindOf:Str->Option NameKind}{x:Str}:∀{binds:List (Str×Value)}{m:zMg},(∀v,(x,v)∉binds)->bindC kindOf binds m x=m x
 | [],_,_=>rfl
 | (n,v)::r,m,h=>by
   unfold bindC;rw[zh4 fun w hw=>h w (z5n _ hw)];split
   · rfl
   · have:x≠n:=by rintro rfl;exact h v z5x
     simp[this]
theorem zh3{kindOf:Str->Option NameKind}{x:Str}{v:Value}:∀{P:List Str}{vs:List Value}{i:Nat}{m:zMg},P.Nodup->P[i]? = some x->vs[i]? = some v->kindOf x=some .local ->
   bindL kindOf (P.zip vs) m x=some v
 | [],_,_,_,_,h,_,_=>by simp at h
 |_::_,[],_,_,_,_,h,_=>by simp at h
 | p::P,w::vs,0,m,nd,h1,h2,hk=>by simp at h1 h2;subst h1;subst h2;show bindL kindOf ((p,w)::P.zip vs) m p=_;unfold bindL;rw[zh2 fun v hv=>(z7y.mp nd).1 (z7l hv).1,z6a hk];simp
 | p::P,w::vs,i+1,m,nd,h1,h2,hk=>by show bindL kindOf ((p,w)::P.zip vs) m x=_;unfold bindL;exact zh3 (i:=i) (z7y.mp nd).2 (by simpa using h1) (by simpa using h2) hk
theorem zh5{kindOf:Str->Option NameKind}{x:Str}{v:Value}:∀{P:List Str}{vs:List Value}{i:Nat}{m:zMg},P.Nodup->P[i]? = some x->vs[i]? = some v->kindOf x≠some .local ->
   bindC kindOf (P.zip vs) m x=some v
 | [],_,_,_,_,h,_,_=>by simp at h
 |_::_,[],_,_,_,_,h,_=>by simp at h
 | p::P,w::vs,0,m,nd,h1,h2,hk=>by simp at h1 h2;subst h1;subst h2;show bindC kindOf ((p,w)::P.zip vs) m p=_;unfold bindC;rw[zh4 fun v hv=>(z7y.mp nd).1 (z7l hv).1,z6i hk];simp
 | p::P,w::vs,i+1,m,nd,h1,h2,hk=>by show bindC kindOf ((p,w)::P.zip vs) m x=_;unfold bindC;exact zh5 (i:=i) (z7y.mp nd).2 (by simpa using h1) (by simpa using h2) hk
def start(N:List Str)(vs:List V):St:=vs.map some++List.replicate (N.length-vs.length) none
def zbl(CX:CXT)(P:Program)(w:World)(K:zFr)(mg:zMg)(base:Heap)(N:List Str)(qual:Str)(scope:Scope)(f:Addr)(cd:Value)(A:Around)(outer:List Env)(s:Shared)(H:Hp)(E:XK):Cx where
 prog:=P
 w:=w
 K:=K
 mg:=mg
 base:=base
 A:=A.deeper (envOfC qual scope s.heap.objs.size f cd)
 N:=N
 s₀:=s
 H₀:=H
 env:=envOfC qual scope s.heap.objs.size f cd
 outer:=outer
 stack:=envOfC qual scope s.heap.objs.size f cd::outer
 ex:=[]
 calm:=true
 fn:=fun _=>true
 pn:=[]
 xe:=fun e s'=>wpAny (model P w) (A.deeper (envOfC qual scope s.heap.objs.size f cd)) (leaving (envOfC qual scope s.heap.objs.size f cd) e) (fun _ s''=>CX outer H s E e s'') (fun e' s''=>CX outer H s E e' s'') s'
theorem zkq{sc:Scope}{n:Nat}{x:Str}(h:sc.names.lookup x=some .cell):∃c,(cellsFrom n sc.names []).lookup x=some c:=by have q:=PySem.W.cellsFrom_some sc.names n [] (.inl h);exact z7r.mp q
theorem zd0{CX:CXT}{P:Program}{w:World}{K:zFr}{mg:zMg}{base:Heap}{N ps:List Str}{qual:Str}{scope:Scope}{f:Addr}{cd:Value}{A:Around}{outer:List Env}{s s1:Shared}{H:Hp}{E:XK}{us:List Value}{vs:List V}
   (S:FnScope N ps scope) (hd:A.handled=none) (e0:Env0 P w K mg base A outer s H) (hl:vs.length=ps.length) (r:Vals vs us)
   (x:InCallC s s.heap.objs.size (bindL (envOfC qual scope s.heap.objs.size f cd).kindOf (ps.zip us) fun _=>none) (cellsFrom (s.heap.objs.size+1) scope.names []) (bindC (envOfC qual scope s.heap.objs.size f cd).kindOf (ps.zip us) fun _=>none) s1) :
   Inv (zbl CX P w K mg base N qual scope f cd A outer s H E) [] (start N vs) H s1:=by
 have hpl:ps.length<=N.length:=by have:=z68 List.length S.pre;rw[z56]at this;omega
 obtain⟨h1,tk,rfl,hk⟩:=x.done;have noA:∀b:Addr,b∉(zbl CX P w K mg base N qual scope f cd A outer s H E).ex:=fun b z=>absurd (show b∈([]:List Addr)from z) (by simp);refine⟨⟨e0.mod,S.kind,rfl,rfl,z5o _,fun y z c h1 h2=>?_,fun y hy=>?_,fun y c _ h=>?_,fun _=>hd,Around.frames_deeper e0.frames,.inr ⟨rfl,rfl⟩,fun b z=>absurd z (noA b),e0.bs,e0.bsz,fun b _ _=>noA b,fun b z=>absurd z (noA b),e0.funs,e0.frf⟩,
   rfl,e0.bare,Un.kept hk,⟨_,x.toInCall.ns,fun i y v h1 h2 h3=>?_⟩,fun y c h=>⟨_,x.cell y c h⟩,e0.hok.fresh (z5o _),fun y c h=>?_,fun p hp=>absurd (show p∈([]:zAO)from hp) (by simp),e0.hok.kept hk,?_⟩
 · exact name_of_addr x.apart (z7g h1) (z7g h2)
 · have hy:scope.names.lookup y=some .cell\/scope.names.lookup y=some .free:=hy;rcases hy with hy | hy
   · exact zkq hy
   · exact absurd rfl (S.nofree _ (z7g hy))
 · exact z7w (x.above y c (z7g h))
 · have hi:i<vs.length:=by
     unfold start at h2;by_cases hi:i<vs.length
     · exact hi
     · rw[z59 (by simpa using hi)]at h2;rw[List.getElem?_replicate]at h2;split at h2<;>cases h2
   have ha:vs[i]? = some v:=by
     unfold start at h2;rw[z6h (by simpa using hi),z6w]at h2;cases e:vs[i]? with
     |none=>rw[e]at h2;cases h2
     |some a=>rw[e]at h2;cases h2;rfl
   obtain⟨u,hu,rv⟩:=r.get ha;have hp:ps[i]? = some y:=by rw[<-S.pre,z77 (by omega)];exact h1
   have ndP:ps.Nodup:=by rw[<-S.pre];exact S.nd.sublist (List.take_sublist _ _)
   refine⟨u,rv,?_⟩;rcases S.par y (z6b hp)with k | k
   · exact .inl ⟨k,zh3 ndP hp hu k⟩
   · obtain⟨c,e⟩:=zkq (n:=s.heap.objs.size+1) k;refine .inr ⟨.inl k,c,e,?_⟩;have q:=x.cell y c e;rw[zh5 ndP hp hu (by show scope.names.lookup y≠_;rw[k];decide)]at q;exact q
 · exact e0.hok.fresh (z7w (x.above y c (z7g h)))
 · unfold start;show _=N.length;rw[z5l,z7k,List.length_replicate];omega
theorem zrm{CX:CXT}{P:Program}{w:World}{K:zFr}{mg:zMg}{base:Heap}{k:Nat}{f:Addr}{name qual:Str}{params:Arguments}{body:List Stmt}{scope:Scope}{dV kV doc pm cdv ct oc:Value}{an od:Option Addr}
   {osl:Array (Option Value)}{N ps:List Str}{sp:Sp} (lk:K.lookup f=some ⟨oc,od,.func (PySem.W.fnOf name qual params body scope dV kV doc pm an cdv ct),osl⟩) (hcd:PySem.W.codeIn K cdv qual=true) (S:FnScope N ps scope)
   (len:∀vs H Q E,sp vs H Q E->vs.length=ps.length)
   (hbody:∀(A:Around) (outer:List Env) (s:Shared) (H:Hp) (vs:List V) (Q:VK) (E:XK),Room k (A.deeper (envOfC qual scope s.heap.objs.size f cdv))->sp vs H Q E ->
     ∃t,PSs (zbl CX P w K mg base N qual scope f cdv A outer s H E) body t/\t { nx:=fun _ H'=>Q .non H',rt:=Q } (start N vs) H) :
   FnOk P w K mg base CX (k+1) f (PySem.W.fnOf name qual params body scope dV kV doc pm an cdv ct) ps sp:=by
 refine⟨len,fun A outer s H args us vs Q E hr e0 hb r hsp=>?_⟩;have hl:=len _ _ _ _ hsp;have KX:K.In s.heap:=e0.mod.kin.keeps fun b o e=>(e0.bs b o e).1;have lim:s.heap.NoLimit:=e0.mod.nolimit.keeps fun b o e=>(e0.bs b o e).1;have hkind:∀y∈ps.zip us,scope.names.lookup y.1=some .local\/(scope.names.lookup y.1=some .cell/\((cellsFrom (s.heap.objs.size+1) scope.names []).lookup y.1).isSome=true):=fun⟨n,v⟩ hy=>by
   rcases S.par n (z7l hy).1 with q | q
   · exact .inl q
   · exact .inr ⟨q,PySem.W.cellsFrom_some _ _ _ (.inl q)⟩
 refine codeAny_call_function hr.depth (KX _ _ lk) rfl S.co S.gen rfl (PySem.W.codeRec_of KX hcd) (hb _ _ _ _ ?_);refine z8u S.kind hkind fun env he s1 x=>?_;subst he;refine⟨lim.keeps x.toInCall.keep,codeAny_func ?_⟩;obtain⟨t,ht,hq⟩:=hbody A outer s H vs Q E (hr.deeper _) hsp;have I:Inv (zbl CX P w K mg base N qual scope f cdv A outer s H E) [] (start N vs) H s1:=zd0 S hr.hd e0 hl r x;refine z7f (ht [] s1 (start N vs) H _ I hq) (fun fl s' hs=>?_) fun e s' hs=>hs;have fin:∀{σ':St}{H':Hp}{v:V}{u:Value},Inv (zbl CX P w K mg base N qual scope f cdv A outer s H E) [] σ' H' s'->RelV v u->Q v H'->CE outer P w H s Q u s' :=
   fun {σ' H' v u} J rv q=>⟨v,H',J.os,J.bare,J.base,J.hok,rv,q⟩
 cases fl with
 | ret u=>
   obtain⟨v,σ',H',J,rv,q⟩:=hs;exact fin J rv q
 | next=>
   obtain⟨σ',H',J,q⟩:=hs;exact fin (v:=V.non) (u:=Value.none) J rfl q
 | brk=>
   obtain⟨_,_,_,q⟩:=hs;exact False.elim q
 | cont=>
   obtain⟨_,_,_,q⟩:=hs;exact False.elim q
section
variable {X:Cx}{x:Str}{p pos:Pos}{e:Expr}{es:List Expr}{t:TA}{id T:String}{r:List V->Hp->VK->Prop}
def tCB(r:List V->Hp->VK->Prop)(t:TA):TE:=fun σ H Q=>t σ H fun vs H1=>r vs H1 Q
theorem zqz(hc:CallR X (.builtin id) r)(hg:Gl X x)(hm:X.mg x=none)(hv:bootBuiltins x=some (.builtin id))(ha:PA X (e::es) t)(hn:x≠"__name__":=by decide)(hdb:(x==("__debug__":Str))=false:=by decide)
   (he:starEach (e::es) X.env=(false,eval e X.env)::starEach es X.env:=by rfl) (hpl:(backTo pos (starEach es X.env)).any (·.1)=false:=by rfl):PE X (.Call (.Name x p) (e::es) [] pos) (tCB r t):=by
 intro pins s σ H Q I h;refine z6y (zcq I hg hm hv ?_ hn hdb);exact PyProof.Rows.callWith_builtin1 (thn (ha pos pins s σ H _ I h) fun us s1 ⟨vs,H1,I1,r1,q1⟩=>hc pins s1 σ H1 vs us Q I1 r1 q1) he hpl
theorem zg6(hc:CallR X (.type T) r)(hg:Gl X x)(hm:X.mg x=none)(hv:bootBuiltins x=some (.type T))(ha:PA X (e::es) t)(hn:x≠"__name__":=by decide)(hdb:(x==("__debug__":Str))=false:=by decide)
   (he:starEach (e::es) X.env=(false,eval e X.env)::starEach es X.env:=by rfl) (hpl:(backTo pos (starEach es X.env)).any (·.1)=false:=by rfl):PE X (.Call (.Name x p) (e::es) [] pos) (tCB r t):=by
 intro pins s σ H Q I h;refine z6y (zcq I hg hm hv ?_ hn hdb);exact z7b (thn (ha pos pins s σ H _ I h) fun us s1 ⟨vs,H1,I1,r1,q1⟩=>hc pins s1 σ H1 vs us Q I1 r1 q1) he hpl
end
end L2
namespace HT
open PySem PyProof.Rows
theorem eqAt_int(A:Around)(s:Shared)(a:Int)(t:Tok)(c:Int)(u:Tok):∃e,SeqAt.EqAt A s (.int a t) (.int c u) e/\(e=true↔a=c) :=
 ⟨(a==c),SeqAt.EqAt.int_int a t c u,by simp⟩
theorem rcLt_int(A:Around)(s:Shared)(a:Int)(t:Tok)(c:Int)(u:Tok)(prog:Program)(w:World)(E:zVP)(Q:zVP)(h:Q (.bool (decide (a<c))) s) :
   wpAny (model prog w) A (richCompare .Lt (.int a t) (.int c u)) Q E s :=
 (PyProof.Rows.lt_int h:wpAny (model prog w) A (compareOp .Lt (.int a t) (.int c u)) Q E s)
section
open PySem.SeqAt
open PySem.AutoSeq1 (wpAny_loadPart')
open PySem.MeetsSeq PySem.MeetsSeq2 PySem.MeetsSeq3
end
section
variable {prog:Program}{w:World}{A:Around}{E:zVP}{s:Shared}
theorem cat_tup{t b:Addr}{vs ws:List Value}{Q:zVP}(ht:IsTup s.heap t vs.toArray)(hb:IsTup s.heap b ws.toArray)(hv:vs≠[])
   (h1:ws=[]->Q (.ref t) s) (h2:ws≠[]->Q (.ref s.heap.objs.size) { s with heap:=s.heap.push { cls:=.type "tuple",data:=.seq (vs++ws).toArray } })
   (hsz:vs.length+ws.length<=sizeLine):wpAny (model prog w) A (binaryOp .Add (.ref t) (.ref b)) Q E s:=by
 obtain⟨⟨cls,dd,data,sl⟩,ho,hc,n,hd⟩:=id ht;obtain⟨⟨cls2,dd2,data2,sl2⟩,ho2,hc2,n2,hd2⟩:=id hb;simp only at hc hd hc2 hd2;subst hc hd hc2 hd2;have e:vs.toArray++ws.toArray=(vs++ws).toArray:=by simp
 by_cases hw:ws=[]
 · exact qac ⟨_,ho,rfl⟩ ⟨_,ho2,rfl⟩ noFill_tuple_add seq_tuple_add z9b z82 (z8y _ _)
     (tuple_addW1 t b vs.toArray ws.toArray n n2 dd dd2 sl sl2 (by simpa using hv) (by simp[hw])) ⟨ho,ho2,h1 hw⟩
 · refine qac ⟨_,ho,rfl⟩ ⟨_,ho2,rfl⟩ noFill_tuple_add seq_tuple_add z9b z82 (z8y _ _)
     (tuple_addW2 t b vs.toArray ws.toArray n n2 dd dd2 sl sl2 (by simpa using hv) (by simpa using hw) (by rw[z5t,z5t];exact hsz)) ⟨ho,ho2,?_⟩
   rw[e];exact h2 hw
def sIx(n d:Nat):Option Int->Nat
 |none=>d
 |some v=>if v<0 then (v+(n:Int)).toNat else min v.toNat n
theorem zxs(n d:Nat)(hd:d<=n)(o:Option Int):sIx n d o<=n:=by
 cases o with
 |none=>exact hd
 | some v=>
   show(if v<0 then (v+(n:Int)).toNat else min v.toNat n)<=n;by_cases hv:v<0
   · rw[z6a hv];omega
   · rw[z6i hv];exact Nat.min_le_right _ _
theorem zph(v:Int)(n d:Nat):(if v<0 then max (v+(n:Int)) 0 else min v (n:Int))=((sIx n d (some v):Nat):Int):=by
 show(if v<0 then max (v+(n:Int)) 0 else min v (n:Int))=(((if v<0 then (v+(n:Int)).toNat else min v.toNat n):Nat):Int)
 by_cases hv:v<0
 · simp only[z6a hv];omega
 · simp only[z6i hv];omega
theorem zl9(lo hi:Option Int)(n:Nat):Builtin.Slice.sliceAdjust lo hi 1 (n:Int)=(((sIx n 0 lo:Nat):Int),((sIx n n hi:Nat):Int)):=by
 have h1:¬ ((1:Int)<0):=by omega
 unfold Builtin.Slice.sliceAdjust;simp only[h1,z7c];refine Prod.ext ?_ ?_
 · cases lo with
   |none=>rfl
   |some v=>exact zph v n 0
 · cases hi with
   |none=>rfl
   |some v=>exact zph v n n
theorem zla(i j:Nat):Builtin.Slice.slicePlaces (i:Int) (j:Int) 1=j-i:=by
 unfold Builtin.Slice.slicePlaces;have h1:(1:Int)>0:=by omega
 simp only[h1,z7s,Int.ediv_one];split<;>omega
theorem ze0{v:Value}{o:Option Int}{Q:Option Int->Shared->Prop}(p:IsPart v o)(h:Q o s):wpAny (model prog w) A (Builtin.Slice.slicePartIndex v) Q E s:=by
 cases p with
 |none=>exact slicePart_none h
 |int i t=>exact slicePart_int h
theorem zcy{sl:Addr}{vl vu:Value}{lo hi:Option Int}{n:Nat}{Q:Int×Int×Nat->Shared->Prop}(hs:s.heap.IsSliceOf sl vl vu .none)(pl:IsPart vl lo)(pu:IsPart vu hi)
   (h:Q (((sIx n 0 lo:Nat):Int),1,sIx n n hi-sIx n 0 lo) s):wpAny (model prog w) A (Builtin.Slice.sliceApplied (.ref sl) (pure (n:Int))) Q E s:=by
 obtain⟨os,hos,hcs,hds⟩:=id hs;unfold Builtin.Slice.sliceApplied Builtin.Slice.sliceFields;refine z5m (z5m (wpAny_field hos hds (x:=vl) rfl (z5m (wpAny_field hos hds (x:=vu) rfl (z5m (wpAny_field hos hds (x:=.none) rfl (z52 ?_)))))));refine z5m (slicePart_none ?_);show wpAny _ _ (if((1:Int)==0)=true then _ else _) _ _ s;rw[z6i (by decide)];refine z5m (ze0 pl (z5m (ze0 pu (z5m (z52 ?_)))));show wpAny _ _ (match Builtin.Slice.sliceAdjust lo hi 1 (n:Int)with | (lo,hi)=>pure (lo,(1:Int),Builtin.Slice.slicePlaces lo hi 1)) _ _ s;rw[zl9 lo hi n];show wpAny _ _ (pure (((sIx n 0 lo:Nat):Int),(1:Int),Builtin.Slice.slicePlaces ((sIx n 0 lo:Nat):Int) ((sIx n n hi:Nat):Int) 1)) _ _ s;rw[zla];exact z52 h
theorem zqx(xs:Array Value)(i k:Nat):((List.range k).filterMap fun(m:Nat)=>xs[((i:Int)+(m:Int)*1).toNat]?).toArray=((xs.toList.drop i).take k).toArray:=by
 have e:(fun(m:Nat)=>xs[((i:Int)+(m:Int)*1).toNat]?)=fun m=>xs[i+m]?:=by
   funext m;have:((i:Int)+(m:Int)*1).toNat=i+m:=by omega
   rw[this]
 rw[e];have:=pick_run xs i k;rw[List.filterMap_map]at this;have e2:((fun x=>xs[x]?)∘fun x=>i+x)=fun m=>xs[i+m]?:=rfl;rw[e2]at this;rw[this]
theorem getItem_tuple_cut{t sl:Addr}{items:Array Value}{vl vu:Value}{lo hi:Option Int}{Q:zVP}(ht:IsTup s.heap t items)(hs:s.heap.IsSliceOf sl vl vu .none)(pl:IsPart vl lo)(pu:IsPart vu hi)
   (hw:¬ (sIx items.size 0 lo=0/\sIx items.size items.size hi=items.size))
   (h:Q (.ref s.heap.objs.size) { s with heap:=s.heap.push { cls:=.type "tuple",data:=.seq ((items.toList.drop (sIx items.size 0 lo)).take (sIx items.size items.size hi-sIx items.size 0 lo)).toArray } })
   (hsz:items.size<=sizeLine):wpAny (model prog w) A (getItem (.ref t) (.ref sl)) Q E s:=by
 have htake:sizeOk (.seq ((items.toList.drop (sIx items.size 0 lo)).take (sIx items.size items.size hi-sIx items.size 0 lo)).toArray):=by show((items.toList.drop (sIx items.size 0 lo)).take (sIx items.size items.size hi-sIx items.size 0 lo)).toArray.size<=sizeLine;rw[z5t,z56,z6k,Array.length_toList];omega
 have hj:sIx items.size items.size hi<=items.size:=zxs _ _ (z5o _) hi;obtain⟨os,hos,hcs,hds⟩:=id hs;have hTs:s.TypeIs (.ref sl) "slice":=⟨os,hos,hcs⟩
 unfold getItem
 try with_reducible refine wpAny_holding ?_
 first | refine z5m (z52 ?_) | skip
 refine z5m (wpAny_sequenceKey ht.typeIs (by decide) ?_);refine z5m (wpAny_callSpecial?_slot (name:=Str.ofString "__getitem__") ht.typeIs z78
   (wpAny_call_entry z78 ht.typeIs entry_tuple_getitem ?_ (args_tuple_getitem _ _)))
 show wpAny _ _ (Builtin.Tuple.tupleItemsOf (.ref t) >>= _) _ _ s;refine z5m (tupleItemsOf_ ht ?_);refine z5m (wpAny_typeOf hTs ?_);rw[z6a (by decide)];refine z5m (zcy hs pl pu ?_);have hno:¬ ((((sIx items.size 0 lo:Nat):Int)==0&&(1:Int)==1&&(sIx items.size items.size hi-sIx items.size 0 lo)==items.size)=true):=by intro q;rw[z6g,z6g]at q;have q1:((sIx items.size 0 lo:Nat):Int)=0:=eq_of_beq q.1.1;have q2:sIx items.size items.size hi-sIx items.size 0 lo=items.size:=eq_of_beq q.2;exact hw ⟨by omega,by omega⟩
 show wpAny _ _ (if(((sIx items.size 0 lo:Nat):Int)==0&&(1:Int)==1&&(sIx items.size items.size hi-sIx items.size 0 lo)==items.size)=true then _ else _) _ _ s;rw[z6i hno,zqx]
 first
   |exact z5m (m:=Builtin.Tuple.tupleExact _) (z8m (z52 ⟨_,rfl,z52 h⟩) htake)
   |exact z5m (m:=Builtin.Tuple.tupleExact _) (z8m (z5m (z52 (z52 ⟨_,rfl,z52 h⟩))) htake)
   |exact z5m (z5m (m:=Builtin.Tuple.tupleExact _) (z8m (z52 (z52 ⟨_,rfl,z52 h⟩)) htake))
   |exact z5m (z5m (m:=Builtin.Tuple.tupleExact _) (z8m (z52 ⟨_,rfl,z52 h⟩) htake))
end
end HT
namespace L2
open PySem PySem.Spec PyProof.Rows
abbrev TO:=St->Hp->(Option Int->Hp->Prop)->Prop
def PO(X:Cx)(e:Option Expr)(t:TO):Prop :=
 ∀(pins:zAO) (s:Shared) (σ:St) (H:Hp) (Q:Option Int->Hp->Prop),Inv X pins σ H s->t σ H Q ->
   wpAny (model X.prog X.w) X.A (evalPart e X.env) (fun u s'=>∃o H',Inv X pins σ H' s'/\IsPart u o/\Q o H') X.xe s
def zua:TO:=fun _ H Q=>Q none H
def z1o(t:TE):TO:=fun σ H Q=>t σ H fun x H1=>∃i,x=.int i/\Q (some i) H1
section
variable {X:Cx}{e:Expr}{te:TE}{lo hi:Option Expr}{tl th:TO}{pos p2:Pos}
theorem zu2:PO X none zua:=by intro pins s σ H Q I h;rw[evalPart_none];exact z52 ⟨none,H,I,.none,h⟩
theorem zu1(h:PE X e te):PO X (some e) (z1o te):=by intro pins s σ H Q I hw;rw[evalPart_some];refine thn (h pins s σ H _ I hw) fun u s1 ⟨x,H1,I1,r1,q1⟩=>?_;obtain⟨i,rfl,q⟩:=q1;obtain⟨t,rfl⟩:=r1;exact⟨some i,H1,I1,.int i t,q⟩
def SlR(X:Cx)(r:V->Option Int->Option Int->Hp->VK->Prop):Prop :=
 ∀(pins:zAO) (s:Shared) (σ:St) (H:Hp) (x:V) (v vl vu:Value) (lo hi:Option Int) (sl:Addr) (Q:VK),Inv X pins σ H s->RelV x v->s.heap.IsSliceOf sl vl vu .none->IsPart vl lo->IsPart vu hi->r x lo hi H Q ->
   ∃T id,typeLookup (.type T) "__getitem__"=pure (some (.builtin id))/\s.TypeIs v T/\wpAny (model X.prog X.w) X.A (getItem v (.ref sl)) (EP X pins σ Q) X.xe s
theorem SlR.or{r r':V->Option Int->Option Int->Hp->VK->Prop}(h:SlR X r)(h':SlR X r'):SlR X (fun x lo hi H Q=>r x lo hi H Q\/r' x lo hi H Q):=by
 intro pins s σ H x v vl vu lo hi sl Q I rx hs pl pu q;rcases q with q | q
 · exact h pins s σ H x v vl vu lo hi sl Q I rx hs pl pu q
 · exact h' pins s σ H x v vl vu lo hi sl Q I rx hs pl pu q
def tSl(r:V->Option Int->Option Int->Hp->VK->Prop)(te:TE)(tl th:TO):TE:=fun σ H Q=>te σ H fun x H1=>tl σ H1 fun l H2=>th σ H2 fun u H3=>r x l u H3 Q
theorem zjy{r:V->Option Int->Option Int->Hp->VK->Prop}(hr:SlR X r)(he:PE X e te)(hl:PO X lo tl)(hu:PO X hi th):PE X (.Subscript e (.Slice lo hi none p2) pos) (tSl r te tl th):=by intro pins s σ H Q I h;refine Subscript_ (thn (he pins s σ H _ I h) fun v s1 ⟨x,H1,I1,r1,q1⟩=>?_);refine wpAny_Slice (thn (hl pins s1 σ H1 _ I1 q1) fun vl s2 ⟨l,H2,I2,pl,q2⟩=>thn (hu pins s2 σ H2 _ I2 q2) fun vu s3 ⟨u,H3,I3,pu,q3⟩=>?_);rw[evalPart_none];refine z52 ?_;have I4:Inv X pins σ H3 { s3 with heap:=s3.heap.push { cls:=.type "slice",data:=.fields #[vl,vu,.none] } }:=I3.kept (t':=s3.toks) fun b ob q=>z5p _ q;obtain⟨T,id,hT,ht,hg⟩:=hr pins { s3 with heap:=s3.heap.push { cls:=.type "slice",data:=.fields #[vl,vu,.none] } } σ H3 x v vl vu l u s3.heap.objs.size Q I4 r1 (Heap.IsSliceOf.new ..) pl pu q3;show wpAny (model X.prog X.w) X.A (subscriptTail e (.Slice lo hi none p2) v (.ref s3.heap.objs.size)) (EP X pins σ Q) X.xe { s3 with heap:=s3.heap.push { cls:=.type "slice",data:=.fields #[vl,vu,.none] } };exact tail_any (ops:=[.ref s3.heap.objs.size,v]) ht hT hg (by with_unfolding_all rfl)
def ztx(xs:List V)(lo hi:Option Int):List V:=(xs.drop (HT.sIx xs.length 0 lo)).take (HT.sIx xs.length xs.length hi-HT.sIx xs.length 0 lo)
theorem zed(xs:List V)(lo hi:Option Int):(ztx xs lo hi).length<=xs.length:=by unfold ztx;rw[z56,z6k];omega
def z4w(K:zFr):V->Option Int->Option Int->Hp->VK->Prop:=fun x lo hi H Q=>∃a xs,x=.ref a/\SqT K H a xs /\
 ¬ (HT.sIx xs.length 0 lo=0/\HT.sIx xs.length xs.length hi=xs.length)/\∀p,H p=none->Q (.ref p) (upd H p (.tup (ztx xs lo hi)))
theorem zxi:SlR X (z4w X.K):=by
 intro pins s σ H x v vl vu lo hi sl Q I rx hs pl pu h;obtain⟨a,xs,rfl,hx,hw,q⟩:=h;cases rx;obtain⟨its,r,ht,hz⟩:=I.tuple hx;have hlen:its.toArray.size=xs.length:=by rw[z5t];exact r.length.symm
 refine⟨"tuple",_,z78.lookup,ht.typeIs,?_⟩;refine HT.getItem_tuple_cut ht hs pl pu (by rw[hlen];exact hw) ?_ (by rw[hlen];exact hz);rw[hlen];refine⟨.ref s.heap.objs.size,_,I.laid (t':=s.toks) (o:=.tup (ztx xs lo hi)) (fun b ob q=>z5p _ q) (z5o _) ?_,rfl,q _ (I.hok.fresh (z5o _))⟩;exact⟨z57 (zed xs lo hi) hz,_,(r.drop (HT.sIx xs.length 0 lo)).take (HT.sIx xs.length xs.length hi-HT.sIx xs.length 0 lo),IsTup.new _ _⟩
def zxx(K:zFr):R2:=fun x y H Q=>∃a b xs ys,x=.ref a/\y=.ref b/\SqT K H a xs/\SqT K H b ys/\xs≠[]/\xs.length+ys.length<=sizeLine /\
 (ys=[]->Q (.ref a) H)/\(ys≠[]->∀p,H p=none->Q (.ref p) (upd H p (.tup (xs++ys))))
theorem Vals.nil_iff{xs:List V}{us:List Value}(r:Vals xs us):us=[]↔xs=[]:=by
 cases r with
 |nil=>simp
 |cons _ _=>simp
theorem op_catT:OpR X (binaryOp .Add) (zxx X.K):=by intro pins s σ H x y v u Q I rx ry h;obtain⟨a,b,xs,ys,rfl,rfl,ha,hb,hx,hz,q1,q2⟩:=h;cases rx;cases ry;obtain⟨its,r1,p1,_⟩:=I.tuple ha;obtain⟨its2,r2,p2,_⟩:=I.tuple hb;refine HT.cat_tup p1 p2 (fun z=>hx (r1.nil_iff.mp z)) (fun z=>⟨.ref a,H,I,rfl,q1 (r2.nil_iff.mp z)⟩) (fun z=>?_) (by rw[<-r1.length,<-r2.length];exact hz);refine⟨.ref s.heap.objs.size,_,I.laid (t':=s.toks) (o:=.tup (xs++ys)) (fun b ob q=>z5p _ q) (z5o _) ?_,rfl,q2 (fun w=>z (r2.nil_iff.mpr w)) _ (I.hok.fresh (z5o _))⟩;exact⟨by rw[z5l];exact hz,_,r1.append r2,IsTup.new _ _⟩
end
def ixN(n:Nat)(i:Int):Option Nat:=if 0<=i then (if i<n then some i.toNat else none)else if -(n:Int)<=i then some (i+n).toNat else none
def atI{α:Type}(xs:List α)(i:Int):Option α:=(ixN xs.length i).bind fun j=>xs[j]?
theorem zvq{n:Nat}{i:Int}{j:Nat}(h:ixN n i=some j):seqIndex? i n=some j/\j<n/\-(n:Int)<=i/\i<n:=by
 unfold ixN at h;by_cases h0:0<=i
 · rw[z6a h0]at h;by_cases h1:i<n
   · rw[z6a h1]at h;have e:i.toNat=j:=z6j h;exact⟨by rw[seqIndex_of h0 h1,e],by omega,by omega,h1⟩
   · rw[z6i h1]at h;cases h
 · rw[z6i h0]at h;by_cases h1:-(n:Int)<=i
   · rw[z6a h1]at h;have e:(i+n).toNat=j:=z6j h;exact⟨by rw[seqIndex_neg (by omega) h1,e],by omega,h1,by omega⟩
   · rw[z6i h1]at h;cases h
theorem zjc{α:Type}{xs:List α}{i:Int}{v:α}(h:atI xs i=some v):∃j,seqIndex? i xs.length=some j/\xs[j]? = some v/\j<xs.length/\-(xs.length:Int)<=i/\i<xs.length:=by
 unfold atI at h;cases e:ixN xs.length i with
 |none=>rw[e]at h;cases h
 | some j=>
   rw[e]at h;obtain⟨h1,h2,h3,h4⟩:=zvq e;exact⟨j,h1,h,h2,h3,h4⟩
theorem zgr{α:Type}{xs:List α}{j:Nat}{v:α}(h:xs[j]? = some v):atI xs (j:Int)=some v:=by
 have hj:j<xs.length:=(z5q.mp h).1;have e:ixN xs.length (j:Int)=some j:=by unfold ixN;rw[z6a (by omega),z6a (by omega)];simp
 unfold atI;rw[e];exact h
def zpz(b:Expr):Prop:=∀o i,subscripted b false o i=operate [o,i] (getItem o i)
def IxR(X:Cx)(r:R2):Prop :=
 ∀(value slice:Expr) (pins:zAO) (s:Shared) (σ:St) (H:Hp) (x y:V) (v u:Value) (Q:VK),Inv X pins σ H s->RelV x v->RelV y u->r x y H Q ->
   subscripted slice false v u=operate [v,u] (getItem v u)->wpAny (model X.prog X.w) X.A (subscriptTail value slice v u) (EP X pins σ Q) X.xe s
def MtR(X:Cx)(id:String)(r:V->List V->Hp->VK->Prop):Prop :=
 ∀(pins:zAO) (s:Shared) (σ:St) (H:Hp) (x:V) (xs:List V) (v:Value) (us:List Value) (Q:VK),Inv X pins σ H s->RelV x v->Vals xs us->r x xs H Q ->
   wpAny (model X.prog X.w) X.A (call (.builtin id) (v::us)) (EP X pins σ Q) X.xe s
section
variable {X:Cx}{a b:Expr}{ta tb:TE}{pos:Pos}
theorem IxR.or{r r':R2}(h:IxR X r)(h':IxR X r'):IxR X (fun x y H Q=>r x y H Q\/r' x y H Q):=by
 intro value slice pins s σ H x y v u Q I rx ry q hs;rcases q with q | q
 · exact h value slice pins s σ H x y v u Q I rx ry q hs
 · exact h' value slice pins s σ H x y v u Q I rx ry q hs
theorem z18{r:R2}(hr:IxR X r)(ha:PE X a ta)(hb:PE X b tb)(hs:zpz b):PE X (.Subscript a b pos) (tOp r ta tb):=by intro pins s σ H Q I h;exact Subscript_ (z3f ha hb I h fun v u s2 x y H2 I2 rx ry q=>hr a b pins s2 σ H2 x y v u Q I2 rx ry q (hs _ _))
def z3t(K:zFr):R2:=fun x y H Q=>∃p xs i v,x=.ref p/\y=.int i/\SqL K H p xs/\atI xs i=some v/\Q v H
def z3r(K:zFr):R2:=fun x y H Q=>∃p xs i v,x=.ref p/\y=.int i/\SqT K H p xs/\atI xs i=some v/\Q v H
def z3s:R2:=fun x y H Q=>∃z i c,x=.str z/\y=.int i/\z.length<=sizeLine/\atI z.cps.toList i=some c/\Q (.str ⟨#[c]⟩) H
theorem ix_list:IxR X (z3t X.K):=by
 intro value slice pins s σ H x y v u Q I rx ry h hs;obtain⟨p,xs,i,z,rfl,rfl,hq,he,q⟩:=h;cases rx;obtain⟨t,rfl⟩:=ry;obtain⟨its,r,pl,hz⟩:=I.list hq;obtain⟨j,h1,h2,h3,h4,h5⟩:=zjc he;obtain⟨w,ew,rw'⟩:=r.get h2;have hl:=r.length;have hn:=zhc;have fin:EP X pins σ Q w s:=⟨z,H,I,rw',q⟩
 by_cases h0:0<=i
 · have hj:i.toNat=j:=by rw[seqIndex_of h0 h5]at h1;exact z6j h1
   exact item_listR pl.isList h0 (by omega) (by rw[hj];simpa using ew) fin hs
 · have hj:(i+(its.toArray.size:Int)).toNat=j:=by rw[seqIndex_neg (by omega) h4]at h1;rw[z5t,<-hl];exact z6j h1
   exact subscriptTail_builtinR (x:=w) pl.isList.typeIs slot_list_getitem.lookup
     (wpAny_getItem_list_neg (Q:=fun r s'=>r=w/\EP X pins σ Q r s') pl.isList (by omega) (by rw[z5t]<;>omega) (by omega) (by rw[hj];simpa using ew) ⟨rfl,fin⟩) hs
theorem ix_tup:IxR X (z3r X.K):=by
 intro value slice pins s σ H x y v u Q I rx ry h hs;obtain⟨p,xs,i,z,rfl,rfl,hq,he,q⟩:=h;cases rx;obtain⟨t,rfl⟩:=ry;obtain⟨its,r,pl,hz⟩:=I.tuple hq;obtain⟨j,h1,h2,h3,h4,h5⟩:=zjc he;obtain⟨w,ew,rw'⟩:=r.get h2;have hl:=r.length;have hn:=zhc;have fin:EP X pins σ Q w s:=⟨z,H,I,rw',q⟩
 exact subscriptTail_builtinR (x:=w) pl.typeIs slot_tuple_getitem.lookup
   (getItem_tuple (j:=j) (Q:=fun r s'=>r=w/\EP X pins σ Q r s') pl (by omega) (by omega) (by rw[z5t,<-hl];exact h1) (by simpa using ew) ⟨rfl,fin⟩) hs
theorem zzi:IxR X z3s:=by
 intro value slice pins s σ H x y v u Q I rx ry h hs;obtain⟨z,i,c,rfl,rfl,hz,he,q⟩:=h;obtain⟨t,rfl⟩:=rx;obtain⟨t',rfl⟩:=ry;obtain⟨j,h1,h2,h3,h4,h5⟩:=zjc he;have hl:z.cps.toList.length=z.length:=by simp[Str.length]
 rw[hl]at h1 h4 h5;have hn:=zhc;exact tail_any (typeIs_str s z t) slot_str_getitem.lookup (getItem_str (c:=c) (by
   have e1:decide (i < -(2^63:Int))=false:=z5w (by omega);have e2:decide (i ≥ 2^63)=false:=z5w (by omega);rw[e1,e2,Bool.or_false]) (by rw[h1];simpa using h2) ⟨.str ⟨#[c]⟩,H,I.tok _,⟨_,rfl⟩,q⟩) hs
def rIx(K:zFr):R2:=fun x y H Q=>z3t K x y H Q\/z3r K x y H Q\/z3s x y H Q
theorem zzj:IxR X (rIx X.K):=ix_list.or (ix_tup.or zzi)
theorem zg1(lo hi:Option Int)(n:Nat):(sliceBounds lo hi none n).1=((HT.sIx n 0 lo:Nat):Int)/\(sliceBounds lo hi none n).2.1=((HT.sIx n n hi:Nat):Int)/\(sliceBounds lo hi none n).2.2=1:=by
 refine⟨?_,?_,rfl⟩
 · cases lo with
   |none=>simp[sliceBounds,HT.sIx]
   | some i=>
     simp only[sliceBounds,HT.sIx,Option.getD_none,show(1:Int)>0 by decide,z7s];by_cases h:i<0
     · simp only[h,z7s]<;>omega
     · simp only[h,z7c]<;>omega
 · cases hi with
   |none=>simp[sliceBounds,HT.sIx]
   | some i=>
     simp only[sliceBounds,HT.sIx,Option.getD_none,show(1:Int)>0 by decide,z7s];by_cases h:i<0
     · simp only[h,z7s]<;>omega
     · simp only[h,z7c]<;>omega
theorem zfm(its:List Value)(lo hi:Option Int):slicePick its.toArray lo hi none=((its.drop (HT.sIx its.length 0 lo)).take (HT.sIx its.length its.length hi-HT.sIx its.length 0 lo)).toArray:=by obtain⟨h1,h2,h3⟩:=zg1 lo hi its.toArray.size;unfold slicePick;rw[h1,h2,h3];simp only[sliceRange_one,pick_run,z5t]<;>rfl
def z4y(K:zFr):V->Option Int->Option Int->Hp->VK->Prop:=fun x lo hi H Q=>∃a xs,x=.ref a/\SqL K H a xs/\∀p,H p=none->Q (.ref p) (upd H p (.lst (ztx xs lo hi)))
theorem sl_list:SlR X (z4y X.K):=by intro pins s σ H x v vl vu lo hi sl Q I rx hs pl pu h;obtain⟨a,xs,rfl,hx,q⟩:=h;cases rx;obtain⟨its,r,ht,hz⟩:=I.list hx;have hlen:=r.length;refine⟨"list",_,slot_list_getitem.lookup,ht.isList.typeIs,?_⟩;refine wpAny_getItem_list_slice ht.isList hs pl pu .none (by simp) ?_ (by rw[z5t]<;>omega);rw[zfm,<-hlen];refine⟨.ref s.heap.objs.size,_,I.laid (t':=s.toks) (o:=.lst (ztx xs lo hi)) (fun b ob q=>z5p _ q) (z5o _) ?_,rfl,q _ (I.hok.fresh (z5o _))⟩;exact⟨z57 (zed xs lo hi) hz,_,0,(r.drop (HT.sIx xs.length 0 lo)).take (HT.sIx xs.length xs.length hi-HT.sIx xs.length 0 lo),z6c _ rfl⟩
def zb7:V->Bool
 | .non=>true
 | .bl _=>true
 | .int _=>true
 | .str _=>true
 |_=>false
def eqV:V->V->Bool
 | .non,.non=>true
 | .bl a,.bl b=>a==b
 | .bl a,.int b=>(if a then 1 else 0)==b
 | .int a,.bl b=>a==(if b then 1 else 0)
 | .int a,.int b=>a==b
 | .str a,.str b=>a==b
 |_,_=>false
theorem zo9{A:Around}{s:Shared}{y x:V}{u v:Value}(ry:RelV y u)(rx:RelV x v)(fy:zb7 y=true)(fx:zb7 x=true):SeqAt.EqAt A s u v (eqV y x):=by
 cases y with
 | non=>
   cases ry;cases x with
   |non=>cases rx;exact SeqAt.EqAt.same _
   |bl b=>cases rx;exact SeqAt.EqAt.none_bool b
   |int b=>obtain⟨t,rfl⟩:=rx;exact SeqAt.EqAt.none_int b t
   |str b=>obtain⟨t,rfl⟩:=rx;exact SeqAt.EqAt.none_str b t
   |_=>exact absurd (show false=true from fx) z6q
 | bl a=>
   cases ry;cases x with
   |non=>cases rx;exact SeqAt.EqAt.bool_none a
   |bl b=>cases rx;exact SeqAt.EqAt.bool_bool a b
   |int b=>obtain⟨t,rfl⟩:=rx;exact SeqAt.EqAt.bool_int a b t
   |str b=>obtain⟨t,rfl⟩:=rx;exact SeqAt.EqAt.bool_str a b t
   |_=>exact absurd (show false=true from fx) z6q
 | int a=>
   obtain⟨t',rfl⟩:=ry;cases x with
   |non=>cases rx;exact SeqAt.EqAt.int_none a t'
   |bl b=>cases rx;exact SeqAt.EqAt.int_bool a t' b
   |int b=>obtain⟨t,rfl⟩:=rx;exact SeqAt.EqAt.int_int a t' b t
   |str b=>obtain⟨t,rfl⟩:=rx;exact SeqAt.EqAt.int_str a t' b t
   |_=>exact absurd (show false=true from fx) z6q
 | str a=>
   obtain⟨t',rfl⟩:=ry;cases x with
   |non=>cases rx;exact SeqAt.EqAt.str_none a t'
   |bl b=>cases rx;exact SeqAt.EqAt.str_bool a t' b
   |int b=>obtain⟨t,rfl⟩:=rx;exact SeqAt.EqAt.str_int a t' b t
   |str b=>obtain⟨t,rfl⟩:=rx;exact SeqAt.EqAt.str_str a t' b t
   |_=>exact absurd (show false=true from fx) z6q
 |_=>exact absurd (show false=true from fy) z6q
def eqU(x:V)(u:Value):Bool:=match u with
 | .none=>eqV .non x
 | .bool b=>eqV (.bl b) x
 | .int i _=>eqV (.int i) x
 | .str z _=>eqV (.str z) x
 |_=>false
theorem ztr{x y:V}{u:Value}(r:RelV y u)(f:zb7 y=true):eqU x u=eqV y x:=by
 cases y with
 |non=>cases r;rfl
 |bl b=>cases r;rfl
 |int i=>obtain⟨t,rfl⟩:=r;rfl
 |str z=>obtain⟨t,rfl⟩:=r;rfl
 |_=>exact absurd (show false=true from f) z6q
theorem zjd{x:V}:∀{xs:List V}{us:List Value},Vals xs us->xs.all zb7=true->us.any (eqU x)=xs.any fun y=>eqV y x
 |_,_,.nil,_=>rfl
 | y::xs,u::us,.cons r t,f=>by rw[List.all_cons,z6g]at f;rw[List.any_cons,List.any_cons,ztr r f.1,zjd t f.2]
theorem zfv{A:Around}{s:Shared}{x:V}{v:Value}(rx:RelV x v)(fx:zb7 x=true):∀{xs:List V}{us:List Value},Vals xs us->xs.all zb7=true->∀u∈us,SeqAt.EqAt A s u v (eqU x u)
 |_,_,.nil,_=>fun u hu=>by cases hu
 | y::xs,u::us,.cons r t,f=>fun u' hu=>by
   rw[List.all_cons,z6g]at f;rcases z51.mp hu with rfl | hu
   · rw[ztr r f.1];exact zo9 r rx f.1 fx
   · exact zfv rx fx t f.2 u' hu
def inV(x:V)(xs:List V):Bool:=xs.any fun y=>eqV y x
def rIn(K:zFr)(neg:Bool):R2:=fun x y H Q=>∃p xs,y=.ref p/\(SqL K H p xs\/SqT K H p xs)/\zb7 x=true/\xs.all zb7=true/\Q (.bl (if neg then !inV x xs else inV x xs)) H
theorem zg7:OpR X (compareOp .In) (rIn X.K false):=by
 intro pins s σ H x y v u Q I rx ry h;obtain⟨p,xs,rfl,hq,fx,fs,q⟩:=h;cases ry;rcases hq with hq | hq
 · obtain⟨its,r,pl,hz⟩:=I.list hq;refine SeqAt.in_listAt (eqU x) pl.isList (fun w hw=>zfv rx fx r fs w (by simpa using hw)) ⟨.bl _,H,I,rfl,?_⟩;rw[show its.toArray.any (eqU x)=its.any (eqU x) by simp,zjd r fs];exact q
 · obtain⟨its,r,pl,hz⟩:=I.tuple hq;refine SeqAt.in_tupleAt (eqU x) pl (fun w hw=>zfv rx fx r fs w (by simpa using hw)) ⟨.bl _,H,I,rfl,?_⟩;rw[show its.toArray.any (eqU x)=its.any (eqU x) by simp,zjd r fs];exact q
theorem call_len_seq:CallR X (.builtin "len") (fun xs H Q=>∃p ys,xs=[.ref p]/\(SqL X.K H p ys\/SqT X.K H p ys)/\Q (.int ys.length) H):=by
 intro pins s σ H xs us Q I r h;obtain⟨p,ys,rfl,hq,q⟩:=h;obtain⟨u,rfl,rx⟩:=zp5 r;cases rx;have hn:=zhc;rcases hq with hq | hq
 · obtain⟨its,r',pl,hz⟩:=I.list hq;have hlen:=r'.length;exact Calls.call_len_list pl.isList (by simp only[z5t]<;>omega) ⟨.int ys.length,H,I.tok _,⟨s.toks+1,by rw[z5t,hlen]⟩,q⟩
 · obtain⟨its,r',pl,hz⟩:=I.tuple hq;have hlen:=r'.length;exact len_tuple pl (by simp only[z5t]<;>omega) ⟨.int ys.length,H,I.tok _,⟨s.toks+1,by rw[z5t,hlen]⟩,q⟩
theorem zhv:CallR X (.builtin "len") (fun xs H Q=>∃z,xs=[.str z]/\z.length<=sizeLine/\Q (.int z.length) H):=by intro pins s σ H xs us Q I r h;obtain⟨z,rfl,hz,q⟩:=h;obtain⟨u,rfl,t,rfl⟩:=zp5 r;have hn:=zhc;exact len_str (by omega) ⟨.int z.length,H,I.tok _,⟨_,rfl⟩,q⟩
theorem CallR.or{f:Value}{r r':List V->Hp->VK->Prop}(h:CallR X f r)(h':CallR X f r'):CallR X f (fun xs H Q=>r xs H Q\/r' xs H Q):=by
 intro pins s σ H xs us Q I rs q;rcases q with q | q
 · exact h pins s σ H xs us Q I rs q
 · exact h' pins s σ H xs us Q I rs q
theorem zcu:CallR X (.type "list") (fun xs H Q=>∃p ys,xs=[.ref p]/\(SqL X.K H p ys\/SqT X.K H p ys)/\∀l,H l=none->Q (.ref l) (upd H l (.lst ys))):=by
 intro pins s σ H xs us Q I r h;obtain⟨p,ys,rfl,hq,q⟩:=h;obtain⟨u,rfl,rx⟩:=zp5 r;cases rx;have fin:∀(its:List Value),Vals ys its->ys.length<=sizeLine->∀(h':Heap) (c':Nat),(∀b o',s.heap.get? b=some o'->h'.get? b=some o') ->
     h'.get? s.heap.objs.size=some { cls:=.type "list",dict:=none,data:=.seq its.toArray c',slots:=#[] }->EP X pins σ Q (.ref s.heap.objs.size) { s with heap:=h' }:=fun its r' hz h' c' kp e=>
   ⟨.ref s.heap.objs.size,_,I.laid (t':=s.toks) kp (z5o _) (show ObjOk X.prog X.w _ h' _ (.lst ys) from⟨hz,its,c',r',e⟩),rfl,q _ (I.hok.fresh (z5o _))⟩
 rcases hq with hq | hq
 · obtain⟨its,r',pl,hz⟩:=I.list hq;have hlen:=r'.length;obtain⟨o,ho,hc,n,hd⟩:=pl.isList;exact call_list_seq p (.inl rfl) ho hc hd (fun h' c' kp e=>fin its r' hz h' c' kp e) (by simp only[z5t]<;>omega)
 · obtain⟨its,r',pl,hz⟩:=I.tuple hq;have hlen:=r'.length;obtain⟨o,ho,hc,n,hd⟩:=pl;exact call_list_seq p (.inr rfl) ho hc hd (fun h' c' kp e=>fin its r' hz h' c' kp e) (by simp only[z5t]<;>omega)
def tyV(K:zFr)(T:String)(x:V)(H:Hp):Prop:=match x with
 | .str _=>T="str"
 | .int _=>T="int"
 | .ref p=>(T="list"/\∃xs,SqL K H p xs)\/(T="tuple"/\∃o,K.lookup p=some o/\o.cls=.type "tuple"/\o.dict=none) \/
     (T="dict"/\((∃kvs,H p=some (.dK kvs))\/∃kvs,H p=some (.dT kvs)))\/(T="set"/\∃S n,H p=some (.set S n))
 |_=>False
theorem zw9{pins:zAO}{σ:St}{H:Hp}{s:Shared}{T:String}{x:V}{v:Value}(I:Inv X pins σ H s)(r:RelV x v)(ty:tyV X.K T x H) :
   s.TypeIs v T/\∀a,v=.ref a->∃ob,s.heap.get? a=some ob/\ob.dict=none:=by
 cases x with
 | str z=>
   obtain⟨t,rfl⟩:=r;cases(show T="str" from ty);exact⟨typeIs_str s z t,fun _ e=>nomatch e⟩
 | int i=>
   obtain⟨t,rfl⟩:=r;cases(show T="int" from ty);exact⟨typeIs_int s i t,fun _ e=>nomatch e⟩
 | ref p=>
   cases r;rcases ty with⟨rfl,xs,hq⟩ | ⟨rfl,o,hk,hc,hd⟩ | ⟨rfl,hk⟩ | ⟨rfl,S,n,hk⟩
   · obtain⟨its,_,pl,_⟩:=I.list hq;refine⟨pl.isList.typeIs,fun a e=>?_⟩;cases e;obtain⟨o,n,e,c,hd,_⟩:=pl;exact⟨o,e,hd⟩
   · refine⟨⟨o,I.kIn p o hk,hc⟩,fun a e=>?_⟩;cases e;exact⟨o,I.kIn _ o hk,hd⟩
   · have z:∃o,s.heap.get? p=some o/\o.ExactDict:=by
       rcases hk with⟨kvs,hk⟩ | ⟨kvs,hk⟩
       · obtain⟨_,_,_,_,o,_,_,e,ex,_⟩:=I.hok p _ hk;exact⟨o,e,ex⟩
       · obtain⟨_,_,_,_,o,_,_,e,ex,_⟩:=I.hok p _ hk;exact⟨o,e,ex⟩
     obtain⟨o,e,ex⟩:=z;refine⟨⟨o,e,ex.1⟩,fun a e2=>?_⟩;cases e2;exact⟨o,e,ex.2.1⟩
   · obtain⟨o,_,_,_,e,ex,_⟩:=I.hok p _ hk;refine⟨⟨o,e,ex.1⟩,fun a e2=>?_⟩;cases e2;exact⟨o,e,ex.2.1⟩
 |_=>exact False.elim ty
def tBM(K:zFr)(T:String)(r:V->List V->Hp->VK->Prop)(to:TE)(t:TA):TE:=fun σ H Q=>to σ H fun x H1=>tyV K T x H1/\t σ H1 fun xs H2=>r x xs H2 Q
variable {o e:Expr}{es:List Expr}{to:TE}{t:TA}{name:Str}{apos cpos:Pos}{T id:String}{r:V->List V->Hp->VK->Prop}
theorem z19(pa:PlainAttrs T)(slot:Slot T name id)(hty:typeOf (.builtin id)=pure (.type "method_descriptor"))(hm:MtR X id r)(ho:PE X o to)(ha:PA X (e::es) t)
   (hbase:attributeBase o name X.env (eval o X.env)=eval o X.env:=by rfl)
   (hfew:((backTo cpos (starEach (e::es) X.env)).all (fun x=>!x.1)&&(backToKw cpos (keywordEach [] X.env)).all (fun x=>x.1.isSome)
     && decide ((e::es).length+([]:List Keyword).length+(if([]:List Keyword).isEmpty then 0 else 1)<30))=true:=by rfl)
   (hline:(apos.endLine==cpos.line)=true:=by rfl) (hs:starEach (e::es) X.env=(false,eval e X.env)::starEach es X.env:=by rfl) (hplain:(backTo cpos (starEach es X.env)).any (·.1)=false:=by rfl) :
   PE X (.Call (.Attribute o name apos) (e::es) [] cpos) (tBM X.K T r to t):=by
 intro pins s σ H Q I h;refine wpAny_Call_method_late hbase hfew hline rfl (thn (ho pins s σ H _ I h) fun v s1 ⟨x,H1,I1,r1,ty,q1⟩=>?_);obtain⟨h1,h2⟩:=zw9 I1 r1 ty;refine⟨T,id,pa,slot,hty,h1,h2,?_⟩;have hA:=ha cpos pins s1 σ H1 _ I1 q1;rw[hs]at hA ⊢;refine Calls.callWith_builtin (by show(false||(backTo cpos (starEach es X.env)).any (·.1))=false;rw[hplain]<;>rfl) (Calls.evalArgs_plain ?_);exact thn hA fun us s2 ⟨vs,H2,I2,r2,q2⟩=>hm pins s2 σ H2 x vs v us Q I2 r1 r2 q2
/- xs.append(e),list.index on a module's tuple .. are MtR facts of 06m -/
end
def MtM(X:Cx)(id:String)(r:V->List V->Hp->VK->Prop):Prop :=
 ∀(pins:zAO) (s:Shared) (σ:St) (H:Hp) (x:V) (xs:List V) (v:Value) (us:List Value) (Q:VK),Inv X pins σ H s->RelV x v->Vals xs us->r x xs H Q ->
   wpAny (model X.prog X.w) X.A (call (.builtin id) (v::us)) (EP X pins σ Q) X.xe s
theorem Vals.one:∀{x:V}{us:List Value},Vals [x] us->∃u,us=[u]/\RelV x u
 |_,_,.cons r .nil=>⟨_,rfl,r⟩
theorem Vals.dropLast{xs:List V}{us:List Value}(h:Vals xs us):Vals xs.dropLast us.dropLast:=by
 induction h with
 |nil=>exact .nil
 | cons r t ih=>
   cases t with
   |nil=>exact .nil
   |cons q t'=>exact .cons r ih
theorem Vals.reverse{xs:List V}{us:List Value}(h:Vals xs us):Vals xs.reverse us.reverse:=by
 induction h with
 |nil=>exact .nil
 |cons r t ih=>rw[z8n,z8n];exact Vals.append ih (.cons r .nil)
section
variable {X:Cx}{pins:zAO}{σ:St}{H:Hp}{s:Shared}{l b:Addr}{xs ys zs:List V}
theorem Inv.lset{its its':List Value}{n:Nat}{f:Array Value->Array Value}{t':Nat}(I:Inv X pins σ H s)(hH:H l=some (.lst xs))
   (e:s.heap.get? l=some { cls:=.type "list",data:=.seq its.toArray n }) (hf:f its.toArray=its'.toArray) (hv:Vals ys its') (hz:ys.length<=sizeLine) :
   Inv X pins σ (upd H l (.lst ys)) { s with heap:=s.heap.update l (Obj.mapSeq f),toks:=t' }:=by
 have q:=PySem.IsL.update e f;rw[hf]at q;refine I.write (x:=l) (e:=l) (by rw[hH];exact trivial) (.inl rfl) (fun b' u hb hu=>(z9c s.heap (Obj.mapSeq f) (z7v hb)).trans hu) ⟨_,q⟩ ?_;exact⟨hz,its',_,hv,q⟩
theorem Inv.lnew{its:List Value}{t':Nat}(I:Inv X pins σ H s)(hv:Vals ys its)(hz:ys.length<=sizeLine) :
   Inv X pins σ (upd H s.heap.objs.size (.lst ys)) { s with heap:=s.heap.push { cls:=.type "list",data:=.seq its.toArray },toks:=t' } :=
 I.laid (fun _ _ q=>z5p _ q) (z5o _) ⟨hz,its,0,hv,z6c _ rfl⟩
theorem Inv.fresh(I:Inv X pins σ H s):H s.heap.objs.size=none:=I.hok.fresh (z5o _)
theorem Inv.lstM(I:Inv X pins σ H s)(hH:H l=some (.lst xs)):xs.length<=sizeLine/\∃(its:List Value) (n:Nat),Vals xs its/\xs.length=its.length/\s.heap.get? l=some { cls:=.type "list",data:=.seq its.toArray n }:=by obtain⟨z,its,n,r,e⟩:=I.hok l _ hH;exact⟨z,its,n,r,r.length,e⟩
end
section
variable {X:Cx}
def zuu:V->List V->Hp->VK->Prop:=fun x vs H Q=>∃l xs y,x=.ref l/\vs=[y]/\H l=some (.lst xs)/\xs.length<sizeLine/\Q .non (upd H l (.lst (xs++[y])))
theorem znz:MtM X "list.append" zuu:=by intro pins s σ H x vs v us Q I rx rv h;obtain⟨l,xs,y,rfl,rfl,hH,hz,q⟩:=h;cases rx;obtain⟨u,rfl,ru⟩:=rv.one;obtain⟨z,its,n,r,hl,e⟩:=I.lstM hH;refine call_meets F.slot_list_append ⟨_,e,rfl⟩ F.entry_list_append (F.args_list_append_2 _ _) (PySem.list_append l its.toArray n u (by rw[z5t];omega)) ⟨e,?_⟩;refine⟨.non,_,I.lset (its':=its++[u]) hH e (by simp) (r.append (.cons ru .nil)) ?_,rfl,q⟩;rw[z5l,List.length_singleton];omega
end
end L2
namespace Att
open PySem PySem.W PySem.Calls PyProof.Rows
theorem zd1{P:Params}{h:Heap}:∀(ns:List Int) (vs:List Value),WellAll P h vs (ns.map WData.int)->IntsAre vs ns:=by
 intro ns
 induction ns with
 | nil=>
   intro vs w;rw[List.map_nil]at w;cases w;exact .nil
 | cons n ns ih=>
   intro vs w;rw[z5v]at w;cases w with
   | cons a b=>
     cases a;exact .cons _ _ (ih _ b)
theorem zm4{l:OpenLaw}{n:Nat}(hn:l.most=some n){P:Params}{h:Heap}{args:List WData}{vals:List Value}
   (hpre:l.row.toRowW.claim.pre args=true) (hwl:WellAll P h vals args) :
   ∃a vs ns,vals=[Value.ref a]/\args=[WData.list (ns.map WData.int)]/\h.get? a=some { cls:=.type "list",data:=.seq vs.toArray }/\IntsAre vs ns/\ns.length<=n:=by
 have hsh:WShape.hasAll [] args [.list .int]=true:=(pre_splitW hpre).1;have hc:l.pre.holds [] { args:=args }=true:=(pre_splitW hpre).2;obtain⟨d,r,rfl,h1,h2⟩:=hasAllW_cons hsh;obtain rfl:=hasAllW_nil h2;obtain⟨xs,rfl,h3⟩:=hasW_list h1;obtain⟨ns,rfl⟩:=items_int h3;have hlen:ns.length<=n:=by
   unfold OpenLaw.pre at hc;have h4:(WTm.not (.lt (.lit (.int (n:Int))) (.len (.arg 0)))).holds [] { args:=[.list (ns.map .int)] }=true:=by have h4:=(holds_andW hc).1;rw[hn]at h4;exact h4
   have h5:=condW_of h4 (w_not (w_lt w_lit (w_len_list (w_arg rfl))));rw[z7k]at h5;refine Nat.le_of_not_lt fun q=>?_;have q':(n:Int)<((ns.length:Nat):Int):=by omega
   first
     | (rw[z6d q']at h5;exact absurd h5 (by decide))
     | (simp at h5;omega)
 cases hwl with
 | cons w1 w2=>
   cases w2;cases w1 with
   |list ho hall=>exact⟨_,_,ns,rfl,rfl,ho,zd1 ns _ hall,hlen⟩
theorem znj(l:OpenLaw)(args:List WData):l.row.toRowW.claim.post args (.bool true) args=true :=
 postW_of (r:=l.row.toRowW) (X:=(true==true))
   (show WShape.has [] (.bool true) .bool=true by first | rfl | decide | simp[WShape.has,WShape.arms,WShape.armsAll])
   (show(WTm.eq .res (.lit (.bool true))).value [] { args:=args,res:=some (.bool true),after:=args }=some (.bool (true==true))from w_eq_bool (w_res rfl) w_lit) rfl
theorem attach_call{l:OpenLaw}{n:Nat}{q:Program}{loose:List Str}{XP:(zMg)->Heap->Prop}{YP:World->Heap->Prop}{d:DefRec}
   (hn:l.most=some n) (hdf:d.params.defaults=[])
   (call:∀(w:World) (s₀ s₁:Shared) (mg mb:zMg) (fa:Addr) (o:Obj) (pm cd doc:Value) (a:Addr) (vs:List Value) (ns:List Int),
     Ground q loose [] XP w s₀ mg mb s₁.heap->YP w s₁.heap ->
     s₁.heap.get? fa=some o->o.data=.func (docDef d.name d.params d.body d.scope pm cd doc)->s₁.heap.CodeRec cd d.name->mg d.name=some (.ref fa) ->
     s₁.heap.get? a=some { cls:=.type "list",data:=.seq vs.toArray }->IntsAre vs ns->ns.length<=n->s₁.gens=#[] ->
     codeAny (model l.prog w) callerA (.call (.ref fa) ⟨[.ref a],[]⟩) (fun r s'=>r=.ok (.ret (.bool true))/\OldK s₁.heap s'.heap/\s'.os=s₁.os/\AllBare s'.gens) s₁) :
   WalkO q loose XP YP l.row.toRowW d [] (fun f vs=>PySem.call f vs):=by
 intro w s₀ s₁ mg mb G Y fa o pm cd doc dV kV ho hd hcd hD hmg hg args vals as hpre hlay hrd hwl hlo;obtain rfl:dV=.none:=Dflts.none hD hdf;obtain rfl:kV=.none:=Dflts.noKw hD;obtain⟨a,vs,ns,rfl,rfl,hobj,hints,hlen⟩:=zm4 hn hpre hwl;refine enter_call (z8x (call w s₀ s₁ mg mb fa o pm cd doc a vs ns G Y ho (fd_plain hd) hcd hmg hobj hints hlen hg) fun r s' hq=>?_);obtain⟨rfl,h2,h3,h4⟩:=hq;exact⟨.inl ⟨.bool true,.bool true,[],rfl,fun _=>rfl,.bool true,znj l _,fun _=>⟨List.Pairwise.nil,fun _ hm=>(nomatch hm)⟩⟩,h2,h3,h4⟩
section
variable {prog:Program}{w:World}{A:Around}{E:zVP}{s:Shared}{K:Frag}
def z3y(h:Heap)(L d:Addr):zAO:=(List.range h.objs.size).filterMap fun a=>if a=L\/a=d then none else (h.get? a).map fun o=>(a,o)
end
end Att
namespace L2
open PySem PySem.Spec PyProof.Rows
theorem zgw:∀{vs:List Value}{ns:List Int},IntsAre vs ns->Vals (ns.map V.int) vs
 |_,_,.nil=>.nil
 |_,_,.cons n t h=>.cons ⟨t,rfl⟩ (zgw h)
abbrev KOf{K:zFr}{h:Heap}(_:K.In h):zFr:=K
end L2
/- THE LAST THEOREM (shape;LID,My.* are yours):
  My.Adr: a structure of the addresses that your layer names (classes,functions);My.Txt K t: a structure (Prop) of the equations over K;
  My.txt_mk:{K}{implicit addresses ..} (e1:nsIn K mainGlobals "law"=some (some (.ref f))) (e2:K.lookup f=some ⟨oc,od,.func (fnOf "law" "law" params body scope dV kV doc pm an cdv ct),sl⟩) (e3:codeIn K cdv "law"=true) ..:∃t,My.Txt K t
(the tactic k_is has no namespace: write k_is) -/
namespace L2
open PySem PySem.Spec PyProof.Rows
def zf3(s:Stmt)(j:Nat):Stmt:=match s with
 | .ClassDef _ _ _ body _ _ _ _ _ _ _=>body.getD j (.Pass ⟨0,0,0,0⟩)
 |_=>.Pass ⟨0,0,0,0⟩
def za7(s:Stmt):Arguments:=match s with
 | .FunctionDef _ a _ _ _ _ _ _ _ _=>a
 |_=>{ posonlyargs:=[],args:=[],vararg:=none,kwonlyargs:=[],kw_defaults:=[],kwarg:=none,defaults:=[] }
def jg(s:Stmt):List Stmt:=match s with
 | .FunctionDef _ _ b _ _ _ _ _ _ _=>b
 |_=>[]
def zj(s:Stmt):Scope:=match s with
 | .FunctionDef _ _ _ _ _ _ sc _ _ _=>sc
 |_=>{ kind:=.function,names:=[],isGenerator:=false,isCoroutine:=false }
abbrev CX0:CXT:=fun _ _ _ _ _ _=>False
abbrev E0:XK:=fun _ _ _=>False
theorem zlc{X:Cx}:zep CX0 X E0:=fun _ _ _ _ _ _ _ h=>h.elim
theorem z06{A B:Prop}(h:B):if false=true then A else B:=by rw[z6i z6q];exact h
theorem z05{A B:Prop}(h:A):if true=true then A else B:=by rw[z6a rfl];exact h
section
variable {X:Cx}{pins:zAO}{σ:St}{H:Hp}{s:Shared}{a:Addr}{y v:V}{u r:Value}{o:Option V}{A:Around}{E:zVP}
end
end L2
namespace F
open PySem L2
def zyy:Expr->Bool
 | .Starred ..=>false
 |_=>true
theorem z8{e:Expr}{es:List Expr}{env:Env}(h:zyy e=true):starEach (e::es) env=(false,eval e env)::starEach es env:=by cases e<;>first | rfl | cases h
theorem qz{pos:Pos}{env:Env}:∀{es:List Expr},es.all zyy=true->(backTo pos (starEach es env)).any (·.1)=false
 | [],_=>rfl
 | e::es,h=>by rw[List.all_cons,z6g]at h;rw[z8 h.1];show(false||(backTo pos (starEach es env)).any (·.1))=false;rw[qz h.2];rfl
structure LT where
 params:Arguments
 body:Expr
 scope:Scope
 qual:Str
 caps:List Str:=[]
 cl:zLA:=[]
inductive D where
 |non | bl (b:Bool) | int (i:Int) | str (x:Str) | fn (x:Str) | ty (n:String)
 |tup (ds:List D) | lst (ds:List D) | obj (i:Nat) | lam (t:LT) | clo (t:LT) (vs:List D)
inductive MO where
 |lst (ds:List D) | ins (c:Str) (fs:List (Str×D)) | dct (kvs:List (Int×D)) | exc (c:Str) | tab (x q:Str)
abbrev Sto:=List MO
abbrev Ev:=List (Option D)
abbrev E:=Ev->Sto->Option (D×Sto)
abbrev B:=Ev->Sto->Option (Bool×Sto)
abbrev As:=Ev->Sto->Option (List D×Sto)
abbrev G:=List D->Sto->Option (D×Sto)
inductive Out where
 |nx (e:Ev) | rt (d:D) | bk (e:Ev) | ct (e:Ev)
abbrev C:=Ev->Sto->Option (Out×Sto)
def TupAt(K:zFr)(ρ:List Addr)(H:Hp)(p:Addr)(vs:List V):Prop :=
 (p∉ρ/\Rd H p (.tup vs))\/∃(o:Obj) (its:Array Value) (n:Nat),K.lookup p=some o/\o.cls=.type "tuple"/\o.data=.seq its n/\its.size<=sizeLine/\Vals vs its.toList
def LstAt(K:zFr)(ρ:List Addr)(H:Hp)(p:Addr)(vs:List V):Prop :=
 (p∉ρ/\Rd H p (.lst vs))\/∃(o:Obj) (its:Array Value) (n:Nat),K.lookup p=some o/\o.cls=.type "list"/\o.dict=none/\o.data=.seq its n/\its.size<=sizeLine/\Vals vs its.toList
theorem TupAt.sq{K ρ H p vs}(h:TupAt K ρ H p vs):SqT K H p vs:=by
 rcases h with⟨_,h⟩ | h
 · exact .inl h
 · exact .inr h
theorem LstAt.sq{K ρ H p vs}(h:LstAt K ρ H p vs):SqL K H p vs:=by
 rcases h with⟨_,h⟩ | h
 · exact .inl h
 · exact .inr h
def yq(c:Addr)(q:Str):Heap->Prop:=fun h=>h.CodeRec (.ref c) q
def ztc(t:LT)(a c:Addr)(pm ct:Value):Heap->Prop:=fun h=>h.get? a=some (PySem.W.kla_obj "<lambda>" t.qual t.params t.body t.scope t.cl pm c ct)
def LamAt(ρ:List Addr)(H:Hp)(t:LT)(a:Addr):Prop:=a∉ρ/\∃c pm ct,c∉ρ/\H a=some (.ext (ztc t a c pm ct))/\H c=some (.ext (yq c t.qual))
def zh9(t:LT)(cl:zLA)(a c:Addr)(pm ct:Value):Heap->Prop:=fun h=>h.get? a=some (PySem.W.kla_obj "<lambda>" t.qual t.params t.body t.scope cl pm c ct)
def Cells(ρ:List Addr)(H:Hp):List Str->List V->zLA->Prop
 | [],[],[]=>True
 |x::xs,u::us,p::cl=>p.1=x/\p.2∉ρ/\(∃(o:Obj) (w:Value),H p.2=some (.frz o (.own 0))/\o.data=.cell (some w)/\RelV u w)/\Cells ρ H xs us cl
 |_,_,_=>False
def CloAt(ρ:List Addr)(H:Hp)(t:LT)(us:List V)(a:Addr):Prop:=a∉ρ/\∃c pm ct cl,c∉ρ/\H a=some (.ext (zh9 t cl a c pm ct))/\H c=some (.ext (yq c t.qual))/\(cl.map (·.2)).Nodup/\Cells ρ H t.caps us cl
section
variable (K:zFr) (mg:zMg)
mutual
def Rep(ρ:List Addr)(H:Hp):D->V->Prop
 | .non,v=>v=.non
 | .bl b,v=>v=.bl b
 | .int i,v=>v=.int i
 | .str x,v=>v=.str x
 | .fn x,v=>∃a,v=.ref a/\mg x=some (.ref a)
 | .ty n,v=>v=.ty n
 | .tup ds,v=>∃p vs,v=.ref p/\TupAt K ρ H p vs/\RepL ρ H ds vs
 | .lst ds,v=>∃p vs,v=.ref p/\LstAt K ρ H p vs/\RepL ρ H ds vs
 | .obj i,v=>∃a,v=.ref a/\ρ[i]? = some a
 | .lam t,v=>∃a,v=.ref a/\LamAt ρ H t a
 | .clo t vs,v=>∃a us,v=.ref a/\CloAt ρ H t us a/\RepL ρ H vs us
def RepL(ρ:List Addr)(H:Hp):List D->List V->Prop
 | [],vs=>vs=[]
 |d::ds,vs=>∃v r,vs=v::r/\Rep ρ H d v/\RepL ρ H ds r
end
end
structure Ext (ρ:List Addr) (H:Hp) (ρ':List Addr) (H':Hp):Prop where
 pre:∀(i:Nat) (a:Addr),ρ[i]? = some a->ρ'[i]? = some a
 keep:∀b o,H b=some o->b∉ρ->H' b=some o
 new:∀b,b∈ρ'->b∉ρ->H b=none
theorem Ext.refl(ρ:List Addr)(H:Hp):Ext ρ H ρ H:=⟨fun _ _ h=>h,fun _ _ h _=>h,fun _ h n=>absurd h n⟩
theorem Ext.out{ρ ρ' H H'}(e:Ext ρ H ρ' H'){b:Addr}{o:HO}(h:H b=some o)(n:b∉ρ):b∉ρ':=fun z=>by have:=e.new b z n;rw[h]at this;cases this
theorem Ext.trans {ρ ρ' ρ'' H H' H''} (a:Ext ρ H ρ' H') (b:Ext ρ' H' ρ'' H''):Ext ρ H ρ'' H'' where
 pre:=fun i x h=>b.pre i x (a.pre i x h)
 keep:=fun c o h n=>b.keep c o (a.keep c o h n) (a.out h n)
 new:=fun c h n=>by
   by_cases z:c∈ρ'
   · exact a.new c z n
   · cases q:H c with
     |none=>rfl
     | some o=>
       have:=a.keep c o q n;rw[b.new c h z]at this;cases this
section
variable {K:zFr}{mg:zMg}{ρ ρ':List Addr}{H H':Hp}
theorem TupAt.mono{p vs}(h:TupAt K ρ H p vs)(e:Ext ρ H ρ' H'):TupAt K ρ' H' p vs:=by
 rcases h with⟨n,h | ⟨o,h⟩⟩ | h
 · exact .inl ⟨e.out h n,.inl (e.keep _ _ h n)⟩
 · exact .inl ⟨e.out h n,.inr ⟨o,e.keep _ _ h n⟩⟩
 · exact .inr h
theorem LstAt.mono{p vs}(h:LstAt K ρ H p vs)(e:Ext ρ H ρ' H'):LstAt K ρ' H' p vs:=by
 rcases h with⟨n,h | ⟨o,h⟩⟩ | h
 · exact .inl ⟨e.out h n,.inl (e.keep _ _ h n)⟩
 · exact .inl ⟨e.out h n,.inr ⟨o,e.keep _ _ h n⟩⟩
 · exact .inr h
theorem LamAt.mono{t a}(h:LamAt ρ H t a)(e:Ext ρ H ρ' H'):LamAt ρ' H' t a:=by obtain⟨n,c,pm,ct,nc,h1,h2⟩:=h;exact⟨e.out h1 n,c,pm,ct,e.out h2 nc,e.keep _ _ h1 n,e.keep _ _ h2 nc⟩
theorem Cells.mono(e:Ext ρ H ρ' H'):∀{xs:List Str}{us:List V}{cl:zLA},Cells ρ H xs us cl->Cells ρ' H' xs us cl
 | [],[],[],_=>trivial
 | x::xs,u::us,p::cl,h=>by obtain⟨h1,h2,⟨o,w,h3,h4⟩,h5⟩:=h;exact⟨h1,e.out h3 h2,⟨o,w,e.keep _ _ h3 h2,h4⟩,Cells.mono e h5⟩
 | [],[],_::_,h=>h.elim
 | [],_::_,_,h=>h.elim
 |_::_,[],_,h=>h.elim
 |_::_,_::_,[],h=>h.elim
theorem CloAt.mono{t us a}(h:CloAt ρ H t us a)(e:Ext ρ H ρ' H'):CloAt ρ' H' t us a:=by obtain⟨n,c,pm,ct,cl,nc,h1,h2,h3,h4⟩:=h;exact⟨e.out h1 n,c,pm,ct,cl,e.out h2 nc,e.keep _ _ h1 n,e.keep _ _ h2 nc,h3,h4.mono e⟩
mutual
theorem Rep.mono(e:Ext ρ H ρ' H'):∀{d:D}{v:V},Rep K mg ρ H d v->Rep K mg ρ' H' d v
 | .non,_,h=>h
 | .bl _,_,h=>h
 | .int _,_,h=>h
 | .str _,_,h=>h
 | .fn _,_,h=>h
 | .ty _,_,h=>h
 | .tup ds,_,h=>by unfold Rep at h ⊢;obtain⟨p,vs,e1,t,r⟩:=h;exact⟨p,vs,e1,t.mono e,RepL.mono e r⟩
 | .lst ds,_,h=>by unfold Rep at h ⊢;obtain⟨p,vs,e1,t,r⟩:=h;exact⟨p,vs,e1,t.mono e,RepL.mono e r⟩
 | .obj i,_,h=>by unfold Rep at h ⊢;obtain⟨a,e1,t⟩:=h;exact⟨a,e1,e.pre _ _ t⟩
 | .lam t,_,h=>by unfold Rep at h ⊢;obtain⟨a,e1,t⟩:=h;exact⟨a,e1,t.mono e⟩
 | .clo t vs,_,h=>by unfold Rep at h ⊢;obtain⟨a,us,e1,t,r⟩:=h;exact⟨a,us,e1,t.mono e,RepL.mono e r⟩
theorem RepL.mono(e:Ext ρ H ρ' H'):∀{ds:List D}{vs:List V},RepL K mg ρ H ds vs->RepL K mg ρ' H' ds vs
 | [],_,h=>h
 | d::ds,_,h=>by unfold RepL at h ⊢;obtain⟨v,r,e1,h1,h2⟩:=h;exact⟨v,r,e1,Rep.mono e h1,RepL.mono e h2⟩
end
theorem RepL.nil:RepL K mg ρ H [] []:=by unfold RepL;rfl
theorem RepL.cons{d ds v vs}(h:Rep K mg ρ H d v)(t:RepL K mg ρ H ds vs):RepL K mg ρ H (d::ds) (v::vs):=by unfold RepL;exact⟨v,vs,rfl,h,t⟩
theorem RepL.length:∀{ds:List D}{vs:List V},RepL K mg ρ H ds vs->ds.length=vs.length
 | [],_,h=>by unfold RepL at h;subst h;rfl
 | d::ds,_,h=>by unfold RepL at h;obtain⟨v,r,rfl,_,h2⟩:=h;rw[List.length_cons,List.length_cons,h2.length]
theorem RepL.get:∀{ds:List D}{vs:List V}{i:Nat}{d:D},RepL K mg ρ H ds vs->ds[i]? = some d->∃v,vs[i]? = some v/\Rep K mg ρ H d v
 | [],_,_,_,_,e=>by simp at e
 | d::ds,_,0,x,h,e=>by unfold RepL at h;obtain⟨v,r,rfl,h1,_⟩:=h;simp at e;subst e;exact⟨v,rfl,h1⟩
 | d::ds,_,i+1,x,h,e=>by unfold RepL at h;obtain⟨v,r,rfl,_,h2⟩:=h;obtain⟨u,e1,e2⟩:=RepL.get (i:=i) (d:=x) h2 (by simpa using e);exact⟨u,by simpa using e1,e2⟩
theorem RepL.append:∀{ds es:List D}{vs us:List V},RepL K mg ρ H ds vs->RepL K mg ρ H es us->RepL K mg ρ H (ds++es) (vs++us)
 | [],_,_,_,h,t=>by unfold RepL at h;subst h;exact t
 | d::ds,_,_,_,h,t=>by unfold RepL at h;obtain⟨v,r,rfl,h1,h2⟩:=h;exact RepL.cons h1 (RepL.append h2 t)
theorem RepL.take:∀{ds:List D}{vs:List V} (n:Nat),RepL K mg ρ H ds vs->RepL K mg ρ H (ds.take n) (vs.take n)
 |_,_,0,_=>by simpa using RepL.nil
 | [],_,_+1,h=>by unfold RepL at h;subst h;simpa using RepL.nil
 | d::ds,_,n+1,h=>by unfold RepL at h;obtain⟨v,r,rfl,h1,h2⟩:=h;exact RepL.cons h1 (RepL.take n h2)
theorem RepL.drop:∀{ds:List D}{vs:List V} (n:Nat),RepL K mg ρ H ds vs->RepL K mg ρ H (ds.drop n) (vs.drop n)
 |_,_,0,h=>by simpa using h
 | [],_,_+1,h=>by unfold RepL at h;subst h;simpa using RepL.nil
 | d::ds,_,n+1,h=>by unfold RepL at h;obtain⟨v,r,rfl,h1,h2⟩:=h;simpa using RepL.drop n h2
theorem RepL.reverse:∀{ds:List D}{vs:List V},RepL K mg ρ H ds vs->RepL K mg ρ H ds.reverse vs.reverse
 | [],_,h=>by unfold RepL at h;subst h;exact RepL.nil
 | d::ds,_,h=>by unfold RepL at h;obtain⟨v,r,rfl,h1,h2⟩:=h;rw[z8n,z8n];exact RepL.append (RepL.reverse h2) (RepL.cons h1 RepL.nil)
end
def zw2(K:zFr)(mg:zMg)(ρ:List Addr)(H:Hp)(fs:List (Str×D))(vs:List (Str×V)):Prop :=
 vs.map (·.1)=fs.map (·.1)/\RepL K mg ρ H (fs.map (·.2)) (vs.map (·.2))
def zwr(K:zFr)(mg:zMg)(x:Str)(a:Addr):Prop:=∃(f:Addr) (o:Obj) (fd:FuncData) (c:Addr),mg x=some (.ref f)/\K.lookup f=some o/\o.data=.func fd/\fd.code=.ref c/\PySem.W.codeHdIn K c a=true
def MOk(K:zFr)(mg:zMg)(ρ:List Addr)(H:Hp)(a:Addr):MO->Prop
 | .lst ds=>∃vs,H a=some (.lst vs)/\RepL K mg ρ H ds vs
 | .ins c fs=>∃C dx vs,mg c=some (.ref C)/\H a=some (.ins C dx vs)/\zw2 K mg ρ H fs vs
 | .dct kvs=>∃vs:List (Key×V),H a=some (.dK vs)/\vs.map (·.1)=kvs.map (fun p=>Sum.inl p.1)/\RepL K mg ρ H (kvs.map (·.2)) (vs.map (·.2))
 | .exc c=>∃C,mg c=some (.ref C)/\H a=some (.ext fun h=>∃o,h.get? a=some o/\o.cls=.ref C)
 | .tab x q=>zwr K mg x a/\∃ps:Array Value,H a=some (.tbl ps)/\TriplesOk ps.toList/\∀(pos:Pos) (cv:Value),codeAmong pos ps.toList=some cv->∃c,cv=.ref c/\c∉ρ/\H c=some (.ext (yq c q))
structure StOk (K:zFr) (mg:zMg) (ρ:List Addr) (H:Hp) (S:Sto):Prop where
 len:ρ.length=S.length
 nd:ρ.Nodup
 ob:∀(i:Nat) (m:MO) (a:Addr),S[i]? = some m->ρ[i]? = some a->MOk K mg ρ H a m
section
variable {K:zFr}{mg:zMg}{ρ ρ':List Addr}{H H':Hp}{S:Sto}
theorem MOk.mono{a m}(h:MOk K mg ρ H a m)(e:Ext ρ H ρ' H')(k:H' a=H a):MOk K mg ρ' H' a m:=by
 cases m with
 |lst ds=>obtain⟨vs,h1,h2⟩:=h;exact⟨vs,k.trans h1,h2.mono e⟩
 |ins c fs=>obtain⟨C,dx,vs,h0,h1,h2,h3⟩:=h;exact⟨C,dx,vs,h0,k.trans h1,h2,h3.mono e⟩
 |dct kvs=>obtain⟨vs,h1,h2,h3⟩:=h;exact⟨vs,k.trans h1,h2,h3.mono e⟩
 |exc c=>obtain⟨C,h1,h2⟩:=h;exact⟨C,h1,k.trans h2⟩
 | tab x q=>
   obtain⟨h0,ps,h1,h2,h3⟩:=h;exact⟨h0,ps,k.trans h1,h2,fun pos cv z=>let⟨c,z1,z2,z3⟩:=h3 pos cv z;⟨c,z1,e.out z3 z2,e.keep _ _ z3 z2⟩⟩
theorem MOk.some{a m}(h:MOk K mg ρ H a m):∃o,H a=some o:=by
 cases m with
 |lst ds=>obtain⟨vs,h1,h2⟩:=h;exact⟨_,h1⟩
 |ins c fs=>obtain⟨C,dx,vs,h0,h1,h2,h3⟩:=h;exact⟨_,h1⟩
 |dct kvs=>obtain⟨vs,h1,h2,h3⟩:=h;exact⟨_,h1⟩
 |exc c=>obtain⟨C,h1,h2⟩:=h;exact⟨_,h2⟩
 |tab x q=>obtain⟨_,ps,h1,_⟩:=h;exact⟨_,h1⟩
theorem StOk.at(s:StOk K mg ρ H S){i:Nat}{a:Addr}(h:ρ[i]? = some a):∃m,S[i]? = some m/\MOk K mg ρ H a m:=by
 have hi:i<ρ.length:=(z5q.mp h).1;have hj:i<S.length:=by rw[<-s.len];exact hi
 exact⟨S[i],z5s hj,s.ob i _ a (z5s hj) h⟩
theorem StOk.adr(s:StOk K mg ρ H S){i:Nat}{m:MO}(h:S[i]? = some m):∃a,ρ[i]? = some a/\MOk K mg ρ H a m:=by
 have hi:i<S.length:=(z5q.mp h).1;have hj:i<ρ.length:=by rw[s.len];exact hi
 exact⟨ρ[i],z5s hj,s.ob i m _ h (z5s hj)⟩
theorem StOk.mem(s:StOk K mg ρ H S){a}(h:a∈ρ):∃o,H a=some o:=by obtain⟨i,hi,e⟩:=List.mem_iff_getElem.mp h;obtain⟨m,_,q⟩:=s.at (i:=i) (a:=a) (by rw[z5s hi,e]);exact q.some
theorem StOk.fresh(s:StOk K mg ρ H S){p}(h:H p=none):p∉ρ:=fun z=>by obtain⟨o,e⟩:=s.mem z;rw[h]at e;cases e
theorem jo(s:StOk K mg ρ H S){p:Addr}(o:HO)(h:H p=none):Ext ρ H ρ (upd H p o) :=
 ⟨fun _ _ e=>e,fun b u e _=>by rw[qf (q0 e h)];exact e,fun _ z n=>absurd z n⟩
theorem StOk.new(s:StOk K mg ρ H S){p:Addr}(o:HO)(h:H p=none):StOk K mg ρ (upd H p o) S :=
 ⟨s.len,s.nd,fun i m a e1 e2=>by
   have q:=s.ob i m a e1 e2;obtain⟨u,z⟩:=q.some;exact q.mono (jo s o h) (qf (q0 z h))⟩
theorem ziz(s:StOk K mg ρ H S){i:Nat}{a:Addr}(o:HO)(h:ρ[i]? = some a):Ext ρ H ρ (upd H a o) :=
 ⟨fun _ _ e=>e,fun b u e n=>by rw[qf (fun(z:b=a)=>n (by rw[z];exact z6b h))];exact e,fun _ z n=>absurd z n⟩
theorem zj0{l:List Addr}(hN:l.Nodup){i j:Nat}{x:Addr}(a:l[i]? = some x)(b:l[j]? = some x):i=j:=by obtain⟨h1,e1⟩:=z5q.mp a;obtain⟨h2,e2⟩:=z5q.mp b;exact(qaa hN).mp (e1.trans e2.symm)
theorem StOk.set(s:StOk K mg ρ H S){i:Nat}{a:Addr}{o:HO}{m:MO}(h:ρ[i]? = some a)(q:MOk K mg ρ (upd H a o) a m):StOk K mg ρ (upd H a o) (S.set i m):=by
 refine⟨by rw[z7m];exact s.len,s.nd,fun j m' b e1 e2=>?_⟩;by_cases hj:j=i
 · subst hj;have hi:j<S.length:=by rw[<-s.len];exact(z5q.mp h).1
   rw[z6p hi]at e1;cases e1;rw[h]at e2;cases e2;exact q
 · rw[z6x (z7v hj)]at e1;exact(s.ob j m' b e1 e2).mono (ziz s o h) (qf fun z=>hj (zj0 s.nd (z▸e2) h))
theorem zcm(s:StOk K mg ρ H S){p:Addr}(o:HO)(h:H p=none):Ext ρ H (ρ++[p]) (upd H p o) :=
 ⟨fun i a e=>by rw[z6h (z5q.mp e).1];exact e,fun b u e _=>by rw[qf (q0 e h)];exact e,
   fun b z n=>by
     rcases z6e.mp z with z | z
     · exact absurd z n
     · rw[z55.mp z];exact h⟩
theorem StOk.add(s:StOk K mg ρ H S){p:Addr}{o:HO}{m:MO}(h:H p=none)(q:MOk K mg (ρ++[p]) (upd H p o) p m):StOk K mg (ρ++[p]) (upd H p o) (S++[m]):=by
 refine⟨by rw[z5l,z5l,s.len]<;>rfl,?_,fun j m' b e1 e2=>?_⟩
 · rw[z9g];refine⟨s.nd,by simp,fun x hx y hy=>?_⟩;rw[z55.mp hy];exact fun z=>s.fresh h (z▸hx)
 · by_cases hj:j<S.length
   · rw[z6h hj]at e1;rw[z6h (by rw[s.len];exact hj)]at e2;have q:=s.ob j m' b e1 e2;obtain⟨u,z⟩:=q.some;exact q.mono (zcm s o h) (qf (q0 z h))
   · rw[z59 (by omega)]at e1;rw[z59 (by rw[s.len];omega)]at e2;have e0:j-S.length=0:=by have:=(z5q.mp e1).1;simp at this;omega
     rw[e0]at e1;rw[s.len,e0]at e2;simp at e1 e2;subst e1 e2;exact q
theorem Rep.tup{p ds vs}{s:StOk K mg ρ H S}(h:H p=none)(r:RepL K mg ρ H ds vs):Rep K mg ρ (upd H p (.tup vs)) (.tup ds) (.ref p):=by unfold Rep;exact⟨p,vs,rfl,.inl ⟨s.fresh h,.inl qq⟩,r.mono (jo s _ h)⟩
theorem Rep.lst{p ds vs}{s:StOk K mg ρ H S}(h:H p=none)(r:RepL K mg ρ H ds vs):Rep K mg ρ (upd H p (.lst vs)) (.lst ds) (.ref p):=by unfold Rep;exact⟨p,vs,rfl,.inl ⟨s.fresh h,.inl qq⟩,r.mono (jo s _ h)⟩
end
structure EnvR (K:zFr) (mg:zMg) (ρ:List Addr) (H:Hp) (ev:Ev) (σ:St):Prop where
 len:ev.length=σ.length
 at_:∀(i:Nat) (d:D),ev[i]? = some (some d)->∃v,σ[i]? = some (some v)/\Rep K mg ρ H d v
section
variable {K:zFr}{mg:zMg}{ρ ρ':List Addr}{H H':Hp}{ev:Ev}{σ:St}
theorem EnvR.mono(h:EnvR K mg ρ H ev σ)(e:Ext ρ H ρ' H'):EnvR K mg ρ' H' ev σ :=
 ⟨h.len,fun i d q=>let⟨v,a,b⟩:=h.at_ i d q;⟨v,a,b.mono e⟩⟩
theorem EnvR.set(h:EnvR K mg ρ H ev σ){d v}(r:Rep K mg ρ H d v)(i:Nat):EnvR K mg ρ H (ev.set i (some d)) (σ.set i (some v)):=by
 refine⟨by rw[z7m,z7m];exact h.len,fun j x q=>?_⟩;by_cases hj:j=i
 · subst hj;have hi:j<ev.length:=by
     have:=(z5q.mp q).1
     rwa [z7m]at this
   rw[z6p hi]at q;cases q;exact⟨v,by rw[z6p (by rw[<-h.len];exact hi)],r⟩
 · rw[z6x (z7v hj)]at q ⊢;exact h.at_ j x q
theorem EnvR.start{N:List Str}{ds:List D}{vs:List V}(h:RepL K mg ρ H ds vs):EnvR K mg ρ H (ds.map some++List.replicate (N.length-ds.length) none) (L2.start N vs):=by
 have hl:=h.length;refine⟨by unfold L2.start;simp[hl],fun i d q=>?_⟩;have hi:i<ds.length:=by
   by_cases hi:i<ds.length
   · exact hi
   · rw[z59 (by simpa using hi),List.getElem?_replicate]at q;split at q<;>cases q
 rw[z6h (by simpa using hi),z6w]at q;cases e:ds[i]? with
 |none=>rw[e]at q;cases q
 | some x=>
   rw[e]at q;cases q;obtain⟨v,e1,r⟩:=h.get e;refine⟨v,?_,r⟩;unfold L2.start;rw[z6h (by simpa [<-hl] using hi),z6w,e1];rfl
end
section
variable (K:zFr) (mg:zMg)
def tE(f:E):TE:=fun σ H Q=>∃ρ ev S d S',EnvR K mg ρ H ev σ/\StOk K mg ρ H S/\f ev S=some (d,S') /\
 ∀v ρ' H',Ext ρ H ρ' H'->StOk K mg ρ' H' S'->Rep K mg ρ' H' d v->Q v H'
def tB(f:B):TT:=fun σ H Q=>∃ρ ev S b S',EnvR K mg ρ H ev σ/\StOk K mg ρ H S/\f ev S=some (b,S') /\
 ∀ρ' H',Ext ρ H ρ' H'->StOk K mg ρ' H' S'->Q b H'
def tAs(f:As):TA:=fun σ H Q=>∃ρ ev S ds S',EnvR K mg ρ H ev σ/\StOk K mg ρ H S/\f ev S=some (ds,S') /\
 ∀vs ρ' H',Ext ρ H ρ' H'->StOk K mg ρ' H' S'->RepL K mg ρ' H' ds vs->Q vs H'
def Post(D:Ends)(S':Sto)(ρ:List Addr)(H:Hp):Out->Prop
 | .nx e=>∀σ' ρ' H',Ext ρ H ρ' H'->StOk K mg ρ' H' S'->EnvR K mg ρ' H' e σ'->D.nx σ' H'
 | .bk e=>∀σ' ρ' H',Ext ρ H ρ' H'->StOk K mg ρ' H' S'->EnvR K mg ρ' H' e σ'->D.bk σ' H'
 | .ct e=>∀σ' ρ' H',Ext ρ H ρ' H'->StOk K mg ρ' H' S'->EnvR K mg ρ' H' e σ'->D.ct σ' H'
 | .rt d=>∀v ρ' H',Ext ρ H ρ' H'->StOk K mg ρ' H' S'->Rep K mg ρ' H' d v->D.rt v H'
def tC(f:C):TS:=fun D σ H=>∃ρ ev S o S',EnvR K mg ρ H ev σ/\StOk K mg ρ H S/\f ev S=some (o,S')/\Post K mg D S' ρ H o
def spG(g:G):Sp:=fun vs H Q _=>∃ρ ds S d S',RepL K mg ρ H ds vs/\StOk K mg ρ H S/\g ds S=some (d,S') /\
 ∀v ρ' H',Ext ρ H ρ' H'->StOk K mg ρ' H' S'->Rep K mg ρ' H' d v->Q v H'
end
theorem Post.ext{K mg}{D:Ends}{S':Sto}{ρ ρ' H H'}(e:Ext ρ H ρ' H'):∀{o:Out},Post K mg D S' ρ H o->Post K mg D S' ρ' H' o
 | .nx _,h=>fun σ' _ _ e'=>h σ' _ _ (e.trans e')
 | .bk _,h=>fun σ' _ _ e'=>h σ' _ _ (e.trans e')
 | .ct _,h=>fun σ' _ _ e'=>h σ' _ _ (e.trans e')
 | .rt _,h=>fun v _ _ e'=>h v _ _ (e.trans e')
def FE(X:Cx)(e:Expr)(f:E):Prop:=PE X e (tE X.K X.mg f)
def FB(X:Cx)(e:Expr)(f:B):Prop:=PT X e (tB X.K X.mg f)
def FW(X:Cx)(e:Expr)(f:B):Prop:=PW X e (tB X.K X.mg f)
def FA(X:Cx)(es:List Expr)(f:As):Prop:=PA X es (tAs X.K X.mg f)
def FS(X:Cx)(st:Stmt)(f:C):Prop:=PS X st (tC X.K X.mg f)
def FSs(X:Cx)(st:List Stmt)(f:C):Prop:=PSs X st (tC X.K X.mg f)
theorem jn{X:Cx}{e:Expr}{t t':TE}(h:PE X e t)(m:∀σ H Q,t' σ H Q->t σ H Q):PE X e t':=fun pins s σ H Q I q=>h pins s σ H Q I (m _ _ _ q)
theorem zdj{X:Cx}{e:Expr}{t t':TT}(h:PT X e t)(m:∀σ H Q,t' σ H Q->t σ H Q):PT X e t':=fun pins s σ H Q I q=>h pins s σ H Q I (m _ _ _ q)
theorem znf{X:Cx}{e:Expr}{t t':TT}(h:PW X e t)(m:∀σ H Q,t' σ H Q->t σ H Q):PW X e t':=fun w pins s σ H Q I q=>h w pins s σ H Q I (m _ _ _ q)
theorem zfq{X:Cx}{e:List Expr}{t t':TA}(h:PA X e t)(m:∀σ H Q,t' σ H Q->t σ H Q):PA X e t':=fun pos pins s σ H Q I q=>h pos pins s σ H Q I (m _ _ _ q)
theorem xu{X:Cx}{e:Stmt}{t t':TS}(h:PS X e t)(m:∀σ H Q,t' Q σ H->t Q σ H):PS X e t':=fun pins s σ H Q I q=>h pins s σ H Q I (m _ _ _ q)
theorem zjv{X:Cx}{e:List Stmt}{t t':TS}(h:PSs X e t)(m:∀σ H Q,t' Q σ H->t Q σ H):PSs X e t':=fun pins s σ H Q I q=>h pins s σ H Q I (m _ _ _ q)
end F
namespace F
open PySem L2
noncomputable def eV(i:Nat):E:=fun ev S=>match ev[i]? with
 |some (some d)=>some (d,S)
 |_=>none
noncomputable def eK(d:D):E:=fun _ S=>some (d,S)
def e1(op:D->Option D)(f:E):E:=fun ev S=>(f ev S).bind fun p=>(op p.1).map fun d=>(d,p.2)
def e2(op:D->D->Option D)(f g:E):E:=fun ev S=>(f ev S).bind fun p=>(g ev p.2).bind fun q=>(op p.1 q.1).map fun d=>(d,q.2)
def e2s(op:Sto->D->D->Option D)(f g:E):E:=fun ev S=>(f ev S).bind fun p=>(g ev p.2).bind fun q=>(op q.2 p.1 q.1).map fun d=>(d,q.2)
def aN:As:=fun _ S=>some ([],S)
def aC(f:E)(g:As):As:=fun ev S=>(f ev S).bind fun p=>(g ev p.2).bind fun q=>some (p.1::q.1,q.2)
def eA(op:Sto->List D->Option D)(g:As):E:=fun ev S=>(g ev S).bind fun q=>(op q.2 q.1).map fun d=>(d,q.2)
def zm(g:G)(a:As):E:=fun ev S=>(a ev S).bind fun q=>g q.1 q.2
def zd3(c:Str)(S:Sto):D->Option (Nat×List (Str×D))
 | .obj i=>match S[i]? with
   |some (.ins c' fs)=>if c'=c then some (i,fs)else none
   |_=>none
 |_=>none
def xq(c m:Str)(g:G)(f:E)(a:As):E:=fun ev S=>(f ev S).bind fun p=>(zd3 c p.2 p.1).bind fun r=>if r.2.lookup m=none then (a ev p.2).bind fun q=>g (p.1::q.1) q.2 else none
def zlr(c:Str)(g:G)(a:As):E:=fun ev S=>(a ev S).bind fun q=>(g (.obj q.2.length::q.1) (q.2++[.ins c []])).bind fun r=>match r.1 with
 | .non=>some (.obj q.2.length,r.2)
 |_=>none
def zw0(c n:Str)(f:E):E:=fun ev S=>(f ev S).bind fun p=>(zd3 c p.2 p.1).bind fun r=>(r.2.lookup n).map fun d=>(d,p.2)
def zi1(g:As):E:=fun ev S=>(g ev S).bind fun q=>if q.1.length<=sizeLine then some (.obj q.2.length,q.2++[.lst q.1])else none
def yn(g:As):E:=eA (fun _ ds=>if ds.length<=sizeLine then some (.tup ds)else none) g
def zmd(g:As):E:=eA (fun _ ds=>if ds.length<=sizeLine then some (.lst ds)else none) g
def bE(f:E):B:=fun ev S=>(f ev S).bind fun p=>match p.1 with
 | .bl b=>some (b,p.2)
 |_=>none
def zcx(f:B):B:=fun ev S=>(f ev S).map fun p=>(!p.1,p.2)
def zsd(f g:B):B:=fun ev S=>(f ev S).bind fun p=>if p.1=true then g ev p.2 else some (false,p.2)
def bOr(f g:B):B:=fun ev S=>(f ev S).bind fun p=>if p.1=true then some (true,p.2)else g ev p.2
def zwz(f:E):E:=e1 (fun d=>match d with | .bl b=>some (.bl !b) | _=>none) f
def zh8(f g:E):E:=fun ev S=>(f ev S).bind fun p=>match p.1 with
 | .bl true=>g ev p.2
 | .bl false=>some (.bl false,p.2)
 |_=>none
def ja:C:=fun ev S=>some (.nx ev,S)
def z5(a b:C):C:=fun ev S=>(a ev S).bind fun p=>match p.1 with
 | .nx e=>b e p.2
 |o=>some (o,p.2)
def ql(f:E):C:=fun ev S=>(f ev S).map fun p=>(.rt p.1,p.2)
def zxr:C:=fun _ S=>some (.rt .non,S)
def zay(f:E):C:=fun ev S=>(f ev S).map fun p=>(.nx ev,p.2)
def qo(i:Nat)(f:E):C:=fun ev S=>(f ev S).map fun p=>(.nx (ev.set i (some p.1)),p.2)
def z5k(i j:Nat)(f:As):C:=fun ev S=>(f ev S).bind fun p=>match p.1 with
 | [a,b]=>some (.nx ((ev.set i (some a)).set j (some b)),p.2)
 |_=>none
def yr(ev:Ev):List Nat->List D->Option Ev
 | [],[]=>some ev
 |i::is,d::ds=>yr (ev.set i (some d)) is ds
 |_,_=>none
def zxp(is:List Nat)(f:E):C:=fun ev S=>(f ev S).bind fun p=>match p.1 with
 | .tup ds=>(yr ev is ds).map fun e=>(.nx e,p.2)
 |_=>none
def sIf(c:B)(a b:C):C:=fun ev S=>(c ev S).bind fun p=>if p.1=true then a ev p.2 else b ev p.2
def zco:C:=fun _ _=>none
def zs0(n:Str)(d:D):List (Str×D)->List (Str×D)
 | []=>[(n,d)]
 | (g,x)::r=>if g=n then (g,d)::r else (g,x)::zs0 n d r
def zk5(c n:Str)(o v:E):C:=fun ev S=>(v ev S).bind fun p=>(o ev p.2).bind fun q=>(zd3 c q.2 q.1).bind fun r=>if r.2.length<1000 then some (.nx ev,q.2.set r.1 (.ins c (zs0 n p.1 r.2)))else none
def z4s(o i v:E):C:=fun ev S=>(v ev S).bind fun p=>(o ev p.2).bind fun q=>(i ev q.2).bind fun r=>match q.1,r.1 with
 | .obj a,.int k=>(match r.2[a]? with
   |some (.lst ds)=>(ixN ds.length k).map fun j=>(.nx ev,r.2.set a (.lst (ds.set j p.1)))
   |_=>none)
 |_,_=>none
def zaz(o v:E):C:=fun ev S=>(o ev S).bind fun q=>match q.1 with
 | .obj a=>(match q.2[a]? with
   | some (.lst _)=>(v ev q.2).bind fun p=>(match p.2[a]? with
     |some (.lst ds)=>if ds.length<sizeLine then some (.nx ev,p.2.set a (.lst (ds++[p.1])))else none
     |_=>none)
   |_=>none)
 |_=>none
def zbq(i:Nat)(body:C):List D->Ev->Sto->Option (Out×Sto)
 | [],ev,S=>some (.nx ev,S)
 | d::ds,ev,S=>(body (ev.set i (some d)) S).bind fun p=>match p.1 with
   | .nx e=>zbq i body ds e p.2
   | .ct e=>zbq i body ds e p.2
   | .bk e=>some (.nx e,p.2)
   | .rt x=>some (.rt x,p.2)
def jm(lo:Int)(n:Nat):List D:=(List.range n).map fun k:Nat=>D.int (lo+(k:Int))
def zm6(i:Nat)(f:E)(body:C):C:=fun ev S=>(f ev S).bind fun p=>match p.1 with
 | .int j=>if -(2^62)<=j/\j<2^62 then zbq i body (jm 0 j.toNat) ev p.2 else none
 |_=>none
def zg2(i:Nat)(f g:E)(body:C):C:=fun ev S=>(f ev S).bind fun p=>(g ev p.2).bind fun q=>match p.1,q.1 with
 | .int a,.int b=>if -(2^62)<=a/\a<2^62/\-(2^62)<=b/\b<2^62 then zbq i body (jm a (b-a).toNat) ev q.2 else none
 |_,_=>none
def qa(N n:Nat)(c:C):G:=fun ds S=>if ds.length=n then (match c (ds.map some++List.replicate (N-ds.length) none) S with
 |some (.nx _,S1)=>some (.non,S1)
 |some (.rt d,S1)=>some (d,S1)
 |_=>none)else none
theorem zy{α β:Type}{o:Option α}{f:α->Option β}{b:β}(h:o.bind f=some b):∃a,o=some a/\f a=some b:=by
 cases o with
 |none=>cases h
 |some a=>exact⟨a,rfl,h⟩
theorem zah{α β:Type}{o:Option α}{f:α->β}{b:β}(h:o.map f=some b):∃a,o=some a/\f a=b:=by
 cases o with
 |none=>cases h
 |some a=>exact⟨a,rfl,z6j h⟩
section
variable {X:Cx}
def zh6(K:zFr)(mg:zMg)(R:R2)(op:Sto->D->D->Option D):Prop :=
 ∀(ρ:List Addr) (H:Hp) (S:Sto) (x y:V) (dx dy d:D) (Q:VK),StOk K mg ρ H S->Rep K mg ρ H dx x->Rep K mg ρ H dy y->op S dx dy=some d ->
   (∀v H',Ext ρ H ρ H'->StOk K mg ρ H' S->Rep K mg ρ H' d v->Q v H')->R x y H Q
def zws(K:zFr)(mg:zMg)(R:List V->Hp->VK->Prop)(op:Sto->List D->Option D):Prop :=
 ∀(ρ:List Addr) (H:Hp) (S:Sto) (xs:List V) (ds:List D) (d:D) (Q:VK),StOk K mg ρ H S->RepL K mg ρ H ds xs->op S ds=some d ->
   (∀v H',Ext ρ H ρ H'->StOk K mg ρ H' S->Rep K mg ρ H' d v->Q v H')->R xs H Q
section
variable {K:zFr}{mg:zMg}{R R':R2}{op op':Sto->D->D->Option D}
theorem t2(hs:zh6 K mg R op){f g:E}{σ:St}{H:Hp}{Q:VK}(h:tE K mg (e2s op f g) σ H Q):tOp R (tE K mg f) (tE K mg g) σ H Q:=by obtain⟨ρ,ev,S,d,S',hE,hS,hf,k⟩:=h;obtain⟨⟨x,S1⟩,q1,hf⟩:=zy hf;obtain⟨⟨y,S2⟩,q2,hf⟩:=zy hf;obtain⟨z,q3,hf⟩:=zah hf;cases hf;refine⟨ρ,ev,S,x,S1,hE,hS,q1,fun v ρ1 H1 E1 hS1 r1=>⟨ρ1,ev,S1,y,S2,hE.mono E1,hS1,q2,fun u ρ2 H2 E2 hS2 r2=>?_⟩⟩;exact hs ρ2 H2 _ v u x y _ Q hS2 (r1.mono E2) r2 q3 fun w H' E3 hS3 r3=>k w ρ2 H' ((E1.trans E2).trans E3) hS3 r3
end
theorem zfc{o:Operator}{R:R2}{op:Sto->D->D->Option D}{a b:Expr}{f g:E}{pos:Pos}(ho:OpR X (binaryOp o) R)(hs:zh6 X.K X.mg R op)(ha:FE X a f)(hb:FE X b g):FE X (.BinOp a o b pos) (e2s op f g) :=
 jn (z17 ho ha hb) fun _ _ _ h=>t2 hs h
theorem zhk{o:CmpOp}{R:R2}{op:Sto->D->D->Option D}{a b:Expr}{f g:E}{pos:Pos}(ho:OpR X (compareOp o) R)(hs:zh6 X.K X.mg R op)(ha:FE X a f)(hb:FE X b g)(hm:behindInMarks o b=false):FE X (.Compare a [o] [b] pos) (e2s op f g) :=
 jn (zu6 ho ha hb hm) fun _ _ _ h=>t2 hs h
theorem zt8{K mg}{f:E}{t:TE}{σ:St}{H:Hp}{Q:Bool->Hp->Prop}(m:∀Q,tE K mg f σ H Q->t σ H Q)(h:tB K mg (bE f) σ H Q):zqb t σ H Q:=by
 obtain⟨ρ,ev,S,b,S',hE,hS,hf,k⟩:=h;obtain⟨⟨x,S1⟩,q1,hf⟩:=zy hf;cases x with
 | bl c=>
   cases hf;refine m _ ⟨ρ,ev,S,_,_,hE,hS,q1,fun v ρ1 H1 E1 hS1 r1=>?_⟩;exact⟨b,r1,k ρ1 H1 E1 hS1⟩
 |_=>cases hf
theorem zb9{o:CmpOp}{R:R2}{op:Sto->D->D->Option D}{a b:Expr}{f g:E}{pos:Pos}(ho:OpR X (compareOp o) R)(hs:zh6 X.K X.mg R op)(ha:FE X a f)(hb:FE X b g)(hm:behindInMarks o b=false):FB X (.Compare a [o] [b] pos) (bE (e2s op f g)) :=
 zdj (zux ho ha hb hm) fun _ _ _ h=>zt8 (fun _ h=>t2 hs h) h
theorem zf(i:Nat){x:Str}{pos:Pos}(hN:X.N[i]? = some x:=by rfl)(hv:Vis X.env.scope x:=by first | exact Or.inl rfl | exact Or.inr (Or.inl rfl) | exact Or.inr (Or.inr rfl))(hd:(x==("__debug__":Str))=false:=by decide)
   (hcd:(x==("__classdict__":Str))=false:=by decide):FE X (.Name x pos) (eV i) :=
 jn (zyb hN hv hd hcd) fun σ H Q h=>by
   obtain⟨ρ,ev,S,d,S',hE,hS,hf,k⟩:=h;unfold eV at hf;split at hf
   · rename_i x e;cases hf;obtain⟨v,e1,r⟩:=hE.at_ i _ e;exact⟨v,e1,k v ρ H (Ext.refl _ _) hS r⟩
   · cases hf
theorem zao{e:Expr}{v:V}{d:D}(h:PE X e (L2.tC v))(r:∀ρ H,Rep X.K X.mg ρ H d v):FE X e (eK d) :=
 jn h fun σ H Q h=>by obtain⟨ρ,ev,S,d,S',hE,hS,hf,k⟩:=h;cases hf;exact k v ρ H (Ext.refl _ _) hS (r _ _)
theorem zo{i:Int}{j pos}:FE X (.Constant (.int i) j pos) (eK (.int i)):=zao zyh fun _ _=>rfl
theorem y9{b:Bool}{j pos}:FE X (.Constant (.bool b) j pos) (eK (.bl b)):=zao z2a fun _ _=>rfl
theorem je{j pos}:FE X (.Constant .none j pos) (eK .non):=zao zyg fun _ _=>rfl
theorem zkb{x:Str}{j pos}:FE X (.Constant (.str x) j pos) (eK (.str x)):=zao zyd fun _ _=>rfl
theorem zw{x:Str}{n:Int}{pos:Pos}(hm:∃t,X.mg x=some (.int n t))(hg:Gl X x:=by rfl)(hd:(x==("__debug__":Str))=false:=by decide):FE X (.Name x pos) (eK (.int n)):=by obtain⟨t,hm⟩:=hm;exact zao (zno hg hm (v:=.int n) ⟨t,rfl⟩ hd) fun _ _=>rfl
theorem zea{x:Str}{pos:Pos}(hm:∃f,X.mg x=some (.ref f))(hg:Gl X x:=by rfl)(hd:(x==("__debug__":Str))=false:=by decide):FE X (.Name x pos) (eK (.fn x)):=by obtain⟨f,hm⟩:=hm;exact zao (zno hg hm (v:=.ref f) rfl hd) fun ρ H=>by unfold Rep;exact⟨f,rfl,hm⟩
theorem zd:FA X [] aN:=zfq znp fun σ H Q h=>by obtain⟨ρ,ev,S,d,S',hE,hS,hf,k⟩:=h;cases hf;exact k [] ρ H (Ext.refl _ _) hS RepL.nil
theorem zb{e:Expr}{es:List Expr}{f:E}{g:As}(ha:FE X e f)(hr:FA X es g)(hs:starEach (e::es) X.env=(false,eval e X.env)::starEach es X.env:=by exact z8 rfl):FA X (e::es) (aC f g) :=
 zfq (zfr ha hr hs) fun σ H Q h=>by obtain⟨ρ,ev,S,d,S',hE,hS,hf,k⟩:=h;obtain⟨⟨x,S1⟩,q1,hf⟩:=zy hf;obtain⟨⟨y,S2⟩,q2,hf⟩:=zy hf;cases hf;refine⟨ρ,ev,S,x,S1,hE,hS,q1,fun v ρ1 H1 E1 hS1 r1=>⟨ρ1,ev,S1,y,_,hE.mono E1,hS1,q2,fun vs ρ2 H2 E2 hS2 r2=>?_⟩⟩;exact k (v::vs) ρ2 H2 (E1.trans E2) hS2 (RepL.cons (r1.mono E2) r2)
theorem tA{K mg}{R:List V->Hp->VK->Prop}{op:Sto->List D->Option D}(hs:zws K mg R op){g:As}{σ:St}{H:Hp}{Q:VK}(h:tE K mg (eA op g) σ H Q):tAs K mg g σ H fun vs H1=>R vs H1 Q:=by obtain⟨ρ,ev,S,d,S',hE,hS,hf,k⟩:=h;obtain⟨⟨x,S1⟩,q1,hf⟩:=zy hf;obtain⟨z,q3,hf⟩:=zah hf;cases hf;exact⟨ρ,ev,S,x,_,hE,hS,q1,fun vs ρ1 H1 E1 hS1 r1=>hs ρ1 H1 _ vs x _ Q hS1 r1 q3 fun w H' E3 hS3 r3=>k w ρ1 H' (E1.trans E3) hS3 r3⟩
theorem jc{es:List Expr}{g:As}{x1 pos}(h:FA X es g):FE X (.Tuple es x1 pos) (yn g) :=
 jn (zyc h) fun σ H Q h=>tA (K:=X.K) (mg:=X.mg) (R:=fun xs H1 Q=>xs.length<=sizeLine/\∀p,H1 p=none->Q (.ref p) (upd H1 p (.tup xs))) (fun ρ H S xs ds d Q hS r e k=>by
   split at e
   · rename_i hl;cases e;exact⟨by rw[<-r.length];exact hl,fun p hp=>k _ _ (jo hS _ hp) (hS.new _ hp) (Rep.tup (s:=hS) hp r)⟩
   · cases e) h
theorem zfa{es:List Expr}{g:As}{pos}(h:FA X es g):FE X (.List es pos) (zmd g) :=
 jn (zs4 h) fun σ H Q h=>tA (K:=X.K) (mg:=X.mg) (R:=fun xs H1 Q=>xs.length<=sizeLine/\∀p,H1 p=none->Q (.ref p) (upd H1 p (.lst xs))) (fun ρ H S xs ds d Q hS r e k=>by
   split at e
   · rename_i hl;cases e;exact⟨by rw[<-r.length];exact hl,fun p hp=>k _ _ (jo hS _ hp) (hS.new _ hp) (Rep.lst (s:=hS) hp r)⟩
   · cases e) h
theorem ziv{es:List Expr}{g:As}{pos}(h:FA X es g):FE X (.List es pos) (zi1 g) :=
 jn (zs4 h) fun σ H Q h=>by
   obtain⟨ρ,ev,S,d,S',hE,hS,hf,k⟩:=h;obtain⟨⟨x,S1⟩,q1,hf⟩:=zy hf;dsimp only at hf;split at hf
   · rename_i hl;cases hf;refine⟨ρ,ev,S,x,S1,hE,hS,q1,fun vs ρ1 H1 E1 hS1 r1=>⟨by rw[<-r1.length];exact hl,fun p hp=>?_⟩⟩;refine k _ _ _ (E1.trans (zcm hS1 _ hp)) (hS1.add hp ⟨vs,qq,r1.mono (zcm hS1 _ hp)⟩) ?_;unfold Rep;refine⟨p,rfl,?_⟩;rw[z59 (by rw[hS1.len]<;>exact z5o _),hS1.len];simp
   · cases hf
theorem zhm{id:String}{R:List V->Hp->VK->Prop}{op:Sto->List D->Option D}{x:Str}{p pos:Pos}{e:Expr}{es:List Expr}{g:As}(hc:CallR X (.builtin id) R)(hs:zws X.K X.mg R op)(hm:X.mg x=none)(hv:bootBuiltins x=some (.builtin id))(ha:FA X (e::es) g)
   (hg:Gl X x:=by rfl) (hn:x≠"__name__":=by decide) (hdb:(x==("__debug__":Str))=false:=by decide)
   (he:starEach (e::es) X.env=(false,eval e X.env)::starEach es X.env:=by exact z8 rfl) (hpl:(backTo pos (starEach es X.env)).any (·.1)=false:=by exact qz rfl):FE X (.Call (.Name x p) (e::es) [] pos) (eA op g) :=
 jn (zqz hc hg hm hv ha hn hdb he hpl) fun σ H Q h=>tA hs h
end
structure Cal (P:Program) (w:World) (K:zFr) (mg:zMg) (base:Heap) (k:Nat) (x:Str) (g:G):Prop where
 ex:∃(f:Addr) (fd:FuncData) (ps:List Str) (ds:List Value) (dvs:List V) (dds:List D) (gg:G),FnOk P w K mg base CX0 k f fd ps (spG K mg gg)/\mg x=some (.ref f)/\PySem.W.keepIn K (.ref f)=true /\
   Binds K fd ps ds/\Vals dvs ds/\(∀ρ H,RepL K mg ρ H dds dvs)/\∀args S r,g args S=some r->gg (args++dds) S=some r
theorem Cal.mono{P w K mg base j k x g}(c:Cal P w K mg base j x g)(h:j<=k):Cal P w K mg base k x g:=by obtain⟨f,fd,ps,ds,dvs,dds,gg,F,r⟩:=c.ex;exact⟨f,fd,ps,ds,dvs,dds,gg,F.mono h,r⟩
structure Mth (P:Program) (w:World) (K:zFr) (mg:zMg) (base:Heap) (k:Nat) (c m:Str) (g:G):Prop where
 ex:∃(C f:Addr) (fd:FuncData) (ps:List Str) (ds:List Value) (dvs:List V) (dds:List D) (gg:G),FnOk P w K mg base CX0 k f fd ps (spG K mg gg)/\mg c=some (.ref C)/\Cls K C/\Meth K C m f /\
   Binds K fd ps ds/\Vals dvs ds/\(∀ρ H,RepL K mg ρ H dds dvs)/\∀args S r,g args S=some r->gg (args++dds) S=some r
structure Mak (P:Program) (w:World) (K:zFr) (mg:zMg) (base:Heap) (k:Nat) (c:Str) (g:G):Prop where
 ex:∃(C f:Addr) (fd:FuncData) (ps:List Str) (ds:List Value) (dvs:List V) (dds:List D) (gg:G),FnOk P w K mg base CX0 k f fd ps (spG K mg gg)/\mg c=some (.ref C)/\Mk K C f /\
   Binds K fd ps ds/\Vals dvs ds/\(∀ρ H,RepL K mg ρ H dds dvs)/\∀args S r,g args S=some r->gg (args++dds) S=some r
def Fld(K:zFr)(mg:zMg)(c n:Str):Prop:=∀C,mg c=some (.ref C)->Cls K C/\NoAttr K C n
section
variable {X:Cx}{k:Nat}{x c m n:Str}{g:G}{e o:Expr}{es:List Expr}{a:As}{f:E}{p pos apos:Pos}
theorem zjk{K mg}{gg:G}{dds:List D}{dvs:List V}(hdd:∀ρ H,RepL K mg ρ H dds dvs)(hg:∀args S r,g args S=some r->gg (args++dds) S=some r){σ:St}{H:Hp}{Q:VK}(h:tE K mg (zm g a) σ H Q) :
   zuc (spG K mg gg) dvs E0 (tAs K mg a) σ H Q:=by
 obtain⟨ρ,ev,S,d,S',hE,hS,hf,k⟩:=h;obtain⟨⟨ds,S1⟩,q1,hf⟩:=zy hf;exact⟨ρ,ev,S,ds,S1,hE,hS,q1,fun vs ρ1 H1 E1 hS1 r1=>⟨ρ1,ds++dds,S1,d,S',r1.append (hdd ρ1 H1),hS1,hg _ _ _ hf,fun v ρ' H' E' hS' r'=>k v ρ' H' (E1.trans E') hS' r'⟩⟩
theorem zg(cal:Cal X.prog X.w X.K X.mg X.base k x g)(hr:Room k X.A)(ha:FA X (e::es) a)(hg:Gl X x:=by rfl)(hdb:(x==("__debug__":Str))=false:=by decide)
   (he:starEach (e::es) X.env=(false,eval e X.env)::starEach es X.env:=by exact z8 rfl) (hpl:(backTo pos (starEach es X.env)).any (·.1)=false:=by exact qz rfl) :
   FE X (.Call (.Name x p) (e::es) [] pos) (zm g a):=by
 obtain⟨f,fd,ps,ds,dvs,dds,gg,F,hm,hk,hb,hd,hdd,hgg⟩:=cal.ex;exact jn (zu7 F hr hg hm hk hb hd zlc ha hdb he hpl) fun σ H Q h=>zjk hdd hgg h
theorem zf2{c:Str}{S:Sto}{d:D}{r:Nat×List (Str×D)}(h:zd3 c S d=some r):d=.obj r.1/\S[r.1]? = some (.ins c r.2):=by
 unfold zd3 at h;split at h
 · split at h
   · rename_i i _ c' fs e;split at h
     · rename_i hc;cases h;subst hc;exact⟨rfl,e⟩
     · cases h
   · cases h
 · cases h
theorem zih{K mg ρ H S}(hS:StOk K mg ρ H S){c:Str}{i:Nat}{fs:List (Str×D)}{v:V}(h:S[i]? = some (.ins c fs))(r:Rep K mg ρ H (.obj i) v) :
   ∃b C dx vs,v=.ref b/\ρ[i]? = some b/\mg c=some (.ref C)/\H b=some (.ins C dx vs)/\zw2 K mg ρ H fs vs:=by
 unfold Rep at r;obtain⟨b,rfl,e⟩:=r;obtain⟨C,dx,vs,h1,h2,h3⟩:=hS.ob i _ b h e;exact⟨b,C,dx,vs,rfl,e,h1,h2,h3⟩
theorem ziq{fs:List (Str×D)}{vs:List (Str×V)}{m:Str}(h:vs.map (·.1)=fs.map (·.1))(e:fs.lookup m=none):vs.lookup m=none:=by
 induction fs generalizing vs with
 | nil=>
   cases vs with
   |nil=>rfl
   |cons _ _=>cases h
 | cons q fs ih=>
   cases vs with
   |nil=>cases h
   | cons q' vs=>
     obtain⟨a,b⟩:=q;obtain⟨a',b'⟩:=q';simp only[z5v,z7n]at h;obtain⟨h1,h2⟩:=h;subst h1;simp only[List.lookup]at e ⊢;split at e
     · cases e
     · exact ih h2 e
theorem zio{K mg ρ H}{fs:List (Str×D)}{vs:List (Str×V)}{m:Str}{d:D}(h:zw2 K mg ρ H fs vs)(e:fs.lookup m=some d):∃v,vs.lookup m=some v/\Rep K mg ρ H d v:=by
 obtain⟨h,r⟩:=h
 induction fs generalizing vs with
 |nil=>cases e
 | cons q fs ih=>
   cases vs with
   |nil=>cases h
   | cons q' vs=>
     obtain⟨a,b⟩:=q;obtain⟨a',b'⟩:=q';simp only[z5v,z7n]at h;obtain⟨h1,h2⟩:=h;subst h1;rw[z5v,z5v]at r;unfold RepL at r;obtain⟨u,t,e1,r1,r2⟩:=r;cases e1;simp only[List.lookup]at e ⊢;split at e
     · cases e;exact⟨_,rfl,r1⟩
     · exact ih e h2 r2
theorem jd(mt:Mth X.prog X.w X.K X.mg X.base k c m g)(hr:Room k X.A)(ho:FE X o f)(ha:FA X (e::es) a){pl:Sem Bool}
   (hst:starEach (e::es) X.env=(false,eval e X.env)::starEach es X.env:=by exact z8 rfl) (hpl:(backTo pos (starEach es X.env)).any (·.1)=false:=by exact qz rfl)
   (ht:eval (.Call (.Attribute o m apos) (e::es) [] pos) X.env=(do
     let ov <-eval o X.env
     standAt apos.atName
     let(f,first) <-holding [ov] (getMethod ov m pl)
     callWith pos f first (backTo pos (starEach (e::es) X.env)) (backToKw pos (keywordEach [] X.env))):=by rfl) :
   FE X (.Call (.Attribute o m apos) (e::es) [] pos) (xq c m g f a):=by
 obtain⟨C,fa,fd,ps,ds,dvs,dds,gg,F,hm,hc,hme,hb,hd,hdd,hgg⟩:=mt.ex;refine jn (zu4 ho hc hme F hr hb hd zlc ha hst hpl ht) fun σ H Q h=>?_;obtain⟨ρ,ev,S,d,S',hE,hS,hf,k⟩:=h;obtain⟨⟨y,S1⟩,q1,hf⟩:=zy hf;obtain⟨⟨i,fs⟩,q2,hf⟩:=zy hf;dsimp only at hf q2;split at hf
 · rename_i hl;obtain⟨⟨ys,S2⟩,q3,hf⟩:=zy hf;obtain⟨rfl,hi⟩:=zf2 q2;refine⟨ρ,ev,S,_,S1,hE,hS,q1,fun v ρ1 H1 E1 hS1 r1=>?_⟩;obtain⟨b,C',dx,vs,rfl,hb1,hm',hb2,hb3⟩:=zih hS1 hi r1;have ec:C'=C:=by rw[hm]at hm';cases hm';rfl
   subst ec;refine⟨b,dx,vs,rfl,hb2,ziq hb3.1 hl,ρ1,ev,S1,ys,S2,hE.mono E1,hS1,q3,fun us ρ2 H2 E2 hS2 r2=>?_⟩;exact⟨ρ2,_,S2,d,S',(RepL.cons (r1.mono E2) r2).append (hdd ρ2 H2),hS2,hgg _ _ _ hf,fun v ρ' H' E' hS' r'=>k v ρ' H' ((E1.trans E2).trans E') hS' r'⟩
 · cases hf
theorem zp8{K mg}{gg:G}{C:Addr}{dds:List D}{dvs:List V}(hm:mg c=some (.ref C))(hdd:∀ρ H,RepL K mg ρ H dds dvs)(hg:∀args S r,g args S=some r->gg (args++dds) S=some r){σ:St}{H:Hp}{Q:VK}(h:tE K mg (zlr c g a) σ H Q) :
   zxc C (spG K mg gg) dvs E0 (tAs K mg a) σ H Q:=by
 obtain⟨ρ,ev,S,d,S',hE,hS,hf,k⟩:=h;obtain⟨⟨ds,S1⟩,q1,hf⟩:=zy hf;obtain⟨⟨y,S2⟩,q2,hf⟩:=zy hf;dsimp only at hf;cases y with
 | non=>
   cases hf;refine⟨ρ,ev,S,ds,S1,hE,hS,q1,fun vs ρ1 H1 E1 hS1 r1=>fun x dx nx ndx ne=>?_⟩;have s0:=hS1.new (.own x) ndx;have nx':upd H1 dx (.own x) x=none:=by rw[qf (z7v ne)];exact nx
   have e0:=jo hS1 (.own x) ndx;have e1:=zcm s0 (p:=x) (.ins C dx []) nx';have s1:StOk K mg (ρ1++[x]) (upd (upd H1 dx (.own x)) x (.ins C dx [])) (S1++[.ins c []]):=s0.add nx' ⟨C,dx,[],hm,qq,rfl,RepL.nil⟩;have ro:Rep K mg (ρ1++[x]) (upd (upd H1 dx (.own x)) x (.ins C dx [])) (.obj S1.length) (.ref x):=by unfold Rep;refine⟨x,rfl,?_⟩;rw[z59 (by rw[hS1.len]<;>exact z5o _),hS1.len];simp
   refine⟨ρ1++[x],_,_,.non,_,RepL.cons ro ((r1.mono (e0.trans e1)).append (hdd _ _)),s1,hg _ _ _ q2,fun v ρ' H' E' hS' r'=>⟨r',?_⟩⟩;exact k _ ρ' H' (E1.trans ((e0.trans e1).trans E')) hS' (ro.mono E')
 |_=>cases hf
theorem zv4(mk:Mak X.prog X.w X.K X.mg X.base k c g)(hr:Room (k+1) X.A)(ha:FA X (e::es) a)(hg:Gl X c:=by rfl)(hdb:(c==("__debug__":Str))=false:=by decide)
   (he:starEach (e::es) X.env=(false,eval e X.env)::starEach es X.env:=by exact z8 rfl) (hpl:(backTo pos (starEach es X.env)).any (·.1)=false:=by exact qz rfl) :
   FE X (.Call (.Name c p) (e::es) [] pos) (zlr c g a):=by
 obtain⟨C,f,fd,ps,ds,dvs,dds,gg,F,hm,M,hb,hd,hdd,hgg⟩:=mk.ex;exact jn (zu5 M F hr hg hm hb hd zlc ha hdb he hpl) fun σ H Q h=>zp8 hm hdd hgg h
theorem ztm(hc:Fld X.K X.mg c n)(ho:FE X o f)(hb:attributeBase o n X.env (eval o X.env)=eval o X.env:=by rfl):FE X (.Attribute o n pos) (zw0 c n f) :=
 jn (zyi ho hb) fun σ H Q h=>by obtain⟨ρ,ev,S,d,S',hE,hS,hf,k⟩:=h;obtain⟨⟨y,S1⟩,q1,hf⟩:=zy hf;obtain⟨⟨i,fs⟩,q2,hf⟩:=zy hf;obtain⟨d',q3,hf⟩:=zah hf;cases hf;obtain⟨rfl,hi⟩:=zf2 q2;refine⟨ρ,ev,S,_,_,hE,hS,q1,fun v ρ1 H1 E1 hS1 r1=>?_⟩;obtain⟨b,C,dx,vs,rfl,hb1,hm',hb2,hb3⟩:=zih hS1 hi r1;obtain⟨v,e1,r2⟩:=zio hb3 q3;exact⟨b,C,dx,vs,v,rfl,hb2,(hc C hm').1,(hc C hm').2,e1,k v ρ1 H1 E1 hS1 r2⟩
def ztu(ft:Str->Option G)(f:E)(a:As):E:=fun ev S=>(f ev S).bind fun p=>match p.1 with
 | .fn x=>(ft x).bind fun g=>(a ev p.2).bind fun q=>g q.1 q.2
 |_=>none
theorem zrr{fe:Expr}{ft:Str->Option G}(hT:∀x g,ft x=some g->Cal X.prog X.w X.K X.mg X.base k x g)(hr:Room k X.A)(hf:FE X fe f)(ha:FA X (e::es) a)
   (ht:eval (.Call fe (e::es) [] pos) X.env=(eval fe X.env >>= fun v=>callWith pos v [] (backTo pos (starEach (e::es) X.env)) (backToKw pos (keywordEach [] X.env))):=by rfl)
   (he:starEach (e::es) X.env=(false,eval e X.env)::starEach es X.env:=by exact z8 rfl) (hpl:(backTo pos (starEach es X.env)).any (·.1)=false:=by exact qz rfl) :
   FE X (.Call fe (e::es) [] pos) (ztu ft f a):=by
 intro pins s σ H Q I h;rw[ht];obtain⟨ρ,ev,S,d,S',hE,hS,hf',kk⟩:=h;obtain⟨⟨y,S1⟩,q1,hf'⟩:=zy hf';cases y with
 | fn x=>
   dsimp only at hf';obtain⟨g,hx,hf'⟩:=zy hf';obtain⟨f0,fd,ps,ds,dvs,dds,gg,F,hm,hk,hb,hd,hdd,hgg⟩:=(hT x g hx).ex;refine z5m (thn (hf pins s σ H (fun v H1=>v=.ref f0/\zuc (spG X.K X.mg gg) dvs E0 (tAs X.K X.mg a) σ H1 Q) I ⟨ρ,ev,S,_,S1,hE,hS,q1,fun v ρ1 H1 E1 hS1 r1=>⟨?_,?_⟩⟩) fun u s1 ⟨v,H1,I1,rv,ev1,q⟩=>?_)
   · unfold Rep at r1;obtain⟨b,rfl,e1⟩:=r1;rw[hm]at e1;cases e1;rfl
   · exact zjk (g:=g) hdd hgg ⟨ρ1,ev,S1,d,S',hE.mono E1,hS1,hf',fun v ρ' H' E' hS' r'=>kk v ρ' H' (E1.trans E') hS' r'⟩
   · subst ev1;obtain rfl:u=Value.ref f0:=rv;refine z7q (h₀:=X.base) I.ok.mod.kin hk (thn (ha pos pins s1 σ H1 _ I1 q) fun us s2 ⟨vs,H2,I2,r,q2⟩=>⟨I2.kIn,?_⟩) he hpl;exact zg4 F hr hb hd zlc I2 r q2
 |_=>cases hf'
theorem xn(h:FE X e f)(he:∀whole,isTrue e X.env whole=(do let v <-whole;standAt e.pos;holding [v] (truthy v)):=by intro _;rfl):FB X e (bE f) :=
 zdj (zx2 h he) fun σ H Q h=>by
   obtain⟨ρ,ev,S,b,S',hE,hS,hf,k⟩:=h;obtain⟨⟨x,S1⟩,q1,hf⟩:=zy hf;cases x with
   | bl c=>
     cases hf;exact⟨ρ,ev,S,_,_,hE,hS,q1,fun v ρ1 H1 E1 hS1 r1=>⟨b,r1,k ρ1 H1 E1 hS1⟩⟩
   |_=>cases hf
variable {b:Expr}{rest:List Expr}{u v:B}
theorem yw(h:FB X e u):FB X (.UnaryOp .Not e pos) (zcx u):=zdj (zx3 h) fun σ H Q h=>by obtain⟨ρ,ev,S,b,S',hE,hS,hf,k⟩:=h;obtain⟨⟨x,S1⟩,q1,hf⟩:=zah hf;cases hf;exact⟨ρ,ev,S,_,_,hE,hS,q1,fun ρ1 H1 E1 hS1=>k ρ1 H1 E1 hS1⟩
theorem ziu(h:FB X e u):FW X (.BoolOp .And [e] pos) u:=zuv h
theorem zop(h:FB X e u):FW X (.BoolOp .Or [e] pos) u:=zxz h
theorem zoq(h:FB X e u)(hb:FW X (.BoolOp .And (b::rest) pos) v):FW X (.BoolOp .And (e::b::rest) pos) (zsd u v):=znf (zx0 h hb) fun σ H Q h=>by
 obtain⟨ρ,ev,S,b,S',hE,hS,hf,k⟩:=h;obtain⟨⟨x,S1⟩,q1,hf⟩:=zy hf;refine⟨ρ,ev,S,x,S1,hE,hS,q1,fun ρ1 H1 E1 hS1=>?_⟩;cases x with
 |true=>exact z05 ⟨ρ1,ev,S1,b,S',hE.mono E1,hS1,hf,fun ρ2 H2 E2 hS2=>k ρ2 H2 (E1.trans E2) hS2⟩
 |false=>cases hf;exact z06 (k ρ1 H1 E1 hS1)
theorem zvy(h:FB X e u)(hb:FW X (.BoolOp .Or (b::rest) pos) v):FW X (.BoolOp .Or (e::b::rest) pos) (bOr u v):=znf (z12 h hb) fun σ H Q h=>by
 obtain⟨ρ,ev,S,b,S',hE,hS,hf,k⟩:=h;obtain⟨⟨x,S1⟩,q1,hf⟩:=zy hf;refine⟨ρ,ev,S,x,S1,hE,hS,q1,fun ρ1 H1 E1 hS1=>?_⟩;cases x with
 |true=>cases hf;exact z05 (k ρ1 H1 E1 hS1)
 |false=>exact z06 ⟨ρ1,ev,S1,b,S',hE.mono E1,hS1,hf,fun ρ2 H2 E2 hS2=>k ρ2 H2 (E1.trans E2) hS2⟩
theorem zwy(h:FW X e u):FB X e u:=h.pt
variable {g1 g2:E}
theorem zd9{op}(h:FE X e g1):FE X (.BoolOp op [e] pos) g1:=zye h
theorem zct(h:FE X e g1)(hb:FE X (.BoolOp .And (b::rest) pos) g2):FE X (.BoolOp .And (e::b::rest) pos) (zh8 g1 g2):=jn (zyj h hb) fun σ H Q h=>by
 obtain⟨ρ,ev,S,d,S',hE,hS,hf,k⟩:=h;obtain⟨⟨x,S1⟩,q1,hf⟩:=zy hf;refine⟨ρ,ev,S,x,S1,hE,hS,q1,fun w ρ1 H1 E1 hS1 r1=>?_⟩;cases x with
 | bl c=>
   refine⟨c,r1,?_⟩;cases c with
   |true=>exact z05 ⟨ρ1,ev,S1,d,S',hE.mono E1,hS1,hf,fun v ρ2 H2 E2 hS2 r2=>k v ρ2 H2 (E1.trans E2) hS2 r2⟩
   |false=>cases hf;exact z06 (k _ ρ1 H1 E1 hS1 rfl)
 |_=>cases hf
theorem zo0(h:FE X e g1):FE X (.UnaryOp .Not e pos) (zwz g1):=jn (zyf h) fun σ H Q h=>by
 obtain⟨ρ,ev,S,d,S',hE,hS,hf,k⟩:=h;obtain⟨⟨x,S1⟩,q1,hf⟩:=zy hf;obtain⟨z,q2,hf⟩:=zah hf;cases hf;refine⟨ρ,ev,S,x,_,hE,hS,q1,fun w ρ1 H1 E1 hS1 r1=>?_⟩;cases x with
 |bl c=>cases q2;exact⟨c,r1,k _ ρ1 H1 E1 hS1 rfl⟩
 |_=>cases q2
end
section
variable {X:Cx}{st:Stmt}{rest:List Stmt}{a b body:C}{e o:Expr}{f g h':E}{u:B}{pos pos':Pos}{x c n:Str}
theorem zt:FSs X [] ja:=zjv zuz fun σ H D h=>by obtain⟨ρ,ev,S,o,S',hE,hS,hf,k⟩:=h;cases hf;exact k σ ρ H (Ext.refl _ _) hS hE
theorem ze(h1:FS X st a)(h2:FSs X rest b):FSs X (st::rest) (z5 a b):=zjv (zqu h1 h2) fun σ H D h=>by
 obtain⟨ρ,ev,S,o,S',hE,hS,hf,k⟩:=h;obtain⟨⟨o1,S1⟩,q1,hf⟩:=zy hf;refine⟨ρ,ev,S,o1,S1,hE,hS,q1,?_⟩;cases o1 with
 |nx e=>exact fun σ' ρ' H' E' hS' hE'=>⟨ρ',e,S1,o,S',hE',hS',hf,k.ext E'⟩
 |rt d=>cases hf;exact k
 |bk e=>cases hf;exact k
 |ct e=>cases hf;exact k
theorem zk(h1:FS X st a):FSs X [st] a:=zuy h1
theorem zp(h:FE X e f):FS X (.Return (some e) pos) (ql f):=xu (zx5 h) fun σ H D h=>by obtain⟨ρ,ev,S,o,S',hE,hS,hf,k⟩:=h;obtain⟨⟨d,S1⟩,q1,hf⟩:=zah hf;cases hf;exact⟨ρ,ev,S,d,_,hE,hS,q1,k⟩
theorem zvz:FS X (.Return none pos) zxr:=xu zu0 fun σ H D h=>by obtain⟨ρ,ev,S,o,S',hE,hS,hf,k⟩:=h;cases hf;exact k .non ρ H (Ext.refl _ _) hS rfl
theorem zb6:FS X st zco:=xu zqv fun σ H D h=>by obtain⟨ρ,ev,S,o,S',hE,hS,hf,k⟩:=h;cases hf
theorem ko(h:FE X e f)(hs:swapsWith e none pos.line X.env=pure false:=by rfl):FS X (.Expr e pos) (zay f):=xu (zni h hs) fun σ H D h=>by obtain⟨ρ,ev,S,o,S',hE,hS,hf,k⟩:=h;obtain⟨⟨d,S1⟩,q1,hf⟩:=zah hf;cases hf;exact⟨ρ,ev,S,d,_,hE,hS,q1,fun v ρ1 H1 E1 hS1 r1=>k σ ρ1 H1 E1 hS1 (hE.mono E1)⟩
theorem zx(i:Nat)(h:FE X e f)(hN:X.N.Nodup)(hi:X.N[i]? = some x:=by rfl)(hx:Loc X.env.scope x:=by first | exact Or.inl rfl | exact Or.inr rfl)(hs:swapsWith e (some (.Name x pos')) pos.line X.env=pure false:=by rfl)
   (hf:X.fn x=true\/X.env.scope.names.lookup x=some .local:=by first | exact .inl rfl | exact .inr rfl | assumption):FS X (.Assign [.Name x pos'] e pos) (qo i f) :=
 xu (zx4 hN hi hx h hs hf) fun σ H D h=>by obtain⟨ρ,ev,S,o,S',hE,hS,hf,k⟩:=h;obtain⟨⟨d,S1⟩,q1,hf⟩:=zah hf;cases hf;exact⟨ρ,ev,S,d,_,hE,hS,q1,fun v ρ1 H1 E1 hS1 r1=>k _ ρ1 H1 E1 hS1 ((hE.mono E1).set r1 i)⟩
inductive Names (X:Cx):List Expr->List Nat->TGs->Prop where
 |nil:Names X [] [] z34
 |cons {i:Nat}{x:Str}{px:Pos}{es:List Expr}{is:List Nat}{t:TGs} (hN:X.N.Nodup) (hi:X.N[i]? = some x) (hx:Loc X.env.scope x) (hf:X.fn x=true\/X.env.scope.names.lookup x=some .local) (h:Names X es is t) (p:PGs X (.Name x px::es) (zrg (zhh i) t)):Names X (.Name x px::es) (i::is) (zrg (zhh i) t)
theorem Names.pgs{es is t}(h:Names X es is t):PGs X es t:=by
 cases h with
 |nil=>exact zu3
 |cons _ _ _ _ _ p=>exact p
theorem zft{K mg ρ H}{es is t}(h:Names X es is t):∀{ds:List D}{vs:List V}{ev ev':Ev}{σ:St}{Q:St->Hp->Prop},RepL K mg ρ H ds vs->EnvR K mg ρ H ev σ->yr ev is ds=some ev'->(∀σ',EnvR K mg ρ H ev' σ'->Q σ' H)->t vs σ H Q:=by
 induction h with
 | nil=>
   intro ds vs ev ev' σ Q r hE e k;cases ds with
   | nil=>
     unfold RepL at r;unfold yr at e;cases e;exact⟨r,k σ hE⟩
   |cons _ _=>unfold yr at e;cases e
 | cons hN hi hx hf _ _ ih=>
   intro ds vs ev ev' σ Q r hE e k;cases ds with
   |nil=>unfold yr at e;cases e
   | cons d ds=>
     unfold RepL at r;obtain⟨v,r',rfl,r1,r2⟩:=r;unfold yr at e;exact⟨v,r',rfl,ih r2 (hE.set r1 _) e k⟩
theorem zbd:∀{is:List Nat}{ds:List D}{ev ev':Ev},yr ev is ds=some ev'->ds.length=is.length
 | [],[],_,_,_=>rfl
 |i::is,d::ds,_,_,h=>by unfold yr at h;rw[List.length_cons,List.length_cons,zbd h]
 | [],_::_,_,_,h=>by unfold yr at h;cases h
 |_::_,[],_,_,h=>by unfold yr at h;cases h
theorem zzx(is:List Nat){es:List Expr}{t:TGs}{k:Nat}{pt:Pos}(hn:Names X es is t)(h:FE X e f)(hc:X.calm=true:=by rfl)(hl:(assignEach es X.env).length=is.length:=by rfl)(hst:(assignEach es X.env).findIdx? (·.1)=none:=by rfl)
   (hs:swapsWithSole [.Tuple es k pt] e pos.line X.env=pure false:=by rfl) (hw:swappedStores [.Tuple es k pt] e X.env=pure none:=by rfl) (h1:(assignEach [.Tuple es k pt] X.env).map (·.2)=[assign (.Tuple es k pt) X.env]:=by rfl) :
   FS X (.Assign [.Tuple es k pt] e pos) (zxp is f):=xu (zx7 h (znn hc hn.pgs hl hst) hs hw h1) fun σ H D h=>by
 obtain⟨ρ,ev,S,o,S',hE,hS,hf,k⟩:=h;obtain⟨⟨d,S1⟩,q1,hf⟩:=zy hf;cases d with
 | tup ds=>
   obtain⟨ev',q2,hf⟩:=zah hf;cases hf;refine⟨ρ,ev,S,_,_,hE,hS,q1,fun v ρ1 H1 E1 hS1 r1=>?_⟩;unfold Rep at r1;obtain⟨p,vs,rfl,t,r⟩:=r1;exact⟨p,vs,rfl,t.sq,by rw[<-r.length];exact zbd q2,zft hn r (hE.mono E1) q2 fun σ' hE'=>k σ' ρ1 H1 E1 hS1 hE'⟩
 |_=>cases hf
theorem qj(hc:FB X e u){sa sb:List Stmt}(ha:FSs X sa a)(hb:FSs X sb b):FS X (.If e sa sb pos) (sIf u a b):=xu (z15 hc ha hb) fun σ H D h=>by
 obtain⟨ρ,ev,S,o,S',hE,hS,hf,k⟩:=h;obtain⟨⟨x,S1⟩,q1,hf⟩:=zy hf;refine⟨ρ,ev,S,x,S1,hE,hS,q1,fun ρ1 H1 E1 hS1=>?_⟩;cases x with
 |true=>exact z05 ⟨ρ1,ev,S1,o,S',hE.mono E1,hS1,hf,k.ext E1⟩
 |false=>exact z06 ⟨ρ1,ev,S1,o,S',hE.mono E1,hS1,hf,k.ext E1⟩
theorem zsz{K mg ρ H}{n:Str}{d:D}{v:V}(r:Rep K mg ρ H d v):∀{fs:List (Str×D)}{vs:List (Str×V)},zw2 K mg ρ H fs vs->zw2 K mg ρ H (zs0 n d fs) (zeq n v vs)
 | [],vs,h=>by
   obtain⟨h1,_⟩:=h;cases vs with
   |nil=>exact⟨rfl,RepL.cons r RepL.nil⟩
   |cons _ _=>cases h1
 | (a,b)::fs,vs,h=>by
   obtain⟨h1,h2⟩:=h;cases vs with
   |nil=>cases h1
   | cons q vs=>
     obtain⟨a',b'⟩:=q;simp only[z5v,z7n]at h1;obtain⟨h3,h4⟩:=h1;subst h3;rw[z5v,z5v]at h2;unfold RepL at h2;obtain⟨u,t,e1,r1,r2⟩:=h2;cases e1;rw[show zs0 n d ((a',b)::fs)=(if a'=n then (a',d)::fs else (a',b)::zs0 n d fs)from rfl,show zeq n v ((a',b')::vs)=(if a'=n then (a',v)::vs else (a',b')::zeq n v vs)from rfl];by_cases hn:a'=n
     · rw[z6a hn,z6a hn];exact⟨by simp[h4],RepL.cons r r2⟩
     · rw[z6i hn,z6i hn];obtain⟨i1,i2⟩:=zsz r (fs:=fs) (vs:=vs) ⟨h4,r2⟩;exact⟨by rw[z5v,z5v,i1],RepL.cons r1 i2⟩
theorem zos(hc:Fld X.K X.mg c n)(ho:FE X o f)(hv:FE X e g)(hs:swapsWith e (some (.Attribute o n pos')) pos.line X.env=pure false:=by rfl):FS X (.Assign [.Attribute o n pos'] e pos) (zk5 c n f g) :=
 xu (zx6 ho hv hs) fun σ H D h=>by
   obtain⟨ρ,ev,S,o,S',hE,hS,hf,k⟩:=h;obtain⟨⟨d,S1⟩,q1,hf⟩:=zy hf;obtain⟨⟨y,S2⟩,q2,hf⟩:=zy hf;obtain⟨⟨i,fs⟩,q3,hf⟩:=zy hf;dsimp only at hf q3;split at hf
   · rename_i hl;cases hf;obtain⟨rfl,hi⟩:=zf2 q3;refine⟨ρ,ev,S,d,S1,hE,hS,q1,fun v ρ1 H1 E1 hS1 r1=>⟨ρ1,ev,S1,_,S2,hE.mono E1,hS1,q2,fun w ρ2 H2 E2 hS2 r2=>?_⟩⟩;obtain⟨b,C,dx,vs,rfl,hb1,hm',hb2,hb3⟩:=zih hS2 hi r2;have e0:=ziz hS2 (.ins C dx (zeq n v vs)) hb1;refine⟨b,C,dx,vs,rfl,hb2,(hc C hm').1,(hc C hm').2,by have:=z68 List.length hb3.1;simp at this;omega,?_⟩;have hf2:zw2 X.K X.mg ρ2 (upd H2 b (.ins C dx (zeq n v vs))) (zs0 n d fs) (zeq n v vs):=zsz ((r1.mono E2).mono e0) ⟨hb3.1,hb3.2.mono e0⟩;exact k σ ρ2 _ ((E1.trans E2).trans e0) (hS2.set hb1 ⟨C,dx,_,hm',qq,hf2⟩) (((hE.mono E1).mono E2).mono e0)
   · cases hf
section
variable {K:zFr}{mg:zMg}{ρ1:List Addr}{H1:Hp}{E:Ends}{S':Sto}{o:Out}{i:Nat}
def zsi(K:zFr)(mg:zMg)(ρ1:List Addr)(H1:Hp)(i:Nat)(body:C)(o:Out)(S':Sto)(ds:List D)(σ:St)(H:Hp):Prop :=
 ∃ρ ev S,Ext ρ1 H1 ρ H/\StOk K mg ρ H S/\EnvR K mg ρ H ev σ/\zbq i body ds ev S=some (o,S')
theorem turn_ok{d:D}{ds:List D}{x:V}{σ:St}{H:Hp}{ρ:List Addr}{ev:Ev}{S:Sto}(k:Post K mg E S' ρ1 H1 o)(e0:Ext ρ1 H1 ρ H)(hS:StOk K mg ρ H S)(hE:EnvR K mg ρ H ev σ)(r:Rep K mg ρ H d x)(hl:zbq i body (d::ds) ev S=some (o,S')) :
   tC K mg body { E with nx:=zsi K mg ρ1 H1 i body o S' ds,ct:=zsi K mg ρ1 H1 i body o S' ds,bk:=E.nx } (σ.set i (some x)) H:=by
 obtain⟨⟨o1,S3⟩,q,hl⟩:=zy hl;refine⟨ρ,ev.set i (some d),S,o1,S3,hE.set r i,hS,q,?_⟩;cases o1 with
 |nx e=>exact fun σ' ρ' H' E' hS' hE'=>⟨ρ',e,S3,e0.trans E',hS',hE',hl⟩
 |ct e=>exact fun σ' ρ' H' E' hS' hE'=>⟨ρ',e,S3,e0.trans E',hS',hE',hl⟩
 |bk e=>cases hl;exact fun σ' ρ' H' E' hS' hE'=>k σ' ρ' H' (e0.trans E') hS' hE'
 |rt y=>cases hl;exact fun v ρ' H' E' hS' r'=>k v ρ' H' (e0.trans E') hS' r'
theorem zpw{σ:St}{H:Hp}(k:Post K mg E S' ρ1 H1 o)(h:zsi K mg ρ1 H1 i body o S' [] σ H):E.nx σ H:=by obtain⟨ρ,ev,S,e0,hS,hE,hl⟩:=h;cases hl;exact k σ ρ H e0 hS hE
end
theorem zjs{K mg}{ρ1:List Addr}{H1:Hp}{E:Ends}{S' S1:Sto}{o:Out}{i n:Nat}{lo:Int}{σ:St}{ev:Ev}(k:Post K mg E S' ρ1 H1 o)(hS1:StOk K mg ρ1 H1 S1)(hE:EnvR K mg ρ1 H1 ev σ)(hf:zbq i body (jm lo n) ev S1=some (o,S')) :
   ∃W:Nat->Nat->St->Hp->Prop,(∃m,W 0 m σ H1)/\∀j m σ H,W j m σ H ->
     ((Itr lo n).stop j H/\E.nx σ H)\/((Itr lo n).go j H/\∃N:St->Hp->Prop,(∀σ' H',N σ' H'->∃m',m'<m/\W (j+1) m' σ' H')/\∀x H',(Itr lo n).yld j H x H'->zhh i x σ H' fun σ2 H2=>tC K mg body { E with nx:=N,ct:=N,bk:=E.nx } σ2 H2):=by
 refine zou (g:=zhh i) (fun j σ' H'=>zsi K mg ρ1 H1 i body o S' ((jm lo n).drop j) σ' H') ⟨ρ1,ev,S1,Ext.refl _ _,hS1,hE,hf⟩ ?_ ?_
 · rintro j σ' H' hj ⟨ρ',ev',S2,e0,hS2,hE2,hl2⟩;have hjl:j<(jm lo n).length:=by unfold jm;simpa using hj
   have ed:(jm lo n).drop j=(jm lo n)[j]::(jm lo n).drop (j+1):=z67 hjl;rw[ed]at hl2;refine turn_ok k e0 hS2 hE2 ?_ hl2;have:(jm lo n)[j]=D.int (lo+(j:Int)):=by simp[jm]
   rw[this];exact rfl
 · intro σ' H' ha;rw[z9d (by unfold jm;simp)]at ha;exact zpw k ha
theorem zor(i:Nat){l:Expr}{px p2 p3:Pos}{sb:List Stmt}(hN:X.N.Nodup)(hm:X.mg "range"=none)(hl:FE X l f)(hb:FSs X sb body)(hp:PassesOwn (model X.prog X.w) X.A X.env X.xe)(hg:Gl X "range":=by rfl)(hc:X.calm=true:=by rfl)(hi:X.N[i]? = some x:=by rfl)(hx:Loc X.env.scope x:=by first | exact Or.inl rfl | exact Or.inr rfl)
   (hf:X.fn x=true\/X.env.scope.names.lookup x=some .local:=by first | exact .inl rfl | exact .inr rfl | assumption) (hst:starEach [l] X.env=[(false,eval l X.env)]:=by exact z8 rfl) (hs:∀v,foldedSetIterable (.Call (.Name "range" p2) [l] [] p3) X.env v=pure v:=by intro _;rfl) :
   FS X (.For (.Name x px) (.Call (.Name "range" p2) [l] [] p3) sb [] pos) (zm6 i f body) :=
 xu (zjw hp hc (znm hg hm (zb hl zd hst) hst) (zfp hN hi hx hf) hb hs) fun σ H D h=>by
   obtain⟨ρ,ev,S,o,S',hE,hS,hf,k⟩:=h;obtain⟨⟨d,S1⟩,q1,hf⟩:=zy hf;cases d with
   | int j=>
     dsimp only at hf;split at hf
     · rename_i hj;refine⟨ρ,ev,S,[.int j],S1,hE,hS,by simp only[aC,aN,q1,Option.bind_some],fun vs ρ1 H1 E1 hS1 r1=>?_⟩;unfold RepL at r1;obtain⟨v,r,rfl,r2,r3⟩:=r1;unfold RepL at r3;subst r3;exact⟨j,by rw[show v=.int j from r2],hj.1,hj.2,zjs (k.ext E1) hS1 (hE.mono E1) hf⟩
     · cases hf
   |_=>cases hf
theorem zri(i:Nat){l l2:Expr}{px p2 p3:Pos}{sb:List Stmt}(hN:X.N.Nodup)(hm:X.mg "range"=none)(hl:FE X l f)(hl2:FE X l2 g)(hb:FSs X sb body)(hp:PassesOwn (model X.prog X.w) X.A X.env X.xe)(hg:Gl X "range":=by rfl)(hc:X.calm=true:=by rfl)(hi:X.N[i]? = some x:=by rfl)(hx:Loc X.env.scope x:=by first | exact Or.inl rfl | exact Or.inr rfl)
   (hf:X.fn x=true\/X.env.scope.names.lookup x=some .local:=by first | exact .inl rfl | exact .inr rfl | assumption) (hst:starEach [l,l2] X.env=[(false,eval l X.env),(false,eval l2 X.env)]:=by rfl) (hst2:starEach [l2] X.env=[(false,eval l2 X.env)]:=by exact z8 rfl) (hs:∀v,foldedSetIterable (.Call (.Name "range" p2) [l,l2] [] p3) X.env v=pure v:=by intro _;rfl) :
   FS X (.For (.Name x px) (.Call (.Name "range" p2) [l,l2] [] p3) sb [] pos) (zg2 i f g body) :=
 xu (zjw hp hc (znl hg hm (zb hl (zb hl2 zd hst2) (by rw[hst,hst2])) hst hst2) (zfp hN hi hx hf) hb hs) fun σ H D h=>by
   obtain⟨ρ,ev,S,o,S',hE,hS,hf,k⟩:=h;obtain⟨⟨d,S1⟩,q1,hf⟩:=zy hf;obtain⟨⟨d2,S2⟩,q2,hf⟩:=zy hf;cases d with
   | int a=>
     cases d2 with
     | int b=>
       dsimp only at hf;split at hf
       · rename_i hj;refine⟨ρ,ev,S,[.int a,.int b],S2,hE,hS,by simp only[aC,aN,q1,q2,Option.bind_some],fun vs ρ1 H1 E1 hS1 r1=>?_⟩;unfold RepL at r1;obtain⟨v,r,rfl,r2,r3⟩:=r1;unfold RepL at r3;obtain⟨w,r,rfl,r4,r5⟩:=r3;unfold RepL at r5;subst r5;exact⟨a,b,by rw[show v=.int a from r2,show w=.int b from r4],hj,zjs (k.ext E1) hS1 (hE.mono E1) hf⟩
       · cases hf
     |_=>cases hf
   |_=>cases hf
end
open PySem.Spec PyProof.Rows
structure FunD (K:zFr) (x qual:Str) (st:Stmt) (f:Addr) (fd:FuncData) (dV:Value):Prop where
 ex:∃(oc:Value) (od:Option Addr) (kV doc pm:Value) (an:Option Addr) (cdv ct:Value) (osl:Array (Option Value)),
   fd=PySem.W.fnOf x qual (za7 st) (jg st) (zj st) dV kV doc pm an cdv ct/\K.lookup f=some ⟨oc,od,.func fd,osl⟩/\PySem.W.codeIn K cdv qual=true
 kp:PySem.W.keepIn K (.ref f)=true
theorem zel{N n c ds S r}(h:qa N n c ds S=some r):ds.length=n:=by
 unfold qa at h;split at h
 · rename_i hl;exact hl
 · cases h
theorem zi9{K mg}{c:C}{N:List Str}{n:Nat}{vs:List V}{H:Hp}{Q:VK}{E:XK}(h:spG K mg (qa N.length n c) vs H Q E):tC K mg c { nx:=fun _ H'=>Q .non H',rt:=Q } (start N vs) H:=by
 obtain⟨ρ,ds,S,d,S',r,hS,hf,k⟩:=h;unfold qa at hf;split at hf
 · split at hf
   · rename_i e S1 hc;cases hf;exact⟨ρ,_,S,_,_,EnvR.start r,hS,hc,fun σ' ρ' H' E' hS' _=>k .non ρ' H' E' hS' rfl⟩
   · rename_i e S1 hc;cases hf;exact⟨ρ,_,S,_,_,EnvR.start r,hS,hc,k⟩
   · cases hf
 · cases hf
theorem FunD.ok{P:Program}{w:World}{K:zFr}{mg:zMg}{base:Heap}{x qual:Str}{st:Stmt}{f:Addr}{fd:FuncData}{dV:Value}{N ps:List Str}{k:Nat}{c:C}(F:FunD K x qual st f fd dV)(S:FnScope N ps (zj st))
   (hbody:∀(cdv:Value) (A:Around) (outer:List Env) (s:Shared) (H:Hp) (E:XK),Room k (A.deeper (envOfC qual (zj st) s.heap.objs.size f cdv)) ->
     FSs (zbl CX0 P w K mg base N qual (zj st) f cdv A outer s H E).nox (jg st) c):FnOk P w K mg base CX0 (k+1) f fd ps (spG K mg (qa N.length ps.length c)):=by
 obtain⟨oc,od,kV,doc,pm,an,cdv,ct,osl,rfl,lk,hcd⟩:=F.ex;refine zrm lk hcd S (fun vs H Q E h=>?_) fun A outer s H vs Q E hr hsp=>?_
 · obtain⟨ρ,ds,S,d,S',r,hS,hf,k⟩:=h;rw[<-r.length];exact zel hf
 · exact⟨_,(hbody cdv A outer s H E hr).nox,zi9 hsp⟩
def zht(cells:zLA):List (Str×NameKind)->zLA->zLA
 | [],acc=>acc
 | (n,k)::r,acc=>zht cells r (if k=.free then (match cells.lookup n with | some c=>(n,c)::acc | none=>acc)else acc)
theorem zdc{cells:zLA}:∀{names:List (Str×NameKind)}{acc:zLA},(∀x c,acc.lookup x=some c->cells.lookup x=some c)->∀x c,(zht cells names acc).lookup x=some c->cells.lookup x=some c
 | [],_,h=>h
 | (n,k)::r,acc,h=>by
   unfold zht;refine zdc (names:=r) ?_;intro x c;split
   · split
     · rename_i c' e;intro q;simp only[List.lookup]at q;split at q
       · rename_i hx;cases q;rw[z7x.mp hx];exact e
       · exact h x c q
     · exact h x c
   · exact h x c
theorem zkp{cells:zLA}{x:Str}:∀{names:List (Str×NameKind)}{acc:zLA},(∃c,acc.lookup x=some c)->∃c,(zht cells names acc).lookup x=some c
 | [],_,h=>h
 | (n,k)::r,acc,h=>by
   unfold zht;refine zkp (names:=r) ?_;split
   · split
     · rename_i c' e;simp only[List.lookup];split
       · exact⟨_,rfl⟩
       · exact h
     · exact h
   · exact h
theorem zge{cells:zLA}{x:Str}(hx:∃c,cells.lookup x=some c):∀{names:List (Str×NameKind)}{acc:zLA},(x,NameKind.free)∈names->∃c,(zht cells names acc).lookup x=some c
 | [],_,h=>by cases h
 | (n,k)::r,acc,h=>by
   unfold zht;rcases z51.mp h with e | h
   · cases e;refine zkp ?_;obtain⟨c,hc⟩:=hx;rw[z6a rfl,hc];exact⟨c,by simp[List.lookup]⟩
   · exact zge hx h
theorem zcd{scope:Scope}{env:Env}(h:∀p∈scope.names,p.2=NameKind.free->∃c,env.cells.lookup p.1=some c):closureFor scope env=pure (zht env.cells scope.names []):=by
 unfold closureFor;generalize scope.names=names at h;have key:∀(names:List (Str×NameKind)) (acc:zLA),(∀p∈names,p.2=NameKind.free->∃c,env.cells.lookup p.1=some c) ->
     (forIn names acc fun(x:Str×NameKind) (cs:zLA)=>(do
       if(x.2==NameKind.free)=true then do
         let a <-cellOf env x.1
         pure (ForInStep.yield ((x.1,a)::cs))
       else pure (ForInStep.yield cs):Sem (ForInStep (zLA))))=pure (zht env.cells names acc):=by
   intro names
   induction names with
   |nil=>intro acc _;rfl
   | cons p r ih=>
     intro acc h;obtain⟨n,k⟩:=p;rw[z8l];unfold zht;by_cases hk:k=.free
     · subst hk;obtain⟨c,hc⟩:=h (n,.free) z5x rfl;have hc':env.cells.lookup n=some c:=hc;simp only[beq_self_eq_true,z7s,cellOf,hc',pure_bind];exact ih _ fun q hq=>h q (z5n _ hq)
     · have hb:(k==NameKind.free)=false:=by simpa using hk
       simp only[hb,z58,z7c,pure_bind,z6i hk];exact ih _ fun q hq=>h q (z5n _ hq)
 have:=key names [] h
 first
   | (simp only[bind_pure];exact this)
   | (rw[show(fun(x:Str×NameKind) (cs:zLA)=>_)=_ from rfl];exact this)
   |exact this
def zh7(ev:Ev)(i:Nat):Option D:=match ev[i]? with
 |some o=>o
 |none=>none
def zgu(σ:L2.St)(i:Nat):Option V:=match σ[i]? with
 |some o=>o
 |none=>none
def ji(X:Cx)(N':List Str)(scope:Scope)(s₀:Shared)(H₀:Hp)(C:Addr)(ex:List Addr):Cx :=
 { X with N:=N',s₀:=s₀,H₀:=H₀,env:=compEnvC scope (zht X.env.cells scope.names []) C X.env,outer:=X.stack,ex:=ex,fn:=fun _=>false,pn:=[],xe:=fun _ _=>False }
section
variable {X:Cx}{pins:zAO}{σ:L2.St}{H:Hp}{s:Shared}{scope:Scope}{x:Str}{N':List Str}{fr:List Nat}
structure CompOk (X:Cx) (scope:Scope) (x:Str) (N':List Str) (fr:List Nat):Prop where
 nd:(x::N').Nodup
 hx:scope.names.lookup x=some .local
 kind:scope.kind=.function
 frn:fr.map (fun j=>X.N[j]?)=N'.map some
 frk:∀y∈N',X.env.kindOf y=some .cell/\(relabel scope X.env).names.lookup y=some .cell
 chk:∀p∈scope.names,p.2≠.cell/\(p.2=.free->X.env.kindOf p.1=some .cell)/\(p.2=.local->scope.names.lookup p.1=some .local)
theorem zee(nd:(x::N').Nodup)(hx:scope.names.lookup x=some .local)(kind:scope.kind=.function)(frn:fr.map (fun j=>X.N[j]?)=N'.map some)
   (frk:(N'.all fun y=>X.env.kindOf y==some NameKind.cell&&(relabel scope X.env).names.lookup y==some NameKind.cell)=true)
   (chk:(scope.names.all fun p=>p.2 != NameKind.cell&&(p.2 != NameKind.free||X.env.kindOf p.1==some NameKind.cell)&&(p.2 != NameKind.local||scope.names.lookup p.1==some NameKind.local))=true):CompOk X scope x N' fr:=by
 refine⟨nd,hx,kind,frn,fun y hy=>?_,fun p hp=>?_⟩
 · have:=z6m.mp frk y hy;simpa using this
 · have:=z6m.mp chk p hp;simp only[z6g,Bool.or_eq_true,bne_iff_ne,z7x]at this;exact⟨this.1.1,fun e=>this.1.2.resolve_left (fun z=>z e),fun e=>this.2.resolve_left (fun z=>z e)⟩
theorem ze5{α:Type}{x:Str}{k:α}:∀{l:List (Str×α)},l.lookup x=some k->(x,k)∈l
 | [],h=>by cases h
 | (n,a)::r,h=>by
   simp only[List.lookup]at h;split at h
   · rename_i e;cases h;rw[z7x.mp e];exact z5x
   · exact z5n _ (ze5 h)
theorem CompOk.free(c:CompOk X scope x N' fr){y:Str}(h:(relabel scope X.env).names.lookup y=some .cell\/(relabel scope X.env).names.lookup y=some .free):(y,NameKind.free)∈scope.names:=by
 have go:∀k,(k=NameKind.cell\/k=.free)->(relabel scope X.env).names.lookup y=some k->(y,NameKind.free)∈scope.names:=by
   intro k hk e;have m:=ze5 e;unfold relabel at m;obtain⟨⟨n,k0⟩,hm,e2⟩:=z7o.mp m;dsimp only at e2;split at e2
   · rename_i hc;cases e2;have:k0=.free:=by rw[z6g,z6g]at hc;simpa using hc.1.1
     subst this;exact hm
   · cases e2;rcases hk with rfl | rfl
     · exact absurd rfl (c.chk _ hm).1
     · exact hm
 rcases h with h | h
 · exact go _ (.inl rfl) h
 · exact go _ (.inr rfl) h
theorem CompOk.start(c:CompOk X scope x N' fr)(I:Inv X pins σ H s){fp:List Addr}(hf:∀b∈fp,zma X pins H b)(hfl:∀b∈fp,b<s.heap.objs.size){C:Addr}(hC:s.heap.objs.size<=C){h1:Heap}{m:zMg}{t':Nat}(hk:∀b o,s.heap.get? b=some o->h1.get? b=some o)(hn:h1.Ns C m) :
   Inv (ji X (x::N') scope s H C fp) [] (none::fr.map (zgu σ)) H { s with heap:=h1,toks:=t' }:=by
 have sub:∀y a,(zht X.env.cells scope.names []).lookup y=some a->X.env.cells.lookup y=some a:=zdc (fun _ _ h=>by cases h);have hfs:∀b∈frs X.stack,H b=none:=I.stkFree;have cellt:∀y a,X.env.cells.lookup y=some a->a<s.heap.objs.size:=fun y a e=>by obtain⟨v,q⟩:=I.cell y a e;exact q.lt
 refine⟨⟨I.ok.mod,c.kind,I.ok.glob,I.ok.blt,hC,fun y z a h1 h2=>I.ok.inj y z a (sub _ _ h1) (sub _ _ h2),fun y hy=>?_,fun y a h=>?_,I.ok.hd,I.ok.frames,.inl rfl,fun b hb=>⟨z53 (z5r (hfl b hb) hC),fun y a e=>(hf b hb).2.2.2.2.1 y a (sub _ _ e)⟩,I.bs,z57 I.ok.bsz I.sz,fun b o e hb=>?_,fun b hb z=>?_,I.stack,hfs⟩,
   rfl,I.bare,Un.kept hk,⟨m,hn,fun i y v e1 e2 e3=>?_⟩,fun y a e=>?_,I.hok.fresh hC,fun y a e=>I.freeC y a (sub _ _ e),fun p hp=>absurd hp (by simp[ji]),I.hok.kept hk,?_⟩
 · exact zge (I.ok.has y (.inl ((c.chk _ (c.free hy)).2.1 rfl))) (c.free hy)
 · cases h
 · have:=(I.bs b o e).1;have z:=hf b hb;rcases z.2.2.2.1 with z | z
   · exact I.ok.noex b o e z
   · have:=(I.ok.bs b o e).1;exact absurd (z5r (z50 this) z) (z7a _)
 · rcases z51.mp (I.stkSub b z)with e | e
   · exact(hf b hb).2.1 e
   · exact(hf b hb).2.2.1 e
 · cases i with
   |zero=>simp at e2
   | succ i=>
     have e1:N'[i]? = some y:=by simpa [ji] using e1
     have e2:(fr.map (zgu σ))[i]? = some (some v):=by simpa using e2
     rw[z6w]at e2;cases ej:fr[i]? with
     |none=>rw[ej]at e2;cases e2
     | some j=>
       rw[ej]at e2;have e2:zgu σ j=some v:=by simpa using e2
       have hv:σ[j]? = some (some v):=by
         unfold zgu at e2;split at e2
         · rename_i o ho;rw[ho,e2]
         · cases e2
       have hN:X.N[j]? = some y:=by have q:=z68 (fun l=>l[i]?) c.frn;simp only[z6w,ej,e1,Option.map_some,Option.some.injEq]at q;exact q
       obtain⟨k1,k2⟩:=c.frk y (z6b e1);obtain⟨mm,_,hl⟩:=I.loc;obtain⟨u,r,l⟩:=hl j y v hN hv (.inr (.inl k1));refine⟨u,r,?_⟩;rcases l with⟨k,_⟩ | ⟨_,a,ha,hcl⟩
       · rw[k1]at k;cases k
       · refine .inr ⟨.inl k2,a,?_,?_⟩
         · obtain⟨a',ha'⟩:=zge (cells:=X.env.cells) (names:=scope.names) (acc:=[]) ⟨a,ha⟩ (c.free (.inl k2));have:=sub _ _ ha';rw[ha]at this;cases this;exact ha'
         · obtain⟨o,ho,hd⟩:=hcl;exact⟨o,hk _ _ ho,hd⟩
 · obtain⟨v,o,ho,hd⟩:=I.cell y a (sub _ _ e);exact⟨v,o,hk _ _ ho,hd⟩
 · have:=z68 List.length c.frn;simp at this;simp[ji,this]
theorem Inv.track{p:Addr}{ys:List V}{its:List Value}{n:Nat}(I:Inv X pins σ H s)(hn:H p=none)(ho:s.heap.get? p=some { cls:=.type "list",data:=.seq its.toArray n })(r:Vals ys its)(hz:ys.length<=sizeLine)
   (h1:p∈X.ex\/X.s₀.heap.objs.size<=p) (hL:p≠X.env.locals) (h2:∀x c,X.env.cells.lookup x=some c->c≠p) (h3:∀q∈X.pn++pins,q.1≠p):Inv X pins σ (upd H p (.lst ys)) s:=by
 refine I.step (g':=s.gens) (d':=s.drawn) (h':=s.heap) (t':=s.toks) (ch:=[p]) (fun b hb=>?_) (fun b o _ _ _ e _=>e) (fun b o _ _ _ e _=>⟨o.slots,e⟩) (fun b o hc e n=>?_) (fun b o _ e=>⟨o,e⟩) (fun b xs e=>?_) (fun b o u e=>?_) (fun b ps e=>⟨#[],?_⟩) (fun _ hm=>hm) (fun b u e=>?_) I.bare
 · rw[z55.mp hb];exact⟨h1,hL,h2,h3⟩
 · rw[qf (fun z=>hc (by simp[z]))];exact n
 · rw[qf (q0 e hn)];exact e
 · rw[qf (q0 e hn)];exact e
 · rw[qf (q0 e hn),e];simp
 · by_cases hb:b=p
   · subst hb;rw[qq]at e;cases e;exact⟨hz,its,n,r,ho⟩
   · rw[qf hb]at e;exact(I.hok b u e).stay (fun _ _ _ q=>q) (fun c q=>by rw[qf (q0 q hn)];exact q) fun c xs q=>by rw[qf (q0 q hn)];exact q
theorem zif{P:Program}{w:World}{H:Hp}{h h':Heap}{c:Addr}(hok:HOk P w H h)(hs:Heap.SameBut c h h')(hn:H c=none):HOk P w H h':=fun b ob e=>by
 refine(hok b ob e).stay (fun d o hd q=>(hs.2 d ?_).trans q) (fun _ q=>q) fun _ _ q=>q;rintro rfl;rcases hd with rfl | hd
 · rw[hn]at e;cases e
 · rw[hn]at hd;cases hd
end
def IB(i:Int):Prop:=i.natAbs<2^4096
instance (i:Int):Decidable (IB i):=inferInstanceAs (Decidable (_<_))
def qu:D->D->Option D
 | .int i,.int j=>some (.int (i+j))
 | .str x,.str y=>if x.length+y.length<=sizeLine then some (.str (x++y))else none
 | .lst a,.lst b=>if a.length+b.length<=sizeLine then some (.lst (a++b))else none
 | .tup a,.tup b=>if a.length+b.length<=sizeLine then some (.tup (a++b))else none
 |_,_=>none
def opI(g:Int->Int->Option Int):D->D->Option D
 | .int i,.int j=>(g i j).map D.int
 |_,_=>none
def zq4(g:Int->Int->Bool):D->D->Option D
 | .int i,.int j=>some (.bl (g i j))
 |_,_=>none
def z02(i j:Int):Option Int:=if(-(2^64)<i/\i<2^64)\/(-(2^64)<j/\j<2^64)\/(IB i/\IB j)then some (i*j)else none
def z3a(i j:Int):Option Int:=if 0<j/\j<1073741824 then some (i/j)else none
def z2g(i j:Int):Option Int:=if 0<j then some (i%j)else none
def zs1(i j:Int):Option Int:=if 0<=j/\j<=1000000/\i.natAbs<2^64 then some (i^j.toNat)else none
def yp:D->D->Option D:=opI fun i j=>some (i-j)
def zak:D->D->Option D:=opI z02
def zbj:D->D->Option D:=opI z3a
def q9:D->D->Option D:=opI z2g
def zdl:D->D->Option D:=opI zs1
def zg8:D->D->Option D:=zq4 fun i j=>decide (i<j)
def zeu:D->D->Option D:=zq4 fun i j=>decide (i<=j)
def zim:D->D->Option D:=zq4 fun i j=>decide (j<i)
def zta:D->D->Option D:=zq4 fun i j=>decide (j<=i)
def zof:D->Bool
 | .non=>true
 |_=>false
def zdm:D->D->Option D
 |d,.non=>some (.bl (zof d))
 | .bl a,.bl b=>some (.bl (a==b))
 |_,_=>none
def yd:D->D->Option D
 |d,.non=>some (.bl (!zof d))
 | .bl a,.bl b=>some (.bl (a != b))
 |_,_=>none
def qb(S:Sto):D->D->Option D
 | .lst ds,.int i=>atI ds i
 | .tup ds,.int i=>atI ds i
 | .str z,.int i=>if z.length<=sizeLine then (atI z.cps.toList i).map fun c=>.str ⟨#[c]⟩else none
 | .obj a,.int i=>(match S[a]? with
   |some (.lst ds)=>atI ds i
   |_=>none)
 |_,_=>none
section
variable {X:Cx}{K:zFr}{mg:zMg}
theorem Rep.refI{ρ H i v}(h:Rep K mg ρ H (.int i) v):v=.int i:=h
theorem Rep.refS{ρ H i v}(h:Rep K mg ρ H (.str i) v):v=.str i:=h
theorem Rep.refT{ρ H ds v}(h:Rep K mg ρ H (.tup ds) v):∃p vs,v=.ref p/\TupAt K ρ H p vs/\RepL K mg ρ H ds vs:=by unfold Rep at h;exact h
theorem Rep.refL{ρ H ds v}(h:Rep K mg ρ H (.lst ds) v):∃p vs,v=.ref p/\LstAt K ρ H p vs/\RepL K mg ρ H ds vs:=by unfold Rep at h;exact h
def zxy(K:zFr):R2:=fun x y H Q=>∃l b xs zs,x=.ref l/\y=.ref b/\SqL K H l xs/\SqL K H b zs/\xs.length+zs.length<=sizeLine/\∀p,H p=none->Q (.ref p) (upd H p (.lst (xs++zs)))
theorem op_catL:OpR X (binaryOp .Add) (zxy X.K):=by
 intro pins s σ H x y v u Q I rx ry h;obtain⟨l,b,xs,zs,rfl,rfl,hH,hB,hz,q⟩:=h;cases rx;cases ry;obtain⟨its,r,pl,_⟩:=I.list hH;obtain⟨its2,r2,pl2,_⟩:=I.list hB;obtain⟨⟨cls,dd,data,sl⟩,ho,hc,n,hd⟩:=pl.isList;obtain⟨⟨cls2,dd2,data2,sl2⟩,ho2,hc2,n2,hd2⟩:=pl2.isList;simp only at hc hd hc2 hd2;subst hc hd hc2 hd2;have e:its.toArray++its2.toArray=(its++its2).toArray:=by simp
 have h1:=r.length;have h2:=r2.length;refine qac ⟨_,ho,rfl⟩ ⟨_,ho2,rfl⟩ noFill_list_add seq_list_add PySem.F.slot_list_add PySem.F.entry_list_add (PySem.F.args_list_add_2 _ _) (list_addW l b its.toArray its2.toArray n n2 dd dd2 sl sl2 (by simp only[z5t];omega)) ⟨ho,ho2,?_⟩;rw[e];exact⟨.ref _,_,I.lnew (t':=s.toks) (r.append r2) (by rw[z5l];omega),rfl,q _ I.fresh⟩
def zsy(K:zFr):R2:=fun x y H Q=>∃a b ys,x=.ref a/\y=.ref b/\SqT K H a []/\SqT K H b ys/\Q (.ref b) H
theorem zq3:OpR X (binaryOp .Add) (zsy X.K):=by
 intro pins s σ H x y v u Q I rx ry h;obtain⟨a,b,ys,rfl,rfl,ha,hb,q⟩:=h;cases rx;cases ry;obtain⟨its,r1,p1,_⟩:=I.tuple ha;obtain⟨its2,r2,p2,_⟩:=I.tuple hb;cases r1;obtain⟨⟨cls,dd,data,sl⟩,ho,hc,n,hd⟩:=id p1;obtain⟨⟨cls2,dd2,data2,sl2⟩,ho2,hc2,n2,hd2⟩:=id p2;simp only at hc hd hc2 hd2;subst hc hd hc2 hd2;exact qac ⟨_,ho,rfl⟩ ⟨_,ho2,rfl⟩ noFill_tuple_add seq_tuple_add z9b z82 (z8y _ _)
   (tuple_addW0 a b _ _ n n2 dd dd2 sl sl2 rfl) ⟨ho,ho2,⟨.ref b,H,I,rfl,q⟩⟩
theorem zuo:zh6 K mg (fun x y H Q=>rI0 (fun i j=>.int (i+j)) x y H Q\/(∃i j,x=.str i/\y=.str j/\i.length+j.length<=sizeLine/\Q (.str (i++j)) H)\/zxy K x y H Q\/zxx K x y H Q\/zsy K x y H Q) (fun _=>qu):=by
 intro ρ H S x y dx dy d Q hS rx ry e k;replace e:qu dx dy=some d:=e;unfold qu at e;split at e
 · rename_i i j;cases e;rw[rx.refI,ry.refI];exact .inl ⟨i,j,rfl,rfl,k _ H (Ext.refl _ _) hS rfl⟩
 · rename_i i j;split at e
   · rename_i hl;cases e;rw[rx.refS,ry.refS];exact .inr (.inl ⟨i,j,rfl,rfl,hl,k _ H (Ext.refl _ _) hS rfl⟩)
   · cases e
 · rename_i a b;split at e
   · rename_i hl;cases e;obtain⟨p,vs,rfl,t1,r1⟩:=rx.refL;obtain⟨q,us,rfl,t2,r2⟩:=ry.refL;refine .inr (.inr (.inl ⟨p,q,vs,us,rfl,rfl,t1.sq,t2.sq,by rw[<-r1.length,<-r2.length];exact hl,fun z hz=>?_⟩));exact k _ _ (jo hS _ hz) (hS.new _ hz) (Rep.lst (s:=hS) hz (r1.append r2))
   · cases e
 · rename_i a b;split at e
   · rename_i hl;cases e;obtain⟨p,vs,rfl,t1,r1⟩:=rx.refT;obtain⟨q,us,rfl,t2,r2⟩:=ry.refT;cases a with
     | nil=>
       have:=r1.length;cases vs with
       |nil=>exact .inr (.inr (.inr (.inr ⟨p,q,us,rfl,rfl,t1.sq,t2.sq,k _ H (Ext.refl _ _) hS ry⟩)))
       |cons _ _=>simp at this
     | cons a0 a=>
       refine .inr (.inr (.inr (.inl ⟨p,q,vs,us,rfl,rfl,t1.sq,t2.sq,?_,by rw[<-r1.length,<-r2.length];exact hl,fun z=>?_,fun z w hw=>?_⟩)))
       · intro z;have:=r1.length;subst z;simp at this
       · have:=r2.length;subst z;cases b with
         |nil=>rw[z6f]at k;exact k _ H (Ext.refl _ _) hS rx
         |cons _ _=>simp at this
       · exact k _ _ (jo hS _ hw) (hS.new _ hw) (Rep.tup (s:=hS) hw (r1.append r2))
   · cases e
 · cases e
theorem qx{a b:Expr}{f g:E}{pos:Pos}(ha:FE X a f)(hb:FE X b g):FE X (.BinOp a .Add b pos) (e2 qu f g) :=
 zfc (op_add.or (op_add_str.or (op_catL.or (op_catT.or zq3)))) zuo ha hb
theorem zqh{C:Int->Int->Prop}{gV:Int->Int->Int}{g:Int->Int->Option Int}(h:∀i j z,g i j=some z->C i j/\z=gV i j):zh6 K mg (rI C fun i j=>.int (gV i j)) (fun _=>opI g):=by
 intro ρ H S x y dx dy d Q hS rx ry e k;replace e:opI g dx dy=some d:=e;unfold opI at e;split at e
 · rename_i i j;obtain⟨z,e1,e⟩:=zah e;cases e;obtain⟨hc,rfl⟩:=h i j z e1;rw[rx.refI,ry.refI];exact⟨i,j,rfl,rfl,hc,k _ H (Ext.refl _ _) hS rfl⟩
 · cases e
theorem zxh{gV:Int->Int->Int}:zh6 K mg (rI0 fun i j=>.int (gV i j)) (fun _=>opI fun i j=>some (gV i j)):=by
 intro ρ H S x y dx dy d Q hS rx ry e k;replace e:opI _ dx dy=some d:=e;unfold opI at e;split at e
 · rename_i i j;cases e;rw[rx.refI,ry.refI];exact⟨i,j,rfl,rfl,k _ H (Ext.refl _ _) hS rfl⟩
 · cases e
theorem zax{g:Int->Int->Bool}:zh6 K mg (rI0 fun i j=>.bl (g i j)) (fun _=>zq4 g):=by
 intro ρ H S x y dx dy d Q hS rx ry e k;replace e:zq4 g dx dy=some d:=e;unfold zq4 at e;split at e
 · rename_i i j;cases e;rw[rx.refI,ry.refI];exact⟨i,j,rfl,rfl,k _ H (Ext.refl _ _) hS rfl⟩
 · cases e
variable {a b:Expr}{f g:E}{pos:Pos}
theorem kj(ha:FE X a f)(hb:FE X b g):FE X (.BinOp a .Sub b pos) (e2 yp f g):=zfc zyl zxh ha hb
theorem zpq{i:Int}(h:IB i):Builtin.Int.intBits i<=2^20:=by
 unfold IB at h;unfold Builtin.Int.intBits;have:i.natAbs.log2<4096:=by
   by_cases h0:i.natAbs=0
   · rw[h0];decide
   · exact(Nat.log2_lt h0).mpr h
 split<;>omega
theorem zu9:OpR X (binaryOp .Mult) (rI (fun i j=>CMul i j\/(IB i/\IB j)) fun i j=>.int (i*j)) :=
 L2.opI fun i j _ _ _ _ _ hc q=>mul_int q (by
   rcases hc with hc | ⟨h1,h2⟩
   · exact hc.ok
   · exact IntMulOk.of_bits (zpq h1) (zpq h2))
theorem zb8(ha:FE X a f)(hb:FE X b g):FE X (.BinOp a .Mult b pos) (e2 zak f g):=zfc zu9 (zqh fun i j z e=>by
 unfold z02 at e;split at e
 · rename_i h;cases e;refine⟨?_,rfl⟩;rcases h with h | h | h
   · exact .inl (.inl h)
   · exact .inl (.inr h)
   · exact .inr h
 · cases e) ha hb
theorem zcs(ha:FE X a f)(hb:FE X b g):FE X (.BinOp a .FloorDiv b pos) (e2 zbj f g):=zfc zva (zqh fun i j z e=>by
 unfold z3a at e;split at e
 · rename_i h;cases e;exact⟨h,rfl⟩
 · cases e) ha hb
theorem jw(ha:FE X a f)(hb:FE X b g):FE X (.BinOp a .Mod b pos) (e2 q9 f g):=zfc zyo (zqh fun i j z e=>by
 unfold z2g at e;split at e
 · rename_i h;cases e;exact⟨h,rfl⟩
 · cases e) ha hb
theorem zkc(ha:FE X a f)(hb:FE X b g):FE X (.BinOp a .Pow b pos) (e2 zdl f g):=zfc zym (zqh fun i j z e=>by
 unfold zs1 at e;split at e
 · rename_i h;cases e;exact⟨h,rfl⟩
 · cases e) ha hb
theorem z22(ha:FE X a f)(hb:FE X b g)(hm:behindInMarks .Lt b=false:=by exact zaq _):FE X (.Compare a [.Lt] [b] pos) (e2 zg8 f g):=zhk zq2 zax ha hb hm
theorem z23(ha:FE X a f)(hb:FE X b g)(hm:behindInMarks .LtE b=false:=by exact zaq _):FE X (.Compare a [.LtE] [b] pos) (e2 zeu f g):=zhk zld zax ha hb hm
theorem zo2(ha:FE X a f)(hb:FE X b g)(hm:behindInMarks .Lt b=false:=by exact zaq _):FB X (.Compare a [.Lt] [b] pos) (bE (e2 zg8 f g)):=zb9 zq2 zax ha hb hm
theorem zz7(ha:FE X a f)(hb:FE X b g)(hm:behindInMarks .LtE b=false:=by exact zaq _):FB X (.Compare a [.LtE] [b] pos) (bE (e2 zeu f g)):=zb9 zld zax ha hb hm
theorem ziy(ha:FE X a f)(hb:FE X b g)(hm:behindInMarks .Gt b=false:=by exact zaq _):FB X (.Compare a [.Gt] [b] pos) (bE (e2 zim f g)):=zb9 z2d zax ha hb hm
theorem zz8(ha:FE X a f)(hb:FE X b g)(hm:behindInMarks .GtE b=false:=by exact zaq _):FB X (.Compare a [.GtE] [b] pos) (bE (e2 zta f g)):=zb9 z2e zax ha hb hm
theorem zj8{ρ H d v}(h:Rep K mg ρ H d v):zof d=decide (v=.non):=by
 cases d with
 |non=>rw[show v=.non from h];rfl
 |bl b=>rw[show v=.bl b from h];rfl
 |int b=>rw[show v=.int b from h];rfl
 |str b=>rw[show v=.str b from h];rfl
 |fn x=>unfold Rep at h;obtain⟨p,rfl,_⟩:=h;rfl
 |ty b=>rw[show v=.ty b from h];rfl
 |tup x=>obtain⟨p,_,rfl,_⟩:=h.refT;rfl
 |lst x=>obtain⟨p,_,rfl,_⟩:=h.refL;rfl
 |obj x=>unfold Rep at h;obtain⟨p,rfl,_⟩:=h;rfl
 |lam x=>unfold Rep at h;obtain⟨p,rfl,_⟩:=h;rfl
 |clo x y=>unfold Rep at h;obtain⟨p,_,rfl,_⟩:=h;rfl
theorem zyq:OpR X (compareOp .Is) (fun x y H Q=>∃i j,x=.bl i/\y=.bl j/\Q (.bl (i==j)) H):=by intro pins s σ H x y v u Q I rx ry h;obtain⟨i,j,rfl,rfl,q⟩:=h;cases rx;cases ry;exact is_bool ⟨.bl _,H,I,rfl,q⟩
theorem znt:OpR X (compareOp .IsNot) (fun x y H Q=>∃i j,x=.bl i/\y=.bl j/\Q (.bl (i != j)) H):=by intro pins s σ H x y v u Q I rx ry h;obtain⟨i,j,rfl,rfl,q⟩:=h;cases rx;cases ry;exact isnot_bool ⟨.bl _,H,I,rfl,q⟩
theorem zxg:zh6 K mg (fun x y H Q=>(y=.non/\Q (.bl (decide (x=.non))) H)\/(∃i j,x=.bl i/\y=.bl j/\Q (.bl (i==j)) H)) (fun _=>zdm):=by
 intro ρ H S x y dx dy d Q hS rx ry e k;replace e:zdm dx dy=some d:=e;unfold zdm at e;split at e
 · cases e;rw[zj8 rx]at k;exact .inl ⟨ry,k _ H (Ext.refl _ _) hS rfl⟩
 · rename_i i j _;cases e;exact .inr ⟨_,_,rx,ry,k _ H (Ext.refl _ _) hS rfl⟩
 · cases e
theorem zmx:zh6 K mg (fun x y H Q=>(y=.non/\Q (.bl (!decide (x=.non))) H)\/(∃i j,x=.bl i/\y=.bl j/\Q (.bl (i != j)) H)) (fun _=>yd):=by
 intro ρ H S x y dx dy d Q hS rx ry e k;replace e:yd dx dy=some d:=e;unfold yd at e;split at e
 · cases e;rw[zj8 rx]at k;exact .inl ⟨ry,k _ H (Ext.refl _ _) hS rfl⟩
 · rename_i i j _;cases e;exact .inr ⟨_,_,rx,ry,k _ H (Ext.refl _ _) hS rfl⟩
 · cases e
theorem zcl(ha:FE X a f)(hb:FE X b g)(hm:behindInMarks .Is b=false:=by exact zaq _):FB X (.Compare a [.Is] [b] pos) (bE (e2 zdm f g)):=zb9 (op_isN.or zyq) zxg ha hb hm
theorem zc9(ha:FE X a f)(hb:FE X b g)(hm:behindInMarks .IsNot b=false:=by exact zaq _):FB X (.Compare a [.IsNot] [b] pos) (bE (e2 yd f g)):=zb9 (op_notN.or znt) zmx ha hb hm
theorem zjb{ρ H ds vs i d}(r:RepL K mg ρ H ds vs)(h:atI ds i=some d):∃v,atI vs i=some v/\Rep K mg ρ H d v:=by unfold atI at h ⊢;rw[<-r.length];obtain⟨j,h1,h2⟩:=zy h;rw[h1];exact r.get h2
theorem zxf:zh6 K mg (rIx K) qb:=by
 intro ρ H S x y dx dy d Q hS rx ry e k;unfold qb at e;split at e
 · rename_i ds i;obtain⟨p,vs,rfl,t,r⟩:=rx.refL;obtain⟨v,h1,h2⟩:=zjb r e;exact .inl ⟨p,vs,i,v,rfl,ry.refI,t.sq,h1,k _ H (Ext.refl _ _) hS h2⟩
 · rename_i ds i;obtain⟨p,vs,rfl,t,r⟩:=rx.refT;obtain⟨v,h1,h2⟩:=zjb r e;exact .inr (.inl ⟨p,vs,i,v,rfl,ry.refI,t.sq,h1,k _ H (Ext.refl _ _) hS h2⟩)
 · rename_i z i;split at e
   · rename_i hz;obtain⟨c,h1,e⟩:=zah e;cases e;exact .inr (.inr ⟨z,i,c,rx.refS,ry.refI,hz,h1,k _ H (Ext.refl _ _) hS rfl⟩)
   · cases e
 · rename_i o i;split at e
   · rename_i ds hd;unfold Rep at rx;obtain⟨p,rfl,hp⟩:=rx;obtain⟨vs,h1,r⟩:=hS.ob o _ p hd hp;obtain⟨v,h3,h2⟩:=zjb r e;exact .inl ⟨p,vs,i,v,rfl,ry.refI,SqL.of h1,h3,k _ H (Ext.refl _ _) hS h2⟩
   · cases e
 · cases e
theorem zu(ha:FE X a f)(hb:FE X b g)(hs:zpz b:=by exact fun _ _=>rfl):FE X (.Subscript a b pos) (e2s qb f g):=jn (z18 zzj ha hb hs) fun _ _ _ h=>t2 zxf h
end
def eqL(f:D->D->Option Bool):List D->List D->Option Bool
 |x::xs,y::ys=>(f x y).bind fun c=>(eqL f xs ys).map fun r=>c&&r
 | [],[]=>some true
 |_,_=>some false
def zcz:D->Option V
 | .non=>some .non
 | .bl b=>some (.bl b)
 | .int i=>some (.int i)
 | .str x=>some (.str x)
 |_=>none
def eqF(a b:D):Option Bool:=match zcz a,zcz b with
 |some x,some y=>some (eqV x y)
 |_,_=>none
def zoe:D->Bool
 | .tup _=>true
 | .lst _=>true
 |_=>false
def eqN:Nat->D->D->Option Bool
 |0,a,b=>eqF a b
 | n+1,a,b=>match a,b with
   | .tup xs,.tup ys=>eqL (eqN n) xs ys
   | .lst xs,.lst ys=>if xs.length=ys.length then eqL (eqN n) xs ys else some false
   | .tup _,.lst _=>some false
   | .lst _,.tup _=>some false
   | a,b=>if zoe a=true then (if(zcz b).isSome=true then some false else none)
     else if zoe b=true then (if(zcz a).isSome=true then some false else none)
     else eqF a b
theorem zdb{a b:D}{k:Bool}(h:eqF a b=some k):∃x y,zcz a=some x/\zcz b=some y/\k=eqV x y:=by
 unfold eqF at h;split at h
 · rename_i x y e1 e2;exact⟨x,y,e1,e2,(z6j h).symm⟩
 · cases h
section
variable {X:Cx}{pins:zAO}{σ:L2.St}{H:Hp}{s:Shared}{ρ:List Addr}{mg:zMg}
theorem jz{K}{d:D}{x v:V}(e:zcz d=some x)(r:Rep K mg ρ H d v):v=x/\zb7 x=true:=by
 cases d with
 |non=>cases e;exact⟨r,rfl⟩
 |bl b=>cases e;exact⟨r,rfl⟩
 |int i=>cases e;exact⟨r,rfl⟩
 |str i=>cases e;exact⟨r,rfl⟩
 |_=>cases e
theorem zo8{f:D->D->Option Bool}:∀{xs ys:List D}{k:Bool},eqL f xs ys=some k->xs.length≠ys.length->k=false
 | [],[],_,_,h=>absurd rfl h
 | [],_::_,_,h,_=>by cases h;rfl
 |_::_,[],_,h,_=>by cases h;rfl
 | x::xs,y::ys,k,h,n=>by obtain⟨c,_,h⟩:=zy h;obtain⟨r,h2,h⟩:=zah h;have:=zo8 h2 (fun z=>n (by simp[z]));subst this h;simp
theorem zts{f:D->D->Option Bool}:∀{xs ys:List D}{k:Bool},eqL f xs ys=some k->∀(j:Nat) (x y:D),xs[j]? = some x->ys[j]? = some y->∃c,f x y=some c
 | x::xs,y::ys,k,h,0,_,_,e1,e2=>by obtain⟨c,h1,h⟩:=zy h;simp at e1 e2;subst e1 e2;exact⟨c,h1⟩
 | x::xs,y::ys,k,h,j+1,_,_,e1,e2=>by obtain⟨c,h1,h⟩:=zy h;obtain⟨r,h2,h⟩:=zah h;exact zts h2 j _ _ (by simpa using e1) (by simpa using e2)
 | [],_,_,_,_,_,_,e1,_=>by simp at e1
 |_::_,[],_,_,_,_,_,_,e2=>by simp at e2
def zme(f:D->D->Option Bool)(xs ys:List D)(j:Nat):Bool:=match xs[j]?,ys[j]? with
 |some x,some y=>(f x y).getD false
 |_,_=>false
theorem zi0{f:D->D->Option Bool}:∀{xs ys:List D}{k:Bool},eqL f xs ys=some k->xs.length=ys.length->k=(List.range xs.length).all (zme f xs ys)
 | [],[],_,h,_=>by cases h;rfl
 | x::xs,y::ys,k,h,e=>by
   obtain⟨c,h1,h⟩:=zy h;obtain⟨r,h2,h⟩:=zah h;subst h;have ih:=zi0 h2 (by simpa using e);rw[List.length_cons,List.range_succ_eq_map,List.all_cons,List.all_map];have e0:zme f (x::xs) (y::ys) 0=c:=by simp[zme,h1]
   have e1:((zme f (x::xs) (y::ys))∘Nat.succ)=zme f xs ys:=by funext j;simp[zme]
   rw[e0,e1,<-ih]
 | [],_::_,_,_,e=>by simp at e
 |_::_,[],_,_,e=>by simp at e
theorem zru{f:D->D->Option Bool}{xs ys:List D}{k:Bool}(h:eqL f xs ys=some k):k=((List.range (min xs.length ys.length)).all (zme f xs ys)&&xs.length==ys.length):=by
 by_cases e:xs.length=ys.length
 · rw[zi0 h e,e];simp
 · rw[zo8 h e];have:(xs.length==ys.length)=false:=by simpa using e
   rw[this];simp
theorem zwb:∀(n:Nat) {d1 d2:D}{v:V}{k:Bool},Inv X pins σ H s->eqN n d1 d2=some k->Rep X.K mg ρ H d1 v->Rep X.K mg ρ H d2 v->k=true:=by
 intro n
 induction n with
 | zero=>
   intro d1 d2 v k I h r1 r2;obtain⟨x,y,e1,e2,rfl⟩:=zdb h;obtain⟨rfl,f1⟩:=jz e1 r1;obtain⟨rfl,f2⟩:=jz e2 r2;cases v<;>first | (cases f1;done) | (simp[eqV];done)
 | succ n ih=>
   intro d1 d2 v k I h r1 r2;have lst:∀{xs ys:List D}{vs:List V}{k:Bool},eqL (eqN n) xs ys=some k->RepL X.K mg ρ H xs vs->RepL X.K mg ρ H ys vs->k=true:=by
     intro xs
     induction xs with
     | nil=>
       intro ys vs k h q1 q2;have l1:=q1.length;have l2:=q2.length;cases ys with
       |nil=>cases h;rfl
       |cons _ _=>rw[<-l1]at l2;simp at l2
     | cons x xs ihx=>
       intro ys vs k h q1 q2;cases ys with
       | nil=>
         have l1:=q1.length;have l2:=q2.length;rw[<-l2]at l1;simp at l1
       | cons y ys=>
         obtain⟨c,h1,h⟩:=zy h;obtain⟨r,h2,h⟩:=zah h;unfold RepL at q1 q2;obtain⟨v1,r1,rfl,a1,b1⟩:=q1;obtain⟨v2,r2,e,a2,b2⟩:=q2;cases e;rw[<-h,ih I h1 a1 a2,ihx h2 b1 b2];rfl
   unfold eqN at h;split at h
   · rename_i xs ys;obtain⟨p,vs,rfl,t1,q1⟩:=r1.refT;obtain⟨p',vs',e,t2,q2⟩:=r2.refT;cases e;have:=I.tuple_inj t1.sq t2.sq;subst this;exact lst h q1 q2
   · rename_i xs ys;obtain⟨p,vs,rfl,t1,q1⟩:=r1.refL;obtain⟨p',vs',e,t2,q2⟩:=r2.refL;cases e;have:=I.list_inj t1.sq t2.sq;subst this;rw[z6a (by rw[q1.length,q2.length])]at h;exact lst h q1 q2
   · rename_i xs ys;obtain⟨p,vs,rfl,t1,q1⟩:=r1.refT;obtain⟨p',vs',e,t2,q2⟩:=r2.refL;cases e;obtain⟨_,_,⟨o,e1,c1,_⟩,_⟩:=I.tuple t1.sq;obtain⟨_,_,⟨o',_,e2,c2,_⟩,_⟩:=I.list t2.sq;rw[e1]at e2;cases e2;rw[c1]at c2;exact absurd (Value.type.inj c2) (by decide)
   · rename_i xs ys;obtain⟨p,vs,rfl,t1,q1⟩:=r1.refL;obtain⟨p',vs',e,t2,q2⟩:=r2.refT;cases e;obtain⟨_,_,⟨o,e1,c1,_⟩,_⟩:=I.tuple t2.sq;obtain⟨_,_,⟨o',_,e2,c2,_⟩,_⟩:=I.list t1.sq;rw[e1]at e2;cases e2;rw[c1]at c2;exact absurd (Value.type.inj c2) (by decide)
   · split at h
     · rename_i hs;split at h
       · rename_i hb;obtain⟨y,ey⟩:=z7r.mp hb;obtain⟨rfl,f2⟩:=jz ey r2;cases d1 with
         |tup _=>obtain⟨p,_,rfl,_⟩:=r1.refT;cases f2
         |lst _=>obtain⟨p,_,rfl,_⟩:=r1.refL;cases f2
         |_=>cases hs
       · cases h
     · split at h
       · rename_i hs;split at h
         · rename_i hb;obtain⟨y,ey⟩:=z7r.mp hb;obtain⟨rfl,f2⟩:=jz ey r1;cases d2 with
           |tup _=>obtain⟨p,_,rfl,_⟩:=r2.refT;cases f2
           |lst _=>obtain⟨p,_,rfl,_⟩:=r2.refL;cases f2
           |_=>cases hs
         · cases h
       · obtain⟨x,y,e1,e2,rfl⟩:=zdb h;obtain⟨rfl,f1⟩:=jz e1 r1;obtain⟨rfl,f2⟩:=jz e2 r2;cases v<;>first | (cases f1;done) | (simp[eqV];done)
theorem znb{A:Around}{x y:V}{u w:Value}(ru:RelV x u)(rw':RelV y w)(fx:zb7 x=true)(fy:zb7 y=true):SeqAt.RcAt A s u w (eqV x y):=by
 cases x with
 | non=>
   cases ru;cases y with
   |non=>cases rw';exact SeqAt.RcAt.none_none
   |bl b=>cases rw';exact SeqAt.RcAt.none_bool b
   |int b=>obtain⟨t,rfl⟩:=rw';exact SeqAt.RcAt.none_int b t
   |str b=>obtain⟨t,rfl⟩:=rw';exact SeqAt.RcAt.none_str b t
   |_=>cases fy
 | bl a=>
   cases ru;cases y with
   |non=>cases rw';exact SeqAt.RcAt.bool_none a
   |bl b=>cases rw';exact SeqAt.RcAt.bool_bool a b
   |int b=>obtain⟨t,rfl⟩:=rw';exact SeqAt.RcAt.bool_int a b t
   |str b=>obtain⟨t,rfl⟩:=rw';exact SeqAt.RcAt.bool_str a b t
   |_=>cases fy
 | int a=>
   obtain⟨t',rfl⟩:=ru;cases y with
   |non=>cases rw';exact SeqAt.RcAt.int_none a t'
   |bl b=>cases rw';exact SeqAt.RcAt.int_bool a t' b
   |int b=>obtain⟨t,rfl⟩:=rw';exact SeqAt.RcAt.int_int a t' b t
   |str b=>obtain⟨t,rfl⟩:=rw';exact SeqAt.RcAt.int_str a t' b t
   |_=>cases fy
 | str a=>
   obtain⟨t',rfl⟩:=ru;cases y with
   |non=>cases rw';exact SeqAt.RcAt.str_none a t'
   |bl b=>cases rw';exact SeqAt.RcAt.str_bool a t' b
   |int b=>obtain⟨t,rfl⟩:=rw';exact SeqAt.RcAt.str_int a t' b t
   |str b=>obtain⟨t,rfl⟩:=rw';exact SeqAt.RcAt.str_str a t' b t
   |_=>cases fy
 |_=>cases fx
theorem zg5{A:Around}{x y:V}{u w:Value}(ru:RelV x u)(rw':RelV y w)(fx:zb7 x=true)(fy:zb7 y=true):SeqAt.RcNeAt A s u w (!eqV x y):=by
 cases x with
 | non=>
   cases ru;cases y with
   |non=>cases rw';exact SeqAt.RcNeAt.none_none
   |bl b=>cases rw';exact SeqAt.RcNeAt.none_bool b
   |int b=>obtain⟨t,rfl⟩:=rw';exact SeqAt.RcNeAt.none_int b t
   |str b=>obtain⟨t,rfl⟩:=rw';exact SeqAt.RcNeAt.none_str b t
   |_=>cases fy
 | bl a=>
   cases ru;cases y with
   |non=>cases rw';exact SeqAt.RcNeAt.bool_none a
   |bl b=>cases rw';exact SeqAt.RcNeAt.bool_bool a b
   |int b=>obtain⟨t,rfl⟩:=rw';exact SeqAt.RcNeAt.bool_int a b t
   |str b=>obtain⟨t,rfl⟩:=rw';exact SeqAt.RcNeAt.bool_str a b t
   |_=>cases fy
 | int a=>
   obtain⟨t',rfl⟩:=ru;cases y with
   |non=>cases rw';exact SeqAt.RcNeAt.int_none a t'
   |bl b=>cases rw';exact SeqAt.RcNeAt.int_bool a t' b
   |int b=>obtain⟨t,rfl⟩:=rw';exact SeqAt.RcNeAt.int_int a t' b t
   |str b=>obtain⟨t,rfl⟩:=rw';exact SeqAt.RcNeAt.int_str a t' b t
   |_=>cases fy
 | str a=>
   obtain⟨t',rfl⟩:=ru;cases y with
   |non=>cases rw';exact SeqAt.RcNeAt.str_none a t'
   |bl b=>cases rw';exact SeqAt.RcNeAt.str_bool a t' b
   |int b=>obtain⟨t,rfl⟩:=rw';exact SeqAt.RcNeAt.str_int a t' b t
   |str b=>obtain⟨t,rfl⟩:=rw';exact SeqAt.RcNeAt.str_str a t' b t
   |_=>cases fy
 |_=>cases fx
theorem zj6{A:Around}{n:Nat}{xs ys:List D}{vs us:List V}{its its2:List Value}(hq:∀{d1 d2:D}{v w:V}{a b:Value}{k:Bool},eqN n d1 d2=some k->Rep X.K mg ρ H d1 v->Rep X.K mg ρ H d2 w->RelV v a->RelV w b->SeqAt.EqAt A s a b k){k:Bool}(h:eqL (eqN n) xs ys=some k)
   (r1:RepL X.K mg ρ H xs vs) (r2:RepL X.K mg ρ H ys us) (q1:Vals vs its) (q2:Vals us its2) :
   ∀j (h1:j<its.toArray.size) (h2:j<its2.toArray.size),SeqAt.EqAt A s its.toArray[j] its2.toArray[j] (zme (eqN n) xs ys j):=by
 intro j h1 h2;have l1:=r1.length;have l2:=r2.length;have l3:=q1.length;have l4:=q2.length;rw[z5t]at h1 h2;have e1:xs[j]? = some xs[j]:=z5s (by omega);have e2:ys[j]? = some ys[j]:=z5s (by omega);obtain⟨v,ev,rv⟩:=r1.get e1;obtain⟨w,ew,rw'⟩:=r2.get e2;obtain⟨a,ea,ra⟩:=q1.get ev;obtain⟨b,eb,rb⟩:=q2.get ew;obtain⟨c,hc⟩:=zts h j _ _ e1 e2;have z1:its.toArray[j]=a:=by rw[z5s h1]at ea;simpa using ea
 have z2:its2.toArray[j]=b:=by rw[z5s h2]at eb;simpa using eb
 have z3:zme (eqN n) xs ys j=c:=by simp[zme,e1,e2,hc]
 rw[z1,z2,z3];exact hq hc rv rw' ra rb
theorem z0a:∀(n:Nat) {A:Around}{d1 d2:D}{v w:V}{a b:Value}{k:Bool},Inv X pins σ H s->A.units+n<cLine->eqN n d1 d2=some k->Rep X.K mg ρ H d1 v->Rep X.K mg ρ H d2 w->RelV v a->RelV w b ->
   SeqAt.RcAt A s a b k/\SeqAt.RcNeAt A s a b (!k)/\SeqAt.EqAt A s a b k:=by
 intro n
 induction n with
 | zero=>
   intro A d1 d2 v w a b k I hu h r1 r2 ra rb;obtain⟨x,y,e1,e2,rfl⟩:=zdb h;obtain⟨rfl,f1⟩:=jz e1 r1;obtain⟨rfl,f2⟩:=jz e2 r2;exact⟨znb ra rb f1 f2,zg5 ra rb f1 f2,zo9 ra rb f1 f2⟩
 | succ n ih=>
   intro A d1 d2 v w a b k I hu h r1 r2 ra rb;have hs:∀{u:V},Rep X.K mg ρ H d1 u->Rep X.K mg ρ H d2 u->k=true:=fun a b=>zwb (n+1) I h a b;have hin:A.in1.units+n<cLine:=by show A.units+1+n<cLine;omega
   have hu0:A.units<cLine:=by omega
   have same:∀{p q:Addr},v=.ref p->w=.ref q->SeqAt.RcAt A s (.ref p) (.ref q) k->SeqAt.EqAt A s a b k:=by
     intro p q e1 e2 rc;subst e1 e2;cases ra;cases rb;by_cases hpq:p=q
     · subst hpq;rw[hs r1 r2];exact SeqAt.EqAt.same _
     · exact SeqAt.EqAt.of_refs hpq rc
   unfold eqN at h;split at h
   · rename_i xs ys;obtain⟨p,vs,rfl,t1,q1⟩:=r1.refT;obtain⟨p',us,rfl,t2,q2⟩:=r2.refT;cases ra;cases rb;obtain⟨its,z1,pt1,_⟩:=I.tuple t1.sq;obtain⟨its2,z2,pt2,_⟩:=I.tuple t2.sq;have hit:=zj6 (A:=A.in1) (s:=s) (fun e a1 a2 a3 a4=>(ih I hin e a1 a2 a3 a4).2.2) h q1 q2 z1 z2;have l1:=q1.length;have l2:=q2.length;have l3:=z1.length;have l4:=z2.length;have ek:k=((List.range (min its.toArray.size its2.toArray.size)).all (zme (eqN n) xs ys)&&its.toArray.size==its2.toArray.size):=by rw[z5t,z5t,<-l3,<-l4,<-l1,<-l2];exact zru h
     have rc:=SeqAt.RcAt.tuples (A:=A) (s:=s) pt1 pt2 hu0 hit;have rn:=SeqAt.RcNeAt.tuples (A:=A) (s:=s) pt1 pt2 hu0 hit;rw[<-ek]at rc;refine⟨rc,?_,same rfl rfl rc⟩;rw[ek];exact rn
   · rename_i xs ys;obtain⟨p,vs,rfl,t1,q1⟩:=r1.refL;obtain⟨p',us,rfl,t2,q2⟩:=r2.refL;cases ra;cases rb;obtain⟨its,z1,pt1,_⟩:=I.list t1.sq;obtain⟨its2,z2,pt2,_⟩:=I.list t2.sq;have l1:=q1.length;have l2:=q2.length;have l3:=z1.length;have l4:=z2.length;split at h
     · rename_i hl;have hit:=zj6 (A:=A.in1) (s:=s) (fun e a1 a2 a3 a4=>(ih I hin e a1 a2 a3 a4).2.2) h q1 q2 z1 z2;have hsz:its.toArray.size=its2.toArray.size:=by rw[z5t,z5t];omega
       have ek:k=(List.range its.toArray.size).all (zme (eqN n) xs ys):=by rw[z5t,<-l3,<-l1];exact zi0 h hl
       have rc:=SeqAt.RcAt.lists (A:=A) (s:=s) pt1.isList pt2.isList hsz hu0 hit;have rn:=SeqAt.RcNeAt.lists (A:=A) (s:=s) pt1.isList pt2.isList hsz hu0 hit;rw[<-ek]at rc;refine⟨rc,?_,same rfl rfl rc⟩;rw[ek];exact rn
     · rename_i hl;cases h;have hsz:(its.toArray.size != its2.toArray.size)=true:=by rw[z5t,z5t];simp;omega
       have rc:=SeqAt.RcAt.lists_lengths (A:=A) (s:=s) pt1.isList pt2.isList hsz hu0;have rn:=SeqAt.RcNeAt.lists_lengths (A:=A) (s:=s) pt1.isList pt2.isList hsz hu0;exact⟨rc,rn,same rfl rfl rc⟩
   · rename_i xs ys;cases h;obtain⟨p,vs,rfl,t1,q1⟩:=r1.refT;obtain⟨p',us,rfl,t2,q2⟩:=r2.refL;cases ra;cases rb;obtain⟨its,z1,pt1,_⟩:=I.tuple t1.sq;obtain⟨its2,z2,pt2,_⟩:=I.list t2.sq;exact⟨SeqAt.RcAt.tuple_list pt1 pt2.isList hu0,SeqAt.RcNeAt.tuple_list pt1 pt2.isList hu0,SeqAt.EqAt.tuple_list pt1 pt2.isList hu0⟩
   · rename_i xs ys;cases h;obtain⟨p,vs,rfl,t1,q1⟩:=r1.refL;obtain⟨p',us,rfl,t2,q2⟩:=r2.refT;cases ra;cases rb;obtain⟨its,z1,pt1,_⟩:=I.list t1.sq;obtain⟨its2,z2,pt2,_⟩:=I.tuple t2.sq;exact⟨SeqAt.RcAt.list_tuple pt1.isList pt2 hu0,SeqAt.RcNeAt.list_tuple pt1.isList pt2 hu0,SeqAt.EqAt.list_tuple pt1.isList pt2 hu0⟩
   · split at h
     · rename_i hsq;split at h
       · rename_i hb;cases h;obtain⟨y,ey⟩:=z7r.mp hb;obtain⟨rfl,f2⟩:=jz ey r2;cases d1 with
         | tup _=>
           obtain⟨p,vs,rfl,t1,q1⟩:=r1.refT;cases ra;obtain⟨its,z1,pt,_⟩:=I.tuple t1.sq;cases w with
           |non=>cases rb;exact⟨SeqAt.RcAt.tuple_none pt hu0,SeqAt.RcNeAt.tuple_none pt hu0,SeqAt.EqAt.tuple_none pt hu0⟩
           |bl c=>cases rb;exact⟨SeqAt.RcAt.tuple_bool c pt hu0,SeqAt.RcNeAt.tuple_bool c pt hu0,SeqAt.EqAt.tuple_bool c pt hu0⟩
           |int c=>obtain⟨t,rfl⟩:=rb;exact⟨SeqAt.RcAt.tuple_int c t pt hu0,SeqAt.RcNeAt.tuple_int c t pt hu0,SeqAt.EqAt.tuple_int c t pt hu0⟩
           |str c=>obtain⟨t,rfl⟩:=rb;exact⟨SeqAt.RcAt.tuple_str c t pt hu0,SeqAt.RcNeAt.tuple_str c t pt hu0,SeqAt.EqAt.tuple_str c t pt hu0⟩
           |_=>cases f2
         | lst _=>
           obtain⟨p,vs,rfl,t1,q1⟩:=r1.refL;cases ra;obtain⟨its,z1,pl,_⟩:=I.list t1.sq;have pt:=pl.isList;cases w with
           |non=>cases rb;exact⟨SeqAt.RcAt.list_none pt hu0,SeqAt.RcNeAt.list_none pt hu0,SeqAt.EqAt.list_none pt hu0⟩
           |bl c=>cases rb;exact⟨SeqAt.RcAt.list_bool c pt hu0,SeqAt.RcNeAt.list_bool c pt hu0,SeqAt.EqAt.list_bool c pt hu0⟩
           |int c=>obtain⟨t,rfl⟩:=rb;exact⟨SeqAt.RcAt.list_int c t pt hu0,SeqAt.RcNeAt.list_int c t pt hu0,SeqAt.EqAt.list_int c t pt hu0⟩
           |str c=>obtain⟨t,rfl⟩:=rb;exact⟨SeqAt.RcAt.list_str c t pt hu0,SeqAt.RcNeAt.list_str c t pt hu0,SeqAt.EqAt.list_str c t pt hu0⟩
           |_=>cases f2
         |_=>cases hsq
       · cases h
     · split at h
       · rename_i hsq;split at h
         · rename_i hb;cases h;obtain⟨y,ey⟩:=z7r.mp hb;obtain⟨rfl,f2⟩:=jz ey r1;cases d2 with
           | tup _=>
             obtain⟨p,vs,rfl,t1,q1⟩:=r2.refT;cases rb;obtain⟨its,z1,pt,_⟩:=I.tuple t1.sq;cases v with
             |non=>cases ra;exact⟨SeqAt.RcAt.none_tuple pt hu0,SeqAt.RcNeAt.none_tuple pt hu0,SeqAt.EqAt.none_tuple pt hu0⟩
             |bl c=>cases ra;exact⟨SeqAt.RcAt.bool_tuple c pt hu0,SeqAt.RcNeAt.bool_tuple c pt hu0,SeqAt.EqAt.bool_tuple c pt hu0⟩
             |int c=>obtain⟨t,rfl⟩:=ra;exact⟨SeqAt.RcAt.int_tuple c t pt hu0,SeqAt.RcNeAt.int_tuple c t pt hu0,SeqAt.EqAt.int_tuple c t pt hu0⟩
             |str c=>obtain⟨t,rfl⟩:=ra;exact⟨SeqAt.RcAt.str_tuple c t pt hu0,SeqAt.RcNeAt.str_tuple c t pt hu0,SeqAt.EqAt.str_tuple c t pt hu0⟩
             |_=>cases f2
           | lst _=>
             obtain⟨p,vs,rfl,t1,q1⟩:=r2.refL;cases rb;obtain⟨its,z1,pl,_⟩:=I.list t1.sq;have pt:=pl.isList;cases v with
             |non=>cases ra;exact⟨SeqAt.RcAt.none_list pt hu0,SeqAt.RcNeAt.none_list pt hu0,SeqAt.EqAt.none_list pt hu0⟩
             |bl c=>cases ra;exact⟨SeqAt.RcAt.bool_list c pt hu0,SeqAt.RcNeAt.bool_list c pt hu0,SeqAt.EqAt.bool_list c pt hu0⟩
             |int c=>obtain⟨t,rfl⟩:=ra;exact⟨SeqAt.RcAt.int_list c t pt hu0,SeqAt.RcNeAt.int_list c t pt hu0,SeqAt.EqAt.int_list c t pt hu0⟩
             |str c=>obtain⟨t,rfl⟩:=ra;exact⟨SeqAt.RcAt.str_list c t pt hu0,SeqAt.RcNeAt.str_list c t pt hu0,SeqAt.EqAt.str_list c t pt hu0⟩
             |_=>cases f2
           |_=>cases hsq
         · cases h
       · obtain⟨x,y,e1,e2,rfl⟩:=zdb h;obtain⟨rfl,f1⟩:=jz e1 r1;obtain⟨rfl,f2⟩:=jz e2 r2;exact⟨znb ra rb f1 f2,zg5 ra rb f1 f2,zo9 ra rb f1 f2⟩
end
def kl(a b:D):Option D:=(eqN 150 a b).map D.bl
def zgv(a b:D):Option D:=(eqN 150 a b).map fun k=>D.bl !k
section
variable {X:Cx}{a b:Expr}{f g:E}{pos:Pos}
def z00(K:zFr)(mg:zMg)(neg:Bool):R2:=fun x y H Q=>∃(ρ:List Addr) (d1 d2:D) (k:Bool),Rep K mg ρ H d1 x/\Rep K mg ρ H d2 y/\eqN 150 d1 d2=some k/\Q (.bl (if neg then !k else k)) H
theorem zs9(hu:X.A.units+150<cLine):OpR X (compareOp .Eq) (z00 X.K X.mg false):=by intro pins s σ H x y v u Q I rx ry h;obtain⟨ρ,d1,d2,k,h1,h2,h3,q⟩:=h;exact(z0a 150 I hu h3 h1 h2 rx ry).1 _ _ _ _ ⟨.bl k,H,I,rfl,q⟩
theorem zyn(hu:X.A.units+150<cLine):OpR X (compareOp .NotEq) (z00 X.K X.mg true):=by intro pins s σ H x y v u Q I rx ry h;obtain⟨ρ,d1,d2,k,h1,h2,h3,q⟩:=h;exact(z0a 150 I hu h3 h1 h2 rx ry).2.1 _ _ _ _ ⟨.bl (!k),H,I,rfl,q⟩
theorem zmy{K mg}:zh6 K mg (z00 K mg false) (fun _=>kl):=by intro ρ H S x y dx dy d Q hS rx ry e k;obtain⟨c,e1,e⟩:=zah e;subst e;exact⟨ρ,dx,dy,c,rx,ry,e1,k _ H (Ext.refl _ _) hS rfl⟩
theorem zui{K mg}:zh6 K mg (z00 K mg true) (fun _=>zgv):=by intro ρ H S x y dx dy d Q hS rx ry e k;obtain⟨c,e1,e⟩:=zah e;subst e;exact⟨ρ,dx,dy,c,rx,ry,e1,k _ H (Ext.refl _ _) hS rfl⟩
theorem zix{k:Nat}(hr:Room k X.A)(ha:FE X a f)(hb:FE X b g)(hm:behindInMarks .Eq b=false:=by exact zaq _):FE X (.Compare a [.Eq] [b] pos) (e2 kl f g):=zhk (zs9 (by have:=hr.un;omega)) zmy ha hb hm
theorem zaa{k:Nat}(hr:Room k X.A)(ha:FE X a f)(hb:FE X b g)(hm:behindInMarks .Eq b=false:=by exact zaq _):FB X (.Compare a [.Eq] [b] pos) (bE (e2 kl f g)):=zb9 (zs9 (by have:=hr.un;omega)) zmy ha hb hm
theorem zlp{k:Nat}(hr:Room k X.A)(ha:FE X a f)(hb:FE X b g)(hm:behindInMarks .NotEq b=false:=by exact zaq _):FB X (.Compare a [.NotEq] [b] pos) (bE (e2 zgv f g)):=zb9 (zyn (by have:=hr.un;omega)) zui ha hb hm
end
def zer(S:Sto):List D->Option D
 | [.lst ds]=>some (.int ds.length)
 | [.tup ds]=>some (.int ds.length)
 | [.str z]=>if z.length<=sizeLine then some (.int z.length)else none
 | [.obj a]=>(match S[a]? with
   |some (.lst ds)=>some (.int ds.length)
   |_=>none)
 |_=>none
def zw1(_:Sto):List D->Option D
 | [.int i]=>some (.int (if i<0 then -i else i))
 |_=>none
def zy2(_:Sto):List D->Option D
 | [.int i,.int j]=>some (.int (if j>i then j else i))
 |_=>none
inductive Ty where
 |non | bl | int | str | tup | lst
 deriving DecidableEq
def Ty.name:Ty->String
 | .non=>"NoneType" | .bl=>"bool" | .int=>"int" | .str=>"str" | .tup=>"tuple" | .lst=>"list"
def tyD(S:Sto):D->Option Ty
 | .non=>some .non
 | .bl _=>some .bl
 | .int _=>some .int
 | .str _=>some .str
 | .tup _=>some .tup
 | .lst _=>some .lst
 | .obj a=>(match S[a]? with
   |some (.lst _)=>some .lst
   |_=>none)
 |_=>none
def isT(t c:Ty):Bool:=decide (t=c)||(decide (t=.bl)&&decide (c=.int))
def tyOf?:String->Option Ty
 | "bool"=>some .bl | "int"=>some .int | "str"=>some .str | "tuple"=>some .tup | "list"=>some .lst | _=>none
def zvt(S:Sto):List D->Option D
 | [d,.ty n]=>(tyOf? n).bind fun c=>(tyD S d).map fun t=>.bl (isT t c)
 |_=>none
section
variable {X:Cx}{K:zFr}{mg:zMg}
theorem one{ρ H d xs}(r:RepL K mg ρ H [d] xs):∃v,xs=[v]/\Rep K mg ρ H d v:=by unfold RepL at r;obtain⟨v,t,rfl,h1,h2⟩:=r;unfold RepL at h2;subst h2;exact⟨v,rfl,h1⟩
theorem two{ρ H d e xs}(r:RepL K mg ρ H [d,e] xs):∃v w,xs=[v,w]/\Rep K mg ρ H d v/\Rep K mg ρ H e w:=by unfold RepL at r;obtain⟨v,t,rfl,h1,h2⟩:=r;obtain⟨w,rfl,h3⟩:=one h2;exact⟨v,w,rfl,h1,h3⟩
theorem zul:zws K mg (fun xs H Q=>(∃p ys,xs=[.ref p]/\(SqL K H p ys\/SqT K H p ys)/\Q (.int ys.length) H)\/(∃z,xs=[.str z]/\z.length<=sizeLine/\Q (.int z.length) H)) zer:=by
 intro ρ H S xs ds d Q hS r e k;unfold zer at e;split at e
 · cases e;replace r:=one r;obtain⟨v,rfl,r⟩:=r;obtain⟨p,vs,rfl,t,r⟩:=r.refL;exact .inl ⟨p,vs,rfl,.inl t.sq,by rw[<-r.length];exact k _ H (Ext.refl _ _) hS rfl⟩
 · cases e;replace r:=one r;obtain⟨v,rfl,r⟩:=r;obtain⟨p,vs,rfl,t,r⟩:=r.refT;exact .inl ⟨p,vs,rfl,.inr t.sq,by rw[<-r.length];exact k _ H (Ext.refl _ _) hS rfl⟩
 · split at e
   · rename_i hz;cases e;replace r:=one r;obtain⟨v,rfl,r⟩:=r;rw[r.refS];exact .inr ⟨_,rfl,hz,k _ H (Ext.refl _ _) hS rfl⟩
   · cases e
 · split at e
   · rename_i ds hd;cases e;replace r:=one r;obtain⟨v,rfl,r⟩:=r;unfold Rep at r;obtain⟨p,rfl,hp⟩:=r;obtain⟨vs,h1,r⟩:=hS.ob _ _ p hd hp;exact .inl ⟨p,vs,rfl,.inl (SqL.of h1),by rw[<-r.length];exact k _ H (Ext.refl _ _) hS rfl⟩
   · cases e
 · cases e
variable {e:Expr}{es:List Expr}{p pos:Pos}{g:As}
theorem zae(hm:X.mg "len"=none)(ha:FA X [e] g)(hg:Gl X "len":=by rfl)(he:starEach [e] X.env=(false,eval e X.env)::starEach [] X.env:=by exact z8 rfl)(hpl:(backTo pos (starEach [] X.env)).any (·.1)=false:=by exact qz rfl):FE X (.Call (.Name "len" p) [e] [] pos) (eA zer g) :=
 zhm (call_len_seq.or zhv) zul hm PySem.boot_len ha hg (by decide) (by decide) he hpl
theorem zup:zws K mg (fun xs H Q=>∃i,xs=[.int i]/\Q (.int (if i<0 then -i else i)) H) zw1:=by
 intro ρ H S xs ds d Q hS r e k;unfold zw1 at e;split at e
 · cases e;replace r:=one r;obtain⟨v,rfl,r⟩:=r;rw[r.refI];exact⟨_,rfl,k _ H (Ext.refl _ _) hS rfl⟩
 · cases e
theorem ztn(hm:X.mg "abs"=none)(ha:FA X [e] g)(hg:Gl X "abs":=by rfl)(he:starEach [e] X.env=(false,eval e X.env)::starEach [] X.env:=by exact z8 rfl)(hpl:(backTo pos (starEach [] X.env)).any (·.1)=false:=by exact qz rfl):FE X (.Call (.Name "abs" p) [e] [] pos) (eA zw1 g) :=
 zhm zr5 zup hm (by with_unfolding_all rfl) ha hg (by decide) (by decide) he hpl
theorem zuj:zws K mg (fun xs H Q=>∃i j,xs=[.int i,.int j]/\Q (.int (if j>i then j else i)) H) zy2:=by
 intro ρ H S xs ds d Q hS r e k;unfold zy2 at e;split at e
 · cases e;replace r:=two r;obtain⟨v,w,rfl,r1,r2⟩:=r;rw[r1.refI,r2.refI];exact⟨_,_,rfl,k _ H (Ext.refl _ _) hS rfl⟩
 · cases e
theorem zz3(hm:X.mg "max"=none)(ha:FA X (e::es) g)(hc:X.calm=true:=by rfl)(hg:Gl X "max":=by rfl)(he:starEach (e::es) X.env=(false,eval e X.env)::starEach es X.env:=by exact z8 rfl)(hpl:(backTo pos (starEach es X.env)).any (·.1)=false:=by exact qz rfl):FE X (.Call (.Name "max" p) (e::es) [] pos) (eA zy2 g) :=
 zhm (zpi hc) zuj hm (by with_unfolding_all rfl) ha hg (by decide) (by decide) he hpl
theorem zhl{x:Str}(n:String)(hm:X.mg x=none)(hv:bootBuiltins x=some (.type n))(hg:Gl X x:=by rfl)(hn:x≠"__name__":=by decide)(hd:(x==("__debug__":Str))=false:=by decide):FE X (.Name x pos) (eK (.ty n)) :=
 zao (zu8 (v:=.ty n) hg hm hv rfl hn hd) fun _ _=>rfl
theorem zoa:∀(t c:Ty),c≠.non->PySem.W.kitOne K (.type t.name) (.type c.name)=some (isT t c):=by intro t c hc;cases t<;>cases c<;>first | exact absurd rfl hc | rfl | (with_unfolding_all rfl)
theorem zmn{n:String}{c:Ty}(h:tyOf? n=some c):n=c.name/\c≠.non:=by unfold tyOf? at h;split at h<;>first | (cases h;exact⟨rfl,by decide⟩) | cases h
def z3u(K:zFr):List V->Hp->VK->Prop:=fun xs H Q=>∃(x:V) (t c:Ty),xs=[x,.ty c.name]/\c≠.non /\
 (TyOf K H x (.type t.name)\/(t=.tup/\∃p ys,x=.ref p/\SqT K H p ys)\/(t=.lst/\∃p ys,x=.ref p/\SqL K H p ys))/\Q (.bl (isT t c)) H
theorem zr3:CallR X (.builtin "isinstance") (z3u X.K):=by
 intro pins s σ H xs us Q I r h;obtain⟨x,t,c,rfl,hc,ht,q⟩:=h;obtain⟨u1,u2,rfl,r1,r2⟩:∃u1 u2,us=[u1,u2]/\RelV x u1/\RelV (.ty c.name) u2:=by
   cases r with
   | cons p q=>
     cases q with
     |cons p' q'=>cases q';exact⟨_,_,rfl,p,p'⟩
 cases r2;rcases ht with ht | ⟨rfl,p,ys,rfl,hp⟩ | ⟨rfl,p,ys,rfl,hp⟩
 · exact zod I r1 ht (zoa t c hc) fun tk=>⟨.bl _,H,I.tok tk,rfl,q⟩
 · cases r1;obtain⟨its,_,⟨o,h1,h2,_⟩,_⟩:=I.tuple hp;exact z6t PySem.W.kitx_tuple I.kIn ⟨o,h1,h2⟩ (zoa .tup c hc) (fun z=>nomatch z) fun tk=>⟨.bl _,H,I.tok tk,rfl,q⟩
 · cases r1;obtain⟨its,_,⟨o,n,h1,h2,_,_⟩,_⟩:=I.list hp;exact z6t z95 I.kIn ⟨o,h1,h2⟩ (zoa .lst c hc) (fun z=>nomatch z) fun tk=>⟨.bl _,H,I.tok tk,rfl,q⟩
theorem zum:zws K mg (z3u K) zvt:=by
 intro ρ H S xs ds d Q hS r e k;unfold zvt at e;split at e
 · rename_i d' n;obtain⟨c,hc,e⟩:=zy e;obtain⟨t,ht,e⟩:=zah e;subst e;obtain⟨rfl,hn⟩:=zmn hc;replace r:=two r;obtain⟨v,w,rfl,r1,r2⟩:=r;have r2:w=.ty _:=r2;subst r2;refine⟨v,t,c,rfl,hn,?_,k _ H (Ext.refl _ _) hS rfl⟩;unfold tyD at ht;split at ht
   · cases ht;rw[show v=.non from r1];exact .inl .non
   · cases ht;rw[show v=.bl _ from r1];exact .inl (.bl _)
   · cases ht;rw[show v=.int _ from r1];exact .inl (.int _)
   · cases ht;rw[show v=.str _ from r1];exact .inl (.str _)
   · cases ht;obtain⟨p,vs,rfl,tt,_⟩:=r1.refT;exact .inr (.inl ⟨rfl,p,vs,rfl,tt.sq⟩)
   · cases ht;obtain⟨p,vs,rfl,tt,_⟩:=r1.refL;exact .inr (.inr ⟨rfl,p,vs,rfl,tt.sq⟩)
   · split at ht
     · rename_i ds hd;cases ht;unfold Rep at r1;obtain⟨p,rfl,hp⟩:=r1;obtain⟨vs,h1,_⟩:=hS.ob _ _ p hd hp;exact .inr (.inr ⟨rfl,p,vs,rfl,SqL.of h1⟩)
     · cases ht
   · cases ht
 · cases e
theorem zke(hm:X.mg "isinstance"=none)(ha:FA X (e::es) g)(hg:Gl X "isinstance":=by rfl)(he:starEach (e::es) X.env=(false,eval e X.env)::starEach es X.env:=by exact z8 rfl)(hpl:(backTo pos (starEach es X.env)).any (·.1)=false:=by exact qz rfl):FE X (.Call (.Name "isinstance" p) (e::es) [] pos) (eA zvt g) :=
 zhm zr3 zum hm (by with_unfolding_all rfl) ha hg (by decide) (by decide) he hpl
def z0g(xs:List D)(lo hi:Option Int):List D:=(xs.drop (HT.sIx xs.length 0 lo)).take (HT.sIx xs.length xs.length hi-HT.sIx xs.length 0 lo)
def zyr:D->Option Int->Option Int->Option D
 | .lst ds,lo,hi=>some (.lst (z0g ds lo hi))
 | .tup ds,lo,hi=>if HT.sIx ds.length 0 lo=0/\HT.sIx ds.length ds.length hi=ds.length then none else some (.tup (z0g ds lo hi))
 |_,_,_=>none
abbrev Pt:=Ev->Sto->Option (Option Int×Sto)
def pN:Pt:=fun _ S=>some (none,S)
def pE(f:E):Pt:=fun ev S=>(f ev S).bind fun p=>match p.1 with
 | .int i=>some (some i,p.2)
 |_=>none
def eSl(f:E)(a b:Pt):E:=fun ev S=>(f ev S).bind fun p=>(a ev p.2).bind fun q=>(b ev q.2).bind fun r=>(zyr p.1 q.1 r.1).map fun d=>(d,r.2)
def tPt(K:zFr)(mg:zMg)(f:Pt):TO:=fun σ H Q=>∃ρ ev S o S',EnvR K mg ρ H ev σ/\StOk K mg ρ H S/\f ev S=some (o,S')/\∀ρ' H',Ext ρ H ρ' H'->StOk K mg ρ' H' S'->Q o H'
def FPt(X:Cx)(e:Option Expr)(f:Pt):Prop:=PO X e (tPt X.K X.mg f)
theorem znk{e:Option Expr}{t t':TO}(h:PO X e t)(m:∀σ H Q,t' σ H Q->t σ H Q):PO X e t':=fun pins s σ H Q I q=>h pins s σ H Q I (m _ _ _ q)
theorem zd8:FPt X none pN:=znk zu2 fun σ H Q h=>by obtain⟨ρ,ev,S,o,S',hE,hS,hf,k⟩:=h;cases hf;exact k ρ H (Ext.refl _ _) hS
theorem zbs{f:E}(h:FE X e f):FPt X (some e) (pE f):=znk (zu1 h) fun σ H Q h=>by
 obtain⟨ρ,ev,S,o,S',hE,hS,hf,k⟩:=h;obtain⟨⟨x,S1⟩,q1,hf⟩:=zy hf;cases x with
 | int i=>
   cases hf;exact⟨ρ,ev,S,_,_,hE,hS,q1,fun v ρ1 H1 E1 hS1 r1=>⟨i,r1,k ρ1 H1 E1 hS1⟩⟩
 |_=>cases hf
theorem zpe{ρ H ds vs}(r:RepL K mg ρ H ds vs)(lo hi:Option Int):RepL K mg ρ H (z0g ds lo hi) (ztx vs lo hi):=by unfold z0g ztx;rw[r.length];exact(r.drop _).take _
theorem zc7{a:Expr}{lo hi:Option Expr}{f:E}{u w:Pt}{p2:Pos}(ha:FE X a f)(hl:FPt X lo u)(hh:FPt X hi w):FE X (.Subscript a (.Slice lo hi none p2) pos) (eSl f u w) :=
 jn (zjy (sl_list.or zxi) ha hl hh) fun σ H Q h=>by
   obtain⟨ρ,ev,S,d,S',hE,hS,hf,k⟩:=h;obtain⟨⟨x,S1⟩,q1,hf⟩:=zy hf;obtain⟨⟨lo,S2⟩,q2,hf⟩:=zy hf;obtain⟨⟨hi,S3⟩,q3,hf⟩:=zy hf;obtain⟨z,q4,hf⟩:=zah hf;cases hf;refine⟨ρ,ev,S,x,S1,hE,hS,q1,fun v ρ1 H1 E1 hS1 r1=>⟨ρ1,ev,S1,lo,S2,hE.mono E1,hS1,q2,fun ρ2 H2 E2 hS2=>⟨ρ2,ev,S2,hi,_,(hE.mono E1).mono E2,hS2,q3,fun ρ3 H3 E3 hS3=>?_⟩⟩⟩;have r3:=(r1.mono E2).mono E3;have E:=(E1.trans E2).trans E3;cases x with
   | lst ds=>
     cases q4;obtain⟨p,vs,rfl,t,r⟩:=r3.refL;exact .inl ⟨p,vs,rfl,t.sq,fun b hb=>k _ _ _ (E.trans (jo hS3 _ hb)) (hS3.new _ hb) (Rep.lst (s:=hS3) hb (zpe r lo hi))⟩
   | tup ds=>
     replace q4:(if HT.sIx ds.length 0 lo=0/\HT.sIx ds.length ds.length hi=ds.length then none else some (D.tup (z0g ds lo hi)))=some d:=q4;split at q4
     · cases q4
     · rename_i hn;cases q4;obtain⟨p,vs,rfl,t,r⟩:=r3.refT;exact .inr ⟨p,vs,rfl,t.sq,by rw[<-r.length];exact hn,fun b hb=>k _ _ _ (E.trans (jo hS3 _ hb)) (hS3.new _ hb) (Rep.tup (s:=hS3) hb (zpe r lo hi))⟩
   |_=>cases q4
theorem zd7{o:Expr}{f h:E}{apos spos:Pos}(ho:FE X o f)(hv:FE X e h)
   (hbase:attributeBase o "append" X.env (eval o X.env)=eval o X.env:=by rfl)
   (hfew:((backTo pos (starEach [e] X.env)).all (fun x=>!x.1)&&(backToKw pos (keywordEach [] X.env)).all (fun x=>x.1.isSome)
     && decide ([e].length+([]:List Keyword).length+(if([]:List Keyword).isEmpty then 0 else 1)<30))=true:=by rfl)
   (hline:(apos.endLine==pos.line)=true:=by rfl) (hs:starEach [e] X.env=(false,eval e X.env)::starEach [] X.env:=by exact z8 rfl) (hplain:(backTo pos (starEach [] X.env)).any (·.1)=false:=by exact qz rfl)
   (hsw:swapsWith (.Call (.Attribute o "append" apos) [e] [] pos) none spos.line X.env=pure false:=by rfl) :
   FS X (.Expr (.Call (.Attribute o "append" apos) [e] [] pos) spos) (zaz f h) :=
 xu (zni (z19 PySem.F.plainAttrs_list PySem.F.slot_list_append PySem.F.type_list_append znz ho (zb hv zd hs) hbase hfew hline hs hplain) hsw) fun σ H D h=>by
   obtain⟨ρ,ev,S,o,S',hE,hS,hf,k⟩:=h;obtain⟨⟨x,S1⟩,q1,hf⟩:=zy hf;cases x with
   | obj a=>
     dsimp only at hf;split at hf
     · rename_i ds0 hd0;obtain⟨⟨y,S2⟩,q2,hf⟩:=zy hf;dsimp only at hf;split at hf
       · rename_i ds hd;split at hf
         · rename_i hl;cases hf;refine⟨ρ,ev,S,_,S1,hE,hS,q1,fun v ρ1 H1 E1 hS1 r1=>?_⟩;have r1':=r1;unfold Rep at r1';obtain⟨p,rfl,hp⟩:=r1';obtain⟨us0,hu0,_⟩:=hS1.ob a _ p hd0 hp;refine⟨.inl ⟨rfl,_,SqL.of hu0⟩,ρ1,ev,S1,[y],S2,hE.mono E1,hS1,by simp only[aC,aN,q2,Option.bind_some],fun vs ρ2 H2 E2 hS2 r2=>?_⟩;obtain⟨w,rfl,r3⟩:=one r2;have hp2:=E2.pre _ _ hp;obtain⟨us,h2,h3⟩:=hS2.ob a _ p hd hp2;have e0:=ziz hS2 (.lst (us++[w])) hp2;refine⟨p,us,w,rfl,rfl,h2,by rw[<-h3.length];exact hl,?_⟩;refine k σ ρ2 _ ((E1.trans E2).trans e0) (hS2.set hp2 ⟨_,qq,?_⟩) (((hE.mono E1).mono E2).mono e0);exact(h3.append (RepL.cons r3 RepL.nil)).mono e0
         · cases hf
       · cases hf
     · cases hf
   |_=>cases hf
theorem zek:bootBuiltins "list"=some (.type "list"):=by with_unfolding_all rfl
theorem boot_tuple:bootBuiltins "tuple"=some (.type "tuple"):=by with_unfolding_all rfl
theorem boot_int:bootBuiltins "int"=some (.type "int"):=by with_unfolding_all rfl
theorem boot_bool:bootBuiltins "bool"=some (.type "bool"):=by with_unfolding_all rfl
end
theorem kz(i:Nat){X:Cx}{x:Str}{px:Pos}{es:List Expr}{is:List Nat}{t:TGs}(hN:X.N.Nodup)(h:Names X es is t)(hi:X.N[i]? = some x:=by rfl)(hx:Loc X.env.scope x:=by first | exact Or.inl rfl | exact Or.inr rfl)
   (hf:X.fn x=true\/X.env.scope.names.lookup x=some .local:=by first | exact .inl rfl | exact .inr rfl | assumption)
   (hs:(assignEach (.Name x px::es) X.env).map (·.2)=assign (.Name x px) X.env::(assignEach es X.env).map (·.2):=by rfl):Names X (.Name x px::es) (i::is) (zrg (zhh i) t) :=
 .cons hN hi hx hf h (zqy (zfp hN hi hx hf) h.pgs hs)
def z3k(K:zFr)(dV:Value):Nat->Prop
 |0=>dV=.none
 |n+1=>∃(T:Addr) (o:Obj) (m:Nat),dV=.ref T/\K.lookup T=some o/\o.data=.seq (Array.replicate (n+1) Value.none) m
structure HasDef (K:zFr) (mg:zMg) (x:Str) (st:Stmt) (nd:Nat):Prop where
 ex:∃(f:Addr) (fd:FuncData) (dV:Value),FunD K x x st f fd dV/\mg x=some (.ref f)/\z3k K dV nd
structure HasMth (K:zFr) (mg:zMg) (c m qual:Str) (st:Stmt):Prop where
 ex:∃(C f:Addr) (fd:FuncData),FunD K m qual st f fd .none/\mg c=some (.ref C)/\Cls K C/\Meth K C m f
structure HasMk (K:zFr) (mg:zMg) (c qual:Str) (st:Stmt) (nd:Nat):Prop where
 ex:∃(C f:Addr) (fd:FuncData) (dV:Value),FunD K "__init__" qual st f fd dV/\mg c=some (.ref C)/\Mk K C f/\z3k K dV nd
def zt5(x qual:Str)(st:Stmt)(ps:List Str):Prop:=∀(kV doc pm:Value) (an:Option Addr) (cdv ct:Value) (us:List Value),us.length=ps.length ->
 bindArgs (PySem.W.fnOf x qual (za7 st) (jg st) (zj st) .none kV doc pm an cdv ct) ⟨us,[]⟩=pure (ps.zip us)
def z1i(x qual:Str)(st:Stmt)(ps:List Str)(n:Nat):Prop:=∀(T:Addr) (kV doc pm:Value) (an:Option Addr) (cdv ct:Value) (us:List Value),us.length=n ->
 ∃kk,bindArgs (PySem.W.fnOf x qual (za7 st) (jg st) (zj st) (.ref T) kV doc pm an cdv ct) ⟨us,[]⟩=(seqItems? (.ref T) >>= kk)/\kk (some #[Value.none])=pure (ps.zip (us++List.replicate (ps.length-n) Value.none))
section
variable {P:Program}{w:World}{K:zFr}{mg:zMg}{base:Heap}{x qual c m:Str}{st:Stmt}{N ps:List Str}{k:Nat}{b:C}{dV:Value}{f:Addr}{fd:FuncData}
abbrev z1h(P:Program)(w:World)(K:zFr)(mg:zMg)(base:Heap)(N:List Str)(qual:Str)(st:Stmt)(k:Nat)(b:C):Prop :=
 ∀(f:Addr) (cdv:Value) (A:Around) (outer:List Env) (s:Shared) (H:Hp) (E:XK),Room k (A.deeper (envOfC qual (zj st) s.heap.objs.size f cdv)) ->
     FSs (zbl CX0 P w K mg base N qual (zj st) f cdv A outer s H E).nox (jg st) b
theorem FunD.binds0(F:FunD K x qual st f fd .none)(h:zt5 x qual st ps):Binds K fd ps []:=by obtain⟨oc,od,kV,doc,pm,an,cdv,ct,osl,rfl,lk,hcd⟩:=F.ex;exact .all (h kV doc pm an cdv ct)
theorem FunD.binds1(F:FunD K x qual st f fd dV)(hd:z3k K dV 1){n:Nat}(h:z1i x qual st ps n)(hn:n<=ps.length):Binds K fd ps (List.replicate (ps.length-n) Value.none):=by obtain⟨oc,od,kV,doc,pm,an,cdv,ct,osl,rfl,lk,hcd⟩:=F.ex;obtain⟨T,o,mm,rfl,hT,ho⟩:=hd;intro s us hK hl;obtain⟨kk,h1,h2⟩:=h T kV doc pm an cdv ct us (by rw[z5l,List.length_replicate]at hl;omega);exact BindsTo.of_defaults rfl (hK T o hT) ho h1 h2
theorem zow:FnOk P w K mg base CX0 k f fd ps (spG K mg fun _ _=>none):=by
 have no:∀vs H Q E,¬ spG K mg (fun _ _=>none) vs H Q E:=fun vs H Q E h=>by obtain⟨_,_,_,_,_,_,_,h,_⟩:=h;cases h
 exact⟨fun vs H Q E h=>absurd h (no vs H Q E),fun A outer s H args us vs Q E _ _ _ _ h=>absurd h (no vs H Q E)⟩
theorem HasDef.cal(h:HasDef K mg x st 0)(S:FnScope N ps (zj st))(hb:zt5 x x st ps)(hbody:z1h P w K mg base N x st k b):Cal P w K mg base (k+1) x (qa N.length ps.length b):=by obtain⟨f,fd,dV,F,hm,rfl⟩:=h.ex;exact⟨f,fd,ps,[],[],[],_,F.ok S fun cdv A outer s H E hr=>hbody f cdv A outer s H E hr,hm,F.kp,F.binds0 hb,.nil,fun _ _=>RepL.nil,fun args S r e=>by rw[z6f];exact e⟩
theorem HasDef.none0(h:HasDef K mg x st 0)(hb:zt5 x x st ps):Cal P w K mg base k x (fun _ _=>none):=by obtain⟨f,fd,dV,F,hm,rfl⟩:=h.ex;exact⟨f,fd,ps,[],[],[],_,zow,hm,F.kp,F.binds0 hb,.nil,fun _ _=>RepL.nil,fun args S r e=>by cases e⟩
theorem HasDef.cal1(h:HasDef K mg x st 1)(S:FnScope N ps (zj st))(hb:z1i x x st ps ps.length)(hbody:z1h P w K mg base N x st k b):Cal P w K mg base (k+1) x (qa N.length ps.length b):=by obtain⟨f,fd,dV,F,hm,hd⟩:=h.ex;have B:=F.binds1 hd hb (z5o _);rw[z8z]at B;exact⟨f,fd,ps,[],[],[],_,F.ok S fun cdv A outer s H E hr=>hbody f cdv A outer s H E hr,hm,F.kp,B,.nil,fun _ _=>RepL.nil,fun args S r e=>by rw[z6f];exact e⟩
theorem HasDef.none1(h:HasDef K mg x st 1)(hb:z1i x x st ps ps.length):Cal P w K mg base k x (fun _ _=>none):=by obtain⟨f,fd,dV,F,hm,hd⟩:=h.ex;have B:=F.binds1 hd hb (z5o _);rw[z8z]at B;exact⟨f,fd,ps,[],[],[],_,zow,hm,F.kp,B,.nil,fun _ _=>RepL.nil,fun args S r e=>by cases e⟩
theorem HasMth.mth(h:HasMth K mg c m qual st)(S:FnScope N ps (zj st))(hb:zt5 m qual st ps)(hbody:z1h P w K mg base N qual st k b):Mth P w K mg base (k+1) c m (qa N.length ps.length b):=by obtain⟨C,f,fd,F,hm,hc,hme⟩:=h.ex;exact⟨C,f,fd,ps,[],[],[],_,F.ok S fun cdv A outer s H E hr=>hbody f cdv A outer s H E hr,hm,hc,hme,F.binds0 hb,.nil,fun _ _=>RepL.nil,fun args S r e=>by rw[z6f];exact e⟩
theorem HasMk.mk1(h:HasMk K mg c qual st 1)(S:FnScope N ps (zj st))(hb:z1i "__init__" qual st ps ps.length)(hbody:z1h P w K mg base N qual st k b):Mak P w K mg base (k+1) c (qa N.length ps.length b):=by obtain⟨C,f,fd,dV,F,hm,hme,hd⟩:=h.ex;have B:=F.binds1 hd hb (z5o _);rw[z8z]at B;exact⟨C,f,fd,ps,[],[],[],_,F.ok S fun cdv A outer s H E hr=>hbody f cdv A outer s H E hr,hm,hme,B,.nil,fun _ _=>RepL.nil,fun args S r e=>by rw[z6f];exact e⟩
end
section
variable {K:zFr}{h:Heap}{mg:zMg} (X:K.In h) (G:h.Ns mainGlobals mg)
include X G
theorem has_def{x:Str}{st:Stmt}{f:Addr}{oc:Value}{od an:Option Addr}{osl:Array (Option Value)}{kV doc pm cdv ct:Value}(a:PySem.W.nsIn K mainGlobals x=some (some (.ref f)))
   (l:K.lookup f=some ⟨oc,od,.func (PySem.W.fnOf x x (za7 st) (jg st) (zj st) .none kV doc pm an cdv ct),osl⟩) (c:PySem.W.codeIn K cdv x=true) (k:PySem.W.keepIn K (.ref f)=true):HasDef K mg x st 0 :=
 ⟨f,_,.none,⟨⟨oc,od,kV,doc,pm,an,cdv,ct,osl,rfl,l,c⟩,k⟩,z8o X G a,rfl⟩
theorem has_def1{x:Str}{st:Stmt}{f T:Addr}{oc tc:Value}{od an td:Option Addr}{osl tsl:Array (Option Value)}{kV doc pm cdv ct:Value}{m:Nat}(a:PySem.W.nsIn K mainGlobals x=some (some (.ref f)))
   (l:K.lookup f=some ⟨oc,od,.func (PySem.W.fnOf x x (za7 st) (jg st) (zj st) (.ref T) kV doc pm an cdv ct),osl⟩) (c:PySem.W.codeIn K cdv x=true) (k:PySem.W.keepIn K (.ref f)=true)
   (t:K.lookup T=some ⟨tc,td,.seq #[Value.none] m,tsl⟩):HasDef K mg x st 1 :=
 ⟨f,_,.ref T,⟨⟨oc,od,kV,doc,pm,an,cdv,ct,osl,rfl,l,c⟩,k⟩,z8o X G a,T,_,m,rfl,t,rfl⟩
theorem has_mth{cn m qual:Str}{st:Stmt}{C f:Addr}{oc:Value}{od an:Option Addr}{osl:Array (Option Value)}{kV doc pm cdv ct:Value}(aC:PySem.W.nsIn K mainGlobals cn=some (some (.ref C)))(hc:Cls K C)
   (a:PySem.W.findIn K (.ref C) m=some (some (.ref f))) (i:PySem.W.isFn K (.ref f)=true)
   (l:K.lookup f=some ⟨oc,od,.func (PySem.W.fnOf m qual (za7 st) (jg st) (zj st) .none kV doc pm an cdv ct),osl⟩) (c:PySem.W.codeIn K cdv qual=true) (k:PySem.W.keepIn K (.ref f)=true):HasMth K mg cn m qual st :=
 ⟨C,f,_,⟨⟨oc,od,kV,doc,pm,an,cdv,ct,osl,rfl,l,c⟩,k⟩,z8o X G aC,hc,⟨a,i,k⟩⟩
theorem has_mk1{cn qual:Str}{st:Stmt}{C f T:Addr}{oc tc:Value}{od an td:Option Addr}{osl tsl:Array (Option Value)}{kV doc pm cdv ct:Value}{m:Nat}(aC:PySem.W.nsIn K mainGlobals cn=some (some (.ref C)))
   (mk:PySem.W.makesIn K C=true) (kc:PySem.W.keepIn K (.ref C)=true) (a:PySem.W.findIn K (.ref C) "__init__"=some (some (.ref f))) (i:PySem.W.isFn K (.ref f)=true)
   (l:K.lookup f=some ⟨oc,od,.func (PySem.W.fnOf "__init__" qual (za7 st) (jg st) (zj st) (.ref T) kV doc pm an cdv ct),osl⟩) (c:PySem.W.codeIn K cdv qual=true) (k:PySem.W.keepIn K (.ref f)=true)
   (t:K.lookup T=some ⟨tc,td,.seq #[Value.none] m,tsl⟩):HasMk K mg cn qual st 1 :=
 ⟨C,f,_,.ref T,⟨⟨oc,od,kV,doc,pm,an,cdv,ct,osl,rfl,l,c⟩,k⟩,z8o X G aC,⟨mk,a,i,kc⟩,T,_,m,rfl,t,rfl⟩
theorem has_cls{cn:Str}{C:Addr}(aC:PySem.W.nsIn K mainGlobals cn=some (some (.ref C)))(pg:PySem.W.plainGet K C Str.empty=true)(hd:PySem.W.hasDictIn K C=true)(po:PySem.W.plainOver K C=true)(sa:PySem.W.findIn K (.ref C) "__setattr__"=some (some (.builtin "object.__setattr__"))):Cls K C:=⟨pg,hd,po,sa⟩
theorem has_fld{cn n:Str}{C:Addr}(aC:PySem.W.nsIn K mainGlobals cn=some (some (.ref C)))(hc:Cls K C)(a:PySem.W.findIn K (.ref C) n=some none):Fld K mg cn n:=fun C' e=>by rw[z8o X G aC]at e;cases e;exact⟨hc,a⟩
theorem has_int{x:Str}{n:Int}{t:Tok}(a:PySem.W.nsIn K mainGlobals x=some (some (.int n t))):∃t,mg x=some (.int n t):=⟨t,z8o X G a⟩
end
theorem zjq{K mg ρ H}:∀ns:List Int,RepL K mg ρ H (ns.map D.int) (ns.map V.int)
 | []=>RepL.nil
 |_::ns=>RepL.cons rfl (zjq ns)
def zlo:List D->Option (List V)
 | []=>some []
 |d::ds=>(zcz d).bind fun v=>(zlo ds).map fun r=>v::r
def zp0:D->D->Option D
 | a,.tup ds=>(match zcz a,zlo ds with
   |some x,some xs=>some (.bl (inV x xs))
   |_,_=>none)
 |_,_=>none
section
variable {X:Cx}{K:zFr}{mg:zMg}
theorem zhi{ρ H}:∀{ds:List D}{xs vs:List V},zlo ds=some xs->RepL K mg ρ H ds vs->vs=xs/\xs.all zb7=true
 | [],_,_,e,r=>by cases e;unfold RepL at r;exact⟨r,rfl⟩
 | d::ds,_,_,e,r=>by unfold RepL at r;obtain⟨v,r',rfl,r1,r2⟩:=r;obtain⟨x,q1,e⟩:=zy e;obtain⟨xs,q2,e⟩:=zah e;subst e;obtain⟨rfl,f1⟩:=jz q1 r1;obtain⟨rfl,f2⟩:=zhi q2 r2;exact⟨rfl,by rw[List.all_cons,f1,f2];rfl⟩
theorem zss:zh6 K mg (rIn K false) (fun _=>zp0):=by
 intro ρ H S x y dx dy d Q hS rx ry e k;dsimp only at e;unfold zp0 at e;split at e
 · rename_i ds;split at e
   · rename_i fx fs h1 h2;cases e;obtain⟨rfl,f1⟩:=jz h1 rx;obtain⟨p,vs,rfl,t,r⟩:=ry.refT;obtain⟨rfl,f2⟩:=zhi h2 r;exact⟨p,_,rfl,.inr t.sq,f1,f2,k _ H (Ext.refl _ _) hS rfl⟩
   · cases e
 · cases e
theorem z24{a b:Expr}{f g:E}{pos:Pos}(ha:FE X a f)(hb:FE X b g)(hm:behindInMarks .In b=false:=by rfl):FE X (.Compare a [.In] [b] pos) (e2 zp0 f g):=zhk zg7 zss ha hb hm
theorem z27{a b:Expr}{f g:E}{pos:Pos}(ha:FE X a f)(hb:FE X b g)(hm:behindInMarks .In b=false:=by rfl):FB X (.Compare a [.In] [b] pos) (bE (e2 zp0 f g)):=zb9 zg7 zss ha hb hm
end
def zhp(op op':D->D->Option D)(f g h:E):E:=fun ev S=>(f ev S).bind fun p=>(g ev p.2).bind fun q=>(op p.1 q.1).bind fun z=>match z with
 | .bl true=>(h ev q.2).bind fun r=>(op' q.1 r.1).map fun d=>(d,r.2)
 | .bl false=>some (.bl false,q.2)
 |_=>none
theorem ls1{P:List Value->Prop}(h:∀a0,P [a0])(us:List Value)(hl:us.length=1):P us:=match us,hl with
 | [a0],_=>h a0
theorem ls2{P:List Value->Prop}(h:∀a0 a1,P [a0,a1])(us:List Value)(hl:us.length=2):P us:=match us,hl with
 | [a0,a1],_=>h a0 a1
theorem ls3{P:List Value->Prop}(h:∀a0 a1 a2,P [a0,a1,a2])(us:List Value)(hl:us.length=3):P us:=match us,hl with
 | [a0,a1,a2],_=>h a0 a1 a2
theorem ls4{P:List Value->Prop}(h:∀a0 a1 a2 a3,P [a0,a1,a2,a3])(us:List Value)(hl:us.length=4):P us:=match us,hl with
 | [a0,a1,a2,a3],_=>h a0 a1 a2 a3
theorem ls5{P:List Value->Prop}(h:∀a0 a1 a2 a3 a4,P [a0,a1,a2,a3,a4])(us:List Value)(hl:us.length=5):P us:=match us,hl with
 | [a0,a1,a2,a3,a4],_=>h a0 a1 a2 a3 a4
theorem ls7{P:List Value->Prop}(h:∀a0 a1 a2 a3 a4 a5 a6,P [a0,a1,a2,a3,a4,a5,a6])(us:List Value)(hl:us.length=7):P us:=match us,hl with
 | [a0,a1,a2,a3,a4,a5,a6],_=>h a0 a1 a2 a3 a4 a5 a6
def zkh(g:As):E:=fun ev S=>(g ev S).bind fun q=>match q.1 with
 | [.tup ds]=>some (.lst ds,q.2)
 | [.lst ds]=>some (.lst ds,q.2)
 |_=>none
def zgb(op op' op2:D->D->Option D)(f g h i:E):E:=fun ev S=>(f ev S).bind fun p=>(g ev p.2).bind fun q=>(op p.1 q.1).bind fun z=>match z with
 | .bl true=>(h ev q.2).bind fun r=>(op' q.1 r.1).bind fun z=>(match z with
   | .bl true=>(i ev r.2).bind fun t=>(op2 r.1 t.1).map fun d=>(d,t.2)
   | .bl false=>some (.bl false,r.2)
   |_=>none)
 | .bl false=>some (.bl false,q.2)
 |_=>none
section
variable {X:Cx}{e:Expr}{es:List Expr}{f:E}{g:As}{p pos:Pos}
theorem zrq(hm:X.mg "list"=none)(ha:FA X (e::es) g)(hg:Gl X "list":=by rfl)(he:starEach (e::es) X.env=(false,eval e X.env)::starEach es X.env:=by exact z8 rfl)(hpl:(backTo pos (starEach es X.env)).any (·.1)=false:=by exact qz rfl):FE X (.Call (.Name "list" p) (e::es) [] pos) (zkh g) :=
 jn (zg6 zcu hg hm zek ha (by decide) (by decide) he hpl) fun σ H Q h=>by
   obtain⟨ρ,ev,S,d,S',hE,hS,hf,k⟩:=h;obtain⟨⟨x,S1⟩,q1,hf⟩:=zy hf;refine⟨ρ,ev,S,x,S1,hE,hS,q1,fun vs ρ1 H1 E1 hS1 r1=>?_⟩;have fin:∀{us:List V}{ds:List D},RepL X.K X.mg ρ1 H1 ds us->(d,S')=(D.lst ds,S1)->∀l,H1 l=none->Q (.ref l) (upd H1 l (.lst us)):=by intro us ds r e l hl;cases e;exact k _ ρ1 _ (E1.trans (jo hS1 _ hl)) (hS1.new _ hl) (Rep.lst (s:=hS1) hl r)
   dsimp only at hf;split at hf
   · obtain⟨v,rfl,r⟩:=one r1;obtain⟨b,us,rfl,t,r⟩:=r.refT;exact⟨b,us,rfl,.inr t.sq,fin r (z6j hf).symm⟩
   · obtain⟨v,rfl,r⟩:=one r1;obtain⟨b,us,rfl,t,r⟩:=r.refL;exact⟨b,us,rfl,.inl t.sq,fin r (z6j hf).symm⟩
   · cases hf
theorem zt9{R R':R2}{op op':D->D->Option D}{f g h:E}{σ:L2.St}{H:Hp}{Q:VK}(hs:zh6 X.K X.mg R fun _=>op)(hs':zh6 X.K X.mg R' fun _=>op')(h0:tE X.K X.mg (zhp op op' f g h) σ H Q):zsq R R' (tE X.K X.mg f) (tE X.K X.mg g) (tE X.K X.mg h) σ H Q:=by
 obtain⟨ρ,ev,S,d,S',hE,hS,hf,k⟩:=h0;obtain⟨⟨x,S1⟩,q1,hf⟩:=zy hf;obtain⟨⟨y,S2⟩,q2,hf⟩:=zy hf;obtain⟨z,q3,hf⟩:=zy hf;refine⟨ρ,ev,S,x,S1,hE,hS,q1,fun v ρ1 H1 E1 hS1 r1=>⟨ρ1,ev,S1,y,S2,hE.mono E1,hS1,q2,fun u ρ2 H2 E2 hS2 r2=>?_⟩⟩;refine hs ρ2 H2 _ v u x y z _ hS2 (r1.mono E2) r2 q3 fun w H3 E3 hS3 r3=>?_;dsimp only at hf;split at hf
 · obtain⟨⟨t,S4⟩,q4,hf⟩:=zy hf;obtain⟨dd,q5,hf⟩:=zah hf;cases hf;refine⟨true,r3,ρ2,ev,S2,t,S4,((hE.mono E1).mono E2).mono E3,hS3,q4,fun tv ρ4 H4 E4 hS4 r4=>?_⟩;exact hs' ρ4 H4 _ u tv y t _ _ hS4 ((r2.mono E3).mono E4) r4 q5 fun w' H5 E5 hS5 r5=>k w' ρ4 H5 ((((E1.trans E2).trans E3).trans E4).trans E5) hS5 r5
 · cases hf;exact⟨false,r3,k _ ρ2 H3 ((E1.trans E2).trans E3) hS3 rfl⟩
 · cases hf
theorem zv5{a b c:Expr}{f g h:E}{pos:Pos}(ha:FE X a f)(hb:FE X b g)(hc:FE X c h)(hm:lastMarks [.LtE,.Lt] [b,c]=false:=by with_unfolding_all rfl):FB X (.Compare a [.LtE,.Lt] [b,c] pos) (bE (zhp zeu zg8 f g h)) :=
 zdj (zqt zld zq2 ha hb hc hm) fun _ _ _ h=>zt8 (fun _ h=>zt9 zax zax h) h
def zub(r r' r2:R2)(ta tb tc td:TE):TE:=fun σ H Q=>ta σ H fun x H1=>tb σ H1 fun y H2=>r x y H2 fun z H3=>∃k,z=.bl k /\
 (if k=true then tc σ H3 fun w H4=>r' y w H4 fun z' H5=>∃k',z'=.bl k'/\(if k'=true then td σ H5 fun u H6=>r2 w u H6 Q else Q (.bl false) H5)else Q (.bl false) H3)
theorem znh{a b c d:Expr}{ta tb tc td:TE}{op op' op2:CmpOp}{r r' r3:R2}(ho:OpR X (compareOp op) r)(ho':OpR X (compareOp op') r')(ho2:OpR X (compareOp op2) r3)(ha:PE X a ta)(hb:PE X b tb)(hc:PE X c tc)(hd:PE X d td)
   (hm:lastMarks [op,op',op2] [b,c,d]=false:=by with_unfolding_all rfl):PT X (.Compare a [op,op',op2] [b,c,d] pos) (zqb (zub r r' r3 ta tb tc td)):=by
 intro pins s σ H Q I h;refine isTrue_chain (thn (ha pins s σ H _ I h) fun v s1 ⟨x,H1,I1,r1,q1⟩=>test_link (thn (hb pins s1 σ H1 _ I1 q1) fun u s2 ⟨y,H2,I2,r2,q2⟩=>
   thn (ho pins s2 σ H2 x y v u _ I2 r1 r2 q2) fun d s3 ⟨z,H3,I3,r3,k,e,q3⟩=>?_)) hm
 subst e;cases r3;refine z6v ?_;cases k with
 | false=>
   obtain⟨k',e',q'⟩:=q3;cases e';exact ite_ff ⟨H3,I3,q'⟩
 | true=>
   refine ite_tt (test_link (thn (hc pins s3 σ H3 _ I3 q3) fun w' s4 ⟨z',H4,I4,r4,q4⟩=>thn (ho' pins s4 σ H4 y z' u w' _ I4 r2 r4 q4) fun d' s5 ⟨z2,H5,I5,r5,k2,e2,q5⟩=>?_));subst e2;cases r5;refine z6v ?_;cases k2 with
   | false=>
     obtain⟨k',e',q'⟩:=q5;cases e';exact ite_ff ⟨H5,I5,q'⟩
   | true=>
     refine ite_tt (test_last (thn (hd pins s5 σ H5 _ I5 q5) fun w2 s6 ⟨z6,H6,I6,r6,q6⟩=>thn (ho2 pins s6 σ H6 z' z6 w' w2 _ I6 r4 r6 q6) fun d6 s7 ⟨z7,H7,I7,r7,k7,e7,q7⟩=>?_));subst e7;cases r7;exact z6v ⟨H7,I7,q7⟩
theorem zo3{a b c d:Expr}{f g h i:E}{pos:Pos}(ha:FE X a f)(hb:FE X b g)(hc:FE X c h)(hd:FE X d i)(hm:lastMarks [.LtE,.LtE,.LtE] [b,c,d]=false:=by with_unfolding_all rfl):FB X (.Compare a [.LtE,.LtE,.LtE] [b,c,d] pos) (bE (zgb zeu zeu zeu f g h i)) :=
 zdj (znh zld zld zld ha hb hc hd hm) fun σ H Q h=>zt8 (fun Q h0=>by
   obtain⟨ρ,ev,S,d,S',hE,hS,hf,k⟩:=h0;obtain⟨⟨x,S1⟩,q1,hf⟩:=zy hf;obtain⟨⟨y,S2⟩,q2,hf⟩:=zy hf;obtain⟨z,q3,hf⟩:=zy hf;refine⟨ρ,ev,S,x,S1,hE,hS,q1,fun v ρ1 H1 E1 hS1 r1=>⟨ρ1,ev,S1,y,S2,hE.mono E1,hS1,q2,fun u ρ2 H2 E2 hS2 r2=>?_⟩⟩;refine zax ρ2 H2 _ v u x y z _ hS2 (r1.mono E2) r2 q3 fun w H3 E3 hS3 r3=>?_;dsimp only at hf;split at hf
   · obtain⟨⟨t,S4⟩,q4,hf⟩:=zy hf;obtain⟨dd,q5,hf⟩:=zy hf;refine⟨true,r3,ρ2,ev,S2,t,S4,((hE.mono E1).mono E2).mono E3,hS3,q4,fun tv ρ4 H4 E4 hS4 r4=>?_⟩;refine zax ρ4 H4 _ u tv y t _ _ hS4 ((r2.mono E3).mono E4) r4 q5 fun w' H5 E5 hS5 r5=>?_;split at hf
     · obtain⟨⟨t6,S6⟩,q6,hf⟩:=zy hf;obtain⟨d7,q7,hf⟩:=zah hf;cases hf;refine⟨true,r5,ρ4,ev,S4,t6,S6,((((hE.mono E1).mono E2).mono E3).mono E4).mono E5,hS5,q6,fun tv6 ρ6 H6 E6 hS6 r6=>?_⟩;exact zax ρ6 H6 _ tv tv6 t t6 _ _ hS6 ((r4.mono E5).mono E6) r6 q7 fun w7 H7 E7 hS7 r7=>k w7 ρ6 H7 ((((((E1.trans E2).trans E3).trans E4).trans E5).trans E6).trans E7) hS7 r7
     · cases hf;exact⟨false,r5,k _ ρ4 H5 ((((E1.trans E2).trans E3).trans E4).trans E5) hS5 rfl⟩
     · cases hf
   · cases hf;exact⟨false,r3,k _ ρ2 H3 ((E1.trans E2).trans E3) hS3 rfl⟩
   · cases hf) h
end
mutual
def bnd(n:Nat):D->Bool
 | .obj i=>decide (i<n)
 | .tup ds=>bndL n ds
 | .lst ds=>bndL n ds
 | .clo _ ds=>bndL n ds
 |_=>true
def bndL(n:Nat):List D->Bool
 | []=>true
 |d::ds=>bnd n d&&bndL n ds
end
def zp1(n:Nat):MO->Bool
 | .lst ds=>bndL n ds
 | .ins _ fs=>bndL n (fs.map (·.2))
 | .dct kvs=>bndL n (kvs.map (·.2))
 | .exc _=>true
 | .tab _ _=>true
def frz(g:G):G:=fun ds S=>(g ds S).bind fun r=>if(r.2.take S.length).all (zp1 S.length)=true then (match r.1 with
 | .obj i=>if i<S.length then some (.obj i,r.2.take S.length)else (match r.2[i]? with
   |some (.lst us)=>if bndL S.length us=true then some (.lst us,r.2.take S.length)else none
   |_=>none)
 |d=>if bnd S.length d=true then some (d,r.2.take S.length)else none)else none
section
variable {K:zFr}{mg:zMg}{ρ ρ':List Addr}{H H':Hp}{S S1:Sto}{n:Nat}
theorem TupAt.cut{p:Addr}{vs:List V}(h:TupAt K ρ H p vs):TupAt K (ρ.take n) H p vs:=h.imp (fun⟨a,b⟩=>⟨fun z=>a (z6l z),b⟩) id
theorem LstAt.cut{p:Addr}{vs:List V}(h:LstAt K ρ H p vs):LstAt K (ρ.take n) H p vs:=h.imp (fun⟨a,b⟩=>⟨fun z=>a (z6l z),b⟩) id
theorem Cells.cut:∀{xs:List Str}{us:List V}{cl:zLA},Cells ρ H xs us cl->Cells (ρ.take n) H xs us cl
 | [],[],[],_=>trivial
 |x::xs,u::us,p::cl,h=>⟨h.1,fun z=>h.2.1 (z6l z),h.2.2.1,Cells.cut h.2.2.2⟩
 | [],[],_::_,h=>h.elim
 | [],_::_,_,h=>h.elim
 |_::_,[],_,h=>h.elim
 |_::_,_::_,[],h=>h.elim
mutual
theorem Rep.cut:∀{d:D}{v:V},bnd n d=true->Rep K mg ρ H d v->Rep K mg (ρ.take n) H d v
 | .non,_,_,h=>h
 | .bl _,_,_,h=>h
 | .int _,_,_,h=>h
 | .str _,_,_,h=>h
 | .fn _,_,_,h=>h
 | .ty _,_,_,h=>h
 | .tup ds,_,hb,h=>by unfold Rep at h ⊢;unfold bnd at hb;obtain⟨p,vs,e1,t,r⟩:=h;exact⟨p,vs,e1,t.cut,RepL.cut hb r⟩
 | .lst ds,_,hb,h=>by unfold Rep at h ⊢;unfold bnd at hb;obtain⟨p,vs,e1,t,r⟩:=h;exact⟨p,vs,e1,t.cut,RepL.cut hb r⟩
 | .obj i,_,hb,h=>by unfold Rep at h ⊢;unfold bnd at hb;obtain⟨a,e1,e2⟩:=h;exact⟨a,e1,by rw[z77 (z7h hb)];exact e2⟩
 | .lam t,_,_,h=>by unfold Rep at h ⊢;obtain⟨a,e1,n1,c,pm,ct,n2,h1,h2⟩:=h;exact⟨a,e1,fun z=>n1 (z6l z),c,pm,ct,fun z=>n2 (z6l z),h1,h2⟩
 | .clo t vs,_,hb,h=>by unfold Rep at h ⊢;unfold bnd at hb;obtain⟨a,us,e1,⟨n1,c,pm,ct,cl,n2,h1,h2,h3,h4⟩,r⟩:=h;exact⟨a,us,e1,⟨fun z=>n1 (z6l z),c,pm,ct,cl,fun z=>n2 (z6l z),h1,h2,h3,h4.cut⟩,RepL.cut hb r⟩
theorem RepL.cut:∀{ds:List D}{vs:List V},bndL n ds=true->RepL K mg ρ H ds vs->RepL K mg (ρ.take n) H ds vs
 | [],_,_,h=>h
 | d::ds,_,hb,h=>by unfold RepL at h ⊢;unfold bndL at hb;obtain⟨v,r,e,h1,h2⟩:=h;obtain⟨b1,b2⟩:=Bool.and_eq_true_iff.mp hb;exact⟨v,r,e,Rep.cut b1 h1,RepL.cut b2 h2⟩
end
theorem MOk.cut{a:Addr}{m:MO}(hb:zp1 n m=true)(h:MOk K mg ρ H a m):MOk K mg (ρ.take n) H a m:=by
 cases m with
 |lst ds=>obtain⟨vs,h1,h2⟩:=h;exact⟨vs,h1,h2.cut hb⟩
 |ins c fs=>obtain⟨C,dx,vs,h0,h1,h2,h3⟩:=h;exact⟨C,dx,vs,h0,h1,h2,h3.cut hb⟩
 |dct kvs=>obtain⟨vs,h1,h2,h3⟩:=h;exact⟨vs,h1,h2,h3.cut hb⟩
 |exc c=>exact h
 |tab x q=>obtain⟨h0,ps,h1,h2,h3⟩:=h;exact⟨h0,ps,h1,h2,fun pos cv z=>let⟨c,z1,z2,z3⟩:=h3 pos cv z;⟨c,z1,fun y=>z2 (z6l y),z3⟩⟩
theorem StOk.cut(hS:StOk K mg ρ H S)(hb:(S.take n).all (zp1 n)=true):StOk K mg (ρ.take n) H (S.take n):=by
 refine⟨by rw[z56,z56,hS.len],hS.nd.sublist (List.take_sublist _ _),fun i m a e1 e2=>?_⟩;have hi:i<n:=by have:=(z5q.mp e1).1;rw[z56]at this;omega
 have hm:m∈S.take n:=z6b e1;rw[z77 hi]at e1 e2;exact(hS.ob i m a e1 e2).cut (z6m.mp hb m hm)
theorem Ext.cut(e:Ext ρ H ρ' H')(hn:ρ.length=n):Ext ρ H (ρ'.take n) H' :=
 ⟨fun i a h=>by rw[z77 (by rw[<-hn];exact(z5q.mp h).1)];exact e.pre i a h,e.keep,fun b hb=>e.new b (z6l hb)⟩
theorem zzz{g:G}(vs:List V)(H:Hp)(Q:VK)(E:XK)(h:spG K mg (frz g) vs H Q E):spG K mg g vs H Q E:=by
 obtain⟨ρ,ds,S,d,S',hr,hS,hf,k⟩:=h;obtain⟨⟨d1,S1⟩,q1,hf⟩:=zy hf;refine⟨ρ,ds,S,d1,S1,hr,hS,q1,fun v ρ' H' E1 hS1 r1=>?_⟩;dsimp only at hf;split at hf
 · rename_i hb;have e0:=E1.cut hS.len;have s0:=hS1.cut hb;split at hf
   · rename_i i;split at hf
     · rename_i hi;cases hf;exact k v _ H' e0 s0 (r1.cut (by unfold bnd;exact z6d hi))
     · rename_i hi;split at hf
       · rename_i us eu;split at hf
         · rename_i hu;cases hf;unfold Rep at r1;obtain⟨a,rfl,ea⟩:=r1;obtain⟨ws,m1,m2⟩:=hS1.ob i _ a eu ea;refine k _ _ H' e0 s0 ?_;unfold Rep;refine⟨a,ws,rfl,.inl ⟨fun z=>?_,.inl m1⟩,m2.cut hu⟩;obtain⟨j,hj,ej⟩:=z61 z;rw[z56]at hj;rw[z9h]at ej;have hj2:j<ρ'.length:=by omega
           have e3:ρ'[j]? = ρ'[i]?:=by rw[ea,z5s hj2,ej]
           have:=(List.getElem?_inj hj2 hS1.nd).mp e3;omega
         · cases hf
       · cases hf
   · split at hf
     · rename_i hd;cases hf;exact k v _ H' e0 s0 (r1.cut hd)
     · cases hf
 · cases hf
end
theorem Cal.frz{P:Program}{w:World}{K:zFr}{mg:zMg}{base:Heap}{k:Nat}{x:Str}{g:G}(c:Cal P w K mg base k x g):Cal P w K mg base k x (frz g):=by obtain⟨f,fd,ps,ds,dvs,dds,gg,FF,hm,hk,hb,hd,hdd,hg⟩:=c.ex;refine⟨f,fd,ps,ds,dvs,dds,_root_.F.frz gg,FnOk.imp FF zzz,hm,hk,hb,hd,hdd,fun args S r e=>?_⟩;obtain⟨r0,q,e⟩:=zy e;show(gg (args++dds) S).bind _=_;rw[hg args S r0 q];exact e
end F
namespace F
open PySem L2 PySem.Spec PyProof.Rows
def zcp(is:List Nat)(body:C):List D->Ev->Sto->Option (Out×Sto)
 | [],ev,S=>some (.nx ev,S)
 | d::ds,ev,S=>match d with
   | .tup us=>(yr ev is us).bind fun e1=>(body e1 S).bind fun p=>(match p.1 with
     | .nx e=>zcp is body ds e p.2
     | .ct e=>zcp is body ds e p.2
     | .bk e=>some (.nx e,p.2)
     | .rt x=>some (.rt x,p.2))
   |_=>none
def zjo(is:List Nat)(f:E)(body:C):C:=fun ev S=>(f ev S).bind fun p=>match p.1 with
 | .lst ds=>zcp is body ds ev p.2
 |_=>none
section
variable {K:zFr}{mg:zMg}{ρ1:List Addr}{H1:Hp}{is:List Nat}{body:C}{X:Cx}
def z0y(K:zFr)(mg:zMg)(ρ1:List Addr)(H1:Hp)(is:List Nat)(body:C)(o:Out)(S':Sto)(ds:List D)(σ:L2.St)(H:Hp):Prop :=
 ∃ρ ev S,Ext ρ1 H1 ρ H/\StOk K mg ρ H S/\EnvR K mg ρ H ev σ/\zcp is body ds ev S=some (o,S')
theorem zrk{f:E}(is:List Nat){es:List Expr}{t:TGs}{kk:Nat}{pt pos:Pos}{l:Expr}{sb:List Stmt}(hn:Names X es is t)(hl:FE X l f)(hb:FSs X sb body)(hp:PassesOwn (model X.prog X.w) X.A X.env X.xe)(hc:X.calm=true:=by rfl)(hln:(assignEach es X.env).length=is.length:=by rfl)(hst:(assignEach es X.env).findIdx? (·.1)=none:=by rfl)
   (hs:∀v,foldedSetIterable l X.env v=pure v:=by intro _;rfl) :
   FS X (.For (.Tuple es kk pt) l sb [] pos) (zjo is f body) :=
 xu (zjw hp hc (zfo hl) (znn hc hn.pgs hln hst) hb hs) fun σ H D h=>by
   obtain⟨ρ,ev,S,o,S',hE,hS,hf,k⟩:=h;obtain⟨⟨d,S1⟩,q1,hf⟩:=zy hf;cases d with
   | lst ds=>
     refine⟨ρ,ev,S,_,S1,hE,hS,q1,fun v ρ1 H1 E1 hS1 r1=>?_⟩;unfold Rep at r1;obtain⟨p,vs,rfl,t1,r⟩:=r1;have k1:=k.ext E1;refine⟨p,rfl,⟨vs,t1.sq⟩,zrl (K:=X.K) (a:=p) (xs:=vs) (fun j σ' H'=>z0y X.K X.mg ρ1 H1 is body o S' (ds.drop j) σ' H') ⟨ρ1,ev,S1,Ext.refl _ _,hS1,hE.mono E1,hf⟩ (fun j σ' H' _ ⟨ρ',ev',S2,e0,_⟩=>(t1.mono e0).sq) ?_ ?_⟩
     · rintro j y σ' H' hj ⟨ρ',ev',S2,e0,hS2,hE2,hl2⟩;have hjl:j<ds.length:=by rw[r.length];exact(z5q.mp hj).1
       have ed:ds.drop j=ds[j]::ds.drop (j+1):=z67 hjl;obtain⟨y',ey,ry⟩:=(r.mono e0).get (z5s hjl);rw[hj]at ey;cases ey;rw[ed]at hl2;generalize ds[j]=dj at hl2 ry;unfold zcp at hl2;cases dj with
       | tup us=>
         dsimp only at hl2;obtain⟨e1,q2,hl2⟩:=zy hl2;obtain⟨⟨o1,S3⟩,q3,hl2⟩:=zy hl2;unfold Rep at ry;obtain⟨pp,ws,rfl,tt,rr⟩:=ry;refine⟨pp,ws,rfl,tt.sq,by rw[<-rr.length];exact zbd q2,zft hn rr hE2 q2 fun σ2 hE3=>⟨ρ',e1,S2,o1,S3,hE3,hS2,q3,?_⟩⟩;cases o1 with
         |nx e=>exact fun σ3 ρ3 H3 E3 hS3 hE4=>⟨ρ3,e,S3,e0.trans E3,hS3,hE4,hl2⟩
         |ct e=>exact fun σ3 ρ3 H3 E3 hS3 hE4=>⟨ρ3,e,S3,e0.trans E3,hS3,hE4,hl2⟩
         |bk e=>cases hl2;exact fun σ3 ρ3 H3 E3 hS3 hE4=>k1 σ3 ρ3 H3 (e0.trans E3) hS3 hE4
         |rt y=>cases hl2;exact fun v3 ρ3 H3 E3 hS3 r3=>k1 v3 ρ3 H3 (e0.trans E3) hS3 r3
       |_=>cases hl2
     · rintro σ' H' ⟨ρ',ev',S2,e0,hS2,hE2,hl2⟩;rw[z9d (by rw[r.length];exact z5o _)]at hl2;cases hl2;exact k1 σ' ρ' H' e0 hS2 hE2
   |_=>cases hf
end
def zlw(c:B)(g:E)(fr:Ev):List D->Sto->Option (List D×Sto)
 | [],S=>some ([],S)
 |d::ds,S=>(c (some d::fr) S).bind fun p=>if p.1=true then (g (some d::fr) p.2).bind fun q=>(zlw c g fr ds q.2).bind fun r=>some (q.1::r.1,r.2)else zlw c g fr ds p.2
def z5d:B:=fun _ S=>some (true,S)
inductive FT (X:Cx):List Expr->B->Prop
 |nil:FT X [] z5d
 |one {e:Expr}{u:B}:FB X e u->FT X [e] u
section
variable {X:Cx}{pins:zAO}{σ:L2.St}{H:Hp}{s:Shared}{scope:Scope}{x:Str}{N':List Str}{fr:List Nat}
theorem zzw{ifs:List Expr}{c:B}(h:FT X ifs c){Q:Bool->Hp->Prop}(I:Inv X pins σ H s)(t:tB X.K X.mg c σ H Q) :
   wpAny (model X.prog X.w) X.A (forIn ifs true fun c r=>if r=true then do let ok <-isTrue c X.env (eval c X.env);pure (ForInStep.yield ok)else pure (ForInStep.yield r)) (TP X pins σ Q) X.xe s:=by
 cases h with
 | nil=>
   obtain⟨ρ,ev,S,b,S',hE,hS,hf,k⟩:=t;cases hf;exact wpAny_tests_nil ⟨H,I,k ρ H (Ext.refl _ _) hS⟩
 |one h=>exact wpAny_tests_one (h pins s σ H Q I t)
end
section
variable {K:zFr}{mg:zMg}{ρ:List Addr}{H:Hp}{S:Sto}
variable {X:Cx}{a b e o i:Expr}{f g h:E}{pos:Pos}
theorem RepL.dropLast{ds:List D}{vs:List V}(r:RepL K mg ρ H ds vs):RepL K mg ρ H ds.dropLast vs.dropLast:=by rw[List.dropLast_eq_take,List.dropLast_eq_take,<-r.length];exact r.take _
end
structure Fly (h₀ h:Heap) (H:Hp) (a C:Addr):Prop where
 new:h₀.get? a=none
 un:H a=none
 tr:∃oe vs T oT ts,h.get? a=some oe/\oe.cls=.ref C/\oe.data=.fields vs/\vs[1]? = some (.ref T)/\h₀.get? T=none/\H T=none/\T≠a/\h.get? T=some oT/\oT.data=.fields ts/\ts[3]? = some .none
theorem zbr{h base:Heap}{xs:List Addr}:∀{l:List Env},h.FunFrames base l->(∀b∈frs l,b∈xs)->h.FunFrames (PySem.W.hideAll h xs) l
 | [],_,_=>trivial
 | env::l,⟨hk,⟨L,o,hf,hn,ho,hd⟩,hr⟩,hx=>by
   refine⟨hk,⟨L,o,hf,z74 xs (hx L ?_),ho,hd⟩,zbr hr fun b hb=>hx b ?_⟩
   · unfold frs;rw[List.filterMap_cons,hf];exact z5x ..
   · unfold frs at hb ⊢;rw[List.filterMap_cons,hf];exact z5n _ hb
structure Lft (fs:List Addr) (h₀:Heap) (H:Hp) (a C:Addr) (h h':Heap):Prop where
 keep:∀b o,h.get? b=some o->b∉fs->(∃o',h₀.get? b=some o')\/(∃u,H b=some u)->h'.get? b=some o
 slot:∀b o,h.get? b=some o->b∈fs->∃sl,h'.get? b=some { o with slots:=sl }
section
variable {M:Model}{A:Around}{E:zVP}{s:Shared}
theorem ze6{base h₀:Heap}{H:Hp}{env:Env}{outer:List Env}{L a C:Addr}{Q:Unit->Shared->Prop}(hfr:A.frames=some (env::outer))(hl:s.heap.FunFrames base (env::outer))(hf:env.frame=some L)(fl:Fly h₀ s.heap H a C)
   (hH:∀b u,H b=some u->∃o,s.heap.get? b=some o) (h0:∀b o,h₀.get? b=some o->∃o',s.heap.get? b=some o')
   (h:∀h',Fly h₀ h' H a C->Lft (frs (env::outer)) h₀ H a C s.heap h'->h'.FunFrames base (env::outer)->Q () { s with heap:=h' }):wpAny M A (leaving env (.ref a)) Q E s:=by
 obtain⟨oe,vs,T,oT,ts,he,hc,hd,h1,hT0,hTH,hTa,hT,hdT,h3⟩:=fl.tr;generalize hxs:frs (env::outer)++[a,T]=xs;have hfx:∀b∈frs (env::outer),b∈xs:=fun b hb=>by rw[<-hxs];exact z7d _ hb
 have hax:a∈xs:=by rw[<-hxs];simp
 have hTx:T∈xs:=by rw[<-hxs];simp
 refine wpAny_leaving_next (base:=PySem.W.hideAll s.heap xs) (cls:=.ref C) hfr (zbr hl hfx) hf ⟨oe,vs,T,oT,ts,he,hc,hd,h1,z74 xs hTx,hTa,hT,hdT,h3⟩ (fun b o e=>z9x xs e) (z74 xs hax) fun h' hL=>?_;obtain⟨k1,k2,k3,k4⟩:=hL;obtain⟨oe',vs',T',oT',ts',he',hc',hd',h1',hT',hTa',hT2,hdT',h3'⟩:=k3;have hTf:T'∉frs (env::outer):=fun z=>by obtain⟨_,o,ho,hnf⟩:=k2.mem z;rw[hT2]at ho;cases ho;exact hnf _ hdT'
 have hTn:s.heap.get? T'=none\/T'=T:=by
   cases q:s.heap.get? T' with
   |none=>exact .inl rfl
   | some o=>
     by_cases z:T'∈xs
     · rw[<-hxs]at z;rcases z6e.mp z with z | z
       · exact absurd z hTf
       · simp at z;exact .inr (z.resolve_left hTa')
     · rw[z8c xs q z]at hT';cases hT'
 refine h h' ⟨fl.new,fl.un,oe',vs',T',oT',ts',he',hc',hd',h1',?_,?_,hTa',hT2,hdT',h3'⟩ ⟨fun b o e nb hb=>?_,fun b o e hb=>?_⟩ (hl.of_keeps fun b o e hnf=>?_)
 · rcases hTn with z | rfl
   · cases q:h₀.get? T' with
     |none=>rfl
     |some o=>obtain⟨o',q'⟩:=h0 T' o q;rw[z]at q';cases q'
   · exact hT0
 · rcases hTn with z | rfl
   · cases q:H T' with
     |none=>rfl
     |some o=>obtain⟨o',q'⟩:=hH T' o q;rw[z]at q';cases q'
   · exact hTH
 · refine k1 b o (z8c xs e fun z=>?_);rw[<-hxs]at z;rcases z6e.mp z with z | z
   · exact nb z
   · simp at z;rcases z with rfl | rfl
     · rcases hb with⟨_,hb⟩ | ⟨u,hb⟩
       · rw[fl.new]at hb;cases hb
       · rw[fl.un]at hb;cases hb
     · rcases hb with⟨_,hb⟩ | ⟨u,hb⟩
       · rw[hT0]at hb;cases hb
       · rw[hTH]at hb;cases hb
 · obtain⟨_,o2,ho2,hnf⟩:=hl.mem hb;rw[e]at ho2;cases ho2;exact k4 b o e hnf
 · obtain⟨sl,q⟩:=k4 b o e hnf;exact⟨_,q,rfl⟩
theorem zdt{base h₀:Heap}{H:Hp}{env:Env}{outer:List Env}{L a C:Addr}{oe:Obj}{vs:Array Value}{Q:Unit->Shared->Prop}(hfr:A.frames=some (env::outer))(hl:s.heap.FunFrames base (env::outer))(hf:env.frame=some L)
   (he:s.heap.get? a=some oe) (hc:oe.cls=.ref C) (hd:oe.data=.fields vs) (h1:vs[1]? = some .none) (hn:h₀.get? a=none) (hu:H a=none)
   (hH:∀b u,H b=some u->∃o,s.heap.get? b=some o) (h0:∀b o,h₀.get? b=some o->∃o',s.heap.get? b=some o')
   (h:∀h',Fly h₀ h' H a C->Lft (frs (env::outer)) h₀ H a C s.heap h'->h'.FunFrames base (env::outer)->Q () { s with heap:=h' }):wpAny M A (leaving env (.ref a)) Q E s:=by
 generalize hxs:frs (env::outer)++[a]=xs;have hfx:∀b∈frs (env::outer),b∈xs:=fun b hb=>by rw[<-hxs];exact z7d _ hb
 have hax:a∈xs:=by rw[<-hxs];simp
 refine wpAny_leaving_first (base:=PySem.W.hideAll s.heap xs) hfr (zbr hl hfx) hf he (fun b o e=>z9x xs e) (z74 xs hax) hd h1 fun h' hL=>?_;obtain⟨k1,k2,k3,k4⟩:=hL;obtain⟨oe',vs',T',oT',ts',he',hc',hd',h1',hT',hTa',hT2,hdT',h3'⟩:=k3;have hTf:T'∉frs (env::outer):=fun z=>by obtain⟨_,o,ho,hnf⟩:=k2.mem z;rw[hT2]at ho;cases ho;exact hnf _ hdT'
 have hTn:s.heap.get? T'=none:=by
   cases q:s.heap.get? T' with
   |none=>rfl
   | some o=>
     by_cases z:T'∈xs
     · rw[<-hxs]at z;rcases z6e.mp z with z | z
       · exact absurd z hTf
       · exact absurd (z55.mp z) hTa'
     · rw[z8c xs q z]at hT';cases hT'
 refine h h' ⟨hn,hu,oe',vs',T',oT',ts',he',hc'.trans hc,hd',h1',?_,?_,hTa',hT2,hdT',h3'⟩ ⟨fun b o e nb hb=>?_,fun b o e hb=>?_⟩ (hl.of_keeps fun b o e hnf=>?_)
 · cases q:h₀.get? T' with
   |none=>rfl
   |some o=>obtain⟨o',q'⟩:=h0 T' o q;rw[hTn]at q';cases q'
 · cases q:H T' with
   |none=>rfl
   |some o=>obtain⟨o',q'⟩:=hH T' o q;rw[hTn]at q';cases q'
 · refine k1 b o (z8c xs e fun z=>?_);rw[<-hxs]at z;rcases z6e.mp z with z | z
   · exact nb z
   · rw[z55.mp z]at hb;rcases hb with⟨_,hb⟩ | ⟨u,hb⟩
     · rw[hn]at hb;cases hb
     · rw[hu]at hb;cases hb
 · obtain⟨_,o2,ho2,hnf⟩:=hl.mem hb;rw[e]at ho2;cases ho2;exact k4 b o e hnf
 · obtain⟨sl,q⟩:=k4 b o e hnf;exact⟨_,q,rfl⟩
end
def CX1(P:Program)(w:World):CXT:=fun outer H s E e s'=>
 ∃a C H',e=.ref a/\s'.os=s.os/\AllBare s'.gens/\Un (frs outer) [] H H' s.heap s'.heap/\HOk P w H' s'.heap/\Fly s.heap s'.heap H' a C/\E e (some C) H'
section
variable {X:Cx}{pins:zAO}{σ:L2.St}{H:Hp}{s:Shared}
theorem Fly.back{h₀ h₁ h:Heap}{a C:Addr}(f:Fly h₁ h H a C)(k:∀b o,h₀.get? b=some o->∃o',h₁.get? b=some o'):Fly h₀ h H a C:=by
 have n:∀b,h₁.get? b=none->h₀.get? b=none:=fun b e=>by
   cases q:h₀.get? b with
   |none=>rfl
   |some o=>obtain⟨o',q'⟩:=k b o q;rw[e]at q';cases q'
 obtain⟨oe,vs,T,oT,ts,r1,r2,r3,r4,r5,r6⟩:=f.tr;exact⟨n a f.new,f.un,oe,vs,T,oT,ts,r1,r2,r3,r4,n T r5,r6⟩
theorem zmm{fs:List Addr}{H₀:Hp}{L a C:Addr}{h₀ h h':Heap}(u:Un fs [] H₀ H h₀ h)(l:Lft (L::fs) h₀ H a C h h')(hL:h₀.get? L=none):Un fs [] H₀ H h₀ h' where
 keep:=fun b o e n nb hx=>l.keep b o (u.keep b o e n nb hx) (fun z=>(z51.mp z).elim (fun z=>by rw[z,hL]at e;cases e) nb) (.inl ⟨_,e⟩)
 slot:=fun b o e n nb hx=>by obtain⟨sl,q⟩:=u.slot b o e n nb hx;obtain⟨sl',q'⟩:=l.slot b _ q (z5n _ nb);exact⟨sl',q'⟩
 free:=u.free
 there:=fun b o e hx=>by
   obtain⟨o',q⟩:=u.there b o e hx;by_cases z:b∈L::fs
   · obtain⟨sl,q'⟩:=l.slot b _ q z;exact⟨_,q'⟩
   · exact⟨_,l.keep b _ q z (.inl ⟨_,e⟩)⟩
 tups:=u.tups
 frzs:=u.frzs
 tbls:=u.tbls
theorem zbe{P:Program}{w:World}{h:Heap}{a:Addr}{o:HO}(x:ObjOk P w H h a o):∃q,h.get? a=some q:=by
 cases o with
 |lst xs=>obtain⟨_,_,_,_,e⟩:=x;exact⟨_,e⟩
 |tup xs=>obtain⟨_,_,_,p⟩:=x;obtain⟨o,e,_⟩:=p;exact⟨_,e⟩
 |dK kvs=>obtain⟨_,_,_,_,o,_,_,e,_⟩:=x;exact⟨_,e⟩
 |dT kvs=>obtain⟨_,_,_,_,o,_,_,e,_⟩:=x;exact⟨_,e⟩
 |set S n=>obtain⟨o,_,_,_,e,_⟩:=x;exact⟨_,e⟩
 |ins C dx fs=>obtain⟨_,_,_,e,_⟩:=x;exact⟨_,e⟩
 |own y=>obtain⟨_,e⟩:=x;exact⟨_,e⟩
 |xd fs=>obtain⟨_,⟨_,_,_,e,_⟩,_⟩:=x;exact⟨_,e⟩
 |rng lo hi=>obtain⟨_,_,_,e⟩:=x;exact⟨_,e⟩
 |frz ob u=>obtain⟨e,_⟩:=x;exact⟨_,e⟩
 |tbl ps=>exact⟨_,(show h.get? a=some _ from x)⟩
 |met f y=>exact⟨_,(show h.get? a=some _ from x)⟩
 |ext φ=>obtain⟨_,⟨_,e⟩,_⟩:=x;exact⟨_,e⟩
theorem zb4{P:Program}{w:World}{fs:List Addr}{a C:Addr}{h₀ h h':Heap}(ok:HOk P w H h)(l:Lft fs h₀ H a C h h')(hf:∀b∈fs,H b=none):HOk P w H h':=fun b u e=>
 (ok b u e).stay (fun c v hc r=>by
   have ht:∃z,H c=some z:=by
     rcases hc with rfl | hc
     · exact⟨_,e⟩
     · exact⟨_,hc⟩
   obtain⟨z,hz⟩:=ht;exact l.keep c v r (fun m=>by rw[hf c m]at hz;cases hz) (.inr ⟨z,hz⟩)) (fun c r=>r) fun c xs r=>r
theorem zt6{P:Program}{w:World}{K:zFr}{mg:zMg}{base:Heap}{N:List Str}{qual:Str}{scope:Scope}{f:Addr}{cd:Value}{A:Around}{outer:List Env}{s₀:Shared}{H₀:Hp}{E:XK}{a C:Addr}
   (I:Inv (zbl (CX1 P w) P w K mg base N qual scope f cd A outer s₀ H₀ E) pins σ H s) (fl:Fly s₀.heap s.heap H a C) (hE:E (.ref a) (some C) H):(zbl (CX1 P w) P w K mg base N qual scope f cd A outer s₀ H₀ E).xe (.ref a) s:=by
 have hfs:∀b∈frs (envOfC qual scope s₀.heap.objs.size f cd::outer),H b=none:=I.stkFree;refine ze6 (base:=base) (h₀:=s₀.heap) (H:=H) (L:=s₀.heap.objs.size) I.ok.frames I.stack rfl fl (fun b u e=>zbe (I.hok b u e)) (fun b o e=>I.base.there b o e (by show b∉([]:List Addr);simp)) fun h' f1 l1 _=>?_;have l2:Lft (s₀.heap.objs.size::frs outer) s₀.heap H a C s.heap h':=l1;exact⟨a,C,H,rfl,I.os,I.bare,zmm I.base l2 (z7u (z5o _)),zb4 I.hok l1 hfs,f1,hE⟩
theorem zp2{P:Program}{w:World}{K:zFr}{mg:zMg}{base:Heap}{N:List Str}{qual:Str}{scope:Scope}{f:Addr}{cd:Value}{A:Around}{outer:List Env}{s₀:Shared}{H₀:Hp}{E:XK}{a C:Addr}{h₁:Heap}{args:List Value}
   (I:Inv (zbl (CX1 P w) P w K mg base N qual scope f cd A outer s₀ H₀ E) pins σ H s) (mk:Heap.MadeExcOf s.heap h₁ a (.ref C) args) (hE:E (.ref a) (some C) H):(zbl (CX1 P w) P w K mg base N qual scope f cd A outer s₀ H₀ E).xe (.ref a) { s with heap:=h₁ }:=by
 have I1:Inv (zbl (CX1 P w) P w K mg base N qual scope f cd A outer s₀ H₀ E) pins σ H { s with heap:=h₁ }:=I.kept (t':=s.toks) mk.keeps;obtain⟨t,he,_⟩:=mk.there;have hu:H a=none:=by
   cases q:H a with
   |none=>rfl
   |some u=>obtain⟨o,z⟩:=zbe (I.hok a u q);rw[mk.new]at z;cases z
 have hn:s₀.heap.get? a=none:=by
   cases q:s₀.heap.get? a with
   |none=>rfl
   |some o=>obtain⟨o',z⟩:=I.base.there a o q (by show a∉([]:List Addr);simp);rw[mk.new]at z;cases z
 have hfs:∀b∈frs (envOfC qual scope s₀.heap.objs.size f cd::outer),H b=none:=I1.stkFree;refine zdt (base:=base) (h₀:=s₀.heap) (H:=H) (L:=s₀.heap.objs.size) I1.ok.frames I1.stack rfl he rfl rfl rfl hn hu (fun b u e=>zbe (I1.hok b u e)) (fun b o e=>I1.base.there b o e (by show b∉([]:List Addr);simp)) fun h' f1 l1 _=>?_;have l2:Lft (s₀.heap.objs.size::frs outer) s₀.heap H a C h₁ h':=l1;exact⟨a,C,H,rfl,I1.os,I1.bare,zmm I1.base l2 (z7u (z5o _)),zb4 I1.hok l1 hfs,f1,hE⟩
theorem z2b{P:Program}{w:World}{K:zFr}{mg:zMg}{base:Heap}{N:List Str}{qual:Str}{scope:Scope}{f:Addr}{cd:Value}{A:Around}{outer:List Env}{s₀:Shared}{H₀:Hp}{E:XK} :
   zep (CX1 P w) (zbl (CX1 P w) P w K mg base N qual scope f cd A outer s₀ H₀ E) E:=fun pins σ H s e s' I h=>by
 obtain⟨a,C,H',rfl,os,bare,un,hok,fl,hE⟩:=h;have I1:Inv (zbl (CX1 P w) P w K mg base N qual scope f cd A outer s₀ H₀ E) pins σ H' s':=I.call' os un hok bare fun b hb=>absurd hb (by simp);exact zt6 I1 (fl.back fun b o e=>I.base.there b o e (by show b∉([]:List Addr);simp)) hE
end
abbrev R:=Ev->Sto->Option (Str×Sto)
def zxv(c:C)(r:R):R:=fun ev S=>(c ev S).bind fun p=>match p.1 with
 | .nx e=>r e p.2
 |_=>none
def rIf(u:B)(a b:R):R:=fun ev S=>(u ev S).bind fun p=>if p.1=true then a ev p.2 else b ev p.2
def zxw:R:=fun _ _=>none
section
variable (K:zFr) (mg:zMg)
def tR(r:R)(σ:L2.St)(H:Hp)(E:XK):Prop:=∃ρ ev S c S',EnvR K mg ρ H ev σ/\StOk K mg ρ H S/\r ev S=some (c,S')/\∃C,mg c=some (.ref C)/\∀e ρ' H',Ext ρ H ρ' H'->StOk K mg ρ' H' S'->E e (some C) H'
end
structure XE (X:Cx) (pins:zAO) (σ:L2.St) (E:XK):Prop where
 first:∀{H s a C h₁ args},Inv X pins σ H s->Heap.MadeExcOf s.heap h₁ a (.ref C) args->E (.ref a) (some C) H->X.xe (.ref a) { s with heap:=h₁ }
 pass:∀{H s e s'},Inv X pins σ H s->CX1 X.prog X.w X.stack H s E e s'->X.xe e s'
def RS(X:Cx)(st:Stmt)(r:R):Prop:=∀(pins:zAO) (s:Shared) (σ:L2.St) (H:Hp) (E:XK) (Q:Flow->Shared->Prop),XE X pins σ E->Inv X pins σ H s->tR X.K X.mg r σ H E->wpAny (model X.prog X.w) X.A (exec st X.env) Q X.xe s
def RSs(X:Cx)(sts:List Stmt)(r:R):Prop:=∀(pins:zAO) (s:Shared) (σ:L2.St) (H:Hp) (E:XK) (Q:Flow->Shared->Prop),(∀σ,XE X pins σ E)->Inv X pins σ H s->tR X.K X.mg r σ H E->wpAny (model X.prog X.w) X.A (execs sts X.env) Q X.xe s
def RTs(X:Cx)(sts:List Stmt)(r:R):Prop:=∀(pins:zAO) (s:Shared) (σ:L2.St) (H:Hp) (E:XK) (Q:Flow->Shared->Prop),XE X pins σ E->Inv X pins σ H s->tR X.K X.mg r σ H E->wpAny (model X.prog X.w) X.A (execs sts X.env) Q X.xe s
def RE(X:Cx)(e:Expr)(r:R):Prop:=∀(pins:zAO) (s:Shared) (σ:L2.St) (H:Hp) (E:XK) (Q:zVP),XE X pins σ E->Inv X pins σ H s->tR X.K X.mg r σ H E->wpAny (model X.prog X.w) X.A (eval e X.env) Q X.xe s
section
variable {X:Cx}{st:Stmt}{rest a b:List Stmt}{c:C}{u:B}{r r':R}{e:Expr}{es:List Expr}{pos p:Pos}
theorem zfn(h:RS X st r):RSs X (st::rest) r:=fun pins s σ H E Q hx I t=>z71 (h pins s σ H E _ (hx σ) I t)
theorem zql(h:RS X st r):RTs X (st::rest) r:=fun pins s σ H E Q hx I t=>z71 (h pins s σ H E _ hx I t)
theorem zqn(h1:FS X st c)(h2:RSs X rest r):RSs X (st::rest) (zxv c r):=by
 intro pins s σ H E Q hx I t;obtain⟨ρ,ev,S,nm,S',hE,hS,hf,C,hC,k⟩:=t;obtain⟨⟨o,S1⟩,q1,hf⟩:=zy hf;cases o with
 | nx e1=>
   refine z71 (thn (h1 pins s σ H { nx:=fun σ' H'=>tR X.K X.mg r σ' H' E,rt:=fun _ _=>False,bk:=fun _ _=>False,ct:=fun _ _=>False } I ⟨ρ,ev,S,.nx e1,S1,hE,hS,q1,fun σ' ρ' H' E1 hS1 hE1=>⟨ρ',e1,S1,nm,S',hE1,hS1,hf,C,hC,fun e ρ2 H2 E2 hS2=>k e ρ2 H2 (E1.trans E2) hS2⟩⟩) fun f s1 q=>?_);cases f with
   | next=>
     obtain⟨σ',H',I',q⟩:=q;exact h2 pins s1 σ' H' E Q hx I' q
   |ret v=>obtain⟨_,_,_,_,_,q⟩:=q;exact q.elim
   |brk=>obtain⟨_,_,_,q⟩:=q;exact q.elim
   |cont=>obtain⟨_,_,_,q⟩:=q;exact q.elim
 |_=>cases hf
theorem zxt{cc:Expr}(hc:FB X cc u)(ha:RSs X a r)(hb:RSs X b r'):RSs X (.If cc a b pos::rest) (rIf u r r'):=by
 intro pins s σ H E Q hx I t;obtain⟨ρ,ev,S,nm,S',hE,hS,hf,C,hC,k⟩:=t;obtain⟨⟨d,S1⟩,q1,hf⟩:=zy hf;refine z71 (wpAny_If (thn (hc pins s σ H (fun d' H1=>d'=d/\∃ρ1,Ext ρ H ρ1 H1/\StOk X.K X.mg ρ1 H1 S1) I ⟨ρ,ev,S,d,S1,hE,hS,q1,fun ρ1 H1 E1 hS1=>⟨rfl,ρ1,E1,hS1⟩⟩) fun d' s1 ⟨H1,I1,ed,ρ1,E1,hS1⟩=>?_));subst ed;cases d' with
 |true=>exact ha pins s1 σ H1 E _ hx I1 ⟨ρ1,ev,S1,nm,S',hE.mono E1,hS1,hf,C,hC,fun e ρ2 H2 E2 hS2=>k e ρ2 H2 (E1.trans E2) hS2⟩
 |false=>exact hb pins s1 σ H1 E _ hx I1 ⟨ρ1,ev,S1,nm,S',hE.mono E1,hS1,hf,C,hC,fun e ρ2 H2 E2 hS2=>k e ρ2 H2 (E1.trans E2) hS2⟩
theorem zqm:RSs X rest zxw:=fun pins s σ H E Q hx I t=>by obtain⟨ρ,ev,S,nm,S',hE,hS,hf,_⟩:=t;cases hf
theorem zsv(he:RE X e r):RS X (.Return (some e) pos) r:=fun pins s σ H E Q hx I t=>z94 (he pins s σ H E _ hx I t)
theorem zur(he:RE X e r)(hs:swapsWith e none pos.line X.env=pure false:=by rfl):RS X (.Expr e pos) r:=fun pins s σ H E Q hx I t=>wpAny_Expr_any (he pins s σ H E _ hx I t) I.quiet hs
end
abbrev GR:=List D->Sto->Option (Str×Sto)
def spR(K:zFr)(mg:zMg)(rr:GR):Sp:=fun vs H _ E=>∃ρ ds S c S',RepL K mg ρ H ds vs/\StOk K mg ρ H S/\rr ds S=some (c,S')/\∃C,mg c=some (.ref C)/\∀e ρ' H',Ext ρ H ρ' H'->StOk K mg ρ' H' S'->E e (some C) H'
structure RCal (P:Program) (w:World) (K:zFr) (mg:zMg) (base:Heap) (k:Nat) (x:Str) (g:GR):Prop where
 ex:∃(f:Addr) (fd:FuncData) (ps:List Str) (ds:List Value) (dvs:List V) (dds:List D) (gg:GR),FnOk P w K mg base (CX1 P w) k f fd ps (spR K mg gg)/\mg x=some (.ref f)/\PySem.W.keepIn K (.ref f)=true /\
   Binds K fd ps ds/\Vals dvs ds/\(∀ρ H,RepL K mg ρ H dds dvs)/\∀args S r,g args S=some r->gg (args++dds) S=some r
def zij(g:GR)(a:As):R:=fun ev S=>(a ev S).bind fun q=>g q.1 q.2
theorem z4u{X:Cx}{CX:CXT}{k:Nat}{f:Addr}{fd:FuncData}{ps:List Str}{sp:Sp}{dvs:List V}{ds:List Value}{E:XK}{pins:zAO}{σ:L2.St}{H:Hp}{s:Shared}{Q:VK}{us:List Value}{vs:List V}
   (F:FnOk X.prog X.w X.K X.mg X.base CX k f fd ps sp) (hr:Room k X.A) (hb:Binds X.K fd ps ds) (hd:Vals dvs ds) (I:Inv X pins σ H s) (hx:∀e s',CX X.stack H s E e s'->X.xe e s') (r:Vals vs us) (h:sp (vs++dvs) H Q E) :
   wpAny (model X.prog X.w) X.A (call (.ref f) us) (EP X pins σ Q) X.xe s:=by
 have r2:=r.append hd;have hl:(us++ds).length=ps.length:=r2.length.symm.trans (F.len _ _ _ _ h);refine z9r (z8x (F.run X.A X.stack s H ⟨us,[]⟩ _ _ Q E hr I.env0 (hb s us I.kIn hl) r2 h) fun r s' hq=>?_)
 match r,hq with
 | .error e,hq=>exact hx e s' hq
 | .ok (.ret u),hq=>exact I.after hq
 | .ok .next,hq=>exact hq.elim
 | .ok .brk,hq=>exact hq.elim
 | .ok .cont,hq=>exact hq.elim
section
variable {X:Cx}{e:Expr}{es:List Expr}{pos p:Pos}{k:Nat}{x:Str}{g:GR}{a:As}
theorem zii(cal:RCal X.prog X.w X.K X.mg X.base k x g)(hr:Room k X.A)(ha:FA X (e::es) a)(hg:Gl X x:=by rfl)(hdb:(x==("__debug__":Str))=false:=by decide)
   (he:starEach (e::es) X.env=(false,eval e X.env)::starEach es X.env:=by exact z8 rfl) (hpl:(backTo pos (starEach es X.env)).any (·.1)=false:=by exact qz rfl) :
   RE X (.Call (.Name x p) (e::es) [] pos) (zij g a):=by
 obtain⟨f,fd,ps,ds,dvs,dds,gg,F,hm,hk,hb,hd,hdd,hgg⟩:=cal.ex;intro pins s σ H E Q hx I t;obtain⟨ρ,ev,S,nm,S',hE,hS,hf,C,hC,kk⟩:=t;obtain⟨⟨ws,S1⟩,q1,hf⟩:=zy hf;have h:=ha pos pins s σ H (fun vs H1=>spR X.K X.mg gg (vs++dvs) H1 (fun _ _=>False) E) I ⟨ρ,ev,S,ws,S1,hE,hS,q1,fun vs ρ1 H1 E1 hS1 r1=>⟨ρ1,ws++dds,S1,nm,S',r1.append (hdd ρ1 H1),hS1,hgg ws S1 _ hf,C,hC,fun e ρ2 H2 E2 hS2=>kk e ρ2 H2 (E1.trans E2) hS2⟩⟩;refine z6y (za0 I hg hm ?_ hdb);refine z7q (h₀:=X.base) I.ok.mod.kin hk (thn h fun us s1 ⟨vs,H1,I1,r,q⟩=>⟨I1.kIn,?_⟩) he hpl;refine thn (z4u F hr hb hd I1 (fun e s' hc=>hx.pass I1 hc) r q) fun v s1 q=>?_;obtain⟨_,_,_,_,q⟩:=q;exact q.elim
end
def zgp(N n:Nat)(r:R):GR:=fun ds S=>if ds.length=n then r (ds.map some++List.replicate (N-ds.length) none) S else none
theorem z1j{P:Program}{w:World}{K:zFr}{mg:zMg}{base:Heap}{N:List Str}{qual:Str}{scope:Scope}{f:Addr}{cd:Value}{A:Around}{outer:List Env}{s₀:Shared}{H₀:Hp}{E:XK} :
   ∀pins σ,XE (zbl (CX1 P w) P w K mg base N qual scope f cd A outer s₀ H₀ E) pins σ E:=fun _ _=>⟨fun I mk hE=>zp2 I mk hE,fun I h=>z2b _ _ _ _ _ _ I h⟩
theorem FunD.rok{P:Program}{w:World}{K:zFr}{mg:zMg}{base:Heap}{x qual:Str}{st:Stmt}{f:Addr}{fd:FuncData}{dV:Value}{N ps:List Str}{k:Nat}{r:R}(F:FunD K x qual st f fd dV)(S:FnScope N ps (zj st))
   (hbody:∀(cdv:Value) (A:Around) (outer:List Env) (s:Shared) (H:Hp) (E:XK),Room k (A.deeper (envOfC qual (zj st) s.heap.objs.size f cdv)) ->
     RSs (zbl (CX1 P w) P w K mg base N qual (zj st) f cdv A outer s H E) (jg st) r):FnOk P w K mg base (CX1 P w) (k+1) f fd ps (spR K mg (zgp N.length ps.length r)):=by
 obtain⟨oc,od,kV,doc,pm,an,cdv,ct,osl,rfl,lk,hcd⟩:=F.ex;refine zrm lk hcd S (fun vs H Q E h=>?_) fun A outer s H vs Q E hr hsp=>?_
 · obtain⟨ρ,ds,S,c,S',r1,hS,hf,k⟩:=h;unfold zgp at hf;split at hf
   · rename_i hl;rw[<-r1.length];exact hl
   · cases hf
 · refine⟨fun _ σ' H'=>tR K mg r σ' H' E,fun pins s1 σ1 H1 D I t=>hbody cdv A outer s H E hr pins s1 σ1 H1 E _ (z1j pins) I t,?_⟩;obtain⟨ρ,ds,S,c,S',r1,hS,hf,kk⟩:=hsp;unfold zgp at hf;split at hf
   · rename_i hl;have hs:=EnvR.start (N:=N) r1;exact⟨ρ,_,S,c,S',hs,hS,hf,kk⟩
   · cases hf
def ExcCls(K:zFr)(mg:zMg)(c:Str):Prop :=
 ∃(C N:Addr) (nm q:Str) (bs bm bmB:List Value) (hdct:Bool) (sn:List Str) (sub:List Value) (ab:Bool) (col:Option Bool) (dd:Option Addr) (k0 k1 k2 k3 k5:Option Value) (B newId initId:String) (mN:zMg),
   mg c=some (.ref C)/\ExcBaseFacts B newId initId bmB/\bm.contains (.type "BaseException")=true/\mN "__init__"=none /\
   ∀h:Heap,K.In h->h.get? C=some (excClassObj nm q C N bs bm hdct sn sub ab col dd k0 k1 k2 k3 k5 newId)/\h.Ns N mN/\OwnTail h bmB bm
def zju(c:Str)(a:As):R:=fun ev S=>(a ev S).bind fun q=>if q.1.length<=sizeLine then some (c,q.2)else none
section
variable {X:Cx}{e:Expr}{es:List Expr}{a:As}{c:Str}{np cpos pos:Pos}
theorem zqo(hc:ExcCls X.K X.mg c)(ha:FA X (e::es) a)(hg:Gl X c:=by rfl)(he:starEach (e::es) X.env=(false,eval e X.env)::starEach es X.env:=by exact z8 rfl)(hcm:X.calm=true:=by rfl)(hdb:(c==("__debug__":Str))=false:=by decide)(hpl:(backTo cpos (starEach (e::es) X.env)).any (·.1)=false:=by exact qz rfl) :
   RS X (.Raise (some (.Call (.Name c np) (e::es) [] cpos)) none pos) (zju c a):=by
 obtain⟨C,N,nm,q,bs,bm,bmB,hdct,sn,sub,ab,col,dd,k0,k1,k2,k3,k5,B,newId,initId,mN,hm,F,hb,hi,hk⟩:=hc;intro pins s σ H E Q hx I t;obtain⟨ρ,ev,S,nm',S',hE,hS,hf,CC,hC,kk⟩:=t;obtain⟨⟨ws,S1⟩,q1,hf1⟩:=zy hf;dsimp only at hf1;split at hf1
 · rename_i hl;cases hf1;rw[hm]at hC;cases hC;refine wpAny_Raise_call_subT (nm:=nm) (q:=q) (N:=N) (bs:=bs) (hdct:=hdct) (sn:=sn) (sub:=sub) (ab:=ab) (col:=col) (dd:=dd) (k0:=k0) (k1:=k1) (k2:=k2) (k3:=k3) (k5:=k5) F hb (I.ok.hd hcm) hpl hi (za0 I hg hm ⟨rfl,?_⟩ hdb);have hA:=ha cpos pins s σ H (fun vs H1=>vs.length<=sizeLine/\∃ρ1,Ext ρ H ρ1 H1/\StOk X.K X.mg ρ1 H1 S') I ⟨ρ,ev,S,ws,S',hE,hS,q1,fun vs ρ1 H1 E1 hS1 r1=>⟨by rw[<-r1.length];exact hl,ρ1,E1,hS1⟩⟩;rw[he]at hA ⊢;refine Calls.evalArgs_plain (thn hA fun us s2 ⟨vs,H2,I2,r2,lv,ρ1,E1,hS1⟩=>?_);obtain⟨z1,z2,z3⟩:=hk s2.heap I2.kIn;exact⟨rfl,by show us.length<=_;rw[<-r2.length];exact lv,z1,z2,z3,fun h' e mk=>hx.first I2 mk (kk _ ρ1 H2 E1 hS1)⟩
 · cases hf1
end
end F
namespace F
open PySem L2 PySem.Spec PySem.Calls PyProof.Rows PySem.W
section
variable {prog:Program}{w:World}{A:Around}{E:zVP}{s:Shared}{K:zFr}{x D:Addr}
structure ExcIs (K:zFr) (D:Addr):Prop where
 ga:findIn K (.ref D) "__getattribute__"=some (some (.builtin "BaseException.__getattribute__"))
 gn:findIn K (.ref D) "__getattr__"=some none
 ha:findIn K (.ref D) "__class__"=some (some (.builtin "object.__class__"))
 hn:specialIn K (.builtin "object.__class__") "__get__"=some (some (.builtin "getset_descriptor.__get__"))
 htk:takesIn K (.builtin "object.__class__")=some true
 hm:mroIn K D (.type "object")=some true
 hb:mroIn K D (.type "BaseException")=some true
 cl:(clsIn K D).isSome=true
def OfCls(x D:Addr)(h:Heap):Prop:=∃o,h.get? x=some o/\o.cls=.ref D
theorem OfCls.type{M:Model}{h:Heap}(I:OfCls x D h):Looks M h (typeOf (.ref x)) (.ref D):=by obtain⟨o,h1,h2⟩:=I;have L:=(Looks.ld (M:=M) (part:=some headPart) h1).andThen (f:=fun o=>pure o.cls) (b:=o.cls) .now;rw[h2]at L;exact L
theorem zrt{M:Model}{h:Heap}(X:K.In h)(Z:ExcIs K D):Looks M h (Builtin.ObjectAttr.find (.ref x) (.ref D) "__class__") (.bind (.builtin "getset_descriptor.__get__") (.builtin "object.__class__")):=by refine(looks_findIn X Z.ha).andThen ?_;refine(show Looks M h (Builtin.ObjectAttr.getOf (some (.builtin "object.__class__"))) _ from looks_specialIn X Z.hn).andThen ?_;have L3:Looks M h (Builtin.ObjectAttr.dataDescriptor? (some (.builtin "object.__class__")) (some (.builtin "getset_descriptor.__get__"))) (some (.builtin "getset_descriptor.__get__",.builtin "object.__class__")):=(looks_takesIn X Z.htk).andThen .now;exact L3.andThen (Looks.tag .now)
theorem zv6{R:Result->Shared->Prop}{tp:Value}(X:K.In s.heap)(I:OfCls x D s.heap)(Z:ExcIs K D)(h:R (.ok (.ret (.ref D))) s) :
   codeAny (model prog w) A (.call (.builtin "getset_descriptor.__get__") ⟨[.builtin "object.__class__",.ref x,tp],[]⟩) R s:=by
 obtain⟨o,h1,h2⟩:=id I;obtain⟨hh,g,dr,t,os⟩:=s;have L0:=I.type (M:=model prog w);have L1:=looks_mroIn (M:=model prog w) X Z.hm;refine codeAny_call_builtin (KF.slot_gs.plain) (KF.entry_gs) (KF.slot_gs.check _ _ _ _ _ _ _ _ KF.type_class (KF.args_gs _ _ _) ?_);unfold Builtin.«getset_descriptor.__get__» Builtin.Getset_descriptor.descrGet;rw [dga_obj];refine z5m (z52 ?_);unfold Builtin.Getset_descriptor.descrGetter Builtin.Getset_descriptor.descrCheckInstance Builtin.Getset_descriptor.descrNameAndClass isInstance;simp only[KF.owner_class];repeat lk
 refine ⟨Code.quiet_builtin _ (by decide +kernel),codeAny_builtin (KF.entry_class) ?_⟩;unfold Builtin.«object.__class__» shownTypeOf;(repeat lk);exact h
theorem zo5{tk:Tok}{Q:Fin->Shared->Prop}(X:K.In s.heap)(I:OfCls x D s.heap)(Z:ExcIs K D)(h:Q (.done (.ret (.ref D))) s) :
   wpAny (model prog w) A (Builtin.«object.__getattribute__» ⟨[.ref x,.str "__class__" tk],[]⟩) Q E s:=by
 obtain⟨hh,g,d,t,os⟩:=s;have L0:=I.type (M:=model prog w);have L1:=zrt (M:=model prog w) (x:=x) X Z;unfold Builtin.«object.__getattribute__»;refine z5m (z52 (z5m (z52 (z5m (L0.at (z5m (L1.at ?_)))))));show wpAny _ _ (holding [.builtin "object.__class__"] (call (.builtin "getset_descriptor.__get__") [.builtin "object.__class__",.ref x,.ref D]) >>= ret) _ _ _;exact z5m (wpAny_holding (z9r (zv6 X I Z (z52 h))))
theorem zo7{M:Model}{nameV:Value}{Q:Unit->Shared->Prop}(X:K.In s.heap)(I:OfCls x D s.heap)(Z:ExcIs K D)(hq:Q () s) :
   wpAny M A (checkBuiltinCall "BaseException.__getattribute__" ⟨[.ref x,nameV],[]⟩) Q E s:=by
 have hk:(builtinKind "BaseException.__getattribute__")=some .slot:=by decide +kernel
 have hsplit:(splitId "BaseException.__getattribute__")=some ("BaseException", "__getattribute__"):=by decide +kernel
 have ha:=PySem.F.args_bexc_ga (.ref x) nameV;have LI:Looks M s.heap (isInstance (.ref x) (.type "BaseException")) true:=(I.type (M:=M)).andThen (looks_mroIn (M:=M) X Z.hb);simp only[checkBuiltinCall,hk,hsplit];refine z5m (LI.at ?_)
 repeat (any_goals (first | assumption | wp_step))
theorem zo6{Q:Option Value->Shared->Prop}(X:K.In s.heap)(I:OfCls x D s.heap)(Z:ExcIs K D)(h:Q (some (.ref D)) { s with toks:=s.toks+1 }) :
   wpAny (model prog w) A (getAttr? (.ref x) "__class__") Q E s:=by
 obtain⟨hh,g,d,t,os⟩:=s;have L0:=I.type (M:=model prog w);have L1:=looks_findIn (M:=model prog w) X Z.ga;have L2:=looks_findIn (M:=model prog w) X Z.gn;have f3:=z9v.ga.bind (.ref x);have hx2:(Value.builtin "BaseException.__getattribute__"==Value.builtin "object.__getattribute__")=false:=(by decide +kernel)
 unfold getAttr? getAttrBy? getAttrBy;refine z5m (wpAny_mkText (z5m (z9q (wpAny_holding (z5m (L0.at (z5m (L1.at (?_)))))))));show wpAny _ _ (if(true&&Value.builtin "BaseException.__getattribute__"==Value.builtin "object.__getattribute__")=true then _ else _) _ _ _;rw[hx2];simp only[Bool.and_false,z58,z7c];unfold getAttrByItsOwn hookBefore;show wpAny _ _ ((do let before <-typeLookup (.ref D) "__getattr__";_):Sem Value) _ _ _;refine z5m (L2.at ?_);refine z5m (z9q (wpAny_holding ?_));unfold callGetattribute boundAndCalled;simp only[z91,z58,z7c,f3,pure_bind];refine z9r (codeAny_call_builtin z9v.ga.plain PySem.F.entry_bexc_ga (zo7 X I Z (zo5 X I Z ?_)));exact z52 (z52 h)
theorem zj4(Z:ExcIs K D):KitX K (.ref x) (.ref D) (OfCls x D) where
 ty:=fun _ _ _ I=>I.type
 it:=fun M h X _=>by
   have z:=Z.cl;unfold clsIn at z;split at z
   · rename_i ho;intro A' Q' E' s' k q;exact z5m (z92 (k _ _ (X _ _ ho)) (z52 q))
   · cases z
 ne:=fun h tp dd its n sl X htp=>by
   have z:=Z.cl;refine z8p.mpr fun q=>?_;obtain rfl:D=tp:=Value.ref.inj (z7x.mp q);unfold clsIn at z;split at z
   · rename_i ho;cases(X _ _ ho).symm.trans htp
   · cases z
 ca:=fun X I k=>zo6 X I Z k
end
theorem ze9{α:Type}{q:α->Bool}:∀(l:List α) (i:Nat) (x:α),l[i]? = some x->q x=false->(l.eraseIdx i).find? q=l.find? q
 | [],_,_,h,_=>by simp at h
 | a::l,0,x,h,hq=>by simp at h;subst h;simp[List.find?_cons,hq]
 | a::l,i+1,x,h,hq=>by rw[List.eraseIdx_cons_succ,List.find?_cons,List.find?_cons,ze9 l i x (by simpa using h) hq]
theorem zra{v:Value}{x y:Str}(h:v.isStr x=true)(n:y≠x):v.isStr y=false:=by
 cases v with
 | str z t=>
   have e:z=x:=by simpa [Value.isStr] using h
   subst e;simpa [Value.isStr] using fun e=>n e.symm
 |_=>cases h
section
variable {M:Model}{A:Around}{E:zVP}{s:Shared}
theorem z0f{a:Addr}{m:zMg}{name:Str}{u:Value}{Q:Bool->Shared->Prop}(hn:s.heap.Ns a m)(hu:m name=some u)
   (hQ:∀h' m',h'.Ns a m'->(∀y,y≠name->m' y=m y)->Heap.SameBut a s.heap h'->Q true { s with heap:=h' }):wpAny M A (nsDel a name) Q E s:=by
 obtain⟨o,es,ep,ho,hd,hk,hm⟩:=id hn;obtain⟨cl,d,dt,sl⟩:=o;subst hd;cases hi:es.findIdx? (·.key.isStr name) with
 | none=>
   have z:=hm name;rw[hu]at z;unfold nsFind at z;rw[findBy_of_findIdx?,hi]at z;cases z
 | some i=>
   have hq:es.any (·.key.isStr name)=true:=by obtain⟨hlt,hp,_⟩:=z80.mp hi;exact Array.any_eq_true.mpr ⟨i,hlt,hp⟩
   have hhas:nsHas name ⟨cl,d,.dict es ep,sl⟩=pure true:=by rw[nsHas_eq];unfold nsHasByArray;simp only[hq,z7s]
   unfold nsDel;refine z5m (z92 ho ?_);rw[hhas];refine z5m (z52 (z5m (wpAny_updatePart ho (z52 ?_))));refine hQ _ (fun y=>nsFind (es.eraseIdxIfInBounds i) y) ⟨_,_,ep+1,z9j _ ho ?_,?_,hk.erase i,fun _=>rfl⟩ (fun y hy=>?_) (Heap.SameBut.update ..)
   · simp only[Obj.dropName_eq,Obj.dropNameByArray,hi];rfl
   · simp only[Obj.dropName_eq,Obj.dropNameByArray,hi]
   · obtain⟨hlt,hp,_⟩:=z80.mp hi;rw[<-hm y];unfold nsFind findBy;refine z68 (Option.map _) ?_;obtain⟨l⟩:=es;have hl:i<l.length:=by simpa using hlt
     rw[Array.eraseIdxIfInBounds,dif_pos (by simpa using hl)];have e:=ze9 (q:=fun e:DictEntry=>e.key.isStr y) l i l[i] (z5s hl) (zra (by simpa using hp) hy);simpa using e
end
section
variable {X:Cx}{pins:zAO}{σ:L2.St}{H:Hp}{s:Shared}
theorem zon{M:Model}{A:Around}{E:zVP}{i:Nat}{x:Str}{pos:Pos}{Q:Unit->Shared->Prop}(I:Inv X pins σ H s)(hN:X.N.Nodup)(hi:X.N[i]? = some x)(hx:X.env.scope.names.lookup x=some .local)
   (h:∀s',Inv X pins (σ.set i none) H s'->Q () s'):wpAny M A (do bindName X.env x .none;unbindBehindTheSuite X.env x pos) Q E s:=by
 refine z5m (wpAny_bindName (zc3 I hN hi (.inl hx) (show RelV .non .none from rfl) (fun s1 I1=>?_) (.inr hx)));have hcls:(X.env.scope.kind==.class||(X.env.scope.kind==.module&&X.env.locals != X.env.globals))=false:=by rw[I.ok.kind];rfl
 have hk:X.env.kindOf x=some .local:=hx;have hiσ:i<σ.length:=by rw[I.len];exact(z5q.mp hi).1
 obtain⟨m,hn,hl⟩:=id I1.loc;obtain⟨u,_,lk⟩:=hl i x .non hi (by rw[z6p hiσ]) (.inl hx);have hu:m x=some u:=by
   rcases lk with⟨_,e⟩ | ⟨k,_⟩
   · exact e
   · rw[hk]at k;rcases k with k | k<;>cases k
 unfold unbindBehindTheSuite;refine wpAny_onRaise ?_;unfold unbindName deleteName;refine z5m (wpAny_point (z5m ?_));simp only[hk,hcls];rw[z6i (by decide)];refine z5m (z0f hn hu fun h2 m2 hn2 hm2 hs=>?_);simp only[z83,z58,z7c];refine z52 (wpAny_point (h _ ?_));obtain⟨oL,_,_,hoL,_⟩:=id hn;have ne:∀{b:Addr}{o:Obj},X.s₀.heap.get? b=some o->b≠X.env.locals:=fun e=>z53 (z5r (z50 e) I.ok.above);refine⟨I1.ok,I1.os,I1.bare,⟨fun b o e n hb hx=>(hs.2 b (ne e)).trans (I1.base.keep b o e n hb hx),fun b o e n hb hx=>?_,I1.base.free,fun b o e hx=>?_,I1.base.tups,I1.base.frzs,I1.base.tbls⟩,⟨_,hn2,fun j y v' e1 e2 e3=>?_⟩,fun y c e=>?_,I1.free,I1.freeC,fun p hp=>?_,fun b ob e=>?_,by simpa using I1.len⟩
 · obtain⟨sl,e1⟩:=I1.base.slot b o e n hb hx;exact⟨sl,(hs.2 b (ne e)).trans e1⟩
 · obtain⟨o',e1⟩:=I1.base.there b o e hx;exact⟨o',(hs.2 b (ne e)).trans e1⟩
 · by_cases hj:j=i
   · subst hj;rw[z6p hiσ]at e2;cases e2
   · rw[z6x (z7v hj)]at e2;obtain⟨u',r',q⟩:=hl j y v' e1 (by rw[z6x (z7v hj)];exact e2) e3;refine⟨u',r',?_⟩;rcases q with⟨k,e⟩ | ⟨k,c,e,z⟩
     · exact .inl ⟨k,(hm2 y fun e=>hj (zfs hN e1 (e▸hi))).trans e⟩
     · exact .inr ⟨k,c,e,z.sameBut hs (I1.cne y c e)⟩
 · obtain⟨w',z⟩:=I1.cell y c e;exact⟨w',z.sameBut hs (I1.cne y c e)⟩
 · obtain⟨e,n,ne,nf,d⟩:=I1.pin p hp;exact⟨(hs.2 p.1 ne).trans e,n,ne,nf,d⟩
 · refine(I1.hok b ob e).stay (fun c w' hc q=>(hs.2 c ?_).trans q) (fun _ q=>q) fun _ _ q=>q;rintro rfl;rcases hc with rfl | hc
   · rw[I1.free]at e;cases e
   · rw[I1.free]at hc;cases hc
end
theorem zib{fs:List Addr}{H₀ H:Hp}{a C:Addr}{h₀ h h':Heap}(u:Un fs [] H₀ H h₀ h)(l:Lft fs h₀ H a C h h'):Un fs [] H₀ H h₀ h' where
 keep:=fun b o e n nb hx=>l.keep b o (u.keep b o e n nb hx) nb (.inl ⟨_,e⟩)
 slot:=fun b o e n nb hx=>by obtain⟨sl,q⟩:=u.slot b o e n nb hx;obtain⟨sl',q'⟩:=l.slot b _ q nb;exact⟨sl',q'⟩
 free:=u.free
 there:=fun b o e hx=>by
   obtain⟨o',q⟩:=u.there b o e hx;by_cases z:b∈fs
   · obtain⟨sl,q'⟩:=l.slot b _ q z;exact⟨_,q'⟩
   · exact⟨_,l.keep b _ q z (.inl ⟨_,e⟩)⟩
 tups:=u.tups
 frzs:=u.frzs
 tbls:=u.tbls
structure Mid (X:Cx) (H H':Hp) (s:Shared) (h:Heap) (a C:Addr):Prop where
 un:Un (frs X.stack) [] H H' s.heap h
 hok:HOk X.prog X.w H' h
 fly:Fly s.heap h H' a C
section
variable {X:Cx}{pins:zAO}{σ:L2.St}{H H':Hp}{s s':Shared}{a C:Addr}{M:Model}{E:zVP}{Q:Unit->Shared->Prop}
theorem Mid.inv{h:Heap}(m:Mid X H H' s h a C)(I:Inv X pins σ H s)(os:s'.os=s.os)(hg:AllBare s'.gens)(hh:s'.heap=h):Inv X pins σ H' s':=by subst hh;exact I.call' os m.un m.hok hg fun b hb=>absurd hb (by simp)
theorem zq5(m:Mid X H H' s s'.heap a C)(I:Inv X pins σ H s)(os:s'.os=s.os)(hg:AllBare s'.gens)(hst:X.stack=X.env::X.outer/\X.env.frame=some X.env.locals)
   (h:∀h',Mid X H H' s h' a C->Q () { s' with heap:=h' }):wpAny M X.A (leaving X.env (.ref a)) Q E s':=by
 have I1:=m.inv I os hg rfl;have hfr:=I1.ok.frames;have hl:=I1.stack;rw[hst.1]at hfr hl;refine ze6 (base:=X.base) (h₀:=s.heap) (H:=H') (L:=X.env.locals) hfr hl hst.2 m.fly (fun b u e=>zbe (m.hok b u e)) (fun b o e=>m.un.there b o e (by simp)) fun h' f1 l1 _=>?_;rw[<-hst.1]at l1;exact h h' ⟨zib m.un l1,zb4 m.hok l1 I1.stkFree,f1⟩
theorem zn3{h₁:Heap}{args:List Value}(I:Inv X pins σ H s)(mk:Heap.MadeExcOf s.heap h₁ a (.ref C) args)(hst:X.stack=X.env::X.outer/\X.env.frame=some X.env.locals)
   (h:∀h',Mid X H H s h' a C->Q () { s with heap:=h' }):wpAny M X.A (leaving X.env (.ref a)) Q E { s with heap:=h₁ }:=by
 have I1:Inv X pins σ H { s with heap:=h₁ }:=I.kept (t':=s.toks) mk.keeps;obtain⟨t,he,_⟩:=mk.there;have hu:H a=none:=by
   cases q:H a with
   |none=>rfl
   |some u=>obtain⟨o,z⟩:=zbe (I.hok a u q);rw[mk.new]at z;cases z
 have hfr:=I1.ok.frames;have hl:=I1.stack;rw[hst.1]at hfr hl;refine zdt (base:=X.base) (h₀:=s.heap) (H:=H) (L:=X.env.locals) hfr hl hst.2 he rfl rfl rfl mk.new hu (fun b u e=>zbe (I1.hok b u e)) (fun b o e=>⟨o,mk.keeps b o e⟩) fun h' f1 l1 _=>?_;rw[<-hst.1]at l1;exact h h' ⟨zib (Un.kept mk.keeps) l1,zb4 I1.hok l1 I1.stkFree,f1⟩
theorem zvh{A:Around}(m:Mid X H H' s s'.heap a C)(I:Inv X pins σ H s)(os:s'.os=s.os)(hg:AllBare s'.gens)
   (h:∀h',Mid X H H' s h' a C->Q () { s' with heap:=h' }):wpAny M A (setFlight (.ref a) none) Q E s':=by
 have I1:=m.inv I os hg rfl;obtain⟨oe,vs,T,oT,ts,he,hc,hd,h1,hT0,hTH,hTa,hT,hdT,h3⟩:=m.fly.tr;have h3s:3<ts.size:=(Array.getElem?_eq_some_iff.mp h3).1;unfold setFlight;refine z5m (wpAny_field he hd h1 ?_);rw[z6a (show(Value.ref T != Value.none)=true by simp)];refine wpAny_setField hT hdT h3s (h _ ?_);have oth:∀b,b≠T->(s'.heap.update T (Obj.mapFields (·.setIfInBounds 3 ((none:Option Addr).elim Value.none fun f=>rawInt f)))).get? b=s'.heap.get? b:=fun b hb=>z9c _ _ (z7v hb);have l1:Lft (frs X.stack) s.heap H' a C s'.heap (s'.heap.update T (Obj.mapFields (·.setIfInBounds 3 ((none:Option Addr).elim Value.none fun f=>rawInt f)))):=by
   refine⟨fun b o e nb hb=>?_,fun b o e hb=>?_⟩
   · refine(oth b fun z=>?_).trans e;subst z;rcases hb with⟨_,hb⟩ | ⟨_,hb⟩
     · rw[hT0]at hb;cases hb
     · rw[hTH]at hb;cases hb
   · refine⟨o.slots,(oth b fun z=>?_).trans e⟩;subst z;obtain⟨_,o2,ho2,hnf⟩:=I1.stack.mem hb;rw[hT]at ho2;cases ho2;exact hnf _ hdT
 refine⟨zib m.un l1,zb4 m.hok l1 I1.stkFree,m.fly.new,m.fly.un,oe,vs,T,_,_,(oth a (z7v hTa)).trans he,hc,hd,h1,hT0,hTH,hTa,z9j _ hT (Obj.isFreed_of_fields (Obj.data_mapFields hdT _)),Obj.data_mapFields hdT _,by simp[h3s]⟩
theorem Mid.held{h:Heap}(m:Mid X H H' s h a C):Un (frs X.stack) [] H (upd H' a (.ext (OfCls a C))) s.heap h/\HOk X.prog X.w (upd H' a (.ext (OfCls a C))) h:=by
 have ne:∀{b:Addr}{o:HO},H' b=some o->b≠a:=fun e z=>by subst z;rw[m.fly.un]at e;cases e
 refine⟨⟨m.un.keep,m.un.slot,fun b o e n hx=>?_,m.un.there,fun b xs e=>?_,fun b o u e=>?_,fun b ps e=>?_⟩,fun b u e=>?_⟩
 · rw[qf (fun z=>by subst z;rw[m.fly.new]at e;cases e)];exact m.un.free b o e n hx
 · have q:=m.un.tups b xs e;rw[qf (ne q)];exact q
 · have q:=m.un.frzs b o u e;rw[qf (ne q)];exact q
 · obtain⟨more,q⟩:=m.un.tbls b ps e;exact⟨more,by rw[qf (ne q)];exact q⟩
 · by_cases hb:b=a
   · subst hb;rw[qq]at e;cases e;obtain⟨oe,vs,T,oT,ts,he,hc,hd,_⟩:=m.fly.tr;refine⟨⟨oe,he,hc⟩,⟨oe,he⟩,fun h1 h2 ⟨o,q1,q2⟩ k=>⟨o,k o q1,q2⟩⟩
   · rw[qf hb]at e;refine(m.hok b u e).stay (fun c w hc q=>q) (fun c q=>?_) fun c xs q=>?_
     · rw[qf (ne q)];exact q
     · rw[qf (ne q)];exact q
end
def Cat(K:zFr)(mg:zMg)(c T:Str):Prop :=
 ∃C CT,mg c=some (.ref C)/\mg T=some (.ref CT)/\mroIn K C (.ref CT)=some true/\mroIn K CT (.type "BaseException")=some true/\typeIn K (.ref CT)=some (.type "type")/\(clsIn K CT).isSome=true
section
variable {K:zFr}{A:Around}{E:zVP}{s:Shared}{M:Model}{x C CT:Addr}
theorem zo4{Q:Bool->Shared->Prop}(X:K.In s.heap)(I:OfCls x C s.heap)(h1:mroIn K C (.ref CT)=some true)(h2:mroIn K CT (.type "BaseException")=some true)(h3:typeIn K (.ref CT)=some (.type "type"))(h4:(clsIn K CT).isSome=true)(hq:Q true s) :
   wpAny M A (excMatches (.ref x) (.ref CT)) Q E s:=by
 have L0:=I.type (M:=M);have L1:=looks_mroIn (M:=M) X h1;have L2:=looks_mroIn (M:=M) X h2;have L3:=looks_typeIn (M:=M) X h3;have L4:Looks M s.heap (isInstance (.ref CT) (.type "tuple")) false:=L3.andThen (Looks.of_pure tc_notTuple);have L5:Looks M s.heap (isType (.ref CT)) true:=by
   unfold clsIn at h4;split at h4
   · rename_i ho;intro A' Q' E' s' k q;exact z5m (z92 (k _ _ (X _ _ ho)) (z52 q))
   · cases h4
 have L6:Looks M s.heap (isExcClass (.ref CT)) true:=by unfold isExcClass;refine L5.andThen ?_;rw[z6a rfl];exact L2
 obtain⟨hh,g,d,t,os⟩:=s;unfold excMatches;refine z5m (L4.at ?_);simp only[z58,z7c,pure_bind,z8l,List.forIn_nil,bind_assoc];refine z5m (L6.at ?_);simp only[z83,z58,z7c,pure_bind];refine z5m (L0.at ?_);refine z5m (L1.at ?_);simp only[z7s,pure_bind];exact z52 hq
end
def zxq(c:C)(r:R)(cat:Str->Bool)(i:Nat)(d:C):C:=fun ev S=>match c ev S with
 |some (.nx e,S1)=>some (.nx e,S1)
 |some (.rt x,S1)=>some (.rt x,S1)
 |some _=>none
 | none=>(r ev S).bind fun p=>if cat p.1=true then (d (ev.set i (some (.obj p.2.length))) (p.2++[.exc p.1])).bind fun q=>(match q.1 with
   | .nx e=>some (.nx (e.set i none),q.2)
   | .rt x=>some (.rt x,q.2)
   |_=>none)else none
theorem EnvR.unset{K mg ρ H}{ev:Ev}{σ:L2.St}(h:EnvR K mg ρ H ev σ)(i:Nat):EnvR K mg ρ H (ev.set i none) (σ.set i none):=by
 refine⟨by rw[z7m,z7m];exact h.len,fun j x q=>?_⟩;by_cases hj:j=i
 · subst hj;have hi:j<ev.length:=by
     have:=(z5q.mp q).1
     rwa [z7m]at this
   rw[z6p hi]at q;cases q
 · rw[z6x (z7v hj)]at q ⊢;exact h.at_ j x q
abbrev Cx.inExc(X:Cx)(v:Option Value)(xe:zVP):Cx:={ X with A:=X.A.mark v,calm:=false,xe:=xe }
section
variable {X:Cx}{pins:zAO}{σ:L2.St}{H H':Hp}{s s':Shared}
theorem Inv.toExc(I:Inv X pins σ H s)(v:Option Value)(xe:zVP):Inv (Cx.inExc X v xe) pins σ H s :=
 ⟨⟨I.ok.mod,I.ok.kind,I.ok.glob,I.ok.blt,I.ok.above,I.ok.inj,I.ok.has,I.ok.cab,(fun h=>nomatch h),I.ok.frames,I.ok.stk,I.ok.exf,I.ok.bs,I.ok.bsz,I.ok.noex,I.ok.exfs,I.ok.funs,I.ok.frf⟩,I.os,I.bare,I.base,I.loc,I.cell,I.free,I.freeC,I.pin,I.hok,I.len⟩
theorem Inv.ofExc{v:Option Value}{xe:zVP}(I:Inv (Cx.inExc X v xe) pins σ H s)(ok:X.Ok):Inv X pins σ H s :=
 ⟨ok,I.os,I.bare,I.base,I.loc,I.cell,I.free,I.freeC,I.pin,I.hok,I.len⟩
variable {body suite:List Stmt}{b0:Stmt}{c d:C}{r:R}{T n:Str}{np pos' pos:Pos}{cat:Str->Bool}{Q:Flow->Shared->Prop}
theorem ze8{i:Nat}{H0:Hp}{ρ ρ':List Addr}{ev:Ev}{S1 S':Sto}{o:Out}{cls:Str}{a C:Addr}{D:Ends}(hs:∀v xe,FSs (Cx.inExc X v xe) (b0::suite) d)(hN:X.N.Nodup)(hi:X.N[i]? = some n)(hx:X.env.scope.names.lookup n=some .local)
   (hcat:Cat X.K X.mg cls T) (hg:Gl X T) (hdb:(T==("__debug__":Str))=false) (I:Inv X pins σ H s) (m:Mid X H H' s s'.heap a C) (os:s'.os=s.os) (hb:AllBare s'.gens) (hE:EnvR X.K X.mg ρ H0 ev σ)
   (e1:Ext ρ H0 ρ' H') (hS:StOk X.K X.mg ρ' H' S1) (hC:X.mg cls=some (.ref C))
   (hf:((d (ev.set i (some (.obj S1.length))) (S1++[.exc cls])).bind fun q=>(match q.1 with
     | .nx e=>some (Out.nx (e.set i none),q.2)
     | .rt x=>some (.rt x,q.2)
     |_=>none))=some (o,S')) (k:Post X.K X.mg D S' ρ H0 o) :
   wpAny (model X.prog X.w) X.A (handleBy (.ref a) X.env [.ExceptHandler (some (.Name T np)) (some n) (b0::suite) pos']) (SP X pins D) X.xe s':=by
 obtain⟨C',CT,hc1,hc2,h1,h2,h3,h4⟩:=hcat;rw[hC]at hc1;cases hc1;have I1:=m.inv I os hb rfl;have Im:=Inv.toExc I1 (some (.ref a)) (notedBy (model X.prog X.w) (X.A.mark (some (.ref a))) X.env (cameBackBy (model X.prog X.w) X.A X.env X.xe));have oc:OfCls a C s'.heap:=by obtain⟨oe,vs,T,oT,ts,he,hc,_⟩:=m.fly.tr;exact⟨oe,he,hc⟩
 refine wpAny_handleBy_cons (codeAny_handlers_test (za0 (X:=Cx.inExc X (some (.ref a)) _) Im hg hc2 (zo4 I1.kIn oc h1 h2 h3 h4 ?_) hdb)) (by intro q;cases q);refine codeAny_handlers_suite_as (zvh m I os hb fun h6 m6=>?_);obtain⟨un6,hok6⟩:=m6.held;have I6:Inv X pins σ (upd H' a (.ext (OfCls a C))) { s' with heap:=h6 }:=I.call' os un6 hok6 hb fun b hb=>absurd hb (by simp);have I6m:=Inv.toExc I6 (some (.ref a)) (AsSuiteRaised (model X.prog X.w) (X.A.mark (some (.ref a))) X.env n pos' (notedBy (model X.prog X.w) (X.A.mark (some (.ref a))) X.env (cameBackBy (model X.prog X.w) X.A X.env X.xe)));refine zc3 (X:=Cx.inExc X (some (.ref a)) _) (v:=.ref a) I6m hN hi (.inl hx) rfl (fun s7 I7=>?_) (.inr hx);obtain⟨⟨o2,S2⟩,q2,hf⟩:=zy hf;have e2:Ext ρ' H' (ρ'++[a]) (upd H' a (.ext (OfCls a C))):=zcm hS _ m.fly.un;have hS2:StOk X.K X.mg (ρ'++[a]) (upd H' a (.ext (OfCls a C))) (S1++[.exc cls]):=hS.add m.fly.un ⟨C,hC,qq⟩;have hE2:EnvR X.K X.mg (ρ'++[a]) (upd H' a (.ext (OfCls a C))) (ev.set i (some (.obj S1.length))) (σ.set i (some (.ref a))):=by refine EnvR.set (hE.mono (e1.trans e2)) ?_ i;unfold Rep;refine⟨a,rfl,?_⟩;rw[z59 (by rw[hS.len]<;>exact z5o _),hS.len];simp
 have go:=hs (some (.ref a)) _ pins s7 _ _ { nx:=fun σ' H2=>D.nx (σ'.set i none) H2,rt:=D.rt,bk:=fun _ _=>False,ct:=fun _ _=>False } I7 ⟨_,_,_,o2,S2,hE2,hS2,q2,by
   cases o2 with
   |nx e=>cases hf;exact fun σ' ρ2 H2 x1 x2 x3=>k _ ρ2 H2 ((e1.trans e2).trans x1) x2 (x3.unset i)
   |rt x=>cases hf;exact fun v ρ2 H2 x1 x2 x3=>k v ρ2 H2 ((e1.trans e2).trans x1) x2 x3
   |_=>cases hf⟩
 refine thn go fun f s8 q=>?_;cases f with
 | next=>
   obtain⟨σ8,H8,I8,q⟩:=q;exact zon (Inv.ofExc I8 I.ok) hN hi hx fun s9 I9=>⟨_,H8,I9,q⟩
 | ret u=>
   obtain⟨v,σ8,H8,I8,r8,q⟩:=q;exact zon (Inv.ofExc I8 I.ok) hN hi hx fun s9 I9=>⟨v,_,H8,I9,r8,q⟩
 |brk=>obtain⟨_,_,_,q⟩:=q;exact q.elim
 |cont=>obtain⟨_,_,_,q⟩:=q;exact q.elim
end
section
variable {M:Model}{A:Around}{E:zVP}{s:Shared}{env:Env}
theorem zmr{bd els:Sem Flow}{k₀:ExceptHandler}{ks:List ExceptHandler}{Q:Flow->Shared->Prop}
   (h:wpAny M A bd (fun f s₁=>match f with | .next=>wpAny M A els Q E s₁ | f=>Q f s₁) (fun e s₁=>wpAny M A (leaving env e) (fun _ s₂=>wpAny M A (handleBy e env (k₀::ks)) Q E s₂) E s₁) s) :
   wpAny M A (tryStmt false bd (k₀::ks) els [] env) Q E s:=by
 unfold tryStmt;simp only[List.isEmpty_nil,z7s,List.isEmpty_cons,z58,z7c,z91];refine z5m (z9q (z7f h (fun f s₁ h₁=>?_) fun e s₁ h₁=>?_))
 · cases f<;>first | exact h₁ | exact z52 h₁
 · show wpAny M A (noteFrame e env >>= fun _=>setFlight e none >>= fun _=>handleBy e env (k₀::ks)) Q E s₁;rw[<-bind_assoc];exact z5m h₁
end
section
variable {X:Cx}{body suite:List Stmt}{b0:Stmt}{c d:C}{r:R}{T n:Str}{np pos' pos:Pos}{cat:Str->Bool}
theorem zzy(i:Nat)(hb:∀xe,FSs (X.wish xe) body c)(hr:∀xe,RTs (X.wish xe) body r)(hs:∀v xe,FSs (Cx.inExc X v xe) (b0::suite) d)(hN:X.N.Nodup)(hcat:∀c,cat c=true->Cat X.K X.mg c T)
   (hi:X.N[i]? = some n:=by rfl) (hx:X.env.scope.names.lookup n=some .local:=by rfl) (hst:X.stack=X.env::X.outer/\X.env.frame=some X.env.locals:=by exact⟨rfl,rfl⟩) (hg:Gl X T:=by rfl) (hdb:(T==("__debug__":Str))=false:=by decide) :
   FS X (.Try body [.ExceptHandler (some (.Name T np)) (some n) (b0::suite) pos'] [] [] pos) (zxq c r cat i d):=by
 intro pins s σ H D I t;obtain⟨ρ,ev,S,o,S',hE,hS,hf,k⟩:=t;rw[arm_exec_Try];refine z5m (wpAny_standAt (zmr ?_));generalize hW:(fun e s₁=>wpAny (model X.prog X.w) X.A (leaving X.env e) (fun _ s₂=>wpAny (model X.prog X.w) X.A (handleBy e X.env [.ExceptHandler (some (.Name T np)) (some n) (b0::suite) pos']) (SP X pins D) X.xe s₂) X.xe s₁)=W;unfold zxq at hf;split at hf
 · rename_i e1 S1 q;cases hf;refine thn (hb W pins s σ H { nx:=D.nx,rt:=fun _ _=>False } (I.wish W) ⟨ρ,ev,S,.nx e1,_,hE,hS,q,k⟩) fun f s1 z=>?_;cases f with
   | next=>
     obtain⟨σ1,H1,I1,z⟩:=z;exact z9t ⟨σ1,H1,I1.unwish,z⟩
   |ret u=>obtain⟨_,_,_,_,_,z⟩:=z;exact z.elim
   |brk=>obtain⟨_,_,_,z⟩:=z;exact z.elim
   |cont=>obtain⟨_,_,_,z⟩:=z;exact z.elim
 · rename_i x1 S1 q;cases hf;refine thn (hb W pins s σ H { nx:=fun _ _=>False,rt:=D.rt } (I.wish W) ⟨ρ,ev,S,.rt x1,_,hE,hS,q,k⟩) fun f s1 z=>?_;cases f with
   |next=>obtain⟨_,_,_,z⟩:=z;exact z.elim
   | ret u=>
     obtain⟨v,σ1,H1,I1,r1,z⟩:=z;exact⟨v,σ1,H1,I1.unwish,r1,z⟩
   |brk=>obtain⟨_,_,_,z⟩:=z;exact z.elim
   |cont=>obtain⟨_,_,_,z⟩:=z;exact z.elim
 · cases hf
 · obtain⟨⟨cls,S1⟩,q1,hf⟩:=zy hf;dsimp only at hf;split at hf
   · rename_i hc;have ct:=hcat cls hc;obtain⟨C,CT,hC,_⟩:=id ct;refine hr W pins s σ H (fun e oC H'=>∃ρ',oC=some C/\Ext ρ H ρ' H'/\StOk X.K X.mg ρ' H' S1) _ ?_ (I.wish W) ⟨ρ,ev,S,cls,S1,hE,hS,q1,C,hC,fun e ρ' H' x1 x2=>⟨ρ',rfl,x1,x2⟩⟩;subst hW;refine⟨fun {H1 s1 a C1 h₁ args} I1 mk hE1=>?_,fun {H1 s1 e s2} I1 hx1=>?_⟩
     · obtain⟨ρ',rfl',x1,x2⟩:=hE1;cases rfl';exact zn3 I1.unwish mk hst fun h' m=>ze8 hs hN hi hx ct hg hdb I1.unwish m rfl I1.bare hE x1 x2 hC hf k
     · obtain⟨a,C1,H',rfl,os,bare,un,hok,fl,ρ',rfl',x1,x2⟩:=hx1;cases rfl';exact zq5 ⟨un,hok,fl⟩ I1.unwish os bare hst fun h' m=>ze8 hs hN hi hx ct hg hdb I1.unwish m os bare hE x1 x2 hC hf k
   · cases hf
end
def zsb:List Value:=[.type "ValueError",.type "Exception",.type "BaseException",.type "object"]
theorem zjl{K:zFr}:∀{l:List Value},tailIn K zsb l=true->l.contains (.type "BaseException")=true
 | [],e=>by cases(z7x.mp e)
 | v::r,e=>by
   unfold tailIn at e;rcases Bool.or_eq_true_iff.mp e with q | q
   · rw[z7x.mp q];decide +kernel
   · split at q
     · split at q
       · simp only[z6g,z7x]at q;rw[List.contains_cons,zjl q.2,Bool.or_true]
       · cases q
     · cases q
theorem zz9{K:zFr}{mg:zMg}{c:Str}{C:Addr}(hm:mg c=some (.ref C))(q:excIn K C zsb "ValueError.__new__"=true):ExcCls K mg c:=by
 unfold excIn at q;split at q
 · rename_i dd cd sl ho;split at q
   · rename_i C' bm k0 k1 k2 k3 n k5 hmro hs;simp only[z6g,z7x,Bool.not_eq_true']at q;obtain⟨⟨⟨⟨⟨rfl,rfl⟩,hdel⟩,ht⟩,hok⟩,hni⟩:=q;obtain⟨nm,bs,mro,ns,qn,hd,sn,sub,ab,col,del⟩:=cd;dsimp only at hmro hdel hok hni;subst hmro;subst hdel;have hsl:sl=#[k0,k1,k2,k3,some (.builtin "ValueError.__new__"),k5]:=by
       cases sl with
       |mk l=>simp only at hs;subst hs;rfl
     subst hsl;unfold nsOkIn at hok;split at hok
     · rename_i oc od es ep osl hN;have hk:StrKeys es:=fun e he=>by
         have z:=Array.all_eq_true_iff_forall_mem.mp hok e he;cases hkey:e.key with
         |str n t=>exact⟨n,t,rfl⟩
         |_=>rw[hkey]at z;cases z
       have hi:nsFind es "__init__"=none:=by
         unfold nsIn at hni;rw[hN]at hni;dsimp only at hni;split at hni
         · cases hni
         · rename_i he;unfold nsFind findBy;rw[<-Array.find?_toList,he];rfl
       refine⟨_,ns,nm,qn,bs,bm,zsb,hd,sn,sub,ab,col,dd,k0,k1,k2,k3,k5, "ValueError", "ValueError.__new__", "ValueError.__init__",nsFind es,hm,PySem.F.excBase_ValueError,?_,hi,fun h X=>⟨X _ _ ho,⟨_,es,ep,X _ _ hN,rfl,hk,fun _=>rfl⟩,tail_of_in X ht⟩⟩;exact zjl ht
     · cases hok
   · cases q
 · cases q
def ExcI(K:zFr)(mg:zMg)(c:Str):Prop:=∃C,mg c=some (.ref C)/\ExcIs K C/\kitOne K (.ref C) (.type "ValueError")=some true
def IsF(K:zFr)(mg:zMg)(c d:Str)(b:Bool):Prop:=∃C D,mg c=some (.ref C)/\mg d=some (.ref D)/\kitOne K (.ref C) (.ref D)=some b
structure Up where
 raised:List Str
 asked:List Str
def Up.is(u:Up)(c d:Str):Option Bool:=if c∈u.raised/\d∈u.asked then some (decide (d=c\/d="ShelfError"))else none
def zv3:List D->Option (List Str)
 | []=>some []
 | .fn d::r=>(zv3 r).map (d::·)
 |_=>none
def Up.any(u:Up)(c:Str):List Str->Option Bool
 | []=>some false
 |d::r=>(u.is c d).bind fun b=>if b=true then some true else u.any c r
def Up.ask(u:Up)(c:Str):D->Option Bool
 | .fn d=>u.is c d
 | .ty n=>if c∈u.raised/\n="ValueError" then some true else none
 | .tup ds=>if c∈u.raised then (zv3 ds).bind (u.any c)else none
 |_=>none
def zth(u:Up)(S:Sto):List D->Option D
 | [.obj i,d]=>match S[i]? with
   |some (.exc c)=>(u.ask c d).map .bl
   |_=>none
 |_=>none
def Up.cat(u:Up)(c:Str):Bool:=decide (c∈u.raised)
structure UpOk (K:zFr) (mg:zMg) (u:Up):Prop where
 ct:∀c∈u.raised,Cat K mg c "ShelfError"
 ei:∀c∈u.raised,ExcI K mg c
 is_:∀c∈u.raised,∀d∈u.asked,IsF K mg c d (decide (d=c\/d="ShelfError"))
section
variable {X:Cx}{e:Expr}{es:List Expr}{g:As}{p pos:Pos}{u:Up}
def z3v(K:zFr)(mg:zMg):List V->Hp->VK->Prop:=fun xs H Q=>∃a C b y,xs=[.ref a,y]/\H a=some (.ext (OfCls a C))/\ExcIs K C /\
 ((∃w,RelV y w/\(∀w',RelV y w'->w'=w)/\kitOne K (.ref C) w=some b)\/(∃q ys its,y=.ref q/\SqT K H q ys/\Vals ys its/\(∀its',Vals ys its'->its'=its)/\kitAny K (.ref C) its=some b))/\Q (.bl b) H
theorem zr4:CallR X (.builtin "isinstance") (z3v X.K X.mg):=by
 intro pins s σ H xs us Q I r h;obtain⟨a,C,b,y,rfl,ha,hz,hk,q⟩:=h;obtain⟨u1,u2,rfl,r1,r2⟩:∃u1 u2,us=[u1,u2]/\RelV (.ref a) u1/\RelV y u2:=by
   cases r with
   | cons p q=>
     cases q with
     |cons p' q'=>cases q';exact⟨_,_,rfl,p,p'⟩
 cases(show u1=Value.ref a from r1);have oc:OfCls a C s.heap:=(I.hok a _ ha).1;rcases hk with⟨w,rw_,un,hk⟩ | ⟨q',ys,its,rfl,sq,vs,un,hk⟩
 · rw[un _ r2];exact kia_one (zj4 hz) I.kIn oc hk (fun z=>nomatch z) fun tk=>⟨.bl _,H,I.tok tk,rfl,q⟩
 · cases(show u2=Value.ref q' from r2);obtain⟨its2,v2,⟨o,h1,h2,h3⟩,_⟩:=I.tuple sq;rw[un _ v2]at h3;obtain⟨oc',od,odt,osl⟩:=o;obtain⟨n,h3⟩:=h3;dsimp only at h2 h3;subst h2;subst h3;exact kia_tup (zj4 hz) I.kIn oc h1 hk (fun z=>nomatch z) fun tk=>⟨.bl _,H,I.tok tk,rfl,q⟩
theorem ztj{K:zFr}{mg:zMg}{ρ:List Addr}{H:Hp}:∀{ds:List D}{xs:List Str}{ys:List V},zv3 ds=some xs->RepL K mg ρ H ds ys->∃as:List Addr,ys=as.map V.ref/\xs.map mg=as.map fun a=>some (Value.ref a)
 | [],xs,ys,e,r=>by unfold RepL at r;subst r;cases e;exact⟨[],rfl,rfl⟩
 | d::ds,xs,ys,e,r=>by
   unfold RepL at r;obtain⟨v,r',rfl,h1,h2⟩:=r;cases d with
   | fn d=>
     obtain⟨l,e1,e2⟩:=zah e;subst e2;unfold Rep at h1;obtain⟨A,rfl,hA⟩:=h1;obtain⟨as,q1,q2⟩:=ztj e1 h2;exact⟨A::as,by rw[q1];rfl,by rw[z5v,z5v,hA,q2]⟩
   |_=>cases e
theorem zby:∀(as:List Addr),Vals (as.map V.ref) (as.map Value.ref)/\∀its,Vals (as.map V.ref) its->its=as.map Value.ref
 | []=>⟨.nil,fun its h=>by cases h;rfl⟩
 | a::as=>⟨.cons rfl (zby as).1,fun its h=>by
   cases h with
   |cons p q=>rw[(zby as).2 _ q,show _=Value.ref a from p];rfl⟩
theorem zt1{K:zFr}{mg:zMg}(h:UpOk K mg u){c:Str}{C:Addr}(hc:c∈u.raised)(hC:mg c=some (.ref C)):∀{xs:List Str}{as:List Addr}{b:Bool},xs.map mg=(as.map fun a=>some (Value.ref a))->u.any c xs=some b ->
   kitAny K (.ref C) (as.map Value.ref)=some b
 | [],as,b,q,e=>by
   cases as with
   |nil=>cases e;rfl
   |cons _ _=>cases q
 | d::xs,as,b,q,e=>by
   cases as with
   |nil=>cases q
   | cons A as=>
     rw[z5v,z5v,z7n]at q;obtain⟨b1,e1,e2⟩:=zy e;unfold Up.is at e1;split at e1
     · rename_i hz;obtain⟨C',D',x1,x2,x3⟩:=h.is_ c hc d hz.2;rw[hC]at x1;cases x1;rw[q.1]at x2;cases x2;rw[z6j e1]at x3;unfold List.map kitAny;rw[x3];cases b1 with
       |true=>rw[z6a rfl]at e2;exact e2
       |false=>rw[z6i (by decide)]at e2;exact zt1 h hc hC q.2 e2
     · cases e1
theorem zun{K:zFr}{mg:zMg}(h:UpOk K mg u):zws K mg (z3v K mg) (zth u):=by
 intro ρ H S xs ds d Q hS r e k;unfold zth at e;split at e
 · rename_i i d';split at e
   · rename_i c hi;obtain⟨b,e1,e2⟩:=zah e;subst e2;obtain⟨v,w,rfl,r1,r2⟩:=two r;unfold Rep at r1;obtain⟨a,rfl,ha⟩:=r1;obtain⟨C,hC,hH⟩:=hS.ob i _ a hi ha;unfold Up.ask at e1;split at e1
     · rename_i dn;unfold Rep at r2;obtain⟨A,rfl,hA⟩:=r2;unfold Up.is at e1;split at e1
       · rename_i hz;obtain⟨C',D',x1,x2,x3⟩:=h.is_ c hz.1 dn hz.2;rw[hC]at x1;cases x1;rw[hA]at x2;cases x2;rw[z6j e1]at x3;obtain⟨C',y1,y2,_⟩:=h.ei c hz.1;rw[hC]at y1;cases y1;exact⟨a,C,b,_,rfl,hH,y2,.inl ⟨.ref A,rfl,fun _ z=>z,x3⟩,k _ H (Ext.refl _ _) hS rfl⟩
       · cases e1
     · rename_i n;split at e1
       · rename_i hz;cases e1;obtain⟨C',y1,y2,y3⟩:=h.ei c hz.1;rw[hC]at y1;cases y1;rw[show w=.ty n from r2,hz.2];exact⟨a,C,true,_,rfl,hH,y2,.inl ⟨.type "ValueError",rfl,fun _ z=>z,y3⟩,k _ H (Ext.refl _ _) hS rfl⟩
       · cases e1
     · rename_i ds';split at e1
       · rename_i hz;obtain⟨xs,e1,e2⟩:=zy e1;obtain⟨p,vs,rfl,tt,rl⟩:=r2.refT;obtain⟨as,q1,q2⟩:=ztj e1 rl;obtain⟨C',y1,y2,y3⟩:=h.ei c hz;rw[hC]at y1;cases y1;refine⟨a,C,b,_,rfl,hH,y2,.inr ⟨p,vs,as.map Value.ref,rfl,tt.sq,?_,?_,zt1 h hz hC q2 e2⟩,k _ H (Ext.refl _ _) hS rfl⟩
         · rw[q1];exact(zby as).1
         · rw[q1];exact(zby as).2
       · cases e1
     · cases e1
   · cases e
 · cases e
theorem zo1(h:UpOk X.K X.mg u)(hm:X.mg "isinstance"=none)(ha:FA X (e::es) g)(hg:Gl X "isinstance":=by rfl)(he:starEach (e::es) X.env=(false,eval e X.env)::starEach es X.env:=by exact z8 rfl)(hpl:(backTo pos (starEach es X.env)).any (·.1)=false:=by exact qz rfl) :
   FE X (.Call (.Name "isinstance" p) (e::es) [] pos) (eA (zth u) g) :=
 zhm zr4 (zun h) hm (by with_unfolding_all rfl) ha hg (by decide) (by decide) he hpl
end
section
variable {K:zFr}{mg:zMg}{h:Heap}
theorem zkl{C:Addr}(h8:hasDictIn K C=true):(clsIn K C).isSome=true:=by obtain⟨cd,hc,_⟩:=any_some h8;rw[hc];rfl
theorem has_exc(KX:K.In h)(G:h.Ns mainGlobals mg){c:Str}{C:Addr}(a:nsIn K mainGlobals c=some (some (.ref C)))(q:excIn K C zsb "ValueError.__new__"=true):ExcCls K mg c:=zz9 (mg_of KX G a) q
theorem has_ei(KX:K.In h)(G:h.Ns mainGlobals mg){c:Str}{C:Addr}(a:nsIn K mainGlobals c=some (some (.ref C)))(h1:findIn K (.ref C) "__getattribute__"=some (some (.builtin "BaseException.__getattribute__")))(h2:findIn K (.ref C) "__getattr__"=some none)
   (h3:findIn K (.ref C) "__class__"=some (some (.builtin "object.__class__"))) (h4:specialIn K (.builtin "object.__class__") "__get__"=some (some (.builtin "getset_descriptor.__get__"))) (h5:takesIn K (.builtin "object.__class__")=some true) (h6:mroIn K C (.type "object")=some true)
   (h7:mroIn K C (.type "BaseException")=some true) (h8:hasDictIn K C=true) (h9:kitOne K (.ref C) (.type "ValueError")=some true):ExcI K mg c:=⟨C,mg_of KX G a,⟨h1,h2,h3,h4,h5,h6,h7,zkl h8⟩,h9⟩
theorem has_is(KX:K.In h)(G:h.Ns mainGlobals mg){c d:Str}{C D:Addr}{b:Bool}(a:nsIn K mainGlobals c=some (some (.ref C)))(a':nsIn K mainGlobals d=some (some (.ref D)))(q:kitOne K (.ref C) (.ref D)=some b):IsF K mg c d b:=⟨C,D,mg_of KX G a,mg_of KX G a',q⟩
theorem has_cat(KX:K.In h)(G:h.Ns mainGlobals mg){c d:Str}{C D:Addr}(a:nsIn K mainGlobals c=some (some (.ref C)))(a':nsIn K mainGlobals d=some (some (.ref D)))(h1:mroIn K C (.ref D)=some true)(h2:mroIn K D (.type "BaseException")=some true)
   (h3:typeIn K (.ref D)=some (.type "type")) (h4:hasDictIn K D=true):Cat K mg c d:=⟨C,D,mg_of KX G a,mg_of KX G a',h1,h2,h3,zkl h4⟩
theorem has_val(KX:K.In h)(G:h.Ns mainGlobals mg){c:Str}{C:Addr}(a:nsIn K mainGlobals c=some (some (.ref C))):∃f,mg c=some (.ref f):=⟨C,mg_of KX G a⟩
theorem is_of{c d:Str}{b:Bool}(h:IsF K mg c d b)(e:b=decide (d=c\/d="ShelfError"):=by decide +kernel):IsF K mg c d (decide (d=c\/d="ShelfError")):=e▸h
theorem all_nil{P:Str->Prop}:∀x∈([]:List Str),P x:=fun _ h=>nomatch h
theorem all_cons{P:Str->Prop}{a:Str}{l:List Str}(h:P a)(t:∀x∈l,P x):∀x∈a::l,P x:=fun x hx=>by
 rcases z51.mp hx with rfl | hx
 · exact h
 · exact t x hx
theorem UpOk.cat{u:Up}(h:UpOk K mg u):∀c,u.cat c=true->Cat K mg c "ShelfError":=fun c e=>h.ct c (z7h e)
theorem boot_ValueError:bootBuiltins "ValueError"=some (.type "ValueError"):=by with_unfolding_all rfl
end
section
variable {P:Program}{w:World}{K:zFr}{mg:zMg}{base:Heap}{x c m qual:Str}{st:Stmt}{N ps:List Str}{k:Nat}{r:R}
def z3l(P:Program)(w:World)(K:zFr)(mg:zMg)(base:Heap)(N:List Str)(qual:Str)(st:Stmt)(k:Nat)(r:R):Prop :=
 ∀(f:Addr) (cdv:Value) (A:Around) (outer:List Env) (s:Shared) (H:Hp) (E:XK),Room k (A.deeper (envOfC qual (zj st) s.heap.objs.size f cdv))->RSs (zbl (CX1 P w) P w K mg base N qual (zj st) f cdv A outer s H E) (jg st) r
theorem HasDef.rcal(h:HasDef K mg x st 0)(S:FnScope N ps (zj st))(hb:zt5 x x st ps)(hbody:z3l P w K mg base N x st k r):RCal P w K mg base (k+1) x (zgp N.length ps.length r):=by obtain⟨f,fd,dV,F,hm,rfl⟩:=h.ex;exact⟨f,fd,ps,[],[],[],_,F.rok S fun cdv A outer s H E hr=>hbody f cdv A outer s H E hr,hm,F.kp,F.binds0 hb,.nil,fun _ _=>RepL.nil,fun args S r e=>by rw[z6f];exact e⟩
end
def yo(x:Str)(lo hi:Option Int):Str:=if((Builtin.Str.strSliceIndices lo hi 1 x.length).length==x.length)=true then x else ⟨((Builtin.Str.strSliceIndices lo hi 1 x.length).filterMap (x.cps[·]?)).toArray⟩
def zvb:D->Option Int->Option Int->Option D
 | .str x,lo,hi=>if(yo x lo hi).length<=sizeLine then some (.str (yo x lo hi))else none
 |_,_,_=>none
def zwf(f:E)(a b:Pt):E:=fun ev S=>(f ev S).bind fun p=>(a ev p.2).bind fun q=>(b ev q.2).bind fun r=>(zvb p.1 q.1 r.1).map fun d=>(d,r.2)
section
variable {X:Cx}{K:zFr}{mg:zMg}{e a b:Expr}{es:List Expr}{f g:E}{ga:As}{p pos:Pos}
def z4x:V->Option Int->Option Int->Hp->VK->Prop:=fun x lo hi H Q=>∃z,x=.str z/\(yo z lo hi).length<=sizeLine/\Q (.str (yo z lo hi)) H
theorem zxj:SlR X z4x:=by
 intro pins s σ H x v vl vu lo hi sl Q I rx hs pl pu h;obtain⟨z,rfl,hz,q⟩:=h;obtain⟨t,rfl⟩:=rx;have hp:∀{v:Value}{o:Option Int},IsPart v o->∃l:Option (Int×Tok),v=partValue l/\l.map (·.1)=o:=fun h=>by
   cases h with
   |none=>exact⟨none,rfl,rfl⟩
   |int i t=>exact⟨some (i,t),rfl,rfl⟩
 obtain⟨l,rfl,rfl⟩:=hp pl;obtain⟨u,rfl,rfl⟩:=hp pu;refine⟨"str",_,PySem.F.slot_str_getitem.lookup,typeIs_str s z t,?_⟩;refine wpAny_getItem_str_slice (l:=l) (u:=u) (st:=none) hs rfl ?_;unfold sliceMade;by_cases c:((slicePicked z l u none).length==z.length)=true
 · rw[z6a (by rw[c];rfl)];have e:yo z (l.map (·.1)) (u.map (·.1))=z:=z6a c;rw[e]at q;exact⟨.str z,H,I,⟨t,rfl⟩,q⟩
 · rw[z6i (fun w=>c (by simpa using w))];have e:yo z (l.map (·.1)) (u.map (·.1))=⟨((slicePicked z l u none).filterMap (z.cps[·]?)).toArray⟩:=z6i c;rw[e]at q hz;exact⟨hz,.str _,H,I.tok _,⟨_,rfl⟩,q⟩
theorem zhj{lo hi:Option Expr}{u w:Pt}{p2:Pos}(ha:FE X a f)(hl:FPt X lo u)(hh:FPt X hi w):FE X (.Subscript a (.Slice lo hi none p2) pos) (zwf f u w) :=
 jn (zjy zxj ha hl hh) fun σ H Q h=>by
   obtain⟨ρ,ev,S,d,S',hE,hS,hf,k⟩:=h;obtain⟨⟨x,S1⟩,q1,hf⟩:=zy hf;obtain⟨⟨lo,S2⟩,q2,hf⟩:=zy hf;obtain⟨⟨hi,S3⟩,q3,hf⟩:=zy hf;obtain⟨z,q4,hf⟩:=zah hf;cases hf;refine⟨ρ,ev,S,x,S1,hE,hS,q1,fun v ρ1 H1 E1 hS1 r1=>⟨ρ1,ev,S1,lo,S2,hE.mono E1,hS1,q2,fun ρ2 H2 E2 hS2=>⟨ρ2,ev,S2,hi,_,(hE.mono E1).mono E2,hS2,q3,fun ρ3 H3 E3 hS3=>?_⟩⟩⟩;have r3:=(r1.mono E2).mono E3;have E:=(E1.trans E2).trans E3;cases x with
   | str y=>
     replace q4:(if(yo y lo hi).length<=sizeLine then some (D.str (yo y lo hi))else none)=some d:=q4;split at q4
     · rename_i hn;cases q4;exact⟨y,r3.refS,hn,k _ _ _ E hS3 rfl⟩
     · cases q4
   |_=>cases q4
end
theorem zr0{c:Addr}{q:Str}(h1 h2:Heap)(p:yq c q h1)(k:∀o,h1.get? c=some o->h2.get? c=some o):yq c q h2:=by obtain⟨c',o,vs,t,e,h,r⟩:=p;cases e;exact⟨_,o,vs,t,rfl,k _ h,r⟩
theorem zr1{c:Addr}{q:Str}{h:Heap}(p:yq c q h):∃o,h.get? c=some o:=by obtain⟨c',o,vs,t,e,h,r⟩:=p;cases e;exact⟨_,h⟩
theorem zl8{p:Pos}{a b:Int}{cv x:Value}(l:List Value)(h:TriplesOk l):codeAmong p (l++[rawInt a,rawInt b,cv])=some x->codeAmong p l=some x\/x=cv:=by
 fun_induction TriplesOk l with
 | case1=>
   intro e;simp only[List.nil_append,rawInt,codeAmong]at e;split at e
   · exact .inr (z6j e).symm
   · cases e
 | case2 i t j u c rest ih=>
   intro e;simp only[List.cons_append,codeAmong]at e ⊢;split at e
   · rename_i z;rw[z6a z];exact .inl e
   · rename_i z;rw[z6i z];exact ih h e
 |case3=>exact h.elim
section
variable {X:Cx}{pins:zAO}{σ:L2.St}{H:Hp}{s:Shared}
theorem zog{P c:Addr}{ps more:Array Value}{q:Str}{h':Heap}{tk:Nat}(I:Inv X pins σ H s)(hP:H P=some (.tbl ps))(hx:Heap.ExtBut P s.heap h')(ht:h'.get? P=some (tabObj (ps++more)))(hge:s.heap.objs.size<=c)(hc:yq c q h') :
   Inv X pins σ (upd (upd H P (.tbl (ps++more))) c (.ext (yq c q))) { s with heap:=h',toks:=tk }:=by
 have hn:H c=none:=I.hok.fresh hge;have hPc:P≠c:=z53 (z5r (I.hok.lt hP) hge);have neP:∀b,H b=none->b≠P:=fun b n z=>by rw[z,hP]at n;cases n
 have nec:∀b u,H b=some u->b≠c:=fun b u e z=>by rw[z,hn]at e;cases e
 have kp:∀b o,s.heap.get? b=some o->b≠P->h'.get? b=some o:=fun b o e n=>hx b o n e;have keepH:∀b u,H b=some u->(∀ps,u≠.tbl ps)->upd (upd H P (.tbl (ps++more))) c (.ext (yq c q)) b=some u:=fun b u e n=>by rw[qf (nec b u e),qf (fun z=>by rw[z,hP]at e;cases e;exact n ps rfl)];exact e
 refine I.un ⟨fun b o e n _ _=>kp b o e (neP b n),fun b o e n _ _=>⟨o.slots,kp b o e (neP b n)⟩,fun b o e n _=>?_,fun b o e _=>?_,fun b xs e=>keepH b _ e (fun _ z=>by cases z),fun b o u e=>keepH b _ e (fun _ z=>by cases z),fun b qs e=>?_⟩ fun b u e=>?_
 · have hb:b<s.heap.objs.size:=z50 e;rw[qf (z53 (z5r hb hge)),qf (neP b n)];exact n
 · by_cases z:b=P
   · exact⟨_,z▸ht⟩
   · exact⟨o,kp b o e z⟩
 · by_cases z:b=P
   · subst z;rw[hP]at e;cases e;exact⟨more,by rw[qf hPc,qq]⟩
   · exact⟨#[],by rw[qf (nec b _ e),qf z,e];simp⟩
 · by_cases zc:b=c
   · subst zc;rw[qq]at e;cases e;exact⟨hc,zr1 hc,fun h1 h2 p k=>zr0 h1 h2 p k⟩
   · rw[qf zc]at e;by_cases z:b=P
     · subst z;rw[qq]at e;cases e;exact ht
     · rw[qf z]at e;refine(I.hok b u e).stay (fun d o hd w=>?_) (fun d w=>keepH d _ w fun _ y=>by cases y) fun d xs w=>keepH d _ w fun _ y=>by cases y
       refine kp d o w fun y=>?_;rcases hd with rfl | hd
       · exact z y
       · rw[y,hP]at hd;cases hd
theorem zoh{t:LT}{c:Addr}{pm ct:Value}{h':Heap}{tk:Nat}(I:Inv X pins σ H s)(hk:∀b o,s.heap.get? b=some o->h'.get? b=some o)(hsz:s.heap.objs.size<=h'.objs.size) :
   Inv X pins σ (upd H h'.objs.size (.ext (ztc t h'.objs.size c pm ct))) { s with heap:=h'.push (kla_obj "<lambda>" t.qual t.params t.body t.scope t.cl pm c ct),toks:=tk }:=by
 refine I.laid (t':=tk) (fun b o e=>z5p _ (hk b o e)) hsz ?_;refine⟨z6c _ rfl,⟨_,z6c _ rfl⟩,fun h1 h2 p k=>k _ p⟩
end
def zrw(j:Nat)(x:Str)(t:LT):E:=fun _ S=>match S[j]? with
 |some (.tab x' q)=>if x'=x/\q=t.qual then some (.lam t,S)else none
 |_=>none
def zbc(K:Frag)(mg:zMg)(x:Str)(cdv:Value):Prop:=∃(f:Addr) (o:Obj) (fd:FuncData),mg x=some (.ref f)/\K.lookup f=some o/\o.data=.func fd/\fd.code=cdv
def zmb(base:Heap)(mg:zMg):Prop:=∃(bm:Addr) (o:Obj),mg "__builtins__"=some (.ref bm)/\bm≠builtinsNs/\bm≠mainGlobals/\base.get? bm=some o/\o.cls=.type "module"/\o.dict=some builtinsNs/\o.data=.plain
section
variable {X:Cx}{x:Str}{params:Arguments}{body:Expr}{scope:Scope}{pos:Pos}
theorem zjm{K mg ρ H}{S:Sto}(hS:StOk K mg ρ H S){j:Nat}{P c:Addr}{x q:Str}{ps:Array Value}{a b:Int}(hj:S[j]? = some (.tab x q))(hP:ρ[j]? = some P)(hps:H P=some (.tbl ps))(hn:H c=none) :
   Ext ρ H ρ (upd (upd H P (.tbl (ps++#[rawInt a,rawInt b,.ref c]))) c (.ext (yq c q)))/\StOk K mg ρ (upd (upd H P (.tbl (ps++#[rawInt a,rawInt b,.ref c]))) c (.ext (yq c q))) S:=by
 have cf:c∉ρ:=hS.fresh hn;have hPc:P≠c:=fun z=>cf (z▸z6b hP);have e0:Ext ρ H ρ (upd (upd H P (.tbl (ps++#[rawInt a,rawInt b,.ref c]))) c (.ext (yq c q))) :=
   ⟨fun _ _ e=>e,fun d u e n=>by
     rw[qf (a:=c) (fun(z:d=c)=>by rw[z,hn]at e;cases e),qf (a:=P) (fun(z:d=P)=>n (by rw[z];exact z6b hP))];exact e,fun _ z n=>absurd z n⟩
 refine⟨e0,hS.len,hS.nd,fun i m d e1 e2=>?_⟩;by_cases hi:i=j
 · subst hi;rw[hj]at e1;cases e1;rw[hP]at e2;cases e2;obtain⟨T,ps',h1,h2,h3⟩:=hS.ob i _ P hj hP;rw[hps]at h1;cases h1;refine⟨T,_,by rw[qf hPc,qq],by rw[Array.toList_append];exact TriplesOk_snoc a b _ _ h2,fun pos cv z=>?_⟩;rw[Array.toList_append]at z;rcases zl8 _ h2 z with y | y
   · obtain⟨c',z1,z2,z3⟩:=h3 pos cv y;exact⟨c',z1,z2,e0.keep _ _ z3 z2⟩
   · exact⟨c,y,cf,qq⟩
 · have q:=hS.ob i m d e1 e2;obtain⟨u,z⟩:=q.some;exact q.mono e0 (by rw[qf (a:=c) (fun(y:d=c)=>by rw[y,hn]at z;cases z),qf (a:=P) (fun(y:d=P)=>hi (zj0 hS.nd (by rw[e2,y]) hP))])
theorem ziw(j:Nat){caps:List Str}{cl:zLA}(hcd:zbc X.K X.mg x X.env.code)(hb:zmb X.base X.mg)(hcl:closureFor scope X.env=pure cl)(hdef:defaultsOf params X.env=([],[]):=by rfl) :
   FE X (.Lambda params body scope pos) (zrw j x ⟨params,body,scope,X.env.qual++"<lambda>",caps,cl⟩):=by
 intro pins s σ H Q I h;obtain⟨ρ,ev,S,d,S',hE,hS,hf,k⟩:=h;unfold zrw at hf;split at hf
 · rename_i x' q hj;split at hf
   · rename_i hxq;obtain⟨rfl,rfl⟩:=hxq;cases hf;obtain⟨P,hP,T,ps,hps,htr,hcs⟩:=hS.adr hj;obtain⟨f1,o1,fd1,c1,e1,e2,e3,e4,e5⟩:=T;obtain⟨f2,o2,fd2,g1,g2,g3,g4⟩:=hcd;rw[e1]at g1;cases g1;rw[e2]at g2;cases g2;rw[e3]at g3;cases g3;have hcode:X.env.code=.ref c1:=g4.symm.trans e4;have C:CodeHd s.heap c1 P:=codeHd_of_K I.kIn e5;have hPt:s.heap.get? P=some (tabObj ps):=I.hok P _ hps;have bs:=I.bs;have nP:∀b o,X.base.get? b=some o->b≠P:=fun b o e z=>by have:=(bs b o e).2;rw[z,hps]at this;cases this
     have hg:s.heap.Ns mainGlobals X.mg:=by obtain⟨o,es,ep,ho,r⟩:=I.mod.glob;exact⟨o,es,ep,I.bk _ _ ho,r⟩
     have hgP:mainGlobals≠P:=by obtain⟨o,es,ep,ho,r⟩:=I.mod.glob;exact nP _ _ ho
     obtain⟨bm,ob,b1,b2,b3,b4,b5,b6,b7⟩:=hb;have hBA:s.heap.BuiltinsAt X.mg P:=⟨bm,ob,b1,b2,b3,nP _ _ b4,I.bk _ _ b4,b5,b6,b7⟩
     refine kla_eval hdef ?_;cases hca:codeAmong pos ps.toList with
     | none=>
       refine kla_makeFunction hcl I.ok.glob hg hcode C hPt htr hca hgP hBA fun c' ctv h' tk hx hge hlt hrec htb=>?_;have hn:H c'=none:=I.hok.fresh hge;have I1:=zog (q:=X.env.qual++"<lambda>") (tk:=tk) I hps hx htb hge hrec;have I2:=zoh (t:=⟨params,body,scope,X.env.qual++"<lambda>",caps,cl⟩) (c:=c') (pm:=(X.mg "__name__").getD .none) (ct:=ctv) (h':=h') (tk:=tk) I1 (fun _ _ e=>e) (z5o _);obtain⟨E1,S1⟩:=zjm (a:=pos.line) (b:=pos.col) hS hj hP hps hn;have hf:=I1.hok.fresh (a:=h'.objs.size) (z5o _);have E2:=jo S1 (.ext (ztc ⟨params,body,scope,X.env.qual++"<lambda>",caps,cl⟩ h'.objs.size c' ((X.mg "__name__").getD .none) ctv)) hf;refine⟨.ref h'.objs.size,_,I2,rfl,k _ ρ _ (E1.trans E2) (S1.new _ hf) ?_⟩;unfold Rep;exact⟨_,rfl,S1.fresh hf,c',_,_,hS.fresh hn,qq,by rw[qf (z53 hlt),qq]⟩
     | some cv=>
       obtain⟨c',rfl,nc,hc'⟩:=hcs pos cv hca;refine kla_makeFunctionHit hcl I.ok.glob hg hcode C hPt htr hca hBA fun ctv h' tk hk hsz=>?_;have hf:H h'.objs.size=none:=I.hok.fresh hsz;have I2:=zoh (t:=⟨params,body,scope,X.env.qual++"<lambda>",caps,cl⟩) (c:=c') (pm:=(X.mg "__name__").getD .none) (ct:=ctv) (h':=h') (tk:=tk) I hk hsz;have E2:=jo hS (.ext (ztc ⟨params,body,scope,X.env.qual++"<lambda>",caps,cl⟩ h'.objs.size c' ((X.mg "__name__").getD .none) ctv)) hf;refine⟨.ref h'.objs.size,_,I2,rfl,k _ ρ _ E2 (hS.new _ hf) ?_⟩;unfold Rep;exact⟨_,rfl,hS.fresh hf,c',_,_,nc,qq,E2.keep _ _ hc' nc⟩
   · cases hf
 · cases hf
theorem zz4(j:Nat)(hcd:zbc X.K X.mg x X.env.code)(hb:zmb X.base X.mg)(hdef:defaultsOf params X.env=([],[]):=by rfl)(hcl:closureFor scope X.env=pure []:=by rfl) :
   FE X (.Lambda params body scope pos) (zrw j x ⟨params,body,scope,X.env.qual++"<lambda>",[],[]⟩):=ziw j hcd hb hcl hdef
end
def zbv(N n:Nat)(f:E):G:=fun ds S=>if ds.length=n then f (ds.map some++List.replicate (N-ds.length) none) S else none
def z1g(t:LT)(a c:Addr)(pm ct:Value)(H:Hp):Prop:=H a=some (.ext (ztc t a c pm ct))/\H c=some (.ext (yq c t.qual))
section
variable {P:Program}{w:World}{K:Frag}{mg:zMg}{base:Heap}{k:Nat}{t:LT}{N ps:List Str}{f:E}
theorem zpp{N n:Nat}{ds:List D}{S:Sto}{r:D×Sto}(h:zbv N n f ds S=some r):ds.length=n:=by
 unfold zbv at h;split at h
 · rename_i e;exact e
 · cases h
theorem zy7(S:FnScope N ps t.scope)(h0:t.cl=[])(a c:Addr)(pm ct:Value)
   (hbody:∀(A:Around) (outer:List Env) (s:Shared) (H:Hp) (E:XK),Room k (A.deeper (envOfC t.qual t.scope s.heap.objs.size a (.ref c)))->FE (zbl CX0 P w K mg base N t.qual t.scope a (.ref c) A outer s H E).nox t.body f) :
   FnOk P w K mg base CX0 (k+1) a (kla_fn "<lambda>" t.qual t.params t.body t.scope [] pm (.ref c) ct) ps (fun vs H Q E=>z1g t a c pm ct H/\spG K mg (zbv N.length ps.length f) vs H Q E):=by
 have len:∀vs H Q E,(z1g t a c pm ct H/\spG K mg (zbv N.length ps.length f) vs H Q E)->vs.length=ps.length:=fun vs H Q E h=>by obtain⟨_,ρ,ds,S,d,S',r,hS,hf,_⟩:=h;rw[<-r.length];exact zpp hf
 refine⟨len,fun A outer s H args us vs Q E hr e0 hb r hsp=>?_⟩;have hl:=len _ _ _ _ hsp;obtain⟨⟨hA,hC⟩,ρ,ds,S0,d,S',rr,hS,hf,kk⟩:=hsp;have lim:s.heap.NoLimit:=e0.mod.nolimit.keeps fun b o e=>(e0.bs b o e).1;have ho:s.heap.get? a=some (kla_obj "<lambda>" t.qual t.params t.body t.scope [] pm c ct):=by have:=(e0.hok a _ hA).1;unfold ztc at this;rw[h0]at this;exact this
 have hcd:s.heap.CodeRec (.ref c) t.qual:=(e0.hok c _ hC).1;have hkind:∀y∈ps.zip us,t.scope.names.lookup y.1=some .local\/(t.scope.names.lookup y.1=some .cell/\((cellsFrom (s.heap.objs.size+1) t.scope.names []).lookup y.1).isSome=true):=fun⟨n,v⟩ hy=>by
   rcases S.par n (z7l hy).1 with q | q
   · exact .inl q
   · exact .inr ⟨q,cellsFrom_some _ _ _ (.inl q)⟩
 refine kla_callFunE hr.depth ho rfl S.co S.gen rfl hcd (hb _ _ _ _ ?_);refine z8u S.kind hkind fun env he s1 x=>?_;subst he;refine⟨lim.keeps x.toInCall.keep,kla_codeExpr ?_⟩;have I:Inv (zbl CX0 P w K mg base N t.qual t.scope a (.ref c) A outer s H E) [] (start N vs) H s1:=zd0 S hr.hd e0 hl r x;unfold zbv at hf;split at hf
 · have hpe:=(hbody A outer s H E (hr.deeper _)).nox;refine z7f (hpe [] s1 (start N vs) H Q I ⟨ρ,_,S0,d,S',EnvR.start rr,hS,hf,kk⟩) (fun v s' hs=>?_) fun e s' hs=>hs;obtain⟨v',H',J,rv,q⟩:=hs;exact⟨v',H',J.os,J.bare,J.base,J.hok,rv,q⟩
 · cases hf
structure LCal (P:Program) (w:World) (K:Frag) (mg:zMg) (base:Heap) (k:Nat) (t:LT) (g:G):Prop where
 ex:∃ps:List Str,(∀(a c:Addr) (pm ct:Value),FnOk P w K mg base CX0 k a (kla_fn "<lambda>" t.qual t.params t.body t.scope [] pm (.ref c) ct) ps (fun vs H Q E=>z1g t a c pm ct H/\spG K mg g vs H Q E)) /\
   ∀(c:Addr) (pm ct:Value),Binds K (kla_fn "<lambda>" t.qual t.params t.body t.scope [] pm (.ref c) ct) ps []
theorem LCal.mono{j:Nat}{g:G}(c:LCal P w K mg base j t g)(h:j<=k):LCal P w K mg base k t g :=
 let⟨ps,F,b⟩:=c.ex;⟨ps,fun a c pm ct=>(F a c pm ct).mono h,b⟩
theorem LCal.of(S:FnScope N ps t.scope)(hb:∀(c:Addr) (pm ct:Value) (us:List Value),us.length=ps.length->bindArgs (kla_fn "<lambda>" t.qual t.params t.body t.scope [] pm (.ref c) ct) ⟨us,[]⟩=pure (ps.zip us))
   (hbody:∀(a c:Addr) (A:Around) (outer:List Env) (s:Shared) (H:Hp) (E:XK),Room k (A.deeper (envOfC t.qual t.scope s.heap.objs.size a (.ref c)))->FE (zbl CX0 P w K mg base N t.qual t.scope a (.ref c) A outer s H E).nox t.body f)
   (h0:t.cl=[]:=by rfl):LCal P w K mg base (k+1) t (zbv N.length ps.length f) :=
 ⟨ps,fun a c pm ct=>zy7 S h0 a c pm ct (hbody a c),fun c pm ct=>.all (hb c pm ct)⟩
end
def zaf(ft:Str->Option G)(lt:LT->Option G)(f:E)(a:As):E:=fun ev S=>(f ev S).bind fun p=>match p.1 with
 | .fn x=>(ft x).bind fun g=>(a ev p.2).bind fun q=>g q.1 q.2
 | .lam t=>(lt t).bind fun g=>(a ev p.2).bind fun q=>g q.1 q.2
 |_=>none
section
variable {X:Cx}{k:Nat}{f:E}{a:As}{e:Expr}{es:List Expr}{pos:Pos}
theorem zbh{fe:Expr}{ft:Str->Option G}{lt:LT->Option G}(hT:∀x g,ft x=some g->Cal X.prog X.w X.K X.mg X.base k x g)(hL:∀t g,lt t=some g->LCal X.prog X.w X.K X.mg X.base k t g)(hr:Room k X.A)(hf:FE X fe f)(ha:FA X (e::es) a)
   (ht:eval (.Call fe (e::es) [] pos) X.env=(eval fe X.env >>= fun v=>callWith pos v [] (backTo pos (starEach (e::es) X.env)) (backToKw pos (keywordEach [] X.env))):=by rfl)
   (he:starEach (e::es) X.env=(false,eval e X.env)::starEach es X.env:=by exact z8 rfl) (hpl:(backTo pos (starEach es X.env)).any (·.1)=false:=by exact qz rfl) :
   FE X (.Call fe (e::es) [] pos) (zaf ft lt f a):=by
 intro pins s σ H Q I h;obtain⟨ρ,ev,S,d,S',hE,hS,hf',kk⟩:=h;obtain⟨⟨y,S1⟩,q1,hf'⟩:=zy hf';cases y with
 | fn x=>
   refine zrr (ft:=ft) hT hr hf ha ht he hpl pins s σ H Q I ⟨ρ,ev,S,d,S',hE,hS,?_,kk⟩;unfold ztu;rw[q1];exact hf'
 | lam t=>
   rw[ht];dsimp only at hf';obtain⟨g,hx,hf'⟩:=zy hf';obtain⟨⟨ds,S2⟩,q2,hf'⟩:=zy hf';obtain⟨ps,F,hb⟩:=(hL t g hx).ex;refine z5m (thn (hf pins s σ H (fun v H1=>∃ρ1 a0,v=.ref a0/\Ext ρ H ρ1 H1/\StOk X.K X.mg ρ1 H1 S1/\LamAt ρ1 H1 t a0) I ⟨ρ,ev,S,_,S1,hE,hS,q1,fun v ρ1 H1 E1 hS1 r1=>?_⟩) fun u s1 ⟨v,H1,I1,rv,ρ1,a0,ev1,E1,hS1,L1⟩=>?_)
   · unfold Rep at r1;obtain⟨b,rfl,L⟩:=r1;exact⟨ρ1,b,rfl,E1,hS1,L⟩
   · subst ev1;obtain rfl:u=Value.ref a0:=rv;obtain⟨n0,c,pm,ct,nc,hA,hC⟩:=L1;have at_:∀{H':Hp}{s':Shared},Inv X pins σ H' s'->H' a0=some (.ext (ztc t a0 c pm ct))->FnAt a0 s'.heap:=fun J e=>⟨_,_,_,_,(J.hok a0 _ e).1⟩
     refine callWith_F (at_ I1 hA) (thn (ha pos pins s1 σ H1 (fun vs H2=>(H2 a0=some (.ext (ztc t a0 c pm ct)))/\(z1g t a0 c pm ct H2/\spG X.K X.mg g vs H2 Q E0)) I1 ⟨ρ1,ev,S1,ds,S2,hE.mono E1,hS1,q2,fun vs ρ2 H2 E2 hS2 r2=>?_⟩) fun us s2 ⟨vs,H2,I2,r,hA2,q2⟩=>⟨at_ I2 hA2,?_⟩) he hpl
     · have h1:=E2.keep _ _ hA n0;have h2:=E2.keep _ _ hC nc;exact⟨h1,⟨h1,h2⟩,ρ2,ds,S2,d,S',r2,hS2,hf',fun v ρ' H' E' hS' r'=>kk v ρ' H' ((E1.trans E2).trans E') hS' r'⟩
     · exact zg4 (ds:=[]) (dvs:=[]) (F a0 c pm ct) hr (hb c pm ct) .nil zlc I2 r (by rw[z6f];exact q2)
 |_=>cases hf'
end
end F
namespace F
open PySem L2 PySem.Spec PyProof.Rows PySem.W
def zt3(tabs:List (Str×Str))(g:G):Prop:=∀ns:List Int,ns.length<=63->∃S,g [.lst (ns.map D.int)] (tabs.map fun p=>MO.tab p.1 p.2)=some (.bl true,S)
def H0(ts:List Addr)(so:Option (Addr×HO)):Hp:=fun b=>if b∈ts then some (.tbl #[])else match so with
 |some (a,o)=>if b=a then some o else none
 |none=>none
theorem zha{as:List Addr}:∀{K:Frag}{P:Addr},as=K.map (·.1)->P∉as->K.lookup P=none
 | [],_,_,_=>rfl
 | (b,o)::K,P,e,h=>by
   subst e;rw[z5v,z51,not_or]at h;have hb:(P==b)=false:=by simpa using h.1
   simp only[List.lookup,hb];exact zha rfl h.2
section
variable {P:Program}{w:World}{K:Frag}{mg mb:zMg}{k:Nat}{fa a:Addr}{fd:FuncData}{x:Str}{sp:Sp}{s₁:Shared}{vs:List Value}{ns:List Int}{ts:List Addr}
theorem zn7(KX:K.In s₁.heap)(hns:s₁.heap.Ns mainGlobals mg)(hb:s₁.heap.Ns builtinsNs mb)(hbb:∀x:Str,x≠"__name__"->mb x=bootBuiltins x)(hlim:s₁.heap.NoLimit)(hg:s₁.gens=#[])
   (ha:s₁.heap.get? a=some { cls:=.type "list",data:=.seq vs.toArray }) (hi:IntsAre vs ns) (hl:ns.length<=sizeLine) (hr:Room k callerA)
   (hts:∀Q∈ts,s₁.heap.get? Q=some (tabObj #[])/\K.lookup Q=none/\isCodeTable s₁.heap Q)
   (hbm:zmb s₁.heap mg) (F:∀base:Heap,K.In base->base.Ns mainGlobals mg->zmb base mg->FnOk P w K mg base CX0 k fa fd [x] sp) (hbind:∀(s:Shared) (u:Value),BindsTo s fd ⟨[u],[]⟩ [(x,u)])
   (hsp:∀so:Option (Addr×HO),a∉ts->SqL K (H0 ts so) a (ns.map V.int)->sp [.ref a] (H0 ts so) (fun v _=>v=.bl true) fun _ _ _=>False) :
   codeAny (model P w) callerA (.call (.ref fa) ⟨[.ref a],[]⟩) (fun r s'=>r=.ok (.ret (.bool true))/\OldK s₁.heap s'.heap/\s'.os=s₁.os/\AllBare s'.gens) s₁:=by
 have rv:=zgw hi;have lenV:=hi.length;have nat:a∉ts:=fun z=>by have e:=(hts a z).1;rw[ha]at e;cases e
 have core:∀so:Option (Addr×HO),(∀b o,so=some (b,o)->b=a/\K.lookup a=none/\o=.frz { cls:=.type "list",data:=.seq vs.toArray } (.lst (ns.map V.int)))->SqL K (H0 ts so) a (ns.map V.int) ->
     codeAny (model P w) callerA (.call (.ref fa) ⟨[.ref a],[]⟩) (fun r s'=>r=.ok (.ret (.bool true))/\OldK s₁.heap s'.heap/\s'.os=s₁.os/\AllBare s'.gens) s₁:=by
   intro so hso hS;have cases3:∀b,H0 ts so b=none\/(b∈ts/\H0 ts so b=some (.tbl #[]))\/(b=a/\K.lookup a=none/\H0 ts so b=some (.frz { cls:=.type "list",data:=.seq vs.toArray } (.lst (ns.map V.int)))):=fun b=>by
     by_cases z:b∈ts
     · exact .inr (.inl ⟨z,z6a z⟩)
     · cases so with
       |none=>exact .inl (z6i z)
       | some p=>
         obtain⟨c,o⟩:=p;obtain⟨h1,h2,h3⟩:=hso c o rfl;by_cases y:b=c
         · refine .inr (.inr ⟨y.trans h1,h2,?_⟩);unfold H0;rw[z6i z];show(if b=c then some o else none)=_;rw[z6a y,h3]
         · refine .inl ?_;unfold H0;rw[z6i z];exact z6i y
   have hok:HOk P w (H0 ts so) s₁.heap:=fun b u e=>by
     rcases cases3 b with q | ⟨q1,q2⟩ | ⟨rfl,_,q2⟩
     · rw[q]at e;cases e
     · rw[q2]at e;cases e;exact(hts b q1).1
     · rw[q2]at e;cases e;exact⟨ha,by rw[z7k];exact hl,vs,_,rv,ha⟩
   have free:∀{b:Addr}{o:Obj}{es:Array DictEntry}{ep:Nat},s₁.heap.get? b=some o->o.data=.dict es ep->H0 ts so b=none:=fun {b o es ep} e d=>by
     rcases cases3 b with q | ⟨q1,_⟩ | ⟨rfl,_,_⟩
     · exact q
     · rw[(hts b q1).1]at e;cases e;cases d
     · rw[ha]at e;cases e;cases d
   have nsK:∀{b:Addr}{m:zMg},s₁.heap.Ns b m->(zrc s₁.heap (H0 ts so)).Ns b m:=fun⟨o,es,ep,e,d,r⟩=>⟨o,es,ep,zf4 e (free e d),d,r⟩
   have hKb:K.In (zrc s₁.heap (H0 ts so)):=fun b o e=>zf4 (KX b o e) (by
     rcases cases3 b with q | ⟨q1,_⟩ | ⟨rfl,q1,_⟩
     · exact q
     · rw[(hts b q1).2.1]at e;cases e
     · rw[q1]at e;cases e)
   have hM:Mod K mg (zrc s₁.heap (H0 ts so)):=⟨hKb,nsK hns,⟨mb,nsK hb,hbb⟩,let⟨mc,h1,h2⟩:=hlim;⟨mc,nsK h1,h2⟩⟩
   have e0:Env0 P w K mg (zrc s₁.heap (H0 ts so)) callerA [] s₁ (H0 ts so):=⟨rfl,hM,fun b o e=>zvc e,Nat.le_of_eq (zol _ _),trivial,fun b hb=>absurd (show b∈([]:List Addr)from hb) (by simp),hok,.of_eq hg⟩
   have hB:zmb (zrc s₁.heap (H0 ts so)) mg:=by
     obtain⟨bm,ob,b1,b2,b3,b4,b5,b6,b7⟩:=hbm;refine⟨bm,ob,b1,b2,b3,zf4 b4 ?_,b5,b6,b7⟩;rcases cases3 bm with q | ⟨q1,_⟩ | ⟨rfl,_,_⟩
     · exact q
     · rw[(hts bm q1).1]at b4;cases b4;cases b7
     · rw[ha]at b4;cases b4;cases b7
   refine z8x ((F _ hKb (nsK hns) hB).run callerA [] s₁ (H0 ts so) ⟨[.ref a],[]⟩ [.ref a] [.ref a] _ _ hr e0 (hbind s₁ (.ref a)) (.cons rfl .nil) (hsp so nat hS)) fun r s' h=>?_;cases r with
   |error e=>exact False.elim h
   | ok fl=>
     cases fl with
     |next=>exact False.elim h
     |brk=>exact False.elim h
     |cont=>exact False.elim h
     | ret u=>
       obtain⟨v,H',os,bare,un,hok',r',q⟩:=h;obtain rfl:v=.bl true:=q;obtain rfl:u=Value.bool true:=r';refine⟨rfl,⟨fun b o e=>?_,fun b o e=>un.there b o e (by simp)⟩,os,bare⟩;rcases cases3 b with q | ⟨q1,q2⟩ | ⟨_,_,q2⟩
       · exact .inl (un.keep b o e q (fun z=>absurd (show b∈([]:List Addr)from z) (by simp)) (by simp))
       · obtain⟨more,z⟩:=un.tbls b _ q2;have e1:=(hts b q1).1;rw[e]at e1;cases e1;exact .inr (.inl ⟨(hts b q1).2.2,rfl,#[],more,rfl,hok' b _ z⟩)
       · have z:=un.frzs b _ _ q2;obtain⟨e1,_⟩:=hok b _ q2;obtain⟨e2,_⟩:=hok' b _ z;rw[e]at e1;cases e1;exact .inl e2
 cases hk:K.lookup a with
 | some o=>
   have e:=KX a o hk;rw[ha]at e;cases e;exact core none (fun b o z=>by cases z) (.inr ⟨_,vs.toArray,_,hk,rfl,rfl,rfl,by rw[z5t,lenV];exact hl,by simpa using rv⟩)
 | none=>
   refine core (some (a,.frz { cls:=.type "list",data:=.seq vs.toArray } (.lst (ns.map V.int)))) (fun b o z=>by cases z;exact⟨rfl,hk,rfl⟩) (.inl (.inr ⟨{ cls:=.type "list",data:=.seq vs.toArray },?_⟩));unfold H0;rw[z6i nat];exact z6a rfl
end
theorem zlx{K:Frag}{h:Heap}{c Q:Addr}(X:K.In h)(e:codeHdIn K c Q=true):isCodeTable h Q:=by obtain⟨o,vs,_,_,_,_,_,_,_,h1,h2,h3,h4,_⟩:=codeHd_of_K X e;exact⟨c,o,vs,h1,h2,h3,h4⟩
theorem law_walkT{l:OpenLaw}{q:Program}{loose:List Str}{XP:(zMg)->Heap->Prop}{d:DefRec}{K:Params->Frag}{as:List Addr}{e:∀P,as=(K P).map (·.1)}{ts:List Addr}{k:Nat}{g:G}{x:Str}(tabs:List (Str×Str))
   (hn:l.most=some 63) (hdf:d.params.defaults=[]) (hr:Room k callerA) (hts:ts.Nodup) (has:∀Q∈ts,Q∉as) (hlen:ts.length=tabs.length) (hg:zt3 tabs g)
   (F:∀(w:World) (mg:zMg) (fa:Addr) (h:Heap),(K w.params).In h->h.Ns mainGlobals mg->mg d.name=some (.ref fa) ->
     (∀(i:Nat) (p:Str×Str) (Q:Addr),tabs[i]? = some p->ts[i]? = some Q->zwr (K w.params) mg p.1 Q) /\
     ∃fd:FuncData,(∀(s:Shared) (u:Value),BindsTo s fd ⟨[u],[]⟩ [(x,u)])/\∀base:Heap,(K w.params).In base->base.Ns mainGlobals mg->zmb base mg->FnOk l.prog w (K w.params) mg base CX0 k fa fd [x] (spG (K w.params) mg g)) :
   WalkO q loose XP (kmHook K as e ts).says l.row.toRowW d [] (fun f vs=>PySem.call f vs):=by
 refine Att.attach_call hn hdf fun w s₀ s₁ mg mb fa o pm cd doc a vs ns G Y ho hd hcd hmg hobj hints hlen' hg'=>?_;have KX:=km_in_of Y;have TX:=km_tabs_of Y;obtain⟨T,fd,hb,hF⟩:=F w mg fa _ KX G.T.g hmg;have hbm:zmb s₁.heap mg:=by obtain⟨bm,ob,b1,b2,b3,b4,b5,b6⟩:=G.T.bmain;refine⟨bm,ob,b1,b2,fun q=>?_,b3,b4,b5,b6⟩;obtain⟨o,es,ep,e,hd,_⟩:=G.T.g;rw[q,e]at b3;cases b3;rw[hd]at b6;cases b6
 refine zn7 (k:=k) (fd:=fd) (x:=x) (ts:=ts) (sp:=spG (K w.params) mg g) KX G.T.g G.T.b G.T.builtins G.T.nolimit hg' hobj hints (z57 hlen' (by decide)) hr (fun Q hQ=>⟨TX Q hQ,zha (e w.params) (has Q hQ),?_⟩) hbm hF hb fun so nat hS=>?_
 · obtain⟨i,hi,ei⟩:=z61 hQ;obtain⟨f,o,fd,c,_,_,_,_,z⟩:=T i (tabs[i]'(by omega)) Q (z5s (by omega)) (by rw[z5s hi,ei]);exact zlx KX z
 · obtain⟨S,hS'⟩:=hg ns hlen';have tb:∀Q∈ts,H0 ts so Q=some (.tbl #[]):=fun Q hQ=>z6a hQ;refine⟨ts,[.lst (ns.map D.int)],tabs.map fun p=>MO.tab p.1 p.2,.bl true,S,?_,⟨by rw[z7k];exact hlen,hts,fun i m b e1 e2=>?_⟩,hS',fun v ρ' H' _ _ r=>by rw[show v=.bl true from r]⟩
   · refine RepL.cons ?_ RepL.nil;unfold Rep;refine⟨a,ns.map V.int,rfl,?_,zjq ns⟩;rcases hS with hS | hS
     · exact .inl ⟨nat,hS⟩
     · exact .inr hS
   · rw[z6w]at e1;cases hp:tabs[i]? with
     |none=>rw[hp]at e1;cases e1
     | some p=>
       rw[hp]at e1;cases e1;exact⟨T i p b hp e2,#[],tb b (z6b e2),trivial,fun pos cv z=>by cases z⟩
section
variable {P:Program}{w:World}{K:Frag}{mg:zMg}{base:Heap}{x qual:Str}{st:Stmt}{N ps:List Str}{k:Nat}{b:C}{dV:Value}{f:Addr}{fd:FuncData}
theorem FunD.code(F:FunD K x qual st f fd dV){y:Str}(hm:mg y=some (.ref f)):zbc K mg y fd.code:=by obtain⟨oc,od,kV,doc,pm,an,cdv,ct,osl,rfl,lk,hcd⟩:=F.ex;exact⟨f,_,_,hm,lk,rfl,rfl⟩
theorem FunD.okL(F:FunD K x qual st f fd dV){y:Str}(hm:mg y=some (.ref f))(S:FnScope N ps (zj st))
   (hbody:∀(cdv:Value),zbc K mg y cdv->∀(A:Around) (outer:List Env) (s:Shared) (H:Hp) (E:XK),Room k (A.deeper (envOfC qual (zj st) s.heap.objs.size f cdv)) ->
     FSs (zbl CX0 P w K mg base N qual (zj st) f cdv A outer s H E).nox (jg st) b):FnOk P w K mg base CX0 (k+1) f fd ps (spG K mg (qa N.length ps.length b)):=by
 have co:=F.code hm;obtain⟨oc,od,kV,doc,pm,an,cdv,ct,osl,rfl,lk,hcd⟩:=F.ex;refine zrm lk hcd S (fun vs H Q E h=>?_) fun A outer s H vs Q E hr hsp=>?_
 · obtain⟨ρ,ds,S,d,S',r,hS,hf,k⟩:=h;rw[<-r.length];exact zel hf
 · exact⟨_,(hbody cdv co A outer s H E hr).nox,zi9 hsp⟩
abbrev z3m(P:Program)(w:World)(K:Frag)(mg:zMg)(base:Heap)(N:List Str)(x qual:Str)(st:Stmt)(k:Nat)(b:C):Prop :=
 ∀(f:Addr) (cdv:Value),zbc K mg x cdv->∀(A:Around) (outer:List Env) (s:Shared) (H:Hp) (E:XK),Room k (A.deeper (envOfC qual (zj st) s.heap.objs.size f cdv)) ->
     FSs (zbl CX0 P w K mg base N qual (zj st) f cdv A outer s H E).nox (jg st) b
theorem HasDef.calL(h:HasDef K mg x st 0)(S:FnScope N ps (zj st))(hb:zt5 x x st ps)(hbody:z3m P w K mg base N x x st k b):Cal P w K mg base (k+1) x (qa N.length ps.length b):=by obtain⟨f,fd,dV,F,hm,rfl⟩:=h.ex;exact⟨f,fd,ps,[],[],[],_,F.okL hm S fun cdv co A outer s H E hr=>hbody f cdv co A outer s H E hr,hm,F.kp,F.binds0 hb,.nil,fun _ _=>RepL.nil,fun args S r e=>by rw[z6f];exact e⟩
end
section
variable {K:Frag}{h:Heap}{mg:zMg} (X:K.In h) (G:h.Ns mainGlobals mg)
include X G
theorem has_tab{x:Str}{st:Stmt}{f c Q:Addr}{oc:Value}{od an:Option Addr}{osl:Array (Option Value)}{dV kV doc pm ct:Value}(a:nsIn K mainGlobals x=some (some (.ref f)))
   (l:K.lookup f=some ⟨oc,od,.func (fnOf x x (za7 st) (jg st) (zj st) dV kV doc pm an (.ref c) ct),osl⟩) (z:codeHdIn K c Q=true):zwr K mg x Q :=
 ⟨f,_,_,c,mg_of X G a,l,rfl,rfl,z⟩
end
end F
namespace F
open PySem L2 PySem.Spec PySem.Calls PyProof.Rows PySem.W
def cxC(P:Program)(w:World)(K:Frag)(mg:zMg)(base:Heap)(N:List Str)(qual:Str)(scope:Scope)(f:Addr)(cd:Value)(cl:zLA)(A:Around)(outer:List Env)(s:Shared)(H H1:Hp)(E:XK):Cx where
 prog:=P
 w:=w
 K:=K
 mg:=mg
 base:=base
 A:=A.deeper (envX qual scope s.heap.objs.size f cd cl)
 N:=N
 s₀:=s
 H₀:=H1
 env:=envX qual scope s.heap.objs.size f cd cl
 outer:=outer
 stack:=envX qual scope s.heap.objs.size f cd cl::outer
 ex:=[]
 calm:=true
 fn:=fun _=>false
 pn:=[]
 xe:=fun e s'=>wpAny (model P w) (A.deeper (envX qual scope s.heap.objs.size f cd cl)) (leaving (envX qual scope s.heap.objs.size f cd cl) e) (fun _ s''=>CX0 outer H s E e s'') (fun e' s''=>CX0 outer H s E e' s'') s'
def zbk(H:Hp)(cl:zLA):Hp:=fun b=>if b∈cl.map (·.2)then none else H b
theorem zci{H:Hp}{cl:zLA}{b:Addr}(h:b∈cl.map (·.2)):zbk H cl b=none:=z6a h
theorem jq{H:Hp}{cl:zLA}{b:Addr}(h:b∉cl.map (·.2)):zbk H cl b=H b:=z6i h
theorem Cells.at{ρ:List Addr}{H:Hp}:∀{xs:List Str}{us:List V}{cl:zLA},Cells ρ H xs us cl->∀b∈cl.map (·.2),∃o w,H b=some (.frz o (.own 0))/\o.data=.cell (some w)
 | [],[],[],_,b,hb=>by cases hb
 | x::xs,u::us,p::cl,h,b,hb=>by
   rw[z5v]at hb;rcases z51.mp hb with rfl | hb
   · obtain⟨_,_,⟨o,w,h3,h4,_⟩,_⟩:=h;exact⟨o,w,h3,h4⟩
   · exact Cells.at h.2.2.2 b hb
 | [],[],_::_,h,_,_=>h.elim
 | [],_::_,_,h,_,_=>h.elim
 |_::_,[],_,h,_,_=>h.elim
 |_::_,_::_,[],h,_,_=>h.elim
theorem zit{P:Program}{w:World}{H:Hp}{h:Heap}{cl:zLA}(x:HOk P w H h)(hc:∀b∈cl.map (·.2),∃o,H b=some (.frz o (.own 0))):HOk P w (zbk H cl) h:=fun b u e=>by
 by_cases z:b∈cl.map (·.2)
 · rw[zci z]at e;cases e
 · rw[jq z]at e;refine(x b u e).stay (fun _ _ _ q=>q) (fun d q=>?_) fun d xs q=>?_
   · rw[jq (fun y=>by obtain⟨o,y'⟩:=hc d y;rw[q]at y';cases y')];exact q
   · rw[jq (fun y=>by obtain⟨o,y'⟩:=hc d y;rw[q]at y';cases y')];exact q
theorem ye{H:Hp}{cl:zLA}{b:Addr}(h:H b=none):zbk H cl b=none:=by
 unfold zbk;split
 · rfl
 · exact h
theorem Cells.names{ρ:List Addr}{H:Hp}:∀{xs:List Str}{us:List V}{cl:zLA},Cells ρ H xs us cl->cl.map (·.1)=xs/\us.length=xs.length
 | [],[],[],_=>⟨rfl,rfl⟩
 | x::xs,u::us,p::cl,h=>by obtain⟨h1,h2⟩:=Cells.names h.2.2.2;exact⟨by rw[z5v,h1,h.1],by rw[List.length_cons,List.length_cons,h2]⟩
 | [],[],_::_,h=>h.elim
 | [],_::_,_,h=>h.elim
 |_::_,[],_,h=>h.elim
 |_::_,_::_,[],h=>h.elim
theorem Cells.get{ρ:List Addr}{H:Hp}:∀{xs:List Str}{us:List V}{cl:zLA},Cells ρ H xs us cl->xs.Nodup->∀(i:Nat) (x:Str) (u:V),xs[i]? = some x->us[i]? = some u->∃b o w,cl.lookup x=some b/\H b=some (.frz o (.own 0))/\o.data=.cell (some w)/\RelV u w
 | x::xs,u::us,p::cl,h,nd,0,y,v,e1,e2=>by cases e1;cases e2;obtain⟨h1,_,⟨o,w,h3,h4,h5⟩,_⟩:=h;exact⟨p.2,o,w,by obtain⟨a,b⟩:=p;subst h1;simp[List.lookup],h3,h4,h5⟩
 | x::xs,u::us,p::cl,h,nd,i+1,y,v,e1,e2=>by
   obtain⟨b,o,w,z1,z2⟩:=Cells.get h.2.2.2 (z7y.mp nd).2 i y v e1 e2;have ne:(y==p.1)=false:=by rw[h.1];refine beq_false_of_ne fun z=>(z7y.mp nd).1 ?_;rw[<-z];exact z6b e1
   refine⟨b,o,w,?_,z2⟩;obtain⟨a,c⟩:=p;simp only[List.lookup,ne];exact z1
 | [],[],[],_,_,_,_,_,e1,_=>by cases e1
 | [],[],_::_,h,_,_,_,_,_,_=>h.elim
 | [],_::_,_,h,_,_,_,_,_,_=>h.elim
 |_::_,[],_,h,_,_,_,_,_,_=>h.elim
 |_::_,_::_,[],h,_,_,_,_,_,_=>h.elim
structure CloScope (ps caps:List Str) (sc:Scope):Prop where
 kind:sc.kind=.function
 co:sc.isCoroutine=false
 gen:sc.isGenerator=false
 nd:(ps++caps).Nodup
 par:∀x∈ps,sc.names.lookup x=some .local
 cap:∀x∈caps,sc.names.lookup x=some .free
 nocell:∀y∈sc.names,y.2≠.cell
 fre:∀y∈sc.names,y.2=.free->y.1∈caps
theorem ze1:∀{ps:List Str}{us:List Value}{i:Nat}{x:Str}{u:Value},ps.Nodup->ps[i]? = some x->us[i]? = some u->(ps.zip us).reverse.lookup x=some u
 | [],_,_,_,_,_,e,_=>by cases e
 |p::ps,[],i,x,u,_,_,e=>by cases e
 | p::ps,w::us,i,x,u,nd,e1,e2=>by
   rw[List.zip_cons_cons,z8n,List.lookup_append];cases i with
   | zero=>
     cases e1;cases e2;have:(ps.zip us).reverse.lookup p=none:=by rw[List.lookup_eq_none_iff];intro q hq;have:=(z7l (a:=q.1) (b:=q.2) (z72.mp hq)).1;simpa using fun(z:p=q.1)=>(z7y.mp nd).1 (z▸this)
     rw[this];simp[List.lookup]
   | succ i=>
     rw[ze1 (z7y.mp nd).2 e1 e2];rfl
theorem zll{P:Program}{w:World}{K:Frag}{mg:zMg}{base:Heap}{ps caps:List Str}{qual:Str}{scope:Scope}{f:Addr}{cd:Value}{cl:zLA}{A:Around}{outer:List Env}{s:Shared}{H:Hp}{E:XK}{us:List Value}{vs cs:List V}{ρ:List Addr}{h':Heap}{tk:Nat}
   (S:CloScope ps caps scope) (hd:A.handled=none) (e0:Env0 P w K mg base A outer s H) (hl:vs.length=ps.length) (r:Vals vs us) (hc:Cells ρ H caps cs cl) (hcn:(cl.map (·.2)).Nodup)
   (hns:h'.Ns s.heap.objs.size (fun x=>(ps.zip us).reverse.lookup x)) (hk:∀b o,s.heap.get? b=some o->h'.get? b=some o) :
   Inv (cxC P w K mg base (ps++caps) qual scope f cd cl A outer s H (zbk H cl) E) [] ((vs++cs).map some) (zbk H cl) { s with heap:=h',toks:=tk }:=by
 have noA:∀b:Addr,b∉(cxC P w K mg base (ps++caps) qual scope f cd cl A outer s H (zbk H cl) E).ex:=fun b z=>absurd (show b∈([]:List Addr)from z) (by simp);have hnm:=hc.names;have mem:∀{x:Str}{c:Addr},cl.lookup x=some c->(x,c)∈cl:=fun h=>mem_of_lookup_some h;have hcf:∀b∈cl.map (·.2),∃o,H b=some (.frz o (.own 0)):=fun b hb=>let⟨o,_,h1,_⟩:=hc.at b hb;⟨o,h1⟩;refine⟨⟨e0.mod,S.kind,rfl,rfl,z5o _,fun y z c h1 h2=>?_,fun y hy=>?_,fun y c h _=>(by cases h),fun _=>hd,Around.frames_deeper e0.frames,.inr ⟨rfl,rfl⟩,fun b z=>absurd z (noA b),fun b o e=>⟨(e0.bs b o e).1,ye (e0.bs b o e).2⟩,e0.bsz,fun b _ _=>noA b,fun b z=>absurd z (noA b),e0.funs,fun b hb=>ye (e0.frf b hb)⟩,
   rfl,e0.bare,Un.kept hk,⟨_,hns,fun i y v h1 h2 h3=>?_⟩,fun y c h=>?_,ye (e0.hok.fresh (z5o _)),fun y c h=>zci (z6o (mem h)),fun p hp=>absurd (show p∈([]:zAO)from hp) (by simp),(zit e0.hok hcf).kept hk,?_⟩
 · have m1:=mem h1;have m2:=mem h2;obtain⟨i,hi,ei⟩:=z61 m1;obtain⟨j,hj,ej⟩:=z61 m2;have:i=j:=(qaa (i:=i) (j:=j) (h₀:=by simpa using hi) (h₁:=by simpa using hj) hcn).mp (by simp[ei,ej]);subst this;rw[ei]at ej;exact z68 Prod.fst ej
 · have hy:scope.names.lookup y=some .cell\/scope.names.lookup y=some .free:=hy;rcases hy with hy | hy
   · exact absurd rfl (S.nocell _ (z7g hy))
   · have hm:y∈caps:=S.fre _ (z7g hy) rfl;obtain⟨i,hi,ei⟩:=z61 hm;obtain⟨b,o,w,z,_⟩:=hc.get ((z9g.mp S.nd).2.1) i y (cs[i]'(by omega)) (by rw[z5s hi,ei]) (z5s _);exact⟨b,z⟩
 · rw[z6w]at h2;have h1:(ps++caps)[i]? = some y:=h1;by_cases hi:i<ps.length
   · rw[z6h hi]at h1;rw[z6h (by omega)]at h2;cases hv:vs[i]? with
     |none=>rw[hv]at h2;cases h2
     | some a=>
       rw[hv]at h2;cases h2;obtain⟨u,hu,ru⟩:=r.get hv;exact⟨u,ru,.inl ⟨S.par y (z6b h1),ze1 (z9g.mp S.nd).1 h1 hu⟩⟩
   · rw[z59 (by omega)]at h1;rw[z59 (by omega),hl]at h2;cases hv:cs[i-ps.length]? with
     |none=>rw[hv]at h2;cases h2
     | some a=>
       rw[hv]at h2;cases h2;obtain⟨b,o,w,z1,z2,z3,z4⟩:=hc.get (z9g.mp S.nd).2.1 _ y _ h1 hv;exact⟨w,z4,.inr ⟨.inr (S.cap y (z6b h1)),b,z1,o,hk _ _ (e0.hok b _ z2).1,z3⟩⟩
 · obtain⟨o,w,z2,z3⟩:=hc.at c (z6o (mem h));exact⟨some w,o,hk _ _ (e0.hok c _ z2).1,z3⟩
 · show((vs++cs).map some).length=(ps++caps).length;rw[z7k,z5l,z5l,hl,hnm.2]
def onC(H H0:Hp)(cl:zLA):Hp:=fun b=>if b∈cl.map (·.2)then H0 b else H b
theorem zbm{H H0:Hp}{cl:zLA}{b:Addr}(h:b∈cl.map (·.2)):onC H H0 cl b=H0 b:=z6a h
theorem qw{H H0:Hp}{cl:zLA}{b:Addr}(h:b∉cl.map (·.2)):onC H H0 cl b=H b:=z6i h
theorem z1l{fs:List Addr}{H H':Hp}{h h':Heap}{cl:zLA}(u:Un fs [] (zbk H cl) H' h h')(hc:∀b∈cl.map (·.2),∃o,H b=some (.frz o (.own 0))):Un fs [] H (onC H' H cl) h h':=by
 have out:∀b,H b=none->b∉cl.map (·.2):=fun b n z=>by obtain⟨o,y⟩:=hc b z;rw[n]at y;cases y
 refine⟨fun b o e n hb hx=>u.keep b o e (ye n) hb hx,fun b o e n hb hx=>u.slot b o e (ye n) hb hx,fun b o e n hx=>?_,u.there,fun b xs e=>?_,fun b o v e=>?_,fun b ps e=>?_⟩
 · rw[qw (out b n)];exact u.free b o e (ye n) hx
 · have z:b∉cl.map (·.2):=fun z=>by obtain⟨o,y⟩:=hc b z;rw[e]at y;cases y
   rw[qw z];exact u.tups b xs (by rw[jq z];exact e)
 · by_cases z:b∈cl.map (·.2)
   · rw[zbm z];exact e
   · rw[qw z];exact u.frzs b o v (by rw[jq z];exact e)
 · have z:b∉cl.map (·.2):=fun z=>by obtain⟨o,y⟩:=hc b z;rw[e]at y;cases y
   obtain⟨more,q⟩:=u.tbls b ps (by rw[jq z];exact e);exact⟨more,by rw[qw z];exact q⟩
theorem zzq{P:Program}{w:World}{fs:List Addr}{H H':Hp}{h h':Heap}{cl:zLA}(u:Un fs [] (zbk H cl) H' h h')(x0:HOk P w H h)(x:HOk P w H' h')(hc:∀b∈cl.map (·.2),(∃o,H b=some (.frz o (.own 0)))/\b∉fs):HOk P w (onC H' H cl) h':=fun b v e=>by
 have nn:∀d∈cl.map (·.2),H' d=none:=fun d hd=>by obtain⟨⟨o,z⟩,_⟩:=hc d hd;exact u.free d o (x0 d _ z).1 (zci hd) (by simp)
 by_cases z:b∈cl.map (·.2)
 · rw[zbm z]at e;obtain⟨⟨o,y⟩,nf⟩:=hc b z;rw[y]at e;cases e;have:=u.keep b o (x0 b _ y).1 (zci z) nf (by simp);exact⟨this,⟨o,this⟩⟩
 · rw[qw z]at e;refine(x b v e).stay (fun _ _ _ q=>q) (fun d q=>?_) fun d xs q=>?_
   · rw[qw (fun y=>by rw[nn d y]at q;cases q)];exact q
   · rw[qw (fun y=>by rw[nn d y]at q;cases q)];exact q
mutual
def noC:D->Bool
 | .tup ds=>noCL ds
 | .lst ds=>noCL ds
 | .clo _ _=>false
 |_=>true
def noCL:List D->Bool
 | []=>true
 |d::ds=>noC d&&noCL ds
end
def zwu:MO->Bool
 | .lst ds=>noCL ds
 | .ins _ fs=>noCL (fs.map (·.2))
 | .dct kvs=>noCL (kvs.map (·.2))
 | .exc _=>true
 | .tab _ _=>true
def noCS(S:Sto):Bool:=S.all zwu
section
variable {K:zFr}{mg:zMg}{ρ ρ':List Addr}{H H':Hp}{S S1:Sto}{cl:zLA}
def CellsIn(H:Hp)(cl:zLA):Prop:=∀b∈cl.map (·.2),∃o,H b=some (.frz o (.own 0))
theorem CellsIn.out(hc:CellsIn H cl){b:Addr}{u:HO}(h:H b=some u)(n:∀o,u≠.frz o (.own 0)):zbk H cl b=some u:=by rw[jq (fun z=>by obtain⟨o,y⟩:=hc b z;rw[h]at y;exact n o (z6j y))];exact h
theorem TupAt.off{p:Addr}{vs:List V}(hc:CellsIn H cl)(h:TupAt K ρ H p vs):TupAt K ρ (zbk H cl) p vs:=by
 rcases h with⟨n,h | ⟨o,h⟩⟩ | h
 · exact .inl ⟨n,.inl (hc.out h fun _ z=>by cases z)⟩
 · exact .inl ⟨n,.inr ⟨o,hc.out h fun _ z=>by cases z⟩⟩
 · exact .inr h
theorem LstAt.off{p:Addr}{vs:List V}(hc:CellsIn H cl)(h:LstAt K ρ H p vs):LstAt K ρ (zbk H cl) p vs:=by
 rcases h with⟨n,h | ⟨o,h⟩⟩ | h
 · exact .inl ⟨n,.inl (hc.out h fun _ z=>by cases z)⟩
 · exact .inl ⟨n,.inr ⟨o,hc.out h fun _ z=>by cases z⟩⟩
 · exact .inr h
mutual
theorem Rep.off(hc:CellsIn H cl):∀{d:D}{v:V},noC d=true->Rep K mg ρ H d v->Rep K mg ρ (zbk H cl) d v
 | .non,_,_,h=>h
 | .bl _,_,_,h=>h
 | .int _,_,_,h=>h
 | .str _,_,_,h=>h
 | .fn _,_,_,h=>h
 | .ty _,_,_,h=>h
 | .tup ds,_,hb,h=>by unfold Rep at h ⊢;unfold noC at hb;obtain⟨p,vs,e1,t,r⟩:=h;exact⟨p,vs,e1,t.off hc,RepL.off hc hb r⟩
 | .lst ds,_,hb,h=>by unfold Rep at h ⊢;unfold noC at hb;obtain⟨p,vs,e1,t,r⟩:=h;exact⟨p,vs,e1,t.off hc,RepL.off hc hb r⟩
 | .obj i,_,hb,h=>by unfold Rep at h ⊢;exact h
 | .lam t,_,_,h=>by unfold Rep at h ⊢;obtain⟨a,e1,n1,c,pm,ct,n2,h1,h2⟩:=h;exact⟨a,e1,n1,c,pm,ct,n2,hc.out h1 (fun _ z=>by cases z),hc.out h2 (fun _ z=>by cases z)⟩
 | .clo t vs,_,hb,h=>by unfold noC at hb;cases hb
theorem RepL.off(hc:CellsIn H cl):∀{ds:List D}{vs:List V},noCL ds=true->RepL K mg ρ H ds vs->RepL K mg ρ (zbk H cl) ds vs
 | [],_,_,h=>h
 | d::ds,_,hb,h=>by unfold RepL at h ⊢;unfold noCL at hb;obtain⟨v,r,e,h1,h2⟩:=h;obtain⟨b1,b2⟩:=Bool.and_eq_true_iff.mp hb;exact⟨v,r,e,Rep.off hc b1 h1,RepL.off hc b2 h2⟩
end
theorem MOk.off{a:Addr}{m:MO}(hc:CellsIn H cl)(hb:zwu m=true)(h:MOk K mg ρ H a m):MOk K mg ρ (zbk H cl) a m:=by
 cases m with
 |lst ds=>obtain⟨vs,h1,h2⟩:=h;exact⟨vs,hc.out h1 (fun _ z=>by cases z),h2.off hc hb⟩
 |ins c fs=>obtain⟨C,dx,vs,h0,h1,h2,h3⟩:=h;exact⟨C,dx,vs,h0,hc.out h1 (fun _ z=>by cases z),h2,h3.off hc hb⟩
 |dct kvs=>obtain⟨vs,h1,h2,h3⟩:=h;exact⟨vs,hc.out h1 (fun _ z=>by cases z),h2,h3.off hc hb⟩
 |exc c=>obtain⟨C,h1,h2⟩:=h;exact⟨C,h1,hc.out h2 (fun _ z=>by cases z)⟩
 |tab x q=>obtain⟨h0,ps,h1,h2,h3⟩:=h;exact⟨h0,ps,hc.out h1 (fun _ z=>by cases z),h2,fun pos cv z=>let⟨c,z1,z2,z3⟩:=h3 pos cv z;⟨c,z1,z2,hc.out z3 (fun _ z=>by cases z)⟩⟩
theorem StOk.off(hS:StOk K mg ρ H S)(hc:CellsIn H cl)(hb:noCS S=true):StOk K mg ρ (zbk H cl) S :=
 ⟨hS.len,hS.nd,fun i m a e1 e2=>(hS.ob i m a e1 e2).off hc (z6m.mp hb m (z6b e1))⟩
theorem Ext.on(e:Ext ρ (zbk H cl) ρ' H')(hS:StOk K mg ρ' H' S1)(nn:∀b∈cl.map (·.2),H' b=none)(no:∀b∈cl.map (·.2),b∉ρ):Ext ρ H ρ' (onC H' H cl):=by
 refine⟨e.pre,fun b o h n=>?_,fun b h n=>?_⟩
 · by_cases z:b∈cl.map (·.2)
   · rw[zbm z];exact h
   · rw[qw z];exact e.keep b o (by rw[jq z];exact h) n
 · by_cases z:b∈cl.map (·.2)
   · obtain⟨o,y⟩:=hS.mem h;rw[nn b z]at y;cases y
   · rw[<-jq (H:=H) z];exact e.new b h n
theorem ztp(nn:∀b∈cl.map (·.2),H' b=none):Ext ρ' H' ρ' (onC H' H cl) :=
 ⟨fun _ _ e=>e,fun b o h n=>by
   rw[qw (fun z=>by rw[nn b z]at h;cases h)];exact h,fun _ z n=>absurd z n⟩
theorem StOk.on(hS:StOk K mg ρ' H' S1)(nn:∀b∈cl.map (·.2),H' b=none):StOk K mg ρ' (onC H' H cl) S1 :=
 ⟨hS.len,hS.nd,fun i m a e1 e2=>by
   have q:=hS.ob i m a e1 e2;obtain⟨u,z⟩:=q.some;exact q.mono (ztp nn) (qw (fun y=>by rw[nn a y]at z;cases z))⟩
theorem Cells.out:∀{xs:List Str}{us:List V}{cl:zLA},Cells ρ H xs us cl->∀b∈cl.map (·.2),b∉ρ
 | [],[],[],_,b,hb=>by cases hb
 | x::xs,u::us,p::cl,h,b,hb=>by
   rw[z5v]at hb;rcases z51.mp hb with rfl | hb
   · exact h.2.1
   · exact Cells.out h.2.2.2 b hb
 | [],[],_::_,h,_,_=>h.elim
 | [],_::_,_,h,_,_=>h.elim
 |_::_,[],_,h,_,_=>h.elim
 |_::_,_::_,[],h,_,_=>h.elim
theorem Cells.cin{xs:List Str}{us:List V}(h:Cells ρ H xs us cl):CellsIn H cl:=fun b hb=>let⟨o,_,h1,_⟩:=h.at b hb;⟨o,h1⟩
end
def isI:D->Bool
 | .int _=>true
 |_=>false
def z3c:D->Bool
 | .clo _ vs=>vs.all isI
 |_=>false
def zb3(kv:List D):Bool:=noCL kv||kv.all z3c
section
variable {K:zFr}{mg:zMg}{ρ:List Addr}{H:Hp}{cl:zLA}
theorem z2n{ds kv:List D}{S:Sto}(h:(noCL ds&&noCL kv&&noCS S)=true):(noCL ds&&zb3 kv&&noCS S)=true:=by simp only[z6g]at h;simp only[zb3,h.1.1,h.1.2,h.2,Bool.true_or,z8q]
def z3j(H:Hp)(cl:zLA):Prop:=∀b∈cl.map (·.2),∃o a,H b=some (.frz o (.own 0))/\o.data=.cell (some (.ref a))
theorem Cells.refs:∀{xs:List Str}{us:List V}{cl:zLA}{kv:List D},Cells ρ H xs us cl->RepL K mg ρ H kv us->kv.all z3c=true->z3j H cl
 | [],[],[],_,_,_,_=>fun b hb=>by cases hb
 |x::xs,u::us,p::cl,[],_,r,_=>by unfold RepL at r;cases r
 | x::xs,u::us,p::cl,d::kv,h,r,q=>fun b hb=>by
   unfold RepL at r;obtain⟨v,r',e,r1,r2⟩:=r;cases e;rw[List.all_cons,z6g]at q;rw[z5v]at hb;obtain⟨_,_,⟨o,w,h3,h4,h5⟩,h6⟩:=h;rcases z51.mp hb with rfl | hb
   · cases d with
     | clo t vs=>
       unfold Rep at r1;obtain⟨a,_,rfl,_⟩:=r1;obtain rfl:w=Value.ref a:=h5;exact⟨o,a,h3,h4⟩
     |_=>cases q.1
   · exact Cells.refs h6 r2 q.2 b hb
 | [],[],_::_,_,h,_,_=>h.elim
 | [],_::_,_,_,h,_,_=>h.elim
 |_::_,[],_,_,h,_,_=>h.elim
 |_::_,_::_,[],_,h,_,_=>h.elim
theorem Cells.off1(hr:z3j H cl):∀{xs:List Str}{us:List V}{c1:zLA}{vs:List D},Cells ρ H xs us c1->RepL K mg ρ H vs us->vs.all isI=true->Cells ρ (zbk H cl) xs us c1
 | [],[],[],_,_,_,_=>trivial
 |x::xs,u::us,p::c1,[],_,r,_=>by unfold RepL at r;cases r
 | x::xs,u::us,p::c1,d::vs,h,r,q=>by
   unfold RepL at r;obtain⟨v,r',e,r1,r2⟩:=r;cases e;rw[List.all_cons,z6g]at q;obtain⟨h1,h2,⟨o,w,h3,h4,h5⟩,h6⟩:=h;refine⟨h1,h2,⟨o,w,?_,h4,h5⟩,Cells.off1 hr h6 r2 q.2⟩;rw[jq fun z=>?_]
   · exact h3
   · obtain⟨o',a,y1,y2⟩:=hr _ z;rw[h3]at y1;cases y1;rw[h4]at y2;cases y2;cases d with
     | int i=>
       unfold Rep at r1;subst r1;obtain⟨_,h5⟩:=h5;cases h5
     |_=>cases q.1
 | [],[],_::_,_,h,_,_=>h.elim
 | [],_::_,_,_,h,_,_=>h.elim
 |_::_,[],_,_,h,_,_=>h.elim
 |_::_,_::_,[],_,h,_,_=>h.elim
theorem zj1:∀{vs:List D},vs.all isI=true->noCL vs=true
 | [],_=>rfl
 | d::vs,h=>by
   rw[List.all_cons,z6g]at h;unfold noCL;rw[zj1 h.2,z8q];cases d with
   |int i=>rfl
   |_=>cases h.1
theorem RepL.off1(hc:CellsIn H cl)(hr:z3j H cl):∀{kv:List D}{us:List V},kv.all z3c=true->RepL K mg ρ H kv us->RepL K mg ρ (zbk H cl) kv us
 | [],_,_,h=>h
 | d::kv,_,q,h=>by
   unfold RepL at h ⊢;rw[List.all_cons,z6g]at q;obtain⟨v,r,e,h1,h2⟩:=h;refine⟨v,r,e,?_,RepL.off1 hc hr q.2 h2⟩;cases d with
   | clo t vs=>
     unfold Rep at h1 ⊢;obtain⟨a,us,e1,⟨n,c,pm,ct,c1,nc,z1,z2,z3,z4⟩,rk⟩:=h1;exact⟨a,us,e1,⟨n,c,pm,ct,c1,nc,hc.out z1 (fun _ z=>by cases z),hc.out z2 (fun _ z=>by cases z),z3,z4.off1 hr rk q.1⟩,rk.off hc (zj1 q.1)⟩
   |_=>cases q.1
theorem zq9{xs:List Str}{us:List V}{kv:List D}(h:Cells ρ H xs us cl)(r:RepL K mg ρ H kv us)(q:zb3 kv=true):RepL K mg ρ (zbk H cl) kv us:=by
 unfold zb3 at q;rcases Bool.or_eq_true_iff.mp q with q | q
 · exact r.off h.cin q
 · exact r.off1 h.cin (h.refs r q) q
end
def zmv(K:zFr)(mg:zMg)(t:LT)(a c:Addr)(pm ct:Value)(cl:zLA)(g:G):Sp:=fun vs H Q _=>∃ρ ds S d S' us kv,RepL K mg ρ H ds vs/\StOk K mg ρ H S/\H a=some (.ext (zh9 t cl a c pm ct))/\H c=some (.ext (yq c t.qual))/\(cl.map (·.2)).Nodup/\Cells ρ H t.caps us cl/\RepL K mg ρ H kv us /\
 (noCL ds&&zb3 kv&&noCS S)=true/\g (ds++kv) S=some (d,S')/\ds.length=t.params.args.length/\∀v ρ' H',Ext ρ H ρ' H'->StOk K mg ρ' H' S'->Rep K mg ρ' H' d v->Q v H'
section
variable {P:Program}{w:World}{K:Frag}{mg:zMg}{base:Heap}{k:Nat}{t:LT}{ps:List Str}{f:E}
theorem z0j(S:CloScope ps t.caps t.scope)(hpl:ps.length=t.params.args.length)(a c:Addr)(pm ct:Value)(cl:zLA)
   (hbody:∀(A:Around) (outer:List Env) (s:Shared) (H H1:Hp) (E:XK),Room k (A.deeper (envX t.qual t.scope s.heap.objs.size a (.ref c) cl))->FE (cxC P w K mg base (ps++t.caps) t.qual t.scope a (.ref c) cl A outer s H H1 E).nox t.body f) :
   FnOk P w K mg base CX0 (k+1) a (kla_fn "<lambda>" t.qual t.params t.body t.scope cl pm (.ref c) ct) ps (zmv K mg t a c pm ct cl (zbv (ps++t.caps).length (ps++t.caps).length f)):=by
 have len:∀vs H Q E,zmv K mg t a c pm ct cl (zbv (ps++t.caps).length (ps++t.caps).length f) vs H Q E->vs.length=ps.length:=fun vs H Q E h=>by obtain⟨ρ,ds,S,d,S',us,kv,r,_,_,_,_,_,_,_,_,hl,_⟩:=h;rw[<-r.length,hl,hpl]
 refine⟨len,fun A outer s H args us vs Q E hr e0 hb r hsp=>?_⟩;have hl:=len _ _ _ _ hsp;obtain⟨ρ,ds,S0,d,S',cs,kv,rr,hS,hA,hC,hnd,hcs,rk,hno,hf,hdl,kk⟩:=hsp;have lim:s.heap.NoLimit:=e0.mod.nolimit.keeps fun b o e=>(e0.bs b o e).1;have ho:s.heap.get? a=some (kla_obj "<lambda>" t.qual t.params t.body t.scope cl pm c ct):=(e0.hok a _ hA).1;have hcd:s.heap.CodeRec (.ref c) t.qual:=(e0.hok c _ hC).1;have hloc:∀y∈ps.zip us,t.scope.names.lookup y.1=some .local:=fun⟨n,v⟩ hy=>S.par n (z7l hy).1;refine kla_callFunE hr.depth ho rfl S.co S.gen rfl hcd (hb _ _ _ _ ?_);refine wpAny_newFunctionEnv S.nocell hloc (fun h₁ hns hsb=>⟨lim.fresh _ hsb,?_⟩) S.kind;show codeAny _ _ (.expr t.body (envX t.qual t.scope s.heap.objs.size a (.ref c) cl)) _ _;have hk₁:∀b o,s.heap.get? b=some o->h₁.get? b=some o:=fun b o e=>hsb.extBut b o (z53 (z50 e)) (z5p _ e);refine kla_codeExpr ?_;have I:=zll (qual:=t.qual) (f:=a) (cd:=.ref c) (E:=E) (tk:=s.toks+(ps.zip us).length) S hr.hd e0 hl r hcs hnd hns hk₁;have cin:=hcs.cin;rw[z6g,z6g]at hno;obtain⟨⟨n1,n2⟩,n3⟩:=hno;unfold zbv at hf;split at hf
 · rename_i hlen;have hpe:=(hbody A outer s H (zbk H cl) E (hr.deeper _)).nox;have rs:RepL K mg ρ (zbk H cl) (ds++kv) (vs++cs):=(rr.off cin n1).append (zq9 hcs rk n2);have ev:EnvR K mg ρ (zbk H cl) ((ds++kv).map some) ((vs++cs).map some):=by
     refine⟨by rw[z7k,z7k,rs.length],fun i x q=>?_⟩;rw[z6w]at q ⊢;cases hx:(ds++kv)[i]? with
     |none=>rw[hx]at q;cases q
     | some y=>
       rw[hx]at q;cases q;obtain⟨v,e1,r1⟩:=rs.get hx;exact⟨v,by rw[e1];rfl,r1⟩
   rw[hlen,z8z,List.replicate_zero,z6f]at hf;have hb2:∀b∈cl.map (·.2),(∃o,H b=some (.frz o (.own 0)))/\b∉frs outer:=fun b hb=>⟨cin b hb,fun z=>by
     obtain⟨o,y⟩:=cin b hb;rw[e0.frf b z]at y;cases y⟩
   refine z7f (hpe [] _ ((vs++cs).map some) (zbk H cl) (fun v H'=>(∀b∈cl.map (·.2),H' b=none)->Q v (onC H' H cl)) I ⟨ρ,_,S0,d,S',ev,hS.off cin n3,hf,fun v ρ' H' E' hS' r' nn=>?_⟩) (fun v s' hs=>?_) fun e s' hs=>hs
   · exact kk v ρ' _ (E'.on hS' nn hcs.out) (hS'.on nn) (r'.mono (ztp nn))
   · obtain⟨v',H',J,rv,q⟩:=hs;have un:Un (frs outer) [] (zbk H cl) H' s.heap s'.heap:=J.base;have nn:∀b∈cl.map (·.2),H' b=none:=fun b hb=>by obtain⟨⟨o,z⟩,_⟩:=hb2 b hb;exact un.free b o (e0.hok b _ z).1 (zci hb) (by simp)
     exact⟨v',onC H' H cl,J.os,J.bare,z1l un cin,zzq un e0.hok J.hok hb2,rv,q nn⟩
 · cases hf
structure CCal (P:Program) (w:World) (K:Frag) (mg:zMg) (base:Heap) (k:Nat) (t:LT) (g:G):Prop where
 ex:∃ps:List Str,(∀(a c:Addr) (pm ct:Value) (cl:zLA),FnOk P w K mg base CX0 k a (kla_fn "<lambda>" t.qual t.params t.body t.scope cl pm (.ref c) ct) ps (zmv K mg t a c pm ct cl g)) /\
   ∀(c:Addr) (pm ct:Value) (cl:zLA),Binds K (kla_fn "<lambda>" t.qual t.params t.body t.scope cl pm (.ref c) ct) ps []
theorem CCal.mono{j:Nat}{g:G}(c:CCal P w K mg base j t g)(h:j<=k):CCal P w K mg base k t g :=
 let⟨ps,F,b⟩:=c.ex;⟨ps,fun a c pm ct cl=>(F a c pm ct cl).mono h,b⟩
theorem CCal.of(S:CloScope ps t.caps t.scope)(hpl:ps.length=t.params.args.length)(hb:∀(c:Addr) (pm ct:Value) (cl:zLA) (us:List Value),us.length=ps.length->bindArgs (kla_fn "<lambda>" t.qual t.params t.body t.scope cl pm (.ref c) ct) ⟨us,[]⟩=pure (ps.zip us))
   (hbody:∀(a c:Addr) (cl:zLA) (A:Around) (outer:List Env) (s:Shared) (H H1:Hp) (E:XK),Room k (A.deeper (envX t.qual t.scope s.heap.objs.size a (.ref c) cl))->FE (cxC P w K mg base (ps++t.caps) t.qual t.scope a (.ref c) cl A outer s H H1 E).nox t.body f) :
   CCal P w K mg base (k+1) t (zbv (ps++t.caps).length (ps++t.caps).length f) :=
 ⟨ps,fun a c pm ct cl=>z0j S hpl a c pm ct cl (hbody a c cl),fun c pm ct cl=>.all (hb c pm ct cl)⟩
end
def zcb(ft:Str->Option G)(lt ct:LT->Option G)(f:E)(a:As):E:=fun ev S=>(f ev S).bind fun p=>match p.1 with
 | .fn x=>(ft x).bind fun g=>(a ev p.2).bind fun q=>g q.1 q.2
 | .lam t=>(lt t).bind fun g=>(a ev p.2).bind fun q=>g q.1 q.2
 | .clo t vs=>(ct t).bind fun g=>(a ev p.2).bind fun q=>if(noCL q.1&&zb3 vs&&noCS q.2)=true/\q.1.length=t.params.args.length then g (q.1++vs) q.2 else none
 |_=>none
section
variable {X:Cx}{k:Nat}{f:E}{a:As}{e:Expr}{es:List Expr}{pos:Pos}
theorem zf9{fe:Expr}{ft:Str->Option G}{lt ct:LT->Option G}(hT:∀x g,ft x=some g->Cal X.prog X.w X.K X.mg X.base k x g)(hL:∀t g,lt t=some g->LCal X.prog X.w X.K X.mg X.base k t g)(hC:∀t g,ct t=some g->CCal X.prog X.w X.K X.mg X.base k t g)(hr:Room k X.A)(hf:FE X fe f)(ha:FA X (e::es) a)
   (ht:eval (.Call fe (e::es) [] pos) X.env=(eval fe X.env >>= fun v=>callWith pos v [] (backTo pos (starEach (e::es) X.env)) (backToKw pos (keywordEach [] X.env))):=by rfl)
   (he:starEach (e::es) X.env=(false,eval e X.env)::starEach es X.env:=by exact z8 rfl) (hpl:(backTo pos (starEach es X.env)).any (·.1)=false:=by exact qz rfl) :
   FE X (.Call fe (e::es) [] pos) (zcb ft lt ct f a):=by
 intro pins s σ H Q I h;obtain⟨ρ,ev,S,d,S',hE,hS,hf',kk⟩:=h;obtain⟨⟨y,S1⟩,q1,hf'⟩:=zy hf';cases y with
 | fn x=>
   refine zbh (ft:=ft) (lt:=lt) hT hL hr hf ha ht he hpl pins s σ H Q I ⟨ρ,ev,S,d,S',hE,hS,?_,kk⟩;unfold zaf;rw[q1];exact hf'
 | lam t=>
   refine zbh (ft:=ft) (lt:=lt) hT hL hr hf ha ht he hpl pins s σ H Q I ⟨ρ,ev,S,d,S',hE,hS,?_,kk⟩;unfold zaf;rw[q1];exact hf'
 | clo t kv=>
   rw[ht];dsimp only at hf';obtain⟨g,hx,hf'⟩:=zy hf';obtain⟨⟨ds,S2⟩,q2,hf'⟩:=zy hf';dsimp only at hf';split at hf'
   · rename_i hno;obtain⟨hno,hlen⟩:=hno;obtain⟨ps,F,hb⟩:=(hC t g hx).ex;refine z5m (thn (hf pins s σ H (fun v H1=>∃ρ1 a0 us,v=.ref a0/\Ext ρ H ρ1 H1/\StOk X.K X.mg ρ1 H1 S1/\CloAt ρ1 H1 t us a0/\RepL X.K X.mg ρ1 H1 kv us) I ⟨ρ,ev,S,_,S1,hE,hS,q1,fun v ρ1 H1 E1 hS1 r1=>?_⟩) fun u s1 ⟨v,H1,I1,rv,ρ1,a0,us,ev1,E1,hS1,L1,rk⟩=>?_)
     · unfold Rep at r1;obtain⟨b,us,rfl,L,rk⟩:=r1;exact⟨ρ1,b,us,rfl,E1,hS1,L,rk⟩
     · subst ev1;obtain rfl:u=Value.ref a0:=rv;obtain⟨n0,c,pm,ctv,cl,nc,hA,hC,hnd,hcs⟩:=L1;have at_:∀{H':Hp}{s':Shared},Inv X pins σ H' s'->H' a0=some (.ext (zh9 t cl a0 c pm ctv))->FnAt a0 s'.heap:=fun J e=>⟨_,_,_,_,(J.hok a0 _ e).1⟩
       refine callWith_F (at_ I1 hA) (thn (ha pos pins s1 σ H1 (fun vs H2=>(H2 a0=some (.ext (zh9 t cl a0 c pm ctv)))/\zmv X.K X.mg t a0 c pm ctv cl g vs H2 Q E0) I1 ⟨ρ1,ev,S1,ds,S2,hE.mono E1,hS1,q2,fun vs ρ2 H2 E2 hS2 r2=>?_⟩) fun us s2 ⟨vs,H2,I2,r,hA2,q2⟩=>⟨at_ I2 hA2,?_⟩) he hpl
       · have h1:=E2.keep _ _ hA n0;have h2:=E2.keep _ _ hC nc;exact⟨h1,ρ2,ds,S2,d,S',us,kv,r2,hS2,h1,h2,hnd,hcs.mono E2,rk.mono E2,hno,hf',hlen,fun v ρ' H' E' hS' r'=>kk v ρ' H' ((E1.trans E2).trans E') hS' r'⟩
       · exact zg4 (ds:=[]) (dvs:=[]) (F a0 c pm ctv cl) hr (hb c pm ctv cl) .nil zlc I2 r (by rw[z6f];exact q2)
   · cases hf'
 |_=>cases hf'
end
end F
namespace F
open PySem L2 PySem.Spec PySem.Calls PyProof.Rows PySem.W
def zat(ev:Ev):List Nat->Option (List D)
 | []=>some []
 | i::is=>match ev[i]? with
   |some (some d)=>(zat ev is).map (d::·)
   |_=>none
structure CapsOk (X:Cx) (t:LT) (cl:zLA) (is:List Nat):Prop where
 clo:closureFor t.scope X.env=pure cl
 names:cl.map (·.1)=t.caps
 look:∀p∈cl,X.env.cells.lookup p.1=some p.2
 nd:t.caps.Nodup
 at_:is.map (fun i=>X.N[i]?)=t.caps.map some
 kind:∀x∈t.caps,X.env.scope.names.lookup x=some .cell
 fn:∀x∈t.caps,X.fn x=true
def trk(H:Hp)(h:Heap)(cl:zLA):Hp:=onC H (fun b=>(h.get? b).map fun o=>.frz o (.own 0)) cl
section
variable {X:Cx}{pins:zAO}{σ:L2.St}{H H':Hp}{s:Shared}{t:LT}{cl:zLA}{is:List Nat}{ρ:List Addr}{ev:Ev}{S:Sto}
theorem CapsOk.hn(C:CapsOk X t cl is)(I:Inv X pins σ H s):∀b∈cl.map (·.2),H b=none:=fun b hb=>by obtain⟨p,hp,rfl⟩:=z7o.mp hb;exact I.freeC _ _ (C.look p hp)
theorem CapsOk.isc(C:CapsOk X t cl is)(I:Inv X pins σ H s):∀b∈cl.map (·.2),∃o v,s.heap.get? b=some o/\o.data=.cell v:=fun b hb=>by obtain⟨p,hp,rfl⟩:=z7o.mp hb;obtain⟨v,o,h1,h2⟩:=I.cell _ _ (C.look p hp);exact⟨o,v,h1,h2⟩
theorem CapsOk.cin(C:CapsOk X t cl is)(I:Inv X pins σ H s):CellsIn (trk H s.heap cl) cl:=fun b hb=>by obtain⟨o,v,h1,_⟩:=C.isc I b hb;exact⟨o,by unfold trk;rw[zbm hb,h1];rfl⟩
theorem CapsOk.nodup(C:CapsOk X t cl is)(I:Inv X pins σ H s):(cl.map (·.2)).Nodup:=by have nd:(cl.map (·.1)).Nodup:=C.names▸C.nd;unfold List.Nodup at nd ⊢;rw[z8r]at nd ⊢;refine nd.imp_of_mem fun {p q} hp hq ne e=>ne ?_;exact I.ok.inj _ _ p.2 (C.look p hp) (by rw[C.look q hq,e])
theorem CapsOk.ext(C:CapsOk X t cl is)(I:Inv X pins σ H s):Ext ρ H ρ (trk H s.heap cl) :=
 ⟨fun _ _ e=>e,fun b o h n=>by
   unfold trk;rw[qw (fun z=>by rw[C.hn I b z]at h;cases h)];exact h,fun _ z n=>absurd z n⟩
theorem CapsOk.st(C:CapsOk X t cl is)(I:Inv X pins σ H s)(hS:StOk X.K X.mg ρ H S):StOk X.K X.mg ρ (trk H s.heap cl) S :=
 hS.on (C.hn I)
theorem CapsOk.hok(C:CapsOk X t cl is)(I:Inv X pins σ H s):HOk X.prog X.w (trk H s.heap cl) s.heap:=fun b u e=>by
 unfold trk at e;by_cases z:b∈cl.map (·.2)
 · obtain⟨o,v,h1,_⟩:=C.isc I b z;rw[zbm z,h1]at e;cases e;exact⟨h1,⟨o,h1⟩⟩
 · rw[qw z]at e;refine(I.hok b u e).stay (fun _ _ _ q=>q) (fun d q=>?_) fun d xs q=>?_
   · unfold trk;rw[qw (fun y=>by rw[C.hn I d y]at q;cases q)];exact q
   · unfold trk;rw[qw (fun y=>by rw[C.hn I d y]at q;cases q)];exact q
theorem CapsOk.env0(C:CapsOk X t cl is)(I:Inv X pins σ H s):Env0 X.prog X.w X.K X.mg X.base X.A X.stack s (trk H s.heap cl):=by
 have e:=I.env0;refine⟨e.frames,e.mod,fun b o h=>⟨(e.bs b o h).1,?_⟩,e.bsz,e.funs,fun b hb=>?_,C.hok I,e.bare⟩
 · unfold trk;rw[qw];exact(e.bs b o h).2;intro z;obtain⟨p,hp,rfl⟩:=z7o.mp z;have:=I.ok.cab p.1 p.2 (C.fn _ (C.names▸z6o hp)) (C.look p hp);rw[z7u (z57 I.ok.bsz this)]at h;cases h
 · unfold trk;rw[qw];exact e.frf b hb;intro z;obtain⟨p,hp,rfl⟩:=z7o.mp z;rcases z51.mp (I.stkSub _ hb)with y | y
   · exact I.cne _ _ (C.look p hp) y
   · obtain⟨_,o',h3,_⟩:=I.ok.funs.mem y;have:=I.ok.cab p.1 p.2 (C.fn _ (C.names▸z6o hp)) (C.look p hp);exact absurd (z50 h3) (z79.mpr this)
theorem zce(C:CapsOk X t cl is)(I:Inv X pins σ H s)(hE:EnvR X.K X.mg ρ H ev σ)(hS:StOk X.K X.mg ρ H S) :
   ∀(cl':zLA) (js:List Nat) (vs:List D),(∀p∈cl',p∈cl)->js.map (fun i=>X.N[i]?)=cl'.map (fun p=>some p.1)->zat ev js=some vs->∃us,Cells ρ (trk H s.heap cl) (cl'.map (·.1)) us cl'/\RepL X.K X.mg ρ H vs us
 | [],[],vs,_,_,h=>by cases h;exact⟨[],trivial,RepL.nil⟩
 | [],_::_,_,_,e,_=>by cases e
 |_::_,[],_,_,e,_=>by cases e
 | p::cl',i::js,vs,hm,e,h=>by
   rw[z5v,z5v]at e;obtain⟨e1,e2⟩:=z99 e;unfold zat at h;split at h
   · rename_i d hd;obtain⟨vs',hv,h⟩:=zah h;subst h;obtain⟨us,c1,r1⟩:=zce C I hE hS cl' js vs' (fun q hq=>hm q (z5n _ hq)) e2 hv;obtain⟨v,hσ,rd⟩:=hE.at_ i d hd;obtain⟨m,hns,hl⟩:=I.loc;have hp:=hm p z5x;have hpm:p.1∈t.caps:=C.names▸z6o hp;have kd:=C.kind _ hpm;obtain⟨u,ru,lk⟩:=hl i p.1 v e1 hσ (.inr (.inl kd));have hb:p.2∈cl.map (·.2):=z6o hp;refine⟨v::us,⟨rfl,hS.fresh (C.hn I _ hb),?_,c1⟩,RepL.cons rd r1⟩;rcases lk with⟨k1,_⟩ | ⟨_,c,z1,o,z2,z3⟩
     · have:X.env.scope.names.lookup p.1=some .local:=k1;rw[kd]at this;cases this
     · rw[C.look p hp]at z1;cases z1;exact⟨o,u,by unfold trk;rw[zbm hb,z2];rfl,z3,ru⟩
   · cases h
theorem zsl{fs:List Addr}{h h':Heap}(hn:∀b∈cl.map (·.2),H b=none)(u:Un fs [] (trk H h cl) H' h h')(x:∀b∈cl.map (·.2),∃o,h.get? b=some o)(y:∀b o w,H' b=some (.frz o w)->h'.get? b=some o):Un fs [] H (zbk H' cl) h h':=by
 have out:∀b,b∉cl.map (·.2)->trk H h cl b=H b:=fun b z=>qw z;have kp:∀b∈cl.map (·.2),∀o,h.get? b=some o->h'.get? b=some o:=fun b hb o e=>y b o (.own 0) (u.frzs b o _ (by unfold trk;rw[zbm hb,e];rfl));have ne:∀b v,H b=some v->b∉cl.map (·.2):=fun b v e z=>by rw[hn b z]at e;cases e
 refine⟨fun b o e n hb hx=>?_,fun b o e n hb hx=>?_,fun b o e n hx=>?_,u.there,fun b xs e=>?_,fun b o v e=>?_,fun b ps e=>?_⟩
 · by_cases z:b∈cl.map (·.2)
   · exact kp b z o e
   · exact u.keep b o e (by rw[out b z];exact n) hb hx
 · by_cases z:b∈cl.map (·.2)
   · exact⟨o.slots,kp b z o e⟩
   · exact u.slot b o e (by rw[out b z];exact n) hb hx
 · by_cases z:b∈cl.map (·.2)
   · exact zci z
   · exact ye (u.free b o e (by rw[out b z];exact n) hx)
 · rw[jq (ne b _ e)];exact u.tups b xs (by rw[out b (ne b _ e)];exact e)
 · rw[jq (ne b _ e)];exact u.frzs b o v (by rw[out b (ne b _ e)];exact e)
 · obtain⟨more,q⟩:=u.tbls b ps (by rw[out b (ne b _ e)];exact e);exact⟨more,by rw[jq (ne b _ e)];exact q⟩
theorem zoi{c:Addr}{pm ct:Value}{h':Heap}{tk:Nat}(I:Inv X pins σ H s)(hk:∀b o,s.heap.get? b=some o->h'.get? b=some o)(hsz:s.heap.objs.size<=h'.objs.size) :
   Inv X pins σ (upd H h'.objs.size (.ext (zh9 t cl h'.objs.size c pm ct))) { s with heap:=h'.push (kla_obj "<lambda>" t.qual t.params t.body t.scope cl pm c ct),toks:=tk }:=by
 refine I.laid (t':=tk) (fun b o e=>z5p _ (hk b o e)) hsz ?_;refine⟨z6c _ rfl,⟨_,z6c _ rfl⟩,fun h1 h2 p k=>k _ p⟩
def z0z(K:Frag)(mg:zMg)(j:Nat)(x:Str)(t:LT)(cl:zLA):TE:=fun σ H Q=>∃ρ S,StOk K mg ρ H S/\S[j]? = some (.tab x t.qual) /\
 ∀a c pm ct H',Ext ρ H ρ H'->StOk K mg ρ H' S->a∉ρ->c∉ρ->H' a=some (.ext (zh9 t cl a c pm ct))->H' c=some (.ext (yq c t.qual))->Q (.ref a) H'
theorem zs5{x:Str}{params:Arguments}{body:Expr}{scope:Scope}{pos:Pos}{caps:List Str}(j:Nat)(hcd:zbc X.K X.mg x X.env.code)(hb:zmb X.base X.mg)(hcl:closureFor scope X.env=pure cl)(hdef:defaultsOf params X.env=([],[]):=by rfl) :
   PE X (.Lambda params body scope pos) (z0z X.K X.mg j x ⟨params,body,scope,X.env.qual++"<lambda>",caps,[]⟩ cl):=by
 intro pins s σ H Q I h;obtain⟨ρ,S,hS,hj,k⟩:=h;obtain⟨P,hP,T,ps,hps,htr,hcs⟩:=hS.adr hj;obtain⟨f1,o1,fd1,c1,e1,e2,e3,e4,e5⟩:=T;obtain⟨f2,o2,fd2,g1,g2,g3,g4⟩:=hcd;rw[e1]at g1;cases g1;rw[e2]at g2;cases g2;rw[e3]at g3;cases g3;have hcode:X.env.code=.ref c1:=g4.symm.trans e4;have C:CodeHd s.heap c1 P:=codeHd_of_K I.kIn e5;have hPt:s.heap.get? P=some (tabObj ps):=I.hok P _ hps;have bs:=I.bs;have nP:∀b o,X.base.get? b=some o->b≠P:=fun b o e z=>by have:=(bs b o e).2;rw[z,hps]at this;cases this
 have hg:s.heap.Ns mainGlobals X.mg:=by obtain⟨o,es,ep,ho,r⟩:=I.mod.glob;exact⟨o,es,ep,I.bk _ _ ho,r⟩
 have hgP:mainGlobals≠P:=by obtain⟨o,es,ep,ho,r⟩:=I.mod.glob;exact nP _ _ ho
 obtain⟨bm,ob,b1,b2,b3,b4,b5,b6,b7⟩:=hb;have hBA:s.heap.BuiltinsAt X.mg P:=⟨bm,ob,b1,b2,b3,nP _ _ b4,I.bk _ _ b4,b5,b6,b7⟩
 refine kla_eval hdef ?_;cases hca:codeAmong pos ps.toList with
 | none=>
   refine kla_makeFunction hcl I.ok.glob hg hcode C hPt htr hca hgP hBA fun c' ctv h' tk hx hge hlt hrec htb=>?_;have hn:H c'=none:=I.hok.fresh hge;have I1:=zog (q:=X.env.qual++"<lambda>") (tk:=tk) I hps hx htb hge hrec;have I2:=zoi (t:=⟨params,body,scope,X.env.qual++"<lambda>",caps,[]⟩) (cl:=cl) (c:=c') (pm:=(X.mg "__name__").getD .none) (ct:=ctv) (h':=h') (tk:=tk) I1 (fun _ _ e=>e) (z5o _);obtain⟨E1,S1⟩:=zjm (a:=pos.line) (b:=pos.col) hS hj hP hps hn;have hf:=I1.hok.fresh (a:=h'.objs.size) (z5o _);have E2:=jo S1 (.ext (zh9 ⟨params,body,scope,X.env.qual++"<lambda>",caps,[]⟩ cl h'.objs.size c' ((X.mg "__name__").getD .none) ctv)) hf;exact⟨.ref h'.objs.size,_,I2,rfl,k _ c' _ _ _ (E1.trans E2) (S1.new _ hf) (S1.fresh hf) (hS.fresh hn) qq (by rw[qf (z53 hlt),qq])⟩
 | some cv=>
   obtain⟨c',rfl,nc,hc'⟩:=hcs pos cv hca;refine kla_makeFunctionHit hcl I.ok.glob hg hcode C hPt htr hca hBA fun ctv h' tk hk hsz=>?_;have hf:H h'.objs.size=none:=I.hok.fresh hsz;have I2:=zoi (t:=⟨params,body,scope,X.env.qual++"<lambda>",caps,[]⟩) (cl:=cl) (c:=c') (pm:=(X.mg "__name__").getD .none) (ct:=ctv) (h':=h') (tk:=tk) I hk hsz;have E2:=jo hS (.ext (zh9 ⟨params,body,scope,X.env.qual++"<lambda>",caps,[]⟩ cl h'.objs.size c' ((X.mg "__name__").getD .none) ctv)) hf;exact⟨.ref h'.objs.size,_,I2,rfl,k _ c' _ _ _ E2 (hS.new _ hf) (hS.fresh hf) nc qq (E2.keep _ _ hc' nc)⟩
end
end F
namespace F
open PySem L2 PySem.Spec PyProof.Rows
def zeb(g:As):E:=fun ev S=>(g ev S).bind fun q=>match q.1 with
 | [.tup ds]=>some (.lst ds,q.2)
 | [.lst ds]=>some (.lst ds,q.2)
 | [.obj i]=>(match q.2[i]? with
   |some (.lst ds)=>some (.lst ds,q.2)
   |_=>none)
 |_=>none
section
variable {X:Cx}{e:Expr}{es:List Expr}{f:E}{g:As}{p pos:Pos}
theorem zkd(hm:X.mg "list"=none)(ha:FA X (e::es) g)(hg:Gl X "list":=by rfl)(he:starEach (e::es) X.env=(false,eval e X.env)::starEach es X.env:=by exact z8 rfl)(hpl:(backTo pos (starEach es X.env)).any (·.1)=false:=by exact qz rfl):FE X (.Call (.Name "list" p) (e::es) [] pos) (zeb g) :=
 jn (zg6 zcu hg hm zek ha (by decide) (by decide) he hpl) fun σ H Q h=>by
   obtain⟨ρ,ev,S,d,S',hE,hS,hf,k⟩:=h;obtain⟨⟨x,S1⟩,q1,hf⟩:=zy hf;refine⟨ρ,ev,S,x,S1,hE,hS,q1,fun vs ρ1 H1 E1 hS1 r1=>?_⟩;have fin:∀{us:List V}{ds:List D},RepL X.K X.mg ρ1 H1 ds us->(d,S')=(D.lst ds,S1)->∀l,H1 l=none->Q (.ref l) (upd H1 l (.lst us)):=by intro us ds r e l hl;cases e;exact k _ ρ1 _ (E1.trans (jo hS1 _ hl)) (hS1.new _ hl) (Rep.lst (s:=hS1) hl r)
   dsimp only at hf;split at hf
   · obtain⟨v,rfl,r⟩:=one r1;obtain⟨b,us,rfl,t,r⟩:=r.refT;exact⟨b,us,rfl,.inr t.sq,fin r (z6j hf).symm⟩
   · obtain⟨v,rfl,r⟩:=one r1;obtain⟨b,us,rfl,t,r⟩:=r.refL;exact⟨b,us,rfl,.inl t.sq,fin r (z6j hf).symm⟩
   · rename_i i _;split at hf
     · rename_i ds eu;obtain⟨v,rfl,r⟩:=one r1;unfold Rep at r;obtain⟨a,rfl,ea⟩:=r;obtain⟨us,m1,m2⟩:=hS1.ob _ _ a eu ea;exact⟨a,us,rfl,.inl (.of m1),fin m2 (z6j hf).symm⟩
     · cases hf
   · cases hf
end
end F
namespace F
open PySem L2 PySem.Spec PyProof.Rows PySem.W
section
variable {X:Cx}{o e lo hi:Expr}{pos pos' p2:Pos}{f h:E}{u w:Pt}
def z3p(f:E)(a b:Pt)(v:E):C:=fun ev S=>(v ev S).bind fun p=>(f ev p.2).bind fun q=>(a ev q.2).bind fun r=>(b ev r.2).bind fun t=>match p.1,q.1,r.1,t.1 with
 | .lst ys,.obj i,some lo,some hi=>(match t.2[i]? with
   |some (.lst ds)=>if 0<=lo/\lo<=hi/\hi<=ds.length/\ds.length+ys.length<=sizeLine then some (.nx ev,t.2.set i (.lst (ds.take lo.toNat++ys++ds.drop hi.toNat)))else none
   |_=>none)
 |_,_,_,_=>none
end
section
variable {X:Cx}{K:Frag}{mg:zMg}{a b:Expr}{f g:E}{pos:Pos}
def z10(S:Sto):D->Option (List D)
 | .lst ds=>some ds
 | .obj a=>(match S[a]? with
   |some (.lst ds)=>some ds
   |_=>none)
 |_=>none
end
section
variable {X:Cx}{K:Frag}{mg:zMg}{e o l:Expr}{f g:E}{pos apos spos px pt:Pos}{body:C}
def z38(f:E):E:=fun ev S=>(f ev S).bind fun p=>match p.1 with
 | .obj a=>(match p.2[a]? with
   |some (.lst _)=>some (.non,p.2.set a (.lst []))
   |_=>none)
 |_=>none
def zy4(a i:Nat)(body:C):Nat->Nat->Ev->Sto->Option (Out×Sto)
 |0,_,_,_=>none
 | n+1,j,ev,S=>match S[a]? with
   | some (.lst ds)=>(match ds[j]? with
     |none=>some (.nx ev,S)
     | some d=>(body (ev.set i (some d)) S).bind fun p=>(match p.1 with
       | .nx e=>zy4 a i body n (j+1) e p.2
       | .ct e=>zy4 a i body n (j+1) e p.2
       | .bk e=>some (.nx e,p.2)
       | .rt x=>some (.rt x,p.2)))
   |_=>none
def zbo(a:Nat)(is:List Nat)(body:C):Nat->Nat->Ev->Sto->Option (Out×Sto)
 |0,_,_,_=>none
 | n+1,j,ev,S=>match S[a]? with
   | some (.lst ds)=>(match ds[j]? with
     |none=>some (.nx ev,S)
     | some (.tup us)=>(yr ev is us).bind fun e1=>(body e1 S).bind fun p=>(match p.1 with
       | .nx e=>zbo a is body n (j+1) e p.2
       | .ct e=>zbo a is body n (j+1) e p.2
       | .bk e=>some (.nx e,p.2)
       | .rt x=>some (.rt x,p.2))
     |_=>none)
   |_=>none
def zg3(is:List Nat)(f:E)(body:C):C:=fun ev S=>(f ev S).bind fun p=>match p.1 with
 | .obj a=>(match p.2[a]? with
   |some (.lst ds)=>zbo a is body (ds.length+1) 0 ev p.2
   |_=>none)
 |_=>none
theorem zrj(is:List Nat){es:List Expr}{t:TGs}{kk:Nat}{sb:List Stmt}(hn:Names X es is t)(hl:FE X l f)(hb:FSs X sb body)(hp:PassesOwn (model X.prog X.w) X.A X.env X.xe)(hc:X.calm=true:=by rfl)(hln:(assignEach es X.env).length=is.length:=by rfl)(hst:(assignEach es X.env).findIdx? (·.1)=none:=by rfl)
   (hs:∀v,foldedSetIterable l X.env v=pure v:=by intro _;rfl) :
   FS X (.For (.Tuple es kk pt) l sb [] pos) (zg3 is f body) :=
 xu (zjw hp hc (zfo hl) (znn hc hn.pgs hln hst) hb hs) fun σ H D h=>by
   obtain⟨ρ,ev,S,o,S',hE,hS,hf,k⟩:=h;obtain⟨⟨d,S1⟩,q1,hf⟩:=zy hf;cases d with
   | obj a=>
     dsimp only at hf;split at hf
     · rename_i ds hd;refine⟨ρ,ev,S,_,S1,hE,hS,q1,fun v ρ1 H1 E1 hS1 r1=>?_⟩;unfold Rep at r1;obtain⟨p,rfl,hp⟩:=r1;obtain⟨us,hu,ru⟩:=hS1.ob a _ p hd hp;have k1:=k.ext E1;refine⟨p,rfl,⟨us,SqL.of hu⟩,fun j m σ' H'=>∃ρ' ev' S2,Ext ρ1 H1 ρ' H'/\StOk X.K X.mg ρ' H' S2/\EnvR X.K X.mg ρ' H' ev' σ'/\zbo a is body m j ev' S2=some (o,S'),⟨ds.length+1,ρ1,ev,S1,Ext.refl _ _,hS1,hE.mono E1,hf⟩,?_⟩;rintro j m σ' H' ⟨ρ',ev',S2,e0,hS2,hE2,hl2⟩;cases m with
       |zero=>cases hl2
       | succ m=>
         unfold zbo at hl2;split at hl2
         · rename_i ds2 hd2;obtain⟨us2,hu2,ru2⟩:=hS2.ob a _ p hd2 (e0.pre _ _ hp);split at hl2
           · rename_i hj;cases hl2;refine .inl ⟨⟨us2,SqL.of hu2,?_⟩,k1 σ' ρ' H' e0 hS2 hE2⟩;have:=ru2.length;have:=List.getElem?_eq_none_iff.mp hj;omega
           · rename_i ws hj;obtain⟨y,ey,ry⟩:=ru2.get hj;obtain⟨e1,q2,hl2⟩:=zy hl2;obtain⟨⟨o1,S3⟩,q3,hl2⟩:=zy hl2;refine .inr ⟨⟨us2,y,SqL.of hu2,ey⟩,fun σ3 H3=>∃ρ3 ev3 S3,Ext ρ1 H1 ρ3 H3/\StOk X.K X.mg ρ3 H3 S3/\EnvR X.K X.mg ρ3 H3 ev3 σ3/\zbo a is body m (j+1) ev3 S3=some (o,S'),fun σ3 H3 z=>⟨m,z9m m,z⟩,fun x H3 ⟨eH,hx⟩=>?_⟩;subst eH;have ex:=hx us2 (SqL.of hu2);rw[ey]at ex;cases ex;unfold Rep at ry;obtain⟨pp,vs,rfl,tt,rr⟩:=ry;refine⟨pp,vs,rfl,tt.sq,by rw[<-rr.length];exact zbd q2,zft hn rr hE2 q2 fun σ2 hE3=>⟨ρ',e1,S2,o1,S3,hE3,hS2,q3,?_⟩⟩;cases o1 with
             |nx e=>exact fun σ3 ρ3 H3 E3 hS3 hE4=>⟨ρ3,e,S3,e0.trans E3,hS3,hE4,hl2⟩
             |ct e=>exact fun σ3 ρ3 H3 E3 hS3 hE4=>⟨ρ3,e,S3,e0.trans E3,hS3,hE4,hl2⟩
             |bk e=>cases hl2;exact fun σ3 ρ3 H3 E3 hS3 hE4=>k1 σ3 ρ3 H3 (e0.trans E3) hS3 hE4
             |rt y=>cases hl2;exact fun v3 ρ3 H3 E3 hS3 r3=>k1 v3 ρ3 H3 (e0.trans E3) hS3 r3
           · cases hl2
         · cases hl2
     · cases hf
   |_=>cases hf
end
end F
namespace F
open PySem L2 PySem.Spec PyProof.Rows PySem.W PySem.Calls
theorem zvl:typeLookup (.type "list_reverseiterator") "__len__"=pure none:=by rw[typeLookup_type,builtinLookup_eq_fast];kernel_rfl
theorem zq7:typeLookup (.type "list_reverseiterator") "__length_hint__"=pure (some (.builtin "list_reverseiterator.__length_hint__")):=by rw[typeLookup_type,builtinLookup_eq_fast];kernel_rfl
theorem zvk:isSubtype (.type "list_reverseiterator") (.type "list_reverseiterator")=pure true:=by rw[isSubtype_type];kernel_rfl
section
variable {prog:Program}{w:World}{A:Around}{s:Shared}{it l:Addr}{items:Array Value}
def zpy(items:Array Value):Nat->Value->Prop:=fun i v=>items[items.size-1-i]? = some v
theorem zqq{E:zVP}{Q:Bool->Shared->Prop}{i:Int}(hit:s.heap.IsRevIter it l i)(h:Q false s):wpAny (model prog w) A (Builtin.List.listLengthHint (.ref it)) Q E s:=by unfold Builtin.List.listLengthHint;refine z5m (wpAny_specialOf hit.typeIs zvl ?_);refine z5m (wpAny_specialOf (name:=Str.ofString "__length_hint__") hit.typeIs zq7 ?_);refine z5m (wpAny_isInstance hit.typeIs zvk ?_);exact z52 h
variable {R:Result->Shared->Prop}
theorem zk6(hh:A.handled=none)(hne:l≠it)(hl:s.heap.IsList l items)(hit:s.heap.IsRevIter it l ((items.size:Int)-1))(hn:items.size<=sizeLine){S:Addr}{c₀:Nat}
   (hS:s.heap.get? S=some { cls:=.type "list",data:=.seq #[] c₀ }) (h1:S≠it) (h2:S≠l)
   (hR:∀s' acc' c',Moved [S,it] (fun a b=>b=a) s s'->s'.heap.get? S=some { cls:=.type "list",data:=.seq acc' c' }->ItemsOf (zpy items) acc' items.size->R (.ok (.ret .none)) s') :
   wpAny (model prog w) A.in1 (Builtin.List.listExtendWith (.ref S) (.ref it) .none) (fun fin s'=>match fin with
     | .done f=>R (.ok f) s'
     | .again c'=>c'.quiet=true/\codeAny (model prog w) A c' R s') (fun e s'=>R (.error e) s') s:=by
 have W:=(Walks.listRev (prog:=prog) (w:=w) (A:=A.in1) hh it l hne items).toS;have st0:(0:Nat)<=items.size/\s.heap.IsRevIter it l ((items.size:Int)-1-((0:Nat):Int))/\s.heap.IsList l items:=⟨z6n _,by simpa using hit,hl⟩
 have nf:S∉[it,l]:=by simp[h1,h2]
 have ns:Builtin.List.listSameRef (.ref S) (.ref it)=false:=by unfold Builtin.List.listSameRef;simpa using h1
 unfold Builtin.List.listExtendWith;refine z5m (wpAny_typeOf hit.typeIs ?_);rw[ns,z6i (by decide)];refine z5m (W.self 0 _ _ _ st0 (z5m (wpAny_holding (zqq hit ?_))));rw[z6i (by decide +kernel)];refine z52 ⟨plainId_quiet F.plain_extend_loop _,?_⟩;exact codeAny_extend_loopS W hn S nf .none items.size 0 s #[] c₀ (Nat.sub_zero _) (z6n _) st0 hS (ItemsOf.nil _) fun s' acc' c' m hs ha=>hR s' acc' c' m hs ha
theorem zqp(hh:A.handled=none)(hne:l≠it)(hl:s.heap.IsList l items)(hit:s.heap.IsRevIter it l ((items.size:Int)-1))(hn:items.size<=sizeLine){S:Addr}
   (hS:s.heap.get? S=some { cls:=.type "list",data:=.seq #[] }) (h1:S≠it) (h2:S≠l)
   (hR:∀s' acc' c',Moved [S,it] (fun a b=>b=a) s s'->s'.heap.get? S=some { cls:=.type "list",data:=.seq acc' c' }->ItemsOf (zpy items) acc' items.size->R (.ok (.ret .none)) s') :
   wpAny (model prog w) A.in1 (Builtin.«list.__init__» ⟨[.ref S,.ref it],[]⟩) (fun fin s'=>match fin with
     | .done f=>R (.ok f) s'
     | .again c'=>c'.quiet=true/\codeAny (model prog w) A c' R s') (fun e s'=>R (.error e) s') s:=by
 show wpAny _ A.in1 (Builtin.List.listItems (.ref S) >>= fun old=>Builtin.List.listUpdate (.ref S) (fun _=>#[]) >>= fun _=>letGo old.toList.reverse >>= fun _=>Builtin.List.listExtendWith (.ref S) (.ref it) .none) _ _ s;unfold Builtin.List.listItems;refine z5m (z5m (wpAny_seqItems hS rfl (z52 ?_)));unfold Builtin.List.listUpdate;refine z5m (wpAny_updateSeq hS rfl (z5m (wpAny_letGo ?_)));have hS2:=z9j (Obj.mapSeq (fun _=>(#[]:Array Value))) hS rfl;have keep:∀b o,b≠S->s.heap.get? b=some o->(s.heap.update S (Obj.mapSeq (fun _=>(#[]:Array Value)))).get? b=some o:=fun b o hb e=>(z9c _ _ (z7v hb)).trans e;refine zk6 hh hne (hl.at fun o e=>keep l o (z7v h2) e) (hit.at fun o e=>keep it o (z7v h1) e) hn hS2 h1 h2 fun s' acc' c' m hs ha=>hR s' acc' c' ?_ hs ha;exact Moved.trans (fun _ _ _ p q=>q.trans p) ((Moved.refl (wr:=[S,it]) (G:=fun a b=>b=a) (s:=s) fun _=>rfl).then_heap (z5o _) fun b o hb e=>keep b o (fun z=>hb (by simp[z])) e) m
theorem zgf{E:zVP}{Q:zVP}(hh:A.handled=none)(hne:l≠it)(hl:s.heap.IsList l items)(hit:s.heap.IsRevIter it l ((items.size:Int)-1))(hn:items.size<=sizeLine)
   (hQ:∀s' acc' c',Moved [s.heap.objs.size,it] (fun a b=>b=a) { s with heap:=s.heap.push { cls:=.type "list",data:=.seq #[] } } s'->s'.heap.get? s.heap.objs.size=some { cls:=.type "list",data:=.seq acc' c' }->ItemsOf (zpy items) acc' items.size->Q (.ref s.heap.objs.size) s') :
   wpAny (model prog w) A (call (.type "list") [.ref it]) Q E s:=by
 obtain⟨o1,e1,_⟩:=id hl;obtain⟨o2,e2,_⟩:=id hit;refine callType_codes (Q₁:=fun obj s₁=>obj=.ref s.heap.objs.size/\s₁={ s with heap:=s.heap.push { cls:=.type "list",data:=.seq #[] } }) F.called_list (F.typeCall_list_1 _) F.entry_list_init (code_list_new _ ⟨rfl,rfl⟩) fun obj s₁ h₁=>?_;obtain⟨rfl,rfl⟩:=h₁;have hS:(s.heap.push { cls:=.type "list",data:=.seq #[] }).get? s.heap.objs.size=some { cls:=.type "list",data:=.seq #[] }:=z6c _ rfl;refine⟨⟨_,hS,rfl⟩,F.args_list_init_2 _ _,zqp (A:=A.in1) hh hne (hl.at fun o e=>z5p _ e) (hit.at fun o e=>z5p _ e) hn hS ?_ ?_ fun s' acc' c' m hs ha=>⟨rfl,hQ s' acc' c' m hs ha⟩⟩
 · exact fun z=>z7a _ (z▸z50 e2)
 · exact fun z=>z7a _ (z▸z50 e1)
end
section
variable {X:Cx}{e:Expr}{te:TE}{f:E}{p p2 pos pos2:Pos}
theorem zgo:bootBuiltins "reversed"=some (.type "reversed"):=by with_unfolding_all rfl
theorem zm9{its:List Value}{acc:Array Value}(h:ItemsOf (zpy its.toArray) acc its.toArray.size):acc=its.reverse.toArray:=by
 apply Array.toList_inj.mp;obtain⟨h1,h2⟩:=h;rw[z5t]at h1;have l1:acc.toList.length=its.length:=by rw[Array.length_toList];exact h1
 apply List.ext_getElem
 · rw[l1,z62]
 · intro j q1 q2;have q3:j<its.length:=by rw[<-l1];exact q1
   have e1:acc[j]? = some acc.toList[j]:=by rw[<-Array.getElem?_toList];exact z5s q1
   have e2:=h2 j _ e1;unfold zpy at e2;rw[z5t,<-Array.getElem?_toList,z5s (by show its.length-1-j<its.length;omega)]at e2;have e3:=z6j e2;rw[<-e3,List.getElem_reverse]
def z4d(K:zFr)(te:TE):TE:=fun σ H Q=>te σ H fun x H1=>∃a xs,x=.ref a/\SqL K H1 a xs/\∀l,H1 l=none->Q (.ref l) (upd H1 l (.lst xs.reverse))
theorem zlb(he:PE X e te)(hc:X.calm=true)(hm:X.mg "list"=none)(hm2:X.mg "reversed"=none)(hg:Gl X "list")(hg2:Gl X "reversed")
   (h1:starEach [.Call (.Name "reversed" p2) [e] [] pos2] X.env=(false,eval (.Call (.Name "reversed" p2) [e] [] pos2) X.env)::starEach [] X.env) (h2:starEach [e] X.env=(false,eval e X.env)::starEach [] X.env) :
   PE X (.Call (.Name "list" p) [.Call (.Name "reversed" p2) [e] [] pos2] [] pos) (z4d X.K te):=by
 intro pins s σ H Q I h;refine z6y (zcq I hg hm zek ?_ (by decide) (by decide));refine z7b ?_ h1 rfl;rw[h1];show wpAny _ _ (spliced ((false,eval (.Call (.Name "reversed" p2) [e] [] pos2) X.env)::[])) _ _ s;refine PySem.Calls.spliced_cons ?_;refine z6y (zcq I hg2 hm2 zgo ?_ (by decide) (by decide));have h':=zfr he znp h2 pos2 pins s σ H (fun vs H1=>match vs with
   | [x]=>∃a xs,x=.ref a/\SqL X.K H1 a xs/\∀l,H1 l=none->Q (.ref l) (upd H1 l (.lst xs.reverse))
   |_=>False) I h
 refine z7b (thn h' fun us s1 ⟨vs,H1,I1,r1,q1⟩=>?_) h2 rfl
 match vs,r1,q1 with
 | [x],r1,q1=>
   obtain⟨a,xs,rfl,hq,q⟩:=q1;obtain⟨u,rfl,ru⟩:=r1.one;cases ru;obtain⟨its,rv,pl,hz⟩:=I1.list hq;have hlen:=rv.length;have hl:s1.heap.IsList a its.toArray:=pl.isList;obtain⟨oa,ea,_⟩:=id hl;refine call_reversed_list hl ?_;refine PySem.Calls.spliced_nil ?_;have hne:a≠s1.heap.objs.size:=fun z=>z7a _ (z▸z50 ea);refine zgf (items:=its.toArray) (I.ok.hd hc) hne (hl.at fun o e=>z5p _ e) ⟨_,z6c _ rfl,rfl,rfl⟩ (by rw[z5t];omega) fun s' acc' c' m hs ha=>?_;have es:=zm9 ha;subst es;obtain⟨h',g',d',t',o'⟩:=s';have e1:=m.gens;have e2:=m.drawn;have e3:=m.os;dsimp only at e1 e2 e3 hs;subst e1 e2 e3;have sz:(s1.heap.push (revObj a ((its.toArray.size:Int)-1))).objs.size=s1.heap.objs.size+1:=z93 ..;have kp:∀b o,s1.heap.get? b=some o->h'.get? b=some o:=fun b o e=>by have lt:=z50 e;refine m.heap b o ?_ (z5p _ (z5p _ e));simp only[sz,z51,List.not_mem_nil,or_false,not_or];exact⟨z53 (z8s lt),z53 lt⟩
   rw[sz]at hs;refine⟨.ref (s1.heap.objs.size+1),_,I1.laid (t':=t') (h':=h') kp (z9f _) (show ObjOk X.prog X.w _ h' _ (.lst xs.reverse) from⟨by rw[z62];exact hz,its.reverse,c',rv.reverse,hs⟩),?_,q _ (I1.hok.fresh (z9f _))⟩;show Value.ref _=Value.ref _;rw[sz]
def zca(f:E):E:=fun ev S=>(f ev S).bind fun p=>match p.1 with
 | .lst ds=>some (.lst ds.reverse,p.2)
 |_=>none
theorem zfb(hm:X.mg "list"=none)(hm2:X.mg "reversed"=none)(he:FE X e f)(hc:X.calm=true:=by rfl)(hg:Gl X "list":=by rfl)(hg2:Gl X "reversed":=by rfl)
   (h1:starEach [.Call (.Name "reversed" p2) [e] [] pos2] X.env=(false,eval (.Call (.Name "reversed" p2) [e] [] pos2) X.env)::starEach [] X.env:=by exact z8 rfl) (h2:starEach [e] X.env=(false,eval e X.env)::starEach [] X.env:=by exact z8 rfl) :
   FE X (.Call (.Name "list" p) [.Call (.Name "reversed" p2) [e] [] pos2] [] pos) (zca f) :=
 jn (zlb he hc hm hm2 hg hg2 h1 h2) fun σ H Q h=>by
   obtain⟨ρ,ev,S,d,S',hE,hS,hf,k⟩:=h;obtain⟨⟨x,S1⟩,q1,hf⟩:=zy hf;cases x with
   | lst ds=>
     cases hf;refine⟨ρ,ev,S,_,S1,hE,hS,q1,fun v ρ1 H1 E1 hS1 r1=>?_⟩;obtain⟨b,us,rfl,t,r⟩:=r1.refL;exact⟨b,us,rfl,t.sq,fun l hl=>k _ ρ1 _ (E1.trans (jo hS1 _ hl)) (hS1.new _ hl) (Rep.lst (s:=hS1) hl r.reverse)⟩
   |_=>cases hf
end
end F
namespace F
open PySem L2 PySem.Spec PySem.Calls PyProof.Rows PySem.W
open Classical in
def zcc(g:G)(a:As)(q:Nat)(t:LT)(cl:zLA)(is:List Nat):E:=fun ev S=>(a ev S).bind fun p=>match ev[q]? with
 |some (some (.lam t'))=>if t'={ t with cl:=cl }then (zat ev is).bind fun vs=>(g (p.1++[.clo t vs]) p.2).bind fun r=>if(noC r.1&&noCS r.2)=true then some r else none else none
 |_=>none
def z4l(K:Frag)(mg:zMg)(q:Nat)(t:LT)(cl:zLA)(f:As):TA:=fun σ H Q=>∃ρ ev S ds S',EnvR K mg ρ H ev σ/\StOk K mg ρ H S/\f ev S=some (ds,S')/\ev[q]? = some (some (.lam { t with cl:=cl })) /\
 ∀vs a c pm ct ρ' H',Ext ρ H ρ' H'->StOk K mg ρ' H' S'->RepL K mg ρ' H' ds vs->a∉ρ'->c∉ρ'->H' a=some (.ext (zh9 t cl a c pm ct))->H' c=some (.ext (yq c t.qual))->Q (vs++[.ref a]) H'
def FAD(X:Cx)(es:List Expr)(q:Nat)(t:LT)(cl:zLA)(f:As):Prop:=PA X es (z4l X.K X.mg q t cl f)
section
variable {X:Cx}{t:LT}{cl:zLA}{q:Nat}
theorem zda{e:Expr}(h:FE X e (eV q))(hs:starEach [e] X.env=[(false,eval e X.env)]:=by exact z8 rfl):FAD X [e] q t cl aN :=
 zfq (zfr h znp hs) fun σ H Q h=>by obtain⟨ρ,ev,S,ds,S',hE,hS,hf,hj,k⟩:=h;cases hf;refine⟨ρ,ev,S,.lam { t with cl:=cl },S,hE,hS,by simp[eV,hj],fun v ρ1 H1 E1 hS1 r1=>?_⟩;unfold Rep at r1;obtain⟨a,rfl,n1,c,pm,ct,n2,h1,h2⟩:=r1;exact k [] a c pm ct ρ1 H1 E1 hS1 RepL.nil n1 n2 h1 h2
theorem xg{e:Expr}{es:List Expr}{f:E}{g:As}(ha:FE X e f)(hr:FAD X es q t cl g)(hs:starEach (e::es) X.env=(false,eval e X.env)::starEach es X.env:=by exact z8 rfl):FAD X (e::es) q t cl (aC f g) :=
 zfq (zfr ha hr hs) fun σ H Q h=>by obtain⟨ρ,ev,S,d,S',hE,hS,hf,hj,k⟩:=h;obtain⟨⟨x,S1⟩,q1,hf⟩:=zy hf;obtain⟨⟨y,S2⟩,q2,hf⟩:=zy hf;cases hf;refine⟨ρ,ev,S,x,S1,hE,hS,q1,fun v ρ1 H1 E1 hS1 r1=>⟨ρ1,ev,S1,y,_,hE.mono E1,hS1,q2,hj,fun vs a c pm ct ρ2 H2 E2 hS2 r2 n1 n2 h1 h2=>?_⟩⟩;exact k (v::vs) a c pm ct ρ2 H2 (E1.trans E2) hS2 (RepL.cons (r1.mono E2) r2) n1 n2 h1 h2
end
section
variable {X:Cx}{k q:Nat}{x:Str}{g:G}{a:As}{t:LT}{cl:zLA}{is:List Nat}{e:Expr}{es:List Expr}{p pos:Pos}
theorem zc8(cal:Cal X.prog X.w X.K X.mg X.base k x g)(C:CapsOk X t cl is)(hr:Room k X.A)(ha:FAD X (e::es) q t cl a)(hg:Gl X x:=by rfl)(hdb:(x==("__debug__":Str))=false:=by decide)
   (he:starEach (e::es) X.env=(false,eval e X.env)::starEach es X.env:=by exact z8 rfl) (hpl:(backTo pos (starEach es X.env)).any (·.1)=false:=by exact qz rfl) :
   FE X (.Call (.Name x p) (e::es) [] pos) (zcc g a q t cl is):=by
 obtain⟨f,fd,ps,ds,dvs,dds,gg,F,hm,hk,hb,hd,hdd,hgg⟩:=cal.ex;intro pins s σ H Q I h;obtain⟨ρ,ev,S,d,S',hE,hS,hf,kk⟩:=h;unfold zcc at hf;obtain⟨⟨as,S1⟩,q1,hf0⟩:=zy hf;clear hf;dsimp only at hf0;split at hf0
 · rename_i t' hj;split at hf0
   · rename_i hyu;subst hyu;obtain⟨kv,q2,hf⟩:=zy hf0;obtain⟨⟨d1,S2⟩,q3,hf⟩:=zy hf;dsimp only at hf;split at hf
     · rename_i hno;cases hf;rw[z6g]at hno;obtain⟨n1,n2⟩:=hno;refine z6y (za0 I hg hm ?_ hdb);refine z7q (h₀:=X.base) I.ok.mod.kin hk (thn (ha pos pins s σ H (fun vs H1=>∃ws a c pm ct ρ1,vs=ws++[.ref a]/\Ext ρ H ρ1 H1/\StOk X.K X.mg ρ1 H1 S1/\RepL X.K X.mg ρ1 H1 as ws/\a∉ρ1/\c∉ρ1/\H1 a=some (.ext (zh9 t cl a c pm ct))/\H1 c=some (.ext (yq c t.qual))) I ⟨ρ,ev,S,as,S1,hE,hS,q1,hj,fun vs a c pm ct ρ1 H1 E1 hS1 r1 m1 m2 m3 m4=>⟨vs,a,c,pm,ct,ρ1,rfl,E1,hS1,r1,m1,m2,m3,m4⟩⟩) fun us s1 ⟨vs,H1,I1,r,ws,a',c,pm,ct,ρ1,ev1,E1,hS1,r1,m1,m2,m3,m4⟩=>⟨I1.kIn,?_⟩) he hpl;subst ev1;have E2:=C.ext (ρ:=ρ1) I1;have hS2:=C.st I1 hS1;obtain⟨cs,hcs,rk⟩:=zce C I1 (hE.mono E1) hS1 cl is kv (fun _ h=>h) (by
         rw[C.at_,<-C.names,z8b];rfl) q2
       rw[C.names]at hcs;have rc:Rep X.K X.mg ρ1 (trk H1 s1.heap cl) (.clo t kv) (.ref a'):=by unfold Rep;exact⟨a',cs,rfl,⟨m1,c,pm,ct,cl,m2,E2.keep _ _ m3 m1,E2.keep _ _ m4 m2,C.nodup I1,hcs⟩,rk.mono E2⟩
       have cin:=C.cin I1;have hsp:spG X.K X.mg gg ((ws++[.ref a'])++dvs) (trk H1 s1.heap cl) (fun v H'=>CellsIn H' cl->Q v (zbk H' cl)) E0 :=
         ⟨ρ1,(as++[.clo t kv])++dds,S1,d,S',((r1.mono E2).append (RepL.cons rc RepL.nil)).append (hdd _ _),hS2,hgg _ _ _ q3,fun v ρ' H' E' hS' r' ci=>by
           refine kk v ρ' (zbk H' cl) (E1.trans ⟨E'.pre,fun b o hb nb=>?_,fun b hb nb=>?_⟩) (hS'.off ci n2) (r'.off ci n1)
           · have z:b∉cl.map (·.2):=fun z=>by rw[C.hn I1 b z]at hb;cases hb
             rw[jq z];exact E'.keep b o (E2.keep b o hb nb) nb
           · have:=E'.new b hb nb;by_cases z:b∈cl.map (·.2)
             · exact C.hn I1 b z
             · unfold trk at this;rw[qw z]at this;exact this⟩
       have r2:Vals ((ws++[.ref a'])++dvs) (us++ds):=r.append hd;have hl:(us++ds).length=ps.length:=by rw[<-r2.length];exact F.len _ _ _ _ hsp
       refine z9r (z8x (F.run X.A X.stack s1 (trk H1 s1.heap cl) ⟨us,[]⟩ (us++ds) _ _ E0 hr (C.env0 I1) (hb s1 us I1.kIn hl) r2 hsp) fun r s' hq=>?_);cases r with
       |error e=>exact hq.elim
       | ok fl=>
         cases fl with
         | ret u=>
           obtain⟨v,H',os,bare,un,hok,rv,q⟩:=hq;have ci:CellsIn H' cl:=fun b hb=>let⟨o,z⟩:=cin b hb;⟨o,un.frzs b o _ z⟩;obtain⟨hh,gn,dr,tt,os'⟩:=s';obtain rfl:os'=s1.os:=os;refine⟨v,zbk H' cl,I1.call (h':=hh) (g':=gn) (d':=dr) (t':=tt) (ch:=[]) (zsl (C.hn I1) un (fun b hb=>let⟨o,_,z,_⟩:=C.isc I1 b hb;⟨o,z⟩) (fun b o w z=>(hok b _ z).1)) (zit hok ci) bare (fun b z=>absurd z (by simp)),rv,q ci⟩
         |next=>exact False.elim hq
         |brk=>exact False.elim hq
         |cont=>exact False.elim hq
     · cases hf
   · cases hf0
 · cases hf0
end
def spA(K:Frag)(mg:zMg)(gs:zLA->G):Sp:=fun vs H Q E=>∀cl,spG K mg (gs cl) vs H Q E
open Classical in
def gA(gs:zLA->G):G:=fun ds S=>if h:∃r,∀cl,gs cl ds S=some r then some h.choose else none
theorem zrh{gs:zLA->G}{ds:List D}{S:Sto}{r:D×Sto}(h:∀cl,gs cl ds S=some r):gA gs ds S=some r:=by
 have e:∃r,∀cl,gs cl ds S=some r:=⟨r,h⟩
 unfold gA;rw[dif_pos e];exact(e.choose_spec []).symm.trans (h [])
theorem zyt{gs:zLA->G}{ds:List D}{S:Sto}{r:D×Sto}(h:gA gs ds S=some r)(cl:zLA):gs cl ds S=some r:=by
 unfold gA at h;split at h
 · rename_i e;cases h;exact e.choose_spec cl
 · cases h
theorem zxe{K:Frag}{mg:zMg}{gs:zLA->G}{vs:List V}{H:Hp}{Q:VK}{E:XK}(h:spG K mg (gA gs) vs H Q E):spA K mg gs vs H Q E:=fun cl=>by obtain⟨ρ,ds,S,d,S',r,hS,hf,k⟩:=h;exact⟨ρ,ds,S,d,S',r,hS,zyt hf cl,k⟩
section
variable {P:Program}{w:World}{K:Frag}{mg:zMg}{base:Heap}{x qual:Str}{st:Stmt}{N ps:List Str}{k:Nat}{b:zLA->C}{dV:Value}{f:Addr}{fd:FuncData}
theorem FunD.okA(F:FunD K x qual st f fd dV){y:Str}(hm:mg y=some (.ref f))(S:FnScope N ps (zj st))
   (hbody:∀(cdv:Value),zbc K mg y cdv->∀(A:Around) (outer:List Env) (s:Shared) (H:Hp) (E:XK),Room k (A.deeper (envOfC qual (zj st) s.heap.objs.size f cdv)) ->
     ∃cl,FSs (zbl CX0 P w K mg base N qual (zj st) f cdv A outer s H E).nox (jg st) (b cl)):FnOk P w K mg base CX0 (k+1) f fd ps (spG K mg (gA fun cl=>qa N.length ps.length (b cl))):=by
 have co:=F.code hm;obtain⟨oc,od,kV,doc,pm,an,cdv,ct,osl,rfl,lk,hcd⟩:=F.ex;refine zrm lk hcd S (fun vs H Q E h=>?_) fun A outer s H vs Q E hr hsp=>?_
 · obtain⟨ρ,ds,S,d,S',r,hS,hf,k⟩:=h;rw[<-r.length];exact zel (zyt hf [])
 · obtain⟨cl,hb⟩:=hbody cdv co A outer s H E hr;exact⟨_,hb.nox,zi9 (zxe hsp cl)⟩
abbrev z3n(P:Program)(w:World)(K:Frag)(mg:zMg)(base:Heap)(N:List Str)(x qual:Str)(st:Stmt)(k:Nat)(b:zLA->C):Prop :=
 ∀(f:Addr) (cdv:Value),zbc K mg x cdv->∀(A:Around) (outer:List Env) (s:Shared) (H:Hp) (E:XK),Room k (A.deeper (envOfC qual (zj st) s.heap.objs.size f cdv)) ->
     ∃cl,FSs (zbl CX0 P w K mg base N qual (zj st) f cdv A outer s H E).nox (jg st) (b cl)
theorem HasDef.calA(h:HasDef K mg x st 0)(S:FnScope N ps (zj st))(hb:zt5 x x st ps)(hbody:z3n P w K mg base N x x st k b):Cal P w K mg base (k+1) x (gA fun cl=>qa N.length ps.length (b cl)):=by obtain⟨f,fd,dV,F,hm,rfl⟩:=h.ex;exact⟨f,fd,ps,[],[],[],_,F.okA hm S fun cdv co A outer s H E hr=>hbody f cdv co A outer s H E hr,hm,F.kp,F.binds0 hb,.nil,fun _ _=>RepL.nil,fun args S r e=>by rw[z6f];exact e⟩
end
end F
namespace F
open PySem L2 PySem.Spec PyProof.Rows
def zlj:List V->List V->Option Bool
 | [],[]=>some false
 | [],_::_=>some true
 |_::_,[]=>some false
 | .int x::xs,.int y::ys=>if x=y then zlj xs ys else some (decide (x<y))
 | .str x::xs,.str y::ys=>if x=y then zlj xs ys else some (decide (x.cps.toList<y.cps.toList))
 |_::_,_::_=>none
inductive FlatAre:List Value->List V->Prop
 |nil:FlatAre [] []
 |int (a:Int) (t:Tok) {vs:List Value}{ns:List V}:FlatAre vs ns->FlatAre (.int a t::vs) (.int a::ns)
 |str (a:Str) (t:Tok) {vs:List Value}{ns:List V}:FlatAre vs ns->FlatAre (.str a t::vs) (.str a::ns)
theorem FlatAre.length{vs:List Value}{ns:List V}(h:FlatAre vs ns):vs.length=ns.length:=by
 induction h with
 |nil=>rfl
 |int _ _ _ ih=>rw[List.length_cons,List.length_cons,ih]
 |str _ _ _ ih=>rw[List.length_cons,List.length_cons,ih]
theorem zrv(A:Around)(s:Shared)(a:Str)(t:Tok)(c:Str)(u:Tok):∃e,SeqAt.EqAt A s (.str a t) (.str c u) e/\(e=true↔a=c) :=
 ⟨(a==c),SeqAt.EqAt.str_str a t c u,by simp⟩
theorem zqs(A:Around)(s:Shared)(a:Str)(t:Tok)(c:Str)(u:Tok)(prog:Program)(w:World)(E:zVP)(Q:zVP)(h:Q (.bool (decide (a.cps.toList<c.cps.toList))) s) :
   wpAny (model prog w) A (richCompare .Lt (.str a t) (.str c u)) Q E s :=
 (PyProof.Rows.lt_str h:wpAny (model prog w) A (compareOp .Lt (.str a t) (.str c u)) Q E s)
section
open PySem.SeqAt
open PySem.AutoSeq1 (wpAny_loadPart')
open PySem.MeetsSeq PySem.MeetsSeq2 PySem.MeetsSeq3
theorem zfl(l b:Addr)(items items2:Array Value)(n n2:Nat)(dd dd2:Option Addr)(sl sl2:Array (Option Value))(ns ms:List V)(res:Bool)(hres:zlj ns ms=some res)(hi:FlatAre items.toList ns)(hj:FlatAre items2.toList ms) :
   Meets (Builtin.«tuple.__lt__» ⟨[.ref l,.ref b],[]⟩)
     (fun _ R s=>s.heap.get? l=some { cls:=.type "tuple",dict:=dd,data:=.seq items n,slots:=sl }/\s.heap.get? b=some { cls:=.type "tuple",dict:=dd2,data:=.seq items2 n2,slots:=sl2 } /\
       R (.ok (.ret (.bool res))) s) :=
 .of_wp fun prog w A R s h=>by
   obtain⟨hp,g,d,tk,os⟩:=s;obtain⟨hl,hb,h⟩:=h;have f2:=AutoSeq1.sub_tuple_tuple;have z1:items.size=ns.length:=by rw[<-hi.length];simp
   have z2:items2.size=ms.length:=by rw[<-hj.length];simp
   wp_walk using wpAny_loadPart' hl,wpAny_loadPart' hb,wpAny_forIn_list _ (fun rest b s'=>b.1=none/\s'=⟨hp,g,d,tk,os⟩/\∃(vs ws:List Value) (ns' ms':List V) (r:Bool),rest=vs.zip ws /\
     FlatAre vs ns'/\FlatAre ws ms'/\ns'.length+items2.size=ms'.length+items.size/\zlj ns' ms'=some r/\R (.ok (.ret (.bool r))) ⟨hp,g,d,tk,os⟩) _
   case turn=>
     rintro⟨y,x⟩ rest b s' ⟨hb',rfl,vs,ws,ns',ms',r,hz,hvi,hwi,hlen,hl,hR⟩;cases hvi with
     |nil=>rw[List.zip_nil_left]at hz;cases hz
     | int a t hvi'=>
       cases hwi with
       |nil=>rw[List.zip_nil_right]at hz;cases hz
       |str c u hwi'=>cases hl
       | int c u hwi'=>
         rw[List.zip_cons_cons]at hz;injection hz with hyx hrest;injection hyx with hy hx;subst hy hx;simp only[zlj]at hl;simp only[List.length_cons]at hlen;obtain⟨e,he,hiff⟩:=HT.eqAt_int A.in1 ⟨hp,g,d,tk,os⟩ a t c u;refine z5m (he prog w _ _ ?_);cases e with
         | true=>
           rw[z6a (hiff.mp rfl)]at hl
           wp_walk
           exact⟨rfl,rfl,_,_,_,_,_,hrest,hvi',hwi',by omega,hl,hR⟩
         | false=>
           rw[z6i (fun q=>absurd (hiff.mpr q) z6q)]at hl;cases hl;have hri:=HT.rcLt_int A.in1 ⟨hp,g,d,tk,os⟩ a t c u prog w
           wp_walk using hri
           exact⟨_,rfl,by simpa using hR⟩
     | str a t hvi'=>
       cases hwi with
       |nil=>rw[List.zip_nil_right]at hz;cases hz
       |int c u hwi'=>cases hl
       | str c u hwi'=>
         rw[List.zip_cons_cons]at hz;injection hz with hyx hrest;injection hyx with hy hx;subst hy hx;simp only[zlj]at hl;simp only[List.length_cons]at hlen;obtain⟨e,he,hiff⟩:=zrv A.in1 ⟨hp,g,d,tk,os⟩ a t c u;refine z5m (he prog w _ _ ?_);cases e with
         | true=>
           rw[z6a (hiff.mp rfl)]at hl
           wp_walk
           exact⟨rfl,rfl,_,_,_,_,_,hrest,hvi',hwi',by omega,hl,hR⟩
         | false=>
           rw[z6i (fun q=>absurd (hiff.mpr q) z6q)]at hl;cases hl;have hri:=zqs A.in1 ⟨hp,g,d,tk,os⟩ a t c u prog w
           wp_walk using hri
           exact⟨_,rfl,by simpa using hR⟩
   case fin=>
     rintro⟨b1,b2⟩ s' ⟨hb',rfl,vs,ws,ns',ms',r,hz,hvi,hwi,hlen,hl,hR⟩;simp only at hb';subst hb';have hv:r=decide (items.size<items2.size):=by
       cases hvi with
       | nil=>
         cases hwi with
         |nil=>cases hl;simp only[List.length_nil]at hlen;exact(z5w (by omega)).symm
         |int c u hw=>cases hl;simp only[List.length_nil,List.length_cons]at hlen;exact(z6d (by omega)).symm
         |str c u hw=>cases hl;simp only[List.length_nil,List.length_cons]at hlen;exact(z6d (by omega)).symm
       | int a t hv=>
         cases hwi with
         |nil=>cases hl;simp only[List.length_nil,List.length_cons]at hlen;exact(z5w (by omega)).symm
         |int c u hw=>rw[List.zip_cons_cons]at hz;cases hz
         |str c u hw=>rw[List.zip_cons_cons]at hz;cases hz
       | str a t hv=>
         cases hwi with
         |nil=>cases hl;simp only[List.length_nil,List.length_cons]at hlen;exact(z5w (by omega)).symm
         |int c u hw=>rw[List.zip_cons_cons]at hz;cases hz
         |str c u hw=>rw[List.zip_cons_cons]at hz;cases hz
     rw[hv]at hR
     wp_walk
     exact⟨_,rfl,by simpa [Builtin.Tuple.tupleCompareSizes] using hR⟩
   case h=>
     exact⟨rfl,rfl,items.toList,items2.toList,ns,ms,_,rfl,hi,hj,by omega,hres,h⟩
end
section
variable {prog:Program}{w:World}{A:Around}{E:zVP}{s:Shared}
theorem zli{l b:Addr}{items items2:Array Value}{ns ms:List V}{res:Bool}{Q:zVP}(hl:IsTup s.heap l items)(hb:IsTup s.heap b items2)(hres:zlj ns ms=some res)(hi:FlatAre items.toList ns)(hj:FlatAre items2.toList ms)
   (hu:A.units<cLine) (h:Q (.bool res) s):wpAny (model prog w) A (compareOp .Lt (.ref l) (.ref b)) Q E s:=by
 obtain⟨⟨cls,dd,data,sl⟩,ho,hc,n,hd⟩:=id hl;obtain⟨⟨cls2,dd2,data2,sl2⟩,ho2,hc2,n2,hd2⟩:=id hb;simp only at hc hd hc2 hd2;subst hc hd hc2 hd2;exact richCompare_meets_room (op:=.Lt) ⟨_,ho,rfl⟩ ⟨_,ho2,rfl⟩ PySem.F.slot_tuple_lt PySem.F.entry_tuple_lt (PySem.F.args_tuple_lt_2 _ _) (zfl l b items items2 n n2 dd dd2 sl sl2 ns ms res hres hi hj)
   ⟨ho,ho2,show Value.bool res≠Value.notImplemented/\Q (.bool res) s from⟨(fun x=>nomatch x),h⟩⟩ hu
end
def zz0:D->Option V
 | .int i=>some (.int i)
 | .str z=>some (.str z)
 |_=>none
def zf8:List D->Option (List V)
 | []=>some []
 |d::ds=>(zz0 d).bind fun x=>(zf8 ds).map (x::·)
def zil:D->D->Option D
 | .int i,.int j=>some (.bl (decide (i<j)))
 | .str x,.str y=>some (.bl (decide (x.cps.toList<y.cps.toList)))
 | .tup a,.tup b=>(zf8 a).bind fun x=>(zf8 b).bind fun y=>(zlj x y).map .bl
 |_,_=>none
section
variable {X:Cx}{K:zFr}{mg:zMg}
def z3q(K:zFr):R2:=fun x y H Q=>(∃i j,x=.int i/\y=.int j/\Q (.bl (decide (i<j))) H)\/(∃i j,x=.str i/\y=.str j/\Q (.bl (decide (i.cps.toList<j.cps.toList))) H) \/
 ∃a b xs ys us vs r,x=.ref a/\y=.ref b/\SqT K H a xs/\SqT K H b ys/\xs=us/\ys=vs/\(∀z∈us,(∃i,z=.int i)\/∃i,z=.str i)/\(∀z∈vs,(∃i,z=.int i)\/∃i,z=.str i)/\zlj us vs=some r/\Q (.bl r) H
theorem zox{xs:List V}{its:List Value}(h:∀z∈xs,(∃i,z=.int i)\/∃i,z=.str i)(r:Vals xs its):FlatAre its xs:=by
 induction r with
 |nil=>exact .nil
 | cons p q ih=>
   have:=ih fun z hz=>h z (z5n _ hz);rcases h _ (z5x ..) with⟨i,rfl⟩ | ⟨i,rfl⟩
   · obtain⟨t,rfl⟩:=p;exact .int _ _ this
   · obtain⟨t,rfl⟩:=p;exact .str _ _ this
theorem zyp(hu:X.A.units<cLine):OpR X (compareOp .Lt) (z3q X.K):=by
 intro pins s σ H x y v u Q I rx ry h;rcases h with⟨i,j,rfl,rfl,q⟩ | ⟨i,j,rfl,rfl,q⟩ | ⟨a,b,xs,ys,us,vs,r,rfl,rfl,ha,hb,rfl,rfl,h1,h2,hl,q⟩
 · exact zq2 pins s σ H _ _ v u Q I rx ry ⟨i,j,rfl,rfl,q⟩
 · exact zns pins s σ H _ _ v u Q I rx ry ⟨i,j,rfl,rfl,q⟩
 · cases rx;cases ry;obtain⟨its,r1,p1,_⟩:=I.tuple ha;obtain⟨its2,r2,p2,_⟩:=I.tuple hb;exact zli p1 p2 hl (zox h1 (by simpa using r1)) (zox h2 (by simpa using r2)) hu ⟨.bl r,H,I,rfl,q⟩
theorem zbt{ρ H}:∀{ds:List D}{xs vs:List V},zf8 ds=some xs->RepL K mg ρ H ds vs->vs=xs/\∀z∈xs,(∃i,z=.int i)\/∃i,z=.str i
 | [],_,_,e,r=>by cases e;unfold RepL at r;exact⟨r,fun z hz=>by cases hz⟩
 | d::ds,_,_,e,r=>by
   unfold RepL at r;obtain⟨v,r',rfl,r1,r2⟩:=r;obtain⟨x,q1,e⟩:=zy e;obtain⟨xs,q2,e⟩:=zah e;subst e;obtain⟨rfl,f2⟩:=zbt q2 r2;cases d with
   | int i=>
     cases q1;cases(show v=.int i from r1);exact⟨rfl,fun z hz=>(z51.mp hz).elim (fun e=>.inl ⟨i,e⟩) (f2 z)⟩
   | str i=>
     cases q1;cases(show v=.str i from r1);exact⟨rfl,fun z hz=>(z51.mp hz).elim (fun e=>.inr ⟨i,e⟩) (f2 z)⟩
   |_=>cases q1
theorem zuk:zh6 K mg (z3q K) (fun _=>zil):=by
 intro ρ H S x y dx dy d Q hS rx ry e k;dsimp only at e;unfold zil at e;split at e
 · cases e;cases(show x=.int _ from rx);cases(show y=.int _ from ry);exact .inl ⟨_,_,rfl,rfl,k _ H (Ext.refl _ _) hS rfl⟩
 · cases e;cases(show x=.str _ from rx);cases(show y=.str _ from ry);exact .inr (.inl ⟨_,_,rfl,rfl,k _ H (Ext.refl _ _) hS rfl⟩)
 · obtain⟨xs,q1,e⟩:=zy e;obtain⟨ys,q2,e⟩:=zy e;obtain⟨r,q3,e⟩:=zah e;subst e;obtain⟨p,vs,rfl,t,r1⟩:=rx.refT;obtain⟨p2,vs2,rfl,t2,r2⟩:=ry.refT;obtain⟨rfl,f1⟩:=zbt q1 r1;obtain⟨rfl,f2⟩:=zbt q2 r2;exact .inr (.inr ⟨p,p2,_,_,_,_,r,rfl,rfl,t.sq,t2.sq,rfl,rfl,f1,f2,q3,k _ H (Ext.refl _ _) hS rfl⟩)
 · cases e
theorem ztl{a b:Expr}{f g:E}{pos:Pos}{k:Nat}(hr:Room k X.A)(ha:FE X a f)(hb:FE X b g)(hm:behindInMarks .Lt b=false:=by exact zaq _):FE X (.Compare a [.Lt] [b] pos) (e2 zil f g):=zhk (zyp (by have:=hr.un;omega)) zuk ha hb hm
end
section
open Classical
def yz(a:Nat)(us:List D)(c:B)(g:E)(fr:Ev):List D->Sto->Option (List D×Sto)
 | [],S=>if S[a]? = some (.lst us)then some ([],S)else none
 |d::ds,S=>if S[a]? = some (.lst us)then (c (some d::fr) S).bind fun p=>if p.1=true then (g (some d::fr) p.2).bind fun q=>(yz a us c g fr ds q.2).bind fun r=>some (q.1::r.1,r.2)else yz a us c g fr ds p.2 else none
end
theorem zpg{a:Nat}{us:List D}{c:B}{g:E}{fr:Ev}{ds:List D}{S:Sto}{r:List D×Sto}(h:yz a us c g fr ds S=some r):S[a]? = some (.lst us):=by
 cases ds with
 | nil=>
   unfold yz at h;split at h
   · assumption
   · cases h
 | cons d ds=>
   unfold yz at h;split at h
   · assumption
   · cases h
theorem zff{a:Nat}{us:List D}{c:B}{g:E}{fr:Ev}{S:Sto}(h:S[a]? = some (.lst us)):yz a us c g fr [] S=some ([],S):=by unfold yz;rw[z6a h]
theorem zef{a:Nat}{us:List D}{c:B}{g:E}{fr:Ev}{d:D}{ds:List D}{S:Sto}(h:S[a]? = some (.lst us)):yz a us c g fr (d::ds) S=(c (some d::fr) S).bind fun p=>if p.1=true then (g (some d::fr) p.2).bind fun q=>(yz a us c g fr ds q.2).bind fun r=>some (q.1::r.1,r.2)else yz a us c g fr ds p.2:=by rw[yz,z6a h]
end F
namespace Srt
open PySem PyProof.Rows
section
variable {blt:Keyed->Keyed->Bool}
def le(blt:Keyed->Keyed->Bool)(x y:Keyed):Prop:=blt y x=false
structure Mg (blt:Keyed->Keyed->Bool) (T O A B:List Keyed):Prop where
 pa:(O++A).Pairwise (le blt)
 pb:(O++B).Pairwise (le blt)
 pm:(O++(A++B)).Perm T
variable {T O A B C:List Keyed}
def ix(a:Array Keyed)(i:Nat):Keyed:=(a[i]?).getD (.none,.none)
variable {a b:Array Keyed}{i j k:Nat}
theorem zzk(h:i<a.size):a[i]? = some (ix a i):=by unfold ix;rw[z73 h];rfl
theorem ztg(h:i<a.size):ix a i∈a.toList:=by
 have e:a.toList[i]'(by simpa using h)=ix a i:=by unfold ix;rw[z73 h];simp
 rw[<-e];exact z9n _
end
section
variable {prog:Program}{w:World}{A:Around}{E:zVP}{s:Shared}{blt:Keyed->Keyed->Bool}{U:Keyed->Prop}{kd:SortKind}{st:SortSt}{a b:Array Keyed}
structure Cmp (prog:Program) (w:World) (A:Around) (E:zVP) (s:Shared) (kd:SortKind) (U:Keyed->Prop) (blt:Keyed->Keyed->Bool):Prop where
 lt:∀x y,U x->U y->∀(st:SortSt) (Q:Option Bool->SortSt->Prop),kindOf st=kd->Q (some (blt x y)) st->wpS (model prog w) A E s (lt' x y) Q st
 asy:∀x y,blt x y=true->blt y x=false
 tr:∀x y z,blt y x=false->blt z y=false->blt z x=false
theorem zjf{i:Nat}{Q:Keyed->SortSt->Prop}{M:Model}(hi:i<a.size)(h:Q (ix a i) st):wpS M A E s (elem' a i) Q st:=by rw[elem'_eq,zzk hi];exact z7z h
theorem zje{nm:String}{Q:Unit->SortSt->Prop}(h:Q () st):wpS (model prog w) A E s (liftM (rule nm):StateT SortSt Sem Unit) Q st:=wpS_lift (wpAny_rule ⟨rfl,h⟩)
structure At (blt:Keyed->Keyed->Bool) (a b out:Array Keyed) (ia ib:Nat):Prop where
 ha:ia+1<a.size
 hb:ib<b.size
 mg:Mg blt (a.toList++b.toList) out.toList (a.toList.drop ia) (b.toList.drop ib)
variable {out:Array Keyed}{ia ib k:Nat}
end
section
variable {prog:Program}{w:World}{A:Around}{E:zVP}{s:Shared}{blt:Keyed->Keyed->Bool}{U:Keyed->Prop}{kd:SortKind}{st:SortSt}{a b:Array Keyed}{pre X Y post:List Keyed}
theorem z4z(irr:∀x,blt x x=false)(sx:X.Pairwise (le blt)){j l:Nat}(hl:l<X.length)(hj:j<=l):le blt (X[j]'(z8k hj hl)) X[l]:=by
 rcases z7e j l with q | q
 · exact(z7j.mp sx) j l _ hl q
 · cases z84 hj q;exact irr _
end
section
variable {prog:Program}{w:World}{A:Around}{E:zVP}{s:Shared}{blt:Keyed->Keyed->Bool}{U:Keyed->Prop}{kd:SortKind}{st:SortSt}{arr:Array Keyed}
def Asc(blt:Keyed->Keyed->Bool)(a:Array Keyed)(lo hi:Nat):Prop:=∀i j,lo<=i->i<j->j<hi->blt (ix a i) (ix a j)=true
def Des(blt:Keyed->Keyed->Bool)(a:Array Keyed)(lo hi:Nat):Prop:=∀i j,lo<=i->i<j->j<hi->blt (ix a j) (ix a i)=true
def Dis(blt:Keyed->Keyed->Bool)(a:Array Keyed):Prop:=∀i j,i≠j->i<a.size->j<a.size->blt (ix a i) (ix a j)=false->blt (ix a j) (ix a i)=true
theorem Cmp.ltr(C:Cmp prog w A E s kd U blt){x y z:Keyed}(h1:blt x y=true)(h2:blt y z=true):blt x z=true:=by
 cases q:blt x z
 · have:=C.tr y z x (C.asy _ _ h2) q;rw[this]at h1;cases h1
 · rfl
theorem zav(C:Cmp prog w A E s kd U blt)(hk:kindOf st=kd)(ua:∀x∈(arrOf st).toList,U x){i j:Nat}(hi:i<(arrOf st).size)(hj:j<(arrOf st).size){Q:Option Bool->SortSt->Prop}(h:Q (some (blt (ix (arrOf st) i) (ix (arrOf st) j))) st):wpS (model prog w) A E s (ltAt' i j) Q st:=by rw[ltAt'_eq];refine z6z (wpS_get ?_);refine z6z (zjf hi (z6z (zjf hj ?_)));exact C.lt _ _ (ua _ (ztg hi)) (ua _ (ztg hj)) _ _ hk h
theorem Asc.snoc(C:Cmp prog w A E s kd U blt){a:Array Keyed}{lo n:Nat}(h:Asc blt a lo (lo+n))(n1:1<=n)(hl:blt (ix a (lo+n-1)) (ix a (lo+n))=true):Asc blt a lo (lo+(n+1)):=fun i j hi hij hj=>by
 rcases z7e j (lo+n)with q | q
 · exact h i j hi hij q
 · have:j=lo+n:=by omega
   subst this;rcases z7e i (lo+n-1)with q2 | q2
   · exact C.ltr (h i (lo+n-1) hi q2 (by omega)) hl
   · have:i=lo+n-1:=by omega
     subst this;exact hl
theorem Des.snoc(C:Cmp prog w A E s kd U blt){a:Array Keyed}{lo n:Nat}(h:Des blt a lo (lo+n))(n1:1<=n)(hl:blt (ix a (lo+n)) (ix a (lo+n-1))=true):Des blt a lo (lo+(n+1)):=fun i j hi hij hj=>by
 rcases z7e j (lo+n)with q | q
 · exact h i j hi hij q
 · have:j=lo+n:=by omega
   subst this;rcases z7e i (lo+n-1)with q2 | q2
   · exact C.ltr hl (h i (lo+n-1) hi q2 (by omega))
   · have:i=lo+n-1:=by omega
     subst this;exact hl
theorem zdx{a:Array Keyed}{i j:Nat}(hj:j<=a.size)(k:Nat):ix (mirror a i j ((j-i)/2)) k=if i<=k/\k<j then ix a (i+j-1-k)else ix a k:=by have e:=getElem?_mirror_all (i:=i) hj k;unfold ix;rw[e];split<;>rfl
theorem zdy{a:Array Keyed}{src d:Nat}(hs:src<a.size)(hd:d<=src)(k:Nat):ix (bubble a src d) k=if k=src-d then ix a src else if src-d<k/\k<=src then ix a (k-1)else ix a k:=by
 have e:=getElem?_bubble hs d hd k;unfold ix;rw[e];split
 · rfl
 · split<;>rfl
structure Sam (lo:Nat) (a a':Array Keyed):Prop where
 pm:a'.toList.Perm a.toList
 ne:∀i,i<lo->ix a' i=ix a i
theorem Sam.size{lo:Nat}{a a':Array Keyed}(h:Sam lo a a'):a'.size=a.size:=by have:=h.pm.length_eq;rw[Array.length_toList,Array.length_toList]at this;exact this
theorem Sam.refl(lo:Nat)(a:Array Keyed):Sam lo a a:=⟨z9i _,fun _ _=>rfl⟩
theorem Sam.trans{lo:Nat}{a b c:Array Keyed}(h:Sam lo a b)(h':Sam lo b c):Sam lo a c:=⟨h'.pm.trans h.pm,fun i hi=>(h'.ne i hi).trans (h.ne i hi)⟩
theorem zk3{lo:Nat}{a:Array Keyed}{j:Nat}(hj:j<=a.size):Sam lo a (mirror a lo j ((j-lo)/2)) :=
 ⟨(mirror_perm a lo j ((j-lo)/2)).toList,fun i hi=>by rw[zdx hj,z6i (by omega)]⟩
theorem zk4{lo:Nat}{a:Array Keyed}{src d:Nat}(hs:src<a.size)(hd:d<=src)(hl:lo<=src-d):Sam lo a (bubble a src d) :=
 ⟨(bubble_perm a src d).toList,fun i hi=>by rw[zdy hs hd,z6i (by omega),z6i (by omega)]⟩
theorem Asc.mir{a:Array Keyed}{lo n:Nat}(h:Des blt a lo (lo+n))(hn:lo+n<=a.size):Asc blt (mirror a lo (lo+n) ((lo+n-lo)/2)) lo (lo+n):=fun i j hi hij hj=>by rw[zdx hn,zdx hn,z6a ⟨hi,Nat.lt_trans hij hj⟩,z6a ⟨z57 hi (z7w hij),hj⟩];clear hn;exact h _ _ (by omega) (by omega) (by omega)
theorem Dis.of{lo:Nat}{a a':Array Keyed}(d:a.toList.Pairwise fun x y=>blt x y=true\/blt y x=true)(h:Sam lo a a'):a'.toList.Pairwise fun x y=>blt x y=true\/blt y x=true :=
 (h.pm.pairwise_iff (fun {x y} q=>q.symm)).mpr d
theorem zkk{a:Array Keyed}(d:a.toList.Pairwise fun x y=>blt x y=true\/blt y x=true):Dis blt a:=by
 have e:∀{i} (h:i<a.toList.length),a.toList[i]=ix a i:=fun {i} h=>by rw[Array.length_toList]at h;unfold ix;rw[z73 h];simp
 intro i j hij hi hj hf;rw[z7j]at d;rcases z7e i j with q | q
 · have:=d i j (by rw[Array.length_toList];exact hi) (by rw[Array.length_toList];exact hj) q;rw[e,e]at this;rcases this with z | z
   · rw[z]at hf;cases hf
   · exact z
 · have:=d j i (by rw[Array.length_toList];exact hj) (by rw[Array.length_toList];exact hi) (by omega);rw[e,e]at this;rcases this with z | z
   · exact z
   · rw[z]at hf;cases hf
theorem zmh(C:Cmp prog w A E s kd U blt)(hk:kindOf st=kd)(ua:∀x∈(arrOf st).toList,U x)(hd:Dis blt (arrOf st)){lo n0 nrem:Nat}(hs:lo+nrem=(arrOf st).size)(n1:1<=n0)(n2:n0<=nrem)(h0:Asc blt (arrOf st) lo (lo+n0)){Q:Option (Option Nat)×Nat->SortSt->Prop}
   (h:∀n,n0<=n->n<=nrem->Asc blt (arrOf st) lo (lo+n)->(n=nrem\/blt (ix (arrOf st) (lo+n)) (ix (arrOf st) (lo+n-1))=true)->Q (none,n) st) :
   wpS (model prog w) A E s (forIn [n0:nrem] ((none,n0):Option (Option Nat)×Nat) fun _ __s=>do
     let __x <-ltAt' (lo+__s.snd) (lo+__s.snd-1)
     match __x with
     |some smaller=>if smaller=true then pure (ForInStep.done (none,__s.snd))else pure (ForInStep.yield (none,__s.snd+1))
     |_=>pure (ForInStep.done (some none,__s.snd))) Q st:=by
 refine z9k (I:=fun x c st'=>st'=st/\c=(none,x)/\Asc blt (arrOf st) lo (lo+x)) ?_ ?_ ⟨rfl,rfl,h0⟩
 · rintro x c st' hx1 hx ⟨rfl,rfl,ac⟩;dsimp only;refine z6z (zav C hk ua (by omega) (by omega) ?_);dsimp only;cases q:blt (ix (arrOf st') (lo+x)) (ix (arrOf st') (lo+x-1))
   · simp only[z58,z7c];exact z7z ⟨rfl,rfl,ac.snoc C (by omega) (hd _ _ (by omega) (by omega) (by omega) q)⟩
   · simp only[z7s];exact z7z (h x hx1 (by omega) ac (.inr q))
 · rintro c st' ⟨rfl,rfl,ac⟩;rw[z9o n2]at ac ⊢;exact h nrem n2 (z5o _) ac (.inl rfl)
theorem zfj(C:Cmp prog w A E s kd U blt)(hk:kindOf st=kd)(ua:∀x∈(arrOf st).toList,U x)(hd:(arrOf st).toList.Pairwise fun x y=>blt x y=true\/blt y x=true){lo nrem:Nat}(hs:lo+nrem=(arrOf st).size)(n0:1<=nrem){Q:Option Nat->SortSt->Prop}
   (h:∀n a',1<=n->n<=nrem->Sam lo (arrOf st) a'->Asc blt a' lo (lo+n)->Q (some n) (setArr st a')):wpS (model prog w) A E s (countRun' lo nrem) Q st:=by
 have es:st=setArr st (arrOf st):=rfl;rw[countRun'_eq];refine z6z (wpS_mono (zmh (n0:=1) C hk ua (zkk hd) hs (z5o _) n0 (fun i j a b c=>by omega) (Q:=fun c st'=>st'=st/\∃n,c=(none,n)/\1<=n/\n<=nrem/\Asc blt (arrOf st) lo (lo+n)/\(n=nrem\/blt (ix (arrOf st) (lo+n)) (ix (arrOf st) (lo+n-1))=true)) fun n a1 a2 a3 a4=>⟨rfl,n,rfl,a1,a2,a3,a4⟩) ?_);rintro c st' ⟨rfl,n,rfl,a1,a2,a3,a4⟩;dsimp only;by_cases e1:n=nrem
 · rw[z6a (by simpa using e1)];have:=h n (arrOf st') a1 a2 (Sam.refl _ _) a3;rw[<-es]at this;exact z7z this
 · rw[z6i (by simpa using e1)];have a4:=a4.resolve_left e1;by_cases e2:n>1
   · rw[z6a e2];refine z6z (zav C hk ua (by omega) (by omega) ?_);dsimp only;rw[a3 lo (lo+n-1) (z5o _) (by omega) (by omega)];simp only[z7s];have:=h n (arrOf st') a1 a2 (Sam.refl _ _) a3;rw[<-es]at this;exact z7z this
   · rw[z6i e2];have:n=1:=by omega
     subst this;refine z6z (zje ?_);refine z6z (wpS_mono (z9k (I:=fun x c st2=>st2=st'/\c=(none,x,0)/\Des blt (arrOf st') lo (lo+x)) (Q:=fun c st2=>st2=st'/\∃n,c=(none,n,0)/\2<=n/\n<=nrem/\Des blt (arrOf st') lo (lo+n)) ?_ ?_ ⟨rfl,rfl,fun i j p1 p2 p3=>?_⟩) ?_)
     · rintro x c st2 hx1 hx ⟨rfl,rfl,de⟩;dsimp only;refine z6z (zav C hk ua (by omega) (by omega) ?_);dsimp only;cases q:blt (ix (arrOf st2) (lo+x)) (ix (arrOf st2) (lo+x-1))
       · simp only[z58,z7c];refine z6z (zav C hk ua (by omega) (by omega) ?_);dsimp only;rw[zkk hd _ _ (by omega) (by omega) (by omega) q];simp only[z7s];exact z7z ⟨rfl,x,rfl,by omega,by omega,de⟩
       · simp only[z7s];rw[z6i (by decide)];exact z7z ⟨rfl,rfl,de.snoc C (by omega) q⟩
     · rintro c st2 ⟨rfl,rfl,de⟩;have e:1+1<=nrem:=by omega
       rw[z9o e]at de ⊢;exact⟨rfl,nrem,rfl,e,z5o _,de⟩
     · have:i=lo:=by omega
       subst this;have:j=i+1:=by omega
       subst this;simpa using a4
     · rintro c st2 ⟨rfl,n,rfl,n2,n3,de⟩;dsimp only;rw[z6i (by decide)];rw[reverseSlice'_eq];refine z6z (wpS_modify ?_);have sm:=zk3 (lo:=lo) (a:=arrOf st2) (j:=lo+n) (by omega);have am:=Asc.mir de (by omega);generalize hm:mirror (arrOf st2) lo (lo+n) ((lo+n-lo)/2)=a2 at sm am;have z2:=sm.size;refine z6z (wpS_mono (zmh (st:=setArr st2 a2) (n0:=n) C hk (fun x hx=>ua x (sm.pm.mem_iff.mp hx)) (zkk (Dis.of hd sm)) (by show lo+nrem=a2.size;omega) (by omega) n3 am (Q:=fun c st'=>st'=setArr st2 a2/\∃m,c=(none,m)/\n<=m/\m<=nrem/\Asc blt a2 lo (lo+m)) fun m b1 b2 b3 b4=>⟨rfl,m,rfl,b1,b2,b3⟩) ?_);rintro c st3 ⟨rfl,m,rfl,b1,b2,b3⟩;exact z7z (h m a2 (by omega) b2 sm b3)
theorem zde(C:Cmp prog w A E s kd U blt)(hk:kindOf st=kd)(ua:∀x∈(arrOf st).toList,U x)(hd:(arrOf st).toList.Pairwise fun x y=>blt x y=true\/blt y x=true){lo n ok:Nat}(hs:lo+n<=(arrOf st).size)(o1:1<=ok)(o2:ok<=n)(h0:Asc blt (arrOf st) lo (lo+ok)){Q:Bool->SortSt->Prop}
   (h:∀a',Sam lo (arrOf st) a'->Asc blt a' lo (lo+n)->Q true (setArr st a')):wpS (model prog w) A E s (binarySort' lo n ok) Q st:=by
 rw[binarySort'_eq];rw[Nat.max_eq_left o1];refine z6z (wpS_mono (z9k (I:=fun x c st2=>c.1=none/\∃a',st2=setArr st a'/\Sam lo (arrOf st) a'/\Asc blt a' lo (lo+x)) (Q:=fun c st2=>c.1=none/\∃a',st2=setArr st a'/\Sam lo (arrOf st) a'/\Asc blt a' lo (lo+n)) ?_ ?_ ⟨rfl,arrOf st,rfl,Sam.refl _ _,h0⟩) ?_)
 · rintro x c st2 hx1 hx ⟨hc,a',rfl,sm,ac⟩;have za:=sm.size;have ua':∀y∈(arrOf (setArr st a')).toList,U y:=fun y hy=>ua y (sm.pm.mem_iff.mp hy);have di:Dis blt a':=zkk (Dis.of hd sm);dsimp only;refine z6z (wpS_mono (z9k (I:=fun y c st3=>st3=setArr st a'/\∃l r,c=(none,l,r)/\l<=r/\r<=x/\(∀i,i<l->blt (ix a' (lo+i)) (ix a' (lo+x))=true)/\(∀i,r<=i->i<x->blt (ix a' (lo+x)) (ix a' (lo+i))=true)/\r+y<=x+l)
     (Q:=fun c st3=>st3=setArr st a'/\∃l,c=(none,l,l)/\l<=x/\(∀i,i<l->blt (ix a' (lo+i)) (ix a' (lo+x))=true)/\(∀i,l<=i->i<x->blt (ix a' (lo+x)) (ix a' (lo+i))=true)) ?_ ?_ ⟨rfl,0,x,rfl,z6n _,z5o _,fun i hi=>absurd hi (z8a _),fun i h1 h2=>absurd h2 (z79.mpr h1),z5o _⟩) ?_)
   · rintro y c st3 _ hy ⟨rfl,l,r,rfl,g1,g2,g3,g4,g5⟩;dsimp only;by_cases e:l ≥ r
     · rw[z6a e];cases z84 g1 e;exact z7z ⟨rfl,l,rfl,g2,g3,g4⟩
     · rw[z6i e];have m1:l<=(l+r)/2:=by omega
       have m2:(l+r)/2<r:=by omega
       clear e g1 hy hx1 h0 o1 o2;generalize (l+r)/2=m at m1 m2 ⊢;have mx:=z5r m2 g2;have xz:lo+x<a'.size:=by omega
       have mz:lo+m<a'.size:=by omega
       clear hs hx za;refine z6z (zav (st:=setArr st a') C hk ua' xz mz ?_);dsimp only;show wpS _ _ _ _ (if blt (ix a' (lo+x)) (ix a' (lo+m))=true then _ else _) _ _;cases q:blt (ix a' (lo+x)) (ix a' (lo+m))
       · simp only[z58,z7c];have q':=di _ _ (by omega) xz mz q;clear xz mz;refine z7z ⟨rfl,m+1,r,rfl,m2,g2,fun i hi=>?_,g4,by omega⟩;rcases z7e i m with z | z
         · exact C.ltr (ac (lo+i) (lo+m) (z54 ..) (z8d z _) (z8d mx _)) q'
         · rw[z84 (Nat.le_of_lt_succ hi) z];exact q'
       · simp only[z7s];clear xz mz;refine z7z ⟨rfl,l,m,rfl,m1,z7w mx,g3,fun i h1 h2=>?_,by omega⟩;rcases z7e m i with z | z
         · exact C.ltr q (ac (lo+m) (lo+i) (z54 ..) (z8d z _) (z8d h2 _))
         · rw[z84 z h1];exact q
   · rintro c st3 ⟨rfl,l,r,rfl,g1,g2,g3,g4,g5⟩;have:l=r:=by omega
     subst this;exact⟨rfl,l,rfl,g2,g3,g4⟩
   · rintro c st3 ⟨rfl,l,rfl,g2,g3,g4⟩;dsimp only;rw[moveDown'_eq];refine z6z (wpS_modify ?_);have hb1:lo+x<a'.size:=by omega
     have hb2:lo+x-(lo+x-(lo+l))=lo+l:=Nat.sub_sub_self (Nat.add_le_add_left g2 _);refine z7z ⟨rfl,bubble a' (lo+x) (lo+x-(lo+l)),rfl,sm.trans (zk4 hb1 (Nat.sub_le ..) (by rw[hb2];exact z54 ..)),fun i j hi hij hj=>?_⟩;rw[zdy hb1 (Nat.sub_le ..),zdy hb1 (Nat.sub_le ..),hb2];clear hb1 hb2 hs hx hx1 o1 o2 za h0;by_cases i1:i=lo+l
     · rw[z6a i1,z6i (by omega),z6a (by omega)];subst i1;obtain⟨c,rfl⟩:=Nat.exists_eq_add_of_lt hij;have:=g4 (l+c) (z54 ..) (by omega);rw[<-Nat.add_assoc]at this;exact this
     · rw[z6i i1];by_cases j1:j=lo+l
       · rw[z6a j1,z6i (by omega)];obtain⟨c,rfl⟩:=Nat.exists_eq_add_of_le hi;exact g3 c (by omega)
       · rw[z6i j1];by_cases i2:lo+l<i/\i<=lo+x
         · rw[z6a i2,z6a (by omega)];exact ac _ _ (by omega) (by omega) (by omega)
         · rw[z6i i2];by_cases j2:lo+l<j/\j<=lo+x
           · rw[z6a j2];exact ac _ _ (by omega) (by omega) (by omega)
           · rw[z6i j2];exact ac _ _ (by omega) (by omega) (by omega)
 · rintro c st2 ⟨hc,a',rfl,sm,ac⟩;rw[z9o o2]at ac;exact⟨hc,a',rfl,sm,ac⟩
 · rintro c st2 ⟨hc,a',rfl,sm,ac⟩;dsimp only;rw[hc];exact z7z (h a' sm ac)
end
section
variable {prog:Program}{w:World}{A:Around}{E:zVP}{s:Shared}{blt:Keyed->Keyed->Bool}{U:Keyed->Prop}{kd:SortKind}{st:SortSt}{T:List Keyed}
theorem z0u(C:Cmp prog w A E s kd U blt){a:Array Keyed}{lo n:Nat}(h:Asc blt a lo (lo+n))(hn:lo+n<=a.size):((a.toList.drop lo).take n).Pairwise (le blt):=by
 have e:∀{i} (h:i<a.toList.length),a.toList[i]=ix a i:=fun {i} h=>by rw[Array.length_toList]at h;unfold ix;rw[z73 h];simp
 rw[z7j];intro i j hi hj hij;rw[z56,z6k,Array.length_toList]at hi hj;rw[z9h,z9h,z96,z96,e,e];exact C.asy _ _ (h _ _ (by omega) (by omega) (by omega))
theorem zvg{n:Nat}(h1:0<n)(h:n<=63):minRun' n n 0=n:=by obtain⟨f,rfl⟩:=Nat.exists_eq_succ_of_ne_zero (Nat.pos_iff_ne_zero.mp h1);rw[Nat.succ_eq_add_one,minRun'_succ,z6a (by omega)]
theorem zfi(C:Cmp prog w A E s kd U blt)(hk:kindOf st=kd)(hf:failedOf st=none)(hp:pendingOf st=#[])(uT:∀x∈(arrOf st).toList,U x)(hd:(arrOf st).toList.Pairwise fun x y=>blt x y=true\/blt y x=true)(hs:(arrOf st).size<=63){Q:Unit->SortSt->Prop}
   (h:∀st',(arrOf st').toList.Perm (arrOf st).toList->failedOf st'=none->(arrOf st').toList.Pairwise (le blt)->Q () st'):wpS (model prog w) A E s sortRuns' Q st:=by
 rw[sortRuns'_eq];refine z6z (wpS_get ?_);dsimp only;generalize hz:(arrOf st).size=sz at *;have big:∀(a2:Array Keyed),Sam 0 (arrOf st) a2->Asc blt a2 0 (0+sz)->a2.toList.Pairwise (le blt):=fun a2 sm ac=>by
   have l2:a2.toList.length=sz:=by rw[Array.length_toList,sm.size,hz]
   have:=z0u C ac (by rw[sm.size,hz];omega);rw[List.drop_zero,z70 (by omega)]at this;exact this
 refine z6z (wpS_mono (z9k
   (I:=fun x c st'=>(c=(none,0)/\st'=st/\x=0)\/(c=(none,sz)/\(pendingOf st').size<=1/\failedOf st'=none/\(arrOf st').toList.Perm (arrOf st).toList/\(arrOf st').toList.Pairwise (le blt)))
   (Q:=fun c st'=>c.1=none/\(pendingOf st').size<=1/\failedOf st'=none/\(arrOf st').toList.Perm (arrOf st).toList/\(arrOf st').toList.Pairwise (le blt)) ?step ?fin (.inl ⟨rfl,rfl,rfl⟩)) ?post)
 case fin=>
   rintro c st' (⟨rfl,rfl,e⟩ | ⟨rfl,r⟩)
   · have e:sz=0:=by omega
     refine⟨rfl,by rw[hp];exact z6n _,hf,z9i _,?_⟩;have:(arrOf st').toList=[]:=List.eq_nil_of_length_eq_zero (by rw[Array.length_toList];omega);rw[this];exact List.Pairwise.nil
   · exact⟨rfl,r⟩
 case step=>
   rintro x c st' _ hx (⟨rfl,rfl,rfl⟩ | ⟨rfl,r⟩)
   · dsimp only;rw[zvg hx hs,z6i (Nat.not_le.mpr hx)];refine z6z (zfj C hk uT hd (nrem:=sz-0) (by omega) (by omega) fun n a1 n1 n2 sm ac=>?_);dsimp only;have za:=sm.size;by_cases e1:n<sz
     · rw[z6a e1];refine z6z (zje ?_);refine z6z (zde (st:=setArr st' a1) (n:=min (sz-0) sz) (ok:=n) C hk (fun x hx=>uT x (sm.pm.mem_iff.mp hx)) (Dis.of hd sm) (by show 0+min (sz-0) sz<=a1.size;omega) n1 (by omega) ac fun a2 s2 c2=>?_);simp only[z83,z58,z7c];rw[show min (sz-0) sz=sz by omega]at c2 ⊢;have sm2:=sm.trans s2;refine z6z (wpS_get ?_);have hb:(pendingOf (setArr st' a2)).back? = none:=by show(pendingOf st').back? = none;rw[hp];rfl
       rw[show pendingOf (setArr (setArr st' a1) a2)=pendingOf st' from rfl,hp];refine z6z (wpS_modify ?_);refine z7z (.inr ⟨by rw[Nat.zero_add],?_,hf,sm2.pm,big a2 sm2 c2⟩);show((pendingOf st').push _).size<=1;rw[hp];exact z5o _
     · rw[z6i e1];have en:n=sz:=by omega
       subst en;refine z6z (wpS_get ?_);rw[show pendingOf (setArr st' a1)=pendingOf st' from rfl,hp];refine z6z (wpS_modify ?_);refine z7z (.inr ⟨by rw[Nat.zero_add],?_,hf,sm.pm,big a1 sm ac⟩);show((pendingOf st').push _).size<=1;rw[hp];exact z5o _
   · dsimp only;rw[z6a (z5o _)];exact z7z ⟨rfl,r⟩
 case post=>
   rintro c st' ⟨hc,r1,r2,r3,r4⟩;rw[hc];dsimp only;refine z6z (wpS_mono (z9k (I:=fun x c st2=>c.1=none/\st2=st') (Q:=fun c st2=>c.1=none/\st2=st') ?_ (fun c st2 hh=>hh) ⟨rfl,rfl⟩) ?_)
   · rintro x c st2 _ hx ⟨hc2,rfl⟩;refine z6z (wpS_get ?_);rw[z6a r1];exact z7z ⟨rfl,rfl⟩
   · rintro c st2 ⟨hc2,rfl⟩;rw[hc2];exact z7z (h st2 r3 r2 r4)
end
def nums(z:Str):List Int:=z.cps.toList.map Int.ofNat
theorem map_lt:∀(x y:List Nat),(x.map Int.ofNat<y.map Int.ofNat)↔x<y
 | [],[]=>by simp
 | [],_::_=>by simp
 |_::_,[]=>by simp
 | a::x,b::y=>by
   rw[z5v,z5v,z6s,z6s,map_lt x y];constructor
   · rintro(h | ⟨h,h'⟩)
     · exact .inl (qad.mp h)
     · exact .inr ⟨Int.ofNat.inj h,h'⟩
   · rintro(h | ⟨h,h'⟩)
     · exact .inl (qad.mpr h)
     · exact .inr ⟨z68 Int.ofNat h,h'⟩
def bk(kc:Keyed->List Int)(x y:Keyed):Bool:=decide (kc x<kc y)
section
variable {prog:Program}{w:World}{A:Around}{E:zVP}{s:Shared}{kd:SortKind}{U:Keyed->Prop}{kc:Keyed->List Int}
theorem zkn(h:∀x y,U x->U y->∀(E':zVP) (Q:Bool->Shared->Prop),Q (bk kc x y) s->wpAny (model prog w) A (keyLt' kd x.1 y.1) Q E' s):Cmp prog w A E s kd U (bk kc) where
 lt:=fun x y hx hy st Q hk hq=>by rw[lt'_eq];refine z6z (wpS_get ?_);rw[hk];refine z6z (wpS_lift (z9q ?_));refine h x y hx hy _ _ ?_;exact⟨rfl,z7z hq⟩
 asy:=fun x y hx=>by simp only[bk,decide_eq_true_eq,z8e]at *;exact List.lt_asymm hx
 tr:=fun x y z h1 h2=>by simp only[bk,z8e]at *;exact z64.mpr (List.le_trans (z64.mp h1) (z64.mp h2))
theorem zlf{a b:Int}{t u:Tok}{Q:Bool->Shared->Prop}(h:Q (decide (a<b)) s):wpAny (model prog w) A (oneLt' false (.int a t) (.int b u)) Q E s:=by rw[oneLt'_eq];simp only[z58,z7c];refine z5m (wpAny_richCompare_same (op:=.Lt) (typeIs_int s a t) (typeIs_int s b u) slot_int_lt (call_int_lt ⟨by simp,?_⟩));exact z6v h
theorem zle{a b:Str}{t u:Tok}{Q:Bool->Shared->Prop}(h:Q (decide (a.cps.toList<b.cps.toList)) s):wpAny (model prog w) A (oneLt' false (.str a t) (.str b u)) Q E s:=by rw[oneLt'_eq];simp only[z58,z7c];refine z5m (wpAny_richCompare_same (op:=.Lt) (typeIs_str s a t) (typeIs_str s b u) slot_str_lt (call_str_lt ⟨by simp,?_⟩));exact z6v h
theorem cmp_int(hU:∀x,U x->∃n t,x.1=.int n t/\kc x=[n]):Cmp prog w A E s oneType' U (bk kc):=zkn fun x y hx hy E' Q hq=>by
 obtain⟨n,t,e,k⟩:=hU x hx;obtain⟨m,u,e',k'⟩:=hU y hy;rw[e,e',keyLt'_oneType];refine oneLt_int ?_;have:bk kc x y=decide (n<m):=by unfold bk;rw[k,k',z6u,z6s];simp
 rw[<-this];exact hq
theorem cmp_str(hU:∀x,U x->∃z t,x.1=.str z t/\kc x=nums z):Cmp prog w A E s oneType' U (bk kc):=zkn fun x y hx hy E' Q hq=>by
 obtain⟨n,t,e,k⟩:=hU x hx;obtain⟨m,u,e',k'⟩:=hU y hy;rw[e,e',keyLt'_oneType];refine oneLt_str ?_;have:bk kc x y=decide (n.cps.toList<m.cps.toList):=by unfold bk;rw[k,k',z6u];exact map_lt _ _
 rw[<-this];exact hq
theorem zlk(fl:Bool)(x y:Value):keyLt' (tuples' fl) x y=(do
   let xs <-Builtin.List.listItems x;let ys <-Builtin.List.listItems y
   for ((p,q),i)in (xs.toList.zip ys.toList).zipIdx do
     if !(<-eqBool p q)then return <-oneLt' (fl&&i==0) p q
   return xs.size<ys.size):=rfl
theorem ze7{p q:Addr}{o o':Obj}{n n':Nat}{a b:Int}{t u:Tok}{v v':Value}{Q:Bool->Shared->Prop}(ho:s.heap.get? p=some o)(hd:o.data=.seq #[.int a t,v] n)(ho':s.heap.get? q=some o')(hd':o'.data=.seq #[.int b u,v'] n')
   {eq lt:Bool} (he:∀Q:Bool->Shared->Prop,Q eq s->wpAny (model prog w) A (eqBool v v') Q E s) (hl:∀Q:Bool->Shared->Prop,Q lt s->wpAny (model prog w) A (oneLt' false v v') Q E s) (h:Q (if a=b then !eq&&lt else decide (a<b)) s):wpAny (model prog w) A (keyLt' (tuples' true) (.ref p) (.ref q)) Q E s:=by
 rw[zlk];refine z5m (z9z ho hd ?_);refine z5m (z9z ho' hd' ?_);have e0:((#[Value.int a t,v].toList.zip #[Value.int b u,v'].toList).zipIdx)=[((Value.int a t,Value.int b u),0),((v,v'),1)]:=rfl;rw[e0,z8l];simp only[bind_assoc];refine z5m (wpAny_eqBool_int ?_);by_cases ab:a=b
 · rw[z6a ab]at h;have e1:(a==b)=true:=by simpa using ab
   rw[e1];simp only[z83,z58,z7c,pure_bind];rw[z8l];simp only[bind_assoc];refine z5m (he _ ?_);cases eq
   · simp only[Bool.not_false,z7s,bind_assoc,pure_bind,Bool.true_and]at h ⊢;exact z5m (hl _ (z52 h))
   · simp only[z83,z58,z7c,pure_bind,List.forIn_nil,z91]at h ⊢;exact z52 h
 · rw[z6i ab]at h;have e1:(a==b)=false:=by simpa using ab
   rw[e1];simp only[Bool.not_false,z7s,bind_assoc,pure_bind];exact z5m (oneLt_int (z52 h))
theorem cmp_ii(hU:∀x,U x->∃p o n a t b u,x.1=.ref p/\s.heap.get? p=some o/\o.data=.seq #[.int a t,.int b u] n/\kc x=[a,b]):Cmp prog w A E s (tuples' true) U (bk kc):=zkn fun x y hx hy E' Q hq=>by
 obtain⟨p,o,n,a,t,b,u,e,ho,hd,k⟩:=hU x hx;obtain⟨p',o',n',a',t',b',u',e',ho',hd',k'⟩:=hU y hy;rw[e,e'];refine ze7 ho hd ho' hd' (eq:=b==b') (lt:=decide (b<b')) (fun Q h=>wpAny_eqBool_int h) (fun Q h=>zlf h) ?_;have:bk kc x y=(if a=a' then !(b==b')&&decide (b<b')else decide (a<a')):=by
   unfold bk;rw[k,k',<-Bool.decide_coe (if a=a' then _ else _),z6u,z6s,z6s];by_cases h1:a=a'
   · rw[z6a h1];subst h1;simp;omega
   · rw[z6i h1];simp[h1]
 rw[<-this];exact hq
theorem cmp_is(hU:∀x,U x->∃p o n a t b u,x.1=.ref p/\s.heap.get? p=some o/\o.data=.seq #[.int a t,.str b u] n/\kc x=a::nums b):Cmp prog w A E s (tuples' true) U (bk kc):=zkn fun x y hx hy E' Q hq=>by
 obtain⟨p,o,n,a,t,b,u,e,ho,hd,k⟩:=hU x hx;obtain⟨p',o',n',a',t',b',u',e',ho',hd',k'⟩:=hU y hy;rw[e,e'];refine ze7 ho hd ho' hd' (eq:=decide (b=b')) (lt:=decide (b.cps.toList<b'.cps.toList)) (fun Q h=>wpAny_eqBool_str h) (fun Q h=>zle h) ?_;have:bk kc x y=(if a=a' then !(decide (b=b'))&&decide (b.cps.toList<b'.cps.toList)else decide (a<a')):=by
   unfold bk;rw[k,k',<-Bool.decide_coe (if a=a' then _ else _),z6u,z6s];by_cases h1:a=a'
   · rw[z6a h1];subst h1;have:(nums b<nums b')↔b.cps.toList<b'.cps.toList:=map_lt _ _;simp[this];rintro h2 rfl;exact z8i _ h2
   · rw[z6i h1];simp[h1]
 rw[<-this];exact hq
end
end Srt
namespace Srt
open PySem PyProof.Rows
open Builtin.List (listItems listUpdate)
theorem kk1:((("key":Str) != ("key":Str))&&(("key":Str) != ("reverse":Str)))=false:=by decide +kernel
theorem kk2{v:Value}:List.lookup ("key":Str) [(("key":Str),v)]=some v:=by simp[List.lookup]
theorem kk3{v:Value}:List.lookup ("reverse":Str) [(("key":Str),v)]=none:=by
 have:(("reverse":Str)==("key":Str))=false:=by decide +kernel
 simp[List.lookup,this]
def keysLoop(a:Addr)(items:Array Value)(kf keyStore:Value):Sem PUnit :=
 forIn items PUnit.unit fun x __s=>do
   let __do_lift <-(call kf [x]).attempt
   match __do_lift with
   | Except.ok k=>do
     listUpdate keyStore fun x=>x.push k
     pure (ForInStep.yield PUnit.unit)
   | Except.error e=>do
     rule "list.sort.key-raised"
     let made <-listItems keyStore
     listUpdate keyStore fun x=>#[]
     letGo made.toList.reverse [e]
     listUpdate (Value.ref a) fun x=>items
     throw (α:=Unit) e
     pure (ForInStep.yield PUnit.unit)
theorem zfy (a:Addr) (kf:Value) (hn:(kf != Value.none)=true):Builtin.«list.sort» ⟨[.ref a],[("key",kf)]⟩=(do
   let items <-listItems (.ref a)
   listUpdate (.ref a) fun _=>#[]
   let before <-seqEpoch a
   let held <-newTuple items.toList
   let keyStore <-newList []
   holding [held,keyStore] do
     rule "list.sort.key"
     keysLoop a items kf keyStore
     let keys <-listItems keyStore
     let kind <-if items.size<2 then pure general' else keyKind' keys
     let((),s) <-(if items.size<2 then pure ()else sortRuns').run (SortSt.mk' kind (keys.zip items) #[] 7 none)
     let sorted:=(arrOf s).map (·.2)
     listUpdate keyStore fun _=>#[]
     letGo ((arrOf s).map (·.1)).toList (failedOf s).toList
     let touched:=(<-seqEpoch a) != before
     listUpdate (.ref a) fun _=>sorted
     if let some e:=failedOf s then rule "list.sort.comparison-raised";throw e
     if touched then rule "list.sort.modified";raiseError "ValueError" "list modified during sort"
     ret .none):=by
 unfold Builtin.«list.sort»;have n2:¬ (0+(0+1)>2):=by decide
 simp only[List.length_nil,List.length_cons,List.isEmpty_nil,kk2,kk3,Option.getD_some,hn,z6i n2,z8l,List.forIn_nil,kk1,pure_bind,bind_assoc,z7s,z7c,z58,z83];rfl
section
variable {prog:Program}{w:World}{A:Around}{E:zVP}{s:Shared}
def askHeap(h:Heap)(a:Addr)(vs:List Value):Heap:=((h.update a (Obj.mapSeq fun _=>#[])).push (seqObj "tuple" vs.toArray 0)).push (seqObj "list" #[] 0)
structure Keyd (prog:Program) (w:World) (A:Around) (E:zVP) (a k:Addr) (e1:Nat) (vs:List Value) (P:Fin->Shared->Prop) (s2:Shared):Prop where
 ex:∃(keys:List Value) (m:Nat) (kd:SortKind) (U:Keyed->Prop) (kc:Keyed->List Int),s2.heap.get? k=some (seqObj "list" keys.toArray m)/\s2.heap.get? a=some (seqObj "list" #[] e1)/\keys.length=vs.length /\
   (2<=vs.length->wpAny (model prog w) A (keyKind' keys.toArray) (fun kd' s'=>s'=s2/\kd'=kd) E s2)/\Cmp prog w A E s2 kd U (bk kc)/\(∀x∈keys.zip vs,U x)/\(keys.zip vs).Pairwise (fun x y=>kc x≠kc y) /\
   ∀out:List Keyed,out.Perm (keys.zip vs)->out.Pairwise (fun x y=>¬ kc y<kc x)->P (.done (.ret .none)) { s2 with heap:=(s2.heap.update k (Obj.mapSeq fun _=>#[])).update a (Obj.mapSeq fun _=>(out.map (·.2)).toArray) }
theorem zdq{a:Addr}{vs:List Value}{n:Nat}{kf:Value}{P:Fin->Shared->Prop}(hn:(kf != Value.none)=true)(ho:s.heap.get? a=some (seqObj "list" vs.toArray n))(hl:vs.length<=63)
   (h:∀e1,(askHeap s.heap a vs).get? a=some (seqObj "list" #[] e1)->wpAny (model prog w) A (keysLoop a vs.toArray kf (.ref (s.heap.objs.size+1))) (fun _ s2=>Keyd prog w A E a (s.heap.objs.size+1) e1 vs P s2) E { s with heap:=askHeap s.heap a vs }) :
   wpAny (model prog w) A (Builtin.«list.sort» ⟨[.ref a],[("key",kf)]⟩) P E s:=by
 rw[zfy a kf hn];have ha:a<s.heap.objs.size:=z50 ho;refine z5m (z9z ho rfl ?_);refine z5m (listUpdate_at ho rfl ?_);obtain⟨e1,ho1⟩:∃e1,(s.heap.update a (Obj.mapSeq fun _=>#[])).get? a=some (seqObj "list" #[] e1):=⟨_,get?_update_seq ho (fun _=>#[])⟩
 refine z5m (seqEpoch_at ho1 rfl ?_);refine z5m (wpAny_newTuple ?_);refine z5m (wpAny_newList ?_);refine wpAny_holding ?_;have ho6:(askHeap s.heap a vs).get? a=some (seqObj "list" #[] e1):=by unfold askHeap;rw[Heap.get?_push_ne _ _ _ (by rw[z97,z8g];exact z53 (z8s ha)),Heap.get?_push_ne _ _ _ (by rw[z8g];exact z53 ha)];exact ho1
 have hk:((s.heap.update a (Obj.mapSeq fun _=>#[])).push (seqObj "tuple" vs.toArray 0)).objs.size=s.heap.objs.size+1:=by rw[z97,z8g]
 dsimp only;rw[hk];refine z5m (wpAny_rule ?_);refine z5m (z7f (h e1 ho6) (fun _ s2 hs2=>?_) fun _ _ e=>e);obtain⟨keys,m,kd,U,kc,gk,ga,lk,hkk,C,hU,hd,fin⟩:=hs2.ex;have ka:a≠s.heap.objs.size+1:=z53 (z8s ha);refine z5m (z9z gk rfl ?_);have vsz:vs.toArray.size=vs.length:=by simp
 have zl:(keys.toArray.zip vs.toArray).toList=keys.zip vs:=by simp
 have sz2:(keys.zip vs).length=vs.length:=by rw[List.length_zip,lk,Nat.min_self]
 have done:∀st:SortSt,failedOf st=none->(arrOf st).toList.Perm (keys.zip vs)->(arrOf st).toList.Pairwise (fun x y=>¬ kc y<kc x)->wpAny (model prog w) A (do
     listUpdate (.ref (s.heap.objs.size+1)) fun _=>#[]
     letGo ((arrOf st).map (·.1)).toList (failedOf st).toList
     let touched:=(<-seqEpoch a) != e1
     listUpdate (.ref a) fun _=>(arrOf st).map (·.2)
     if let some e:=failedOf st then rule "list.sort.comparison-raised";throw e
     if touched then rule "list.sort.modified";raiseError "ValueError" "list modified during sort"
     ret .none) P E s2:=by
   intro st hf hp hs;refine z5m (listUpdate_at gk rfl ?_);refine z5m (wpAny_letGo ?_);have ga2:(s2.heap.update (s.heap.objs.size+1) (Obj.mapSeq fun _=>#[])).get? a=some (seqObj "list" #[] e1):=by rw[z7i _ _ _ _ ka];exact ga
   refine z5m (seqEpoch_at ga2 rfl ?_);refine z5m (listUpdate_at ga2 rfl ?_ (hsz2:=by
     show((arrOf st).map (·.2)).size<=_;rw[Array.size_map,<-Array.length_toList,hp.length_eq,sz2,z60];omega))
   rw[hf];simp only[bne_self_eq_false,z58,z7c];have:=fin (arrOf st).toList hp hs;have e:((arrOf st).toList.map (·.2)).toArray=(arrOf st).map (·.2):=by rw[<-Array.toList_map,Array.toArray_toList]
   rw[e]at this;exact z52 this
 by_cases h2:vs.toArray.size<2
 · rw[z6a h2,z6a h2];refine z5m (z52 ?_);rw[StateT.run_pure];refine z5m (z52 ?_);refine done (SortSt.mk' general' (keys.toArray.zip vs.toArray) #[] 7 none) rfl (by show(keys.toArray.zip vs.toArray).toList.Perm _;rw[zl]) ?_;show(keys.toArray.zip vs.toArray).toList.Pairwise _;rw[zl]
   match hz:keys.zip vs,sz2 with
   | [],_=>exact List.Pairwise.nil
   | [x],_=>exact z85 _ _
   |x::y::r,e=>rw[vsz]at h2;simp at e;omega
 · rw[z6i h2,z6i h2];refine z5m (z7f (hkk (by rw[vsz]at h2;omega)) (fun kd' s' hs'=>?_) fun _ _ e=>e);obtain⟨rfl,rfl⟩:=hs';refine z5m (z7f (zfi (st:=SortSt.mk' kd' (keys.toArray.zip vs.toArray) #[] 7 none) C rfl rfl rfl (fun x hx=>hU x (by rw[<-zl];exact hx)) ?_ (by show(keys.toArray.zip vs.toArray).size<=63;rw[Array.size_zip,z5t,z5t];omega) (Q:=fun _ st'=>(arrOf st').toList.Perm (keys.toArray.zip vs.toArray).toList/\failedOf st'=none/\(arrOf st').toList.Pairwise (le (bk kc))) fun st' a1 a2 a3=>⟨a1,a2,a3⟩) ?_ fun _ _ e=>e)
   · show(keys.toArray.zip vs.toArray).toList.Pairwise _;rw[zl];refine hd.imp fun {x y} hxy=>?_;simp only[bk,decide_eq_true_eq];by_cases q:kc x<kc y
     · exact .inl q
     · right
       by_cases q2:kc y<kc x
       · exact q2
       · exact absurd (z9p (z64.mp q2) (z64.mp q)) hxy
   · rintro⟨⟨⟩,st'⟩ s3 ⟨rfl,hp,hf,hs⟩;refine done st' hf (by rw[zl]at hp;exact hp) (hs.imp fun {x y} q=>?_);simpa [le,bk] using q
end
theorem zeo(a k:Value):argsOk "sorted" ⟨[a],[(("key":Str),k)]⟩:=by unfold argsOk;kernel_rfl
theorem zcf(a k:Value):argsOk "list.sort" ⟨[a],[(("key":Str),k)]⟩:=by unfold argsOk;kernel_rfl
section
variable {prog:Program}{w:World}{A:Around}{E:zVP}{s:Shared}
def colHeap(h:Heap)(vs:List Value):Heap:=((h.push (seqObj "list" #[] 0)).update h.objs.size (Obj.mapSeq (·++vs.toArray))).push (seqObj "list" vs.toArray 0)
theorem col_size(h:Heap)(vs:List Value):(colHeap h vs).objs.size=h.objs.size+2:=by unfold colHeap;rw[z97,z8g,z97]
theorem sorted_key{l:Addr}{vs:List Value}{kf:Value}{Q:zVP}(hl:s.heap.IsList l vs.toArray)(hn:(kf != Value.none)=true)(hv:vs.length<=63)
   (h:∀e1,(askHeap (colHeap s.heap vs) (s.heap.objs.size+1) vs).get? (s.heap.objs.size+1)=some (seqObj "list" #[] e1) ->
     wpAny (model prog w) A.in1.in1 (keysLoop (s.heap.objs.size+1) vs.toArray kf (.ref (s.heap.objs.size+3))) (fun _ s2=>Keyd prog w A.in1.in1 E (s.heap.objs.size+1) (s.heap.objs.size+3) e1 vs (fun fin s'=>fin=.done (.ret .none)->Q (.ref (s.heap.objs.size+1)) s') s2) E { s with heap:=askHeap (colHeap s.heap vs) (s.heap.objs.size+1) vs }) :
   wpAny (model prog w) A (call (.builtin "sorted") [.ref l] [(("key":Str),kf)]) Q E s:=by
 refine call_function_entry_kw kind_sorted plain_sorted entry_sorted (zeo _ _) ?_;unfold Builtin.«sorted»;refine z5m (m:=checkCount "sorted" 1 1 _) (z52 ?_);have hz:=z60;refine z5m (collect_list hl ?_ (by omega));refine z5m (wpAny_newList ?_);have hsz:((s.heap.push (seqObj "list" #[] 0)).update s.heap.objs.size (Obj.mapSeq (·++vs.toArray))).objs.size=s.heap.objs.size+1:=by rw[z8g,z97]
 have hoL:(colHeap s.heap vs).get? (s.heap.objs.size+1)=some (seqObj "list" vs.toArray 0):=by unfold colHeap;rw[<-hsz];exact z6c _ rfl
 show wpAny _ _ _ _ _ { s with heap:=colHeap s.heap vs };rw[hsz];have cs:(colHeap s.heap vs).objs.size+1=s.heap.objs.size+3:=by rw[col_size]
 refine z5m (wpAny_holding (wpAny_call_entry_kw slot_list_sort ⟨_,hoL,rfl⟩ entry_list_sort (z7f (zdq (s:={ s with heap:=colHeap s.heap vs }) (P:=fun fin s'=>fin=.done (.ret .none)/\Q (.ref (s.heap.objs.size+1)) s') hn hoL hv fun e1 he=>?_) (fun fin s' hf=>⟨.none,hf.1,z52 ⟨_,rfl,hf.2⟩⟩) fun _ _ e=>e) (zcf _ _)));show wpAny _ _ (keysLoop _ _ _ (.ref ((colHeap s.heap vs).objs.size+1))) _ _ _;rw[cs];refine z7f (h e1 he) (fun _ s2 k2=>?_) fun _ _ e=>e;obtain⟨keys,m,kd,U,kc,b1,b2,b3,b4,b5,b6,b7,b8⟩:=k2.ex;exact⟨keys,m,kd,U,kc,b1,b2,b3,b4,b5,b6,b7,fun out o1 o2=>⟨rfl,b8 out o1 o2 rfl⟩⟩
end
theorem zc0(v:Value):firstOfTuple' v=(do
 if(<-typeOf v) != .type "tuple" then return none
 return(<-listItems v)[0]?):=rfl
section
variable {prog:Program}{w:World}{A:Around}{E:zVP}{s:Shared}
def z3i(s:Shared)(v:Value):Prop:=∃p o n a t e,v=.ref p/\s.heap.get? p=some o/\o.cls=.type "tuple"/\o.data=.seq #[.int a t,e] n
theorem zoy{v:Value}(h:z3i s v){Q:Option Value->Shared->Prop}(hq:∀a t,Q (some (.int a t)) s):wpAny (model prog w) A (firstOfTuple' v) Q E s:=by
 obtain⟨p,o,n,a,t,e,rfl,ho,hc,hd⟩:=h;rw[zc0];refine z5m (wpAny_typeOf (T:="tuple") ⟨o,ho,hc⟩ ?_);have:(Value.type "tuple" != Value.type "tuple")=false:=by rfl
 rw[this];simp only[z58,z7c];refine z5m (z9z ho hd ?_);exact z52 (hq a t)
theorem zbn:∀{vs:List Value},(∀v∈vs,z3i s v)->∀{Q:List (Option Value)->Shared->Prop},(∀fs:List Value,(∀f∈fs,∃a t,f=.int a t)->fs.length=vs.length->Q (fs.map some) s)->wpAny (model prog w) A (vs.mapM firstOfTuple') Q E s
 | [],_,Q,h=>by rw[List.mapM_nil];exact z52 (h [] (fun f hf=>by cases hf) rfl)
 | v::vs,hv,Q,h=>by
   rw[List.mapM_cons];refine z5m (zoy (hv v (z5x ..)) fun a t=>?_);refine z5m (zbn (fun u hu=>hv u (z5n _ hu)) fun fs hf hl=>?_);refine z52 (h (.int a t::fs) (fun f hf'=>?_) (by simp[hl]));rcases z51.mp hf' with rfl | hf'
   · exact⟨a,t,rfl⟩
   · exact hf f hf'
theorem zb2:∀{fs:List Value},(∀f∈fs,∃a t,f=.int a t)->fs.mapM typeOf=(pure (fs.map fun _=>Value.type "int"):Sem (List Value))
 | [],_=>by simp
 | f::fs,h=>by obtain⟨a,t,rfl⟩:=h f (z5x ..);rw[List.mapM_cons,zb2 fun u hu=>h u (z5n _ hu)];show(pure (Value.type "int") >>= fun b=>pure _ >>= fun bs=>pure (b::bs))=_;simp
theorem keyKind_tup{keys:List Value}(h0:keys≠[])(hf:∀v∈keys,z3i s v):wpAny (model prog w) A (keyKind' keys.toArray) (fun kd s'=>s'=s/\kd=tuples' true) E s:=by
 rw[keyKind'_eq,List.mapM_toArray];simp only[map_eq_pure_bind,bind_assoc,pure_bind];refine z5m (zbn hf fun fs h1 h2=>?_);have e1:(fs.map some).toArray.all (·.isSome)=true:=by simp
 rw[z6a e1];refine z5m (wpAny_rule ?_);have e2:(fs.map some).toArray.filterMap id=fs.toArray:=by simp
 rw[e2,oneTypeOnly'_eq,List.mapM_toArray,zb2 h1];cases fs with
 |nil=>exact absurd (List.length_eq_zero_iff.mp h2.symm) h0
 | cons f fs=>
   simp only[map_pure,pure_bind,z5v];have hall:((Value.type "int"::List.map (fun _=>Value.type "int") fs).toArray.all fun x=>x==Value.type "int")=true:=by rw[<-z5v (f:=fun _=>Value.type "int") (a:=f)];simp only[List.all_toArray,List.all_map,z6m];intro _ _;rfl
   have g0:(Value.type "int"::List.map (fun _=>Value.type "int") fs).toArray[0]? = some (Value.type "int"):=by simp
   rw[g0];simp only[hall,z7s,pure_bind];exact z52 ⟨rfl,rfl⟩
theorem keyKind_int{keys:List Value}(h2:2<=keys.length)(hf:∀v∈keys,∃a t,v=.int a t):wpAny (model prog w) A (keyKind' keys.toArray) (fun kd s'=>s'=s/\kd=oneType') E s:=by
 match keys,h2 with
 | v₁::v₂::vs,_=>
   have:∀(l:List Value),(∀v∈l,∃a t,v=.int a t)->∃ns,IntsAre l ns:=by
     intro l
     induction l with
     |nil=>exact fun _=>⟨[],.nil⟩
     | cons v l ih=>
       intro h;obtain⟨a,t,rfl⟩:=h v (z5x ..);obtain⟨ns,hn⟩:=ih fun u hu=>h u (z5n _ hu);exact⟨a::ns,.cons a t hn⟩
   obtain⟨ns,hn⟩:=this _ hf;rw[keyKind_ints hn];exact z52 ⟨rfl,rfl⟩
theorem keyKind_str{keys:List Value}(h2:2<=keys.length)(hf:∀v∈keys,∃a t,v=.str a t):wpAny (model prog w) A (keyKind' keys.toArray) (fun kd s'=>s'=s/\kd=oneType') E s:=by
 match keys,h2 with
 | v₁::v₂::vs,_=>
   rw[keyKind_strs (strsAre_map _ hf)];exact z52 ⟨rfl,rfl⟩
end
end Srt
namespace F
open PySem L2 PySem.Spec PySem.Calls PyProof.Rows PySem.W
open Builtin.List (listItems listUpdate)
def zrb{α:Type}(c:α->List Int)(x:α):List α->List α
 | []=>[x]
 |y::l=>if c y<c x then y::zrb c x l else x::y::l
def xc{α:Type}(c:α->List Int):List α->List α
 | []=>[]
 |x::l=>zrb c x (xc c l)
section
variable {α β:Type}{c:α->List Int}{c':β->List Int}
theorem zd2(x:α):∀l:List α,(zrb c x l).Perm (x::l)
 | []=>z9i _
 | y::l=>by
   unfold zrb;split
   · exact((zd2 x l).cons y).trans (List.Perm.swap x y l)
   · exact z9i _
theorem xi:∀l:List α,(xc c l).Perm l
 | []=>z9i _
 |x::l=>(zd2 x _).trans ((xi l).cons x)
theorem zoj(x:α):∀l:List α,l.Pairwise (fun a b=>¬ c b<c a)->(zrb c x l).Pairwise (fun a b=>¬ c b<c a)
 | [],_=>z85 _ _
 | y::l,h=>by
   obtain⟨h1,h2⟩:=z65.mp h;unfold zrb;split
   · rename_i hy;refine z65.mpr ⟨fun z hz=>?_,zoj x l h2⟩;rcases z51.mp ((zd2 x l).mem_iff.mp hz)with rfl | hz
     · exact List.lt_asymm hy
     · exact h1 z hz
   · rename_i hy;refine z65.mpr ⟨fun z hz=>?_,h⟩;rcases z51.mp hz with rfl | hz
     · exact hy
     · exact z64.mpr (List.le_trans (z64.mp hy) (z64.mp (h1 z hz)))
theorem zdz:∀l:List α,(xc c l).Pairwise (fun a b=>¬ c b<c a)
 | []=>List.Pairwise.nil
 |x::l=>zoj x _ (zdz l)
theorem zj9(f:α->β)(h:∀a,c' (f a)=c a)(x:α):∀l:List α,zrb c' (f x) (l.map f)=(zrb c x l).map f
 | []=>rfl
 | y::l=>by
   rw[z5v];unfold zrb;rw[h,h];split
   · rw[z5v,zj9 f h x l]
   · rfl
theorem zbf(f:α->β)(h:∀a,c' (f a)=c a):∀l:List α,xc c' (l.map f)=(xc c l).map f
 | []=>rfl
 | x::l=>by rw[z5v];unfold xc;rw[zbf f h l,zj9 f h]
theorem zid{l out:List α}(hp:out.Perm l)(hs:out.Pairwise (fun a b=>¬ c b<c a))(hd:l.Pairwise (fun a b=>c a≠c b)):out=xc c l:=by
 have hd2:∀a b,a∈l->b∈l->c a=c b->a=b:=by
   clear hp hs
   induction l with
   |nil=>intro a b ha;cases ha
   | cons x l ih=>
     obtain⟨h1,h2⟩:=z65.mp hd;intro a b ha hb e;rcases z51.mp ha with ea | ma
     · rcases z51.mp hb with eb | mb
       · rw[ea,eb]
       · rw[ea]at e;exact absurd e (h1 b mb)
     · rcases z51.mp hb with eb | mb
       · rw[eb]at e;exact absurd e.symm (h1 a ma)
       · exact ih h2 a b ma mb e
 refine List.Perm.eq_of_pairwise (le:=fun a b=>¬ c b<c a) (fun a b ha hb h1 h2=>?_) hs (zdz l) (hp.trans (xi l).symm);exact hd2 a b (hp.mem_iff.mp ha) ((xi l).mem_iff.mp hb) (z9p (z64.mp h1) (z64.mp h2))
end
def zf0:D->List Int
 | .int n=>[n]
 | .str z=>Srt.nums z
 | .tup [.int a,.int b]=>[a,b]
 | .tup [.int a,.str z]=>a::Srt.nums z
 |_=>[]
def x8:D->Nat
 | .int _=>0
 | .str _=>1
 | .tup [.int _,.int _]=>2
 | .tup [.int _,.str _]=>3
 |_=>4
theorem j5{d:D}(h:x8 d<4):(∃n,d=.int n)\/(∃z,d=.str z)\/(∃a b,d=.tup [.int a,.int b])\/(∃a z,d=.tup [.int a,.str z]):=by
 unfold x8 at h;split at h
 · exact .inl ⟨_,rfl⟩
 · exact .inr (.inl ⟨_,rfl⟩)
 · exact .inr (.inr (.inl ⟨_,_,rfl⟩))
 · exact .inr (.inr (.inr ⟨_,_,rfl⟩))
 · exact absurd h (by decide)
def zwo:Value->List Int
 | .int n _=>[n]
 | .str z _=>Srt.nums z
 |_=>[]
def zc2(h:Heap):Value->List Int
 | .ref p=>(match h.get? p with
   | some o=>(match o.data with
     | .seq its _=>its.toList.flatMap zwo
     |_=>[])
   |none=>[])
 |v=>zwo v
def zfh(h:Heap):Nat->Value->List Int->Prop
 |0,u,c=>∃n t,u=.int n t/\c=[n]
 |1,u,c=>∃z t,u=.str z t/\c=Srt.nums z
 |2,u,c=>∃p o n a t b t',u=.ref p/\h.get? p=some o/\o.cls=.type "tuple"/\o.data=.seq #[.int a t,.int b t'] n/\c=[a,b]
 |3,u,c=>∃p o n a t b t',u=.ref p/\h.get? p=some o/\o.cls=.type "tuple"/\o.data=.seq #[.int a t,.str b t'] n/\c=a::Srt.nums b
 |_,_,_=>False
theorem zm0{h:Heap}{n:Nat}{u:Value}{c:List Int}(q:zfh h n u c):zc2 h u=c:=by
 match n,q with
 |0,q=>obtain⟨n,t,e,f⟩:=q;subst e f;rfl
 |1,q=>obtain⟨n,t,e,f⟩:=q;subst e f;rfl
 | 2,q=>
   obtain⟨p,o,n,a,t,b,t',e,ho,_,hd,f⟩:=q;subst e f;simp only[zc2,ho,hd];rfl
 | 3,q=>
   obtain⟨p,o,n,a,t,b,t',e,ho,_,hd,f⟩:=q;subst e f;simp[zc2,ho,hd,zwo]
 |n+4,q=>exact False.elim q
section
variable {X:Cx}{pins:zAO}{σ:L2.St}{H:Hp}{s:Shared}{ρ:List Addr}
theorem zqi{d:D}{v:V}{u:Value}(I:Inv X pins σ H s)(hk:x8 d<4)(r:Rep X.K X.mg ρ H d v)(q:RelV v u):zfh s.heap (x8 d) u (zf0 d):=by
 rcases j5 hk with⟨n,rfl⟩ | ⟨z,rfl⟩ | ⟨a,b,rfl⟩ | ⟨a,z,rfl⟩
 · unfold Rep at r;subst r;obtain⟨t,rfl⟩:=q;exact⟨n,t,rfl,rfl⟩
 · unfold Rep at r;subst r;obtain⟨t,rfl⟩:=q;exact⟨z,t,rfl,rfl⟩
 · unfold Rep at r;obtain⟨p,vs,rfl,ht,rl⟩:=r;obtain rfl:u=Value.ref p:=q;simp only[RepL,Rep]at rl;obtain⟨v1,r1,rfl,rfl,v2,r2,rfl,rfl,rfl⟩:=rl;obtain⟨its,rv,⟨o,e,c,n,dd⟩,_⟩:=I.tuple ht.sq;cases rv with
   | cons q1 rv=>
     cases rv with
     | cons q2 rv=>
       cases rv;obtain⟨t1,rfl⟩:=q1;obtain⟨t2,rfl⟩:=q2;exact⟨p,o,n,a,t1,b,t2,rfl,e,c,dd,rfl⟩
 · unfold Rep at r;obtain⟨p,vs,rfl,ht,rl⟩:=r;obtain rfl:u=Value.ref p:=q;simp only[RepL,Rep]at rl;obtain⟨v1,r1,rfl,rfl,v2,r2,rfl,rfl,rfl⟩:=rl;obtain⟨its,rv,⟨o,e,c,n,dd⟩,_⟩:=I.tuple ht.sq;cases rv with
   | cons q1 rv=>
     cases rv with
     | cons q2 rv=>
       cases rv;obtain⟨t1,rfl⟩:=q1;obtain⟨t2,rfl⟩:=q2;exact⟨p,o,n,a,t1,z,t2,rfl,e,c,dd,rfl⟩
theorem zsu(I:Inv X pins σ H s){n:Nat}(hn:n<4):∀{kd:List D}{ws:List V}{ks:List Value},RepL X.K X.mg ρ H kd ws->Vals ws ks->(∀d∈kd,x8 d=n)->(∀v∈ks,zfh s.heap n v (zc2 s.heap v))/\ks.map (zc2 s.heap)=kd.map zf0
 | [],_,_,r,q,_=>by unfold RepL at r;subst r;cases q;exact⟨fun v hv=>(by cases hv),rfl⟩
 | d::kd,_,_,r,q,hk=>by
   unfold RepL at r;obtain⟨v,vs,rfl,r1,r2⟩:=r;cases q with
   | cons q1 q2=>
     rename_i u us;obtain⟨h1,h2⟩:=zsu I hn r2 q2 fun d hd=>hk d (z5n _ hd);have e:=hk d z5x;have sh:=zqi I (by rw[e];exact hn) r1 q1;rw[e]at sh;have ev:=zm0 sh;refine⟨fun v hv=>?_,by rw[z5v,z5v,h2,ev]⟩;rcases z51.mp hv with z | z
     · rw[z,ev];exact sh
     · exact h1 v z
end
section
variable {prog:Program}{w:World}{A:Around}{E:zVP}{s:Shared}{U:Keyed->Prop}{kc:Keyed->List Int}
theorem zm1{n:Nat}(hn:n<4)(hU:∀x,U x->zfh s.heap n x.1 (kc x)):∃kd,Srt.Cmp prog w A E s kd U (Srt.bk kc)/\∀keys:List Value,2<=keys.length->(∀v∈keys,∃c,zfh s.heap n v c)->wpAny (model prog w) A (keyKind' keys.toArray) (fun kd' s'=>s'=s/\kd'=kd) E s:=by
 match n,hn,hU with
 |0,_,hU=>exact⟨_,Srt.cmp_int hU,fun keys h2 hf=>Srt.keyKind_int h2 fun v hv=>let⟨c,a,t,e,_⟩:=hf v hv;⟨a,t,e⟩⟩
 |1,_,hU=>exact⟨_,Srt.cmp_str hU,fun keys h2 hf=>Srt.keyKind_str h2 fun v hv=>let⟨c,a,t,e,_⟩:=hf v hv;⟨a,t,e⟩⟩
 |2,_,hU=>exact⟨_,Srt.cmp_ii fun x hx=>let⟨p,o,n,a,t,b,u,e,ho,_,hd,k⟩:=hU x hx;⟨p,o,n,a,t,b,u,e,ho,hd,k⟩,fun keys h2 hf=>Srt.keyKind_tup (fun z=>by rw[z]at h2;exact absurd h2 (by decide)) fun v hv=>let⟨c,p,o,n,a,t,b,u,e,ho,hc,hd,_⟩:=hf v hv;⟨p,o,n,a,t,.int b u,e,ho,hc,hd⟩⟩
 |3,_,hU=>exact⟨_,Srt.cmp_is fun x hx=>let⟨p,o,n,a,t,b,u,e,ho,_,hd,k⟩:=hU x hx;⟨p,o,n,a,t,b,u,e,ho,hd,k⟩,fun keys h2 hf=>Srt.keyKind_tup (fun z=>by rw[z]at h2;exact absurd h2 (by decide)) fun v hv=>let⟨c,p,o,n,a,t,b,u,e,ho,hc,hd,_⟩:=hf v hv;⟨p,o,n,a,t,.str b u,e,ho,hc,hd⟩⟩
end
section
variable {X:Cx}{pins:zAO}{σ:L2.St}{H:Hp}{s:Shared}{ρ:List Addr}{k:Nat}{t:LT}{g:G}{cl:zLA}{is:List Nat}{kv:List D}{ev:Ev}{a c:Addr}{pm ct:Value}{S S':Sto}
theorem zko{A:Around}{ds:List D}{d':D}{vs:List V}{us:List Value}{Q:VK}{E:zVP}(cal:CCal X.prog X.w X.K X.mg X.base k t g)(hn:∀b∈cl.map (·.2),H b=none)(isc:∀b∈cl.map (·.2),∃o v,s.heap.get? b=some o/\o.data=.cell v)(nodup:(cl.map (·.2)).Nodup)
   (nst:∀b∈cl.map (·.2),b∉frs X.stack) (nb:∀b∈cl.map (·.2),X.base.get? b=none) {cs:List V} (hcs:Cells ρ (trk H s.heap cl) t.caps cs cl) (rk:RepL X.K X.mg ρ H kv cs)
   (hr:Room k A) (env0:∀{H':Hp},Env0 X.prog X.w X.K X.mg X.base X.A X.stack s H'->Env0 X.prog X.w X.K X.mg X.base A X.stack s H')
   (I:Inv X pins σ H s) (hS:StOk X.K X.mg ρ H S) (na:a∉ρ) (nc:c∉ρ) (hA:H a=some (.ext (zh9 t cl a c pm ct))) (hC:H c=some (.ext (yq c t.qual)))
   (rd:RepL X.K X.mg ρ H ds vs) (rv:Vals vs us) (hlen:ds.length=t.params.args.length) (hno:(noCL ds&&noCL kv&&noCS S)=true) (hg:g (ds++kv) S=some (d',S')) (hno':(noC d'&&noCS S')=true)
   (kk:∀v ρ' H',Ext ρ H ρ' H'->StOk X.K X.mg ρ' H' S'->Rep X.K X.mg ρ' H' d' v->Q v H') :
   wpAny (model X.prog X.w) A (call (.ref a) us) (EP X pins σ Q) E s:=by
 obtain⟨ps,F,hb⟩:=cal.ex;rw[z6g]at hno';obtain⟨n1,n2⟩:=hno';have E2:Ext ρ H ρ (trk H s.heap cl):=⟨fun _ _ e=>e,fun b o h n=>by
   unfold trk;rw[qw (fun z=>by rw[hn b z]at h;cases h)];exact h,fun _ z n=>absurd z n⟩
 have hS2:StOk X.K X.mg ρ (trk H s.heap cl) S:=hS.on hn;have cin:CellsIn (trk H s.heap cl) cl:=fun b hb=>by obtain⟨o,v,h1,_⟩:=isc b hb;exact⟨o,by unfold trk;rw[zbm hb,h1];rfl⟩
 have hok0:HOk X.prog X.w (trk H s.heap cl) s.heap:=fun b u e=>by
   unfold trk at e;by_cases z:b∈cl.map (·.2)
   · obtain⟨o,v,h1,_⟩:=isc b z;rw[zbm z,h1]at e;cases e;exact⟨h1,⟨o,h1⟩⟩
   · rw[qw z]at e;refine(I.hok b u e).stay (fun _ _ _ q=>q) (fun d q=>?_) fun d xs q=>?_
     · unfold trk;rw[qw (fun y=>by rw[hn d y]at q;cases q)];exact q
     · unfold trk;rw[qw (fun y=>by rw[hn d y]at q;cases q)];exact q
 have e0:Env0 X.prog X.w X.K X.mg X.base X.A X.stack s (trk H s.heap cl):=by
   have e:=I.env0;refine⟨e.frames,e.mod,fun b o h=>⟨(e.bs b o h).1,?_⟩,e.bsz,e.funs,fun b hb=>?_,hok0,e.bare⟩
   · unfold trk;rw[qw];exact(e.bs b o h).2;intro z;rw[nb b z]at h;cases h
   · unfold trk;rw[qw];exact e.frf b hb;exact fun z=>nst b z hb
 have hsp:zmv X.K X.mg t a c pm ct cl g vs (trk H s.heap cl) (fun v H'=>CellsIn H' cl->Q v (zbk H' cl)) E0 :=
   ⟨ρ,ds,S,d',S',cs,kv,rd.mono E2,hS2,E2.keep _ _ hA na,E2.keep _ _ hC nc,nodup,hcs,rk.mono E2,z2n hno,hg,hlen,fun v ρ' H' E' hS' r' ci=>by
     refine kk v ρ' (zbk H' cl) ⟨E'.pre,fun b o hb nb=>?_,fun b hb nb=>?_⟩ (hS'.off ci n2) (r'.off ci n1)
     · have z:b∉cl.map (·.2):=fun z=>by rw[hn b z]at hb;cases hb
       rw[jq z];exact E'.keep b o (E2.keep b o hb nb) nb
     · have:=E'.new b hb nb;by_cases z:b∈cl.map (·.2)
       · exact hn b z
       · unfold trk at this;rw[qw z]at this;exact this⟩
 have hl:(us++[]).length=ps.length:=by rw[z6f,<-rv.length];exact(F a c pm ct cl).len _ _ _ _ hsp
 have hbt:=hb c pm ct cl s us I.kIn hl;rw[z6f]at hbt;refine z9r (z8x ((F a c pm ct cl).run A X.stack s (trk H s.heap cl) ⟨us,[]⟩ us _ _ E0 hr (env0 e0) hbt rv hsp) fun r s' hq=>?_);cases r with
 |error e=>exact hq.elim
 | ok fl=>
   cases fl with
   | ret u=>
     obtain⟨v,H',os,bare,un,hok,rv,q⟩:=hq;have ci:CellsIn H' cl:=fun b hb=>let⟨o,z⟩:=cin b hb;⟨o,un.frzs b o _ z⟩;obtain⟨hh,gn,dr,tt,os'⟩:=s';obtain rfl:os'=s.os:=os;exact⟨v,zbk H' cl,I.call (h':=hh) (g':=gn) (d':=dr) (t':=tt) (ch:=[]) (zsl hn un (fun b hb=>let⟨o,_,z,_⟩:=isc b hb;⟨o,z⟩) (fun b o w z=>(hok b _ z).1)) (zit hok ci) bare (fun b z=>absurd z (by simp)),rv,q ci⟩
   |next=>exact False.elim hq
   |brk=>exact False.elim hq
   |cont=>exact False.elim hq
theorem CapsOk.nst(C:CapsOk X t cl is)(I:Inv X pins σ H s):∀b∈cl.map (·.2),b∉frs X.stack:=fun b hb z=>by
 obtain⟨p,hp,rfl⟩:=z7o.mp hb;rcases z51.mp (I.stkSub _ z)with y | y
 · exact I.cne _ _ (C.look p hp) y
 · obtain⟨_,o',h3,_⟩:=I.ok.funs.mem y;have:=I.ok.cab p.1 p.2 (C.fn _ (C.names▸z6o hp)) (C.look p hp);exact absurd (z50 h3) (z79.mpr this)
theorem CapsOk.nb(C:CapsOk X t cl is)(I:Inv X pins σ H s):∀b∈cl.map (·.2),X.base.get? b=none:=fun b hb=>by obtain⟨p,hp,rfl⟩:=z7o.mp hb;have:=I.ok.cab p.1 p.2 (C.fn _ (C.names▸z6o hp)) (C.look p hp);exact z7u (z57 I.ok.bsz this)
def zir(g:G)(n:Nat)(kv:List D):List D->Sto->Option (List D×Sto)
 | [],S=>some ([],S)
 |d::ds,S=>if(noCL [d]&&noCL kv&&noCS S)=true/\n=1 then (g ([d]++kv) S).bind fun p=>if(noC p.1&&noCS p.2)=true then (zir g n kv ds p.2).map fun q=>(p.1::q.1,q.2)else none else none
def zks(a:Addr)(items:Array Value)(kf keyStore x:Value):Sem (ForInStep PUnit):=do
 let __do_lift <-(call kf [x]).attempt
 match __do_lift with
 | Except.ok k=>do
   listUpdate keyStore fun x=>x.push k
   pure (ForInStep.yield PUnit.unit)
 | Except.error e=>do
   rule "list.sort.key-raised"
   let made <-listItems keyStore
   listUpdate keyStore fun x=>#[]
   letGo made.toList.reverse [e]
   listUpdate (Value.ref a) fun x=>items
   throw (α:=Unit) e
   pure (ForInStep.yield PUnit.unit)
theorem zfz(a:Addr)(items:List Value)(kf keyStore:Value):Srt.keysLoop a items.toArray kf keyStore=forIn items PUnit.unit fun x _=>zks a items.toArray kf keyStore x:=by unfold Srt.keysLoop;rw[List.forIn_toArray];rfl
theorem zhe{ks aL:Addr}{E:zVP}(cal:CCal X.prog X.w X.K X.mg X.base k t g)(C:CapsOk X t cl is)(hr:Room k X.A.in1.in1)(hkv:zat ev is=some kv)
   (hL:ks≠X.env.locals) (h1:ks∈X.ex\/X.s₀.heap.objs.size<=ks) (h2:∀x c,X.env.cells.lookup x=some c->c≠ks) (h3:∀p∈X.pn++pins,p.1≠ks) (hf:ks∉X.fs) (items:Array Value) {R:Shared->Prop} :
   ∀(ds:List D) (us:List Value) (vs:List V) (kd accD:List D) (accV:List V) (acc:List Value) (m:Nat) (s:Shared) (H:Hp) (ρ:List Addr) (S S':Sto),
     EnvR X.K X.mg ρ H ev σ->StOk X.K X.mg ρ H S->RepL X.K X.mg ρ H ds vs->Vals vs us->RepL X.K X.mg ρ H accD accV->Vals accV acc->a∉ρ->c∉ρ->H a=some (.ext (zh9 t cl a c pm ct))->H c=some (.ext (yq c t.qual))->zir g t.params.args.length kv ds S=some (kd,S') ->
     Inv X pins σ H s->s.heap.get? ks=some (seqObj "list" acc.toArray m)->H ks=none->acc.length+us.length<=63 ->
     (∀(keysV:List V) (keys:List Value) (m:Nat) (s':Shared) (H':Hp) (ρ':List Addr),Ext ρ H ρ' H'->StOk X.K X.mg ρ' H' S'->RepL X.K X.mg ρ' H' (accD++kd) keysV->Vals keysV keys->keys.length=acc.length+us.length->Inv X pins σ H' s'->s'.heap.get? ks=some (seqObj "list" keys.toArray m)->H' ks=none->R s') ->
     wpAny (model X.prog X.w) X.A.in1.in1 (forIn us PUnit.unit fun x _=>zks aL items (.ref a) (.ref ks) x) (fun _ s'=>R s') E s
 | [],us,vs,kd,accD,accV,acc,m,s,H,ρ,S,S',hE,hS,rd,rv,ra,va,na,nc,hA,hC,hk,I,gk,nk,hl,fin=>by unfold RepL at rd;subst rd;cases rv;cases hk;rw[List.forIn_nil];exact z52 (fin accV acc m s H ρ (Ext.refl _ _) hS (by rw[z6f];exact ra) va (by simp) I gk nk)
 | d::ds,us,vs,kd,accD,accV,acc,m,s,H,ρ,S,S',hE,hS,rd,rv,ra,va,na,nc,hA,hC,hk,I,gk,nk,hl,fin=>by
   unfold RepL at rd;obtain⟨v,vs,rfl,rd1,rd2⟩:=rd;cases rv with
   | cons rv0 rv1=>
     rename_i u us;unfold zir at hk;split at hk
     · rename_i hno;obtain⟨hno,hn1⟩:=hno;obtain⟨⟨d',S1⟩,hg,hk⟩:=zy hk;dsimp only at hk;split at hk
       · rename_i hno';obtain⟨⟨kd',S2⟩,hk1,hk2⟩:=zah hk;cases hk2;rw[z8l];unfold zks;simp only[bind_assoc];have Ik:Inv X (pins++[(ks,seqObj "list" acc.toArray m)]) σ H s:=I.pins_of fun p hp=>by
           rcases z6e.mp hp with q | q
           · exact I.pin p (z5y _ q)
           · rw[z55.mp q];exact⟨gk,nk,hL,hf,fun v e=>by cases e⟩
         obtain⟨cs,hcs,rk⟩:=zce C Ik hE hS cl is kv (fun _ h=>h) (by
           rw[C.at_,<-C.names,z8b];rfl) hkv
         rw[C.names]at hcs;refine z5m (z9q (thn (zko (A:=X.A.in1.in1) (Q:=fun v H'=>∃ρ',Ext ρ H ρ' H'/\StOk X.K X.mg ρ' H' S1/\Rep X.K X.mg ρ' H' d' v) cal (C.hn Ik) (C.isc Ik) (C.nodup Ik) (C.nst Ik) (C.nb Ik) hcs rk hr (fun e=>e.in1.in1) Ik hS na nc hA hC (RepL.cons rd1 RepL.nil) (.cons rv0 .nil) (by rw[hn1];rfl) hno hg hno' fun v ρ' H' E' hS' r'=>⟨ρ',E',hS',r'⟩) fun q s' hq=>?_));obtain⟨v',H1,I1,rv,ρ1,E1,hS1,r1⟩:=hq;obtain⟨gk1,nk1,_⟩:=I1.pin (ks,seqObj "list" acc.toArray m) (z5y _ (z5y _ (z55.mpr rfl)));have I2:Inv X pins σ H1 s':=I1.unpinned;dsimp only;refine z5m (z5m (listUpdate_at (f:=fun x=>x.push q) gk1 rfl ?_ (hsz2:=by
           show(acc.toArray.push q).size<=_;rw[Array.size_push,z5t,z60];rw[List.length_cons]at hl;omega)))
         refine z52 ?_;show wpAny (model X.prog X.w) X.A.in1.in1 (forIn us PUnit.unit fun x _=>zks aL items (.ref a) (.ref ks) x) (fun _ s'=>R s') E _;have keep:∀b o,b≠ks->s'.heap.get? b=some o->(s'.heap.update ks (Obj.mapSeq fun x=>x.push q)).get? b=some o:=fun b o nb e=>by rw[z7i _ _ _ _ nb];exact e
         have I3:=I2.turned (t':=s'.toks) keep nk1 hL h1 h2 h3;obtain⟨m2,gk2⟩:∃m2,(s'.heap.update ks (Obj.mapSeq fun x=>x.push q)).get? ks=some (seqObj "list" (acc++[q]).toArray m2):=by
           have e:=get?_update_seq gk1 (fun x=>x.push q);have e2:acc.toArray.push q=(acc++[q]).toArray:=by simp
           rw[e2]at e;exact⟨_,e⟩
         refine zhe cal C hr hkv hL h1 h2 h3 hf items ds us vs kd' (accD++[d']) (accV++[v']) (acc++[q]) m2 _ H1 ρ1 S1 S2 (hE.mono E1) hS1 (rd2.mono E1) rv1 ((ra.mono E1).append (RepL.cons r1 RepL.nil)) (va.append (.cons rv .nil)) (E1.out hA na) (E1.out hC nc) (E1.keep _ _ hA na) (E1.keep _ _ hC nc) hk1 I3 gk2 nk1 (by rw[z5l];rw[List.length_cons]at hl;simp;omega) fun keysV keys m3 s3 H3 ρ3 c0 c1 c2 c3 c4 c5 c6 c7=>?_;refine fin keysV keys m3 s3 H3 ρ3 (E1.trans c0) c1 ?_ c3 (by rw[c4,z5l,List.length_cons];simp;omega) c5 c6 c7;rw[z8t]at c2;exact c2
       · cases hk
     · cases hk
end
def kn(ks:List D):Nat:=x8 (ks.headD (.int 0))
def zmw(ks ds:List D):Option (List D):=if kn ks<4/\(∀d∈ks,x8 d=kn ks)/\(ks.map zf0).Pairwise (·≠·)then some ((xc (fun p:List Int×D=>p.1) ((ks.map zf0).zip ds)).map (·.2))else none
def zho(f:E)(g:G)(j:Nat)(y:Str)(t:LT)(is:List Nat):E:=fun ev S=>(f ev S).bind fun p=>(z10 p.2 p.1).bind fun ds=>match p.2[j]? with
 |some (.tab y' u)=>if y'=y/\u=t.qual/\ds.length<=63 then (zat ev is).bind fun kv=>(zir g t.params.args.length kv ds p.2).bind fun q=>(zmw q.1 ds).map fun r=>(.lst r,q.2)else none
 |_=>none
theorem zxn{K mg ρ H S x ds v}(hS:StOk K mg ρ H S)(r:Rep K mg ρ H x v)(e:z10 S x=some ds):∃l vs,v=.ref l/\SqL K H l vs/\RepL K mg ρ H ds vs:=by
 cases x with
 | lst xs=>
   cases e;unfold Rep at r;obtain⟨p,vs,rfl,t,rl⟩:=r;exact⟨p,vs,rfl,t.sq,rl⟩
 | obj i=>
   unfold Rep at r;obtain⟨a,rfl,ha⟩:=r;have e:(match S[i]? with | some (.lst ds)=>some ds | _=>none)=some ds:=e;split at e
   · rename_i ds' hd;cases e;obtain⟨b,hb,vs,h1,h2⟩:=hS.adr hd;rw[ha]at hb;cases hb;exact⟨a,vs,rfl,.inl (.inl h1),h2⟩
   · cases e
 |_=>cases e
theorem zrz{h:Heap}{vs:List Value}{b:Addr}{o:Obj}(e:h.get? b=some o):(Srt.colHeap h vs).get? b=some o:=by unfold Srt.colHeap;refine z5p _ ?_;rw[z7i _ _ _ _ (z53 (z50 e))];exact z5p _ e
theorem zse{h:Heap}{a:Addr}{vs:List Value}{b:Addr}{o:Obj}(ne:b≠a)(e:h.get? b=some o):(Srt.askHeap h a vs).get? b=some o:=by unfold Srt.askHeap;refine z5p _ (z5p _ ?_);rw[z7i _ _ _ _ ne];exact e
theorem zpu{h:Heap}{a:Addr}{vs:List Value}:(Srt.askHeap h a vs).get? (h.objs.size+1)=some (seqObj "list" ([]:List Value).toArray 0):=by
 unfold Srt.askHeap;have:((h.update a (Obj.mapSeq fun _=>#[])).push (seqObj "tuple" vs.toArray 0)).objs.size=h.objs.size+1:=by rw[z97,z8g]
 rw[<-this];exact z6c _ rfl
theorem zw4{α β γ δ:Type}:∀(ks:List α) (is:List β) (vs:List γ) (ds:List δ),ks.length=is.length->is.length=vs.length->vs.length=ds.length->(ks.zip (is.zip (vs.zip ds))).map (fun z=>(z.1,z.2.1))=ks.zip is
 | [],_,_,_,_,_,_=>by simp
 |k::ks,[],_,_,h,_,_=>by cases h
 |k::ks,i::is,[],_,_,h,_=>by cases h
 |k::ks,i::is,v::vs,[],_,_,h=>by cases h
 | k::ks,i::is,v::vs,d::ds,h1,h2,h3=>by simp only[List.zip_cons_cons,z5v];rw[zw4 ks is vs ds (z9l h1) (z9l h2) (z9l h3)]
theorem zw3{α β γ δ ε:Type}(f:α->ε):∀(ks:List α) (is:List β) (vs:List γ) (ds:List δ),ks.length=is.length->is.length=vs.length->vs.length=ds.length->(ks.zip (is.zip (vs.zip ds))).map (fun z=>(f z.1,z.2.2.2))=(ks.map f).zip ds
 | [],_,_,_,_,_,_=>by simp
 |k::ks,[],_,_,h,_,_=>by cases h
 |k::ks,i::is,[],_,_,h,_=>by cases h
 |k::ks,i::is,v::vs,[],_,_,h=>by cases h
 | k::ks,i::is,v::vs,d::ds,h1,h2,h3=>by simp only[List.zip_cons_cons,z5v];rw[zw3 f ks is vs ds (z9l h1) (z9l h2) (z9l h3)]
theorem zmf{K mg ρ H}:∀{ds:List D}{vs:List V}{us:List Value},RepL K mg ρ H ds vs->Vals vs us->∀z∈us.zip (vs.zip ds),RelV z.2.1 z.1/\Rep K mg ρ H z.2.2 z.2.1
 | [],_,_,r,q,z,hz=>by unfold RepL at r;subst r;cases q;cases hz
 | d::ds,_,_,r,q,z,hz=>by
   unfold RepL at r;obtain⟨v,vs,rfl,r1,r2⟩:=r;cases q with
   | cons q1 q2=>
     rcases z51.mp hz with rfl | hz
     · exact⟨q1,r1⟩
     · exact zmf r2 q2 z hz
theorem zjg{α:Type}{f:α->V}{g:α->Value}:∀{l:List α},(∀z∈l,RelV (f z) (g z))->Vals (l.map f) (l.map g)
 | [],_=>.nil
 |z::l,h=>.cons (h z z5x) (zjg fun y hy=>h y (z5n _ hy))
theorem zjr{K mg ρ H}{α:Type}{f:α->D}{g:α->V}:∀{l:List α},(∀z∈l,Rep K mg ρ H (f z) (g z))->RepL K mg ρ H (l.map f) (l.map g)
 | [],_=>RepL.nil
 |z::l,h=>RepL.cons (h z z5x) (zjr fun y hy=>h y (z5n _ hy))
theorem zi8:bootBuiltins "sorted"=some (.builtin "sorted"):=by with_unfolding_all rfl
section
variable {X:Cx}{k j:Nat}{y:Str}{g:G}{f:E}{t:LT}{cl:zLA}{is:List Nat}{e le:Expr}{p pos kp:Pos}
theorem zrp(cal:CCal X.prog X.w X.K X.mg X.base k t g)(C:CapsOk X t cl is)(hr:Room (k+2) X.A)(he:FE X e f)(hl:PE X le (z0z X.K X.mg j y t cl))(hm:X.mg "sorted"=none)(hg:Gl X "sorted":=by rfl)
   (hs:starEach [e] X.env=(false,eval e X.env)::starEach [] X.env:=by exact z8 rfl):FE X (.Call (.Name "sorted" p) [e] [⟨some "key",le,kp⟩] pos) (zho f g j y t is):=by
 intro pins s σ H Q I h;obtain⟨ρ,ev,S,d,S',hE,hS,hf,kk⟩:=h;unfold zho at hf;obtain⟨⟨x,S1⟩,q1,hf1⟩:=zy hf;clear hf;obtain⟨ds,q2,hf0⟩:=zy hf1;clear hf1;dsimp only at hf0;split at hf0
 · rename_i y' u hj;split at hf0
   · rename_i hyu;obtain⟨rfl,rfl,hlen⟩:=hyu;obtain⟨kv,q3,hf⟩:=zy hf0;obtain⟨⟨kd,S2⟩,q4,hf⟩:=zy hf;obtain⟨r,q5,hf⟩:=zah hf;cases hf;refine z6y (zcq I hg hm zi8 ?_ (by decide) (by decide));have hb0:backTo pos (starEach [e] X.env)=(false,eval e X.env)::backTo pos (starEach [] X.env):=by rw[hs];rfl
     refine callWith_kw ?_ hb0 (by rw[hb0];rfl);refine thn (zb he zd hs pos pins s σ H (fun vs H1=>∃ρ1 v,vs=[v]/\Ext ρ H ρ1 H1/\StOk X.K X.mg ρ1 H1 S1/\Rep X.K X.mg ρ1 H1 x v) I ⟨ρ,ev,S,[x],S1,hE,hS,by unfold aC;rw[q1];rfl,fun vs ρ1 H1 E1 hS1 r1=>?_⟩) fun us s1 ⟨vs,H1,I1,rv,ρ1,v,ev1,E1,hS1,r1⟩=>?_
     · unfold RepL at r1;obtain⟨v,r',rfl,h1,h2⟩:=r1;unfold RepL at h2;subst h2;exact⟨ρ1,v,rfl,E1,hS1,h1⟩
     · subst ev1;cases rv with
       | @cons _ uu _ _ rv0 rv1=>
         cases rv1;refine kws_cons (thn (hl pins s1 σ H1 (fun v H2=>∃a c pm ct,v=.ref a/\Ext ρ1 H1 ρ1 H2/\StOk X.K X.mg ρ1 H2 S1/\a∉ρ1/\c∉ρ1/\H2 a=some (.ext (zh9 t cl a c pm ct))/\H2 c=some (.ext (yq c t.qual))) I1 ⟨ρ1,S1,hS1,hj,fun a c pm ct H' E' hS' na nc h1 h2=>⟨a,c,pm,ct,rfl,E',hS',na,nc,h1,h2⟩⟩) fun kfv s2 ⟨vk,H2,I2,rk,a,c,pm,ct,ek,E2,hS2,na,nc,hA,hC⟩=>kws_nil ?_);subst ek;obtain rfl:kfv=Value.ref a:=rk;show wpAny _ _ (call (.builtin "sorted") [uu] [(("key":Str),.ref a)]) _ _ _;obtain⟨l,vs,ev2,sq,rl⟩:=zxn hS2 (r1.mono E2) q2;subst ev2;obtain rfl:uu=Value.ref l:=rv0;obtain⟨its,rvs,pl,hz⟩:=I2.list sq;have l1:vs.length=its.length:=rvs.length;have l2:ds.length=vs.length:=rl.length;refine Srt.sorted_key pl.isList rfl (by omega) fun e1 he1=>?_;have szc:(Srt.colHeap s2.heap its).objs.size+1=s2.heap.objs.size+3:=by rw[Srt.col_size]
         have keep:∀b o,s2.heap.get? b=some o->(Srt.askHeap (Srt.colHeap s2.heap its) (s2.heap.objs.size+1) its).get? b=some o:=fun b o e=>zse (z53 (z8s (z50 e))) (zrz e);have gks:(Srt.askHeap (Srt.colHeap s2.heap its) (s2.heap.objs.size+1) its).get? (s2.heap.objs.size+3)=some (seqObj "list" ([]:List Value).toArray 0):=by rw[<-szc];exact zpu
         have I3:Inv X pins σ H2 { s2 with heap:=Srt.askHeap (Srt.colHeap s2.heap its) (s2.heap.objs.size+1) its }:=I2.kept (t':=s2.toks) keep;have fr:∀n,H2 (s2.heap.objs.size+n)=none:=fun n=>I2.hok.fresh (z54 _ _);have nl:∀n,s2.heap.objs.size+n≠X.env.locals:=fun n z=>absurd I2.lt (by rw[<-z];exact z79.mpr (z54 _ _));have ncell:∀n x c,X.env.cells.lookup x=some c->c≠s2.heap.objs.size+n:=fun n x c e z=>by obtain⟨v,o,ho,_⟩:=I2.cell x c e;have:=z50 ho;rw[z]at this;exact absurd this (z79.mpr (z54 _ _))
         have npin:∀n,∀p∈X.pn++pins,p.1≠s2.heap.objs.size+n:=fun n p hp z=>by have:=z50 (I2.pin p hp).1;rw[z]at this;exact absurd this (z79.mpr (z54 _ _))
         have I4:Inv X (pins++[(s2.heap.objs.size+1,seqObj "list" #[] e1)]) σ H2 { s2 with heap:=Srt.askHeap (Srt.colHeap s2.heap its) (s2.heap.objs.size+1) its }:=I3.pins_of fun p hp=>by
           rcases z6e.mp hp with q | q
           · exact I3.pin p (z5y _ q)
           · rw[z55.mp q];exact⟨he1,fr 1,nl 1,I2.nofs (z54 _ _),fun v e=>by cases e⟩
         rw[zfz];refine zhe cal C hr.in1.in1 q3 (nl 3) (.inr (z57 I2.sz (z54 _ _))) (ncell 3) (fun p hp=>?_) (I2.nofs (z54 _ _)) _ ds its vs kd [] [] [] 0 _ H2 ρ1 S1 S2 ((hE.mono E1).mono E2) hS2 rl rvs RepL.nil .nil na nc hA hC q4 I4 gks (fr 3) (by simp;omega) fun keysV keys m s5 H5 ρ5 E5 hS5 rk vk lk I5 gk nk=>?_
         · rw[<-z8t]at hp;rcases z6e.mp hp with q | q
           · exact npin 3 p q
           · rw[z55.mp q];show s2.heap.objs.size+1≠s2.heap.objs.size+3;omega
         · obtain⟨ga,na5,_⟩:=I5.pin (s2.heap.objs.size+1,seqObj "list" #[] e1) (z5y _ (z5y _ (z55.mpr rfl)));rw[List.nil_append]at rk;have lk:keys.length=its.length:=by simpa using lk
           unfold zmw at q5;split at q5
           · rename_i hc;cases q5;obtain⟨hn4,hkn,hpw⟩:=hc;obtain⟨sh,em⟩:=zsu I5 hn4 rk vk hkn;have hU:∀x:Keyed,x∈keys.zip its->zfh s5.heap (kn kd) x.1 (zc2 s5.heap x.1):=fun x hx=>sh _ (z7l (a:=x.1) (b:=x.2) hx).1;obtain⟨kdd,hcmp,hkk⟩:=zm1 (prog:=X.prog) (w:=X.w) (A:=X.A.in1.in1) (E:=X.xe) (U:=fun x=>x∈keys.zip its) (kc:=fun x=>zc2 s5.heap x.1) hn4 hU;have pwk:(keys.zip its).Pairwise (fun x y=>zc2 s5.heap x.1≠zc2 s5.heap y.1):=by
               rw[<-em,z8r]at hpw;have:((keys.zip its).map (·.1)).Pairwise (fun a b=>zc2 s5.heap a≠zc2 s5.heap b):=by rw[List.map_fst_zip (by omega)];exact hpw
               rw[z8r]at this;exact this
             refine⟨keys,m,kdd,fun x=>x∈keys.zip its,fun x=>zc2 s5.heap x.1,gk,ga,lk,fun h2=>hkk keys (by omega) fun v hv=>⟨_,sh v hv⟩,hcmp,fun x hx=>hx,pwk,fun out ho hs _=>?_⟩;have eo:=zid (c:=fun x:Keyed=>zc2 s5.heap x.1) ho hs pwk;have m1:=zbf (c:=fun z:Value×Value×V×D=>zc2 s5.heap z.1) (c':=fun x:Keyed=>zc2 s5.heap x.1) (fun z=>(z.1,z.2.1)) (fun _=>rfl) (keys.zip (its.zip (vs.zip ds)));have m2:=zbf (c:=fun z:Value×Value×V×D=>zc2 s5.heap z.1) (c':=fun p:List Int×D=>p.1) (fun z=>(zc2 s5.heap z.1,z.2.2.2)) (fun _=>rfl) (keys.zip (its.zip (vs.zip ds)));rw[zw4 keys its vs ds lk l1.symm l2.symm]at m1;rw[zw3 (zc2 s5.heap) keys its vs ds lk l1.symm l2.symm,em]at m2;rw[m1]at eo;have zr:∀z∈xc (fun z:Value×Value×V×D=>zc2 s5.heap z.1) (keys.zip (its.zip (vs.zip ds))),RelV z.2.2.1 z.2.1/\Rep X.K X.mg ρ5 H5 z.2.2.2 z.2.2.1:=fun z hz=>
               zmf (rl.mono E5) rvs z.2 (z7l (a:=z.1) (b:=z.2) ((xi _).mem_iff.mp hz)).2
             have e2:out.map (·.2)=(xc (fun z:Value×Value×V×D=>zc2 s5.heap z.1) (keys.zip (its.zip (vs.zip ds)))).map (fun z=>z.2.1):=by rw[eo,z8b];rfl
             have e3:(xc (fun p:List Int×D=>p.1) ((kd.map zf0).zip ds)).map (·.2)=(xc (fun z:Value×Value×V×D=>zc2 s5.heap z.1) (keys.zip (its.zip (vs.zip ds)))).map (fun z=>z.2.2.2):=by rw[m2,z8b];rfl
             have rvals:Vals ((xc (fun z:Value×Value×V×D=>zc2 s5.heap z.1) (keys.zip (its.zip (vs.zip ds)))).map (fun z=>z.2.2.1)) (out.map (·.2)):=by rw[e2];exact zjg fun z hz=>(zr z hz).1
             have rreps:RepL X.K X.mg ρ5 H5 ((xc (fun p:List Int×D=>p.1) ((kd.map zf0).zip ds)).map (·.2)) ((xc (fun z:Value×Value×V×D=>zc2 s5.heap z.1) (keys.zip (its.zip (vs.zip ds)))).map (fun z=>z.2.2.1)):=by rw[e3];exact zjr fun z hz=>(zr z hz).2
             have lo:(out.map (·.2)).length=its.length:=by rw[z7k,ho.length_eq,List.length_zip,lk,Nat.min_self]
             have szl:((xc (fun z:Value×Value×V×D=>zc2 s5.heap z.1) (keys.zip (its.zip (vs.zip ds)))).map (fun z=>z.2.2.1)).length<=sizeLine:=by rw[rvals.length,lo];omega
             have I6:=I5.turned (t':=s5.toks) (it:=s2.heap.objs.size+3) (h':=s5.heap.update (s2.heap.objs.size+3) (Obj.mapSeq fun _=>#[])) (fun b o nb e=>by rw[z7i _ _ _ _ nb];exact e) nk (nl 3) (.inr (z57 I2.sz (z54 _ _))) (ncell 3) (fun p hp=>by
               rw[<-z8t]at hp;rcases z6e.mp hp with q | q
               · exact npin 3 p q
               · rw[z55.mp q];show s2.heap.objs.size+1≠s2.heap.objs.size+3;omega)
             have ga6:(s5.heap.update (s2.heap.objs.size+3) (Obj.mapSeq fun _=>#[])).get? (s2.heap.objs.size+1)=some (seqObj "list" #[] e1):=by rw[z7i _ _ _ _ (z53 (z8d (by decide) _))];exact ga
             have I7:=(Inv.unpinned I6).turned (t':=s5.toks) (it:=s2.heap.objs.size+1) (h':=(s5.heap.update (s2.heap.objs.size+3) (Obj.mapSeq fun _=>#[])).update (s2.heap.objs.size+1) (Obj.mapSeq fun _=>(out.map (·.2)).toArray)) (fun b o nb e=>by rw[z7i _ _ _ _ nb];exact e) na5 (nl 1) (.inr (z57 I2.sz (z54 _ _))) (ncell 1) (npin 1);have ga7:=get?_update_seq ga6 (fun _=>(out.map (·.2)).toArray);have I8:=Inv.track I7 na5 ga7 rvals szl (.inr (z57 I2.sz (z54 _ _))) (nl 1) (ncell 1) (npin 1);exact⟨.ref (s2.heap.objs.size+1),_,I8,rfl,kk _ ρ5 _ (((E1.trans E2).trans E5).trans (jo hS5 _ na5)) (hS5.new _ na5) (Rep.lst (s:=hS5) na5 rreps)⟩
           · cases q5
   · cases hf0
 · cases hf0
end
end F
namespace F
open PySem L2 PySem.Spec PySem.Calls PyProof.Rows PySem.W
def isInt:D->Bool
 | .int _=>true
 |_=>false
def zfg(kv:List D):Bool:=kv.all isInt
def CellI(h:Heap):zLA->List D->Prop
 | [],[]=>True
 |p::cl,d::kv=>(∃(o:Obj) (n:Int) (tk:Tok),d=.int n/\h.get? p.2=some o/\o.data=.cell (some (.int n tk)))/\CellI h cl kv
 |_,_=>False
structure ForC (X:Cx) (t:LT) (cl:zLA) (kv:List D):Prop where
 names:cl.map (·.1)=t.caps
 nd:(cl.map (·.2)).Nodup
 vals:CellI X.s₀.heap cl kv
 hn:∀b∈cl.map (·.2),X.H₀ b=none
 nex:∀b∈cl.map (·.2),b∉X.ex
 nfs:∀b∈cl.map (·.2),b∉X.fs
 nst:∀b∈cl.map (·.2),b∉frs X.stack
 nb:∀b∈cl.map (·.2),X.base.get? b=none
theorem CellI.at_{h:Heap}:∀{cl:zLA}{kv:List D},CellI h cl kv->∀b∈cl.map (·.2),∃o n tk,h.get? b=some o/\o.data=.cell (some (.int n tk))
 | [],[],_,b,hb=>by cases hb
 | p::cl,d::kv,q,b,hb=>by
   rw[z5v]at hb;rcases z51.mp hb with rfl | hb
   · obtain⟨⟨o,n,tk,_,h1,h2⟩,_⟩:=q;exact⟨o,n,tk,h1,h2⟩
   · exact CellI.at_ q.2 b hb
 | [],_::_,q,_,_=>q.elim
 |_::_,[],q,_,_=>q.elim
section
variable {X:Cx}{pins:zAO}{σ:L2.St}{H:Hp}{s:Shared}{t:LT}{cl:zLA}{is:List Nat}{kv:List D}{ρ:List Addr}{ev:Ev}{S:Sto}
theorem zkr(C:CapsOk X t cl is)(I:Inv X pins σ H s)(hE:EnvR X.K X.mg ρ H ev σ) :
   ∀(cl':zLA) (js:List Nat) (vs:List D),(∀p∈cl',p∈cl)->js.map (fun i=>X.N[i]?)=cl'.map (fun p=>some p.1)->zat ev js=some vs->zfg vs=true->CellI s.heap cl' vs
 | [],[],vs,_,_,h,_=>by cases h;trivial
 | [],_::_,_,_,e,_,_=>by cases e
 |_::_,[],_,_,e,_,_=>by cases e
 | p::cl',i::js,vs,hm,e,h,hi=>by
   rw[z5v,z5v]at e;obtain⟨e1,e2⟩:=z99 e;unfold zat at h;split at h
   · rename_i d hd;obtain⟨vs',hv,h⟩:=zah h;subst h;unfold zfg at hi;rw[List.all_cons,z6g]at hi;obtain⟨v,hσ,rd⟩:=hE.at_ i d hd;obtain⟨m,hns,hl⟩:=I.loc;have hp:=hm p z5x;have hpm:p.1∈t.caps:=C.names▸z6o hp;have kd:=C.kind _ hpm;obtain⟨u,ru,lk⟩:=hl i p.1 v e1 hσ (.inr (.inl kd));refine⟨?_,zkr C I hE cl' js vs' (fun q hq=>hm q (z5n _ hq)) e2 hv hi.2⟩;rcases lk with⟨k1,_⟩ | ⟨_,c,z1,o,z2,z3⟩
     · have:X.env.scope.names.lookup p.1=some .local:=k1;rw[kd]at this;cases this
     · rw[C.look p hp]at z1;cases z1;cases d with
       | int n=>
         unfold Rep at rd;subst rd;obtain⟨tk,rfl⟩:=ru;exact⟨o,n,tk,rfl,z2,z3⟩
       |_=>exact absurd hi.1 z6q
   · cases h
theorem zv2{scope:Scope}{x:Str}{N':List Str}{C:Addr}{fp:List Addr}(CO:CapsOk X t cl is)(hint:zfg kv=true)(I:Inv X pins σ H s)(hE:EnvR X.K X.mg ρ H ev σ)(hkv:zat ev is=some kv)(f2:∀b∈fp,zma X pins H b):ForC (ji X (x::N') scope s H C fp) t cl kv :=
 ⟨CO.names,CO.nodup I,zkr CO I hE cl is kv (fun _ h=>h) (by rw[CO.at_,<-CO.names,z8b];rfl) hkv hint,CO.hn I,fun b hb z=>by
   obtain⟨p,hp,rfl⟩:=z7o.mp hb;exact(f2 _ z).2.2.2.2.1 p.1 p.2 (CO.look p hp) rfl,CO.nst I,CO.nst I,CO.nb I⟩
theorem zhu{h:Heap}:∀{cl:zLA}{kv:List D}{cl0:zLA},CellI h cl kv->(∀p∈cl,p∈cl0)->(∀b∈cl0.map (·.2),H b=none)->StOk X.K X.mg ρ H S->∃us,Cells ρ (trk H h cl0) (cl.map (·.1)) us cl/\RepL X.K X.mg ρ H kv us
 | [],[],_,_,_,_,_=>⟨[],trivial,RepL.nil⟩
 | p::cl,d::kv,cl0,q,hm,hn,hS=>by obtain⟨⟨o,n,tk,rfl,h1,h2⟩,q2⟩:=q;obtain⟨us,c1,r1⟩:=zhu q2 (fun z hz=>hm z (z5n _ hz)) hn hS;have hb:p.2∈cl0.map (·.2):=z6o (hm p z5x);exact⟨.int n::us,⟨rfl,hS.fresh (hn _ hb),⟨o,.int n tk,by unfold trk;rw[zbm hb,h1];rfl,h2,⟨tk,rfl⟩⟩,c1⟩,RepL.cons rfl r1⟩
 | [],_::_,_,q,_,_,_=>q.elim
 |_::_,[],_,q,_,_,_=>q.elim
end
open Classical in
def zpc(is:List Nat)(kv:List D)(f:E):E:=fun ev S=>if zat ev is=some kv then f ev S else none
theorem zfd{is:List Nat}{kv:List D}{f:E}{ev:Ev}{S:Sto}{r:D×Sto}(h:zpc is kv f ev S=some r):zat ev is=some kv/\f ev S=some r:=by
 unfold zpc at h;split at h
 · rename_i e;exact⟨e,h⟩
 · cases h
theorem zrx{is:List Nat}{kv:List D}{f:E}{ev:Ev}{S:Sto}(h:zat ev is=some kv):zpc is kv f ev S=f ev S:=by unfold zpc;rw[z6a h]
def zls(is:List Nat)(F:List D->E):E:=fun ev S=>(zat ev is).bind fun kv=>if zfg kv=true then F kv ev S else none
section
variable {X:Cx}{is:List Nat}{F:List D->E}{e:Expr}{st:Stmt}{iy:Nat}
theorem zv0(h:∀kv,zfg kv=true->FS X st (qo iy (zpc is kv (F kv)))):FS X st (qo iy (zls is F)):=fun pins s σ H Q I h'=>by
 obtain⟨ρ,ev,S,o,S',hE,hS,hf,k⟩:=h';obtain⟨p,hf,h2⟩:=zah hf;obtain⟨kv,q,hf⟩:=zy hf;split at hf
 · rename_i hi;exact h kv hi pins s σ H Q I ⟨ρ,ev,S,o,S',hE,hS,by unfold qo;rw[zrx q,hf];exact z68 some h2,k⟩
 · cases hf
end
open Classical in
def zfe(g:G)(q:Nat)(t:LT)(cl:zLA)(kv:List D)(a:As):E:=fun ev S=>match ev[q]? with
 |some (some (.lam t'))=>if t'={ t with cl:=cl }then (a ev S).bind fun p=>if(noCL p.1&&noCL kv&&noCS p.2)=true/\p.1.length=t.params.args.length then (g (p.1++kv) p.2).bind fun r=>if(noC r.1&&noCS r.2)=true then some r else none else none else none
 |_=>none
section
variable {X:Cx}{k q:Nat}{x:Str}{g:G}{a:As}{t:LT}{cl:zLA}{kv:List D}{e:Expr}{es:List Expr}{p pos:Pos}
theorem zrs(cal:CCal X.prog X.w X.K X.mg X.base k t g)(fc:ForC X t cl kv)(hr:Room k X.A)(hf:FE X (.Name x p) (eV q))(ha:FA X (e::es) a)
   (ht:eval (.Call (.Name x p) (e::es) [] pos) X.env=(eval (.Name x p) X.env >>= fun v=>callWith pos v [] (backTo pos (starEach (e::es) X.env)) (backToKw pos (keywordEach [] X.env))):=by rfl)
   (he:starEach (e::es) X.env=(false,eval e X.env)::starEach es X.env:=by exact z8 rfl) (hpl:(backTo pos (starEach es X.env)).any (·.1)=false:=by exact qz rfl) :
   FE X (.Call (.Name x p) (e::es) [] pos) (zfe g q t cl kv a):=by
 intro pins s σ H Q I h;obtain⟨ρ,ev,S,d,S',hE,hS,hf',kk⟩:=h;unfold zfe at hf';split at hf'
 · rename_i t' hq;split at hf'
   · rename_i htt;subst htt;obtain⟨⟨ds,S2⟩,q2,hf'⟩:=zy hf';dsimp only at hf';split at hf'
     · rename_i hno;obtain⟨hno,hlen⟩:=hno;obtain⟨⟨d1,S3⟩,q3,hf'⟩:=zy hf';dsimp only at hf';split at hf'
       · rename_i hno';cases hf';rw[ht];refine z5m (thn (hf pins s σ H (fun v H1=>∃ρ1 a0,v=.ref a0/\Ext ρ H ρ1 H1/\StOk X.K X.mg ρ1 H1 S/\LamAt ρ1 H1 { t with cl:=cl } a0) I ⟨ρ,ev,S,.lam { t with cl:=cl },S,hE,hS,by simp[eV,hq],fun v ρ1 H1 E1 hS1 r1=>?_⟩) fun u s1 ⟨v,H1,I1,rv,ρ1,a0,ev1,E1,hS1,L1⟩=>?_)
         · unfold Rep at r1;obtain⟨b,rfl,L⟩:=r1;exact⟨ρ1,b,rfl,E1,hS1,L⟩
         · subst ev1;obtain rfl:u=Value.ref a0:=rv;obtain⟨n0,c,pm,ct,nc,hA,hC⟩:=L1;have hA:H1 a0=some (.ext (zh9 t cl a0 c pm ct)):=hA;have hC:H1 c=some (.ext (yq c t.qual)):=hC;have at_:∀{H':Hp}{s':Shared},Inv X pins σ H' s'->H' a0=some (.ext (zh9 t cl a0 c pm ct))->FnAt a0 s'.heap:=fun J e=>⟨_,_,_,_,(J.hok a0 _ e).1⟩
           refine callWith_F (at_ I1 hA) (thn (ha pos pins s1 σ H1 (fun vs H2=>∃ρ2,Ext ρ1 H1 ρ2 H2/\StOk X.K X.mg ρ2 H2 S2/\RepL X.K X.mg ρ2 H2 ds vs) I1 ⟨ρ1,ev,S,ds,S2,hE.mono E1,hS1,q2,fun vs ρ2 H2 E2 hS2 r2=>⟨ρ2,E2,hS2,r2⟩⟩) fun us s2 ⟨vs,H2,I2,r,ρ2,E2,hS2,r2⟩=>⟨at_ I2 (E2.keep _ _ hA n0),?_⟩) he hpl;have cb:∀b∈cl.map (·.2),∃o n tk,s2.heap.get? b=some o/\o.data=.cell (some (.int n tk))/\H2 b=none:=fun b hb=>by obtain⟨o,n,tk,z1,z2⟩:=fc.vals.at_ b hb;exact⟨o,n,tk,I2.base.keep b o z1 (fc.hn b hb) (fc.nfs b hb) (fc.nex b hb),z2,I2.base.free b o z1 (fc.hn b hb) (fc.nex b hb)⟩
           have ci2:∀{cl':zLA}{kv':List D},(∀p∈cl',p∈cl)->CellI X.s₀.heap cl' kv'->CellI s2.heap cl' kv':=fun {cl'}=>by
             induction cl' with
             | nil=>
               intro kv' _ h;cases kv' with
               |nil=>trivial
               |cons _ _=>exact h.elim
             | cons p cl' ih=>
               intro kv' hm h;cases kv' with
               |nil=>exact h.elim
               | cons d kv'=>
                 obtain⟨⟨o,n,tk,z0,z1,z2⟩,z3⟩:=h;have hb:p.2∈cl.map (·.2):=z6o (hm p z5x);exact⟨⟨o,n,tk,z0,I2.base.keep p.2 o z1 (fc.hn _ hb) (fc.nfs _ hb) (fc.nex _ hb),z2⟩,ih (fun z hz=>hm z (z5n _ hz)) z3⟩
           have hn2:∀b∈cl.map (·.2),H2 b=none:=fun b hb=>let⟨_,_,_,_,_,z⟩:=cb b hb;z;obtain⟨cs,hcs,rk⟩:=zhu (X:=X) (cl0:=cl) (ci2 (fun _ h=>h) fc.vals) (fun _ h=>h) hn2 hS2;rw[fc.names]at hcs;exact zko (A:=X.A) cal hn2 (fun b hb=>let⟨o,n,tk,z1,z2,_⟩:=cb b hb;⟨o,_,z1,z2⟩) fc.nd fc.nst fc.nb hcs rk hr (fun e=>e) I2 hS2 (E2.out hA n0) (E2.out hC nc) (E2.keep _ _ hA n0) (E2.keep _ _ hC nc) r2 r hlen hno q3 hno' fun v ρ' H' E' hS' r'=>kk v ρ' H' ((E1.trans E2).trans E') hS' r'
       · cases hf'
     · cases hf'
   · cases hf'
 · cases hf'
end
end F
namespace F
open PySem L2 PySem.Spec PyProof.Rows
def RA(X:Cx)(es:List Expr)(r:R):Prop:=∀(pos:Pos) (pins:zAO) (s:Shared) (σ:L2.St) (H:Hp) (E:XK) (Q:List Value->Shared->Prop),XE X pins σ E->Inv X pins σ H s->tR X.K X.mg r σ H E->wpAny (model X.prog X.w) X.A (spliced (backTo pos (starEach es X.env))) Q X.xe s
def zk9(f:E)(r:R):R:=fun ev S=>(f ev S).bind fun p=>r ev p.2
section
variable {X:Cx}{k:Nat}{x:Str}{g:G}{e:Expr}{es:List Expr}{f:E}{r:R}{p pos:Pos}
theorem zus(he:RE X e r)(hst:starEach (e::es) X.env=(false,eval e X.env)::starEach es X.env:=by exact z8 rfl):RA X (e::es) r:=by intro pos pins s σ H E Q hx I t;rw[hst];show wpAny _ _ (spliced ((false,eval e X.env)::backTo pos (starEach es X.env))) _ _ s;exact z9y (he pins s σ H E _ hx I t)
theorem znc(he:FE X e f)(hr:RA X es r)(hst:starEach (e::es) X.env=(false,eval e X.env)::starEach es X.env:=by exact z8 rfl):RA X (e::es) (zk9 f r):=by intro pos pins s σ H E Q hx I t;rw[hst];show wpAny _ _ (spliced ((false,eval e X.env)::backTo pos (starEach es X.env))) _ _ s;obtain⟨ρ,ev,S,c,S',hE,hS,hf,C,hC,kk⟩:=t;obtain⟨⟨y,S1⟩,q1,hf⟩:=zy hf;exact z9y (thn (he pins s σ H (fun v H1=>tR X.K X.mg r σ H1 E) I ⟨ρ,ev,S,y,S1,hE,hS,q1,fun v ρ1 H1 E1 hS1 r1=>⟨ρ1,ev,S1,c,S',hE.mono E1,hS1,hf,C,hC,fun e ρ' H' E' hS'=>kk e ρ' H' (E1.trans E') hS'⟩⟩) fun v s1 ⟨_,H1,I1,_,t1⟩=>hr pos pins s1 σ H1 E _ hx I1 t1)
theorem zqr(cal:Cal X.prog X.w X.K X.mg X.base k x g)(hr:RA X (e::es) r)(hg:Gl X x:=by rfl)(hdb:(x==("__debug__":Str))=false:=by decide)
   (he:starEach (e::es) X.env=(false,eval e X.env)::starEach es X.env:=by exact z8 rfl) (hpl:(backTo pos (starEach es X.env)).any (·.1)=false:=by exact qz rfl) :
   RE X (.Call (.Name x p) (e::es) [] pos) r:=by
 obtain⟨f,fd,ps,ds,dvs,dds,gg,F,hm,hk,hb,hd,hdd,hgg⟩:=cal.ex;intro pins s σ H E Q hx I t;refine z6y (za0 I hg hm ?_ hdb);exact z7q (h₀:=X.base) I.ok.mod.kin hk (hr pos pins s σ H E _ hx I t) he hpl
end
end F
namespace F
open PySem L2 PySem.Spec PySem.Calls PyProof.Rows PySem.W
abbrev Src:=Ev->Sto->Option ((List D×Option Nat)×Sto)
def okG(us:List D):Option Nat->Sto->Prop
 |none,_=>True
 |some a,S=>S[a]? = some (.lst us)
def zbu(us:List D)(o:Option Nat)(c:B)(g:E)(fr:Ev):List D->Sto->Option (List D×Sto):=match o with
 |none=>zlw c g fr
 |some a=>yz a us c g fr
section
variable {us:List D}{o:Option Nat}{c:B}{g:E}{fr:Ev}
theorem zry{ds:List D}{S:Sto}{r:List D×Sto}(h:zbu us o c g fr ds S=some r):okG us o S:=by
 cases o with
 |none=>trivial
 |some a=>exact zpg h
theorem zpf{S:Sto}(h:okG us o S):zbu us o c g fr [] S=some ([],S):=by
 cases o with
 |none=>rfl
 |some a=>exact zff (c:=c) (g:=g) (fr:=fr) h
theorem zlv{d:D}{ds:List D}{S:Sto}(h:okG us o S):zbu us o c g fr (d::ds) S=(c (some d::fr) S).bind fun p=>if p.1=true then (g (some d::fr) p.2).bind fun q=>(zbu us o c g fr ds q.2).bind fun r=>some (q.1::r.1,r.2)else zbu us o c g fr ds p.2:=by
 cases o with
 |none=>rfl
 |some a=>exact zef h
end
def zsh(K:Frag)(mg:zMg)(J:It)(us:List D)(o:Option Nat)(ρ1:List Addr)(H1:Hp):Prop:=∀ρ' H' S',Ext ρ1 H1 ρ' H'->StOk K mg ρ' H' S'->okG us o S' ->
 (∀i d,us[i]? = some d->J.go i H'/\∀xv H5,J.yld i H' xv H5->H5=H'/\Rep K mg ρ' H' d xv)/\∀i,us.length<=i->J.stop i H'
def wiS(X:Cx)(f:Src):TI:=fun σ H R=>∃ρ ev S us o S1,EnvR X.K X.mg ρ H ev σ/\StOk X.K X.mg ρ H S/\f ev S=some ((us,o),S1)/\∀J ρ1 H1,Ext ρ H ρ1 H1->StOk X.K X.mg ρ1 H1 S1->zsh X.K X.mg J us o ρ1 H1->(∀pins σ s,Inv X pins σ H1 s->us.length<=sizeLine)->R J H1
def zt4(X:Cx)(tg l:Expr)(f:Src):Prop:=PI X tg l (wiS X f)
def z0x(X X':Cx)(us:List D)(o:Option Nat)(cn:B)(g:E)(fre:Ev)(t:L2.St)(fp:List Addr)(tn:Nat->Heap->Prop)(Dl:Addr)(ρ1:List Addr)(H2:Hp)(ds:List D)(Sf:Sto)(m:Nat)(st:Shared):Prop :=
 ∃(i:Nat) (ρ':List Addr) (H':Hp) (ys:List V) (its:List Value) (acc rest:List D) (Si:Sto) (w:Option V),m=us.length-i/\i<=us.length/\Inv X' [] (w::t) H' st/\tn i st.heap/\(∀b∈fp,H' b=none)/\H' Dl=none/\st.heap.PlainList Dl (List.toArray its)/\Vals ys its /\
   Ext ρ1 H2 ρ' H'/\StOk X.K X.mg ρ' H' Si/\RepL X.K X.mg ρ' H' acc ys/\acc.length<=i/\zbu us o cn g fre (us.drop i) Si=some (rest,Sf)/\ds=acc++rest
section
variable {X:Cx}{pins:zAO}{σ:L2.St}{H H2:Hp}{s s2:Shared}{scope:Scope}{x:Str}{N':List Str}{fr:List Nat}{fp:List Addr}{ρ ρ1:List Addr}{ds us:List D}{S S1 S2:Sto}{o:Option Nat}
def Fin(X:Cx)(s2:Shared)(H2:Hp)(fp:List Addr)(ρ1:List Addr)(ds:List D)(S2:Sto)(use:Option (Value->Sem Unit))(Q:zVP):Prop :=
 ∀(Dl C:Addr) (s4:Shared) (H':Hp) (ρ':List Addr) (mm:zMg) (ys:List V) (its:List Value) (nn:Nat),s2.heap.objs.size<=Dl->Dl<=C->Dl≠C->s4.heap.Ns C mm->H' C=none->Un (frs X.stack) fp H2 H' s2.heap s4.heap->HOk X.prog X.w H' s4.heap->s4.os=s2.os->AllBare s4.gens ->
   s4.heap.get? Dl=some { cls:=.type "list",data:=.seq (List.toArray its) nn }->H' Dl=none->Vals ys its->RepL X.K X.mg ρ' H' ds ys->ys.length<=sizeLine->Ext ρ1 H2 ρ' H'->StOk X.K X.mg ρ' H' S2->compPost (model X.prog X.w) X.A X.xe use Q (.ref Dl) C (.ok .next) s4
theorem zhs{elt l:Expr}{ifs:List Expr}{px pos:Pos}{g:E}{cn:B}{ev:Ev}{J:It}{it:Addr}{tn:Nat->Heap->Prop}{use:Option (Value->Sem Unit)}{Q:zVP}(c:CompOk X scope x N' fr)(hc:X.calm=true)
   (hif:∀C,FT (ji X (x::N') scope s2 H2 C fp) ifs cn) (helt:∀C,FE (ji X (x::N') scope s2 H2 C fp) elt g)
   (I2:Inv X pins σ H2 s2) (T:Turn X.prog X.w X.K (.Name x px) J fp it tn) (st2:tn 0 s2.heap) (f2:∀b∈fp,zma X pins H2 b) (hE1:EnvR X.K X.mg ρ1 H2 ev σ) (hS1:StOk X.K X.mg ρ1 H2 S1) (src:zsh X.K X.mg J us o ρ1 H2) (hz0:us.length<=sizeLine)
   (q2:zbu us o cn g (fr.map (zh7 ev)) us S1=some (ds,S2)) (fin:Fin X s2 H2 fp ρ1 ds S2 use Q) :
   wpAny (model X.prog X.w) X.A (newList []) (fun acc s₃=>wpAny (model X.prog X.w) X.A (newFunctionEnv scope X.env.globals (zht X.env.cells scope.names []) [] X.env.qual none .none (some X.env)) (fun cenv s₄=>
       codeAny (model X.prog X.w) X.A (.compStart (.ListComp elt [⟨.Name x px,l,ifs,0⟩] scope pos) 0 (.ref it) acc { cenv with scope:=relabel scope X.env }) (compPost (model X.prog X.w) X.A X.xe use Q acc cenv.locals) s₄) X.xe s₃) X.xe s2:=by
 have hcell:∀y∈scope.names,y.2≠.cell:=fun y hy=>(c.chk y hy).1;refine z8m (wpAny_newFunctionEnv hcell (by intro y hy;simp at hy) (fun h₁ hns₁ hsb₁=>?_) c.kind);dsimp only at hns₁ hsb₁ ⊢;generalize hH2:s2.heap.push { cls:=.type "list",dict:=none,data:=.seq ([]:List Value).toArray }=G2 at hns₁ hsb₁ ⊢;have hC:G2.objs.size=s2.heap.objs.size+1:=by rw[<-hH2,z93]
 have hDC:s2.heap.objs.size≠G2.objs.size:=by rw[hC];exact z53 (z9m _)
 have hCle:s2.heap.objs.size<=G2.objs.size:=by rw[hC];exact z9f _
 have old:∀b o,s2.heap.get? b=some o->h₁.get? b=some o:=fun b o e=>hsb₁.extBut b o (by rw[hC];exact z53 (z8s (z50 e))) (z5p _ (hH2▸z5p _ e));have hacc:h₁.PlainList s2.heap.objs.size #[]:=⟨_,hsb₁.extBut _ _ hDC (z5p _ (hH2▸z6c _ rfl))⟩
 generalize hDl:s2.heap.objs.size=Dl at hDC hCle hacc;generalize hCC:G2.objs.size=C at hDC hCle hns₁ hsb₁ hC ⊢;have hfl:∀b∈fp,b<Dl:=fun b hb=>by obtain⟨o,e,_⟩:=T.obj 0 _ st2 b hb;rw[<-hDl];exact z50 e
 have hHD:H2 Dl=none:=I2.hok.fresh (by rw[hDl];exact z5o _);have hDfs:Dl∉frs X.stack:=fun z=>by
   have z':=I2.stkFree Dl z;rcases z51.mp (I2.stkSub Dl z)with e | e
   · have:=I2.lt;rw[hDl,<-e]at this;exact z7a _ this
   · exact I2.nofs (by rw[hDl];exact z5o _) e
 generalize hX':ji X (x::N') scope s2 H2 C fp=X';have I3:Inv X' [] (none::fr.map (zgu σ)) H2 { s2 with heap:=h₁,toks:=s2.toks+([]:List (Str×Value)).length }:=hX'▸c.start I2 f2 (by rw[hDl];exact hfl) (by rw[hDl];exact hCle) old hns₁;have hEf:EnvR X.K X.mg ρ1 H2 (none::fr.map (zh7 ev)) (none::fr.map (zgu σ)):=by
   refine⟨by simp,fun i d q=>?_⟩;cases i with
   |zero=>simp at q
   | succ i=>
     have q:(fr.map (zh7 ev))[i]? = some (some d):=by simpa using q
     rw[z6w]at q;cases ej:fr[i]? with
     |none=>rw[ej]at q;cases q
     | some jj=>
       rw[ej]at q;have q:zh7 ev jj=some d:=by simpa using q
       have hv:ev[jj]? = some (some d):=by
         unfold zh7 at q;split at q
         · rename_i o ho;rw[ho,q]
         · cases q
       obtain⟨v,e1,r⟩:=hE1.at_ jj d hv;refine⟨v,?_,r⟩;show(fr.map (zgu σ))[i]? = some (some v);rw[z6w,ej];show some (zgu σ jj)=_;unfold zgu;rw[e1]
 have eA:X'.A=X.A:=by rw[<-hX'];rfl
 have eP:X'.prog=X.prog:=by rw[<-hX'];rfl
 have eW:X'.w=X.w:=by rw[<-hX'];rfl
 have eK:X'.K=X.K:=by rw[<-hX'];rfl
 have eM:X'.mg=X.mg:=by rw[<-hX'];rfl
 have eEx:X'.ex=fp:=by rw[<-hX'];rfl
 have eS0:X'.s₀=s2:=by rw[<-hX'];rfl
 have eH0:X'.H₀=H2:=by rw[<-hX'];rfl
 have eFs:X'.fs=frs X.stack:=by rw[<-hX'];rfl
 have eL:X'.env.locals=C:=by rw[<-hX'];rfl
 have ePn:X'.pn=[]:=by rw[<-hX'];rfl
 have eEnv:X'.env=compEnvC scope (zht X.env.cells scope.names []) C X.env:=by rw[<-hX'];rfl
 have eCalm:X'.calm=true:=by rw[<-hX'];exact hc
 have eXe:X'.xe=fun _ _=>False:=by rw[<-hX'];rfl
 have pgx:PG X' (.Name x px) (zhh 0):=by rw[<-hX'];exact zfp c.nd rfl (.inl (lookup_relabel_local c.hx)) (.inr (lookup_relabel_local c.hx))
 have fel:FE X' elt g:=hX'▸helt C;have ftl:FT X' ifs cn:=hX'▸hif C;have cellLt:∀y a,X'.env.cells.lookup y=some a->a<Dl:=fun y a e=>by rw[eEnv]at e;obtain⟨v,q⟩:=I2.cell y a (zdc (fun _ _ h=>by cases h) y a e);rw[<-hDl];exact q.lt
 have stat:∀{H':Hp}{pl:zAO},(∀b∈fp,H' b=none)->(∀p∈pl,∀b∈fp,p.1≠b)->∀b∈fp,zma X' pl H' b:=fun {H' pl} hn hp b hb=>
   ⟨hn b hb,by rw[eL];exact z53 (z5r (hfl b hb) hCle),by rw[eFs];intro z;rcases z51.mp (I2.stkSub b z)with e | e;exact(f2 b hb).2.1 e;exact(f2 b hb).2.2.1 e,.inl (by rw[eEx];exact hb),fun y a e=>by
     rw[eEnv]at e;exact(f2 b hb).2.2.2.2.1 y a (zdc (fun _ _ h=>by cases h) y a e),fun p hpp=>hp p (by rw[ePn]at hpp;simpa using hpp) b hb⟩
 have loop:∀s₃:Shared,s₃={ s2 with heap:=h₁,toks:=s2.toks+([]:List (Str×Value)).length } ->
     codeAny (model X.prog X.w) X.A (.compLoop (.ListComp elt [⟨.Name x px,l,ifs,0⟩] scope pos) 0 (.ref it) (.ref Dl) (compEnvC scope (zht X.env.cells scope.names []) C X.env))
       (compPost (model X.prog X.w) X.A X.xe use Q (.ref Dl) C) s₃:=by
   rintro s₃ rfl;refine codeAny_compLoop_tests (z0x X X' us o cn g (fr.map (zh7 ev)) (fr.map (zgu σ)) fp tn Dl ρ1 H2 ds S2) ?_ (us.length-0)
     ⟨0,ρ1,H2,[],[],[],ds,S1,none,rfl,z6n _,I3,T.keep _ _ _ st2 (fun b hb o e=>old b o e),fun b hb=>(f2 b hb).1,hHD,hacc,.nil,Ext.refl _ _,hS1,RepL.nil,z5o _,q2,rfl⟩
   intro m st hI;generalize notedBy (model X.prog X.w) X.A (compEnvC scope (zht X.env.cells scope.names []) C X.env) (fun e s'=>compPost (model X.prog X.w) X.A X.xe use Q (.ref Dl) C (.error e) s')=EE;obtain⟨i,ρ',H',ys,its,acc,rest,Si,w,rfl,hi,I',tni,hfp',hD',⟨nn,hpl⟩,rv,E',hSi,ra,hal,hcl,hds⟩:=hI;have Ip:Inv X' [(Dl,{ cls:=.type "list",data:=.seq (List.toArray its) nn })] (w::fr.map (zgu σ)) H' st:=I'.pins_of fun p hp=>by rw[z55.mp hp];exact⟨hpl,hD',by rw[eL];exact hDC,by rw[eFs];exact hDfs,fun v z=>by cases z⟩
   have hnp:∀p∈[(Dl,({ cls:=.type "list",data:=.seq (List.toArray its) nn }:Obj))],∀b∈fp,p.1≠b:=fun p hp b hb=>by rw[z55.mp hp];exact z7v (z53 (hfl b hb))
   have gk:=zry hcl;obtain⟨srcI,srcE⟩:=src ρ' H' Si E' hSi gk;by_cases hlt:i<us.length
   · rw[z67 hlt,zlv gk]at hcl;obtain⟨⟨ok,Sc⟩,qc,hcl⟩:=zy hcl;obtain⟨go,yl⟩:=srcI i _ (z5s hlt);have ti:=T.item X' eP eW eK eCalm i [(Dl,{ cls:=.type "list",data:=.seq (List.toArray its) nn })] st (w::fr.map (zgu σ)) H' EE Ip (stat hfp' hnp) tni go;rw[eA]at ti;refine thn ti fun r s4 ⟨u,hr,h4⟩=>?_;subst hr;dsimp only;show wpAny (model X.prog X.w) X.A (letOwnedTupleGo (.Name x px) (.ref it) u >>= fun _=>assign (.Name x px) (compEnvC scope (zht X.env.cells scope.names []) C X.env) u) _ _ _;refine z5m (thn h4 fun _ s5 ⟨xv,H5,I5,r5,y5,tn5,fp5⟩=>?_);obtain⟨eH5,rx0⟩:=yl _ _ y5;subst eH5;have I5':=I5.pinned (stat fp5 hnp) (T.obj _ _ tn5);have as5:=pgx _ s5 _ H5 _ u (fun σ' H'=>H'=H5/\σ'=(w::fr.map (zgu σ)).set 0 (some xv)) I5' r5 ⟨rfl,rfl⟩;rw[eP,eW,eA,eEnv,eXe]at as5;refine z7f as5 (fun _ s6 ⟨σ6,H6,I6,eH6,eσ6⟩=>?_) (fun _ _ z=>False.elim z);subst eH6 eσ6;have hE6:EnvR X.K X.mg ρ' H6 (some us[i]::fr.map (zh7 ev)) (some xv::fr.map (zgu σ)):=(hEf.mono E').set (i:=0) rx0;have tc6:=zzw ftl (Q:=fun b H7=>b=ok/\∃ρ7,Ext ρ' H6 ρ7 H7/\StOk X.K X.mg ρ7 H7 Sc) I6 ⟨ρ',_,Si,ok,Sc,by rw[eK,eM];exact hE6,by rw[eK,eM];exact hSi,qc,fun ρ7 H7 E7 hS7=>⟨rfl,ρ7,E7,by rw[eK,eM]at hS7;exact hS7⟩⟩;rw[eP,eW,eA,eEnv,eXe]at tc6;refine z7f tc6 (fun ok' s6 ⟨H6,I6,eok,ρ6,E6,hS6⟩=>?_) (fun _ _ z=>False.elim z);subst eok;have hE6:=hE6.mono E6;have hpin6:=I6.pin (Dl,{ cls:=.type "list",data:=.seq (List.toArray its) nn }) (z5y _ (z7d _ (z55.mpr rfl)));cases ok' with
     | false=>
       have hcl:zbu us o cn g (fr.map (zh7 ev)) (us.drop (i+1)) Sc=some (rest,S2):=hcl;rw[z6i z6q];have I8:Inv X' [] (some xv::fr.map (zgu σ)) H6 s6:=I6.pins_of fun p hp=>by cases hp
       have tn8:tn (i+1) s6.heap:=T.keep _ _ _ tn5 fun b hb o e=>(I6.pin (b,o) (z5y _ (z5y _ (k9 hb e)))).1;refine⟨us.length-(i+1),by omega,i+1,ρ6,H6,ys,its,acc,rest,Sc,_,rfl,by omega,I8,tn8,fun b hb=>?_,hpin6.2.1,⟨nn,hpin6.1⟩,rv,E'.trans E6,hS6,ra.mono E6,by omega,hcl,hds⟩;obtain⟨o,e,dd⟩:=T.obj _ _ tn5 b hb;exact(I6.pin (b,o) (z5y _ (z5y _ (k9 hb e)))).2.1
     | true=>
       rw[z6a rfl];have hcl:(g (some us[i]::fr.map (zh7 ev)) Sc).bind (fun q=>(zbu us o cn g (fr.map (zh7 ev)) (us.drop (i+1)) q.2).bind fun r=>some (q.1::r.1,r.2))=some (rest,S2):=hcl;obtain⟨⟨yv,Sn⟩,qe,hcl⟩:=zy hcl;obtain⟨⟨rest',Se⟩,qr,hcl⟩:=zy hcl;cases hcl;have el6:=fel _ s6 _ H6 (fun v H7=>∃ρ7,Ext ρ6 H6 ρ7 H7/\StOk X.K X.mg ρ7 H7 Sn/\Rep X.K X.mg ρ7 H7 yv v) I6 ⟨ρ6,_,Sc,yv,Sn,by rw[eK,eM];exact hE6,by rw[eK,eM];exact hS6,qe,fun v ρ7 H7 E7 hS7 r7=>⟨ρ7,E7,by rw[eK,eM]at hS7;exact hS7,by rw[eK,eM]at r7;exact r7⟩⟩;rw[eP,eW,eA,eEnv,eXe]at el6;refine z7f el6 (fun u7 s7 ⟨v7,H7,I7,r7,ρ7,E7,hS7,rp7⟩=>?_) (fun _ _ z=>False.elim z);have hpin:=I7.pin (Dl,{ cls:=.type "list",data:=.seq (List.toArray its) nn }) (z5y _ (z7d _ (z55.mpr rfl)));have hvl:=rv.length;have hral:=ra.length;refine wpAny_list_append_plain ⟨nn,hpin.1⟩ (fun h8 hp8 hsb8=>?_) (by rw[z5t];omega);have I8:Inv X' [] (some xv::fr.map (zgu σ)) H7 { s7 with heap:=h8 }:=by
         have I7':Inv X' [] (some xv::fr.map (zgu σ)) H7 s7:=I7.pins_of fun p hp=>by cases hp
         exact I7'.turned (it:=Dl) (t':=s7.toks) (fun b o hb e=>(hsb8.2 b hb).trans e) hpin.2.1 (by rw[eL];exact hDC) (.inr (by rw[eS0,hDl];exact z5o _)) (fun y a e=>z53 (cellLt y a e)) (fun p hp=>by rw[ePn]at hp;cases hp)
       have tn8:tn (i+1) h8:=T.keep _ _ _ tn5 fun b hb o e=>by have:=(I7.pin (b,o) (z5y _ (z5y _ (k9 hb e)))).1;exact(hsb8.2 b (z53 (hfl b hb))).trans this
       refine⟨us.length-(i+1),by omega,i+1,ρ7,H7,ys++[v7],its++[u7],acc++[yv],rest',Sn,_,rfl,by omega,I8,tn8,fun b hb=>?_,hpin.2.1,?_,rv.append (.cons r7 .nil),(E'.trans E6).trans E7,hS7,((ra.mono E6).mono E7).append (RepL.cons rp7 RepL.nil),by simp;omega,qr,by simp[hds]⟩
       · obtain⟨o,e,dd⟩:=T.obj _ _ tn5 b hb;exact(I7.pin (b,o) (z5y _ (z5y _ (k9 hb e)))).2.1
       · rw[show(its++[u7]).toArray=its.toArray.push u7 by simp];exact hp8
   · have ei:i=us.length:=by omega
     have td:=T.done X' eP eW eK eCalm i [(Dl,{ cls:=.type "list",data:=.seq (List.toArray its) nn })] st (w::fr.map (zgu σ)) H' EE Ip (stat hfp' hnp) tni (srcE i (by omega));rw[eA]at td;refine thn td fun r s4 ⟨hr,I4⟩=>?_;subst hr;dsimp only;rw[z9d (by omega),zpf gk]at hcl;cases hcl;rw[z6f]at hds;subst hds;obtain⟨mm,hns,_⟩:=id I4.loc;rw[eL]at hns;have hpin:=I4.pin (Dl,{ cls:=.type "list",data:=.seq (List.toArray its) nn }) (z5y _ (z55.mpr rfl));have hHC:H' C=none:=by have:=I4.free;rw[eL]at this;exact this
     have bs:=I4.base;rw[eFs,eEx,eH0,eS0]at bs;have hok4:=I4.hok;rw[eP,eW]at hok4;have os4:=I4.os;rw[eS0]at os4;have hvl:=rv.length;have hral:=ra.length;exact fin Dl C s4 H' ρ' mm ys its nn (by rw[hDl];exact z5o _) hCle hDC hns hHC bs hok4 os4 I4.bare hpin.1 hD' rv ra (by omega) E' hSi
 exact codeAny_compStart_list (loop _ rfl) (T.self X.A 0 _ _ _ (T.keep _ _ _ st2 (fun b hb o e=>old b o e)) (loop _ rfl))
theorem zwd(I2:Inv X pins σ H2 s2)(f2:∀b∈fp,zma X pins H2 b){Q:VK}(kk:∀l ys ρ' H',Ext ρ1 H2 ρ' H'->StOk X.K X.mg ρ' H' S2->H' l=none->RepL X.K X.mg ρ' H' ds ys->Q (.ref l) (upd H' l (.lst ys))):Fin X s2 H2 fp ρ1 ds S2 none (EP X pins σ Q):=by
 intro Dl C s4 H' ρ' mm ys its nn hDl2 hCle hDC hns hHC bs hok4 os4 bare4 hpin hD' rv ra hz E' hSi;refine⟨mm,hns,fun h' hs'=>?_⟩;have nC:∀b o,s2.heap.get? b=some o->b≠C:=fun b o e z=>by have:=z50 e;rw[z]at this;exact z7a _ (z5r this (z57 hDl2 hCle))
 have un:Un (frs X.stack) fp H2 H' s2.heap h' :=
   ⟨fun b o e n h1 h2=>(hs'.2 b (nC b o e)).trans (bs.keep b o e n h1 h2),fun b o e n h1 h2=>by
     obtain⟨sl,q⟩:=bs.slot b o e n h1 h2;exact⟨sl,(hs'.2 b (nC b o e)).trans q⟩,bs.free,fun b o e h2=>by
     obtain⟨o',q⟩:=bs.there b o e h2;exact⟨o',(hs'.2 b (nC b o e)).trans q⟩,bs.tups,bs.frzs,bs.tbls⟩
 have I9:Inv X pins σ H' { s4 with heap:=h' }:=I2.call' (s':={ s4 with heap:=h' }) os4 un (zif hok4 hs' hHC) bare4 fun b hb=>by obtain⟨_,a1,a2,a3,a4,a5⟩:=f2 b hb;exact⟨a3,a1,a4,a5⟩
 have I10:Inv X pins σ (upd H' Dl (.lst ys)) { s4 with heap:=h' }:=Inv.track (its:=its) (n:=nn) I9 hD' ((hs'.2 Dl hDC).trans hpin) rv hz (.inr (z57 I2.sz hDl2)) (z7v (z53 (z5r I2.lt hDl2)))
   (fun y a e=>by
     obtain⟨v,q⟩:=I2.cell y a e;exact z53 (z5r q.lt hDl2)) (fun q hq=>z53 (z5r (z50 (I2.pin q hq).1) hDl2))
 exact⟨.ref Dl,upd H' Dl (.lst ys),I10,rfl,kk Dl ys ρ' H' E' hSi hD' ra⟩
theorem zwe{iy:Nat}{yy:Str}{py:Pos}{EN:Ends}(I2:Inv X pins σ H2 s2)(f2:∀b∈fp,zma X pins H2 b)(hN:X.N.Nodup)(hiy:X.N[iy]? = some yy)(hyy:Loc X.env.scope yy)(hfy:X.fn yy=true\/X.env.scope.names.lookup yy=some .local)
   (kk:∀l ys ρ' H',Ext ρ1 H2 ρ' H'->StOk X.K X.mg ρ' H' S2->H' l=none->RepL X.K X.mg ρ' H' ds ys->EN.nx (σ.set iy (some (.ref l))) (upd H' l (.lst ys))):Fin X s2 H2 fp ρ1 ds S2 (some (assign (.Name yy py) X.env)) (fun _ s'=>SP X pins EN .next s'):=by
 intro Dl C s4 H' ρ' mm ys its nn hDl2 hCle hDC hns hHC bs hok4 os4 bare4 hpin hD' rv ra hz E' hSi;have I9:Inv X pins σ H' s4:=I2.call' (s':=s4) os4 bs hok4 bare4 fun b hb=>by obtain⟨_,a1,a2,a3,a4,a5⟩:=f2 b hb;exact⟨a3,a1,a4,a5⟩
 have cl2:∀y a,X.env.cells.lookup y=some a->a<Dl:=fun y a e=>by obtain⟨v,q⟩:=I2.cell y a e;exact z5r q.lt hDl2
 have pl2:∀q∈X.pn++pins,q.1<Dl:=fun q hq=>z5r (z50 (I2.pin q hq).1) hDl2;have ll2:X.env.locals<Dl:=z5r I2.lt hDl2;have I10:Inv X pins σ (upd H' Dl (.lst ys)) s4:=Inv.track (its:=its) (n:=nn) I9 hD' hpin rv hz (.inr (z57 I2.sz hDl2)) (z7v (z53 ll2))
   (fun y a e=>z53 (cl2 y a e)) (fun q hq=>z53 (pl2 q hq))
 refine wpAny_assign_Name (zgz I10 hN hiy hyy (v:=.ref Dl) rfl (fun s5 I5 ⟨aa,sb,ha⟩=>?_) hfy);have hCa:C≠aa:=by
   rcases ha with rfl | ha
   · exact z7v (z53 (z5r ll2 hCle))
   · exact z7v (z53 (z5r (cl2 _ _ ha) hCle))
 refine⟨mm,hns.sameBut sb hCa,fun h' hs'=>?_⟩;have hnC:upd H' Dl (.lst ys) C=none:=by rw[qf (z7v hDC)];exact hHC
 have I6:=I5.turned (it:=C) (t':=s5.toks) (h':=h') (fun b o hb e=>(hs'.2 b hb).trans e) hnC (z7v (z53 (z5r ll2 hCle))) (.inr (z57 I2.sz (z57 hDl2 hCle)))
   (fun y a e=>z53 (z5r (cl2 y a e) hCle)) (fun q hq=>z53 (z5r (pl2 q hq) hCle))
 exact⟨_,_,I6,kk Dl ys ρ' H' E' hSi hD' ra⟩
end
def zmc(f:E):Src:=fun ev S=>(f ev S).bind fun p=>match p.1 with
 | .lst us=>some ((us,none),p.2)
 | .tup us=>some ((us,none),p.2)
 | .obj a=>(match p.2[a]? with
   |some (.lst us)=>some ((us,some a),p.2)
   |_=>none)
 |_=>none
section
variable {X:Cx}{tg l:Expr}{f:E}
theorem zug(hl:FE X l f):zt4 X tg l (zmc f):=by
 intro pins s σ H R I h;obtain⟨ρ,ev,S,us,o,S1,hE,hS,hf,k⟩:=h;obtain⟨⟨y,S2⟩,q1,hf⟩:=zy hf;cases y with
 | lst us'=>
   cases hf;refine zfo hl pins s σ H R I ⟨ρ,ev,S,.lst us,S2,hE,hS,q1,fun v ρ1 H1 E1 hS1 r1=>?_⟩;obtain⟨p,vs,rfl,t1,rL⟩:=r1.refL;refine⟨p,rfl,⟨vs,t1.sq⟩,k _ ρ1 H1 E1 hS1 (fun ρ' H' S' E' hS' _=>⟨fun i d hd=>?_,fun i hi=>⟨vs,(t1.mono E').sq,by rw[<-rL.length];exact hi⟩⟩) fun _ _ _ J=>by obtain⟨_,_,_,z⟩:=J.list t1.sq;rw[rL.length];exact z⟩;obtain⟨xv,ex,rx⟩:=(rL.mono E').get hd;exact⟨⟨vs,xv,(t1.mono E').sq,ex⟩,fun u H5 ⟨e,y⟩=>⟨e,by have:=y vs (t1.mono E').sq;rw[ex]at this;cases this;exact rx⟩⟩
 | tup us'=>
   cases hf;refine zya hl pins s σ H R I ⟨ρ,ev,S,.tup us,S2,hE,hS,q1,fun v ρ1 H1 E1 hS1 r1=>?_⟩;obtain⟨p,vs,rfl,t1,rL⟩:=r1.refT;refine⟨p,rfl,⟨vs,t1.sq⟩,k _ ρ1 H1 E1 hS1 (fun ρ' H' S' E' hS' _=>⟨fun i d hd=>?_,fun i hi=>⟨vs,(t1.mono E').sq,by rw[<-rL.length];exact hi⟩⟩) fun _ _ _ J=>by obtain⟨_,_,_,z⟩:=J.tuple t1.sq;rw[rL.length];exact z⟩;obtain⟨xv,ex,rx⟩:=(rL.mono E').get hd;exact⟨⟨vs,xv,(t1.mono E').sq,ex⟩,fun u H5 ⟨e,y⟩=>⟨e,by have:=y vs (t1.mono E').sq;rw[ex]at this;cases this;exact rx⟩⟩
 | obj a=>
   dsimp only at hf;split at hf
   · rename_i us' hau;cases hf;refine zfo hl pins s σ H R I ⟨ρ,ev,S,.obj a,S1,hE,hS,q1,fun v ρ1 H1 E1 hS1 r1=>?_⟩;unfold Rep at r1;obtain⟨p,rfl,hp⟩:=r1;obtain⟨vs,h1,r⟩:=hS1.ob _ _ p hau hp;refine⟨p,rfl,⟨vs,SqL.of h1⟩,k _ ρ1 H1 E1 hS1 (fun ρ' H' S' E' hS' ok=>?_) fun _ _ _ J=>by obtain⟨_,_,_,z⟩:=J.list (SqL.of h1);rw[r.length];exact z⟩;obtain⟨vs',h1',r'⟩:=hS'.ob _ _ p ok (E'.pre _ _ hp);refine⟨fun i d hd=>?_,fun i hi=>⟨vs',SqL.of h1',by rw[<-r'.length];exact hi⟩⟩;obtain⟨xv,ex,rx⟩:=r'.get hd;exact⟨⟨vs',xv,SqL.of h1',ex⟩,fun u H5 ⟨e,y⟩=>⟨e,by have:=y vs' (SqL.of h1');rw[ex]at this;cases this;exact rx⟩⟩
   · cases hf
 |_=>cases hf
end
open Classical in
def eGd(p:Ev->Prop)(f:E):E:=fun ev S=>if p ev then f ev S else none
theorem zki{p:Ev->Prop}{f:E}{ev:Ev}{S:Sto}{r:D×Sto}(h:eGd p f ev S=some r):p ev/\f ev S=some r:=by
 unfold eGd at h;split at h
 · rename_i e;exact⟨e,h⟩
 · cases h
theorem zpb{p:Ev->Prop}{f:E}{ev:Ev}{S:Sto}(h:p ev):eGd p f ev S=f ev S:=by unfold eGd;rw[z6a h]
def xr(fr:List Nat)(f:Src)(c:B)(g:E):E:=fun ev S=>(f ev S).bind fun p=>(zbu p.1.1 p.1.2 c g (fr.map (zh7 ev)) p.1.1 p.2).map fun q=>(.lst q.1,q.2)
def zkj(fr:List Nat)(f:Src)(c:B)(g:E):E:=fun ev S=>(f ev S).bind fun p=>(zbu p.1.1 p.1.2 c g (fr.map (zh7 ev)) p.1.1 p.2).map fun q=>(.obj q.2.length,q.2++[.lst q.1])
section
variable {X:Cx}{scope:Scope}{x:Str}{N':List Str}{fr:List Nat}{elt l:Expr}{ifs:List Expr}{px pos py spos:Pos}{yy:Str}{f:Src}{g:E}{cn:B}{p:Ev->Prop}{iy:Nat}
def Blk(X:Cx)(x:Str)(N':List Str)(scope:Scope)(p:Ev->Prop)(P:Cx->Prop):Prop:=∀{pins σ H s ρ ev fp C},Inv X pins σ H s->EnvR X.K X.mg ρ H ev σ->p ev->(∀b∈fp,zma X pins H b)->P (ji X (x::N') scope s H C fp)
theorem zsw{K:Frag}{mg:zMg}{ρ:List Addr}{H:Hp}{S:Sto}{l:Addr}{ys:List V}{ds:List D}(hS:StOk K mg ρ H S)(hn:H l=none)(ra:RepL K mg ρ H ds ys):Ext ρ H (ρ++[l]) (upd H l (.lst ys))/\StOk K mg (ρ++[l]) (upd H l (.lst ys)) (S++[.lst ds])/\Rep K mg (ρ++[l]) (upd H l (.lst ys)) (.obj S.length) (.ref l):=by have ea:=zcm hS (.lst ys) hn;refine⟨ea,hS.add hn ⟨ys,qq,ra.mono ea⟩,?_⟩;unfold Rep;refine⟨l,rfl,?_⟩;rw[z59 (by rw[hS.len]<;>exact z5o _),hS.len];simp
theorem zz6{P:Cx->Prop}(c:CompOk X scope x N' fr)(src:zt4 X (.Name x px) l f)(hb:Blk X x N' scope p P)(hif:∀s₀ H₀ C ex,P (ji X (x::N') scope s₀ H₀ C ex)->FT (ji X (x::N') scope s₀ H₀ C ex) ifs cn)(helt:∀s₀ H₀ C ex,P (ji X (x::N') scope s₀ H₀ C ex)->FE (ji X (x::N') scope s₀ H₀ C ex) elt g)
   (hc:X.calm=true:=by rfl) (hs:∀v,foldedSetIterable l X.env v=pure v:=by intro _;rfl) (new:Bool):FE X (.ListComp elt [⟨.Name x px,l,ifs,0⟩] scope pos) (eGd p (if new then zkj fr f cn g else xr fr f cn g)):=by
 intro pins s σ H Q I h;obtain⟨ρ,ev,S,d,S',hE,hS,hf,k⟩:=h;obtain⟨hp,hf⟩:=zki hf;obtain⟨⟨us,o⟩,S1,ds,S2,q1,q2,hd⟩:∃(w:List D×Option Nat) (S1:Sto) (ds:List D) (S2:Sto),f ev S=some (w,S1)/\zbu w.1 w.2 cn g (fr.map (zh7 ev)) w.1 S1=some (ds,S2)/\(if new then (d,S')=(.obj S2.length,S2++[.lst ds])else (d,S')=(.lst ds,S2)):=by
   cases new
   · obtain⟨⟨w,S1⟩,q1,hf⟩:=zy hf;obtain⟨⟨ds,S2⟩,q2,hf⟩:=zah hf;exact⟨w,S1,ds,S2,q1,q2,hf.symm⟩
   · obtain⟨⟨w,S1⟩,q1,hf⟩:=zy hf;obtain⟨⟨ds,S2⟩,q2,hf⟩:=zah hf;exact⟨w,S1,ds,S2,q1,q2,hf.symm⟩
 rw[eval_ListComp];refine wpAny_comprehension_free (use:=none) rfl hs (zcd fun p hp e=>I.ok.has p.1 (.inl ((c.chk p hp).2.1 e))) c.kind (fun y hy e=>(c.chk y hy).2.2 e) ?_;refine thn (src pins s σ H (fun J H1=>∃ρ1,Ext ρ H ρ1 H1/\StOk X.K X.mg ρ1 H1 S1/\zsh X.K X.mg J us o ρ1 H1/\(∀pins σ s,Inv X pins σ H1 s->us.length<=sizeLine)) I ⟨ρ,ev,S,us,o,S1,hE,hS,q1,fun J ρ1 H1 E1 hS1 sk hz=>⟨ρ1,E1,hS1,sk,hz⟩⟩) fun v s1 h1=>thn h1 fun itv s2 h2=>?_;obtain⟨it,fp,tn,J,H2,e,I2,T,st2,f2,ρ1,E1,hS1,sk,hz⟩:=h2;subst e;have hE1:=hE.mono E1;refine zhs c hc (fun C=>hif _ _ _ _ (hb I2 hE1 hp f2)) (fun C=>helt _ _ _ _ (hb I2 hE1 hp f2)) I2 T st2 f2 hE1 hS1 sk (hz _ _ _ I2) q2 (zwd I2 f2 fun l ys ρ' H' E' hS' hn ra=>?_);cases new
 · cases hd;exact k _ ρ' _ (E1.trans (E'.trans (jo hS' _ hn))) (hS'.new _ hn) (Rep.lst (s:=hS') hn ra)
 · cases hd;obtain⟨ea,sa,rr⟩:=zsw hS' hn ra;exact k _ _ _ (E1.trans (E'.trans ea)) sa rr
theorem zto{P:Cx->Prop}(new:Bool)(c:CompOk X scope x N' fr)(src:zt4 X (.Name x px) l f)(hb:Blk X x N' scope p P)(hif:∀s₀ H₀ C ex,P (ji X (x::N') scope s₀ H₀ C ex)->FT (ji X (x::N') scope s₀ H₀ C ex) ifs cn)(helt:∀s₀ H₀ C ex,P (ji X (x::N') scope s₀ H₀ C ex)->FE (ji X (x::N') scope s₀ H₀ C ex) elt g)(hN:X.N.Nodup)
   (hsw:swapsWith (.ListComp elt [⟨.Name x px,l,ifs,0⟩] scope pos) (some (.Name yy py)) spos.line X.env=pure true:=by rfl)
   (hiy:X.N[iy]? = some yy:=by rfl) (hyy:Loc X.env.scope yy:=by first | exact Or.inl rfl | exact Or.inr rfl) (hfy:X.fn yy=true\/X.env.scope.names.lookup yy=some .local:=by first | exact .inl rfl | exact .inr rfl | assumption)
   (hc:X.calm=true:=by rfl) (hs:∀v,foldedSetIterable l X.env v=pure v:=by intro _;rfl) :
   FS X (.Assign [.Name yy py] (.ListComp elt [⟨.Name x px,l,ifs,0⟩] scope pos) spos) (qo iy (eGd p (if new then zkj fr f cn g else xr fr f cn g))):=by
 intro pins s σ H EN I h;obtain⟨ρ,ev,S,oo,S',hE,hS,hf,k⟩:=h;obtain⟨⟨d,SS⟩,hf1,hf0⟩:=zah hf;clear hf;cases hf0;obtain⟨hp,hf⟩:=zki hf1;clear hf1;obtain⟨⟨us,o⟩,S1,ds,S2,q1,q2,hd⟩:∃(w:List D×Option Nat) (S1:Sto) (ds:List D) (S2:Sto),f ev S=some (w,S1)/\zbu w.1 w.2 cn g (fr.map (zh7 ev)) w.1 S1=some (ds,S2)/\(if new then (d,SS)=(.obj S2.length,S2++[.lst ds])else (d,SS)=(.lst ds,S2)):=by
   cases new
   · obtain⟨⟨w,S1⟩,q1,hf⟩:=zy hf;obtain⟨⟨ds,S2⟩,q2,hf⟩:=zah hf;exact⟨w,S1,ds,S2,q1,q2,hf.symm⟩
   · obtain⟨⟨w,S1⟩,q1,hf⟩:=zy hf;obtain⟨⟨ds,S2⟩,q2,hf⟩:=zah hf;exact⟨w,S1,ds,S2,q1,q2,hf.symm⟩
 rw[exec_Assign_Name_used _ _ _ _ hsw];refine z5m (wpAny_standAt (z5m ?_));show wpAny _ X.A (do let _ <-comprehension (.ListComp elt [⟨.Name x px,l,ifs,0⟩] scope pos) scope X.env _ (newList []) false (eval l X.env) (some (assign (.Name yy py) X.env))) _ _ s;refine z5m (z7f (wpAny_comprehension_free (use:=some (assign (.Name yy py) X.env)) (Q:=fun _ s'=>SP X pins EN .next s') rfl hs (zcd fun p hp e=>I.ok.has p.1 (.inl ((c.chk p hp).2.1 e))) c.kind (fun y hy e=>(c.chk y hy).2.2 e) ?_) (fun _ s' hq=>z52 (z52 hq)) fun _ _ e=>e);refine thn (src pins s σ H (fun J H1=>∃ρ1,Ext ρ H ρ1 H1/\StOk X.K X.mg ρ1 H1 S1/\zsh X.K X.mg J us o ρ1 H1/\(∀pins σ s,Inv X pins σ H1 s->us.length<=sizeLine)) I ⟨ρ,ev,S,us,o,S1,hE,hS,q1,fun J ρ1 H1 E1 hS1 sk hz=>⟨ρ1,E1,hS1,sk,hz⟩⟩) fun v s1 h1=>thn h1 fun itv s2 h2=>?_;obtain⟨it,fp,tn,J,H2,e,I2,T,st2,f2,ρ1,E1,hS1,sk,hz⟩:=h2;subst e;have hE1:=hE.mono E1;refine zhs c hc (fun C=>hif _ _ _ _ (hb I2 hE1 hp f2)) (fun C=>helt _ _ _ _ (hb I2 hE1 hp f2)) I2 T st2 f2 hE1 hS1 sk (hz _ _ _ I2) q2 (zwe I2 f2 hN hiy hyy hfy fun l ys ρ' H' E' hS' hn ra=>?_);cases new
 · cases hd;have ext:=E1.trans (E'.trans (jo hS' (.lst ys) hn));exact k _ ρ' _ ext (hS'.new _ hn) ((hE.mono ext).set (Rep.lst (s:=hS') hn ra) iy)
 · cases hd;obtain⟨ea,sa,rr⟩:=zsw hS' hn ra;have ext:=E1.trans (E'.trans ea);exact k _ _ _ ext sa ((hE.mono ext).set rr iy)
end
section
variable {X:Cx}{scope:Scope}{x:Str}{N':List Str}{fr:List Nat}{elt l:Expr}{ifs:List Expr}{px pos py spos:Pos}{yy:Str}{f:Src}{g:E}{cn:B}{iy:Nat}
theorem zz5{e:Expr}{f f':E}(h:FE X e f)(m:∀ev S r,f' ev S=some r->f ev S=some r):FE X e f':=fun pins s σ H Q I ⟨ρ,ev,S,d,S',hE,hS,hf,k⟩=>h pins s σ H Q I ⟨ρ,ev,S,d,S',hE,hS,m _ _ _ hf,k⟩
theorem zti{st:Stmt}{f f':E}(h:FS X st (qo iy f))(m:∀ev S r,f' ev S=some r->f ev S=some r):FS X st (qo iy f'):=fun pins s σ H Q I ⟨ρ,ev,S,d,S',hE,hS,hf,k⟩=>h pins s σ H Q I ⟨ρ,ev,S,d,S',hE,hS,by
 obtain⟨r,h1,h2⟩:=zah hf;unfold qo;rw[m _ _ _ h1];exact z68 some h2,k⟩
theorem z26(new:Bool)(c:CompOk X scope x N' fr)(src:zt4 X (.Name x px) l f)(hif:∀s₀ H₀ C ex,FT (ji X (x::N') scope s₀ H₀ C ex) ifs cn)(helt:∀s₀ H₀ C ex,FE (ji X (x::N') scope s₀ H₀ C ex) elt g)
   (hc:X.calm=true:=by rfl) (hs:∀v,foldedSetIterable l X.env v=pure v:=by intro _;rfl):FE X (.ListComp elt [⟨.Name x px,l,ifs,0⟩] scope pos) (if new then zkj fr f cn g else xr fr f cn g) :=
 zz5 (zz6 (p:=fun _=>True) (P:=fun _=>True) c src (fun _ _ _ _=>trivial) (fun _ _ _ _ _=>hif _ _ _ _) (fun _ _ _ _ _=>helt _ _ _ _) hc hs new) fun _ _ _ h=>(zpb trivial).trans h
theorem z25(c:CompOk X scope x N' fr)(src:zt4 X (.Name x px) l f)(hif:∀s₀ H₀ C ex,FT (ji X (x::N') scope s₀ H₀ C ex) ifs cn)(helt:∀s₀ H₀ C ex,FE (ji X (x::N') scope s₀ H₀ C ex) elt g)
   (hc:X.calm=true:=by rfl) (hs:∀v,foldedSetIterable l X.env v=pure v:=by intro _;rfl):FE X (.ListComp elt [⟨.Name x px,l,ifs,0⟩] scope pos) (xr fr f cn g):=z26 false c src hif helt hc hs
theorem z21(new:Bool)(c:CompOk X scope x N' fr)(src:zt4 X (.Name x px) l f)(hif:∀s₀ H₀ C ex,FT (ji X (x::N') scope s₀ H₀ C ex) ifs cn)(helt:∀s₀ H₀ C ex,FE (ji X (x::N') scope s₀ H₀ C ex) elt g)(hN:X.N.Nodup)
   (hsw:swapsWith (.ListComp elt [⟨.Name x px,l,ifs,0⟩] scope pos) (some (.Name yy py)) spos.line X.env=pure true:=by rfl)
   (hiy:X.N[iy]? = some yy:=by rfl) (hyy:Loc X.env.scope yy:=by first | exact Or.inl rfl | exact Or.inr rfl) (hfy:X.fn yy=true\/X.env.scope.names.lookup yy=some .local:=by first | exact .inl rfl | exact .inr rfl | assumption)
   (hc:X.calm=true:=by rfl) (hs:∀v,foldedSetIterable l X.env v=pure v:=by intro _;rfl):FS X (.Assign [.Name yy py] (.ListComp elt [⟨.Name x px,l,ifs,0⟩] scope pos) spos) (qo iy (if new then zkj fr f cn g else xr fr f cn g)) :=
 zti (zto (p:=fun _=>True) (P:=fun _=>True) new c src (fun _ _ _ _=>trivial) (fun _ _ _ _ _=>hif _ _ _ _) (fun _ _ _ _ _=>helt _ _ _ _) hN hsw hiy hyy hfy hc hs) fun _ _ _ h=>(zpb trivial).trans h
theorem z20(iy:Nat)(c:CompOk X scope x N' fr)(src:zt4 X (.Name x px) l f)(hif:∀s₀ H₀ C ex,FT (ji X (x::N') scope s₀ H₀ C ex) ifs cn)(helt:∀s₀ H₀ C ex,FE (ji X (x::N') scope s₀ H₀ C ex) elt g)(hN:X.N.Nodup)
   (hsw:swapsWith (.ListComp elt [⟨.Name x px,l,ifs,0⟩] scope pos) (some (.Name yy py)) spos.line X.env=pure true:=by rfl)
   (hiy:X.N[iy]? = some yy:=by rfl) (hyy:Loc X.env.scope yy:=by first | exact Or.inl rfl | exact Or.inr rfl) (hfy:X.fn yy=true\/X.env.scope.names.lookup yy=some .local:=by first | exact .inl rfl | exact .inr rfl | assumption)
   (hc:X.calm=true:=by rfl) (hs:∀v,foldedSetIterable l X.env v=pure v:=by intro _;rfl):FS X (.Assign [.Name yy py] (.ListComp elt [⟨.Name x px,l,ifs,0⟩] scope pos) spos) (qo iy (xr fr f cn g)):=z21 false c src hif helt hN hsw hiy hyy hfy hc hs
theorem z2z(iy:Nat){t:LT}{cl:zLA}{is:List Nat}{cn:List D->B}(c:CompOk X scope x N' fr)(src:zt4 X (.Name x px) l f)(CO:CapsOk X t cl is)(hif:∀kv s₀ H₀ C ex,ForC (ji X (x::N') scope s₀ H₀ C ex) t cl kv->FT (ji X (x::N') scope s₀ H₀ C ex) ifs (cn kv))(helt:∀s₀ H₀ C ex,FE (ji X (x::N') scope s₀ H₀ C ex) elt g)(hN:X.N.Nodup)
   (hsw:swapsWith (.ListComp elt [⟨.Name x px,l,ifs,0⟩] scope pos) (some (.Name yy py)) spos.line X.env=pure true:=by rfl)
   (hiy:X.N[iy]? = some yy:=by rfl) (hyy:Loc X.env.scope yy:=by first | exact Or.inl rfl | exact Or.inr rfl) (hfy:X.fn yy=true\/X.env.scope.names.lookup yy=some .local:=by first | exact .inl rfl | exact .inr rfl | assumption)
   (hc:X.calm=true:=by rfl) (hs:∀v,foldedSetIterable l X.env v=pure v:=by intro _;rfl):FS X (.Assign [.Name yy py] (.ListComp elt [⟨.Name x px,l,ifs,0⟩] scope pos) spos) (qo iy (zls is fun kv=>xr fr f (cn kv) g)) :=
 zv0 fun kv hi=>zti (zto (p:=fun ev=>zat ev is=some kv) (P:=fun Y=>ForC Y t cl kv) false c src (fun I hE hp f2=>zv2 CO hi I hE hp f2) (fun _ _ _ _ q=>hif _ _ _ _ _ q) (fun _ _ _ _ _=>helt _ _ _ _) hN hsw hiy hyy hfy hc hs) fun _ _ _ h=>(zpb (zfd h).1).trans (zfd h).2
end
def zvx(j n:Nat)(x:Str)(t:LT)(is:List Nat):G:=fun ds S=>if ds.length=n then (match S[j]? with
 |some (.tab x' q)=>if x'=x/\q=t.qual then (zat (ds.map some) is).map fun vs=>(.clo t vs,S)else none
 |_=>none)else none
section
variable {X:Cx}{pins:zAO}{σ:L2.St}{H H':Hp}{s:Shared}{t:LT}{cl:zLA}{is:List Nat}
theorem zw8{fs:List Addr}{h h':Heap}(u:Un fs [] H H' h h')(hn:∀b∈cl.map (·.2),H' b=none)(new:∀b∈cl.map (·.2),h.get? b=none):Un fs [] H (trk H' h' cl) h h':=by
 have out:∀{b:Addr}{v:HO},H' b=some v->trk H' h' cl b=some v:=fun {b v} e=>by unfold trk;rw[qw fun z=>by rw[hn b z]at e;cases e];exact e
 refine⟨u.keep,u.slot,fun b o e n hx=>?_,u.there,fun b xs e=>out (u.tups b xs e),fun b o v e=>out (u.frzs b o v e),fun b ps e=>let⟨more,q⟩:=u.tbls b ps e;⟨more,out q⟩⟩;unfold trk;rw[qw fun z=>by rw[new b z]at e;cases e];exact u.free b o e n hx
end
section
variable {P:Program}{w:World}{K:Frag}{mg:zMg}{base:Heap}{x qual:Str}{st:Stmt}{ps:List Str}{k j:Nat}{dV:Value}{f:Addr}{fd:FuncData}{t:LT}{is:List Nat}{e:Expr}{p2:Pos}
theorem FunD.okR(F:FunD K x qual st f fd dV){y:Str}(hm:mg y=some (.ref f))(S:FnScope ps ps (zj st))(hst:jg st=[.Return (some e) p2])
   (hpe:∀(cdv:Value),zbc K mg y cdv->∀(A:Around) (outer:List Env) (s:Shared) (H:Hp) (E:XK),
     ∃cl,CapsOk (zbl CX0 P w K mg base ps qual (zj st) f cdv A outer s H E) t cl is/\PE (zbl CX0 P w K mg base ps qual (zj st) f cdv A outer s H E) e (z0z K mg j y t cl)):FnOk P w K mg base CX0 (k+1) f fd ps (spG K mg (zvx j ps.length y t is)):=by
 have co:=F.code hm;obtain⟨oc,od,kV,doc,pm,an,cdv,ct,osl,rfl,lk,hcd⟩:=F.ex;have len:∀vs H Q E,spG K mg (zvx j ps.length y t is) vs H Q E->vs.length=ps.length:=fun vs H Q E h=>by
   obtain⟨ρ,ds,S,d,S',r,hS,hf,k⟩:=h;unfold zvx at hf;split at hf
   · rename_i hl;rw[<-r.length];exact hl
   · cases hf
 refine⟨len,fun A outer s H args us vs Q E hr e0 hb r hsp=>?_⟩;have hl:=len _ _ _ _ hsp;obtain⟨ρ,ds,S0,d,S',rr,hS,hf,kk⟩:=hsp;have KX:K.In s.heap:=e0.mod.kin.keeps fun b o e=>(e0.bs b o e).1;have lim:s.heap.NoLimit:=e0.mod.nolimit.keeps fun b o e=>(e0.bs b o e).1;have hkind:∀y∈ps.zip us,(zj st).names.lookup y.1=some .local\/((zj st).names.lookup y.1=some .cell/\((cellsFrom (s.heap.objs.size+1) (zj st).names []).lookup y.1).isSome=true):=fun⟨n,v⟩ hy=>by
   rcases S.par n (z7l hy).1 with q | q
   · exact .inl q
   · exact .inr ⟨q,cellsFrom_some _ _ _ (.inl q)⟩
 refine codeAny_call_function hr.depth (KX _ _ lk) rfl S.co S.gen rfl (codeRec_of KX hcd) (hb _ _ _ _ ?_);refine z8u S.kind hkind fun env he s1 x=>?_;subst he;refine⟨lim.keeps x.toInCall.keep,codeAny_func ?_⟩;have I:Inv (zbl CX0 P w K mg base ps qual (zj st) f cdv A outer s H E) [] (start ps vs) H s1:=zd0 S hr.hd e0 hl r x;obtain⟨cl,C,pe⟩:=hpe cdv co A outer s H E;unfold zvx at hf;split at hf
 · rename_i hdl;split at hf
   · rename_i x' q hj;split at hf
     · rename_i hxq;obtain⟨rfl,rfl⟩:=hxq;obtain⟨kv,hkv,hf⟩:=zah hf;cases hf;have hE:EnvR K mg ρ H (ds.map some) (start ps vs):=by have:=EnvR.start (N:=ps) rr;rw[hdl,z8z,List.replicate_zero,z6f]at this;exact this
       rw[hst];refine z71 (thn (z94 (thn (pe [] s1 (start ps vs) H (fun v H1=>∃a c pm ct,v=.ref a/\Ext ρ H ρ H1/\StOk K mg ρ H1 S0/\a∉ρ/\c∉ρ/\H1 a=some (.ext (zh9 t cl a c pm ct))/\H1 c=some (.ext (yq c t.qual))) I ⟨ρ,S0,hS,hj,fun a c pm ct H' E1 hS1 n1 n2 h1 h2=>⟨a,c,pm,ct,rfl,E1,hS1,n1,n2,h1,h2⟩⟩) fun u s' ⟨v,H1,J,rv,a,c,pm,ct,ev,E1,hS1,n1,n2,h1,h2⟩=>?_)) fun fl s' q=>q);subst ev;have E2:=C.ext (ρ:=ρ) J;obtain⟨cs,hcs,rk⟩:=zce C J (hE.mono E1) hS1 cl is kv (fun _ h=>h) (by
         rw[C.at_,<-C.names,z8b];rfl) hkv
       rw[C.names]at hcs;have new:∀b∈cl.map (·.2),s.heap.get? b=none:=fun b hb=>by obtain⟨p,hp,rfl⟩:=z7o.mp hb;exact z7u (J.ok.cab p.1 p.2 (C.fn _ (C.names▸z6o hp)) (C.look p hp))
       refine⟨.ref a,trk H1 s'.heap cl,J.os,J.bare,zw8 J.base (C.hn J) new,C.hok J,rv,kk (.ref a) ρ _ (E1.trans E2) (C.st J hS1) ?_⟩;unfold Rep;exact⟨a,cs,rfl,⟨n1,c,pm,ct,cl,n2,E2.keep _ _ h1 n1,E2.keep _ _ h2 n2,C.nodup J,hcs⟩,rk.mono E2⟩
     · cases hf
   · cases hf
 · cases hf
theorem HasDef.calR(h:HasDef K mg x st 0)(S:FnScope ps ps (zj st))(hb:zt5 x x st ps)(hst:jg st=[.Return (some e) p2])
   (hpe:∀(f:Addr) (cdv:Value),zbc K mg x cdv->∀(A:Around) (outer:List Env) (s:Shared) (H:Hp) (E:XK),
     ∃cl,CapsOk (zbl CX0 P w K mg base ps x (zj st) f cdv A outer s H E) t cl is/\PE (zbl CX0 P w K mg base ps x (zj st) f cdv A outer s H E) e (z0z K mg j x t cl)):Cal P w K mg base (k+1) x (zvx j ps.length x t is):=by
 obtain⟨f,fd,dV,F,hm,rfl⟩:=h.ex;exact⟨f,fd,ps,[],[],[],_,F.okR hm S hst (hpe f),hm,F.kp,F.binds0 hb,.nil,fun _ _=>RepL.nil,fun args S r e=>by rw[z6f];exact e⟩
end
end F
namespace Mt
open PySem L2 F
def tv:D->List D
 | .tup a=>a
 |_=>[]
def ad(k:Nat)(x y:D):D:=match k with
 |5=>.tup (tv x++tv y)
 |_=>.non
theorem str_len(a b:Str):(a++b).length=a.length+b.length:=strLen_append a b
theorem zsf(k:Nat)(x y z:D):ad k (ad k x y) z=ad k x (ad k y z):=by
 unfold ad;split
 · exact z68 D.tup (z8t _ _ _)
 · rfl
def zag(k:Nat):List D->D
 | []=>.non
 |t::r=>if k=0 then .non else r.foldl (ad k) t
theorem zdg(ts:List D):zag 0 ts=.non:=by cases ts<;>rfl
theorem zov(k:Nat)(a:D):∀(r:List D) (b:D),r.foldl (ad k) (ad k a b)=ad k a (r.foldl (ad k) b)
 | [],_=>rfl
 | c::r,b=>by show r.foldl (ad k) (ad k (ad k a b) c)=ad k a (r.foldl (ad k) (ad k b c));rw[zsf,zov k a r]
theorem zaj{k:Nat}(hk:k≠0){xs ys:List D}(hx:xs≠[])(hy:ys≠[]):zag k (xs++ys)=ad k (zag k xs) (zag k ys):=by
 cases xs with
 |nil=>exact absurd rfl hx
 | cons x xs=>
   cases ys with
   |nil=>exact absurd rfl hy
   | cons y ys=>
     show(if k=0 then D.non else (xs++y::ys).foldl (ad k) x)=ad k (if k=0 then D.non else xs.foldl (ad k) x) (if k=0 then D.non else ys.foldl (ad k) y);rw[z6i hk,z6i hk,z6i hk,List.foldl_append,List.foldl_cons,zov]
theorem zb0{k:Nat}(hk:k≠0)(t:D):zag k [t]=t:=by show(if k=0 then D.non else t)=t;rw[z6i hk]
def Ky(d:D):Prop:=(∃i,d=.int i)\/∃z,d=.str z/\z.length<=8
def Th(k n:Nat)(d:D):Prop:=k=5/\∃xs:List D,d=.tup xs/\xs.length=2*n/\∀x∈xs,Ky x
def Thing(k:Nat)(d:D):Prop:=(k=0\/k=5)/\∃a i,d=.tup [a,.int i]/\Ky a
theorem Th.ad{k n m:Nat}{x y:D}(hx:Th k n x)(hy:Th k m y):Th k (n+m) (ad k x y):=by obtain⟨rfl,xs,rfl,l1,h1⟩:=hx;obtain⟨_,ys,rfl,l2,h2⟩:=hy;exact⟨rfl,xs++ys,rfl,by rw[z5l];omega,fun z hz=>(z6e.mp hz).elim (h1 z) (h2 z)⟩
theorem Thing.th{k:Nat}{d:D}(hk:k≠0)(h:Thing k d):Th k 1 d:=by
 obtain⟨h5,a,i,rfl,ha⟩:=h;refine⟨h5.resolve_left hk,_,rfl,rfl,fun x hx=>?_⟩;rcases z51.mp hx with rfl | hx
 · exact ha
 · rw[z55.mp hx];exact .inl ⟨i,rfl⟩
theorem zgy{k:Nat}(hk:k≠0):∀{ts:List D},ts≠[]->(∀t∈ts,Thing k t)->Th k ts.length (zag k ts)
 | [],h,_=>absurd rfl h
 | [t],_,h=>by rw[zb0 hk];exact(h t (by simp)).th hk
 | t::u::r,_,h=>by rw[show t::u::r=[t]++(u::r)from rfl,zaj hk (by simp) (by simp),zb0 hk];have:=((h t (by simp)).th hk).ad (zgy hk (ts:=u::r) (by simp) fun x hx=>h x (z5n _ hx));rw[Nat.add_comm]at this;exact this
def ord(a:Bool)(xs:List D):List D:=if a=true then xs.reverse else xs
theorem xw(a:Bool)(xs:List D):(ord a xs).length=xs.length:=by unfold ord;split<;>simp
def mkD(num:Int)(a:Bool)(l t r:D)(sz ht:Int)(to ba:D):D:=.tup [.int num,.bl a,l,t,r,.int sz,.int ht,to,ba]
inductive Mk (k:Nat):D->List D->Nat->Prop where
 |non:Mk k .non [] 0
 | node {num:Int}{a:Bool}{l t r:D}{lt rt:List D}{lh rh:Nat}:Mk k l lt lh->Mk k r rt rh->Thing k t->lh<=rh+1->rh<=lh+1 ->
   Mk k (mkD num a l t r (lt.length+1+rt.length:Nat) (max lh rh+1:Nat) (zag k (ord a (lt++t::rt))) (zag k (ord a (lt++t::rt)).reverse)) (ord a (lt++t::rt)) (max lh rh+1)
theorem Mk.things{k d ts h}(m:Mk k d ts h):∀t∈ts,Thing k t:=by
 induction m with
 |non=>intro t ht;cases ht
 | @node num a l t r lt rt lh rh ml mr ht _ _ il ir=>
   intro x hx;have:x∈lt++t::rt:=by
     unfold ord at hx;split at hx
     · exact z72.mp hx
     · exact hx
   rcases z6e.mp this with q | q
   · exact il x q
   · rcases z51.mp q with rfl | q
     · exact ht
     · exact ir x q
end Mt
namespace Pg
open PySem L2 F Mt
variable {k:Nat}{d l r t:D}{ts lt rt:List D}{h lh rh:Nat}{S S1:Sto}{ev e:Ev}
theorem zsm:(2:Nat)<=sizeLine:=by decide
theorem zzo(a b c d e f g h i:D):atI [a,b,c,d,e,f,g,h,i] (1:Int)=some b:=rfl
theorem zvs(a b c d e f g h i:D):atI [a,b,c,d,e,f,g,h,i] (2:Int)=some c:=rfl
theorem zzn(a b c d e f g h i:D):atI [a,b,c,d,e,f,g,h,i] (3:Int)=some d:=rfl
theorem zvr(a b c d e f g h i:D):atI [a,b,c,d,e,f,g,h,i] (4:Int)=some e:=rfl
theorem z2p(a b c d e f g h i:D):atI [a,b,c,d,e,f,g,h,i] (5:Int)=some f:=rfl
theorem z2o(a b c d e f g h i:D):atI [a,b,c,d,e,f,g,h,i] (6:Int)=some g:=rfl
theorem zzm(a b c d e f g h i:D):atI [a,b,c,d,e,f,g,h,i] (7:Int)=some h:=rfl
theorem zzl(a b c d e f g h i:D):atI [a,b,c,d,e,f,g,h,i] (8:Int)=some i:=rfl
theorem z0b(ts:List D):kl (.lst ts) (.lst [])=some (.bl ts.isEmpty):=by cases ts<;>rfl
theorem zkf(i j:Int):kl (.int i) (.int j)=some (.bl (i==j)):=rfl
theorem zm2{i:Nat}{a b:MO}(h:S[i]? = some a):(S.set i b)[i]? = some b:=z6p (z5q.mp h).1
theorem zxm{i j:Nat}(hij:i≠j)(b:MO):(S.set i b)[j]? = S[j]?:=z6x hij
def Ok(c:C)(ev:Ev)(S:Sto):Prop:=∃S',c ev S=some (.rt (.bl true),S')
theorem zq{i:Nat}{f:E}(h:f ev S=some (d,S1)):qo i f ev S=some (.nx (ev.set i (some d)),S1):=by simp[qo,h]
theorem zn{c:B}{a:C}(h:c ev S=some (false,S1)):sIf c a ja ev S=some (.nx ev,S1):=by simp[sIf,h,ja]
theorem z9{c:B}{a b:C}{o:Out}{S2:Sto}(h:c ev S=some (true,S1))(q:a ev S1=some (o,S2)):sIf c a b ev S=some (o,S2):=by simp[sIf,h,q]
theorem qk{f:E}{b:Bool}(h:f ev S=some (.bl b,S1)):bE f ev S=some (b,S1):=by simp[bE,h]
theorem zsc{u:B}(h:u ev S=some (true,S1)):zcx u ev S=some (false,S1):=by simp[zcx,h]
theorem z5c{u:B}(h:u ev S=some (false,S1)):zcx u ev S=some (true,S1):=by simp[zcx,h]
theorem zpt{u v:B}(h:u ev S=some (false,S1)):zsd u v ev S=some (false,S1):=by simp[zsd,h]
theorem zen{u v:B}{b:Bool}{S2:Sto}(h:u ev S=some (true,S1))(q:v ev S1=some (b,S2)):zsd u v ev S=some (b,S2):=by simp[zsd,h,q]
theorem z0r{u v:B}{b:Bool}{S2:Sto}(h:u ev S=some (false,S1))(q:v ev S1=some (b,S2)):bOr u v ev S=some (b,S2):=by simp[bOr,h,q]
theorem e_2{op:D->D->Option D}{f g:E}{x y z:D}{S2:Sto}(h:f ev S=some (x,S1))(q:g ev S1=some (y,S2))(o:op x y=some z):e2 op f g ev S=some (z,S2):=by simp[e2,h,q,o]
theorem qm{op:Sto->D->D->Option D}{f g:E}{x y z:D}{S2:Sto}(h:f ev S=some (x,S1))(q:g ev S1=some (y,S2))(o:op S2 x y=some z):e2s op f g ev S=some (z,S2):=by simp[e2s,h,q,o]
theorem e_v{i:Nat}(h:ev[i]? = some (some d)):eV i ev S=some (d,S):=by simp[eV,h]
theorem e_k:eK d ev S=some (d,S):=rfl
theorem a_n:aN ev S=some ([],S):=rfl
theorem a_c{f:E}{g:As}{ds:List D}{S2:Sto}(h:f ev S=some (d,S1))(q:g ev S1=some (ds,S2)):aC f g ev S=some (d::ds,S2):=by simp[aC,h,q]
theorem zi{g:G}{a:As}{ds:List D}{S2:Sto}(h:a ev S=some (ds,S1))(q:g ds S1=some (d,S2)):zm g a ev S=some (d,S2):=by simp[zm,h,q]
theorem e_a{op:Sto->List D->Option D}{a:As}{ds:List D}(h:a ev S=some (ds,S1))(o:op S1 ds=some d):eA op a ev S=some (d,S1):=by simp[eA,h,o]
theorem x4{a:As}{ds:List D}(h:a ev S=some (ds,S1))(hl:ds.length<=16777216):yn a ev S=some (.tup ds,S1):=by have hz:sizeLine=16777216:=z60;simp[yn,eA,h,hz,hl]
theorem zlq{a:As}{ds:List D}(h:a ev S=some (ds,S1))(hl:ds.length<=16777216):zmd a ev S=some (.lst ds,S1):=by have hz:sizeLine=16777216:=z60;simp[zmd,eA,h,hz,hl]
theorem zpa{a:As}{ds:List D}(h:a ev S=some (ds,S1))(hl:ds.length<=16777216):zi1 a ev S=some (.obj S1.length,S1++[.lst ds]):=by have hz:sizeLine=16777216:=z60;simp[zi1,h,hz,hl]
theorem j8{c m:Str}{g:G}{f:E}{a:As}{i:Nat}{fs:List (Str×D)}{ds:List D}{S2 S3:Sto}(h:f ev S=some (.obj i,S1))(hi:zd3 c S1 (.obj i)=some (i,fs))(hm:fs.lookup m=none)(ha:a ev S1=some (ds,S2))(q:g (.obj i::ds) S2=some (d,S3)) :
   xq c m g f a ev S=some (d,S3):=by simp[xq,h,hi,hm,ha,q]
theorem z29{c n:Str}{f:E}{i:Nat}{fs:List (Str×D)}(h:f ev S=some (.obj i,S1))(hi:zd3 c S1 (.obj i)=some (i,fs))(hm:fs.lookup n=some d):zw0 c n f ev S=some (d,S1):=by simp[zw0,h,hi,hm]
theorem z1d{f:E}{a b:Pt}{x:D}{lo hi:Option Int}{S2 S3:Sto}(h:f ev S=some (x,S1))(ha:a ev S1=some (lo,S2))(hb:b ev S2=some (hi,S3))(o:zyr x lo hi=some d):eSl f a b ev S=some (d,S3):=by simp[eSl,h,ha,hb,o]
theorem p_n:pN ev S=some (none,S):=rfl
theorem p_e{f:E}{i:Int}(h:f ev S=some (.int i,S1)):pE f ev S=some (some i,S1):=by simp[pE,h]
theorem ztt{f g:E}{S2:Sto}(h:f ev S=some (.bl true,S1))(q:g ev S1=some (d,S2)):zh8 f g ev S=some (d,S2):=by simp[zh8,h,q]
theorem z0e{f g:E}(h:f ev S=some (.bl false,S1)):zh8 f g ev S=some (.bl false,S1):=by simp[zh8,h]
theorem z0d{f:E}{b:Bool}(h:f ev S=some (.bl b,S1)):zwz f ev S=some (.bl !b,S1):=by simp[zwz,e1,h]
theorem add_int(i j:Int):qu (.int i) (.int j)=some (.int (i+j)):=rfl
theorem sub_int(i j:Int):yp (.int i) (.int j)=some (.int (i-j)):=rfl
theorem zgt{xs ys:List D}(h:xs.length+ys.length<=16777216):qu (.lst xs) (.lst ys)=some (.lst (xs++ys)):=by have hz:sizeLine=16777216:=z60;simp[qu,hz,h]
theorem zgs{x:D}{xs ys:List D}(h:(x::xs).length+ys.length<=16777216):qu (.tup (x::xs)) (.tup ys)=some (.tup (x::xs++ys)):=by have hz:sizeLine=16777216:=z60;simp only[qu,hz,z6a h]
def pl:Nat->D->Bool
 |_,.non=>true
 |_,.bl _=>true
 |_,.int _=>true
 |_,.str _=>true
 |n+1,.tup ds=>ds.all (pl n)
 |n+1,.lst ds=>ds.all (pl n)
 |_,_=>false
theorem zga{f:D->D->Option Bool}:∀{ds:List D},(∀x∈ds,f x x=some true)->eqL f ds ds=some true
 | [],_=>rfl
 |x::ds,h=>by simp[eqL,h x (by simp),zga fun y hy=>h y (z5n _ hy)]
theorem zkg:∀{n:Nat}{d:D},pl n d=true->eqN n d d=some true:=by
 intro n
 induction n with
 |zero=>intro d h;cases d<;>first | (cases h;done) | simp[eqN,eqF,zcz,eqV]
 | succ n ih=>
   intro d h;cases d with
   | tup ds=>
     have h:ds.all (pl n)=true:=h;exact zga fun x hx=>ih (z6m.mp h x hx)
   | lst ds=>
     have h:ds.all (pl n)=true:=h;have q:eqL (eqN n) ds ds=some true:=zga fun x hx=>ih (z6m.mp h x hx);simp[eqN,q]
   |_=>first | (cases h;done) | simp[eqN,eqF,zcz,eqV,zoe]
theorem zik:∀{n m:Nat}{d:D},n<=m->pl n d=true->pl m d=true:=by
 intro n
 induction n with
 |zero=>intro m d _ h;cases d<;>first | (cases h;done) | (cases m<;>rfl)
 | succ n ih=>
   intro m d hm h;cases m with
   |zero=>omega
   | succ m=>
     cases d with
     |tup ds=>exact z6m.mpr fun x hx=>ih (by omega) (z6m.mp h x hx)
     |lst ds=>exact z6m.mpr fun x hx=>ih (by omega) (z6m.mp h x hx)
     |_=>first | (cases h;done) | rfl
theorem zx9{x:D}(h:Ky x):pl 0 x=true:=by rcases h with⟨i,rfl⟩ | ⟨z,rfl,_⟩<;>rfl
theorem z16{n:Nat}{x:D}(hx:Th k n x):pl 1 x=true:=by obtain⟨_,xs,rfl,_,h⟩:=hx;exact z6m.mpr fun z hz=>zx9 (h z hz)
theorem zqw{x:D}(hx:Thing k x):pl 1 x=true:=by obtain⟨_,a,i,rfl,ha⟩:=hx;show(pl 0 a&&true)=true;rw[zx9 ha];rfl
theorem zwc(h:pl 150 d=true):kl d d=some (.bl true):=by unfold kl;rw[zkg h];rfl
theorem zyv(h:pl 150 d=true):zgv d d=some (.bl false):=by unfold zgv;rw[zkg h];rfl
theorem ztq(hts:∀x∈ts,Thing k x):kl (zag k ts) (zag k ts)=some (.bl true):=by
 by_cases hk:k=0
 · subst hk;rw[zdg];rfl
 · cases ts with
   |nil=>rfl
   |cons x r=>exact zwc (zik (by decide) (z16 (zgy hk (by simp) hts)))
theorem zs3(hts:∀x∈ts,Thing k x):pl 2 (.lst ts)=true:=z6m.mpr fun x hx=>zqw (hts x hx)
theorem jh{N n:Nat}{c:C}{ds:List D}{S S':Sto}{d:D}(hl:ds.length=n)(h:c (ds.map some++List.replicate (N-ds.length) none) S=some (.rt d,S')):qa N n c ds S=some (d,S'):=by unfold qa;rw[z6a hl,h]
theorem zv{f:E}(h:f ev S=some (d,S1)):ql f ev S=some (.rt d,S1):=by simp[ql,h]
theorem qg{a b:C}(h:a ev S=some (.rt d,S1)):z5 a b ev S=some (.rt d,S1):=by simp[z5,h]
theorem zh{a b:C}{o:Out}{S2:Sto}(h:a ev S=some (.nx e,S1))(q:b e S1=some (o,S2)):z5 a b ev S=some (o,S2):=by simp[z5,h,q]
def low:Nat->Nat
 |0=>0
 |1=>1
 |h+2=>low (h+1)+low h+1
theorem zq8:∀h:Nat,low h<=low (h+1)
 |0=>by decide
 |1=>by decide
 | h+2=>by show low (h+2)<=low (h+2)+low (h+1)+1;omega
theorem zfw{a b:Nat}(h:a<=b):low a<=low b:=by
 induction b with
 |zero=>rw[Nat.le_zero.mp h];exact z5o _
 | succ b ih=>
   rcases z7e a (b+1)with q | q
   · exact z57 (ih (by omega)) (zq8 b)
   · rw[z84 h q];exact z5o _
theorem zy0{k:Nat}{d:D}{ts:List D}{h:Nat}(m:Mk k d ts h):low h<=ts.length:=by
 induction m with
 |non=>decide
 | @node num a l t r lt rt lh rh ml mr ht h1 h2 il ir=>
   rw[xw,z5l,List.length_cons];rcases Nat.le_total lh rh with q | q
   · rw[z9o q];cases rh with
     | zero => have:lh=0:=by omega
               subst this;show 1<=_;omega
     | succ rh=>
       show low (rh+1)+low rh+1<=_;have:=zfw (show rh<=lh by omega);omega
   · rw[Nat.max_eq_left q];cases lh with
     | zero => have:rh=0:=by omega
               subst this;show 1<=_;omega
     | succ lh=>
       show low (lh+1)+low lh+1<=_;have:=zfw (show lh<=rh by omega);omega
theorem yf{x j:Int}(h:0<j):q9 (.int x) (.int j)=some (.int (x%j)):=by simp[q9,F.opI,z2g,h]
theorem zhq{x j:Int}(h:0<j/\j<1073741824):zbj (.int x) (.int j)=some (.int (x/j)):=by simp[zbj,F.opI,z3a,h]
theorem zj3{x y:Int}(h:-(2^64)<x/\x<2^64):zak (.int x) (.int y)=some (.int (x*y)):=by simp only[zak,F.opI,z02];rw[z6a (.inl h)];rfl
theorem zg9{x y:Int}(h:-(2^64)<y/\y<2^64):zak (.int x) (.int y)=some (.int (x*y)):=by simp only[zak,F.opI,z02];rw[z6a (.inr (.inl h))];rfl
theorem zdu(S:Sto)(x:MO):(S++[x])[S.length]? = some x:=by simp
end Pg
namespace Pg
open PySem L2 F
noncomputable section
def up:Up:=⟨["NoThing"],["Changed", "NoBalance", "NoMore", "NoName", "NoNumber", "NoPlace", "NoRow", "NoSum", "NoThing", "NoWay", "TooMany"]⟩
def lt_0:LT where
 params:={posonlyargs:=[],args:=[{ arg:="one",annotation:=none,pos:=⟨308,18,308,21⟩:PySem.Arg },{ arg:="other",annotation:=none,pos:=⟨308,23,308,28⟩:PySem.Arg }],vararg:=none,kwonlyargs:=[],kw_defaults:=[],kwarg:=none,defaults:=[]:PySem.Arguments }
 body:=(PySem.Expr.Call
  (func:=(PySem.Expr.Name "before" ⟨308,30,308,36⟩))
  (args:=[(PySem.Expr.Subscript
  (value:=(PySem.Expr.Name "one" ⟨308,37,308,40⟩))
  (slice:=(PySem.Expr.Name "KEY" ⟨308,41,308,44⟩))
  (pos:=⟨308,37,308,45⟩)),(PySem.Expr.Subscript
  (value:=(PySem.Expr.Name "other" ⟨308,47,308,52⟩))
  (slice:=(PySem.Expr.Name "KEY" ⟨308,53,308,56⟩))
  (pos:=⟨308,47,308,57⟩))])
  (keywords:=[])
  (pos:=⟨308,30,308,58⟩))
 scope:={kind:=PySem.ScopeKind.function,names:=[(PySem.Str.ofString "one",PySem.NameKind.local),(PySem.Str.ofString "other",PySem.NameKind.local),(PySem.Str.ofString "before",PySem.NameKind.free),(PySem.Str.ofString "KEY",PySem.NameKind.globalImplicit)],isGenerator:=false,isCoroutine:=false,more:=[]:PySem.Scope }
 qual:=(("by_key":Str)++".<locals>.")++"<lambda>"
 caps:=["before"]
def lt_1:LT where
 params:={posonlyargs:=[],args:=[{ arg:="_law_one",annotation:=none,pos:=⟨368,25,368,33⟩:PySem.Arg },{ arg:="_law_other",annotation:=none,pos:=⟨368,35,368,45⟩:PySem.Arg }],vararg:=none,kwonlyargs:=[],kw_defaults:=[],kwarg:=none,defaults:=[]:PySem.Arguments }
 body:=(PySem.Expr.Compare
  (left:=(PySem.Expr.Call
  (func:=(PySem.Expr.Name "_law_key" ⟨368,47,368,55⟩))
  (args:=[(PySem.Expr.Name "_law_kind" ⟨368,56,368,65⟩),(PySem.Expr.Name "_law_one" ⟨368,67,368,75⟩)])
  (keywords:=[])
  (pos:=⟨368,47,368,76⟩)))
  (ops:=[PySem.CmpOp.Lt])
  (comparators:=[(PySem.Expr.Call
  (func:=(PySem.Expr.Name "_law_key" ⟨368,79,368,87⟩))
  (args:=[(PySem.Expr.Name "_law_kind" ⟨368,88,368,97⟩),(PySem.Expr.Name "_law_other" ⟨368,99,368,109⟩)])
  (keywords:=[])
  (pos:=⟨368,79,368,110⟩))])
  (pos:=⟨368,47,368,110⟩))
 scope:={kind:=PySem.ScopeKind.function,names:=[(PySem.Str.ofString "_law_one",PySem.NameKind.local),(PySem.Str.ofString "_law_other",PySem.NameKind.local),(PySem.Str.ofString "_law_kind",PySem.NameKind.free),(PySem.Str.ofString "_law_key",PySem.NameKind.globalImplicit)],isGenerator:=false,isCoroutine:=false,more:=[]:PySem.Scope }
 qual:=(("_law_done":Str)++".<locals>.")++"<lambda>"
 caps:=["_law_kind"]
def lt_2:LT where
 params:={posonlyargs:=[],args:=[{ arg:="_law_pair",annotation:=none,pos:=⟨385,46,385,55⟩:PySem.Arg }],vararg:=none,kwonlyargs:=[],kw_defaults:=[],kwarg:=none,defaults:=[]:PySem.Arguments }
 body:=(PySem.Expr.Call
  (func:=(PySem.Expr.Name "_law_key" ⟨385,57,385,65⟩))
  (args:=[(PySem.Expr.Name "_law_kind" ⟨385,66,385,75⟩),(PySem.Expr.Subscript
  (value:=(PySem.Expr.Name "_law_pair" ⟨385,77,385,86⟩))
  (slice:=(PySem.Expr.Constant (PySem.Const.int 0) 0 ⟨385,87,385,88⟩))
  (pos:=⟨385,77,385,89⟩))])
  (keywords:=[])
  (pos:=⟨385,57,385,90⟩))
 scope:={kind:=PySem.ScopeKind.function,names:=[(PySem.Str.ofString "_law_pair",PySem.NameKind.local),(PySem.Str.ofString "_law_kind",PySem.NameKind.free),(PySem.Str.ofString "_law_key",PySem.NameKind.globalImplicit)],isGenerator:=false,isCoroutine:=false,more:=[]:PySem.Scope }
 qual:=(("_law_pairs":Str)++".<locals>.")++"<lambda>"
 caps:=["_law_kind"]
def lt_3:LT where
 params:={posonlyargs:=[],args:=[{ arg:="_law_one",annotation:=none,pos:=⟨397,25,397,33⟩:PySem.Arg },{ arg:="_law_other",annotation:=none,pos:=⟨397,35,397,45⟩:PySem.Arg }],vararg:=none,kwonlyargs:=[],kw_defaults:=[],kwarg:=none,defaults:=[]:PySem.Arguments }
 body:=(PySem.Expr.Compare
  (left:=(PySem.Expr.Call
  (func:=(PySem.Expr.Name "_law_key" ⟨397,47,397,55⟩))
  (args:=[(PySem.Expr.Name "_law_kind" ⟨397,56,397,65⟩),(PySem.Expr.Name "_law_one" ⟨397,67,397,75⟩)])
  (keywords:=[])
  (pos:=⟨397,47,397,76⟩)))
  (ops:=[PySem.CmpOp.Lt])
  (comparators:=[(PySem.Expr.Call
  (func:=(PySem.Expr.Name "_law_key" ⟨397,79,397,87⟩))
  (args:=[(PySem.Expr.Name "_law_kind" ⟨397,88,397,97⟩),(PySem.Expr.Name "_law_other" ⟨397,99,397,109⟩)])
  (keywords:=[])
  (pos:=⟨397,79,397,110⟩))])
  (pos:=⟨397,47,397,110⟩))
 scope:={kind:=PySem.ScopeKind.function,names:=[(PySem.Str.ofString "_law_one",PySem.NameKind.local),(PySem.Str.ofString "_law_other",PySem.NameKind.local),(PySem.Str.ofString "_law_kind",PySem.NameKind.free),(PySem.Str.ofString "_law_key",PySem.NameKind.globalImplicit)],isGenerator:=false,isCoroutine:=false,more:=[]:PySem.Scope }
 qual:=(("_law_valued":Str)++".<locals>.")++"<lambda>"
 caps:=["_law_kind"]
def lt_4:LT where
 params:={posonlyargs:=[],args:=[{ arg:="_law_one",annotation:=none,pos:=⟨406,26,406,34⟩:PySem.Arg },{ arg:="_law_other",annotation:=none,pos:=⟨406,36,406,46⟩:PySem.Arg }],vararg:=none,kwonlyargs:=[],kw_defaults:=[],kwarg:=none,defaults:=[]:PySem.Arguments }
 body:=(PySem.Expr.BinOp
  (left:=(PySem.Expr.Name "_law_one" ⟨406,48,406,56⟩))
  (op:=PySem.Operator.Add)
  (right:=(PySem.Expr.Name "_law_other" ⟨406,59,406,69⟩))
  (pos:=⟨406,48,406,69⟩))
 scope:={kind:=PySem.ScopeKind.function,names:=[(PySem.Str.ofString "_law_one",PySem.NameKind.local),(PySem.Str.ofString "_law_other",PySem.NameKind.local)],isGenerator:=false,isCoroutine:=false,more:=[]:PySem.Scope }
 qual:=(("law":Str)++".<locals>.")++"<lambda>"
def z33:E :=
 (e2 qu (eV 0) (eV 1))
def z2v:G:=zbv 2 2 z33
open Classical in
def zhd:LT->Option G:=fun t=>
 if t=lt_4 then some z2v else
 none
def tabs:List (Str×Str):=[("_law_valued",(("_law_valued":Str)++".<locals>.")++"<lambda>"),("_law_pairs",(("_law_pairs":Str)++".<locals>.")++"<lambda>"),("by_key",(("by_key":Str)++".<locals>.")++"<lambda>"),("_law_done",(("_law_done":Str)++".<locals>.")++"<lambda>"),("law",(("law":Str)++".<locals>.")++"<lambda>")]
def zbb:C :=
 (z5 (zk5 "Wood" "adding" (eV 0) (eV 1)) (zk5 "Wood" "nodes_made" (eV 0) (eK (.int 0))))
def jb:G:=qa 2 2 zbb
def zi6:C :=
 (z5 (sIf (bE (e2 kl (eV 0) (eK (.int 3)))) (ql (e2 qu (e2 zak (e2 zbj (eV 1) (eK (.int 3))) (eK (.int 3))) (e2 q9 (e2 qu (eV 1) (eK (.int 1))) (eK (.int 3))))) ja) (z5 (sIf (bE (e2 kl (eV 0) (eK (.int 4)))) (ql (e2 yp (eK (.int 0)) (eV 1))) ja) (z5 (sIf (bE (e2 kl (eV 0) (eK (.int 7)))) (ql (e2 qu (zwf (eV 1) pN (pE (eK (.int 1)))) (eK (.str (Str.ofString "zz"))))) ja) (ql (eV 1)))))
def ym:G:=qa 2 2 zi6
def zi5:C :=
 (z5 (qo 2 (e2 qu (e2 zak (e2 zak (eV 1) (eV 1)) (eK (.int 7919))) (eK (.int 17)))) (z5 (sIf (bE (e2 zim (eA zer (aC (eV 0) aN)) (eK (.int 0)))) (qo 2 (e2 qu (e2 q9 (e2s qb (eV 0) (e2 q9 (eV 1) (eA zer (aC (eV 0) aN)))) (e2 zdl (eK (.int 10)) (eK (.int 30)))) (e2 zak (e2 zbj (eV 1) (eA zer (aC (eV 0) aN))) (eK (.int 104729))))) ja) (ql (e2 q9 (e2 zak (e2 q9 (e2 qu (e2 zak (eV 2) (eK (.int 48271))) (e2 zak (eV 1) (eK (.int 69621)))) (eK (.int 2147483647))) (e2 qu (e2 q9 (eV 2) (eK (.int 65521))) (eK (.int 3)))) (eK (.int 999999937))))))
def qh:G:=qa 3 2 zi5
def zl6:C :=
 (z5 (sIf (bE (e2 kl (eV 0) (eK (.int 1)))) (ql (e2 yp (eK (.int 0)) (eV 1))) ja) (z5 (sIf (bE (e2 kl (eV 0) (eK (.int 2)))) (ql (yn (aC (e2 q9 (eV 1) (eK (.int 7))) (aC (eV 1) aN)))) ja) (z5 (sIf (bE (e2 kl (eV 0) (eK (.int 3)))) (ql (e2 zbj (eV 1) (eK (.int 3)))) ja) (z5 (sIf (bE (e2 kl (eV 0) (eK (.int 4)))) (ql (eA zw1 (aC (eV 1) aN))) ja) (z5 (sIf (bE (e2 kl (eV 0) (eK (.int 6)))) (ql (yn (aC (eA zer (aC (eV 1) aN)) (aC (eV 1) aN)))) ja) (z5 (sIf (bE (e2 kl (eV 0) (eK (.int 7)))) (ql (zwf (eV 1) pN (pE (eK (.int 1))))) ja) (ql (eV 1))))))))
def qi:G:=qa 2 2 zl6
def xo:G:=zvx 2 1 "by_key" lt_0 [0]
def zgk:C :=
 (sIf (zcx (bE (zhp zeu zg8 (eK (.int 0)) (eV 0) (eV 1)))) zco ja)
def j9:G:=qa 2 2 zgk
def z0n:C :=
 (z5 (sIf (bE (e2 zdm (eV 0) (eK .non))) (ql (eK (.int 0))) ja) (ql (e2s qb (eV 0) (eK (.int 5)))))
def xa:G:=qa 1 1 z0n
def zba:C :=
 (z5 (qo 2 (zw0 "Wood" "nodes_made" (eV 0))) (z5 (zk5 "Wood" "nodes_made" (eV 0) (e2 qu (eV 2) (eK (.int 1)))) (ql (e2 qu (yn (aC (eV 2) aN)) (eV 1)))))
def j7:G:=qa 3 2 zba
def zhy:C :=
 (sIf (bE (e2 zim (eV 0) (eK (.int 2000)))) zco ja)
def kg:G:=qa 1 1 zhy
def zr9:C :=
 (z5 (sIf (bE (e2 zdm (eV 0) (eK .non))) (ql (eK (.int 0))) ja) (ql (e2s qb (eV 0) (eK (.int 6)))))
def jk:G:=qa 1 1 zr9
def zbp:C :=
 (ql (e2 qu (eK (.int 1)) (eA zy2 (aC (zm jk (aC (eV 0) aN)) (aC (zm jk (aC (eV 1) aN)) aN)))))
def xf:G:=qa 2 2 zbp
def zcw:C :=
 (ql (e2 zeu (eA zw1 (aC (e2 yp (zm jk (aC (eV 0) aN)) (zm jk (aC (eV 1) aN))) aN)) (eK (.int 1))))
def j6:G:=qa 2 2 zcw
def zcv:C :=
 (ql (e2 qu (e2 qu (zm xa (aC (eV 0) aN)) (eK (.int 1))) (zm xa (aC (eV 1) aN))))
def ke:G:=qa 2 2 zcv
def z0q:C :=
 (z5 (sIf (bE (e2 zdm (eV 0) (eK .non))) (ql (eK .non)) ja) (ql (e2s qb (eV 0) (eK (.int 8)))))
def zd6:G:=qa 1 1 z0q
def ft:Str->Option G:=fun x=>
 none
def zey:C :=
 (z5 (qo 4 (eV 2)) (z5 (sIf (bE (e2 yd (eV 3) (eK .non))) (qo 4 (zaf ft zhd (eV 0) (aC (zm zd6 (aC (eV 3) aN)) (aC (eV 4) aN)))) ja) (z5 (sIf (bE (e2 yd (eV 1) (eK .non))) (qo 4 (zaf ft zhd (eV 0) (aC (eV 4) (aC (zm zd6 (aC (eV 1) aN)) aN)))) ja) (ql (eV 4)))))
def y7:G:=qa 5 4 zey
def zwj:C :=
 (z5 (sIf (bE (e2 zdm (eV 0) (eK .non))) (ql (eK .non)) ja) (ql (e2s qb (eV 0) (eK (.int 7)))))
def zam:G:=qa 1 1 zwj
def zhx:C :=
 (z5 (qo 4 (eV 2)) (z5 (sIf (bE (e2 yd (eV 1) (eK .non))) (qo 4 (zaf ft zhd (eV 0) (aC (zm zam (aC (eV 1) aN)) (aC (eV 4) aN)))) ja) (z5 (sIf (bE (e2 yd (eV 3) (eK .non))) (qo 4 (zaf ft zhd (eV 0) (aC (eV 4) (aC (zm zam (aC (eV 3) aN)) aN)))) ja) (ql (eV 4)))))
def za5:G:=qa 5 4 zhx
def za8:C :=
 (z5 (sIf (bE (e2 zdm (eV 0) (eK .non))) (ql (yn (aC (eK .non) (aC (eK .non) aN)))) ja) (ql (yn (aC (zm za5 (aC (eV 0) (aC (eV 1) (aC (eV 2) (aC (eV 3) aN))))) (aC (zm y7 (aC (eV 0) (aC (eV 1) (aC (eV 2) (aC (eV 3) aN))))) aN)))))
def xm:G:=qa 4 4 za8
def zi7:C :=
 (z5 (qo 4 (zm ke (aC (eV 1) (aC (eV 3) aN)))) (z5 (zay (zm kg (aC (eV 4) aN))) (z5 (sIf (zcx (bE (zm j6 (aC (eV 1) (aC (eV 3) aN))))) zco ja) (z5 (qo 5 (yn (aC (eV 4) (aC (zm xf (aC (eV 1) (aC (eV 3) aN))) aN)))) (z5 (qo 6 (zm xm (aC (zw0 "Wood" "adding" (eV 0)) (aC (eV 1) (aC (eV 2) (aC (eV 3) aN)))))) (ql (xq "Wood" "numbered" j7 (eV 0) (aC (e2 qu (e2 qu (yn (aC (eK (.bl false)) (aC (eV 1) (aC (eV 2) (aC (eV 3) aN))))) (eV 5)) (eV 6)) aN))))))))
def qd:G:=qa 7 4 zi7
def zgm:C :=
 (z5 (sIf (bE (e2 zdm (eV 1) (eK .non))) (ql (eK .non)) ja) (z5 (qo 2 (yn (aC (e2s qb (eV 1) (eK (.int 2))) (aC (e2s qb (eV 1) (eK (.int 3))) (aC (e2s qb (eV 1) (eK (.int 4))) aN))))) (ql (xq "Wood" "numbered" j7 (eV 0) (aC (e2 qu (e2 qu (yn (aC (zwz (e2s qb (eV 1) (eK (.int 1)))) aN)) (eV 2)) (yn (aC (zm xa (aC (eV 1) aN)) (aC (zm jk (aC (eV 1) aN)) (aC (zm zd6 (aC (eV 1) aN)) (aC (zm zam (aC (eV 1) aN)) aN)))))) aN)))))
def qv:G:=qa 3 2 zgm
def zpl:C :=
 (z5 (sIf (zcx (bE (e2s qb (eV 1) (eK (.int 1))))) (ql (yn (aC (e2s qb (eV 1) (eK (.int 2))) (aC (e2s qb (eV 1) (eK (.int 3))) (aC (e2s qb (eV 1) (eK (.int 4))) aN))))) ja) (z5 (qo 2 (xq "Wood" "turned" qv (eV 0) (aC (e2s qb (eV 1) (eK (.int 4))) aN))) (z5 (qo 3 (xq "Wood" "turned" qv (eV 0) (aC (e2s qb (eV 1) (eK (.int 2))) aN))) (ql (yn (aC (eV 2) (aC (e2s qb (eV 1) (eK (.int 3))) (aC (eV 3) aN))))))))
def xb:G:=qa 4 2 zpl
def zgi:C :=
 (z5 (qo 4 (zm xb (aC (eV 0) (aC (eV 1) aN)))) (z5 (sIf (bE (e2 zta (zm jk (aC (e2s qb (eV 4) (eK (.int 0))) aN)) (zm jk (aC (e2s qb (eV 4) (eK (.int 2))) aN)))) (ql (xq "Wood" "node" qd (eV 0) (aC (e2s qb (eV 4) (eK (.int 0))) (aC (e2s qb (eV 4) (eK (.int 1))) (aC (xq "Wood" "node" qd (eV 0) (aC (e2s qb (eV 4) (eK (.int 2))) (aC (eV 2) (aC (eV 3) aN)))) aN))))) ja) (z5 (qo 5 (zm xb (aC (eV 0) (aC (e2s qb (eV 4) (eK (.int 2))) aN)))) (z5 (qo 6 (xq "Wood" "node" qd (eV 0) (aC (e2s qb (eV 4) (eK (.int 0))) (aC (e2s qb (eV 4) (eK (.int 1))) (aC (e2s qb (eV 5) (eK (.int 0))) aN))))) (z5 (qo 7 (xq "Wood" "node" qd (eV 0) (aC (e2s qb (eV 5) (eK (.int 2))) (aC (eV 2) (aC (eV 3) aN))))) (ql (xq "Wood" "node" qd (eV 0) (aC (eV 6) (aC (e2s qb (eV 5) (eK (.int 1))) (aC (eV 7) aN))))))))))
def zan:G:=qa 8 4 zgi
def zew:C :=
 (z5 (qo 4 (zm xb (aC (eV 0) (aC (eV 3) aN)))) (z5 (sIf (bE (e2 zta (zm jk (aC (e2s qb (eV 4) (eK (.int 2))) aN)) (zm jk (aC (e2s qb (eV 4) (eK (.int 0))) aN)))) (ql (xq "Wood" "node" qd (eV 0) (aC (xq "Wood" "node" qd (eV 0) (aC (eV 1) (aC (eV 2) (aC (e2s qb (eV 4) (eK (.int 0))) aN)))) (aC (e2s qb (eV 4) (eK (.int 1))) (aC (e2s qb (eV 4) (eK (.int 2))) aN))))) ja) (z5 (qo 5 (zm xb (aC (eV 0) (aC (e2s qb (eV 4) (eK (.int 0))) aN)))) (z5 (qo 6 (xq "Wood" "node" qd (eV 0) (aC (eV 1) (aC (eV 2) (aC (e2s qb (eV 5) (eK (.int 0))) aN))))) (z5 (qo 7 (xq "Wood" "node" qd (eV 0) (aC (e2s qb (eV 5) (eK (.int 2))) (aC (e2s qb (eV 4) (eK (.int 1))) (aC (e2s qb (eV 4) (eK (.int 2))) aN))))) (ql (xq "Wood" "node" qd (eV 0) (aC (eV 6) (aC (e2s qb (eV 5) (eK (.int 1))) (aC (eV 7) aN))))))))))
def y6:G:=qa 8 4 zew
def zl5:C :=
 (z5 (sIf (bE (zm j6 (aC (eV 1) (aC (eV 3) aN)))) (ql (xq "Wood" "node" qd (eV 0) (aC (eV 1) (aC (eV 2) (aC (eV 3) aN))))) ja) (z5 (sIf (bE (e2 zim (zm jk (aC (eV 1) aN)) (zm jk (aC (eV 3) aN)))) (ql (zm zan (aC (eV 0) (aC (eV 1) (aC (eV 2) (aC (eV 3) aN)))))) ja) (ql (zm y6 (aC (eV 0) (aC (eV 1) (aC (eV 2) (aC (eV 3) aN))))))))
def jx:G:=qa 4 4 zl5
def zr8(self:G):C :=
 (z5 (sIf (bE (zm j6 (aC (eV 1) (aC (eV 3) aN)))) (ql (xq "Wood" "node" qd (eV 0) (aC (eV 1) (aC (eV 2) (aC (eV 3) aN))))) ja) (z5 (sIf (bE (e2 zim (zm jk (aC (eV 1) aN)) (zm jk (aC (eV 3) aN)))) (z5 (qo 4 (zm xb (aC (eV 0) (aC (eV 1) aN)))) (ql (zm jx (aC (eV 0) (aC (e2s qb (eV 4) (eK (.int 0))) (aC (e2s qb (eV 4) (eK (.int 1))) (aC (zm (self) (aC (eV 0) (aC (e2s qb (eV 4) (eK (.int 2))) (aC (eV 2) (aC (eV 3) aN))))) aN))))))) ja) (z5 (qo 4 (zm xb (aC (eV 0) (aC (eV 3) aN)))) (ql (zm jx (aC (eV 0) (aC (zm (self) (aC (eV 0) (aC (eV 1) (aC (eV 2) (aC (e2s qb (eV 4) (eK (.int 0))) aN))))) (aC (e2s qb (eV 4) (eK (.int 1))) (aC (e2s qb (eV 4) (eK (.int 2))) aN)))))))))
def kx:Nat->G
 |0=>fun _ _=>none
 |k+1=>qa 5 4 (zr8 (kx k))
def z0o:C :=
 (z5 (sIf (bE (e2 kl (e2s qb (eV 0) (eK (.int 1))) (eV 1))) (ql (yn (aC (e2s qb (eV 0) (eK (.int 2))) (aC (e2s qb (eV 0) (eK (.int 3))) (aC (e2s qb (eV 0) (eK (.int 4))) (aC (eK (.bl false)) aN)))))) ja) (ql (yn (aC (e2s qb (eV 0) (eK (.int 4))) (aC (e2s qb (eV 0) (eK (.int 3))) (aC (e2s qb (eV 0) (eK (.int 2))) (aC (eK (.bl true)) aN)))))))
def zhg:G:=qa 2 2 z0o
def zl0(self:G):C :=
 (z5 (qo 3 (zm zhg (aC (eV 0) (aC (eV 1) aN)))) (z5 (qo 4 (zm xa (aC (e2s qb (eV 3) (eK (.int 0))) aN))) (z5 (sIf (bE (e2 zg8 (eV 2) (eV 4))) (ql (zm (self) (aC (e2s qb (eV 3) (eK (.int 0))) (aC (e2s qb (eV 3) (eK (.int 3))) (aC (eV 2) aN))))) ja) (z5 (sIf (bE (e2 zim (eV 2) (eV 4))) (ql (zm (self) (aC (e2s qb (eV 3) (eK (.int 2))) (aC (e2s qb (eV 3) (eK (.int 3))) (aC (e2 yp (e2 yp (eV 2) (eV 4)) (eK (.int 1))) aN))))) ja) (ql (e2s qb (eV 3) (eK (.int 1))))))))
def xl:Nat->G
 |0=>fun _ _=>none
 |k+1=>qa 5 3 (zl0 (xl k))
def za9(self:G):C :=
 (z5 (sIf (bE (e2 zdm (eV 1) (eK .non))) (ql (eV 2)) ja) (z5 (sIf (bE (e2 zdm (eV 2) (eK .non))) (ql (eV 1)) ja) (ql (zm (kx 40) (aC (eV 0) (aC (eV 1) (aC (zm (xl 40) (aC (eV 2) (aC (eK (.bl false)) (aC (eK (.int 0)) aN)))) (aC (zm (self) (aC (eV 0) (aC (eV 2) (aC (eK (.int 0)) aN)))) aN))))))))
def ju(self:G):G:=qa 3 3 (za9 self)
def zei(self aux:G):C :=
 (z5 (qo 3 (zm xb (aC (eV 0) (aC (eV 1) aN)))) (z5 (qo 4 (zm xa (aC (e2s qb (eV 3) (eK (.int 0))) aN))) (z5 (sIf (bE (e2 zg8 (eV 2) (eV 4))) (ql (zm jx (aC (eV 0) (aC (zm (self) (aC (eV 0) (aC (e2s qb (eV 3) (eK (.int 0))) (aC (eV 2) aN)))) (aC (e2s qb (eV 3) (eK (.int 1))) (aC (e2s qb (eV 3) (eK (.int 2))) aN)))))) ja) (z5 (sIf (bE (e2 zim (eV 2) (eV 4))) (ql (zm jx (aC (eV 0) (aC (e2s qb (eV 3) (eK (.int 0))) (aC (e2s qb (eV 3) (eK (.int 1))) (aC (zm (self) (aC (eV 0) (aC (e2s qb (eV 3) (eK (.int 2))) (aC (e2 yp (e2 yp (eV 2) (eV 4)) (eK (.int 1))) aN)))) aN)))))) ja) (ql (zm (aux) (aC (eV 0) (aC (e2s qb (eV 3) (eK (.int 0))) (aC (e2s qb (eV 3) (eK (.int 2))) aN)))))))))
def jt:Nat->G
 |0=>fun _ _=>none
 |k+1=>qa 5 3 (zei (jt k) (ju (jt k)))
def yg:G:=ju (jt 40)
def z3e:C :=
 (z5 (zay (zm j9 (aC (eV 2) (aC (zm xa (aC (eV 1) aN)) aN)))) (ql (zm (jt 40) (aC (eV 0) (aC (eV 1) (aC (eV 2) aN))))))
def zrf:G:=qa 3 3 z3e
def z5b:C :=
 (z5 (zay (zm j9 (aC (eV 1) (aC (zm xa (aC (eV 0) aN)) aN)))) (ql (zm (xl 40) (aC (eV 0) (aC (eK (.bl false)) (aC (eV 1) aN))))))
def zzv:G:=qa 2 2 z5b
def z1b:E :=
 (e2 zil (zm qi (aC (eV 2) (aC (eV 0) aN))) (zm qi (aC (eV 2) (aC (eV 1) aN))))
def zwx:G:=zbv 3 3 z1b
def z1a:E :=
 (zm qi (aC (eV 1) (aC (e2s qb (eV 0) (eK (.int 0))) aN)))
def z08:G:=zbv 2 2 z1a
def z2x:E :=
 (e2 zil (zm qi (aC (eV 2) (aC (eV 0) aN))) (zm qi (aC (eV 2) (aC (eV 1) aN))))
def z2w:G:=zbv 3 3 z2x
open Classical in
def zgd:LT->Option G:=fun t=>
 if t=lt_1 then some zwx else
 if t=lt_2 then some z08 else
 if t=lt_3 then some z2w else
 none
def z2y:E :=
 (zcb (fun _=>none) (fun _=>none) zgd (eV 2) (aC (e2s qb (eV 0) (eK (.int 0))) (aC (e2s qb (eV 1) (eK (.int 0))) aN)))
def zzs:G:=zbv 3 3 z2y
open Classical in
def zr2:LT->Option G:=fun t=>
 if t=lt_0 then some zzs else
 none
def zgj:C :=
 (ql (zh8 (e2 zg8 (eV 1) (zm xa (aC (eV 0) aN))) (zwz (zcb ft zhd zr2 (eV 3) (aC (eV 2) (aC (zm zzv (aC (eV 0) (aC (eV 1) aN))) aN))))))
def qy:G:=qa 4 4 zgj
def zex(self:G):C :=
 (z5 (sIf (bE (e2 zdm (eV 0) (eK .non))) (ql (eK (.int 0))) ja) (z5 (qo 4 (zm zhg (aC (eV 0) (aC (eV 1) aN)))) (z5 (sIf (bE (zcb ft zhd zr2 (eV 3) (aC (e2s qb (eV 4) (eK (.int 1))) (aC (eV 2) aN)))) (ql (e2 qu (e2 qu (zm xa (aC (e2s qb (eV 4) (eK (.int 0))) aN)) (eK (.int 1))) (zm (self) (aC (e2s qb (eV 4) (eK (.int 2))) (aC (e2s qb (eV 4) (eK (.int 3))) (aC (eV 2) (aC (eV 3) aN))))))) ja) (ql (zm (self) (aC (e2s qb (eV 4) (eK (.int 0))) (aC (e2s qb (eV 4) (eK (.int 3))) (aC (eV 2) (aC (eV 3) aN)))))))))
def x5:Nat->G
 |0=>fun _ _=>none
 |k+1=>qa 5 4 (zex (x5 k))
def zl1:C :=
 (ql (zm (x5 40) (aC (eV 0) (aC (eK (.bl false)) (aC (eV 1) (aC (eV 2) aN))))))
def xx:G:=qa 3 3 zl1
def zc1:C :=
 (z5 (qo 3 (zm xx (aC (eV 0) (aC (eV 1) (aC (eV 2) aN))))) (z5 (sIf (zcx (bE (zm qy (aC (eV 0) (aC (eV 3) (aC (eV 1) (aC (eV 2) aN))))))) zco ja) (ql (eV 3))))
def q8:G:=qa 4 3 zc1
def zab:R :=
 (zxv (qo 3 (zm xx (aC (eV 0) (aC (eV 1) (aC (eV 2) aN))))) (rIf (zcx (bE (zm qy (aC (eV 0) (aC (eV 3) (aC (eV 1) (aC (eV 2) aN))))))) (zju "NoThing" (aC (eK (.str (Str.ofString "nothing alike is there"))) aN)) zxw))
def jf:GR:=zgp 4 3 zab
def zpn:C :=
 (ql (zm zrf (aC (eV 0) (aC (eV 1) (aC (zm q8 (aC (eV 1) (aC (eV 2) (aC (eV 3) aN)))) aN)))))
def zb5:G:=qa 4 4 zpn
def ze3:R :=
 (zk9 (eV 0) (zk9 (eV 1) (zij jf (aC (eV 1) (aC (eV 2) (aC (eV 3) aN))))))
def zad:GR:=zgp 4 4 ze3
def zr6:C :=
 (ql (yn (aC (eV 0) (aC (eK .non) aN))))
def yu:G:=qa 1 1 zr6
def zpj:C :=
 (ql (zm zb5 (aC (eV 0) (aC (eV 1) (aC (zm yu (aC (eV 2) aN)) (aC (zm xo (aC (eV 3) aN)) aN))))))
def za4:G:=qa 4 4 zpj
def ze2:R :=
 (zij zad (aC (eV 0) (aC (eV 1) (aC (zm yu (aC (eV 2) aN)) (aC (zm xo (aC (eV 3) aN)) aN)))))
def zac:GR:=zgp 4 4 ze2
def zez:C :=
 (z5 (qo 4 (zmd aN)) (z5 (zxq (zay (zm za4 (aC (eV 0) (aC (eV 1) (aC (eV 2) (aC (eV 3) aN)))))) (zij zac (aC (eV 0) (aC (eV 1) (aC (eV 2) (aC (eV 3) aN))))) up.cat 5 (z5 (qo 6 (eA (zth up) (aC (eV 5) (aC (yn (aC (eK (.fn "Changed")) (aC (eK (.fn "NoBalance")) (aC (eK (.fn "NoMore")) (aC (eK (.fn "NoName")) (aC (eK (.fn "NoNumber")) (aC (eK (.fn "NoPlace")) (aC (eK (.fn "NoRow")) (aC (eK (.fn "NoSum")) (aC (eK (.fn "NoWay")) (aC (eK (.fn "TooMany")) aN))))))))))) aN)))) (qo 4 (zmd (aC (eA (zth up) (aC (eV 5) (aC (eK (.fn "NoThing")) aN))) (aC (eA (zth up) (aC (eV 5) (aC (eK (.ty "ValueError")) aN))) (aC (eV 6) aN))))))) (ql (eV 4))))
def y8:G:=frz (qa 7 4 zez)
def zr7(self:G):C :=
 (z5 (sIf (bE (e2 zdm (eV 1) (eK .non))) (ql (xq "Wood" "node" qd (eV 0) (aC (eK .non) (aC (eV 3) (aC (eK .non) aN))))) ja) (z5 (qo 4 (zm xb (aC (eV 0) (aC (eV 1) aN)))) (z5 (qo 5 (zm xa (aC (e2s qb (eV 4) (eK (.int 0))) aN))) (z5 (sIf (bE (e2 zeu (eV 2) (eV 5))) (ql (zm jx (aC (eV 0) (aC (zm (self) (aC (eV 0) (aC (e2s qb (eV 4) (eK (.int 0))) (aC (eV 2) (aC (eV 3) aN))))) (aC (e2s qb (eV 4) (eK (.int 1))) (aC (e2s qb (eV 4) (eK (.int 2))) aN)))))) ja) (ql (zm jx (aC (eV 0) (aC (e2s qb (eV 4) (eK (.int 0))) (aC (e2s qb (eV 4) (eK (.int 1))) (aC (zm (self) (aC (eV 0) (aC (e2s qb (eV 4) (eK (.int 2))) (aC (e2 yp (e2 yp (eV 2) (eV 5)) (eK (.int 1))) (aC (eV 3) aN))))) aN))))))))))
def zc5:Nat->G
 |0=>fun _ _=>none
 |k+1=>qa 6 4 (zr7 (zc5 k))
def z3d:C :=
 (z5 (zay (zm j9 (aC (eV 2) (aC (e2 qu (zm xa (aC (eV 1) aN)) (eK (.int 1))) aN)))) (z5 (zay (zm kg (aC (e2 qu (zm xa (aC (eV 1) aN)) (eK (.int 1))) aN))) (ql (zm (zc5 40) (aC (eV 0) (aC (eV 1) (aC (eV 2) (aC (eV 3) aN))))))))
def zre:G:=qa 4 4 z3d
def zwk(self:G):C :=
 (z5 (qo 4 (zm xb (aC (eV 0) (aC (eV 1) aN)))) (z5 (qo 5 (zm xa (aC (e2s qb (eV 4) (eK (.int 0))) aN))) (z5 (sIf (bE (e2 zg8 (eV 2) (eV 5))) (ql (xq "Wood" "node" qd (eV 0) (aC (zm (self) (aC (eV 0) (aC (e2s qb (eV 4) (eK (.int 0))) (aC (eV 2) (aC (eV 3) aN))))) (aC (e2s qb (eV 4) (eK (.int 1))) (aC (e2s qb (eV 4) (eK (.int 2))) aN))))) ja) (z5 (sIf (bE (e2 zim (eV 2) (eV 5))) (ql (xq "Wood" "node" qd (eV 0) (aC (e2s qb (eV 4) (eK (.int 0))) (aC (e2s qb (eV 4) (eK (.int 1))) (aC (zm (self) (aC (eV 0) (aC (e2s qb (eV 4) (eK (.int 2))) (aC (e2 yp (e2 yp (eV 2) (eV 5)) (eK (.int 1))) (aC (eV 3) aN))))) aN))))) ja) (ql (xq "Wood" "node" qd (eV 0) (aC (e2s qb (eV 4) (eK (.int 0))) (aC (eV 3) (aC (e2s qb (eV 4) (eK (.int 2))) aN)))))))))
def zf6:Nat->G
 |0=>fun _ _=>none
 |k+1=>qa 6 4 (zwk (zf6 k))
def zpk:C :=
 (z5 (zay (zm j9 (aC (eV 2) (aC (zm xa (aC (eV 1) aN)) aN)))) (ql (zm (zf6 40) (aC (eV 0) (aC (eV 1) (aC (eV 2) (aC (eV 3) aN)))))))
def zd5:G:=qa 4 4 zpk
def zhw:C :=
 (z5 (qo 5 (yn (aC (eV 2) (aC (eV 3) aN)))) (z5 (qo 6 (zm xo (aC (eV 4) aN))) (z5 (qo 7 (zm xx (aC (eV 1) (aC (eV 5) (aC (eV 6) aN))))) (z5 (sIf (bE (zm qy (aC (eV 1) (aC (eV 7) (aC (eV 5) (aC (eV 6) aN)))))) (ql (zm zd5 (aC (eV 0) (aC (eV 1) (aC (eV 7) (aC (eV 5) aN)))))) ja) (ql (zm zre (aC (eV 0) (aC (eV 1) (aC (eV 7) (aC (eV 5) aN))))))))))
def x9:G:=qa 8 5 zhw
def zi4(cl:zLA):C :=
 (z5 (qo 7 (zrw 3 "_law_done" { lt_1 with cl:=cl })) (z5 (qo 8 (xr [5,3] (zmc (eV 2)) (bE (e2 zgv (zm qi (aC (eV 1) (aC (e2s qb (eV 0) (eK (.int 0))) aN))) (zm qi (aC (eV 1) (aC (eV 2) aN))))) (eV 0))) (z5 (sIf (zsd (bE (eV 6)) (bE (e2 kl (eA zer (aC (eV 8) aN)) (eA zer (aC (eV 2) aN))))) (z5 (sIf (bE (e2 zgv (zcc y8 (aC (eV 0) (aC (eV 1) (aC (eV 3) aN))) 7 lt_1 cl [5]) (zmd (aC (eK (.bl true)) (aC (eK (.bl true)) (aC (eK (.bl false)) aN)))))) (ql (eK .non)) ja) (ql (yn (aC (eV 1) (aC (eV 2) aN))))) ja) (z5 (sIf (bE (eV 6)) (ql (yn (aC (zcc za4 (aC (eV 0) (aC (eV 1) (aC (eV 3) aN))) 7 lt_1 cl [5]) (aC (eV 8) aN)))) ja) (z5 (qo 9 (zls [5] fun kv=>xr [7,3] (zmc (eV 8)) (bE (zfe zwx 1 lt_1 cl kv (aC (e2s qb (eV 0) (eK (.int 0))) (aC (eV 2) aN)))) (eV 0))) (ql (yn (aC (zcc x9 (aC (eV 0) (aC (eV 1) (aC (eV 3) (aC (eV 4) aN)))) 7 lt_1 cl [5]) (aC (e2 qu (e2 qu (eV 9) (zmd (aC (yn (aC (eV 3) (aC (eV 4) aN))) aN))) (eSl (eV 8) (pE (eA zer (aC (eV 9) aN))) pN)) aN)))))))))
def yk:G:=gA fun cl=>qa 10 7 (zi4 cl)
def zhz:C :=
 (z5 (sIf (zsd (bE (e2 zg8 (eV 0) (eK (.int 5)))) (bE (e2 kl (e2 q9 (eV 1) (eK (.int 9))) (eK (.int 0))))) (ql (e2 yp (e2 qu (e2 q9 (e2 zak (e2 qu (eV 1) (eK (.int 5))) (e2 zdl (eK (.int 982451653)) (eK (.int 6)))) (e2 yp (e2 zak (eK (.int 2)) (e2 zdl (eK (.int 10)) (eK (.int 60)))) (eK (.int 7)))) (eK (.int 1))) (e2 zdl (eK (.int 10)) (eK (.int 60))))) ja) (z5 (sIf (bE (e2 zg8 (eV 0) (eK (.int 5)))) (ql (e2 yp (e2 q9 (e2 zbj (eV 1) (eK (.int 9))) (eK (.int 41))) (eK (.int 20)))) ja) (z5 (qo 2 (eK (.str (Str.ofString "")))) (z5 (zm6 3 (e2 qu (eK (.int 1)) (e2 q9 (eV 1) (eK (.int 8)))) (qo 2 (e2 qu (eV 2) (e2s qb (eK (.str (Str.ofString "abc"))) (e2 q9 (e2 zbj (eV 1) (e2s qb (yn (aC (eK (.int 8)) (aC (eK (.int 24)) (aC (eK (.int 72)) (aC (eK (.int 216)) (aC (eK (.int 648)) (aC (eK (.int 1944)) (aC (eK (.int 5832)) (aC (eK (.int 17496)) aN))))))))) (eV 3))) (eK (.int 3))))))) (ql (eV 2))))))
def jp:G:=qa 4 2 zhz
def zh1:C :=
 (z5 (qo 2 (zi1 aN)) (z5 (zm6 3 (e2 q9 (zm qh (aC (eV 0) (aC (eK (.int 2)) aN))) (eK (.int 10))) (z5 (qo 4 (zm qh (aC (eV 0) (aC (e2 qu (eK (.int 60)) (eV 3)) aN)))) (z5 (qo 5 (zm jp (aC (eV 1) (aC (eV 4) aN)))) (sIf (bE (e2 kl (xr [1,5] (zmc (eV 2)) (bE (e2 kl (zm qi (aC (eV 1) (aC (e2s qb (eV 0) (eK (.int 0))) aN))) (zm qi (aC (eV 1) (aC (eV 2) aN))))) (eV 0)) (zmd aN))) (zaz (eV 2) (yn (aC (eV 5) (aC (e2 q9 (eV 4) (eK (.int 100))) aN)))) ja)))) (ql (zho (eV 2) z08 1 "_law_pairs" lt_2 [1]))))
def ki:G:=frz (qa 6 2 zh1)
def zwl(self:G):C :=
 (z5 (sIf (bE (e2 kl (eV 2) (eV 3))) (ql (eK .non)) ja) (z5 (qo 4 (e2 zbj (e2 qu (eV 2) (eV 3)) (eK (.int 2)))) (z5 (qo 5 (zm (self) (aC (eV 0) (aC (eV 1) (aC (eV 2) (aC (eV 4) aN)))))) (z5 (qo 6 (zm (self) (aC (eV 0) (aC (eV 1) (aC (e2 qu (eV 4) (eK (.int 1))) (aC (eV 3) aN)))))) (ql (xq "Wood" "node" qd (eV 0) (aC (eV 5) (aC (e2s qb (eV 1) (eV 4)) (aC (eV 6) aN)))))))))
def zf7:Nat->G
 |0=>fun _ _=>none
 |k+1=>qa 7 4 (zwl (zf7 k))
def zpm:C :=
 (z5 (zay (zm kg (aC (eA zer (aC (eV 1) aN)) aN))) (ql (zm (zf7 40) (aC (eV 0) (aC (eV 1) (aC (eK (.int 0)) (aC (eA zer (aC (eV 1) aN)) aN)))))))
def za6:G:=qa 2 2 zpm
def zej:C :=
 (sIf (zcx (bE (zgb zeu zeu zeu (eK (.int 0)) (eV 1) (eV 2) (zm xa (aC (eV 0) aN))))) zco ja)
def yj:G:=qa 3 3 zej
def zi3(self:G):C :=
 (z5 (sIf (bE (e2 kl (eV 2) (eK (.int 0)))) (ql (yn (aC (eK .non) (aC (eV 1) aN)))) ja) (z5 (sIf (bE (e2 kl (eV 2) (zm xa (aC (eV 1) aN)))) (ql (yn (aC (eV 1) (aC (eK .non) aN)))) ja) (z5 (qo 3 (zm xb (aC (eV 0) (aC (eV 1) aN)))) (z5 (qo 4 (zm xa (aC (e2s qb (eV 3) (eK (.int 0))) aN))) (z5 (sIf (bE (e2 zeu (eV 2) (eV 4))) (z5 (qo 5 (zm (self) (aC (eV 0) (aC (e2s qb (eV 3) (eK (.int 0))) (aC (eV 2) aN))))) (ql (yn (aC (e2s qb (eV 5) (eK (.int 0))) (aC (zm (kx 40) (aC (eV 0) (aC (e2s qb (eV 5) (eK (.int 1))) (aC (e2s qb (eV 3) (eK (.int 1))) (aC (e2s qb (eV 3) (eK (.int 2))) aN))))) aN))))) ja) (z5 (qo 5 (zm (self) (aC (eV 0) (aC (e2s qb (eV 3) (eK (.int 2))) (aC (e2 yp (e2 yp (eV 2) (eV 4)) (eK (.int 1))) aN))))) (ql (yn (aC (zm (kx 40) (aC (eV 0) (aC (e2s qb (eV 3) (eK (.int 0))) (aC (e2s qb (eV 3) (eK (.int 1))) (aC (e2s qb (eV 5) (eK (.int 0))) aN))))) (aC (e2s qb (eV 5) (eK (.int 1))) aN))))))))))
def yi:Nat->G
 |0=>fun _ _=>none
 |k+1=>qa 6 3 (zi3 (yi k))
def zgh:C :=
 (z5 (zay (zm yj (aC (eV 1) (aC (eV 2) (aC (eV 3) aN))))) (z5 (qo 4 (zm (yi 40) (aC (eV 0) (aC (eV 1) (aC (eV 3) aN))))) (z5 (qo 5 (zm (yi 40) (aC (eV 0) (aC (e2s qb (eV 4) (eK (.int 0))) (aC (eV 2) aN))))) (z5 (qo 6 (zm yg (aC (eV 0) (aC (e2s qb (eV 5) (eK (.int 0))) (aC (xq "Wood" "turned" qv (eV 0) (aC (e2s qb (eV 5) (eK (.int 1))) aN)) aN))))) (ql (zm yg (aC (eV 0) (aC (eV 6) (aC (e2s qb (eV 4) (eK (.int 1))) aN)))))))))
def zal:G:=qa 7 4 zgh
def zh0:C :=
 (z5 (qo 3 (e2 q9 (zm qh (aC (eV 0) (aC (eK (.int 50)) aN))) (eK (.int 3)))) (z5 (sIf (bE (e2 kl (eV 3) (eK (.int 0)))) (ql (zm za6 (aC (eV 1) (aC (zkh (aC (eV 2) aN)) aN)))) ja) (z5 (sIf (bE (e2 kl (eV 3) (eK (.int 1)))) (ql (xq "Wood" "turned" qv (eV 1) (aC (zm za6 (aC (eV 1) (aC (zca (eV 2)) aN))) aN))) ja) (z5 (qo 4 (e2 q9 (zm qh (aC (eV 0) (aC (eK (.int 51)) aN))) (e2 qu (eA zer (aC (eV 2) aN)) (eK (.int 1))))) (z5 (qo 5 (e2 qu (eV 4) (e2 q9 (zm qh (aC (eV 0) (aC (eK (.int 52)) aN))) (e2 yp (e2 qu (eA zer (aC (eV 2) aN)) (eK (.int 1))) (eV 4))))) (z5 (qo 6 (zca (eSl (eV 2) (pE (eV 4)) (pE (eV 5))))) (ql (zm zal (aC (eV 1) (aC (zm za6 (aC (eV 1) (aC (e2 qu (e2 qu (eSl (eV 2) pN (pE (eV 4))) (eV 6)) (eSl (eV 2) (pE (eV 5)) pN)) aN))) (aC (eV 4) (aC (eV 5) aN))))))))))))
def kh:G:=qa 7 3 zh0
def zsa(self:G):C :=
 (z5 (sIf (bE (e2 zdm (eV 0) (eK .non))) zxr ja) (z5 (qo 3 (zm zhg (aC (eV 0) (aC (eV 1) aN)))) (z5 (zay (zm (self) (aC (e2s qb (eV 3) (eK (.int 0))) (aC (e2s qb (eV 3) (eK (.int 3))) (aC (eV 2) aN))))) (z5 (zaz (eV 2) (e2s qb (eV 3) (eK (.int 1)))) (zay (zm (self) (aC (e2s qb (eV 3) (eK (.int 2))) (aC (e2s qb (eV 3) (eK (.int 3))) (aC (eV 2) aN)))))))))
def zc6:Nat->G
 |0=>fun _ _=>none
 |k+1=>qa 4 3 (zsa (zc6 k))
def zeh:C :=
 (z5 (qo 1 (zi1 aN)) (z5 (zay (zm (zc6 40) (aC (eV 0) (aC (eK (.bl false)) (aC (eV 1) aN))))) (ql (eV 1))))
def xj:G:=frz (qa 2 1 zeh)
def zlz:C :=
 (ql (e2s qb (zm zzv (aC (eV 0) (aC (zm q8 (aC (eV 0) (aC (zm yu (aC (eV 1) aN)) (aC (zm xo (aC (eV 2) aN)) aN)))) aN))) (eK (.int 1))))
def ya:G:=qa 3 3 zlz
def zgl(cl:zLA):C :=
 (z5 (qo 3 (zrw 0 "_law_valued" { lt_3 with cl:=cl })) (z5 (zjo [4,5] (eV 1) (sIf (bE (e2 zgv (zcc ya (aC (eV 0) (aC (eV 4) aN)) 3 lt_3 cl [2]) (eV 5))) (ql (eK (.bl false))) ja)) (ql (e2 kl (zm xj (aC (eV 0) aN)) (eV 1)))))
def xp:G:=gA fun cl=>qa 6 3 (zgl cl)
def zl2:C :=
 (ql (zh8 (eA zvt (aC (eV 0) (aC (eK (.ty "int")) aN))) (zwz (eA zvt (aC (eV 0) (aC (eK (.ty "bool")) aN))))))
def zbg:G:=qa 1 1 zl2
def zl4:C :=
 (z5 (sIf (bOr (zcx (bE (eA zvt (aC (eV 0) (aC (eK (.ty "tuple")) aN))))) (bE (e2 zgv (eA zer (aC (eV 0) aN)) (eK (.int 9))))) (ql (eK (.bl false))) ja) (z5 (sIf (zcx (bE (eA zvt (aC (e2s qb (eV 0) (eK (.int 1))) (aC (eK (.ty "bool")) aN))))) (ql (eK (.bl false))) ja) (ql (zh8 (zm zbg (aC (e2s qb (eV 0) (eK (.int 0))) aN)) (zh8 (zm zbg (aC (e2s qb (eV 0) (eK (.int 5))) aN)) (zm zbg (aC (e2s qb (eV 0) (eK (.int 6))) aN)))))))
def zck:G:=qa 1 1 zl4
def kt:C :=
 (z5 (qo 1 (e2s qb (eV 0) (eK (.int 2)))) (z5 (qo 2 (e2s qb (eV 0) (eK (.int 4)))) (z5 (sIf (zcx (bE (zm j6 (aC (eV 1) (aC (eV 2) aN))))) (ql (eK (.bl false))) ja) (ql (zh8 (e2 kl (e2s qb (eV 0) (eK (.int 5))) (zm ke (aC (eV 1) (aC (eV 2) aN)))) (e2 kl (e2s qb (eV 0) (eK (.int 6))) (zm xf (aC (eV 1) (aC (eV 2) aN)))))))))
def jl:G:=qa 3 1 kt
def kr:C :=
 (z5 (qo 2 (zm xm (aC (eV 1) (aC (e2s qb (eV 0) (eK (.int 2))) (aC (e2s qb (eV 0) (eK (.int 3))) (aC (e2s qb (eV 0) (eK (.int 4))) aN)))))) (z5 (sIf (bE (e2s qb (eV 0) (eK (.int 1)))) (ql (zh8 (e2 kl (e2s qb (eV 0) (eK (.int 7))) (e2s qb (eV 2) (eK (.int 1)))) (e2 kl (e2s qb (eV 0) (eK (.int 8))) (e2s qb (eV 2) (eK (.int 0)))))) ja) (ql (zh8 (e2 kl (e2s qb (eV 0) (eK (.int 7))) (e2s qb (eV 2) (eK (.int 0)))) (e2 kl (e2s qb (eV 0) (eK (.int 8))) (e2s qb (eV 2) (eK (.int 1))))))))
def jv:G:=qa 3 2 kr
def zl3(self:G):C :=
 (z5 (sIf (bE (e2 zdm (eV 0) (eK .non))) (ql (eK (.bl true))) ja) (z5 (sIf (zcx (bE (zm zck (aC (eV 0) aN)))) (ql (eK (.bl false))) ja) (z5 (sIf (bOr (zcx (bE (zm (self) (aC (e2s qb (eV 0) (eK (.int 2))) (aC (eV 1) aN))))) (zcx (bE (zm (self) (aC (e2s qb (eV 0) (eK (.int 4))) (aC (eV 1) aN)))))) (ql (eK (.bl false))) ja) (ql (zh8 (zm jl (aC (eV 0) aN)) (zm jv (aC (eV 0) (aC (eV 1) aN))))))))
def xy:Nat->G
 |0=>fun _ _=>none
 |k+1=>qa 2 2 (zl3 (xy k))
end
end Pg
namespace Pg
open PySem L2 F Mt
class Kd (k:Nat):Prop where
 eq:k=0\/k=5
instance:Kd 0:=⟨.inl rfl⟩
instance:Kd 5:=⟨.inr rfl⟩
variable {k:Nat} [Kd k] {S S0 S1:Sto}{ev:Ev}
def y4(k:Nat):D:=match k with
 |5=>.lam lt_4
 |_=>.non
theorem zpx(hk:k≠0):(∃z,y4 k=.fn z)\/∃z,y4 k=.lam z:=by
 rcases Kd.eq (k:=k)with h | h
 · exact absurd h hk
 · subst h;exact .inr ⟨_,rfl⟩
theorem l2:zhd lt_4=some z2v:=by unfold zhd;rw[z6a rfl]
theorem zwq{f:E}{as:As}{x y:D}{n m:Nat}(hk:k≠0)(h:f ev S=some (y4 k,S))(ha:as ev S=some ([x,y],S))(hx:Th k n x)(hy:Th k m y)(hn:n+m<=4000):zaf ft zhd f as ev S=some (ad k x y,S):=by
 have hz:sizeLine=16777216:=z60;unfold zaf;rw[h];rcases Kd.eq (k:=k)with e | e
 · exact absurd e hk
 · subst e;obtain⟨_,xs,rfl,l1,_⟩:=hx;obtain⟨_,ys,rfl,l3,_⟩:=hy;simp only[y4,Option.bind_some,l2,ha];show e2 qu (eV 0) (eV 1) [some (.tup xs),some (.tup ys)] S=_;simp[e2,eV,qu,ad,tv,show xs.length+ys.length<=sizeLine by omega]
end Pg
namespace Pg
open PySem L2 F Mt
variable {k:Nat} [Kd k] {d l r t:D}{ts lt rt:List D}{h lh rh:Nat}{S S1:Sto}{ev e:Ev}
theorem zst(a b c d e f g h i:D)(S:Sto):xa [.tup [a,b,c,d,e,f,g,h,i]] S=some (f,S):=rfl
theorem zka(a b c d e f g h i:D)(S:Sto):jk [.tup [a,b,c,d,e,f,g,h,i]] S=some (g,S):=rfl
theorem zmt(a b c d e f g h i:D)(S:Sto):zam [.tup [a,b,c,d,e,f,g,h,i]] S=some (h,S):=rfl
theorem zt0(a b c d e f g h i:D)(S:Sto):zd6 [.tup [a,b,c,d,e,f,g,h,i]] S=some (i,S):=rfl
theorem jy(m:Mk k d ts h)(S:Sto):xa [d] S=some (.int ts.length,S):=by
 cases m with
 |non=>rfl
 |node _ _ _ _ _=>rw[mkD,zst,xw];simp;omega
theorem qp(m:Mk k d ts h)(S:Sto):jk [d] S=some (.int h,S):=by
 cases m with
 |non=>rfl
 |node _ _ _ _ _=>rw[mkD,zka]
theorem zji(m:Mk k d ts h)(S:Sto):zam [d] S=some (zag k ts,S):=by
 cases m with
 |non=>rfl
 |node _ _ _ _ _=>rw[mkD,zmt]
theorem zpr(m:Mk k d ts h)(S:Sto):zd6 [d] S=some (zag k ts.reverse,S):=by
 cases m with
 |non=>rfl
 |node _ _ _ _ _=>rw[mkD,zt0]
theorem zb1(ml:Mk k l lt lh)(mr:Mk k r rt rh)(S:Sto):ke [l,r] S=some (.int (lt.length+1+rt.length:Nat),S):=by simp[ke,qa,zcv,ql,e2,zm,aC,aN,eV,eK,qu,jy ml,jy mr]
theorem za3(ml:Mk k l lt lh)(mr:Mk k r rt rh)(S:Sto):xf [l,r] S=some (.int (max lh rh+1:Nat),S):=by simp[xf,qa,zbp,ql,e2,zm,aC,aN,eV,eK,qu,eA,zy2,qp ml,qp mr];split<;>omega
theorem ku(ml:Mk k l lt lh)(mr:Mk k r rt rh)(S:Sto):j6 [l,r] S=some (.bl (decide (lh<=rh+1/\rh<=lh+1)),S):=by simp[j6,qa,zcw,ql,e2,zm,aC,aN,eV,eK,yp,zeu,F.opI,zq4,eA,zw1,qp ml,qp mr];rw[qae];simp;split<;>omega
theorem zt2{a b:E}{x y:D}{n m:Nat}(hk:k≠0)(h0:ev[0]? = some (some (y4 k)))(ha:a ev S=some (x,S))(hb:b ev S=some (y,S))(hx:Th k n x)(hy:Th k m y)(hn:n+m<=4000):zaf ft zhd (eV 0) (aC a (aC b aN)) ev S=some (ad k x y,S):=by exact zwq hk (e_v h0) (a_c ha (a_c hb a_n)) hx hy hn
theorem zkt{gs:G}{w:E->E}{p q:Nat}{x y:D}{xt yt:List D}(hk:k≠0)(ht:Thing k t)(hn:xt.length+1+yt.length<=2000)(hx:∀z∈xt,Thing k z)(hy:∀z∈yt,Thing k z)(ex:x=.non/\xt=[]\/xt≠[]/\∃xs,x=.tup xs)(ey:y=.non/\yt=[]\/yt≠[]/\∃ys,y=.tup ys)
   (ev0:Ev) (S:Sto) (e0:ev0[0]? = some (some (y4 k))) (et:ev0[2]? = some (some t)) (ep:ev0[p]? = some (some x)) (eq:ev0[q]? = some (some y)) (hl:ev0.length=5) (hp:p<4) (hq:q<4) (hx':∀ev:Ev,ev[p]? = some (some x)->w (eV p) ev S=some (zag k xt,S)) (hy':∀ev:Ev,ev[q]? = some (some y)->w (eV q) ev S=some (zag k yt,S)) :
   z5 (qo 4 (eV 2)) (z5 (sIf (bE (e2 yd (eV p) (eK .non))) (qo 4 (zaf ft zhd (eV 0) (aC (w (eV p)) (aC (eV 4) aN)))) ja) (z5 (sIf (bE (e2 yd (eV q) (eK .non))) (qo 4 (zaf ft zhd (eV 0) (aC (eV 4) (aC (w (eV q)) aN)))) ja) (ql (eV 4)))) ev0 S=some (.rt (zag k (xt++t::yt)),S):=by
 have tt:=ht.th hk;have g4:∀(d:D) (i:Nat),i<4->(ev0.set 4 (some d))[i]? = ev0[i]?:=fun d i hi=>z6x (by omega);have s4:∀(ev:Ev) (d:D),ev.length=5->(ev.set 4 (some d))[4]? = some (some d):=fun ev d h=>z6p (by omega);have ss:∀(d e:D),(ev0.set 4 (some d)).set 4 (some e)=ev0.set 4 (some e):=fun d e=>by simp
 have step2:∀(acc:D) (n:Nat),Th k n acc->n+yt.length<=2000->∀{res:D},(yt=[]->res=acc)->(yt≠[]->res=ad k acc (zag k yt)) ->
     z5 (sIf (bE (e2 yd (eV q) (eK .non))) (qo 4 (zaf ft zhd (eV 0) (aC (eV 4) (aC (w (eV q)) aN)))) ja) (ql (eV 4)) (ev0.set 4 (some acc)) S=some (.rt res,S):=by
   intro acc n ha hb res r1 r2;rcases ey with⟨e1,e2'⟩ | ⟨e1,ys,e2'⟩
   · rw[r1 e2'];exact zh (zn (qk (e_2 (e_v (by rw[g4 _ _ hq,eq])) e_k (by rw[e1];rfl)))) (zv (e_v (s4 _ _ hl)))
   · rw[r2 e1];refine zh (z9 (qk (e_2 (e_v (by rw[g4 _ _ hq,eq])) e_k (by rw[e2'];rfl))) (zq (zt2 hk (by rw[g4 _ _ (by decide),e0]) (e_v (s4 _ _ hl)) (hy' _ (by rw[g4 _ _ hq,eq])) ha (zgy hk e1 hy) (by omega)))) (zv (e_v ?_));rw[ss];exact s4 _ _ hl
 refine zh (zq (e_v et)) ?_;rcases ex with⟨e1,e2'⟩ | ⟨e1,xs,e2'⟩
 · subst e2';refine zh (zn (qk (e_2 (e_v (by rw[g4 _ _ hp,ep])) e_k (by rw[e1];rfl)))) (step2 t 1 tt (by simp at hn;omega) (fun z=>by rw[z,List.nil_append,zb0 hk]) fun z=>?_);rw[List.nil_append,show t::yt=[t]++yt from rfl,zaj hk (by simp) z,zb0 hk]
 · have t1:=zgy hk e1 hx;have e3:zag k (xt++[t])=ad k (zag k xt) t:=by rw[zaj hk e1 (by simp),zb0 hk]
   refine zh (z9 (qk (e_2 (e_v (by rw[g4 _ _ hp,ep])) e_k (by rw[e2'];rfl))) (zq (zt2 hk (by rw[g4 _ _ (by decide),e0]) (hx' _ (by rw[g4 _ _ hp,ep])) (e_v (s4 _ _ hl)) t1 tt (by omega)))) ?_;rw[ss];exact step2 _ _ (t1.ad tt) (by omega) (fun z=>by rw[z,e3]) fun z=>by rw[show xt++t::yt=(xt++[t])++yt by simp,zaj hk (by simp) z,e3]
theorem zj2{xs:List D}(m:Mk k d ts h):d=.non/\ts=[]\/ts≠[]/\∃xs,d=.tup xs:=by
 cases m with
 |non=>exact .inl ⟨rfl,rfl⟩
 |node _ _ _ _ _=>exact .inr ⟨by intro z;have:=z68 List.length z;rw[xw]at this;simp at this,_,rfl⟩
theorem znu(hk:k≠0)(ml:Mk k l lt lh)(mr:Mk k r rt rh)(ht:Thing k t)(hn:lt.length+1+rt.length<=2000)(S:Sto) :
   za5 [y4 k,l,t,r] S=some (zag k (lt++t::rt),S) :=
 jh rfl (zkt (w:=fun x=>zm zam (aC x aN)) (p:=1) (q:=3) (gs:=zam) hk ht hn ml.things mr.things (zj2 (xs:=[]) ml) (zj2 (xs:=[]) mr) _ S rfl rfl rfl rfl rfl (by decide) (by decide) (fun ev h=>zi (a_c (e_v h) a_n) (zji ml S)) (fun ev h=>zi (a_c (e_v h) a_n) (zji mr S)))
theorem zja(hk:k≠0)(ml:Mk k l lt lh)(mr:Mk k r rt rh)(ht:Thing k t)(hn:lt.length+1+rt.length<=2000)(S:Sto) :
   y7 [y4 k,l,t,r] S=some (zag k (lt++t::rt).reverse,S):=by
 have rev:(lt++t::rt).reverse=rt.reverse++t::lt.reverse:=by simp
 have no:∀{d:D}{ts:List D},(d=.non/\ts=[]\/ts≠[]/\∃xs,d=.tup xs)->(d=.non/\ts.reverse=[]\/ts.reverse≠[]/\∃xs,d=.tup xs):=fun h=>by simpa using h
 rw[rev];exact jh rfl (zkt (w:=fun x=>zm zd6 (aC x aN)) (p:=3) (q:=1) (gs:=zam) hk ht (by simp;omega) (fun z hz=>mr.things z (z72.mp hz)) (fun z hz=>ml.things z (z72.mp hz)) (no (zj2 (xs:=[]) mr)) (no (zj2 (xs:=[]) ml)) _ S rfl rfl rfl rfl rfl (by decide) (by decide) (fun ev h=>zi (a_c (e_v h) a_n) (zpr mr S)) (fun ev h=>zi (a_c (e_v h) a_n) (zpr ml S)))
theorem zbz(ml:Mk k l lt lh)(mr:Mk k r rt rh)(ht:Thing k t)(hn:lt.length+1+rt.length<=2000)(S:Sto) :
   xm [y4 k,l,t,r] S=some (.tup [zag k (lt++t::rt),zag k (lt++t::rt).reverse],S):=by
 by_cases hk:k=0
 · subst hk;simp[xm,qa,za8,y4,z5,sIf,ql,bE,e2,eV,eK,zdm,zof,yn,eA,aC,aN,zsm,zdg]
 · have o:=znu hk ml mr ht hn;have b:=zja hk ml mr ht hn;rcases zpx (k:=k) hk with⟨zz,hav⟩ | ⟨zz,hav⟩<;>rw[hav]at o b ⊢<;>simp only[xm,qa,za8] <;>
   simp[z5,sIf,ql,ja,bE,e2,eV,eK,zdm,zof,yn,eA,aC,aN,zsm,zm,o,b]
def wd(ad:D)(n:Int):MO:=.ins "Wood" [("adding",ad),("nodes_made",.int n)]
theorem na:((Str.ofString "nodes_made")==(Str.ofString "adding"))=false:=by decide +kernel
theorem na':¬ (Str.ofString "adding"=Str.ofString "nodes_made"):=by decide +kernel
theorem na2:((Str.ofString "numbered")==(Str.ofString "adding"))=false:=by decide +kernel
theorem na3:((Str.ofString "numbered")==(Str.ofString "nodes_made"))=false:=by decide +kernel
theorem na4:((Str.ofString "node")==(Str.ofString "adding"))=false:=by decide +kernel
theorem na5:((Str.ofString "node")==(Str.ofString "nodes_made"))=false:=by decide +kernel
theorem na8:((Str.ofString "turned")==(Str.ofString "adding"))=false:=by decide +kernel
theorem na9:((Str.ofString "turned")==(Str.ofString "nodes_made"))=false:=by decide +kernel
theorem zdn{i:Nat}{av:D}{n:Int}{xs:List D}(h:S[i]? = some (wd av n))(hl:1+xs.length<=sizeLine) :
   j7 [.obj i,.tup xs] S=some (.tup (.int n::xs),S.set i (wd av (n+1))):=by
 have h1:(1:Nat)<=sizeLine:=by decide
 unfold wd at h ⊢;simp[j7,qa,zba,z5,qo,zw0,eV,zd3,h,zk5,e2,qu,eK,ql,yn,aC,aN,eA,zs0,List.lookup,na,na',hl,h1]
def wfs(av:D)(n:Int):List (Str×D):=[("adding",av),("nodes_made",.int n)]
theorem qt{i:Nat}{av:D}{n:Int}(h:S[i]? = some (wd av n)):zd3 (Str.ofString "Wood") S (.obj i)=some (i,wfs av n):=by simp[zd3,h,wd,wfs]
theorem j0(av:D)(n:Int):(wfs av n).lookup (Str.ofString "node")=none:=by simp[wfs,List.lookup,na4,na5]
theorem zbx(av:D)(n:Int):(wfs av n).lookup (Str.ofString "turned")=none:=by simp[wfs,List.lookup,na8,na9]
theorem zmk(av:D)(n:Int):(wfs av n).lookup (Str.ofString "adding")=some av:=by simp[wfs,List.lookup]
theorem zdf(av:D)(n:Int):(wfs av n).lookup (Str.ofString "numbered")=none:=by simp[wfs,List.lookup,na2,na3]
theorem yb{f:E}(h:f ev S=some (d,S1)):zay f ev S=some (.nx ev,S1):=by simp[zay,h]
theorem z1e{N n:Nat}{c:C}{ds:List D}{S S':Sto}{e:Ev}(hl:ds.length=n)(h:c (ds.map some++List.replicate (N-ds.length) none) S=some (.nx e,S')):qa N n c ds S=some (.non,S'):=by unfold qa;rw[z6a hl,h]
theorem z2t{x y:Int}(h:x<=y):zim (.int x) (.int y)=some (.bl false):=by show some (D.bl (decide (y<x)))=_;rw[z5w (by omega)]
theorem zig{m:Nat}(h:m<=2000)(S:Sto):kg [.int m] S=some (.non,S):=z1e rfl (zn (qk (e_2 (e_v rfl) e_k (z2t (by omega)))))
theorem zvd{i:Nat}{n:Int}(h:S[i]? = some (wd (y4 k) n))(ml:Mk k l lt lh)(mr:Mk k r rt rh)(ht:Thing k t)(h1:lh<=rh+1)(h2:rh<=lh+1)(hn:lt.length+1+rt.length<=2000) :
   qd [.obj i,l,t,r] S=some (mkD n false l t r (lt.length+1+rt.length:Nat) (max lh rh+1:Nat) (zag k (lt++t::rt)) (zag k (lt++t::rt).reverse),S.set i (wd (y4 k) (n+1))):=by
 have hz:sizeLine=16777216:=z60;have q:=zb1 ml mr S;have b:=ku ml mr S;have hh:=za3 ml mr S;have sa:=zbz ml mr ht hn S;rw[z6d (show lh<=rh+1/\rh<=lh+1 from⟨h1,h2⟩)]at b;exact jh rfl (zh (zq (zi (a_c (e_v rfl) (a_c (e_v rfl) a_n)) q)) (zh (yb (zi (a_c (e_v rfl) a_n) (zig hn S))) (zh (zn (zsc (qk (zi (a_c (e_v rfl) (a_c (e_v rfl) a_n)) b)))) (zh (zq (x4 (a_c (e_v rfl) (a_c (zi (a_c (e_v rfl) (a_c (e_v rfl) a_n)) hh) a_n)) (by simp))) (zh (zq (zi (a_c (z29 (e_v rfl) (qt h) (zmk _ _)) (a_c (e_v rfl) (a_c (e_v rfl) (a_c (e_v rfl) a_n)))) sa)) (zv (j8 (e_v rfl) (qt h) (zdf _ _) (a_c (e_2 (e_2 (x4 (a_c e_k (a_c (e_v rfl) (a_c (e_v rfl) (a_c (e_v rfl) a_n)))) (by simp)) (e_v rfl) (zgs (by simp))) (e_v rfl) (zgs (by simp))) a_n) (zdn h (by simp;omega)))))))))
theorem zve{n:Int}(ml:Mk k l lt lh)(mr:Mk k r rt rh)(ht:Thing k t)(h1:lh<=rh+1)(h2:rh<=lh+1) :
   Mk k (mkD n false l t r (lt.length+1+rt.length:Nat) (max lh rh+1:Nat) (zag k (lt++t::rt)) (zag k (lt++t::rt).reverse)) (lt++t::rt) (max lh rh+1):=by
 have:=Mk.node (num:=n) (a:=false) ml mr ht h1 h2;simpa [ord] using this
theorem zkx{i:Nat}:qv [.obj i,.non] S=some (.non,S):=rfl
theorem zp6{i:Nat}{n num:Int}{av:D}{a:Bool}{sz ht:Int}{to ba:D}(h:S[i]? = some (wd av n)) :
   qv [.obj i,mkD num a l t r sz ht to ba] S=some (mkD n (!a) l t r sz ht ba to,S.set i (wd av (n+1))):=by
 have hz:sizeLine=16777216:=z60;unfold mkD;exact jh rfl (zh (zn (qk (e_2 (e_v rfl) e_k rfl))) (zh (zq (x4 (a_c (qm (e_v rfl) e_k rfl) (a_c (qm (e_v rfl) e_k rfl) (a_c (qm (e_v rfl) e_k rfl) a_n))) (by simp))) (zv (j8 (e_v rfl) (qt h) (zdf _ _) (a_c (e_2 (e_2 (x4 (a_c (z0d (qm (e_v rfl) e_k rfl)) a_n) (by simp)) (e_v rfl) (zgs (by simp))) (x4 (a_c (zi (a_c (e_v rfl) a_n) (zst _ _ _ _ _ _ _ _ _ _)) (a_c (zi (a_c (e_v rfl) a_n) (zka _ _ _ _ _ _ _ _ _ _)) (a_c (zi (a_c (e_v rfl) a_n) (zt0 _ _ _ _ _ _ _ _ _ _)) (a_c (zi (a_c (e_v rfl) a_n) (zmt _ _ _ _ _ _ _ _ _ _)) a_n)))) (by simp)) (zgs (by simp))) a_n) (zdn h (by simp;omega))))))
theorem zmo{num n:Int}{a:Bool}{sz ht:Int}{to ba:D}(m:Mk k (mkD num a l t r sz ht to ba) ts h):Mk k (mkD n (!a) l t r sz ht ba to) ts.reverse h:=by
 generalize hd:mkD num a l t r sz ht to ba=d at m;cases m with
 |non=>cases hd
 | @node num' a' l' t' r' lt rt lh rh ml mr ht' h1 h2=>
   unfold mkD at hd;injection hd with hd;simp only[z7n,D.int.injEq,D.bl.injEq,and_true]at hd;obtain⟨rfl,rfl,rfl,rfl,rfl,rfl,rfl,rfl,rfl⟩:=hd;have:=Mk.node (num:=n) (a:=!a) ml mr ht' h1 h2;have e:ord (!a) (lt++t::rt)=(ord a (lt++t::rt)).reverse:=by cases a<;>simp[ord]
   rw[e,z8v]at this;exact this
theorem zv1(num:Int)(a:Bool)(l t r:D)(sz ht:Int)(to ba:D)(S:Sto):zck [mkD num a l t r sz ht to ba] S=some (.bl true,S):=rfl
theorem zin{num:Int}{a:Bool}{to ba:D}(ml:Mk k l lt lh)(mr:Mk k r rt rh)(h1:lh<=rh+1)(h2:rh<=lh+1)(S:Sto) :
   jl [mkD num a l t r (lt.length+1+rt.length:Nat) (max lh rh+1:Nat) to ba] S=some (.bl true,S):=by
 have q:=zb1 ml mr;have b:=ku ml mr;have hh:=za3 ml mr;have hb:decide (lh<=rh+1/\rh<=lh+1)=true:=by simp;omega
 rw[hb]at b;generalize ((lt.length+1+rt.length:Nat):Int)=z at q ⊢;generalize ((max lh rh+1:Nat):Int)=y at hh ⊢;unfold mkD;simp[jl,qa,kt,z5,qo,sIf,ql,ja,bE,zcx,e2,e2s,eV,eK,zm,aC,aN,qb,zvs,zvr,z2p,z2o,b,q,hh,zh8,zkf]
theorem zud{num:Int}{a:Bool}{sz hh:Int}(ml:Mk k l lt lh)(mr:Mk k r rt rh)(ht:Thing k t)(hn:lt.length+1+rt.length<=2000)(S:Sto) :
   jv [mkD num a l t r sz hh (zag k (ord a (lt++t::rt))) (zag k (ord a (lt++t::rt)).reverse),y4 k] S=some (.bl true,S):=by
 have sa:=zbz ml mr ht hn;have th:∀x∈lt++t::rt,Thing k x:=fun x hx=>by
   rcases z6e.mp hx with q | q
   · exact ml.things x q
   · rcases z51.mp q with rfl | q
     · exact ht
     · exact mr.things x q
 have e1:=ztq th;have e2':=ztq (k:=k) (ts:=(lt++t::rt).reverse) fun x hx=>th x (z72.mp hx);have i0:∀x y:D,atI [x,y] (0:Int)=some x:=fun _ _=>rfl;have i1:∀x y:D,atI [x,y] (1:Int)=some y:=fun _ _=>rfl;cases a
 · simp only[ord,z58,z7c];generalize zag k (lt++t::rt)=s1 at sa e1 ⊢;generalize zag k (lt++t::rt).reverse=s2 at sa e2' ⊢;unfold mkD;simp only[jv,qa,kr];simp[z5,qo,sIf,ql,ja,bE,zcx,e2,e2s,eV,eK,zm,aC,aN,qb,zzo,zvs,zzn,zvr,zzm,zzl,sa,zh8,e1,e2',i0,i1]
 · simp only[ord,z7s,z8v];generalize zag k (lt++t::rt)=s1 at sa e1 ⊢;generalize zag k (lt++t::rt).reverse=s2 at sa e2' ⊢;unfold mkD;simp only[jv,qa,kr];simp[z5,qo,sIf,ql,ja,bE,zcx,e2,e2s,eV,eK,zm,aC,aN,qb,zzo,zvs,zzn,zvr,zzm,zzl,sa,zh8,e1,e2',i0,i1]
theorem zis(m:Mk k d ts h):∀{n:Nat},h<n->ts.length<=2000->∀S,xy n [d,y4 k] S=some (.bl true,S):=by
 induction m with
 | non=>
   intro n hn _ S;cases n with
   |zero=>omega
   |succ n=>rfl
 | @node num a l t r lt rt lh rh ml mr ht h1 h2 il ir=>
   intro n hn hl S;cases n with
   |zero=>omega
   | succ n=>
     rw[xw]at hl;simp only[z5l,List.length_cons]at hl;have el:=il (n:=n) (by omega) (by omega) S;have er:=ir (n:=n) (by omega) (by omega) S;have me:=zin (num:=num) (a:=a) (t:=t) (to:=zag k (ord a (lt++t::rt))) (ba:=zag k (ord a (lt++t::rt)).reverse) ml mr h1 h2 S;have su:=zud (num:=num) (a:=a) (sz:=(lt.length+1+rt.length:Nat)) (hh:=(max lh rh+1:Nat)) ml mr ht (by omega) S;have fo:=zv1 num a l t r (lt.length+1+rt.length:Nat) (max lh rh+1:Nat) (zag k (ord a (lt++t::rt))) (zag k (ord a (lt++t::rt)).reverse) S;unfold mkD at me su fo ⊢;exact jh rfl (zh (zn (qk (e_2 (e_v rfl) e_k rfl))) (zh (zn (zsc (qk (zi (a_c (e_v rfl) a_n) fo)))) (zh (zn (z0r (zsc (qk (zi (a_c (qm (e_v rfl) e_k rfl) (a_c (e_v rfl) a_n)) el))) (zsc (qk (zi (a_c (qm (e_v rfl) e_k rfl) (a_c (e_v rfl) a_n)) er))))) (zv (ztt (zi (a_c (e_v rfl) a_n) me) (zi (a_c (e_v rfl) (a_c (e_v rfl) a_n)) su))))))
theorem zmi(S:Sto)(av:D):jb [.obj S.length,av] (S++[.ins (Str.ofString "Wood") []])=some (.non,S++[wd av 0]):=by
 have q1:(S++[MO.ins (Str.ofString "Wood") []])[S.length]? = some (MO.ins (Str.ofString "Wood") []):=by simp
 have q2:∀a b:MO,(S++[a]).set S.length b=S++[b]:=by intro a b;simp
 have q3:∀a:MO,(S++[a])[S.length]? = some a:=by intro a;simp
 simp[jb,qa,zbb,z5,zk5,eV,eK,zd3,zs0,na',wd,q1,q2,q3]
theorem zw5{g:E}{av:D}(h:g ev S=some (av,S)):zlr (Str.ofString "Wood") jb (aC g aN) ev S=some (.obj S.length,S++[wd av 0]):=by simp[zlr,aC,aN,h,zmi]
inductive Tnd (n:Int):D->D->Int->Prop where
 |non:Tnd n .non .non n
 |node {num:Int}{a:Bool}{l t r:D}{sz ht:Int}{to ba:D}:Tnd n (mkD num a l t r sz ht to ba) (mkD n (!a) l t r sz ht ba to) (n+1)
structure At (S S':Sto) (i:Nat) (av:D) (n n':Int):Prop where
 at_:S'[i]? = some (wd av n')
 le:n<=n'
 ne:∀j,j≠i->S'[j]? = S[j]?
 len:S'.length=S.length
theorem At.refl{i:Nat}{av:D}{n:Int}(h:S[i]? = some (wd av n)):At S S i av n n:=⟨h,Int.le_refl _,fun _ _=>rfl,rfl⟩
theorem At.set{i:Nat}{av:D}{n n':Int}(h:S[i]? = some (wd av n))(hn:n<=n'):At S (S.set i (wd av n')) i av n n':=⟨zm2 h,hn,fun j hj=>zxm (z7v hj) _,by simp⟩
theorem At.trans {S2:Sto}{i:Nat}{av:D}{n n' n'':Int} (a:At S S1 i av n n') (b:At S1 S2 i av n' n''):At S S2 i av n n'':=⟨b.at_,Int.le_trans a.le b.le,fun j hj=>(b.ne j hj).trans (a.ne j hj),b.len.trans a.len⟩
theorem zcg{i:Nat}{av:D}{n:Int}(m:Mk k d ts h)(hw:S[i]? = some (wd av n)):∃d' n' S',qv [.obj i,d] S=some (d',S')/\Mk k d' ts.reverse h/\Tnd n d d' n'/\At S S' i av n n':=by
 have m0:=m;cases m with
 |non=>exact⟨.non,n,S,zkx,.non,.non,At.refl hw⟩
 |node ml mr ht h1 h2=>exact⟨_,_,_,zp6 hw,zmo m0,.node,At.set hw (by omega)⟩
theorem zq0{i:Nat}{n num:Int}{av:D}{a:Bool}{sz ht:Int}{to ba:D}(m:Mk k (mkD num a l t r sz ht to ba) ts h)(hw:S[i]? = some (wd av n)) :
   ∃x y n' S' xt yt xh yh,xb [.obj i,mkD num a l t r sz ht to ba] S=some (.tup [x,t,y],S')/\At S S' i av n n'/\Mk k x xt xh/\Mk k y yt yh/\ts=xt++t::yt/\h=max xh yh+1/\xh<=yh+1/\yh<=xh+1/\Thing k t /\
     ((a=false/\x=l/\y=r/\n'=n/\S'=S)\/(a=true/\∃n1,Tnd n r x n1/\Tnd n1 l y n')):=by
 have hs:(3:Nat)<=16777216:=by decide
 generalize hd:mkD num a l t r sz ht to ba=d at m;cases m with
 |non=>cases hd
 | @node num' a' l' t' r' lt rt lh rh ml mr ht' h1 h2=>
   unfold mkD at hd;injection hd with hd;simp only[z7n,D.int.injEq,D.bl.injEq,and_true]at hd;obtain⟨rfl,rfl,rfl,rfl,rfl,rfl,rfl,rfl,rfl⟩:=hd;generalize ((lt.length+1+rt.length:Nat):Int)=sz;generalize ((max lh rh+1:Nat):Int)=hh;generalize zag k (ord a (lt++t::rt))=to;generalize zag k (ord a (lt++t::rt)).reverse=ba;cases a
   · refine⟨l,r,n,S,lt,rt,lh,rh,?_,At.refl hw,ml,mr,rfl,rfl,h1,h2,ht',.inl ⟨rfl,rfl,rfl,rfl,rfl⟩⟩;rfl
   · obtain⟨x,n1,S1,c1,mx,t1,w1⟩:=zcg mr hw;obtain⟨y,n2,S2,c2,my,t2,w2⟩:=zcg ml w1.at_;refine⟨x,y,n2,S2,rt.reverse,lt.reverse,rh,lh,?_,w1.trans w2,mx,my,by simp[ord],by rw[Nat.max_comm],h2,h1,ht',.inr ⟨rfl,n1,t1,t2⟩⟩;have f0:zcx (bE (e2s qb (eV 1) (eK (.int 1)))) [some (.obj i),some (.tup [.int num,.bl true,l,t,r,.int sz,.int hh,to,ba]),none,none] S=some (false,S):=rfl;have f1:qo 2 (xq "Wood" "turned" qv (eV 0) (aC (e2s qb (eV 1) (eK (.int 4))) aN)) [some (.obj i),some (.tup [.int num,.bl true,l,t,r,.int sz,.int hh,to,ba]),none,none] S=some (.nx [some (.obj i),some (.tup [.int num,.bl true,l,t,r,.int sz,.int hh,to,ba]),some x,none],S1) :=
       zq (j8 (e_v rfl) (qt hw) (zbx _ _) (a_c (qm (e_v rfl) e_k rfl) a_n) c1)
     have f2:qo 3 (xq "Wood" "turned" qv (eV 0) (aC (e2s qb (eV 1) (eK (.int 2))) aN)) [some (.obj i),some (.tup [.int num,.bl true,l,t,r,.int sz,.int hh,to,ba]),some x,none] S1=some (.nx [some (.obj i),some (.tup [.int num,.bl true,l,t,r,.int sz,.int hh,to,ba]),some x,some y],S2) :=
       zq (j8 (e_v rfl) (qt w1.at_) (zbx _ _) (a_c (qm (e_v rfl) e_k rfl) a_n) c2)
     have f3:ql (yn (aC (eV 2) (aC (e2s qb (eV 1) (eK (.int 3))) (aC (eV 3) aN)))) [some (.obj i),some (.tup [.int num,.bl true,l,t,r,.int sz,.int hh,to,ba]),some x,some y] S2=some (.rt (.tup [x,t,y]),S2):=by unfold ql;rw[x4 (a_c (e_v rfl) (a_c (qm (e_v rfl) e_k rfl) (a_c (e_v rfl) a_n))) (by simp)];rfl
     simp only[xb,qa,zpl,mkD];simp only[List.length_cons,List.length_nil,Nat.reduceAdd,z7s,z5v,List.map_nil,Nat.reduceSub,List.replicate,List.cons_append,List.nil_append];simp only[z5,sIf,f0,Option.bind_some,z58,z7c,ja,f1,f2,f3]
end Pg
namespace Pg
open PySem L2 F Mt
variable {k:Nat} [Kd k] {d l r t x y:D}{ts lt rt:List D}{h lh rh i:Nat}{n:Int}{S S0 S1:Sto}{ev e:Ev}{P Q:D->Prop}{a b new:List D}
def num:D->Int
 | .tup (.int n::_)=>n
 |_=>0
inductive All (P:D->Prop):D->Prop where
 |non:All P .non
 |node {m:Int}{a:Bool}{l t r:D}{sz ht:Int}{to ba:D}:P (mkD m a l t r sz ht to ba)->All P l->All P r->All P (mkD m a l t r sz ht to ba)
theorem All.inv{m:Int}{a:Bool}{sz ht:Int}{to ba:D}(h:All P (mkD m a l t r sz ht to ba)):All P l/\All P r:=by
 generalize e:mkD m a l t r sz ht to ba=d at h;cases h with
 |non=>cases e
 | node _ b c=>
   unfold mkD at e;injection e with e;simp only[z7n,and_true]at e;obtain⟨_,_,rfl,_,rfl,_⟩:=e;exact⟨b,c⟩
theorem All.mono(h:All P d)(f:∀v,P v->Q v):All Q d:=by
 induction h with
 |non=>exact .non
 |node a _ _ b c=>exact .node (f _ a) b c
def Ac(P:D->Prop)(n:Int)(new:List D)(v:D):Prop:=P v\/∃j:Nat,new[j]? = some v/\num v=n+j
theorem Ac.app{v:D}(h:Ac P n a v):Ac P n (a++b) v:=h.imp id fun⟨j,h1,h2⟩=>⟨j,by rw[z6h (z5q.mp h1).1,h1],h2⟩
theorem Ac.two{v:D}(h:Ac (Ac P n a) (n+a.length) b v):Ac P n (a++b) v:=by
 rcases h with h | ⟨j,h1,h2⟩
 · exact h.app
 · exact .inr ⟨a.length+j,by rw[z59 (z54 _ _),Nat.add_sub_cancel_left,h1],by omega⟩
theorem All.old(h:All P d):All (Ac P n a) d:=h.mono fun _=>.inl
theorem All.app(h:All (Ac P n a) d):All (Ac P n (a++b)) d:=h.mono fun _=>Ac.app
theorem All.two(h:All (Ac (Ac P n a) (n+a.length) b) d):All (Ac P n (a++b)) d:=h.mono fun _=>Ac.two
abbrev Wt(k i:Nat)(S:Sto)(n:Int)(new:List D)(S':Sto):Prop:=At S S' i (y4 k) n (n+new.length)
theorem Wt.nil(hw:S[i]? = some (wd (y4 k) n)):Wt k i S n [] S:=by have:=At.refl hw;unfold Wt;rw[show n+(([]:List D).length:Int)=n from qaf n];exact this
theorem Wt.two(w:Wt k i S0 n a S)(w':Wt k i S (n+a.length) b S1):Wt k i S0 n (a++b) S1:=by
 have:=At.trans w w';have e:n+(a.length:Int)+b.length=n+((a++b).length:Nat):=by rw[z5l];omega
 unfold Wt;rw[<-e];exact this
structure Top (a b h:Nat):Prop where
 l:a<h
 r:b<h
 e:h=a+1\/h=b+1
theorem zic(a b:Nat):Top a b (max a b+1):=⟨by omega,by omega,by omega⟩
structure Res (k i:Nat) (S:Sto) (n:Int) (P:D->Prop) (ts:List D) (d:D) (h:Nat) (new:List D) (S':Sto):Prop where
 mm:Mk k d ts h
 wt:Wt k i S n new S'
 all:All (Ac P n new) d
theorem Res.after(w:Wt k i S0 n a S)(r:Res k i S (n+a.length) (Ac P n a) ts d h new S1):Res k i S0 n P ts d h (a++new) S1:=⟨r.mm,w.two r.wt,r.all.two⟩
theorem x6(hw:S[i]? = some (wd (y4 k) n))(ml:Mk k l lt lh)(mr:Mk k r rt rh)(ht:Thing k t)(h1:lh<=rh+1)(h2:rh<=lh+1)(hn:lt.length+1+rt.length<=2000)(al:All P l)(ar:All P r) :
   ∃d S' h,qd [.obj i,l,t,r] S=some (d,S')/\Res k i S n P (lt++t::rt) d h [d] S'/\Top lh rh h :=
 ⟨_,_,_,zvd hw ml mr ht h1 h2 hn,⟨zve ml mr ht h1 h2,At.set hw (by omega),.node (.inr ⟨0,rfl,(qaf n).symm⟩) al.old ar.old⟩,zic _ _⟩
theorem Tnd.ac{d':D}{n1:Int}(t:Tnd n d d' n1)(a:All P d):∃new:List D,n1=n+new.length/\All (Ac P n new) d'/\new.length<=1:=by
 cases t with
 |non=>exact⟨[],(qaf n).symm,.non,by simp⟩
 |node=>exact⟨[_],rfl,.node (.inr ⟨0,rfl,(qaf n).symm⟩) a.inv.1.old a.inv.2.old,by simp⟩
theorem zjh(m:Mk k d ts h)(hw:S[i]? = some (wd (y4 k) n))(al:All P d):∃d' new S',qv [.obj i,d] S=some (d',S')/\Res k i S n P ts.reverse d' h new S'/\new.length<=1:=by obtain⟨d',n',S',c,m',t,w⟩:=zcg m hw;obtain⟨new,rfl,al',hl⟩:=t.ac al;exact⟨d',new,S',c,⟨m',w,al'⟩,hl⟩
structure Pts (k i:Nat) (S:Sto) (n:Int) (P:D->Prop) (ts:List D) (h:Nat) (x t y:D) (xt yt:List D) (xh yh:Nat) (new:List D) (S':Sto):Prop where
 wt:Wt k i S n new S'
 mx:Mk k x xt xh
 my:Mk k y yt yh
 ht:Thing k t
 hts:ts=xt++t::yt
 hh:Top xh yh h
 h1:xh<=yh+1
 h2:yh<=xh+1
 ax:All (Ac P n new) x
 ay:All (Ac P n new) y
 few:new.length<=2
theorem yc(m:Mk k d ts h)(hh:0<h)(hw:S[i]? = some (wd (y4 k) n))(al:All P d) :
   ∃x t y xt yt xh yh new S',xb [.obj i,d] S=some (.tup [x,t,y],S')/\Pts k i S n P ts h x t y xt yt xh yh new S':=by
 have m0:=m;cases m with
 |non=>omega
 | @node num a l t r lt rt lh rh ml mr ht h1 h2=>
   obtain⟨x,y,n',S',xt,yt,xh,yh,c,w,mx,my,e1,e2,q1,q2,q3,q⟩:=zq0 m0 hw;rcases q with⟨_,rfl,rfl,rfl,rfl⟩ | ⟨_,n1,t1,t2⟩
   · exact⟨x,t,y,xt,yt,xh,yh,[],_,c,⟨Wt.nil hw,mx,my,q3,e1,e2▸zic _ _,q1,q2,al.inv.1.old,al.inv.2.old,by simp⟩⟩
   · obtain⟨a1,rfl,b1,c1⟩:=t1.ac al.inv.2;obtain⟨a2,rfl,b2,c2⟩:=t2.ac (al.inv.1.old (n:=n) (a:=a1));refine⟨x,t,y,xt,yt,xh,yh,a1++a2,S',c,⟨?_,mx,my,q3,e1,e2▸zic _ _,q1,q2,b1.app,b2.two,by rw[z5l];omega⟩⟩;have e:n+(a1.length:Int)+a2.length=n+((a1++a2).length:Nat):=by rw[z5l];omega
     unfold Wt;rw[<-e];exact w
theorem z09(x y:Nat):zta (.int x) (.int y)=some (.bl (decide (y<=x))):=z68 (fun b=>some (D.bl b)) (z6u.mpr Int.ofNat_le)
theorem zww(x y:Nat):zim (.int x) (.int y)=some (.bl (decide (y<x))):=z68 (fun b=>some (D.bl b)) (z6u.mpr qad)
theorem z04(a b c:List D):(a++t::b).length+1+c.length=a.length+1+(b++x::c).length:=by simp only[z5l,List.length_cons];omega
theorem z1f(a b c:List D):a++t::(b++x::c)=a++t::b++x::c:=by simp
theorem zy6{a b:List D}{m:Nat}(h:(a++t::b).length+1+m<=2000):b.length+1+m<=2000:=by simp only[z5l,List.length_cons]at h;omega
theorem zy5{a b:List D}{m:Nat}(h:m+1+(a++t::b).length<=2000):m+1+a.length<=2000:=by simp only[z5l,List.length_cons]at h;omega
theorem z37{a:List D}(h:a.length<=2):(a++[x]++[y]).length<=7:=by simp only[z5l,List.length_cons,List.length_nil];omega
theorem z36{a b:List D}(h:a.length<=2)(h':b.length<=2):(a++b++[x]++[y]++[t]).length<=7:=by simp only[z5l,List.length_cons,List.length_nil];omega
theorem z35{a b c:List D}{f:Nat}(h:a.length<=2)(h':b.length<=9*f+1)(h3:c.length<=7):(a++b++c).length<=9*(f+1)+1:=by simp only[z5l];omega
theorem z2m{a b c:List D}{m:Nat}(h:(a++t::(b++x::c)).length+1+m<=2000):a.length+1+b.length<=2000:=by simp only[z5l,List.length_cons]at h;omega
theorem z2l{a b c:List D}{m:Nat}(h:(a++t::(b++x::c)).length+1+m<=2000):c.length+1+m<=2000:=by simp only[z5l,List.length_cons]at h;omega
theorem z2k{a b c e:List D}(h:(a++t::(b++x::c)).length+1+e.length<=2000):(a++t::b).length+1+(c++y::e).length<=2000:=by simp only[z5l,List.length_cons]at h ⊢;omega
theorem z2j{a b c:List D}{m:Nat}(h:m+1+(a++t::b++x::c).length<=2000):m+1+a.length<=2000:=by simp only[z5l,List.length_cons]at h;omega
theorem z2i{a b c:List D}{m:Nat}(h:m+1+(a++t::b++x::c).length<=2000):b.length+1+c.length<=2000:=by simp only[z5l,List.length_cons]at h;omega
theorem z2h{a b c e:List D}(h:e.length+1+(a++t::b++x::c).length<=2000):(e++y::a).length+1+(b++x::c).length<=2000:=by simp only[z5l,List.length_cons]at h ⊢;omega
theorem z5f(a b c e:List D):a++t::b++x::(c++y::e)=a++t::(b++x::c)++y::e:=by simp
theorem z5e(a b c e:List D):a++t::b++x::(c++y::e)=a++t::(b++x::c++y::e):=by simp
theorem up1{xh yh rh lh:Nat}(hh:lh=rh+2)(p:Top xh yh lh)(q1:xh<=yh+1)(q2:yh<=xh+1)(hg:yh<=xh):yh<=rh+1/\rh<=yh+1/\∀g,Top yh rh g->(xh<=g+1/\g<=xh+1/\∀z,Top xh g z->lh<=z/\z<=lh+1):=by obtain⟨p1,p2,p3⟩:=p;refine⟨by omega,by omega,fun g ⟨g1,g2,g3⟩=>⟨by omega,by omega,fun z ⟨z1,z2,z3⟩=>⟨by omega,by omega⟩⟩⟩
theorem up2{xh yh rh lh xh' yh':Nat}(hh:lh=rh+2)(p:Top xh yh lh)(q1:xh<=yh+1)(q2:yh<=xh+1)(hg:¬ yh<=xh)(p':Top xh' yh' yh)(q3:xh'<=yh'+1)(q4:yh'<=xh'+1) :
   (xh<=xh'+1/\xh'<=xh+1)/\(yh'<=rh+1/\rh<=yh'+1)/\∀g g',Top xh xh' g->Top yh' rh g'->(g<=g'+1/\g'<=g+1/\∀z,Top g g' z->lh<=z/\z<=lh+1):=by
 obtain⟨p1,p2,p3⟩:=p;obtain⟨p4,p5,p6⟩:=p';have e1:xh=rh:=by omega
 have e2:yh=rh+1:=by omega
 subst e1 e2;refine⟨⟨by omega,by omega⟩,⟨by omega,by omega⟩,fun g g' ⟨g1,g2,g3⟩ ⟨g4,g5,g6⟩=>?_⟩;have e3:g=xh+1:=by omega
 have e4:g'=xh+1:=by omega
 subst e3 e4;exact⟨by omega,by omega,fun z ⟨z1,z2,z3⟩=>⟨by omega,by omega⟩⟩
theorem Top.sym{a b h:Nat}(p:Top a b h):Top b a h:=⟨p.r,p.l,p.e.symm⟩
theorem zev(hw:S[i]? = some (wd (y4 k) n))(ml:Mk k l lt lh)(mr:Mk k r rt rh)(ht:Thing k t)(hh:lh=rh+2)(hn:lt.length+1+rt.length<=2000)(al:All P l)(ar:All P r) :
   ∃d h new S',zan [.obj i,l,t,r] S=some (d,S')/\Res k i S n P (lt++t::rt) d h new S'/\(lh<=h/\h<=lh+1)/\new.length<=7:=by
 obtain⟨x,u,y,xt,yt,xh,yh,w1,S1,c1,p⟩:=yc ml (by omega) hw al;have e1:=p.hts;subst e1;have e2:=p.hh;have f1:=p.few;by_cases hg:yh<=xh
 · obtain⟨k1,k2,k3⟩:=up1 hh p.hh p.h1 p.h2 hg;have hge:zta (.int xh) (.int yh)=some (.bl true):=by rw[z09,z6d hg]
   clear hg;obtain⟨d1,S2,g1,c2,r2,t2⟩:=x6 p.wt.at_ p.my mr ht k1 k2 (zy6 hn) p.ay ar.old;have r2:=r2.after p.wt;obtain⟨k4,k5,k6⟩:=k3 _ t2;obtain⟨d2,S3,g2,c3,r3,t3⟩:=x6 r2.wt.at_ p.mx r2.mm p.ht k4 k5 (by rw[<-z04];exact hn) p.ax.app r2.all;have r3:=r3.after r2.wt;exact⟨d2,_,_,S3,jh rfl (zh (zq (zi (a_c (e_v rfl) (a_c (e_v rfl) a_n)) c1)) (qg (z9 (qk (e_2 (zi (a_c (qm (e_v rfl) e_k rfl) a_n) (qp p.mx S1)) (zi (a_c (qm (e_v rfl) e_k rfl) a_n) (qp p.my S1)) hge)) (zv (j8 (e_v rfl) (qt p.wt.at_) (j0 _ _) (a_c (qm (e_v rfl) e_k rfl) (a_c (qm (e_v rfl) e_k rfl) (a_c (j8 (e_v rfl) (qt p.wt.at_) (j0 _ _) (a_c (qm (e_v rfl) e_k rfl) (a_c (e_v rfl) (a_c (e_v rfl) a_n))) c2) a_n))) c3))))),z1f xt yt rt▸r3,k6 _ t3,z37 f1⟩
 · have hge:zta (.int xh) (.int yh)=some (.bl false):=by rw[z09,z5w hg]
   obtain⟨x',v,y',xt',yt',xh',yh',w2,S2,c2,p2⟩:=yc p.my (by omega) p.wt.at_ p.ay;have e3:=p2.hts;subst e3;obtain⟨⟨k1,k2⟩,⟨k3,k4⟩,k5⟩:=up2 hh p.hh p.h1 p.h2 hg p2.hh p2.h1 p2.h2;have f2:=p2.few;clear hg e2;have wt2:=p.wt.two p2.wt;obtain⟨d1,S3,g1,c3,r3,t3⟩:=x6 wt2.at_ p.mx p2.mx p.ht k1 k2 (z2m hn) p.ax.app p2.ax.two;have r3:=r3.after wt2;obtain⟨d2,S4,g2,c4,r4,t4⟩:=x6 r3.wt.at_ p2.my mr ht k3 k4 (z2l hn) p2.ay.two.app ar.old;have r4:=r4.after r3.wt;obtain⟨k6,k7,k8⟩:=k5 _ _ t3 t4;obtain⟨d3,S5,g3,c5,r5,t5⟩:=x6 r4.wt.at_ r3.mm r4.mm p2.ht k6 k7 (z2k hn) r3.all.app r4.all;have r5:=r5.after r4.wt;exact⟨d3,_,_,S5,jh rfl (zh (zq (zi (a_c (e_v rfl) (a_c (e_v rfl) a_n)) c1)) (zh (zn (qk (e_2 (zi (a_c (qm (e_v rfl) e_k rfl) a_n) (qp p.mx S1)) (zi (a_c (qm (e_v rfl) e_k rfl) a_n) (qp p.my S1)) hge))) (zh (zq (zi (a_c (e_v rfl) (a_c (qm (e_v rfl) e_k rfl) a_n)) c2)) (zh (zq (j8 (e_v rfl) (qt wt2.at_) (j0 _ _) (a_c (qm (e_v rfl) e_k rfl) (a_c (qm (e_v rfl) e_k rfl) (a_c (qm (e_v rfl) e_k rfl) a_n))) c3)) (zh (zq (j8 (e_v rfl) (qt r3.wt.at_) (j0 _ _) (a_c (qm (e_v rfl) e_k rfl) (a_c (e_v rfl) (a_c (e_v rfl) a_n))) c4)) (zv (j8 (e_v rfl) (qt r4.wt.at_) (j0 _ _) (a_c (e_v rfl) (a_c (qm (e_v rfl) e_k rfl) (a_c (e_v rfl) a_n))) c5))))))),z5f xt xt' yt' rt▸r5,k8 _ t5,z36 f1 f2⟩
theorem zdr(hw:S[i]? = some (wd (y4 k) n))(ml:Mk k l lt lh)(mr:Mk k r rt rh)(ht:Thing k t)(hh:rh=lh+2)(hn:lt.length+1+rt.length<=2000)(al:All P l)(ar:All P r) :
   ∃d h new S',y6 [.obj i,l,t,r] S=some (d,S')/\Res k i S n P (lt++t::rt) d h new S'/\(rh<=h/\h<=rh+1)/\new.length<=7:=by
 obtain⟨x,u,y,xt,yt,xh,yh,w1,S1,c1,p⟩:=yc mr (by omega) hw ar;have e1:=p.hts;subst e1;have e2:=p.hh;have f1:=p.few;by_cases hg:xh<=yh
 · obtain⟨k1,k2,k3⟩:=up1 hh p.hh.sym p.h2 p.h1 hg;have hge:zta (.int yh) (.int xh)=some (.bl true):=by rw[z09,z6d hg]
   clear hg;obtain⟨d1,S2,g1,c2,r2,t2⟩:=x6 p.wt.at_ ml p.mx ht k2 k1 (zy5 hn) al.old p.ax;have r2:=r2.after p.wt;obtain⟨k4,k5,k6⟩:=k3 _ t2.sym;obtain⟨d2,S3,g2,c3,r3,t3⟩:=x6 r2.wt.at_ r2.mm p.my p.ht k5 k4 (by rw[z04];exact hn) r2.all p.ay.app;have r3:=r3.after r2.wt;exact⟨d2,_,_,S3,jh rfl (zh (zq (zi (a_c (e_v rfl) (a_c (e_v rfl) a_n)) c1)) (qg (z9 (qk (e_2 (zi (a_c (qm (e_v rfl) e_k rfl) a_n) (qp p.my S1)) (zi (a_c (qm (e_v rfl) e_k rfl) a_n) (qp p.mx S1)) hge)) (zv (j8 (e_v rfl) (qt p.wt.at_) (j0 _ _) (a_c (j8 (e_v rfl) (qt p.wt.at_) (j0 _ _) (a_c (e_v rfl) (a_c (e_v rfl) (a_c (qm (e_v rfl) e_k rfl) a_n))) c2) (a_c (qm (e_v rfl) e_k rfl) (a_c (qm (e_v rfl) e_k rfl) a_n))) c3))))),(z1f lt xt yt).symm▸r3,k6 _ t3.sym,z37 f1⟩
 · have hge:zta (.int yh) (.int xh)=some (.bl false):=by rw[z09,z5w hg]
   obtain⟨x',v,y',xt',yt',xh',yh',w2,S2,c2,p2⟩:=yc p.mx (by omega) p.wt.at_ p.ax;have e3:=p2.hts;subst e3;obtain⟨⟨k1,k2⟩,⟨k3,k4⟩,k5⟩:=up2 hh p.hh.sym p.h2 p.h1 hg p2.hh.sym p2.h2 p2.h1;have f2:=p2.few;clear hg e2;have wt2:=p.wt.two p2.wt;obtain⟨d1,S3,g1,c3,r3,t3⟩:=x6 wt2.at_ ml p2.mx ht k4 k3 (z2j hn) al.old p2.ax.two;have r3:=r3.after wt2;obtain⟨d2,S4,g2,c4,r4,t4⟩:=x6 r3.wt.at_ p2.my p.my p.ht k2 k1 (z2i hn) p2.ay.two.app p.ay.app.app;have r4:=r4.after r3.wt;obtain⟨k6,k7,k8⟩:=k5 _ _ t4.sym t3.sym;obtain⟨d3,S5,g3,c5,r5,t5⟩:=x6 r4.wt.at_ r3.mm r4.mm p2.ht k7 k6 (z2h hn) r3.all.app r4.all;have r5:=r5.after r4.wt;exact⟨d3,_,_,S5,jh rfl (zh (zq (zi (a_c (e_v rfl) (a_c (e_v rfl) a_n)) c1)) (zh (zn (qk (e_2 (zi (a_c (qm (e_v rfl) e_k rfl) a_n) (qp p.my S1)) (zi (a_c (qm (e_v rfl) e_k rfl) a_n) (qp p.mx S1)) hge))) (zh (zq (zi (a_c (e_v rfl) (a_c (qm (e_v rfl) e_k rfl) a_n)) c2)) (zh (zq (j8 (e_v rfl) (qt wt2.at_) (j0 _ _) (a_c (e_v rfl) (a_c (e_v rfl) (a_c (qm (e_v rfl) e_k rfl) a_n))) c3)) (zh (zq (j8 (e_v rfl) (qt r3.wt.at_) (j0 _ _) (a_c (qm (e_v rfl) e_k rfl) (a_c (qm (e_v rfl) e_k rfl) (a_c (qm (e_v rfl) e_k rfl) a_n))) c4)) (zv (j8 (e_v rfl) (qt r4.wt.at_) (j0 _ _) (a_c (e_v rfl) (a_c (qm (e_v rfl) e_k rfl) (a_c (e_v rfl) a_n))) c5))))))),z5e lt xt' yt' yt▸r5,k8 _ t5.sym,z36 f1 f2⟩
structure Hi (a b h:Nat):Prop where
 l:a<=h
 r:b<=h
 m:∀z,a<=z->b<=z->h<=z+1
theorem Top.hi{a b h:Nat}(p:Top a b h):Hi a b h:=⟨z7w p.l,z7w p.r,fun z h1 h2=>by rcases p.e with rfl | rfl<;>omega⟩
theorem xk(hw:S[i]? = some (wd (y4 k) n))(ml:Mk k l lt lh)(mr:Mk k r rt rh)(ht:Thing k t)(h1:lh<=rh+2)(h2:rh<=lh+2)(hn:lt.length+1+rt.length<=2000)(al:All P l)(ar:All P r) :
   ∃d h new S',jx [.obj i,l,t,r] S=some (d,S')/\Res k i S n P (lt++t::rt) d h new S'/\Hi lh rh h/\(lh<=rh+1->rh<=lh+1->Top lh rh h)/\new.length<=7:=by
 have bl:=ku ml mr S;by_cases hb:lh<=rh+1/\rh<=lh+1
 · rw[z6d hb]at bl;obtain⟨d1,S1,g1,c1,r1,t1⟩:=x6 hw ml mr ht hb.1 hb.2 hn al ar;exact⟨d1,_,_,S1,jh rfl (qg (z9 (qk (zi (a_c (e_v rfl) (a_c (e_v rfl) a_n)) bl)) (zv (j8 (e_v rfl) (qt hw) (j0 _ _) (a_c (e_v rfl) (a_c (e_v rfl) (a_c (e_v rfl) a_n))) c1)))),r1,t1.hi,fun _ _=>t1,z5u rfl⟩
 · rw[z5w hb]at bl;by_cases hg:rh<lh
   · have e:lh=rh+2:=by omega
     obtain⟨d1,h,w,S1,c1,r1,⟨q1,q2⟩,q3⟩:=zev hw ml mr ht e hn al ar;exact⟨d1,h,w,S1,jh rfl (zh (zn (qk (zi (a_c (e_v rfl) (a_c (e_v rfl) a_n)) bl))) (qg (z9 (qk (e_2 (zi (a_c (e_v rfl) a_n) (qp ml S)) (zi (a_c (e_v rfl) a_n) (qp mr S)) (by rw[zww,z6d hg]))) (zv (zi (a_c (e_v rfl) (a_c (e_v rfl) (a_c (e_v rfl) (a_c (e_v rfl) a_n)))) c1))))),r1,⟨q1,z57 (z7w hg) q1,fun z z1 z2=>z57 q2 (qab z1)⟩,fun u v=>absurd ⟨u,v⟩ hb,q3⟩
   · have e:rh=lh+2:=by omega
     obtain⟨d1,h,w,S1,c1,r1,⟨q1,q2⟩,q3⟩:=zdr hw ml mr ht e hn al ar;exact⟨d1,h,w,S1,jh rfl (zh (zn (qk (zi (a_c (e_v rfl) (a_c (e_v rfl) a_n)) bl))) (zh (zn (qk (e_2 (zi (a_c (e_v rfl) a_n) (qp ml S)) (zi (a_c (e_v rfl) a_n) (qp mr S)) (by rw[zww,z5w hg])))) (zv (zi (a_c (e_v rfl) (a_c (e_v rfl) (a_c (e_v rfl) (a_c (e_v rfl) a_n)))) c1)))),r1,⟨z57 (z79.mp hg) q1,q1,fun z z1 z2=>z57 q2 (qab z2)⟩,fun u v=>absurd ⟨u,v⟩ hb,q3⟩
theorem dn1{a b h z c:Nat}(p:Top a b h)(q1:a<=b+1)(q2:b<=a+1)(hz:z+2<=h)(j:Hi b z c):a<=c+2/\c<=a+2:=by obtain⟨p1,p2,p3⟩:=p;have:=j.l;have:=j.m (b) (z5o _) (by omega);omega
theorem dn2{a b h z c g:Nat}(p:Top a b h)(q1:a<=b+1)(q2:b<=a+1)(hz:z+2<=h)(j:Hi b z c)(q:Hi a c g)(w:a<=c+1->c<=a+1->Top a c g):Hi h z g:=by
 obtain⟨p1,p2,p3⟩:=p;have c1:=j.l;have c2:=j.m b (z5o _) (by omega);have g1:=q.l;have g2:=q.r;have:h<=g/\g<=h+1:=by
   by_cases hb:a<=c+1/\c<=a+1
   · obtain⟨w1,w2,w3⟩:=w hb.1 hb.2;omega
   · have g3:=q.m c (by omega) (z5o _);omega
 exact⟨this.1,by omega,fun y y1 _=>z57 this.2 (qab y1)⟩
theorem dn3{a b h z f:Nat}(p:Top a b h)(q1:a<=b+1)(q2:b<=a+1)(hz:z+2<=h)(hf:h<=z+(f+1)):b<=z+f/\z<=b+f:=by obtain⟨p1,p2,p3⟩:=p;omega
theorem Hi.sym{a b h:Nat}(p:Hi a b h):Hi b a h:=⟨p.r,p.l,fun z u v=>p.m z v u⟩
theorem za2:∀(f c:Nat) {l r:D}{lt rt:List D}{lh rh:Nat}{n:Int}{S:Sto}{P:D->Prop},S[i]? = some (wd (y4 k) n)->Mk k l lt lh->Mk k r rt rh->Thing k t->lt.length+1+rt.length<=2000->All P l->All P r->lh<=rh+c->rh<=lh+c->c<f ->
   ∃d h new S',kx f [.obj i,l,t,r] S=some (d,S')/\Res k i S n P (lt++t::rt) d h new S'/\Hi lh rh h/\(lh<=rh+1->rh<=lh+1->Top lh rh h)/\new.length<=9*c+1
 |0,_,_,_,_,_,_,_,_,_,_,_,_,_,_,_,_,_,_,_,hf=>absurd hf (z8a _)
 | f+1,c,l,r,lt,rt,lh,rh,n,S,P,hw,ml,mr,ht,hn,al,ar,hc1,hc2,hf=>by
   have bl:=ku ml mr S;by_cases hb:lh<=rh+1/\rh<=lh+1
   · rw[z6d hb]at bl;obtain⟨d1,S1,g1,c1,r1,t1⟩:=x6 hw ml mr ht hb.1 hb.2 hn al ar;exact⟨d1,_,_,S1,jh rfl (qg (z9 (qk (zi (a_c (e_v rfl) (a_c (e_v rfl) a_n)) bl)) (zv (j8 (e_v rfl) (qt hw) (j0 _ _) (a_c (e_v rfl) (a_c (e_v rfl) (a_c (e_v rfl) a_n))) c1)))),r1,t1.hi,fun _ _=>t1,Nat.le_add_left _ _⟩
   · rw[z5w hb]at bl;cases c with
     |zero=>omega
     | succ c=>
       by_cases hg:rh<lh
       · have hz:rh+2<=lh:=by omega
         clear hc2;obtain⟨x,u,y,xt,yt,xh,yh,w1,S1,c1,p⟩:=yc ml (z8k (z6n _) hg) hw al;have e1:=p.hts;subst e1;obtain⟨k1,k2⟩:=dn3 p.hh p.h1 p.h2 hz hc1;obtain⟨d1,g1,w2,S2,c2,r2,b1,b0,b2⟩:=za2 f c p.wt.at_ p.my mr ht (zy6 hn) p.ay ar.old k1 k2 (Nat.lt_of_succ_lt_succ hf);have r2:=r2.after p.wt;obtain⟨k3,k4⟩:=dn1 p.hh p.h1 p.h2 hz b1;obtain⟨d2,g2,w3,S3,c3,r3,b5,b6,b7⟩:=xk r2.wt.at_ p.mx r2.mm p.ht k3 k4 (by rw[<-z04];exact hn) p.ax.app r2.all;have r3:=r3.after r2.wt;exact⟨d2,g2,_,S3,jh rfl (zh (zn (qk (zi (a_c (e_v rfl) (a_c (e_v rfl) a_n)) bl))) (qg (z9 (qk (e_2 (zi (a_c (e_v rfl) a_n) (qp ml S)) (zi (a_c (e_v rfl) a_n) (qp mr S)) (by rw[zww,z6d hg]))) (zh (zq (zi (a_c (e_v rfl) (a_c (e_v rfl) a_n)) c1)) (zv (zi (a_c (e_v rfl) (a_c (qm (e_v rfl) e_k rfl) (a_c (qm (e_v rfl) e_k rfl) (a_c (zi (a_c (e_v rfl) (a_c (qm (e_v rfl) e_k rfl) (a_c (e_v rfl) (a_c (e_v rfl) a_n)))) c2) a_n)))) c3)))))),z1f xt yt rt▸r3,dn2 p.hh p.h1 p.h2 hz b1 b5 b6,fun u v=>absurd ⟨u,v⟩ hb,z35 p.few b2 b7⟩
       · have hz:lh+2<=rh:=by omega
         clear hc1;obtain⟨x,u,y,xt,yt,xh,yh,w1,S1,c1,p⟩:=yc mr (z5r (by decide) (z57 (Nat.le_add_left 2 lh) hz)) hw ar;have e1:=p.hts;subst e1;obtain⟨k1,k2⟩:=dn3 p.hh.sym p.h2 p.h1 hz hc2;obtain⟨d1,g1,w2,S2,c2,r2,b1,b0,b2⟩:=za2 f c p.wt.at_ ml p.mx ht (zy5 hn) al.old p.ax k2 k1 (Nat.lt_of_succ_lt_succ hf);have r2:=r2.after p.wt;obtain⟨k3,k4⟩:=dn1 p.hh.sym p.h2 p.h1 hz b1.sym;obtain⟨d2,g2,w3,S3,c3,r3,b5,b6,b7⟩:=xk r2.wt.at_ r2.mm p.my p.ht k4 k3 (by rw[z04];exact hn) r2.all p.ay.app;have r3:=r3.after r2.wt;exact⟨d2,g2,_,S3,jh rfl (zh (zn (qk (zi (a_c (e_v rfl) (a_c (e_v rfl) a_n)) bl))) (zh (zn (qk (e_2 (zi (a_c (e_v rfl) a_n) (qp ml S)) (zi (a_c (e_v rfl) a_n) (qp mr S)) (by rw[zww,z5w hg])))) (zh (zq (zi (a_c (e_v rfl) (a_c (e_v rfl) a_n)) c1)) (zv (zi (a_c (e_v rfl) (a_c (zi (a_c (e_v rfl) (a_c (e_v rfl) (a_c (e_v rfl) (a_c (qm (e_v rfl) e_k rfl) a_n)))) c2) (a_c (qm (e_v rfl) e_k rfl) (a_c (qm (e_v rfl) e_k rfl) a_n)))) c3))))),(z1f lt xt yt).symm▸r3,(dn2 p.hh.sym p.h2 p.h1 hz b1.sym b5.sym fun u v=>(b6 v u).sym).sym,fun u v=>absurd ⟨u,v⟩ hb,z35 p.few b2 b7⟩
end Pg
namespace Pg
open PySem L2 F Mt
variable {k:Nat} [Kd k] {d l r t x y:D}{ts lt rt:List D}{h lh rh i:Nat}{n:Int}{S S0 S1:Sto}{ev e:Ev}{P Q:D->Prop}{a b new:List D}
theorem z3x(x y:Nat):zg8 (.int x) (.int y)=some (.bl (decide (x<y))):=z68 (fun b=>some (D.bl b)) (z6u.mpr qad)
theorem z3z(x y:Nat):zeu (.int x) (.int y)=some (.bl (decide (x<=y))):=z68 (fun b=>some (D.bl b)) (z6u.mpr Int.ofNat_le)
theorem zy3{x y:Nat}(h:x<y):zg8 (.int x) (.int y)=some (.bl true):=by rw[z3x,z6d h]
theorem zvj{x y:Nat}(h:¬ x<y):zg8 (.int x) (.int y)=some (.bl false):=by rw[z3x,z5w h]
theorem zwv{x y:Nat}(h:x<=y):zeu (.int x) (.int y)=some (.bl true):=by rw[z3z,z6d h]
theorem z30{x y:Nat}(h:¬ x<=y):zeu (.int x) (.int y)=some (.bl false):=by rw[z3z,z5w h]
theorem z2u{x y:Nat}(h:y<x):zim (.int x) (.int y)=some (.bl true):=by rw[zww,z6d h]
theorem z07{x y:Nat}(h:¬ y<x):zim (.int x) (.int y)=some (.bl false):=by rw[zww,z5w h]
theorem z28{x y:Nat}(h:x=y):kl (.int x) (.int y)=some (.bl true):=by rw[zkf,h];simp
theorem z1c{x y:Nat}(h:x≠y):kl (.int x) (.int y)=some (.bl false):=by rw[zkf];simp;omega
theorem zhn{f g:E}{p m q:Nat}(hf:f ev S=some (.int p,S))(hg:g ev S=some (.int m,S))(hq:p=m+1+q):e2 yp (e2 yp f g) (eK (.int 1)) ev S=some (.int q,S) :=
 e_2 (e_2 hf hg (sub_int _ _)) e_k (by rw[sub_int,show(p:Int)-m-1=q by omega])
def HB(m h:Nat):Prop:=m<2^h/\2^h<=2*m+1
theorem zvu{m a b:Nat}(hm:0<m)(ha:HB (m/2) a)(hb:HB ((m-1)/2) b):a<=b+1/\b<=a+1/\∀h,Top a b h->HB m h:=by
 obtain⟨a1,a2⟩:=ha;obtain⟨b1,b2⟩:=hb;have h1:b<=a:=by
   rcases z7e a b with q | q
   · have:=Nat.pow_le_pow_right (n:=2) (by decide) (show a+1<=b from q);rw[Nat.pow_succ]at this;omega
   · exact q
 have h2:a<=b+1:=by
   rcases z7e (b+1) a with q | q
   · have:=Nat.pow_le_pow_right (n:=2) (by decide) (show b+1+1<=a from q);rw[Nat.pow_succ,Nat.pow_succ]at this;omega
   · exact q
 refine⟨h2,by omega,fun h ⟨_,_,e⟩=>?_⟩;have e:h=a+1:=by omega
 subst e;unfold HB;rw[Nat.pow_succ];cases a with
 |zero=>rw[Nat.pow_zero]at a1 a2 ⊢;omega
 |succ a=>rw[Nat.pow_succ]at a1 a2 ⊢;omega
theorem z0t(p a c:List D):atI (p++a++t::c) (((p.length+a.length:Nat)):Int)=some t:=zgr (by rw[z59 (by simp),z5l];simp)
theorem halves:∀{ts:List D},ts≠[]->∃a t b,ts=a++t::b/\a.length=ts.length/2/\b.length=(ts.length-1)/2:=fun {ts} h=>by
 have hl:0<ts.length:=z69.mpr h;have hm:ts.length/2<ts.length:=by omega
 refine⟨ts.take (ts.length/2),ts[ts.length/2],ts.drop (ts.length/2+1),?_,?_,?_⟩
 · rw[<-z67 hm,z63]
 · rw[z56];omega
 · rw[z6k];omega
theorem zgn:∀(f:Nat) {p ts q:List D}{n:Int}{S:Sto}{P:D->Prop},S[i]? = some (wd (y4 k) n)->(∀x∈ts,Thing k x)->ts.length<=2000->ts.length<2^f->∀{s e:Nat},s=p.length->e=p.length+ts.length ->
   ∃d h new S',zf7 (f+1) [.obj i,.lst (p++ts++q),.int s,.int e] S=some (d,S')/\Res k i S n P ts d h new S'/\HB ts.length h
 | f,p,ts,q,n,S,P,hw,ht,hl,hf,s,e,hs,he=>by
   by_cases h0:ts=[]
   · subst h0;refine⟨.non,0,[],S,jh rfl (qg (z9 (qk (e_2 (e_v rfl) (e_v rfl) (z28 (by simp[hs,he])))) (zv e_k))),⟨.non,Wt.nil hw,.non⟩,by decide,by decide⟩
   · obtain⟨a,t,b,e0,la,lb⟩:=halves h0;have hlen:0<ts.length:=z69.mpr h0;cases f with
     |zero=>rw[Nat.pow_zero]at hf;omega
     | succ f=>
       rw[Nat.pow_succ]at hf;obtain⟨d1,h1,w1,S1,c1,r1,b1⟩:=zgn f (p:=p) (ts:=a) (q:=t::b++q) (P:=P) hw (fun x hx=>ht x (by rw[e0];exact z7d _ hx)) (by omega) (by omega) hs rfl;obtain⟨d2,h2,w2,S2,c2,r2,b2⟩:=zgn f (p:=p++a++[t]) (ts:=b) (q:=q) (P:=Ac P n w1) r1.wt.at_ (fun x hx=>ht x (by rw[e0];exact z5y _ (z5n _ hx))) (by omega) (by omega) (s:=p.length+a.length+1) (e:=e) (by simp;omega) (by simp;omega);have r2:=r2.after r1.wt;rw[la]at b1;rw[lb]at b2;obtain⟨q1,q2,q3⟩:=zvu hlen b1 b2;have e1:p++a++(t::b++q)=p++ts++q:=by rw[e0];simp
       have e2:p++a++[t]++b++q=p++ts++q:=by rw[e0];simp
       have e3:p++ts++q=p++a++t::(b++q):=by rw[e0];simp
       rw[e1]at c1;rw[e2]at c2;obtain⟨d3,S3,h3,c3,r3,t3⟩:=x6 r2.wt.at_ r1.mm r2.mm (ht t (by rw[e0];simp)) q1 q2 (by omega) r1.all.app r2.all;have r3:=r3.after r2.wt;rw[<-e0]at r3;have em:zbj (.int ((s:Int)+e)) (.int 2)=some (.int ((p.length+a.length:Nat):Int)):=by rw[zhq (by decide),show((s:Int)+e)/2=((p.length+a.length:Nat):Int) by omega]
       exact⟨d3,h3,_,S3,jh rfl (zh (zn (qk (e_2 (e_v rfl) (e_v rfl) (z1c (by omega))))) (zh (zq (e_2 (e_2 (e_v rfl) (e_v rfl) (add_int _ _)) e_k em)) (zh (zq (zi (a_c (e_v rfl) (a_c (e_v rfl) (a_c (e_v rfl) (a_c (e_v rfl) a_n)))) c1)) (zh (zq (zi (a_c (e_v rfl) (a_c (e_v rfl) (a_c (e_2 (e_v rfl) e_k (add_int _ _)) (a_c (e_v rfl) a_n)))) c2)) (zv (j8 (e_v rfl) (qt r2.wt.at_) (j0 _ _) (a_c (e_v rfl) (a_c (qm (e_v rfl) (e_v rfl) (by rw[e3];exact z0t _ _ _)) (a_c (e_v rfl) a_n))) c3)))))),r3,q3 _ t3⟩
theorem zcj(hw:S[i]? = some (wd (y4 k) n))(ht:∀x∈ts,Thing k x)(hl:ts.length<=2000):∃d h new S',za6 [.obj i,.lst ts] S=some (d,S')/\Res k i S n P ts d h new S':=by obtain⟨d,h,new,S1,c,r,_⟩:=zgn (i:=i) (k:=k) 39 (p:=[]) (ts:=ts) (q:=[]) (P:=P) hw ht hl (z8k hl (by decide)) (s:=0) (e:=ts.length) rfl (by simp);rw[List.nil_append,z6f]at c;exact⟨d,h,new,S1,jh rfl (zh (yb (zi (a_c (e_a (a_c (e_v rfl) a_n) rfl) a_n) (zig hl S))) (zv (zi (a_c (e_v rfl) (a_c (e_v rfl) (a_c e_k (a_c (e_a (a_c (e_v rfl) a_n) rfl) a_n)))) c))),r⟩
theorem z0c(a b:Bool):kl (.bl a) (.bl b)=some (.bl (a==b)):=rfl
structure Seen (k:Nat) (us:List D) (h:Nat) (x t y:D) (c:Bool) (xt yt:List D) (xh yh:Nat):Prop where
 mx:Mk k x xt xh
 my:Mk k y yt yh
 ht:Thing k t
 hu:us=ord c xt++t::ord c yt
 hx:xh<h
 hy:yh<h
theorem zie(m:Mk k d ts h)(hh:0<h)(b:Bool)(S:Sto):∃x t y c xt yt xh yh,zhg [d,.bl b] S=some (.tup [x,t,y,.bl c],S)/\Seen k (ord b ts) h x t y c xt yt xh yh:=by
 cases m with
 |non=>omega
 | @node num a l t r lt rt lh rh ml mr ht h1 h2=>
   unfold mkD;by_cases e:a=b
   · subst e;exact⟨l,t,r,false,lt,rt,lh,rh,jh rfl (qg (z9 (qk (e_2 (qm (e_v rfl) e_k rfl) (e_v rfl) (by rw[z0c];simp))) (zv (x4 (a_c (qm (e_v rfl) e_k rfl) (a_c (qm (e_v rfl) e_k rfl) (a_c (qm (e_v rfl) e_k rfl) (a_c e_k a_n)))) (z5u rfl))))),ml,mr,ht,by cases a<;>simp[ord],by omega,by omega⟩
   · exact⟨r,t,l,true,rt,lt,rh,lh,jh rfl (zh (zn (qk (e_2 (qm (e_v rfl) e_k rfl) (e_v rfl) (by rw[z0c];simp[e])))) (zv (x4 (a_c (qm (e_v rfl) e_k rfl) (a_c (qm (e_v rfl) e_k rfl) (a_c (qm (e_v rfl) e_k rfl) (a_c e_k a_n)))) (z5u rfl)))),mr,ml,ht,by cases a<;>cases b<;>simp_all [ord],by omega,by omega⟩
theorem zar(m:Mk k d ts h)(hl:ts≠[]):0<h:=by
 cases m with
 |non=>exact absurd rfl hl
 |node _ _ _ _ _=>omega
theorem zyw{p:Nat}(h:ts[p]? = some x):ts≠[]:=fun e=>by rw[e]at h;cases h
theorem zs8{c:Bool}(h:ord c ts≠[]):ts≠[]:=fun e=>h (by rw[e];cases c<;>rfl)
theorem zai:∀(f:Nat) {d:D}{ts:List D}{h p:Nat}{b:Bool},Mk k d ts h->h<=f->(ord b ts)[p]? = some x->∀S,xl f [d,.bl b,.int p] S=some (x,S)
 |0,d,ts,h,p,b,m,hf,hp,S=>absurd (zar m (zs8 (zyw hp))) (z79.mpr hf)
 | f+1,d,ts,h,p,b,m,hf,hp,S=>by
   obtain⟨u,t,y,c,xt,yt,xh,yh,c1,s⟩:=zie m (zar m (zs8 (zyw hp))) b S;have hu:=s.hu;rw[hu]at hp;have lx:=xw c xt;have hx:=s.hx;have hy:=s.hy;have c2:=jy s.mx S;by_cases h1:p<xt.length
   · rw[z6h (by omega)]at hp;exact jh rfl (zh (zq (zi (a_c (e_v rfl) (a_c (e_v rfl) a_n)) c1)) (zh (zq (zi (a_c (qm (e_v rfl) e_k rfl) a_n) c2)) (qg (z9 (qk (e_2 (e_v rfl) (e_v rfl) (zy3 h1))) (zv (zi (a_c (qm (e_v rfl) e_k rfl) (a_c (qm (e_v rfl) e_k rfl) (a_c (e_v rfl) a_n))) (zai f s.mx (by omega) hp S)))))))
   · rw[z59 (by omega),lx]at hp;by_cases h2:xt.length<p
     · have e:p=xt.length+1+(p-xt.length-1):=by omega
       rw[show p-xt.length=(p-xt.length-1)+1 by omega,List.getElem?_cons_succ]at hp;exact jh rfl (zh (zq (zi (a_c (e_v rfl) (a_c (e_v rfl) a_n)) c1)) (zh (zq (zi (a_c (qm (e_v rfl) e_k rfl) a_n) c2)) (zh (zn (qk (e_2 (e_v rfl) (e_v rfl) (zvj h1)))) (qg (z9 (qk (e_2 (e_v rfl) (e_v rfl) (z2u h2))) (zv (zi (a_c (qm (e_v rfl) e_k rfl) (a_c (qm (e_v rfl) e_k rfl) (a_c (zhn (e_v rfl) (e_v rfl) e) a_n))) (zai f s.my (by omega) hp S))))))))
     · rw[show p-xt.length=0 by omega,List.getElem?_cons_zero]at hp;cases hp;exact jh rfl (zh (zq (zi (a_c (e_v rfl) (a_c (e_v rfl) a_n)) c1)) (zh (zq (zi (a_c (qm (e_v rfl) e_k rfl) a_n) c2)) (zh (zn (qk (e_2 (e_v rfl) (e_v rfl) (zvj h1)))) (zh (zn (qk (e_2 (e_v rfl) (e_v rfl) (z07 h2)))) (zv (qm (e_v rfl) e_k rfl))))))
end Pg
namespace Pg
open PySem L2 F Mt
variable {k:Nat} [Kd k] {d l r t x y:D}{ts lt rt:List D}{h lh rh i:Nat}{n:Int}{S S0 S1:Sto}{ev e:Ev}{P Q:D->Prop}{a b new:List D}
theorem zyz(m:Mk k d [] h):d=.non/\h=0:=by
 generalize e:([]:List D)=ts at m;cases m with
 |non=>exact⟨rfl,rfl⟩
 |node _ _ _ _ _=>exact absurd (z68 List.length e) (by rw[xw];simp)
theorem h15(m:Mk k d ts h)(hl:ts.length<=2000):h<=15:=by
 have q:=zy0 m;rcases z7e 15 h with z | z
 · have:low 16<=low h:=zfw z;have e:low 16=2583:=by decide
   omega
 · exact z
theorem o1{xh yh h g:Nat}(p:Top xh yh h)(q1:xh<=yh+1)(q2:yh<=xh+1)(g1:g<=xh)(g2:xh<=g+1):(g<=yh+2/\yh<=g+2)/\∀z,Hi g yh z->(g<=yh+1->yh<=g+1->Top g yh z)->z<=h/\h<=z+1:=by
 obtain⟨p1,p2,p3⟩:=p;refine⟨⟨by omega,by omega⟩,fun z hz ht=>?_⟩;by_cases hb:g<=yh+1/\yh<=g+1
 · obtain⟨t1,t2,t3⟩:=ht hb.1 hb.2;omega
 · have:=hz.r;have:=hz.m yh (by omega) (z5o _);omega
theorem zro{a b c:List D}{m xh yh h:Nat}(p:Top xh yh h)(h1:a.length<=2)(h2:b.length<=9*xh+m)(h3:c.length<=7):(a++b++c).length<=9*h+m:=by have:=p.l;simp only[z5l];omega
theorem ztk{a b c:List D}{m xh yh h:Nat}(p:Top xh yh h)(h1:a.length<=2)(h2:b.length<=9*yh+m)(h3:c.length<=7):(a++b++c).length<=9*h+m:=zro p.sym h1 h2 h3
theorem znw:¬ (0:Nat)<0:=by decide
theorem zvo{self:G}(S:Sto):ju self [.obj i,.non,y] S=some (y,S):=rfl
theorem znq:∀(f:Nat) {d u:D}{rest:List D}{h:Nat}{n:Int}{S:Sto}{P:D->Prop},S[i]? = some (wd (y4 k) n)->Mk k d (u::rest) h->rest.length<2000->All P d->h<=f ->
   ∃d' h' new S',jt f [.obj i,d,.int (0:Nat)] S=some (d',S')/\Res k i S n P rest d' h' new S'/\(h'<=h/\h<=h'+1)/\new.length<=9*h
 |0,_,_,_,_,_,_,_,_,m,_,_,hf=>absurd (zar m (by simp)) (z79.mpr hf)
 | f+1,d,u,rest,h,n,S,P,hw,m,hl,al,hf=>by
   obtain⟨x,v,y,xt,yt,xh,yh,w1,S1,c1,p⟩:=yc m (zar m (by simp)) hw al;have e1:=p.hts;have c2:=jy p.mx S1;cases xt with
   | nil=>
     obtain⟨rfl,rfl⟩:=zyz p.mx;simp only[List.nil_append,z7n]at e1;obtain⟨rfl,rfl⟩:=e1;have e:h=yh+1:=by have:=p.hh.l;have:=p.hh.r;have:=p.hh.e;omega
     exact⟨y,yh,w1,S1,jh rfl (zh (zq (zi (a_c (e_v rfl) (a_c (e_v rfl) a_n)) c1)) (zh (zq (zi (a_c (qm (e_v rfl) e_k rfl) a_n) c2)) (zh (zn (qk (e_2 (e_v rfl) (e_v rfl) (zvj znw)))) (zh (zn (qk (e_2 (e_v rfl) (e_v rfl) (z07 znw)))) (zv (zi (a_c (e_v rfl) (a_c (qm (e_v rfl) e_k rfl) (a_c (qm (e_v rfl) e_k rfl) a_n))) (zvo S1))))))),⟨p.my,p.wt,p.ay⟩,⟨by omega,by omega⟩,by have:=p.few;omega⟩
   | cons u' xt=>
     simp only[List.cons_append,z7n]at e1;obtain⟨rfl,rfl⟩:=e1;simp only[z5l,List.length_cons]at hl;have hx:=p.hh.l;obtain⟨d1,g,w2,S2,c3,r2,⟨b1,b2⟩,b3⟩:=znq f p.wt.at_ p.mx (by omega) p.ax (by omega);have r2:=r2.after p.wt;obtain⟨⟨k1,k2⟩,k3⟩:=o1 p.hh p.h1 p.h2 b1 b2;obtain⟨d2,g2,w3,S3,c4,r3,b5,b6,b7⟩:=xk r2.wt.at_ r2.mm p.my p.ht k1 k2 (by omega) r2.all p.ay.app;have r3:=r3.after r2.wt;exact⟨d2,g2,_,S3,jh rfl (zh (zq (zi (a_c (e_v rfl) (a_c (e_v rfl) a_n)) c1)) (zh (zq (zi (a_c (qm (e_v rfl) e_k rfl) a_n) c2)) (qg (z9 (qk (e_2 (e_v rfl) (e_v rfl) (zy3 (Nat.zero_lt_succ _)))) (zv (zi (a_c (e_v rfl) (a_c (zi (a_c (e_v rfl) (a_c (qm (e_v rfl) e_k rfl) (a_c (e_v rfl) a_n))) c3) (a_c (qm (e_v rfl) e_k rfl) (a_c (qm (e_v rfl) e_k rfl) a_n)))) c4)))))),r3,k3 _ b5 b6,zro (m:=0) p.hh p.few b3 b7⟩
theorem hi0(h:Nat):Hi 0 h h:=⟨z6n _,z5o _,fun z _ q=>Nat.le_succ_of_le q⟩
theorem ld1{lh rh g c:Nat}(g1:g<=rh)(g2:rh<=g+1)(c1:lh<=rh+c)(c2:rh<=lh+c):lh<=g+(c+1)/\g<=lh+(c+1):=by omega
theorem ld2{lh rh g z:Nat}(g1:g<=rh)(g2:rh<=g+1)(h:Hi lh g z)(w:lh<=g+1->g<=lh+1->Top lh g z)(c1:lh<=rh+1)(c2:rh<=lh+1):Hi lh rh z:=by
 refine⟨h.l,?_,fun y y1 y2=>h.m y y1 (by omega)⟩;by_cases hb:lh<=g+1/\g<=lh+1
 · obtain⟨t1,t2,t3⟩:=w hb.1 hb.2;omega
 · have:=h.l;omega
theorem zgx(m:Mk k d ts h):(d=.non/\ts=[]/\h=0)\/((∃xs,d=.tup xs)/\∃u rest,ts=u::rest):=by
 cases m with
 |non=>exact .inl ⟨rfl,rfl,rfl⟩
 | @node num a l t r lt rt lh rh _ _ _ _ _=>
   refine .inr ⟨⟨_,rfl⟩,?_⟩;cases e:ord a (lt++t::rt) with
   |nil=>exact absurd (z68 List.length e) (by rw[xw];simp)
   |cons u rest=>exact⟨u,rest,rfl⟩
theorem zhf(xs:List D):zdm (.tup xs) .non=some (.bl false):=rfl
theorem zn8{f c:Nat}(hw:S[i]? = some (wd (y4 k) n))(ml:Mk k l lt lh)(mr:Mk k r rt rh)(hn:lt.length+rt.length<=2000)(al:All P l)(ar:All P r)(hf:rh<=f)(c1:lh<=rh+c)(c2:rh<=lh+c) :
   ∃d h new S',ju (jt f) [.obj i,l,r] S=some (d,S')/\Res k i S n P (lt++rt) d h new S'/\(lh<=rh+1->rh<=lh+1->Hi lh rh h)/\new.length<=9*rh+9*c+10:=by
 rcases zgx ml with⟨rfl,rfl,rfl⟩ | ⟨⟨xs,rfl⟩,u0,r0,rfl⟩
 · exact⟨r,rh,[],S,rfl,⟨mr,Wt.nil hw,ar.old⟩,fun _ _=>hi0 rh,z6n _⟩
 · rcases zgx mr with⟨rfl,rfl,rfl⟩ | ⟨⟨ys,rfl⟩,u,rest,rfl⟩
   · exact⟨_,lh,[],S,rfl,⟨by rw[z6f];exact ml,Wt.nil hw,al.old⟩,fun _ _=>(hi0 lh).sym,z6n _⟩
   · simp only[List.length_cons]at hn;have l15:=h15 ml (by simp only[List.length_cons];omega);have r15:=h15 mr (by simp only[List.length_cons];omega);obtain⟨d1,g,w1,S1,q1,r1,⟨b1,b2⟩,b3⟩:=znq f hw mr (by omega) ar hf;have at0:=zai (x:=u) 40 (b:=false) (p:=0) mr (by omega) rfl S;have hj:∃c',c'<40/\c'<=c+1/\lh<=g+c'/\g<=lh+c':=by
       obtain⟨z1,z2⟩:=ld1 b1 b2 c1 c2;rcases z7e c 30 with q | q
       · exact⟨c+1,by omega,z5o _,z1,z2⟩
       · exact⟨16,by decide,by omega,by omega,by omega⟩
     obtain⟨c',j1,j2,j3,j4⟩:=hj;obtain⟨d2,g2,w2,S2,q2,r2,b5,b6,b7⟩:=za2 40 c' r1.wt.at_ ml r1.mm (mr.things u (z5x ..)) (by simp only[List.length_cons];omega) al.old r1.all j3 j4 j1;have r2:=r2.after r1.wt;exact⟨d2,g2,_,S2,jh rfl (zh (zn (qk (e_2 (e_v rfl) e_k (zhf _)))) (zh (zn (qk (e_2 (e_v rfl) e_k (zhf _)))) (zv (zi (a_c (e_v rfl) (a_c (e_v rfl) (a_c (zi (a_c (e_v rfl) (a_c e_k (a_c e_k a_n))) at0) (a_c (zi (a_c (e_v rfl) (a_c (e_v rfl) (a_c e_k a_n))) q1) a_n)))) q2)))),r2,ld2 b1 b2 b5 b6,by simp only[z5l];omega⟩
theorem zv9{p:Nat}(h:p<a.length):(a++t::b).eraseIdx p=a.eraseIdx p++t::b:=List.eraseIdx_append_of_lt_length h _
theorem zv8:(a++t::b).eraseIdx a.length=a++b:=by rw[z86 (z5o _),z8z];rfl
theorem zv7{q:Nat}:(a++t::b).eraseIdx (a.length+1+q)=a++t::b.eraseIdx q:=by rw[z86 (by omega),show a.length+1+q-a.length=q+1 by omega];rfl
theorem zaw:∀(f:Nat) {d:D}{ts:List D}{h p:Nat}{n:Int}{S:Sto}{P:D->Prop},S[i]? = some (wd (y4 k) n)->Mk k d ts h->ts.length<=2000->p<ts.length->All P d->h<=f ->
   ∃d' h' new S',jt f [.obj i,d,.int p] S=some (d',S')/\Res k i S n P (ts.eraseIdx p) d' h' new S'/\(h'<=h/\h<=h'+1)/\new.length<=9*h+21
 |0,d,ts,h,p,n,S,P,hw,m,hl,hp,al,hf=>absurd (zar m (z69.mp (by omega))) (z79.mpr hf)
 | f+1,d,ts,h,p,n,S,P,hw,m,hl,hp,al,hf=>by
   obtain⟨x,v,y,xt,yt,xh,yh,w1,S1,c1,q⟩:=yc m (zar m (z69.mp (by omega))) hw al;have e1:=q.hts;subst e1;have c2:=jy q.mx S1;have hx:=q.hh.l;have hy:=q.hh.r;simp only[z5l,List.length_cons]at hl hp;by_cases h1:p<xt.length
   · obtain⟨d1,g,w2,S2,c3,r2,⟨b1,b2⟩,b3⟩:=zaw f q.wt.at_ q.mx (by omega) h1 q.ax (by omega);have r2:=r2.after q.wt;obtain⟨⟨k1,k2⟩,k3⟩:=o1 q.hh q.h1 q.h2 b1 b2;obtain⟨d2,g2,w3,S3,c4,r3,b5,b6,b7⟩:=xk r2.wt.at_ r2.mm q.my q.ht k1 k2 (by rw[z9w h1];omega) r2.all q.ay.app;have r3:=r3.after r2.wt;exact⟨d2,g2,_,S3,jh rfl (zh (zq (zi (a_c (e_v rfl) (a_c (e_v rfl) a_n)) c1)) (zh (zq (zi (a_c (qm (e_v rfl) e_k rfl) a_n) c2)) (qg (z9 (qk (e_2 (e_v rfl) (e_v rfl) (zy3 h1))) (zv (zi (a_c (e_v rfl) (a_c (zi (a_c (e_v rfl) (a_c (qm (e_v rfl) e_k rfl) (a_c (e_v rfl) a_n))) c3) (a_c (qm (e_v rfl) e_k rfl) (a_c (qm (e_v rfl) e_k rfl) a_n)))) c4)))))),by rw[zv9 h1];exact r3,k3 _ b5 b6,zro q.hh q.few b3 b7⟩
   · by_cases h2:xt.length<p
     · obtain⟨z,e⟩:∃z,p=xt.length+1+z:=⟨p-xt.length-1,by omega⟩
       have hz:z<yt.length:=by omega
       obtain⟨d1,g,w2,S2,c3,r2,⟨b1,b2⟩,b3⟩:=zaw f (p:=z) q.wt.at_ q.my (by omega) hz q.ay (by omega);have r2:=r2.after q.wt;obtain⟨⟨k1,k2⟩,k3⟩:=o1 q.hh.sym q.h2 q.h1 b1 b2;obtain⟨d2,g2,w3,S3,c4,r3,b5,b6,b7⟩:=xk r2.wt.at_ q.mx r2.mm q.ht k2 k1 (by rw[z9w hz];omega) q.ax.app r2.all;have r3:=r3.after r2.wt;exact⟨d2,g2,_,S3,jh rfl (zh (zq (zi (a_c (e_v rfl) (a_c (e_v rfl) a_n)) c1)) (zh (zq (zi (a_c (qm (e_v rfl) e_k rfl) a_n) c2)) (zh (zn (qk (e_2 (e_v rfl) (e_v rfl) (zvj h1)))) (qg (z9 (qk (e_2 (e_v rfl) (e_v rfl) (z2u h2))) (zv (zi (a_c (e_v rfl) (a_c (qm (e_v rfl) e_k rfl) (a_c (qm (e_v rfl) e_k rfl) (a_c (zi (a_c (e_v rfl) (a_c (qm (e_v rfl) e_k rfl) (a_c (zhn (e_v rfl) (e_v rfl) e) a_n))) c3) a_n)))) c4))))))),by rw[e,zv7];exact r3,k3 _ b5.sym fun u v=>(b6 v u).sym,ztk q.hh q.few b3 b7⟩
     · have e:p=xt.length:=by omega
       obtain⟨d1,g,w2,S2,c3,r2,b1,b2⟩:=zn8 (f:=f) (c:=1) q.wt.at_ q.mx q.my (by omega) q.ax q.ay (by omega) q.h1 q.h2;have r2:=r2.after q.wt;have hi:=b1 q.h1 q.h2;have hm:=hi.m (h-1) (by omega) (by omega);have h1':=hi.l;have h2':=hi.r;have he:=q.hh.e;have hf:=q.few;exact⟨d1,g,_,S2,jh rfl (zh (zq (zi (a_c (e_v rfl) (a_c (e_v rfl) a_n)) c1)) (zh (zq (zi (a_c (qm (e_v rfl) e_k rfl) a_n) c2)) (zh (zn (qk (e_2 (e_v rfl) (e_v rfl) (zvj h1)))) (zh (zn (qk (e_2 (e_v rfl) (e_v rfl) (z07 h2)))) (zv (zi (a_c (e_v rfl) (a_c (qm (e_v rfl) e_k rfl) (a_c (qm (e_v rfl) e_k rfl) a_n))) c3)))))),by rw[e,zv8];exact r2,⟨by omega,by omega⟩,by simp only[z5l];omega⟩
end Pg
namespace Pg
open PySem L2 F Mt
variable {k:Nat} [Kd k] {d l r t x y:D}{ts lt rt:List D}{h lh rh i:Nat}{n:Int}{S S0 S1:Sto}{ev e:Ev}{P Q:D->Prop}{a b new:List D}
structure Cut (k i:Nat) (S:Sto) (n:Int) (P:D->Prop) (lt rt:List D) (h:Nat) (x y:D) (xh yh:Nat) (new:List D) (S':Sto):Prop where
 wt:Wt k i S n new S'
 mx:Mk k x lt xh
 my:Mk k y rt yh
 hx:xh<=h
 hy:yh<=h
 ax:All (Ac P n new) x
 ay:All (Ac P n new) y
 few:new.length<=9*(xh+yh)+3*h
theorem ct1{xh yh bh h:Nat}(p:Top xh yh h)(h1:xh<=yh+1)(hb:bh<=xh)(h40:h<40):∃c,c<40/\bh<=yh+c/\yh<=bh+c/\∀z ah l1 l2 l3,Hi bh yh z->(bh<=yh+1->yh<=bh+1->Top bh yh z)->l1<=2->l2<=9*(ah+bh)+3*xh->l3<=9*c+1->l1+l2+l3<=9*(ah+z)+3*h:=by
 obtain⟨p1,p2,p3⟩:=p;by_cases q:bh<=yh
 · exact⟨yh-bh,by omega,by omega,by omega,fun z ah l1 l2 l3 hz _ _ _ _=>by have:=hz.r;omega⟩
 · exact⟨1,by decide,by omega,by omega,fun z ah l1 l2 l3 _ hz _ _ _=>by have:=(hz (by omega) (by omega)).l;omega⟩
theorem zzr{a b z h:Nat}(p:Hi a b z)(h1:a<h)(h2:b<h):z<=h:=by have:=p.m (h-1) (by omega) (by omega);omega
theorem zso{p:Nat}(h:p<=a.length):(a++t::b).take p=a.take p:=z8h h
theorem ztw{p:Nat}(h:p<=a.length):(a++t::b).drop p=a.drop p++t::b:=z7t h
theorem zsn{q:Nat}:(a++t::b).take (a.length+1+q)=a++t::b.take q:=by rw[List.take_append,z70 (by omega),show a.length+1+q-a.length=q+1 by omega,List.take_succ_cons]
theorem ztv{q:Nat}:(a++t::b).drop (a.length+1+q)=b.drop q:=by rw[List.drop_append,z8j (by omega),show a.length+1+q-a.length=q+1 by omega,List.drop_succ_cons,List.nil_append]
theorem yx:∀(f:Nat) {d:D}{ts:List D}{h p:Nat}{n:Int}{S:Sto}{P:D->Prop},S[i]? = some (wd (y4 k) n)->Mk k d ts h->ts.length<=2000->p<=ts.length->All P d->h<f ->
   ∃x y xh yh new S',yi f [.obj i,d,.int p] S=some (.tup [x,y],S')/\Cut k i S n P (ts.take p) (ts.drop p) h x y xh yh new S'
 |0,_,_,_,_,_,_,_,_,_,_,_,_,hf=>absurd hf (z8a _)
 | f+1,d,ts,h,p,n,S,P,hw,m,hl,hp,al,hf=>by
   by_cases h0:p=0
   · subst h0;exact⟨.non,d,0,h,[],S,jh rfl (qg (z9 (qk (e_2 (e_v rfl) e_k (z28 rfl))) (zv (x4 (a_c e_k (a_c (e_v rfl) a_n)) (z5u rfl))))),Wt.nil hw,.non,m,z6n _,z5o _,.non,al.old,z6n _⟩
   · have c0:=jy m S;have e0:kl (.int p) (.int 0)=some (.bl false):=z1c (y:=0) h0;by_cases h9:p=ts.length
     · subst h9;exact⟨d,.non,h,0,[],S,jh rfl (zh (zn (qk (e_2 (e_v rfl) e_k e0))) (qg (z9 (qk (e_2 (e_v rfl) (zi (a_c (e_v rfl) a_n) c0) (z28 rfl))) (zv (x4 (a_c (e_v rfl) (a_c e_k a_n)) (z5u rfl)))))),Wt.nil hw,by rw[List.take_length];exact m,by rw[List.drop_length];exact .non,z5o _,z6n _,al.old,.non,z6n _⟩
     · have h40:=h15 m hl;obtain⟨x,v,y,xt,yt,xh,yh,w1,S1,c1,q⟩:=yc m (zar m (z69.mp (by omega))) hw al;have e1:=q.hts;subst e1;have c2:=jy q.mx S1;have hx:=q.hh.l;have hy:=q.hh.r;have hl':=hl;have hp':=hp;simp only[z5l,List.length_cons]at hl' hp';by_cases h1:p<=xt.length
       · obtain⟨a,b,ah,bh,w2,S2,c3,u⟩:=yx f q.wt.at_ q.mx (by omega) h1 q.ax (by omega);have wt2:=q.wt.two u.wt;obtain⟨c,j1,j2,j3,j4⟩:=ct1 q.hh q.h1 u.hy (by omega);obtain⟨d2,g2,w3,S3,c4,r3,b5,b6,b7⟩:=za2 40 c wt2.at_ u.my q.my q.ht (by rw[z6k];omega) u.ay.two q.ay.app j2 j3 j1;have r3:=r3.after wt2;have fw:=j4 _ ah _ _ _ b5 b6 q.few u.few b7;refine⟨a,d2,ah,g2,_,S3,jh rfl (zh (zn (qk (e_2 (e_v rfl) e_k e0))) (zh (zn (qk (e_2 (e_v rfl) (zi (a_c (e_v rfl) a_n) c0) (z1c h9)))) (zh (zq (zi (a_c (e_v rfl) (a_c (e_v rfl) a_n)) c1)) (zh (zq (zi (a_c (qm (e_v rfl) e_k rfl) a_n) c2)) (qg (z9 (qk (e_2 (e_v rfl) (e_v rfl) (zwv h1))) (zh (zq (zi (a_c (e_v rfl) (a_c (qm (e_v rfl) e_k rfl) (a_c (e_v rfl) a_n))) c3)) (zv (x4 (a_c (qm (e_v rfl) e_k rfl) (a_c (zi (a_c (e_v rfl) (a_c (qm (e_v rfl) e_k rfl) (a_c (qm (e_v rfl) e_k rfl) (a_c (qm (e_v rfl) e_k rfl) a_n)))) c4) a_n)) (z5u rfl)))))))))),⟨r3.wt,by rw[zso h1];exact u.mx,by rw[ztw h1];exact r3.mm,z57 u.hx (z7w hx),zzr b5 (z8k u.hy hx) hy,u.ax.two.app,r3.all,by rw[z5l,z5l];exact fw⟩⟩
       · obtain⟨z,e⟩:∃z,p=xt.length+1+z:=⟨p-xt.length-1,by omega⟩
         obtain⟨a,b,ah,bh,w2,S2,c3,u⟩:=yx f (p:=z) q.wt.at_ q.my (by omega) (by omega) q.ay (by omega);have wt2:=q.wt.two u.wt;obtain⟨c,j1,j2,j3,j4⟩:=ct1 q.hh.sym q.h2 u.hx (by omega);obtain⟨d2,g2,w3,S3,c4,r3,b5,b6,b7⟩:=za2 40 c wt2.at_ q.mx u.mx q.ht (by rw[z56];omega) q.ax.app u.ax.two j3 j2 j1;have r3:=r3.after wt2;have fw:=j4 _ bh _ _ _ b5.sym (fun u v=>(b6 v u).sym) q.few (by have:=u.few;rwa [Nat.add_comm ah bh]at this) b7;rw[Nat.add_comm bh]at fw;refine⟨d2,b,g2,bh,_,S3,jh rfl (zh (zn (qk (e_2 (e_v rfl) e_k e0))) (zh (zn (qk (e_2 (e_v rfl) (zi (a_c (e_v rfl) a_n) c0) (z1c h9)))) (zh (zq (zi (a_c (e_v rfl) (a_c (e_v rfl) a_n)) c1)) (zh (zq (zi (a_c (qm (e_v rfl) e_k rfl) a_n) c2)) (zh (zn (qk (e_2 (e_v rfl) (e_v rfl) (z30 h1)))) (zh (zq (zi (a_c (e_v rfl) (a_c (qm (e_v rfl) e_k rfl) (a_c (zhn (e_v rfl) (e_v rfl) e) a_n))) c3)) (zv (x4 (a_c (zi (a_c (e_v rfl) (a_c (qm (e_v rfl) e_k rfl) (a_c (qm (e_v rfl) e_k rfl) (a_c (qm (e_v rfl) e_k rfl) a_n)))) c4) (a_c (qm (e_v rfl) e_k rfl) a_n)) (z5u rfl))))))))),⟨r3.wt,by rw[e,zsn];exact r3.mm,by rw[e,ztv];exact u.my,zzr b5 hx (z8k u.hx hy),z57 u.hy (z7w hy),r3.all,u.ay.two.app,by rw[z5l,z5l];exact fw⟩⟩
theorem z0k{s e m:Nat}{f g w z:E}(hs:s<=e)(he:e<=m)(h0:f ev S=some (.int (0:Nat),S))(h1:g ev S=some (.int s,S))(h2:w ev S=some (.int e,S))(h3:z ev S=some (.int m,S)):zgb zeu zeu zeu f g w z ev S=some (.bl true,S):=by simp only[zgb,h0,h1,h2,h3,Option.bind_some,zwv (z6n s),zwv hs,zwv he,Option.map_some]
theorem zk1{s e:Nat}(m:Mk k d ts h)(hs:s<=e)(he:e<=ts.length)(S:Sto):yj [d,.int s,.int e] S=some (.non,S) :=
 z1e rfl (zn (zsc (qk (z0k hs he e_k (e_v rfl) (e_v rfl) (zi (a_c (e_v rfl) a_n) (jy m S))))))
def turn(s e:Nat)(ts:List D):List D:=ts.take s++((ts.take e).drop s).reverse++ts.drop e
theorem zfk{s e:Nat}(hs:s<=e)(he:e<=ts.length):(turn s e ts).length=ts.length:=by simp only[turn,z5l,z62,z6k,z56];omega
theorem ztd(hw:S[i]? = some (wd (y4 k) n))(ml:Mk k l lt lh)(mr:Mk k r rt rh)(hn:lt.length+rt.length<=2000)(al:All P l)(ar:All P r):∃d h new S',yg [.obj i,l,r] S=some (d,S')/\Res k i S n P (lt++rt) d h new S'/\new.length<=9*rh+9*max lh rh+10:=by have h1:=h15 mr (by omega);obtain⟨d,h,new,S1,c,r,_,b⟩:=zn8 (f:=40) (c:=max lh rh) hw ml mr hn al ar (by omega) (by omega) (by omega);exact⟨d,h,new,S1,c,r,b⟩
theorem zet{s e:Nat}(hw:S[i]? = some (wd (y4 k) n))(m:Mk k d ts h)(hl:ts.length<=2000)(hs:s<=e)(he:e<=ts.length)(al:All P d):∃d' h' new S',zal [.obj i,d,.int s,.int e] S=some (d',S')/\Res k i S n P (turn s e ts) d' h' new S':=by
 have h1:=h15 m hl;obtain⟨x,y,xh,yh,w1,S1,c1,u⟩:=yx 40 hw m hl he al (by omega);have hx:=u.hx;obtain⟨x',y',xh',yh',w2,S2,c2,u'⟩:=yx 40 (p:=s) u.wt.at_ u.mx (by rw[z56];omega) (by rw[z56];omega) u.ax (by omega);have wt2:=u.wt.two u'.wt;obtain⟨d3,w3,S3,c3,r3,_⟩:=zjh u'.my wt2.at_ u'.ay.two;have r3:=r3.after wt2;obtain⟨d4,h4,w4,S4,c4,r4,_⟩:=ztd r3.wt.at_ u'.mx r3.mm (by simp only[z62,z6k,z56];omega) u'.ax.two.app r3.all;have r4:=r4.after r3.wt;obtain⟨d5,h5,w5,S5,c5,r5,_⟩:=ztd r4.wt.at_ r4.mm u.my (by simp only[z5l,z62,z6k,z56];omega) r4.all u.ay.app.app.app;have r5:=r5.after r4.wt;have es:(ts.take e).take s=ts.take s:=by rw[qah,z87 hs]
 rw[es]at r5;exact⟨d5,h5,_,S5,jh rfl (zh (yb (zi (a_c (e_v rfl) (a_c (e_v rfl) (a_c (e_v rfl) a_n))) (zk1 m hs he S))) (zh (zq (zi (a_c (e_v rfl) (a_c (e_v rfl) (a_c (e_v rfl) a_n))) c1)) (zh (zq (zi (a_c (e_v rfl) (a_c (qm (e_v rfl) e_k rfl) (a_c (e_v rfl) a_n))) c2)) (zh (zq (zi (a_c (e_v rfl) (a_c (qm (e_v rfl) e_k rfl) (a_c (j8 (e_v rfl) (qt wt2.at_) (zbx _ _) (a_c (qm (e_v rfl) e_k rfl) a_n) c3) a_n))) c4)) (zv (zi (a_c (e_v rfl) (a_c (e_v rfl) (a_c (qm (e_v rfl) e_k rfl) a_n))) c5)))))),r5⟩
end Pg
namespace Pg
open PySem L2 F Mt
variable {k:Nat} [Kd k] {d l r t x y:D}{ts lt rt:List D}{h lh rh i:Nat}{n:Int}{S S0 S1:Sto}{ev e:Ev}{P Q:D->Prop}{a b new:List D}
theorem p1{xh yh h g:Nat}(p:Top xh yh h)(q1:xh<=yh+1)(q2:yh<=xh+1)(g1:xh<=g)(g2:g<=xh+1):(g<=yh+2/\yh<=g+2)/\∀z,Hi g yh z->(g<=yh+1->yh<=g+1->Top g yh z)->h<=z/\z<=h+1:=by
 obtain⟨p1,p2,p3⟩:=p;refine⟨⟨by omega,by omega⟩,fun z hz ht=>?_⟩;by_cases hb:g<=yh+1/\yh<=g+1
 · obtain⟨t1,t2,t3⟩:=ht hb.1 hb.2;omega
 · have:=hz.l;have:=hz.m g (z5o _) (by omega);omega
theorem z14{p:Nat}(h:p<=a.length):(a++t::b).take p++x::(a++t::b).drop p=(a.take p++x::a.drop p)++t::b:=by rw[zso h,ztw h];simp
theorem z13{q:Nat}:(a++t::b).take (a.length+1+q)++x::(a++t::b).drop (a.length+1+q)=a++t::(b.take q++x::b.drop q):=by rw[zsn,ztv];simp
theorem zng(p:Nat):(ts.take p++x::ts.drop p).length=ts.length+1:=by simp only[z5l,List.length_cons,z56,z6k];omega
theorem zdi:∀(f:Nat) {d:D}{ts:List D}{h p:Nat}{n:Int}{S:Sto}{P:D->Prop},S[i]? = some (wd (y4 k) n)->Mk k d ts h->ts.length<2000->p<=ts.length->Thing k x->All P d->h<f ->
   ∃d' h' new S',zc5 f [.obj i,d,.int p,x] S=some (d',S')/\Res k i S n P (ts.take p++x::ts.drop p) d' h' new S'/\(h<=h'/\h'<=h+1)/\new.length<=9*h+1
 |0,_,_,_,_,_,_,_,_,_,_,_,_,_,hf=>absurd hf (z8a _)
 | f+1,d,ts,h,p,n,S,P,hw,m,hl,hp,ht,al,hf=>by
   rcases zgx m with⟨rfl,rfl,rfl⟩ | ⟨⟨xs,ed⟩,u0,r0,e0⟩
   · obtain⟨d1,S1,g1,c1,r1,t1⟩:=x6 hw (.non (k:=k)) (.non (k:=k)) ht (z9f 0) (z9f 0) (by decide) (All.non (P:=P)) .non;have e:g1=1:=by have:=t1.e;omega
     subst e;exact⟨d1,1,_,S1,jh rfl (qg (z9 (qk (e_2 (e_v rfl) e_k rfl)) (zv (j8 (e_v rfl) (qt hw) (j0 _ _) (a_c e_k (a_c (e_v rfl) (a_c e_k a_n))) c1)))),by simpa using r1,⟨z6n _,z5o _⟩,z5o _⟩
   · obtain⟨z,v,y,xt,yt,xh,yh,w1,S1,c1,q⟩:=yc m (zar m (by rw[e0];simp)) hw al;have e1:=q.hts;subst e1;have c2:=jy q.mx S1;have hx:=q.hh.l;have hy:=q.hh.r;have hi:zdm d .non=some (.bl false):=by rw[ed];rfl
     simp only[z5l,List.length_cons]at hl hp;by_cases h1:p<=xt.length
     · obtain⟨d1,g,w2,S2,c3,r2,⟨b1,b2⟩,b3⟩:=zdi f q.wt.at_ q.mx (by omega) h1 ht q.ax (by omega);have r2:=r2.after q.wt;obtain⟨⟨k1,k2⟩,k3⟩:=p1 q.hh q.h1 q.h2 b1 b2;obtain⟨d2,g2,w3,S3,c4,r3,b5,b6,b7⟩:=xk r2.wt.at_ r2.mm q.my q.ht k1 k2 (by rw[zng];omega) r2.all q.ay.app;have r3:=r3.after r2.wt;exact⟨d2,g2,_,S3,jh rfl (zh (zn (qk (e_2 (e_v rfl) e_k hi))) (zh (zq (zi (a_c (e_v rfl) (a_c (e_v rfl) a_n)) c1)) (zh (zq (zi (a_c (qm (e_v rfl) e_k rfl) a_n) c2)) (qg (z9 (qk (e_2 (e_v rfl) (e_v rfl) (zwv h1))) (zv (zi (a_c (e_v rfl) (a_c (zi (a_c (e_v rfl) (a_c (qm (e_v rfl) e_k rfl) (a_c (e_v rfl) (a_c (e_v rfl) a_n)))) c3) (a_c (qm (e_v rfl) e_k rfl) (a_c (qm (e_v rfl) e_k rfl) a_n)))) c4))))))),by rw[z14 h1];exact r3,k3 _ b5 b6,zro q.hh q.few b3 b7⟩
     · obtain⟨z',e⟩:∃z,p=xt.length+1+z:=⟨p-xt.length-1,by omega⟩
       obtain⟨d1,g,w2,S2,c3,r2,⟨b1,b2⟩,b3⟩:=zdi f (p:=z') q.wt.at_ q.my (by omega) (by omega) ht q.ay (by omega);have r2:=r2.after q.wt;obtain⟨⟨k1,k2⟩,k3⟩:=p1 q.hh.sym q.h2 q.h1 b1 b2;obtain⟨d2,g2,w3,S3,c4,r3,b5,b6,b7⟩:=xk r2.wt.at_ q.mx r2.mm q.ht k2 k1 (by rw[zng];omega) q.ax.app r2.all;have r3:=r3.after r2.wt;exact⟨d2,g2,_,S3,jh rfl (zh (zn (qk (e_2 (e_v rfl) e_k hi))) (zh (zq (zi (a_c (e_v rfl) (a_c (e_v rfl) a_n)) c1)) (zh (zq (zi (a_c (qm (e_v rfl) e_k rfl) a_n) c2)) (zh (zn (qk (e_2 (e_v rfl) (e_v rfl) (z30 h1)))) (zv (zi (a_c (e_v rfl) (a_c (qm (e_v rfl) e_k rfl) (a_c (qm (e_v rfl) e_k rfl) (a_c (zi (a_c (e_v rfl) (a_c (qm (e_v rfl) e_k rfl) (a_c (zhn (e_v rfl) (e_v rfl) e) (a_c (e_v rfl) a_n)))) c3) a_n)))) c4)))))),by rw[e,z13];exact r3,k3 _ b5.sym fun u v=>(b6 v u).sym,ztk q.hh q.few b3 b7⟩
theorem Top.eq{a b h h':Nat}(p:Top a b h)(q:Top a b h'):h'=h:=by obtain⟨p1,p2,p3⟩:=p;obtain⟨q1,q2,q3⟩:=q;omega
theorem z1z{p:Nat}(h:p<a.length):(a++t::b).set p x=a.set p x++t::b:=List.set_append_left _ _ h
theorem z1y:(a++t::b).set a.length x=a++x::b:=by rw[List.set_append_right _ _ (z5o _),z8z];rfl
theorem z1x{q:Nat}:(a++t::b).set (a.length+1+q) x=a++t::b.set q x:=by rw[List.set_append_right _ _ (by omega),show a.length+1+q-a.length=q+1 by omega];rfl
theorem zz2{a b:List D}{xh yh h:Nat}(p:Top xh yh h)(h1:a.length<=2)(h2:b.length<=3*xh):(a++b++[t]).length<=3*h:=by have:=p.l;simp only[z5l,List.length_cons,List.length_nil];omega
theorem zz1{a:List D}{h:Nat}(hh:0<h)(h1:a.length<=2):(a++[t]).length<=3*h:=by simp only[z5l,List.length_cons,List.length_nil];omega
theorem zf5:∀(f:Nat) {d:D}{ts:List D}{h p:Nat}{n:Int}{S:Sto}{P:D->Prop},S[i]? = some (wd (y4 k) n)->Mk k d ts h->ts.length<=2000->p<ts.length->Thing k x->All P d->h<=f ->
   ∃d' new S',zf6 f [.obj i,d,.int p,x] S=some (d',S')/\Res k i S n P (ts.set p x) d' h new S'/\new.length<=3*h
 |0,d,ts,h,p,n,S,P,hw,m,hl,hp,ht,al,hf=>absurd (zar m (z69.mp (by omega))) (z79.mpr hf)
 | f+1,d,ts,h,p,n,S,P,hw,m,hl,hp,ht,al,hf=>by
   have h0:=zar m (z69.mp (by omega));obtain⟨z,v,y,xt,yt,xh,yh,w1,S1,c1,q⟩:=yc m h0 hw al;have e1:=q.hts;subst e1;have c2:=jy q.mx S1;have hx:=q.hh.l;have hy:=q.hh.r;simp only[z5l,List.length_cons]at hl hp;by_cases h1:p<xt.length
   · obtain⟨d1,w2,S2,c3,r2,b3⟩:=zf5 f q.wt.at_ q.mx (by omega) h1 ht q.ax (by omega);have r2:=r2.after q.wt;obtain⟨d2,S3,g2,c4,r3,t3⟩:=x6 r2.wt.at_ r2.mm q.my q.ht q.h1 q.h2 (by rw[z7m];omega) r2.all q.ay.app;have r3:=r3.after r2.wt;have eg:=q.hh.eq t3;subst eg;exact⟨d2,_,S3,jh rfl (zh (zq (zi (a_c (e_v rfl) (a_c (e_v rfl) a_n)) c1)) (zh (zq (zi (a_c (qm (e_v rfl) e_k rfl) a_n) c2)) (qg (z9 (qk (e_2 (e_v rfl) (e_v rfl) (zy3 h1))) (zv (j8 (e_v rfl) (qt q.wt.at_) (j0 _ _) (a_c (zi (a_c (e_v rfl) (a_c (qm (e_v rfl) e_k rfl) (a_c (e_v rfl) (a_c (e_v rfl) a_n)))) c3) (a_c (qm (e_v rfl) e_k rfl) (a_c (qm (e_v rfl) e_k rfl) a_n))) c4)))))),by rw[z1z h1];exact r3,zz2 q.hh q.few b3⟩
   · by_cases h2:xt.length<p
     · obtain⟨z',e⟩:∃z,p=xt.length+1+z:=⟨p-xt.length-1,by omega⟩
       obtain⟨d1,w2,S2,c3,r2,b3⟩:=zf5 f (p:=z') q.wt.at_ q.my (by omega) (by omega) ht q.ay (by omega);have r2:=r2.after q.wt;obtain⟨d2,S3,g2,c4,r3,t3⟩:=x6 r2.wt.at_ q.mx r2.mm q.ht q.h1 q.h2 (by rw[z7m];omega) q.ax.app r2.all;have r3:=r3.after r2.wt;have eg:=q.hh.eq t3;subst eg;exact⟨d2,_,S3,jh rfl (zh (zq (zi (a_c (e_v rfl) (a_c (e_v rfl) a_n)) c1)) (zh (zq (zi (a_c (qm (e_v rfl) e_k rfl) a_n) c2)) (zh (zn (qk (e_2 (e_v rfl) (e_v rfl) (zvj h1)))) (qg (z9 (qk (e_2 (e_v rfl) (e_v rfl) (z2u h2))) (zv (j8 (e_v rfl) (qt q.wt.at_) (j0 _ _) (a_c (qm (e_v rfl) e_k rfl) (a_c (qm (e_v rfl) e_k rfl) (a_c (zi (a_c (e_v rfl) (a_c (qm (e_v rfl) e_k rfl) (a_c (zhn (e_v rfl) (e_v rfl) e) (a_c (e_v rfl) a_n)))) c3) a_n))) c4))))))),by rw[e,z1x];exact r3,zz2 q.hh.sym q.few b3⟩
     · have e:p=xt.length:=by omega
       obtain⟨d2,S3,g2,c4,r3,t3⟩:=x6 q.wt.at_ q.mx q.my ht q.h1 q.h2 (by omega) q.ax q.ay;have r3:=r3.after q.wt;have eg:=q.hh.eq t3;subst eg;exact⟨d2,_,S3,jh rfl (zh (zq (zi (a_c (e_v rfl) (a_c (e_v rfl) a_n)) c1)) (zh (zq (zi (a_c (qm (e_v rfl) e_k rfl) a_n) c2)) (zh (zn (qk (e_2 (e_v rfl) (e_v rfl) (zvj h1)))) (zh (zn (qk (e_2 (e_v rfl) (e_v rfl) (z07 h2)))) (zv (j8 (e_v rfl) (qt q.wt.at_) (j0 _ _) (a_c (qm (e_v rfl) e_k rfl) (a_c (e_v rfl) (a_c (qm (e_v rfl) e_k rfl) a_n))) c4)))))),by rw[e,z1y];exact r3,zz1 h0 q.few⟩
theorem z0l{p m:Nat}{f g w:E}(hp:p<m)(h0:f ev S=some (.int (0:Nat),S))(h1:g ev S=some (.int p,S))(h2:w ev S=some (.int m,S)):zhp zeu zg8 f g w ev S=some (.bl true,S):=by simp only[zhp,h0,h1,h2,Option.bind_some,zwv (z6n p),zy3 hp,Option.map_some]
theorem zc4{p m:Nat}(hp:p<m)(S:Sto):j9 [.int p,.int m] S=some (.non,S):=z1e rfl (zn (zsc (qk (z0l hp e_k (e_v rfl) (e_v rfl)))))
theorem z0s{p:Nat}(m:Mk k d ts h)(hl:ts.length<=2000)(hp:ts[p]? = some x)(S:Sto):zzv [d,.int p] S=some (x,S) :=
 jh rfl (zh (yb (zi (a_c (e_v rfl) (a_c (zi (a_c (e_v rfl) a_n) (jy m S)) a_n)) (zc4 (z5q.mp hp).1 S))) (zv (zi (a_c (e_v rfl) (a_c e_k (a_c (e_v rfl) a_n))) (zai 40 (b:=false) m (z57 (h15 m hl) (by decide)) hp S))))
theorem z39(x:Nat):qu (.int x) (.int 1)=some (.int (x+1:Nat)):=rfl
theorem zx1{p:Nat}(hw:S[i]? = some (wd (y4 k) n))(m:Mk k d ts h)(hl:ts.length<2000)(hp:p<=ts.length)(ht:Thing k x)(al:All P d) :
   ∃d' h' new S',zre [.obj i,d,.int p,x] S=some (d',S')/\Res k i S n P (ts.take p++x::ts.drop p) d' h' new S'/\new.length<=9*h+1:=by
 have h1:=h15 m (z7w hl);obtain⟨d',h',new,S1,c,r,_,b⟩:=zdi 40 hw m hl hp ht al (by omega);exact⟨d',h',new,S1,jh rfl (zh (yb (zi (a_c (e_v rfl) (a_c (e_2 (zi (a_c (e_v rfl) a_n) (jy m S)) e_k (z39 _)) a_n)) (zc4 (Nat.lt_succ_of_le hp) S))) (zh (yb (zi (a_c (e_2 (zi (a_c (e_v rfl) a_n) (jy m S)) e_k (z39 _)) a_n) (zig hl S))) (zv (zi (a_c (e_v rfl) (a_c (e_v rfl) (a_c (e_v rfl) (a_c (e_v rfl) a_n)))) c)))),r,b⟩
theorem zyk{p:Nat}(hw:S[i]? = some (wd (y4 k) n))(m:Mk k d ts h)(hl:ts.length<=2000)(hp:p<ts.length)(al:All P d) :
   ∃d' h' new S',zrf [.obj i,d,.int p] S=some (d',S')/\Res k i S n P (ts.eraseIdx p) d' h' new S'/\new.length<=9*h+21:=by
 have h1:=h15 m hl;obtain⟨d',h',new,S1,c,r,_,b⟩:=zaw 40 hw m hl hp al (by omega);exact⟨d',h',new,S1,jh rfl (zh (yb (zi (a_c (e_v rfl) (a_c (zi (a_c (e_v rfl) a_n) (jy m S)) a_n)) (zc4 hp S))) (zv (zi (a_c (e_v rfl) (a_c (e_v rfl) (a_c (e_v rfl) a_n))) c))),r,b⟩
theorem zk0{p:Nat}(hw:S[i]? = some (wd (y4 k) n))(m:Mk k d ts h)(hl:ts.length<=2000)(hp:p<ts.length)(ht:Thing k x)(al:All P d) :
   ∃d' new S',zd5 [.obj i,d,.int p,x] S=some (d',S')/\Res k i S n P (ts.set p x) d' h new S'/\new.length<=3*h:=by
 have h1:=h15 m hl;obtain⟨d',new,S1,c,r,b⟩:=zf5 40 hw m hl hp ht al (by omega);exact⟨d',new,S1,jh rfl (zh (yb (zi (a_c (e_v rfl) (a_c (zi (a_c (e_v rfl) a_n) (jy m S)) a_n)) (zc4 hp S))) (zv (zi (a_c (e_v rfl) (a_c (e_v rfl) (a_c (e_v rfl) (a_c (e_v rfl) a_n)))) c))),r,b⟩
theorem zdh{q j:Nat}{v:E}{us:List D}(he:ev[q]? = some (some (.obj j)))(hj:S[j]? = some (.lst us))(hv:v ev S=some (x,S))(hl:us.length<16777216):zaz (eV q) v ev S=some (.nx ev,S.set j (.lst (us++[x]))):=by have hz:sizeLine=16777216:=z60;simp only[zaz,e_v he,Option.bind_some,hj,hv,hz,z6a hl]
theorem zd4:∀(f:Nat) {d:D}{ts:List D}{h j:Nat}{b:Bool}{acc:List D}{S:Sto},Mk k d ts h->h<f->S[j]? = some (.lst acc)->acc.length+ts.length<16777216->zc6 f [d,.bl b,.obj j] S=some (.non,S.set j (.lst (acc++ord b ts)))
 |0,_,_,_,_,_,_,_,_,hf,_,_=>absurd hf (z8a _)
 | f+1,d,ts,h,j,b,acc,S,m,hf,hj,hl=>by
   rcases zgx m with⟨rfl,rfl,rfl⟩ | ⟨⟨xs,ed⟩,u0,r0,e0⟩
   · rw[show ord b ([]:List D)=[] by cases b<;>rfl,z6f];have:S.set j (.lst acc)=S:=by obtain⟨hj',ej⟩:=z5q.mp hj;rw[<-ej];exact List.set_getElem_self hj'
     rw[this];exact jh rfl (qg (z9 (qk (e_2 (e_v rfl) e_k rfl)) rfl))
   · obtain⟨u,t,y,c,xt,yt,xh,yh,c1,s⟩:=zie m (zar m (by rw[e0];simp)) b S;have hi:zdm d .non=some (.bl false):=by rw[ed];rfl
     have hu:=s.hu;have hlen:ts.length=xt.length+(yt.length+1):=by have:=z68 List.length hu;rw[xw,z5l,List.length_cons,xw,xw]at this;exact this
     have hx:=s.hx;have hy:=s.hy;have lx:=xw c xt;have ly:=xw c yt;have c2:=zd4 f (b:=c) (S:=S) s.mx (by omega) hj (by omega);have j2:(S.set j (.lst (acc++ord c xt)))[j]? = some (.lst (acc++ord c xt)):=zm2 hj;have j3:((S.set j (.lst (acc++ord c xt))).set j (.lst (acc++ord c xt++[t])))[j]? = some (.lst (acc++ord c xt++[t])):=zm2 j2;have c3:=zd4 f (b:=c) s.my (by omega) j3 (by simp only[z5l,List.length_cons,List.length_nil];omega);have e5:((S.set j (.lst (acc++ord c xt))).set j (.lst (acc++ord c xt++[t]))).set j (.lst (acc++ord c xt++[t]++ord c yt))=S.set j (.lst (acc++ord b ts)):=by rw[List.set_set,List.set_set,show acc++ord c xt++[t]++ord c yt=acc++ord b ts by rw[hu];simp]
     rw[e5]at c3;exact z1e rfl (zh (zn (qk (e_2 (e_v rfl) e_k hi))) (zh (zq (zi (a_c (e_v rfl) (a_c (e_v rfl) a_n)) c1)) (zh (yb (zi (a_c (qm (e_v rfl) e_k rfl) (a_c (qm (e_v rfl) e_k rfl) (a_c (e_v rfl) a_n))) c2)) (zh (zdh rfl j2 (qm (e_v rfl) e_k rfl) (by simp only[z5l];omega)) (yb (zi (a_c (qm (e_v rfl) e_k rfl) (a_c (qm (e_v rfl) e_k rfl) (a_c (e_v rfl) a_n))) c3))))))
def SB(S:Sto):Prop:=∀m∈S,zp1 S.length m=true
theorem zem{m:Nat}(hx:Thing k x):bnd m x=true:=by obtain⟨_,a,i,rfl,ha⟩:=hx;rcases ha with⟨i,rfl⟩ | ⟨z,rfl,_⟩<;>rfl
theorem zbw{m:Nat}:∀{ts:List D},(∀x∈ts,Thing k x)->bndL m ts=true
 | [],_=>rfl
 | t::ts,h=>by unfold bndL;rw[zem (h t (z5x ..)),zbw fun x hx=>h x (z5n _ hx)];rfl
theorem zw6(m:Nat)(n:Int):zp1 m (wd (y4 k) n)=true:=by rcases Kd.eq (k:=k)with h | h<;>subst h<;>rfl
theorem zcn(m:Mk k d ts h)(hl:ts.length<=2000)(hb:SB S):xj [d] S=some (.lst ts,S):=by
 have h1:=h15 m hl;have c1:=zd4 40 (b:=false) (S:=S++[.lst []]) (j:=S.length) (acc:=[]) m (by omega) (zdu S _) (by simp only[List.length_nil];omega);have e1:(S++[MO.lst []]).set S.length (.lst ([]++ord false ts))=S++[.lst ts]:=by simp[ord]
 rw[e1]at c1;have c2:qa 2 1 zeh [d] S=some (.obj S.length,S++[.lst ts]):=jh rfl (zh (zq (zpa a_n (z6n _))) (zh (yb (zi (a_c (e_v rfl) (a_c e_k (a_c (e_v rfl) a_n))) c1)) (zv (e_v rfl))));have e2:(S++[MO.lst ts]).take S.length=S:=List.take_left;have e3:S.all (zp1 S.length)=true:=z6m.mpr hb;unfold xj frz;rw[c2];simp only[Option.bind_some,e2,e3,z7s,z7a,z7c,zdu,zbw m.things]
end Pg
namespace Pg
open PySem L2 F Mt
variable {k:Nat} [Kd k] {d l r t x y:D}{ts lt rt:List D}{h lh rh i:Nat}{n:Int}{S S0 S1:Sto}{ev e:Ev}{P Q:D->Prop}{a b new:List D}
theorem zpv(m:Mk k d ts h):All (fun _=>True) d:=by
 induction m with
 |non=>exact .non
 |node _ _ _ _ _ il ir=>exact .node trivial il ir
theorem zm8(h:∀z∈lt,Thing k z):∀z∈lt.reverse,Thing k z:=fun z hz=>h z (z72.mp hz)
theorem sx(m d v:Nat):HT.sIx m d (some (v:Int))=min v m:=by show(if(v:Int)<0 then ((v:Int)+(m:Int)).toNat else min (v:Int).toNat m)=min v m;rw[z6i (by omega),Int.toNat_natCast]
theorem z1w(e:Nat):zyr (.lst ts) none (some (e:Int))=some (.lst (ts.take e)):=by show some (D.lst ((ts.drop 0).take (HT.sIx ts.length ts.length (some (e:Int))-0)))=_;rw[sx,List.drop_zero,Nat.sub_zero,<-qah,List.take_length]
theorem zmz{s:Nat}(hs:s<=ts.length):zyr (.lst ts) (some (s:Int)) none=some (.lst (ts.drop s)):=by show some (D.lst ((ts.drop (HT.sIx ts.length 0 (some (s:Int)))).take (ts.length-HT.sIx ts.length 0 (some (s:Int)))))=_;rw[sx,z87 hs,z70 (by rw[z6k];omega)]
theorem zxk{s e:Nat}(hs:s<=e)(he:e<=ts.length):zyr (.lst ts) (some (s:Int)) (some (e:Int))=some (.lst ((ts.take e).drop s)):=by show some (D.lst ((ts.drop (HT.sIx ts.length 0 (some (s:Int)))).take (HT.sIx ts.length ts.length (some (e:Int))-HT.sIx ts.length 0 (some (s:Int)))))=_;rw[sx,sx,z87 (z57 hs he),z87 he,List.drop_take]
theorem zn0(m:Int)(c:Nat):∃e:Nat,e<=c/\q9 (.int m) (.int ((c:Int)+1))=some (.int e):=by have x0:=z7p m (show(c:Int)+1≠0 by omega);have x1:=z66 m (show(0:Int)<(c:Int)+1 by omega);exact⟨(m%((c:Int)+1)).toNat,by omega,by rw[yf (by omega),show(((m%((c:Int)+1)).toNat:Nat):Int)=m%((c:Int)+1) by omega]⟩
theorem zfu(m:Int){c:Nat}(hc:0<c):∃e:Nat,e<c/\q9 (.int m) (.int (c:Int))=some (.int e):=by have x0:=z7p m (show(c:Int)≠0 by omega);have x1:=z66 m (show(0:Int)<(c:Int) by omega);exact⟨(m%(c:Int)).toNat,by omega,by rw[yf (by omega),show(((m%(c:Int)).toNat:Nat):Int)=m%(c:Int) by omega]⟩
theorem rng{c:Nat}(h:c<=10000):∀x∈jm 0 c,∃i:Int,x=.int i/\0<=i/\i<10000:=fun x hx=>by unfold jm at hx;obtain⟨j,hj,rfl⟩:=z7o.mp hx;have:=qag.mp hj;exact⟨_,rfl,by omega,by omega⟩
theorem zm7(c:Nat):(jm 0 c).length=c:=by simp[jm]
end Pg
namespace Pg
open PySem L2 F Mt
variable {k:Nat} [Kd k] {d l r t x y:D}{ts us lt rt:List D}{h lh rh i:Nat}{n:Int}{S S0 S1:Sto}{ev e:Ev}{P Q:D->Prop}
theorem zxo(ns:List Int){q:Int}(h0:0<=q)(h1:q<ns.length):∃v:Int,atI (ns.map D.int) q=some (.int v):=by
 have hi:q.toNat<ns.length:=by omega
 have e2:(ns.map D.int)[q.toNat]? = some (.int ns[q.toNat]):=by rw[z6w,z5s hi];rfl
 have e3:=zgr e2;rw[show((q.toNat:Nat):Int)=q by omega]at e3;exact⟨_,e3⟩
theorem p30:zdl (.int 10) (.int 30)=some (.int (10^30)):=by
 have:zs1 10 30=some (10^30):=by unfold zs1;rw[z6a (by decide)];rfl
 simp only[zdl,F.opI,this];rfl
theorem zap(ns:List Int)(hn:ns.length<=63){q:Int}(h0:0<=q)(h1:q<=1000000):∃m:Int,0<=m/\m<999999937/\∀S,qh [.lst (ns.map D.int),.int q] S=some (.int m,S):=by
 have len:∀S:Sto,zer S [.lst (ns.map D.int)]=some (.int (ns.length:Int)):=fun S=>by simp[zer]
 have first:∀(S:Sto),qo 2 (e2 qu (e2 zak (e2 zak (eV 1) (eV 1)) (eK (.int 7919))) (eK (.int 17))) [some (.lst (ns.map D.int)),some (.int q),none] S=some (.nx [some (.lst (ns.map D.int)),some (.int q),some (.int (q*q*7919+17))],S):=fun S=>
   zq (e_2 (e_2 (e_2 (e_v rfl) (e_v rfl) (zj3 (by omega))) e_k (zg9 (by decide))) e_k (add_int _ _))
 have last:∀(c:Int) (S:Sto),ql (e2 q9 (e2 zak (e2 q9 (e2 qu (e2 zak (eV 2) (eK (.int 48271))) (e2 zak (eV 1) (eK (.int 69621)))) (eK (.int 2147483647))) (e2 qu (e2 q9 (eV 2) (eK (.int 65521))) (eK (.int 3)))) (eK (.int 999999937))) [some (.lst (ns.map D.int)),some (.int q),some (.int c)] S=some (.rt (.int ((c*48271+q*69621)%2147483647*(c%65521+3)%999999937)),S):=fun c S=>by have y0:=z7p (c*48271+q*69621) (show(2147483647:Int)≠0 by decide);have y1:=z66 (c*48271+q*69621) (show(0:Int)<2147483647 by decide);exact zv (e_2 (e_2 (e_2 (e_2 (e_2 (e_v rfl) e_k (zg9 (by decide))) (e_2 (e_v rfl) e_k (zg9 (by decide))) (add_int _ _)) e_k (yf (by decide))) (e_2 (e_2 (e_v rfl) e_k (yf (by decide))) e_k (add_int _ _)) (zj3 (by omega))) e_k (yf (by decide)))
 by_cases z:0<(ns.length:Int)
 · have x0:=z7p q (show(ns.length:Int)≠0 by omega);have x1:=z66 q z;obtain⟨v,hv⟩:=zxo ns x0 x1;refine⟨_,z7p _ (by decide),z66 _ (by decide),fun S=>jh rfl (zh (first S) (zh (z9 (qk (e_2 (e_a (a_c (e_v rfl) a_n) (len _)) e_k (show zim (.int (ns.length:Int)) (.int 0)=some (.bl true) by simp[zim,zq4];omega)))
     (zq (e_2 (e_2 (qm (e_v rfl) (e_2 (e_v rfl) (e_a (a_c (e_v rfl) a_n) (len _)) (yf z)) hv) (e_2 e_k e_k p30) (yf (by decide))) (e_2 (e_2 (e_v rfl) (e_a (a_c (e_v rfl) a_n) (len _)) (zhq ⟨z,by omega⟩)) e_k (zg9 (by decide))) (add_int _ _)))) (last _ S)))⟩
 · exact⟨_,z7p _ (by decide),z66 _ (by decide),fun S=>jh rfl (zh (first S) (zh (zn (qk (e_2 (e_a (a_c (e_v rfl) a_n) (len _)) e_k (show zim (.int (ns.length:Int)) (.int 0)=some (.bl false) from(by show some (D.bl (decide ((0:Int)<(ns.length:Int))))=_;rw[z5w z]))))) (last _ S)))⟩
theorem zmu{i:Nat}{f:E}{b:C}{n:Int}{o:Out}{S2:Sto}(h:f ev S=some (.int n,S1))(h0:0<=n)(h1:n<1000000)(q:zbq i b (jm 0 n.toNat) ev S1=some (o,S2)):zm6 i f b ev S=some (o,S2):=by
 have cnd:-(2^62)<=n/\n<2^62:=by omega
 simp only[zm6,h,Option.bind_some,z6a cnd,q]
theorem zfx{i:Nat}{b:C}{d:D}{ds:List D}{e1:Ev}{o:Out}{S2:Sto}(h:b (ev.set i (some d)) S=some (.nx e1,S1))(q:zbq i b ds e1 S1=some (o,S2)):zbq i b (d::ds) ev S=some (o,S2):=by unfold zbq;rw[h];exact q
theorem zue{i j:Nat}{f:E}{x y:D}(h:f ev S=some (.tup [x,y],S1)):zxp [i,j] f ev S=some (.nx ((ev.set i (some x)).set j (some y)),S1):=by simp[zxp,h,yr]
theorem zvm{f:E}(h:f ev S=some (.lst ts,S1)):zkh (aC f aN) ev S=some (.lst ts,S1):=by simp[zkh,aC,aN,h]
theorem zot{g:G}{ds us:List D}{J:Sto}(hS:SB S)(hg:g ds S=some (.lst us,S++J))(hb:bndL S.length us=true):frz g ds S=some (.lst us,S):=by unfold frz;rw[hg];have e1:(S++J).take S.length=S:=List.take_left;have e2:S.all (zp1 S.length)=true:=z6m.mpr hS;simp only[Option.bind_some,e1,e2,z7s,bnd,hb]
theorem zk8(lo:Int)(m:Nat):jm lo (m+1)=.int lo::jm (lo+1) m:=by
 unfold jm;rw[List.range_succ_eq_map,z5v,z8b];congr 1
 · simp
 · refine List.map_congr_left fun z _=>?_;simp;omega
end Pg
namespace Pg
open PySem L2 F Mt
structure Sw (T:D->Prop) (lt:D->D->Bool):Prop where
 irr:∀x,T x->lt x x=false
 tr:∀x y z,T x->T y->T z->lt x y=true->lt y z=true->lt x z=true
 co:∀x y z,T x->T y->T z->lt x z=true->lt x y=true\/lt y z=true
section
variable {T:D->Prop}{lt:D->D->Bool}
def alk(lt:D->D->Bool)(x y:D):Prop:=lt x y=false/\lt y x=false
def Srt(lt:D->D->Bool)(l:List D):Prop:=l.Pairwise fun x y=>lt x y=true
def Al(T:D->Prop)(l:List D):Prop:=∀x∈l,T x
theorem Al.tail{x:D}{l:List D}(h:Al T (x::l)):Al T l:=fun y hy=>h y (z5n _ hy)
theorem Al.head{x:D}{l:List D}(h:Al T (x::l)):T x:=h x (z5x ..)
open Classical in
def hs(lt:D->D->Bool)(l:List D)(x:D):Bool:=decide (∃y∈l,alk lt y x)
open Classical in
theorem hs_iff{l:List D}{x:D}:hs lt l x=true↔∃y∈l,alk lt y x:=by unfold hs;exact decide_eq_true_iff
theorem hs_no{l:List D}{x:D}:hs lt l x=false↔∀y∈l,¬ alk lt y x:=by rw[z8p,ne_eq,hs_iff];exact⟨fun h y hy r=>h ⟨y,hy,r⟩,fun h ⟨y,hy,r⟩=>h y hy r⟩
def cb(lt:D->D->Bool)(l:List D)(x:D):Nat:=(l.filter (lt · x)).length
theorem ztz(w:Sw T lt){a b:List D}{t x:D}(al:Al T (a++t::b))(tx:T x)(s:Srt lt (a++t::b)):cb lt (a++t::b) x=if lt t x=true then a.length+1+cb lt b x else cb lt a x:=by
 have tt:T t:=al t (by simp);obtain⟨sa,sb,sab⟩:=z75.mp s;obtain⟨st,sb'⟩:=z65.mp sb;unfold cb;rw[z90,z5l,List.filter_cons];split
 · rename_i h;have e:a.filter (lt · x)=a:=z8f.mpr fun y hy=>w.tr y t x (al y (by simp[hy])) tt tx (sab y hy t (z5x ..)) h;rw[e,List.length_cons];omega
 · rename_i h;have e:b.filter (lt · x)=[]:=z9e.mpr fun y hy q=>h (w.tr t y x tt (al y (by simp[hy])) tx (st y hy) q);rw[e];simp
theorem zwh(l:List D)(x:D):cb lt l x<=l.length:=List.length_filter_le ..
theorem zbi(w:Sw T lt){x:D}(tx:T x):∀{l:List D},Al T l->Srt lt l->(∀y∈l.take (cb lt l x),lt y x=true)/\(∀y∈l.drop (cb lt l x),lt y x=false)
 | [],_,_=>⟨fun y hy=>by simp at hy,fun y hy=>by simp at hy⟩
 | z::l,al,s=>by
   obtain⟨sz,sl⟩:=z65.mp s;have e:=ztz w (a:=[]) (b:=l) (t:=z) al tx s;rw[List.nil_append]at e;by_cases h:lt z x=true
   · rw[z6a h]at e;obtain⟨i1,i2⟩:=zbi w tx al.tail sl;rw[e,show[].length+1+cb lt l x=cb lt l x+1 by simp;omega,List.take_succ_cons,List.drop_succ_cons];exact⟨fun y hy=>(z51.mp hy).elim (fun q=>q▸h) (i1 y),i2⟩
   · rw[z6i h]at e;have e0:cb lt (z::l) x=0:=e;rw[e0];refine⟨fun y hy=>by simp at hy,fun y hy=>?_⟩;rcases z51.mp hy with rfl | hy
     · exact z8p.mpr h
     · exact z8p.mpr fun q=>h (w.tr z y x al.head (al.tail y hy) tx (sz y hy) q)
theorem zok(w:Sw T lt){x:D}(tx:T x){l:List D}(al:Al T l)(s:Srt lt l):hs lt l x=true↔∃y,l[cb lt l x]? = some y/\lt x y=false:=by
 obtain⟨h1,h2⟩:=zbi w tx al s;constructor
 · intro h;obtain⟨y,hy,r⟩:=hs_iff.mp h;have hy':y∈l.drop (cb lt l x):=by
     rw[<-z63 (cb lt l x) l]at hy;rcases z6e.mp hy with q | q
     · have:=r.1;rw[h1 y q]at this;cases this
     · exact q
   cases q:l.drop (cb lt l x) with
   |nil=>rw[q]at hy';cases hy'
   | cons z m=>
     have hz:l[cb lt l x]? = some z:=by have:=z88 (xs:=l) (i:=cb lt l x) (j:=0);rw[q]at this;simpa using this.symm
     refine⟨z,hz,?_⟩;have sd:Srt lt (z::m):=q▸List.Pairwise.drop s;rw[q]at hy';rcases z51.mp hy' with rfl | hm
     · exact r.2
     · cases g:lt x z with
       |false=>rfl
       | true=>
         have tz:=al z (z6b hz);have:=w.tr x z y tx tz (al y hy) g ((z65.mp sd).1 y hm);rw[r.2]at this;cases this
 · intro⟨y,hy,r⟩;have hm:y∈l.drop (cb lt l x):=z6b (i:=0) (by rw[z88];simpa using hy);exact hs_iff.mpr ⟨y,z6b hy,h2 y hm,r⟩
theorem zuw(w:Sw T lt){x:D}(tx:T x){l:List D}(al:Al T l)(s:Srt lt l)(h:hs lt l x=false):Srt lt (l.take (cb lt l x)++x::l.drop (cb lt l x)):=by
 obtain⟨h1,h2⟩:=zbi w tx al s;have hd:∀y∈l.drop (cb lt l x),lt x y=true:=fun y hy=>by
   have:=hs_no.mp h y (z76 hy);cases q:lt x y with
   |true=>rfl
   |false=>exact absurd ⟨h2 y hy,q⟩ this
 have s0:Srt lt (l.take (cb lt l x)++l.drop (cb lt l x)):=by rw[z63];exact s
 obtain⟨sa,sb,sab⟩:=z75.mp s0;refine z75.mpr ⟨sa,z65.mpr ⟨hd,sb⟩,fun y hy z hz=>?_⟩;rcases z51.mp hz with rfl | hz
 · exact h1 y hy
 · exact sab y hy z hz
end
variable {k:Nat} [Kd k] {d d0 l r t x y:D}{ts us rt:List D}{h i j g rh:Nat}{n:Int}{S S0 S1:Sto}{ev:Ev}{T:D->Prop}{lt:D->D->Bool}{f:LT}{vs:List D}
theorem zwa(w c:Int):kl (.int w) (.int c)=some (.bl (decide (w=c))):=by rw[zkf];rfl
theorem z03(w c:Int):zg8 (.int w) (.int c)=some (.bl (decide (w<c))):=rfl
structure Bf (k:Nat) (T:D->Prop) (lt:D->D->Bool) (f:LT) (vs:List D):Prop where
 two:f.params.args.length=2
 no:zb3 vs=true
 nc:∀x,T x->noC x=true
 ca:∃g,zr2 f=some g/\∀x y,T x->T y->∀S,noCS S=true->g ([x,y]++vs) S=some (.bl (lt x y),S)
 sw:Sw T lt
theorem bef{q:Nat}{e1 e2:E}(B:Bf k T lt f vs)(hn:noCS S=true)(hq:ev[q]? = some (some (.clo f vs)))(h1:e1 ev S=some (x,S))(h2:e2 ev S=some (y,S))(tx:T x)(ty:T y):zcb ft zhd zr2 (eV q) (aC e1 (aC e2 aN)) ev S=some (.bl (lt x y),S):=by
 obtain⟨g,hg,hc⟩:=B.ca;have nn:(noCL [x,y]&&zb3 vs&&noCS S)=true/\[x,y].length=f.params.args.length:=⟨by rw[B.no,hn];simp only[noCL,B.nc x tx,B.nc y ty,z8q],B.two.symm⟩
 simp only[zcb,e_v hq,Option.bind_some,hg,a_c h1 (a_c h2 a_n),z6a nn,hc x y tx ty S hn]
theorem zgc(B:Bf k T lt f vs)(hn:noCS S=true)(tx:T x):∀(q:Nat) {d:D}{ts:List D}{h:Nat}{b:Bool},Mk k d ts h->h<q->Al T (ord b ts)->Srt lt (ord b ts)->x5 q [d,.bl b,x,.clo f vs] S=some (.int (cb lt (ord b ts) x:Nat),S)
 |0,_,_,_,_,_,hq,_,_=>absurd hq (z8a _)
 | q+1,d,ts,h,b,m,hq,al,s=>by
   rcases zgx m with⟨rfl,rfl,rfl⟩ | ⟨⟨xs,rfl⟩,u0,rest,e0⟩
   · have e:ord b ([]:List D)=[]:=by unfold ord;split<;>rfl
     rw[e];exact jh rfl (qg (z9 (qk (e_2 (e_v rfl) e_k rfl)) (zv e_k)))
   · have hh:0<h:=zar m (by rw[e0];simp);obtain⟨u,t,y,c,xt,yt,xh,yh,c1,sn⟩:=zie m hh b S;have hu:=sn.hu;have hx:=sn.hx;have hy:=sn.hy;rw[hu]at al s ⊢;have tt:T t:=al t (by simp);obtain⟨sa,sb,_⟩:=z75.mp s;have sb':=(z65.mp sb).2;have aX:Al T (ord c xt):=fun z hz=>al z (by simp[hz]);have aY:Al T (ord c yt):=fun z hz=>al z (by simp[hz]);rw[ztz B.sw al tx s];have e1:bE (zcb ft zhd zr2 (eV 3) (aC (e2s qb (eV 4) (eK (.int 1))) (aC (eV 2) aN))) [some (.tup xs),some (.bl b),some x,some (.clo f vs),some (.tup [u,t,y,.bl c])] S=some (lt t x,S):=qk (bef B hn rfl (qm (e_v rfl) e_k rfl) (e_v rfl) tt tx);by_cases g:lt t x=true
     · rw[z6a g];rw[g]at e1;refine jh rfl (zh (zn (qk (e_2 (e_v rfl) e_k (zhf xs)))) (zh (zq (zi (a_c (e_v rfl) (a_c (e_v rfl) a_n)) c1)) (qg (z9 e1 (zv (e_2 (e_2 (zi (a_c (qm (e_v rfl) e_k rfl) a_n) (jy sn.mx S)) e_k (add_int _ _)) (zi (a_c (qm (e_v rfl) e_k rfl) (a_c (qm (e_v rfl) e_k rfl) (a_c (e_v rfl) (a_c (e_v rfl) a_n)))) (zgc B hn tx q sn.my (by omega) aY sb')) ?_))))));rw[add_int,xw];congr 2
     · have g':lt t x=false:=z8p.mpr g;rw[z6i g];rw[g']at e1;exact jh rfl (zh (zn (qk (e_2 (e_v rfl) e_k (zhf xs)))) (zh (zq (zi (a_c (e_v rfl) (a_c (e_v rfl) a_n)) c1)) (zh (zn e1) (zv (zi (a_c (qm (e_v rfl) e_k rfl) (a_c (qm (e_v rfl) e_k rfl) (a_c (e_v rfl) (a_c (e_v rfl) a_n)))) (zgc B hn tx q sn.mx (by omega) aX sa))))))
structure Ste (k:Nat) (T:D->Prop) (lt:D->D->Bool) (d:D) (ts:List D) (h:Nat):Prop where
 mm:Mk k d ts h
 al:Al T ts
 sr:Srt lt ts
theorem zdk(B:Bf k T lt f vs)(hn:noCS S=true)(tx:T x)(s:Ste k T lt d ts h)(hl:ts.length<=2000):xx [d,x,.clo f vs] S=some (.int (cb lt ts x:Nat),S):=by have h1:=h15 s.mm hl;have:=zgc B hn tx 40 (b:=false) s.mm (by omega) (show Al T (ord false ts)from s.al) (show Srt lt (ord false ts)from s.sr);exact jh rfl (zv (zi (a_c (e_v rfl) (a_c e_k (a_c (e_v rfl) (a_c (e_v rfl) a_n)))) this))
theorem zdd(B:Bf k T lt f vs)(hn:noCS S=true)(tx:T x)(s:Ste k T lt d ts h)(hl:ts.length<=2000):qy [d,.int (cb lt ts x:Nat),x,.clo f vs] S=some (.bl (hs lt ts x),S):=by
 have hat:=zok B.sw tx s.al s.sr;by_cases hp:cb lt ts x<ts.length
 · have hy:ts[cb lt ts x]? = some ts[cb lt ts x]:=z5s hp;have ty:=s.al _ (z9n hp);have e:hs lt ts x=!lt x ts[cb lt ts x]:=by
     rw[qae,hat];constructor
     · rintro⟨y,q,r⟩;rw[hy]at q;cases q;rw[r];rfl
     · intro q;exact⟨_,hy,by cases g:lt x ts[cb lt ts x]with | false=>rfl | true=>rw[g]at q;cases q⟩
   rw[e];exact jh rfl (zv (ztt (e_2 (e_v rfl) (zi (a_c (e_v rfl) a_n) (jy s.mm S)) ((z03 _ _).trans (by rw[z6d (by omega)]))) (z0d (bef B hn rfl (e_v rfl) (zi (a_c (e_v rfl) (a_c (e_v rfl) a_n)) (z0s s.mm hl hy S)) tx ty))))
 · have e:hs lt ts x=false:=by
     cases g:hs lt ts x with
     |false=>rfl
     |true=>obtain⟨y,q,_⟩:=hat.mp g;exact absurd (z5q.mp q).1 hp
   rw[e];exact jh rfl (zv (z0e (e_2 (e_v rfl) (zi (a_c (e_v rfl) a_n) (jy s.mm S)) ((z03 _ _).trans (by rw[z5w (by omega)])))))
end Pg
namespace Pg
open PySem L2 F Mt
variable {d d0 l r t x y:D}{ts us rt:List D}{h i j g rh:Nat}{n:Int}{S S0 S1:Sto}{ev:Ev}{T:D->Prop}{lt:D->D->Bool}{f:LT}{vs:List D}
theorem ztf(a b:Int):([a] < [b])↔a<b:=by rw[z6s];simp
theorem zzg(a b c d:Int):([a,b] < [c,d])↔(a<c\/a=c/\b<d):=by rw[z6s,ztf]
theorem zzh(a c:Int)(b d:Str):(a::Srt.nums b<c::Srt.nums d)↔(a<c\/a=c/\b.cps.toList<d.cps.toList):=by rw[z6s];have:(Srt.nums b<Srt.nums d)↔b.cps.toList<d.cps.toList:=Srt.map_lt _ _;rw[this]
theorem zjz{a b:Str}(h:Srt.nums a=Srt.nums b):a=b:=by obtain⟨a⟩:=a;obtain⟨b⟩:=b;refine z68 Str.mk (Array.toList_inj.mp ?_);exact(List.map_inj_right fun x y e=>Int.ofNat.inj e).mp h
theorem zvp(h:x8 x<4)(e:x8 x=x8 y)(c:zf0 x=zf0 y):x=y:=by
 have h':x8 y<4:=e▸h;rcases j5 h with⟨n,rfl⟩ | ⟨z,rfl⟩ | ⟨a,b,rfl⟩ | ⟨a,z,rfl⟩<;>rcases j5 h' with⟨m,rfl⟩ | ⟨w,rfl⟩ | ⟨u,v,rfl⟩ | ⟨u,w,rfl⟩<;>first | (simp[x8]at e;done) | skip
 · rw[show n=m from List.head_eq_of_cons_eq c]
 · rw[zjz c]
 · obtain⟨c1,c2⟩:=z99 c;rw[c1,List.head_eq_of_cons_eq c2]
 · obtain⟨c1,c2⟩:=z99 c;rw[c1,zjz c2]
theorem zze(h:x8 x<4)(e:x8 x=x8 y):kl x y=some (.bl (decide (zf0 x=zf0 y))):=by
 have h':x8 y<4:=e▸h;have ei:∀(m:Nat) (i j:Int),eqN m (.int i) (.int j)=some (i==j):=fun m i j=>by cases m<;>rfl
 have es:∀(m:Nat) (i j:Str),eqN m (.str i) (.str j)=some (i==j):=fun m i j=>by cases m<;>rfl
 have key:∀b:Bool,eqN 150 x y=some b->(b=true↔x=y)->kl x y=some (.bl (decide (zf0 x=zf0 y))):=fun b h1 h2=>by
   unfold kl;rw[h1];have:b=decide (zf0 x=zf0 y):=by rw[qae,h2,decide_eq_true_iff];exact⟨fun q=>q▸rfl,zvp h e⟩
   rw[this];rfl
 rcases j5 h with⟨n,rfl⟩ | ⟨z,rfl⟩ | ⟨a,b,rfl⟩ | ⟨a,z,rfl⟩<;>rcases j5 h' with⟨m,rfl⟩ | ⟨w,rfl⟩ | ⟨u,v,rfl⟩ | ⟨u,w,rfl⟩<;>first | (simp[x8]at e;done) | skip
 · exact key _ (ei _ _ _) (by simp)
 · exact key _ (es _ _ _) (by simp)
 · exact key ((a==u)&&((b==v)&&true)) (by show eqL (eqN 149) [.int a,.int b] [.int u,.int v]=_;simp[eqL,ei]) (by simp)
 · exact key ((a==u)&&((z==w)&&true)) (by show eqL (eqN 149) [.int a,.str z] [.int u,.str w]=_;simp[eqL,ei,es]) (by simp)
theorem zzb(h:x8 x<4)(e:x8 x=x8 y):zil x y=some (.bl (decide (zf0 x<zf0 y))):=by
 have h':x8 y<4:=e▸h;rcases j5 h with⟨n,rfl⟩ | ⟨z,rfl⟩ | ⟨a,b,rfl⟩ | ⟨a,z,rfl⟩<;>rcases j5 h' with⟨m,rfl⟩ | ⟨w,rfl⟩ | ⟨u,v,rfl⟩ | ⟨u,w,rfl⟩<;>first | (simp[x8]at e;done) | skip
 · show some (D.bl (decide (n<m)))=some (.bl (decide ([n] < [m])));rw[z6u.mpr (ztf n m)]
 · show some (D.bl (decide (z.cps.toList<w.cps.toList)))=some (.bl (decide (Srt.nums z<Srt.nums w)));rw[z6u.mpr (show(Srt.nums z<Srt.nums w)↔z.cps.toList<w.cps.toList from Srt.map_lt _ _)]
 · show(zlj [.int a,.int b] [.int u,.int v]).map D.bl=some (.bl (decide ([a,b] < [u,v])));rw[z6u.mpr (zzg a b u v)];simp only[zlj];by_cases h:a=u
   · subst h;by_cases g:b=v
     · subst g;rw[z5w (show ¬ (a<a\/a=a/\b<b) by omega)];simp
     · simp[g]
   · simp[h]
 · show(zlj [.int a,.str z] [.int u,.str w]).map D.bl=some (.bl (decide (a::Srt.nums z<u::Srt.nums w)));rw[z6u.mpr (zzh a u z w)];simp only[zlj];by_cases h:a=u
   · subst h;by_cases g:z=w
     · subst g;rw[z5w (show ¬ (a<a\/a=a/\z.cps.toList<z.cps.toList)from fun q=>q.elim (fun z=>by omega) fun z=>z8i _ z.2)];simp
     · simp[g]
   · simp[h]
def Ti(x:D):Prop:=∃i,x=.int i
def Tw(x:D):Prop:=∃z,x=.str z/\z.length<=8
def iv:D->Int
 | .int i=>i
 |_=>0
def sv:D->Str
 | .str z=>z
 |_=>⟨#[]⟩
theorem zxl(z:Str)(lo hi:Option Int):(yo z lo hi).length<=z.length:=by
 unfold yo;split
 · exact z5o _
 · have h1:=PyProof.Rows.indices_len_le lo hi z.length;refine z57 ?_ h1;show(List.filterMap _ _).toArray.size<=_;rw[z5t];exact z98 _ _
def zes(κ:Int)(x:D):D:=if κ=1 then .int (0-iv x)else if κ=2 then .tup [.int (iv x%7),x]else if κ=3 then .int (iv x/3)else if κ=4 then .int (if iv x<0 then-iv x else iv x)else if κ=6 then .tup [.int (sv x).length,x]else if κ=7 then .str (yo (sv x) none (some 1))else x
def zau(κ:Int):D->Prop:=if κ<5 then Ti else Tw
theorem zdw{κ:Int}(h0:0<=κ)(h1:κ<8)(tx:zau κ x):qi [.int κ,x] S=some (zes κ x,S):=by
 have hz:sizeLine=16777216:=z60;have:κ=0\/κ=1\/κ=2\/κ=3\/κ=4\/κ=5\/κ=6\/κ=7:=by omega
 rcases this with rfl | rfl | rfl | rfl | rfl | rfl | rfl | rfl
 · exact jh rfl (zh (zn (qk (e_2 (e_v rfl) e_k rfl))) (zh (zn (qk (e_2 (e_v rfl) e_k rfl))) (zh (zn (qk (e_2 (e_v rfl) e_k rfl))) (zh (zn (qk (e_2 (e_v rfl) e_k rfl))) (zh (zn (qk (e_2 (e_v rfl) e_k rfl))) (zh (zn (qk (e_2 (e_v rfl) e_k rfl))) (zv (e_v rfl))))))))
 · obtain⟨i,rfl⟩:=(show Ti x from tx)
   exact jh rfl (qg (z9 (qk (e_2 (e_v rfl) e_k rfl)) (zv (e_2 e_k (e_v rfl) (sub_int _ _)))))
 · obtain⟨i,rfl⟩:=(show Ti x from tx)
   exact jh rfl (zh (zn (qk (e_2 (e_v rfl) e_k rfl))) (qg (z9 (qk (e_2 (e_v rfl) e_k rfl)) (zv (x4 (a_c (e_2 (e_v rfl) e_k (yf (by decide))) (a_c (e_v rfl) a_n)) (z5u rfl))))))
 · obtain⟨i,rfl⟩:=(show Ti x from tx)
   exact jh rfl (zh (zn (qk (e_2 (e_v rfl) e_k rfl))) (zh (zn (qk (e_2 (e_v rfl) e_k rfl))) (qg (z9 (qk (e_2 (e_v rfl) e_k rfl)) (zv (e_2 (e_v rfl) e_k (zhq (by decide))))))))
 · obtain⟨i,rfl⟩:=(show Ti x from tx)
   exact jh rfl (zh (zn (qk (e_2 (e_v rfl) e_k rfl))) (zh (zn (qk (e_2 (e_v rfl) e_k rfl))) (zh (zn (qk (e_2 (e_v rfl) e_k rfl))) (qg (z9 (qk (e_2 (e_v rfl) e_k rfl)) (zv (e_a (a_c (e_v rfl) a_n) rfl)))))))
 · exact jh rfl (zh (zn (qk (e_2 (e_v rfl) e_k rfl))) (zh (zn (qk (e_2 (e_v rfl) e_k rfl))) (zh (zn (qk (e_2 (e_v rfl) e_k rfl))) (zh (zn (qk (e_2 (e_v rfl) e_k rfl))) (zh (zn (qk (e_2 (e_v rfl) e_k rfl))) (zh (zn (qk (e_2 (e_v rfl) e_k rfl))) (zv (e_v rfl))))))))
 · obtain⟨z,rfl,hl⟩:=(show Tw x from tx)
   have ln:zer S [.str z]=some (.int z.length):=by show(if z.length<=sizeLine then some (D.int z.length)else none)=_;rw[z6a (by omega)]
   exact jh rfl (zh (zn (qk (e_2 (e_v rfl) e_k rfl))) (zh (zn (qk (e_2 (e_v rfl) e_k rfl))) (zh (zn (qk (e_2 (e_v rfl) e_k rfl))) (zh (zn (qk (e_2 (e_v rfl) e_k rfl))) (qg (z9 (qk (e_2 (e_v rfl) e_k rfl)) (zv (x4 (a_c (e_a (a_c (e_v rfl) a_n) ln) (a_c (e_v rfl) a_n)) (z5u rfl)))))))))
 · obtain⟨z,rfl,hl⟩:=(show Tw x from tx)
   have sl:zwf (eV 1) pN (pE (eK (.int 1))) [some (.int 7),some (.str z)] S=some (.str (yo z none (some 1)),S):=by
     have h2:=zxl z none (some 1);have h3:(yo z none (some 1)).length<=sizeLine:=by omega
     simp[zwf,eV,pN,pE,eK,zvb,h3]
   exact jh rfl (zh (zn (qk (e_2 (e_v rfl) e_k rfl))) (zh (zn (qk (e_2 (e_v rfl) e_k rfl))) (zh (zn (qk (e_2 (e_v rfl) e_k rfl))) (zh (zn (qk (e_2 (e_v rfl) e_k rfl))) (zh (zn (qk (e_2 (e_v rfl) e_k rfl))) (qg (z9 (qk (e_2 (e_v rfl) e_k rfl)) (zv sl))))))))
def kq(κ:Int):Nat:=if κ=2 then 2 else if κ=6 then 3 else if κ<5 then 0 else 1
theorem kq4(κ:Int):kq κ<4:=by
 unfold kq;split
 · decide
 split
 · decide
 split<;>decide
theorem za1{κ:Int}(h0:0<=κ)(h1:κ<8)(tx:zau κ x):x8 (zes κ x)=kq κ:=by
 have:κ=0\/κ=1\/κ=2\/κ=3\/κ=4\/κ=5\/κ=6\/κ=7:=by omega
 rcases this with rfl | rfl | rfl | rfl | rfl | rfl | rfl | rfl
 · obtain⟨i,rfl⟩:=(show Ti x from tx);rfl
 · obtain⟨i,rfl⟩:=(show Ti x from tx);rfl
 · obtain⟨i,rfl⟩:=(show Ti x from tx);rfl
 · obtain⟨i,rfl⟩:=(show Ti x from tx);rfl
 · obtain⟨i,rfl⟩:=(show Ti x from tx);rfl
 · obtain⟨z,rfl,hl⟩:=(show Tw x from tx);rfl
 · obtain⟨z,rfl,hl⟩:=(show Tw x from tx);rfl
 · obtain⟨z,rfl,hl⟩:=(show Tw x from tx);rfl
def cc(κ:Int)(x:D):List Int:=zf0 (zes κ x)
def ltk(κ:Int)(x y:D):Bool:=decide (cc κ x<cc κ y)
theorem z4n(κ:Int):Sw T (ltk κ) :=
 ⟨fun x _=>z5w (z8i _),fun x y z _ _ _ p q=>z6d (List.lt_trans (z7h p) (z7h q)),fun x y z _ _ _ p=>by
   have p:=z7h p;by_cases q:cc κ x<cc κ y
   · exact .inl (z6d q)
   · refine .inr (z6d ?_);by_cases g:cc κ y<cc κ z
     · exact g
     · exact absurd p (z64.mpr (List.le_trans (z64.mp g) (z64.mp q)))⟩
theorem z0v{κ:Int}:alk (ltk κ) x y↔cc κ x=cc κ y:=by
 unfold alk ltk;rw[z8e,z8e];constructor
 · rintro⟨a,b⟩;exact z9p (z64.mp b) (z64.mp a)
 · intro e;rw[e];exact⟨z8i _,z8i _⟩
theorem zte{κ:Int}(h0:0<=κ)(h1:κ<8)(tx:zau κ x)(ty:zau κ y):kl (zes κ x) (zes κ y)=some (.bl (decide (cc κ x=cc κ y))) :=
 zze (by rw[za1 h0 h1 tx];exact kq4 κ) (by rw[za1 h0 h1 tx,za1 h0 h1 ty])
theorem zy8{κ:Int}(h0:0<=κ)(h1:κ<8)(tx:zau κ x)(ty:zau κ y):zil (zes κ x) (zes κ y)=some (.bl (ltk κ x y)) :=
 zzb (by rw[za1 h0 h1 tx];exact kq4 κ) (by rw[za1 h0 h1 tx,za1 h0 h1 ty])
theorem zxa{κ:Int}(tx:zau κ x):Ky x:=by
 unfold zau at tx;split at tx
 · exact .inl tx
 · exact .inr tx
theorem ze4{κ:Int}(tx:zau κ x):noC x=true:=by rcases zxa tx with⟨i,rfl⟩ | ⟨z,rfl,_⟩<;>rfl
theorem zkm{cn:B}{fr:Ev}{p:D->Bool}:∀(ds:List D),(∀x∈ds,cn (some x::fr) S=some (p x,S))->zlw cn (eV 0) fr ds S=some (ds.filter p,S)
 | [],_=>rfl
 | x::ds,hc=>by
   have ih:=zkm ds fun y hy=>hc y (z5n _ hy);unfold zlw;rw[hc x (z5x ..)];simp only[Option.bind_some];cases g:p x with
   | true=>
     rw[z6a rfl,List.filter_cons_of_pos g];show((eV 0 (some x::fr) S).bind fun q=>(zlw cn (eV 0) fr ds q.2).bind fun r=>some (q.1::r.1,r.2))=_;rw[show eV 0 (some x::fr) S=some (x,S)from rfl];simp only[Option.bind_some,ih]
   | false=>
     rw[z6i (by simp),z89 (by rw[g];simp)];exact ih
theorem zty{fr:List Nat}{e:E}{cn:B}{p:D->Bool}(he:e ev S=some (.lst ts,S))(hc:∀x∈ts,cn (some x::fr.map (zh7 ev)) S=some (p x,S)):xr fr (zmc e) cn (eV 0) ev S=some (.lst (ts.filter p),S):=by unfold xr zmc;rw[he];simp only[Option.bind_some,zbu,zkm ts hc,Option.map_some]
theorem zyu{κ:Int}(h0:0<=κ)(h1:κ<8)(tx:zau κ x):noC (zes κ x)=true:=by
 have h:x8 (zes κ x)<4:=by rw[za1 h0 h1 tx];exact kq4 κ
 rcases j5 h with⟨n,e⟩ | ⟨z,e⟩ | ⟨a,b,e⟩ | ⟨a,z,e⟩<;>rw[e]<;>rfl
def fs:D->D
 | .tup [a,_]=>a
 |d=>d
def sn:D->D
 | .tup [_,v]=>v
 |d=>d
def TP(κ:Int)(p:D):Prop:=∃a v,p=.tup [a,v]/\zau κ a/\(v=.non\/∃i,v=.int i)
def ltp(κ:Int)(x y:D):Bool:=ltk κ (fs x) (fs y)
def cp(κ:Int)(x:D):List Int:=cc κ (fs x)
theorem zwt(κ:Int):Sw T (ltp κ) :=
 have w:Sw (fun _=>True) (ltk κ):=z4n κ
 ⟨fun x _=>w.irr _ trivial,fun x y z _ _ _=>w.tr _ _ _ trivial trivial trivial,fun x y z _ _ _=>w.co _ _ _ trivial trivial trivial⟩
theorem alk_p{κ:Int}:alk (ltp κ) x y↔cp κ x=cp κ y:=z0v (κ:=κ) (x:=fs x) (y:=fs y)
theorem TP.key{κ:Int}(h:TP κ x):zau κ (fs x):=by obtain⟨a,v,rfl,ha,hv⟩:=h;exact ha
theorem znx{κ:Int}(h:TP κ x):noC x=true:=by
 obtain⟨a,v,rfl,ha,rfl | ⟨i,rfl⟩⟩:=h
 · show(noC a&&true)=true;rw[ze4 ha];rfl
 · show(noC a&&true)=true;rw[ze4 ha];rfl
theorem zj7{c:D->List Int}(al:Al T ts):Al T (xc c ts):=fun x hx=>al x ((xi ts).mem_iff.mp hx)
theorem zoc{κ:Int}(hd:ts.Pairwise fun x y=>cp κ x≠cp κ y):Srt (ltp κ) (xc (cp κ) ts):=by
 have p1:=zdz (c:=cp κ) ts;have p2:(xc (cp κ) ts).Pairwise fun x y=>cp κ x≠cp κ y:=(xi ts).symm.pairwise hd fun h=>h.symm;refine(p1.and p2).imp fun {x y} q=>z6d ?_;by_cases g:cp κ x<cp κ y
 · exact g
 · exact absurd (z9p (z64.mp q.1) (z64.mp g)) q.2
theorem zqg{κ:Int}(h0:0<=κ)(h1:κ<8)(al:Al (TP κ) ts)(hd:ts.Pairwise fun x y=>cp κ x≠cp κ y):zmw (ts.map fun p=>zes κ (fs p)) ts=some (xc (cp κ) ts):=by
 have hk:∀d∈ts.map (fun p=>zes κ (fs p)),x8 d=kq κ:=fun d hd=>by obtain⟨x,hx,rfl⟩:=z7o.mp hd;exact za1 h0 h1 (al x hx).key
 have hkn:(ts=[]/\kn (ts.map fun p=>zes κ (fs p))=0)\/kn (ts.map fun p=>zes κ (fs p))=kq κ:=by
   cases ts with
   |nil=>exact .inl ⟨rfl,rfl⟩
   |cons x ts=>exact .inr (hk _ (by simp))
 unfold zmw;have hp:(ts.map fun p=>zes κ (fs p)).map zf0=ts.map (cp κ):=by rw[z8b];rfl
 have hcond:kn (ts.map fun p=>zes κ (fs p))<4/\(∀d∈ts.map (fun p=>zes κ (fs p)),x8 d=kn (ts.map fun p=>zes κ (fs p)))/\((ts.map fun p=>zes κ (fs p)).map zf0).Pairwise (·≠·):=by
   refine⟨?_,?_,?_⟩
   · rcases hkn with⟨_,e⟩ | e
     · rw[e];decide
     · rw[e];exact kq4 κ
   · rcases hkn with⟨e,_⟩ | e
     · subst e;intro d hd;cases hd
     · rw[e];exact hk
   · rw[hp,z8r];exact hd
 rw[z6a hcond,hp];have e:(ts.map (cp κ)).zip ts=ts.map (fun d=>(cp κ d,d)):=by
   clear al hd hk hkn hp hcond
   induction ts with
   |nil=>rfl
   |cons x ts ih=>rw[z5v,z5v,List.zip_cons_cons,ih]
 rw[e,zbf (c:=cp κ) (c':=fun p:List Int×D=>p.1) (fun d=>(cp κ d,d)) (fun _=>rfl),z8b];exact z68 some (List.map_id _)
theorem zhr{cn:B}{fr:Ev}{p:D->Bool}{a:Nat}(ha:S[a]? = some (.lst us)):∀(ds:List D),(∀x∈ds,cn (some x::fr) S=some (p x,S))->yz a us cn (eV 0) fr ds S=some (ds.filter p,S)
 | [],_=>zff ha
 | x::ds,hc=>by
   have ih:=zhr ha ds fun y hy=>hc y (z5n _ hy);rw[zef ha,hc x (z5x ..)];simp only[Option.bind_some];cases g:p x with
   | true=>
     rw[z6a rfl,List.filter_cons_of_pos g];show((eV 0 (some x::fr) S).bind fun q=>(yz a us cn (eV 0) fr ds q.2).bind fun r=>some (q.1::r.1,r.2))=_;rw[show eV 0 (some x::fr) S=some (x,S)from rfl];simp only[Option.bind_some,ih]
   | false=>
     rw[z6i (by simp),z89 (by rw[g];simp)];exact ih
theorem z0h{fr:List Nat}{e:E}{cn:B}{p:D->Bool}{a:Nat}(he:e ev S=some (.obj a,S))(ha:S[a]? = some (.lst us))(hc:∀x∈us,cn (some x::fr.map (zh7 ev)) S=some (p x,S)):xr fr (zmc e) cn (eV 0) ev S=some (.lst (us.filter p),S):=by unfold xr zmc;rw[he];simp only[Option.bind_some,ha,zbu,zhr ha us hc,Option.map_some]
end Pg
namespace Pg
open PySem L2 F Mt
variable {k:Nat} [Kd k] {d d0 l r t x y:D}{ts us rt:List D}{h i j g rh:Nat}{n:Int}{S S0 S1:Sto}{ev:Ev}{T:D->Prop}{lt:D->D->Bool}{f:LT}{vs:List D}
theorem z3g:(Str.ofString "abc").length<=sizeLine:=by decide +kernel
theorem z0w:(Str.ofString "abc").cps.toList.length=3:=by decide +kernel
theorem z3h(c:Int):∃z,∀S:Sto,qb S (.str (Str.ofString "abc")) (.int (c%3))=some (.str ⟨#[z]⟩):=by
 have x0:=z7p c (show(3:Int)≠0 by decide);have x1:=z66 c (show(0:Int)<3 by decide);generalize c%3=z at x0 x1;have hat:∃c,atI (Str.ofString "abc").cps.toList z=some c:=by
   have hz:z.toNat<(Str.ofString "abc").cps.toList.length:=by rw[z0w];omega
   have e3:=zgr (z5s hz);rw[show((z.toNat:Nat):Int)=z by omega]at e3;exact⟨_,e3⟩
 obtain⟨y,hy⟩:=hat;refine⟨y,fun S=>?_⟩;unfold qb;simp only[z6a z3g,hy];rfl
def tE8:E:=yn (aC (eK (.int 8)) (aC (eK (.int 24)) (aC (eK (.int 72)) (aC (eK (.int 216)) (aC (eK (.int 648)) (aC (eK (.int 1944)) (aC (eK (.int 5832)) (aC (eK (.int 17496)) aN))))))))
theorem z1s:tE8 ev S=some (.tup [.int 8,.int 24,.int 72,.int 216,.int 648,.int 1944,.int 5832,.int 17496],S):=x4 (a_c e_k (a_c e_k (a_c e_k (a_c e_k (a_c e_k (a_c e_k (a_c e_k (a_c e_k a_n)))))))) (z5u rfl)
def tB:C:=qo 2 (e2 qu (eV 2) (e2s qb (eK (.str (Str.ofString "abc"))) (e2 q9 (e2 zbj (eV 1) (e2s qb tE8 (eV 3))) (eK (.int 3)))))
theorem zsp(κ c:Int):∀(m lo:Nat) (z:Str) (o:Option D),lo+m<=8->z.length<=lo->∃z':Str,z'.length<=8/\∃o',∀S,zbq 3 tB (jm (lo:Int) m) [some (.int κ),some (.int c),some (.str z),o] S=some (.nx [some (.int κ),some (.int c),some (.str z'),o'],S)
 |0,lo,z,o,hm,hz=>⟨z,by omega,o,fun S=>rfl⟩
 | m+1,lo,z,o,hm,hz=>by
   have hs:sizeLine=16777216:=z60;obtain⟨q,hq,iq⟩:∃q:Int,(0<q/\q<1073741824)/\∀S:Sto,qb S (.tup [.int 8,.int 24,.int 72,.int 216,.int 648,.int 1944,.int 5832,.int 17496]) (.int lo)=some (.int q):=by
     have:lo=0\/lo=1\/lo=2\/lo=3\/lo=4\/lo=5\/lo=6\/lo=7:=by omega
     rcases this with rfl | rfl | rfl | rfl | rfl | rfl | rfl | rfl
     · exact⟨8,by decide,fun S=>rfl⟩
     · exact⟨24,by decide,fun S=>rfl⟩
     · exact⟨72,by decide,fun S=>rfl⟩
     · exact⟨216,by decide,fun S=>rfl⟩
     · exact⟨648,by decide,fun S=>rfl⟩
     · exact⟨1944,by decide,fun S=>rfl⟩
     · exact⟨5832,by decide,fun S=>rfl⟩
     · exact⟨17496,by decide,fun S=>rfl⟩
   obtain⟨y,hy⟩:=z3h (c/q);have l1:(⟨#[y]⟩:Str).length=1:=rfl;have ad:qu (.str z) (.str ⟨#[y]⟩)=some (.str (z++⟨#[y]⟩)):=by show(if z.length+(⟨#[y]⟩:Str).length<=sizeLine then some (D.str (z++⟨#[y]⟩))else none)=_;rw[z6a (by omega)]
   obtain⟨z',hz',o',ih⟩:=zsp κ c m (lo+1) (z++⟨#[y]⟩) (some (.int lo)) (by omega) (by rw[Mt.str_len];omega);refine⟨z',hz',o',fun S=>?_⟩;rw[zk8,show((lo:Int)+1)=((lo+1:Nat):Int)from rfl];exact zfx (zq (e_2 (e_v rfl) (qm e_k (e_2 (e_2 (e_v rfl) (qm z1s (e_v rfl) (iq _)) (zhq hq)) e_k (yf (by decide))) (hy _)) ad)) (ih S)
theorem p60:zdl (.int 10) (.int 60)=some (.int (10^60)):=by
 have:zs1 10 60=some (10^60):=by unfold zs1;rw[z6a (by decide)];rfl
 simp only[zdl,F.opI,this];rfl
theorem p6:zdl (.int 982451653) (.int 6)=some (.int (982451653^6)):=by
 have:zs1 982451653 6=some (982451653^6):=by unfold zs1;rw[z6a (by decide)];rfl
 simp only[zdl,F.opI,this];rfl
theorem zjj{κ:Int}(h0:0<=κ)(h1:κ<8)(c:Int)(c0:0<=c)(c1:c<999999937):∃x,zau κ x/\∀S,jp [.int κ,.int c] S=some (x,S):=by
 by_cases q:κ<5
 · have lt5:∀S,bE (e2 zg8 (eV 0) (eK (.int 5))) [some (.int κ),some (.int c),none,none] S=some (true,S):=fun S=>qk (e_2 (e_v rfl) e_k ((z03 _ _).trans (by rw[z6d q])));by_cases z:c%9=0
   · refine⟨.int ((c+5)*982451653^6%(2*10^60-7)+1-10^60),?_,fun S=>jh rfl (qg (z9 (zen (lt5 S) (qk (e_2 (e_2 (e_v rfl) e_k (yf (by decide))) e_k ((zwa _ _).trans (by rw[z6d z]))))) (zv (e_2 (e_2 (e_2 (e_2 (e_2 (e_v rfl) e_k (add_int _ _)) (e_2 e_k e_k p6) (zj3 (by omega))) (e_2 (e_2 e_k (e_2 e_k e_k p60) (zj3 (by decide))) e_k (sub_int _ _)) (yf (by decide))) e_k (add_int _ _)) (e_2 e_k e_k p60) (sub_int _ _)))))⟩;unfold zau;rw[z6a q];exact⟨_,rfl⟩
   · refine⟨.int (c/9%41-20),?_,fun S=>jh rfl (zh (zn (zen (lt5 S) (qk (e_2 (e_2 (e_v rfl) e_k (yf (by decide))) e_k ((zwa _ _).trans (by rw[z5w z])))))) (qg (z9 (lt5 S) (zv (e_2 (e_2 (e_2 (e_v rfl) e_k (zhq (by decide))) e_k (yf (by decide))) e_k (sub_int _ _))))))⟩;unfold zau;rw[z6a q];exact⟨_,rfl⟩
 · have lt5:∀S,bE (e2 zg8 (eV 0) (eK (.int 5))) [some (.int κ),some (.int c),none,none] S=some (false,S):=fun S=>qk (e_2 (e_v rfl) e_k ((z03 _ _).trans (by rw[z5w q])));have w0:=z7p c (show(8:Int)≠0 by decide);have w1:=z66 c (show(0:Int)<8 by decide);obtain⟨z,hz,o',lp⟩:=zsp κ c (1+c%8).toNat 0 ⟨#[]⟩ none (by omega) (by decide);refine⟨.str z,?_,fun S=>jh rfl (zh (zn (zpt (lt5 S))) (zh (zn (lt5 S)) (zh (zq (d:=.str ⟨#[]⟩) e_k) (zh (zmu (b:=tB) (e_2 e_k (e_2 (e_v rfl) e_k (yf (by decide))) (add_int _ _)) (by omega) (by omega) (lp S)) (zv (e_v rfl))))))⟩;unfold zau;rw[z6i q];exact⟨z,rfl,hz⟩
theorem zuh{e:E}{g:G}{j:Nat}{y:Str}{t:LT}{is:List Nat}{kv us ks r:List D}(he:e ev S=some (d,S))(hs:z10 S d=some us)(hj:S[j]? = some (.tab y t.qual))(hl:us.length<=63)(hc:zat ev is=some kv)(hk:zir g t.params.args.length kv us S=some (ks,S))(hr:zmw ks us=some r):zho e g j y t is ev S=some (.lst r,S):=by unfold zho;simp only[he,Option.bind_some,hs,hj,hc,hk,hr,Option.map_some];exact z6a ⟨trivial,trivial,hl⟩
theorem zj5{g:G}{kv:List D}{ky:D->D}(hn:noCS S=true)(hv:noCL kv=true):∀{us:List D},(∀d∈us,noC d=true/\noC (ky d)=true/\g ([d]++kv) S=some (ky d,S))->zir g 1 kv us S=some (us.map ky,S)
 | [],_=>rfl
 | d::us,h=>by obtain⟨h1,h2,h3⟩:=h d (z5x ..);have ih:=zj5 hn hv fun z hz=>h z (z5n _ hz);unfold zir;rw[z6a ⟨by rw[hn,hv];simp[noCL,h1],rfl⟩,h3];simp only[Option.bind_some,h2,hn,Bool.and_self,z7s,ih,Option.map_some,z5v]
theorem z0m{is:List Nat}{F:List D->E}{kv:List D}{r:D×Sto}(hc:zat ev is=some kv)(hi:zfg kv=true)(h:F kv ev S=some r):zls is F ev S=some r:=by unfold zls;simp only[hc,Option.bind_some,hi,z7s,h]
theorem zwi{g:G}{a:As}{q:Nat}{t:LT}{cl:zLA}{ds kv:List D}{S2:Sto}(hq:ev[q]? = some (some (.lam { t with cl:=cl })))(ha:a ev S=some (ds,S1))(hn:(noCL ds&&noCL kv&&noCS S1)=true)(hl:ds.length=t.params.args.length)(hg:g (ds++kv) S1=some (d,S2))(h1:noC d=true)(h2:noCS S2=true):zfe g q t cl kv a ev S=some (d,S2):=by unfold zfe;simp only[hq,z7s,ha,Option.bind_some,hg,h1,h2,Bool.and_self];exact z6a ⟨hn,hl⟩
theorem zgg{g:G}{a:As}{q:Nat}{t:LT}{cl:zLA}{is:List Nat}{ds kv:List D}{S2:Sto}(ha:a ev S=some (ds,S1))(hq:ev[q]? = some (some (.lam { t with cl:=cl })))(hc:zat ev is=some kv)(hg:g (ds++[.clo t kv]) S1=some (d,S2))(h1:noC d=true)(h2:noCS S2=true):zcc g a q t cl is ev S=some (d,S2):=by simp only[zcc,ha,Option.bind_some,hq,z7s,hc,hg,h1,h2,Bool.and_self]
theorem zvn{j:Nat}{y:Str}{t:LT}(ht':S[j]? = some (.tab y ((y++".<locals>.")++"<lambda>")))(ht:t.qual=(y++".<locals>.")++"<lambda>"):zrw j y t ev S=some (.lam t,S):=by unfold zrw;rw[ht'];exact z6a ⟨rfl,ht.symm⟩
theorem zhb{f:E}(h:f ev S=some (.lst ts,S1)):zca f ev S=some (.lst ts.reverse,S1):=by simp[zca,h]
theorem zyx(l:List D):zgv (.lst l) (.lst [])=some (.bl !l.isEmpty):=by cases l<;>rfl
structure Bl (f:LT):Prop where
 two:f.params.args.length=2
 ca:∃g,zgd f=some g/\∀{κ:Int},0<=κ->κ<8->∀{x y:D}{S:Sto},zau κ x->zau κ y->g ([x,y]++[.int κ]) S=some (.bl (ltk κ x y),S)
theorem zoo{κ:Int}(h0:0<=κ)(h1:κ<8)(tx:zau κ x)(ty:zau κ y):zwx ([x,y]++[.int κ]) S=some (.bl (ltk κ x y),S):=by show z1b [some x,some y,some (.int κ)] S=_;exact e_2 (zi (a_c (e_v rfl) (a_c (e_v rfl) a_n)) (zdw h0 h1 tx)) (zi (a_c (e_v rfl) (a_c (e_v rfl) a_n)) (zdw h0 h1 ty)) (zy8 h0 h1 tx ty)
theorem bl1:Bl lt_1:=⟨rfl,zwx,by unfold zgd;rw[z6a rfl],fun {κ} h0 h1 {x y S} tx ty=>zoo h0 h1 tx ty⟩
theorem q31:lt_3.qual≠lt_1.qual:=by decide +kernel
theorem bl3:Bl lt_3:=⟨rfl,z2w,by
 unfold zgd;rw[z6i (fun e=>q31 (z68 LT.qual e)),z6i (fun e=>absurd (z68 (fun t:LT=>t.params.args.length) e) (by decide)),z6a rfl],fun {κ} h0 h1 {x y S} tx ty=>zoo h0 h1 tx ty⟩
theorem zzt{κ:Int}(h0:0<=κ)(h1:κ<8)(tx:TP κ x):z08 ([x]++[.int κ]) S=some (zes κ (fs x),S):=by obtain⟨a,v,rfl,ha,hv⟩:=tx;show z1a [some (.tup [a,v]),some (.int κ)] S=_;exact zi (a_c (e_v rfl) (a_c (qm (e_v rfl) e_k rfl) a_n)) (zdw h0 h1 ha)
theorem z0i:zr2 lt_0=some zzs:=by unfold zr2;rw[z6a rfl]
theorem zzu{κ:Int}(b:Bl f)(h0:0<=κ)(h1:κ<8)(hn:noCS S=true)(tx:TP κ x)(ty:TP κ y):zzs ([x,y]++[.clo f [.int κ]]) S=some (.bl (ltp κ x y),S):=by
 obtain⟨a,v,rfl,ha,hv⟩:=tx;obtain⟨c,w,rfl,hb,hw⟩:=ty;obtain⟨g,hg,cg⟩:=b.ca;show zcb (fun _=>none) (fun _=>none) zgd (eV 2) (aC (e2s qb (eV 0) (eK (.int 0))) (aC (e2s qb (eV 1) (eK (.int 0))) aN)) [some (.tup [a,v]),some (.tup [c,w]),some (.clo f [.int κ])] S=_;have nn:(noCL [a,c]&&zb3 [.int κ]&&noCS S)=true/\[a,c].length=f.params.args.length:=⟨by rw[hn];simp only[noCL,ze4 ha,ze4 hb,z8q];rfl,b.two.symm⟩
 have av:aC (e2s qb (eV 0) (eK (.int 0))) (aC (e2s qb (eV 1) (eK (.int 0))) aN) [some (.tup [a,v]),some (.tup [c,w]),some (.clo f [.int κ])] S=some ([a,c],S):=a_c (qm (e_v rfl) e_k rfl) (a_c (qm (e_v rfl) e_k rfl) a_n);have hv:eV 2 [some (.tup [a,v]),some (.tup [c,w]),some (.clo f [.int κ])] S=some (.clo f [.int κ],S):=e_v rfl;simp only[zcb,hv,Option.bind_some,hg,av,z6a nn];exact cg h0 h1 ha hb
theorem zl7{κ:Int}(b:Bl f)(h0:0<=κ)(h1:κ<8):Bf k (TP κ) (ltp κ) lt_0 [.clo f [.int κ]] :=
 ⟨rfl,rfl,fun x hx=>znx hx,⟨zzs,z0i,fun x y hx hy S hn=>zzu b h0 h1 hn hx hy⟩,zwt κ⟩
def pT:B:=(bE (e2 kl (zm qi (aC (eV 1) (aC (e2s qb (eV 0) (eK (.int 0))) aN))) (zm qi (aC (eV 1) (aC (eV 2) aN)))))
theorem z2c{κ:Int}(h0:0<=κ)(h1:κ<8)(ty:TP κ y)(tx:zau κ x):pT [some y,some (.int κ),some x] S=some (decide (cp κ y=cc κ x),S):=by obtain⟨a,v,rfl,ha,hv⟩:=ty;exact qk (e_2 (zi (a_c (e_v rfl) (a_c (qm (e_v rfl) e_k rfl) a_n)) (zdw h0 h1 ha)) (zi (a_c (e_v rfl) (a_c (e_v rfl) a_n)) (zdw h0 h1 tx)) (zte h0 h1 ha tx))
def TI(κ:Int)(p:D):Prop:=∃a i,p=.tup [a,.int i]/\zau κ a
theorem zt7{κ:Int}(h:TI κ x):TP κ x:=by obtain⟨a,i,rfl,ha⟩:=h;exact⟨a,_,rfl,ha,.inr ⟨i,rfl⟩⟩
theorem zp9{κ:Int}(h:TI κ x):Thing k x:=by obtain⟨a,i,rfl,ha⟩:=h;exact⟨Kd.eq,a,i,rfl,zxa ha⟩
def sB:C:=(z5 (qo 4 (zm qh (aC (eV 0) (aC (e2 qu (eK (.int 60)) (eV 3)) aN)))) (z5 (qo 5 (zm jp (aC (eV 1) (aC (eV 4) aN)))) (sIf (bE (e2 kl (xr [1,5] (zmc (eV 2)) pT (eV 0)) (zmd aN))) (zaz (eV 2) (yn (aC (eV 5) (aC (e2 q9 (eV 4) (eK (.int 100))) aN)))) ja)))
def Ep(ns:List Int)(κ:Int)(j:Nat)(o3 o4 o5:Option D):Ev:=[some (.lst (ns.map D.int)),some (.int κ),some (.obj j),o3,o4,o5]
theorem zch(ns:List Int)(hn:ns.length<=63){κ:Int}(h0:0<=κ)(h1:κ<8):∀(js:List D),(∀x∈js,∃i:Int,x=.int i/\0<=i/\i<10000)->∀(us:List D) (o3 o4 o5:Option D),Al (TI κ) us->us.Pairwise (fun x y=>cp κ x≠cp κ y)->us.length+js.length<100000 ->
   ∃us' o3' o4' o5',Al (TI κ) us'/\us'.Pairwise (fun x y=>cp κ x≠cp κ y)/\us'.length<=us.length+js.length/\zbq 3 sB js (Ep ns κ S.length o3 o4 o5) (S++[.lst us])=some (.nx (Ep ns κ S.length o3' o4' o5'),S++[.lst us'])
 | [],_,us,o3,o4,o5,al,pw,hl=>⟨us,o3,o4,o5,al,pw,by simp,rfl⟩
 | jj::js,hj,us,o3,o4,o5,al,pw,hl=>by
   obtain⟨i,rfl,i0,i1⟩:=hj jj (z5x ..);rw[List.length_cons]at hl;obtain⟨c,c0,c1,hc⟩:=zap ns hn (q:=60+i) (by omega) (by omega);obtain⟨x,tx,cx⟩:=zjj h0 h1 c c0 c1;have hat:(S++[MO.lst us])[S.length]? = some (.lst us):=zdu S _;have cmp:xr [1,5] (zmc (eV 2)) pT (eV 0) (Ep ns κ S.length (some (.int i)) (some (.int c)) (some x)) (S++[.lst us])=some (.lst (us.filter fun z=>decide (cp κ z=cc κ x)),S++[.lst us]):=z0h (e_v rfl) hat fun z hz=>z2c h0 h1 (zt7 (al z hz)) tx;have step1:∀{b:C}{o:Out}{S2:Sto},b (Ep ns κ S.length (some (.int i)) (some (.int c)) (some x)) (S++[.lst us])=some (o,S2)->(z5 (qo 4 (zm qh (aC (eV 0) (aC (e2 qu (eK (.int 60)) (eV 3)) aN)))) (z5 (qo 5 (zm jp (aC (eV 1) (aC (eV 4) aN)))) b)) (Ep ns κ S.length (some (.int i)) o4 o5) (S++[.lst us])=some (o,S2):=fun hb=>zh (zq (zi (a_c (e_v rfl) (a_c (e_2 e_k (e_v rfl) (add_int _ _)) a_n)) (hc _))) (zh (zq (zi (a_c (e_v rfl) (a_c (e_v rfl) a_n)) (cx _))) hb);have tst:=qk (e_2 cmp (zlq (ds:=[]) a_n (z6n _)) (z0b _));by_cases hf:us.filter (fun z=>decide (cp κ z=cc κ x))=[]
   · have hne:∀z∈us,cp κ z≠cc κ x:=fun z hz e=>by have:=z9e.mp hf z hz;exact this (z6d e)
     rw[hf]at tst;have tn:TI κ (.tup [x,.int (c%100)]):=⟨x,_,rfl,tx⟩
     obtain⟨us',o3',o4',o5',al',pw',l',ih⟩:=zch ns hn h0 h1 js (fun x hx=>hj x (z5n _ hx)) (us++[.tup [x,.int (c%100)]]) (some (.int i)) (some (.int c)) (some x) (fun z hz=>(z6e.mp hz).elim (al z) fun e=>by rw[z55.mp e];exact tn) (z75.mpr ⟨pw,z85 _ _,fun a ha b hb=>by rw[z55.mp hb];exact hne a ha⟩) (by rw[z5l];simp;omega);refine⟨us',o3',o4',o5',al',pw',by rw[z5l]at l';simp at l' ⊢;omega,zfx (step1 (z9 tst ?_)) ih⟩;have:=zdh (q:=2) (j:=S.length) (S:=S++[.lst us]) (us:=us) (v:=yn (aC (eV 5) (aC (e2 q9 (eV 4) (eK (.int 100))) aN))) (x:=.tup [x,.int (c%100)]) (ev:=Ep ns κ S.length (some (.int i)) (some (.int c)) (some x)) rfl hat (x4 (a_c (e_v rfl) (a_c (e_2 (e_v rfl) e_k (yf (by decide))) a_n)) (z5u rfl)) (by omega);simpa using this
   · have he:(us.filter fun z=>decide (cp κ z=cc κ x)).isEmpty=false:=by
       cases g:us.filter fun z=>decide (cp κ z=cc κ x) with
       |nil=>exact absurd g hf
       |cons _ _=>rfl
     rw[he]at tst;obtain⟨us',o3',o4',o5',al',pw',l',ih⟩:=zch ns hn h0 h1 js (fun x hx=>hj x (z5n _ hx)) us (some (.int i)) (some (.int c)) (some x) al pw (by omega);exact⟨us',o3',o4',o5',al',pw',by rw[List.length_cons];omega,zfx (step1 (zn tst)) ih⟩
theorem zdo:∀{l:List D},(∀d∈l,noC d=true)->noCL l=true
 | [],_=>rfl
 |x::l,h=>by unfold noCL;rw[h x (z5x ..),zdo fun y hy=>h y (z5n _ hy)];rfl
theorem zq1(ns:List Int)(hn:ns.length<=63){κ:Int}(h0:0<=κ)(h1:κ<8)(hS:SB S)(hc:noCS S=true)(ht:S[1]? = some (.tab "_law_pairs" ((("_law_pairs":Str)++".<locals>.")++"<lambda>")))(h2:1<S.length) :
   ∃ps,Al (TI κ) ps/\Srt (ltp κ) ps/\ps.length<=10/\ki [.lst (ns.map D.int),.int κ] S=some (.lst ps,S):=by
 obtain⟨c2,_,_,hc2⟩:=zap ns hn (q:=2) (by decide) (by decide);obtain⟨m,hm,em⟩:=zfu c2 (c:=10) (by decide);obtain⟨us,o3,o4,o5,al,pw,hl,lp⟩:=zch ns hn h0 h1 (S:=S) (jm 0 m) (rng (by omega)) [] none none none (fun x hx=>by cases hx) List.Pairwise.nil (by rw[zm7];simp;omega);rw[zm7]at hl;have alp:Al (TP κ) us:=fun x hx=>zt7 (al x hx);have hn2:noCS (S++[.lst us])=true:=by unfold noCS at *;rw[List.all_append,hc];show(true&&(noCL us&&true))=true;rw[zdo fun d hd=>znx (alp d hd)];rfl
 refine⟨xc (cp κ) us,zj7 al,zoc pw,by rw[(xi us).length_eq];simp at hl;omega,?_⟩;refine zot (J:=[.lst us]) hS (jh rfl (zh (zq (zpa a_n (z6n _))) (zh (zmu (n:=(m:Int)) (b:=sB) (S1:=S++[.lst []]) (e_2 (zi (a_c (e_v rfl) (a_c e_k a_n)) (hc2 _)) e_k em) (by omega) (by omega) (by rw[Int.toNat_natCast];exact lp)) (zv (zuh (us:=us) (kv:=[.int κ]) (ks:=us.map fun p=>zes κ (fs p)) (e_v rfl) ?_ ?_ (by simp at hl;omega) rfl ?_ (zqg h0 h1 alp pw)))))) (zbw (k:=0) fun x hx=>zp9 (zj7 al x hx))
 · show(match (S++[MO.lst us])[S.length]? with | some (.lst ds)=>some ds | _=>none)=some us;rw[zdu]
 · rw[z6h h2];exact ht
 · exact zj5 hn2 rfl fun x hx=>⟨znx (alp x hx),zyu h0 h1 (alp x hx).key,zzt h0 h1 (alp x hx)⟩
def tK:MO:=.tab "by_key" ((("by_key":Str)++".<locals>.")++"<lambda>")
def tV:MO:=.tab "_law_valued" ((("_law_valued":Str)++".<locals>.")++"<lambda>")
def tP:MO:=.tab "_law_pairs" ((("_law_pairs":Str)++".<locals>.")++"<lambda>")
def tD:MO:=.tab "_law_done" ((("_law_done":Str)++".<locals>.")++"<lambda>")
def tL:MO:=.tab "law" ((("law":Str)++".<locals>.")++"<lambda>")
def Tb:Sto:=[tV,tP,tK,tD,tL]
def Z(k:Nat)(n:Int)(R:Sto):Sto:=tV::tP::tK::tD::tL::wd (y4 k) n::R
theorem zsj{R:Sto}{new:List D}{T:Sto}(w:Wt k 5 (Z k n R) n new T):T=Z k (n+new.length) R:=by
 apply List.ext_getElem?;intro q
 match q with
 |0=>rw[w.ne 0 (by omega)];rfl
 |1=>rw[w.ne 1 (by omega)];rfl
 |2=>rw[w.ne 2 (by omega)];rfl
 |3=>rw[w.ne 3 (by omega)];rfl
 |4=>rw[w.ne 4 (by omega)];rfl
 |5=>exact w.at_
 |q+6=>rw[w.ne (q+6) (by omega)];rfl
structure Rk (R:Sto):Prop where
 no:R.all zwu=true
 bd:∀m∈R,zp1 (R.length+6) m=true
theorem zvf:zwu (wd (y4 k) n)=true:=by rcases Kd.eq (k:=k)with h | h<;>subst h<;>rfl
theorem Rk.noCS{R:Sto}(q:Rk R):noCS (Z k n R)=true:=by show(zwu (wd (y4 k) n)&&R.all zwu)=true;rw[q.no,zvf];rfl
theorem z1m{m:MO}(h:m∈Tb)(q:Nat):zp1 q m=true:=by simp only[Tb,z51,List.not_mem_nil,or_false]at h;rcases h with rfl | rfl | rfl | rfl | rfl<;>rfl
theorem Rk.sb{R:Sto}(q:Rk R):SB (Z k n R):=fun m hm=>by
 show zp1 (R.length+6) m=true;have hm:m∈Tb++wd (y4 k) n::R:=hm;rcases z6e.mp hm with z | z
 · exact z1m z _
 rcases z51.mp z with rfl | z
 · exact zw6 (k:=k) _ _
 · exact q.bd m z
theorem Rk.nil:Rk []:=⟨rfl,fun m hm=>by cases hm⟩
theorem zmp{s e:Nat}(hs:s<=e)(he:e<=ts.length):turn s e (turn s e ts)=ts:=by
 unfold turn;have l1:(ts.take s).length=s:=by rw[z56];omega
 have l2:(((ts.take e).drop s).reverse).length=e-s:=by rw[z62,z6k,z56];omega
 have t1:(ts.take s++((ts.take e).drop s).reverse++ts.drop e).take s=ts.take s:=by rw[z8t,z8h (by omega),z70 (by omega)]
 have t2:(ts.take s++((ts.take e).drop s).reverse++ts.drop e).take e=ts.take s++((ts.take e).drop s).reverse:=by rw[z8h (by rw[z5l];omega),z70 (by rw[z5l];omega)]
 have t3:(ts.take s++((ts.take e).drop s).reverse++ts.drop e).drop e=ts.drop e:=by rw[z7t (by rw[z5l];omega),z8j (by rw[z5l];omega),List.nil_append]
 rw[t1,t2,t3,z7t (by omega),z8j (by omega),List.nil_append,z8v];have:ts.take s++(ts.take e).drop s=ts.take e:=by have h:=z63 s (ts.take e);rw[qah,z87 hs]at h;exact h
 rw[this,z63]
theorem zqa{R:Sto}(ns:List Int)(hn:ns.length<=63)(ht:∀x∈ts,Thing k x)(hl:ts.length<=1000):∃d h n',Mk k d ts h/\kh [.lst (ns.map D.int),.obj 5,.lst ts] (Z k n R)=some (d,Z k n' R):=by
 obtain⟨c,c0,c1,hc⟩:=zap ns hn (q:=50) (by decide) (by decide);obtain⟨w,hw,ew⟩:=zfu c (c:=3) (by decide);have s1:qo 3 (e2 q9 (zm qh (aC (eV 0) (aC (eK (.int 50)) aN))) (eK (.int 3))) [some (.lst (ns.map D.int)),some (.obj 5),some (.lst ts),none,none,none,none] (Z k n R)=some (.nx [some (.lst (ns.map D.int)),some (.obj 5),some (.lst ts),some (.int w),none,none,none],Z k n R):=zq (e_2 (zi (a_c (e_v rfl) (a_c e_k a_n)) (hc _)) e_k ew);have:w=0\/w=1\/w=2:=by omega
 rcases this with rfl | rfl | rfl
 · obtain⟨d,h,new,T1,c,rr⟩:=zcj (k:=k) (i:=5) (n:=n) (P:=fun _=>True) (S:=Z k n R) rfl ht (by omega);have eT:=zsj rr.wt;subst eT;exact⟨d,h,_,rr.mm,jh rfl (zh s1 (qg (z9 (qk (e_2 (e_v rfl) e_k rfl)) (zv (zi (a_c (e_v rfl) (a_c (zvm (e_v rfl)) a_n)) c)))))⟩
 · obtain⟨d,h,new,T1,c,rr⟩:=zcj (k:=k) (i:=5) (n:=n) (P:=fun _=>True) (S:=Z k n R) (ts:=ts.reverse) rfl (zm8 ht) (by rw[z62];omega);have eT:=zsj rr.wt;subst eT;obtain⟨d',new',T2,c',rr',_⟩:=zjh (k:=k) (i:=5) (n:=n+new.length) (P:=fun _=>True) (S:=Z k (n+new.length) R) rr.mm rfl (zpv rr.mm);have eT:=zsj rr'.wt;subst eT;have mm:=rr'.mm;rw[z8v]at mm;exact⟨d',h,_,mm,jh rfl (zh s1 (zh (zn (qk (e_2 (e_v rfl) e_k rfl))) (qg (z9 (qk (e_2 (e_v rfl) e_k rfl)) (zv (j8 (e_v rfl) (qt (n:=n) rfl) (zbx _ _) (a_c (zi (a_c (e_v rfl) (a_c (zhb (e_v rfl)) a_n)) c) a_n) c'))))))⟩
 · obtain⟨c4,_,_,hc4⟩:=zap ns hn (q:=51) (by decide) (by decide);obtain⟨c5,_,_,hc5⟩:=zap ns hn (q:=52) (by decide) (by decide);obtain⟨s,hs,es⟩:=zn0 c4 ts.length;obtain⟨e,he,ee⟩:=zn0 c5 (ts.length-s);have e1:q9 (.int c5) (.int ((ts.length:Int)+1-(s:Int)))=some (.int e):=by rw[show(ts.length:Int)+1-(s:Int)=((ts.length-s:Nat):Int)+1 by omega];exact ee
   have hse:s<=s+e:=by omega
   have hel:s+e<=ts.length:=by omega
   have tt:∀z∈turn s (s+e) ts,Thing k z:=fun z hz=>ht z (by
     unfold turn at hz;rcases z6e.mp hz with q | q
     · rcases z6e.mp q with q | q
       · exact z6l q
       · exact z6l (z76 (z72.mp q))
     · exact z76 q)
   obtain⟨d,h,new,T1,c,rr⟩:=zcj (k:=k) (i:=5) (n:=n) (P:=fun _=>True) (S:=Z k n R) (ts:=turn s (s+e) ts) rfl tt (by rw[zfk hse hel];omega);have eT:=zsj rr.wt;subst eT;obtain⟨d',h',new',T2,c',rr'⟩:=zet (k:=k) (i:=5) (n:=n+new.length) (P:=fun _=>True) (S:=Z k (n+new.length) R) (s:=s) (e:=s+e) rfl rr.mm (by rw[zfk hse hel];omega) hse (by rw[zfk hse hel];exact hel) (zpv rr.mm);have eT:=zsj rr'.wt;subst eT;have mm:=rr'.mm;rw[zmp hse hel]at mm;refine⟨d',h',_,mm,jh rfl (zh s1 (zh (zn (qk (e_2 (e_v rfl) e_k rfl))) (zh (zn (qk (e_2 (e_v rfl) e_k rfl))) (zh (zq (e_2 (zi (a_c (e_v rfl) (a_c e_k a_n)) (hc4 _)) (e_2 (e_a (a_c (e_v rfl) a_n) rfl) e_k (add_int _ _)) es)) (zh (zq (d:=.int ((s+e:Nat):Int)) (e_2 (e_v rfl) (e_2 (zi (a_c (e_v rfl) (a_c e_k a_n)) (hc5 _)) (e_2 (e_2 (e_a (a_c (e_v rfl) a_n) rfl) e_k (add_int _ _)) (e_v rfl) (sub_int _ _)) e1) (add_int _ _))) (zh (zq (zhb (z1d (e_v rfl) (p_e (e_v rfl)) (p_e (e_v rfl)) (zxk hse hel)))) (zv (zi (a_c (e_v rfl) (a_c (zi (a_c (e_v rfl) (a_c (e_2 (e_2 (z1d (e_v rfl) p_n (p_e (e_v rfl)) (z1w s)) (e_v rfl) (zgt (by simp only[z56,z62,z6k];omega))) (z1d (e_v rfl) (p_e (e_v rfl)) p_n (zmz hel)) (zgt (by simp only[z5l,z56,z62,z6k];omega))) a_n)) c) (a_c (e_v rfl) (a_c (e_v rfl) a_n)))) c'))))))))⟩
end Pg
namespace Pg
open PySem L2 F Mt
variable {k:Nat}{d l r t:D}{ts lt rt:List D}{h lh rh:Nat}{S S1 S2:Sto}{ev e:Ev}
theorem zxu{u:B}{a b:R}(h:u ev S=some (true,S1)):rIf u a b ev S=a ev S1:=by simp[rIf,h]
theorem z11{c:C}{q:R}(h:c ev S=some (.nx e,S1)):zxv c q ev S=q e S1:=by simp[zxv,h]
theorem znd{g:GR}{a:As}{ds:List D}(h:a ev S=some (ds,S1)):zij g a ev S=g ds S1:=by simp[zij,h]
theorem zut{c:Str}{a:As}{ds:List D}(h:a ev S=some (ds,S1))(hl:ds.length<=16777216):zju c a ev S=some (c,S1):=by have hz:sizeLine=16777216:=z60;simp[zju,h,hz,hl]
theorem zne{N n:Nat}{q:R}{ds:List D}(hl:ds.length=n):zgp N n q ds S=q (ds.map some++List.replicate (N-ds.length) none) S:=by simp[zgp,hl]
theorem zuf{c a:C}{q:R}{cat:Str->Bool}{i:Nat}{cls:Str}(h:c ev S=none)(hr:q ev S=some (cls,S1))(hc:cat cls=true)(ha:a (ev.set i (some (.obj S1.length))) (S1++[.exc cls])=some (.nx e,S2)) :
   zxq c q cat i a ev S=some (.nx (e.set i none),S2):=by simp[zxq,h,hr,hc,ha]
theorem isx{u:Up}{j:Nat}{c:Str}{d:D}{b:Bool}(h:S[j]? = some (.exc c))(q:u.ask c d=some b):zth u S [.obj j,d]=some (.bl b):=by simp[zth,h,q]
theorem zqc{c:B}{b:C}(h:c ev S=some (true,S1)):sIf c zco b ev S=none:=by simp[sIf,h,zco]
theorem zps{N n:Nat}{c:C}{ds:List D}(h:c (ds.map some++List.replicate (N-ds.length) none) S=none):qa N n c ds S=none:=by simp[qa,h]
theorem zqj{a b:C}(h:a ev S=none):z5 a b ev S=none:=by simp[z5,h]
theorem zm3{a b:C}(h:a ev S=some (.nx e,S1))(q:b e S1=none):z5 a b ev S=none:=by simp[z5,h,q]
theorem zpd{f:E}(h:f ev S=none):zay f ev S=none:=by simp[zay,h]
theorem zjp{f:E}(h:f ev S=none):ql f ev S=none:=by simp[ql,h]
theorem zeg{g:G}{a:As}{ds:List D}(h:a ev S=some (ds,S1))(q:g ds S1=none):zm g a ev S=none:=by simp[zm,h,q]
theorem zsx{f:E}{r:R}(h:f ev S=some (d,S1)):zk9 f r ev S=r ev S1:=by simp[zk9,h]
end Pg
namespace Pg
open PySem L2 F Mt
variable {k:Nat} [Kd k] {d d0 l r t x y:D}{ts us rt:List D}{h i j g rh p:Nat}{n:Int}{S S0 S1 R:Sto}{ev:Ev}{T:D->Prop}{lt:D->D->Bool}{f:LT}{vs:List D}
theorem zsg{f:E}{g:As}(h:f ev S=none):aC f g ev S=none:=by simp[aC,h]
theorem zku{f:E}{g:As}(h:f ev S=some (d,S1))(q:g ev S1=none):aC f g ev S=none:=by simp[aC,h,q]
theorem zly{g:G}{a:As}(h:a ev S=none):zm g a ev S=none:=by simp[zm,h]
theorem zys{z:Str}(h:z.length<=8):(yo z none (some 1)).length<=1:=by
 have hi:∀n:Nat,n<=8->(Builtin.Str.strSliceIndices none (some 1) 1 n).length<=1:=fun n hn=>by
   have:n=0\/n=1\/n=2\/n=3\/n=4\/n=5\/n=6\/n=7\/n=8:=by omega
   rcases this with rfl | rfl | rfl | rfl | rfl | rfl | rfl | rfl | rfl<;>decide +kernel
 unfold yo;split
 · rename_i e;have:=hi z.length h;rw[z7x.mp e]at this;exact this
 · refine z57 ?_ (hi z.length h);show(List.filterMap _ _).toArray.size<=_;rw[z5t];exact z98 _ _
theorem zwm{κ:Int}(h0:0<=κ)(h1:κ<8)(tx:zau κ x):∃y,zau κ y/\∀S,ym [.int κ,x] S=some (y,S):=by
 have hz:sizeLine=16777216:=z60;have t:∀(c:Int) S,bE (e2 kl (eV 0) (eK (.int c))) [some (.int κ),some x] S=some (decide (κ=c),S):=fun c S=>qk (e_2 (e_v rfl) e_k (zwa _ _));by_cases q3:κ=3
 · subst q3;obtain⟨i,rfl⟩:=(show Ti x from tx)
   exact⟨_,⟨_,rfl⟩,fun S=>jh rfl (qg (z9 (t 3 S) (zv (e_2 (e_2 (e_2 (e_v rfl) e_k (zhq (by decide))) e_k (zg9 (by decide))) (e_2 (e_2 (e_v rfl) e_k (add_int _ _)) e_k (yf (by decide))) (add_int _ _)))))⟩
 by_cases q4:κ=4
 · subst q4;obtain⟨i,rfl⟩:=(show Ti x from tx)
   exact⟨_,⟨_,rfl⟩,fun S=>jh rfl (zh (zn (t 3 S)) (qg (z9 (t 4 S) (zv (e_2 e_k (e_v rfl) (sub_int _ _))))))⟩
 by_cases q7:κ=7
 · subst q7;obtain⟨z,rfl,hl⟩:=(show Tw x from tx)
   have h2:=zys hl;have e2':(Str.ofString "zz").length=2:=by rw[ofString_length];rfl
   refine⟨.str (yo z none (some 1)++Str.ofString "zz"),⟨_,rfl,by rw[Mt.str_len];omega⟩,fun S=>?_⟩;have sl:zwf (eV 1) pN (pE (eK (.int 1))) [some (.int 7),some (.str z)] S=some (.str (yo z none (some 1)),S):=by
     have h3:(yo z none (some 1)).length<=sizeLine:=by omega
     simp[zwf,eV,pN,pE,eK,zvb,h3]
   have ad:qu (.str (yo z none (some 1))) (.str (Str.ofString "zz"))=some (.str (yo z none (some 1)++Str.ofString "zz")):=by show(if(yo z none (some 1)).length+(Str.ofString "zz").length<=sizeLine then some (D.str (yo z none (some 1)++Str.ofString "zz"))else none)=_;rw[z6a (by omega)]
   exact jh rfl (zh (zn (t 3 S)) (zh (zn (t 4 S)) (qg (z9 (t 7 S) (zv (e_2 sl e_k ad))))))
 · exact⟨x,tx,fun S=>jh rfl (zh (zn ((t 3 S).trans (by rw[z5w q3]))) (zh (zn ((t 4 S).trans (by rw[z5w q4]))) (zh (zn ((t 7 S).trans (by rw[z5w q7]))) (zv (e_v rfl)))))⟩
theorem zrn(w:Sw T lt)(tx:T x)(al:Al T ts)(s:Srt lt ts):ts.filter (lt · x)=ts.take (cb lt ts x):=by
 obtain⟨h1,h2⟩:=zbi w tx al s;have e:ts.filter (lt · x)=(ts.take (cb lt ts x)).filter (lt · x)++(ts.drop (cb lt ts x)).filter (lt · x):=by rw[<-z90,z63]
 rw[e,z8f.mpr h1,z9e.mpr fun y hy=>by rw[h2 y hy];simp,z6f]
theorem zs2(B:Bf k T lt f vs)(hn:noCS S=true)(tx:T x)(s:Ste k T lt d ts h)(hl:ts.length<=2000)(g:hs lt ts x=true):q8 [d,x,.clo f vs] S=some (.int (cb lt ts x:Nat),S):=by have c1:=zdk B hn tx s hl;have c2:=zdd B hn tx s hl;rw[g]at c2;exact jh rfl (zh (zq (zi (a_c (e_v rfl) (a_c (e_v rfl) (a_c (e_v rfl) a_n))) c1)) (zh (zn (zsc (qk (zi (a_c (e_v rfl) (a_c (e_v rfl) (a_c (e_v rfl) (a_c (e_v rfl) a_n)))) c2)))) (zv (e_v rfl))))
theorem zx8(B:Bf k T lt f vs)(hn:noCS S=true)(tx:T x)(s:Ste k T lt d ts h)(hl:ts.length<=2000)(g:hs lt ts x=false):q8 [d,x,.clo f vs] S=none/\jf [d,x,.clo f vs] S=some (Str.ofString "NoThing",S):=by have c1:=zdk B hn tx s hl;have c2:=zdd B hn tx s hl;rw[g]at c2;have s1:qo 3 (zm xx (aC (eV 0) (aC (eV 1) (aC (eV 2) aN)))) [some d,some x,some (.clo f vs),none] S=some (.nx [some d,some x,some (.clo f vs),some (.int (cb lt ts x:Nat))],S):=zq (zi (a_c (e_v rfl) (a_c (e_v rfl) (a_c (e_v rfl) a_n))) c1);have t1:zcx (bE (zm qy (aC (eV 0) (aC (eV 3) (aC (eV 1) (aC (eV 2) aN)))))) [some d,some x,some (.clo f vs),some (.int (cb lt ts x:Nat))] S=some (true,S):=z5c (qk (zi (a_c (e_v rfl) (a_c (e_v rfl) (a_c (e_v rfl) (a_c (e_v rfl) a_n)))) c2));refine⟨zps (zm3 s1 (zqj (zqc t1))),?_⟩;unfold jf;rw[zne (n:=3) rfl];unfold zab;show zxv _ _ [some d,some x,some (.clo f vs),none] S=_;rw[z11 s1,zxu t1];exact zut (a_c e_k a_n) (by simp)
theorem zlt(B:Bf k T lt f vs)(q:Rk R)(tx:T x)(s:Ste k T lt d ts h)(hl:ts.length<=2000)(g:hs lt ts x=true):∃d' h' n',zb5 [.obj 5,d,x,.clo f vs] (Z k n R)=some (d',Z k n' R)/\Mk k d' (ts.eraseIdx (cb lt ts x)) h':=by have c1:=zs2 B (q.noCS (k:=k) (n:=n)) tx s hl g;obtain⟨y,hy,_⟩:=(zok B.sw tx s.al s.sr).mp g;have hp:cb lt ts x<ts.length:=(z5q.mp hy).1;obtain⟨d',h',new,T1,c,rr,few⟩:=zyk (k:=k) (i:=5) (S:=Z k n R) (n:=n) (p:=cb lt ts x) rfl s.mm hl hp (zpv s.mm);have eT:=zsj rr.wt;subst eT;exact⟨d',h',_,jh rfl (zv (zi (a_c (e_v rfl) (a_c (e_v rfl) (a_c (zi (a_c (e_v rfl) (a_c (e_v rfl) (a_c (e_v rfl) a_n))) c1) a_n))) c)),rr.mm⟩
theorem zlu(B:Bf k T lt f vs)(hn:noCS S=true)(tx:T x)(s:Ste k T lt d ts h)(hl:ts.length<=2000)(g:hs lt ts x=false):zb5 [.obj 5,d,x,.clo f vs] S=none/\zad [.obj 5,d,x,.clo f vs] S=some (Str.ofString "NoThing",S):=by
 obtain⟨c1,c2⟩:=zx8 B hn tx s hl g;constructor
 · refine zps (zjp ?_);show zm zrf (aC (eV 0) (aC (eV 1) (aC (zm q8 (aC (eV 1) (aC (eV 2) (aC (eV 3) aN)))) aN))) [some (.obj 5),some d,some x,some (.clo f vs)] S=none;exact zly (zku (e_v rfl) (zku (e_v rfl) (zsg (zeg (a_c (e_v rfl) (a_c (e_v rfl) (a_c (e_v rfl) a_n))) c1))))
 · unfold zad;rw[zne (n:=4) rfl];unfold ze3;show zk9 _ _ [some (.obj 5),some d,some x,some (.clo f vs)] S=_;rw[zsx (e_v rfl),zsx (e_v rfl),znd (a_c (e_v rfl) (a_c (e_v rfl) (a_c (e_v rfl) a_n)))];exact c2
theorem zpo(h:S[2]? = some tK)(c:D):xo [c] S=some (.clo lt_0 [c],S):=by unfold xo zvx;rw[z6a (show[c].length=1 from rfl),h];exact z6a ⟨rfl,rfl⟩
theorem zg0:yu [x] S=some (.tup [x,.non],S):=jh rfl (zv (x4 (a_c (e_v rfl) (a_c e_k a_n)) (z5u rfl)))
theorem zp7{κ:Int}(tx:zau κ x):TP κ (.tup [x,.non]):=⟨x,.non,rfl,tx,.inl rfl⟩
theorem zms{κ v:Int}(tx:zau κ x):TP κ (.tup [x,.int v]):=⟨x,_,rfl,tx,.inr ⟨v,rfl⟩⟩
theorem zmj(hk:S[2]? = some tK)(w c:D):(aC (eV 0) (aC (eV 1) (aC (zm yu (aC (eV 2) aN)) (aC (zm xo (aC (eV 3) aN)) aN)))) [some w,some d,some x,some c] S=some ([w,d,.tup [x,.non],.clo lt_0 [c]],S):=a_c (e_v rfl) (a_c (e_v rfl) (a_c (zi (a_c (e_v rfl) a_n) zg0) (a_c (zi (a_c (e_v rfl) a_n) (zpo hk _)) a_n)))
theorem zkv{κ:Int}(b:Bl f)(h0:0<=κ)(h1:κ<8)(q:Rk R)(tx:zau κ x)(s:Ste k (TP κ) (ltp κ) d ts h)(hl:ts.length<=2000)(g:hs (ltp κ) ts (.tup [x,.non])=true):∃d' h' n',za4 [.obj 5,d,x,.clo f [.int κ]] (Z k n R)=some (d',Z k n' R)/\Mk k d' (ts.eraseIdx (cb (ltp κ) ts (.tup [x,.non]))) h':=by obtain⟨d',h',n',c,m⟩:=zlt (n:=n) (zl7 b h0 h1) q (zp7 tx) s hl g;exact⟨d',h',n',jh rfl (zv (zi (zmj rfl _ _) c)),m⟩
theorem zkw{κ:Int}(b:Bl f)(h0:0<=κ)(h1:κ<8)(hk:S[2]? = some tK)(hn:noCS S=true)(tx:zau κ x)(s:Ste k (TP κ) (ltp κ) d ts h)(hl:ts.length<=2000)(g:hs (ltp κ) ts (.tup [x,.non])=false):za4 [.obj 5,d,x,.clo f [.int κ]] S=none/\zac [.obj 5,d,x,.clo f [.int κ]] S=some (Str.ofString "NoThing",S):=by
 obtain⟨c1,c2⟩:=zlu (zl7 (k:=k) b h0 h1) hn (zp7 tx) s hl g;have av:=zmj (d:=d) (x:=x) hk (.obj 5) (.clo f [.int κ]);constructor
 · exact zps (zjp (zeg av c1))
 · unfold zac;rw[zne (n:=4) rfl];unfold ze2;show zij _ _ [some (.obj 5),some d,some x,some (.clo f [.int κ])] S=_;rw[znd av];exact c2
theorem zk7{κ:Int}(b:Bl f)(h0:0<=κ)(h1:κ<8)(q:Rk R)(tx:zau κ x)(s:Ste k (TP κ) (ltp κ) d ts h)(hl:ts.length<=2000)(g:hs (ltp κ) ts (.tup [x,.non])=false):y8 [.obj 5,d,x,.clo f [.int κ]] (Z k n R)=some (.lst [.bl true,.bl true,.bl false],Z k n R):=by obtain⟨c1,c2⟩:=zkw (S:=Z k n R) b h0 h1 rfl q.noCS tx s hl g;have hx:(Z k n R++[MO.exc (Str.ofString "NoThing")])[(Z k n R).length]? = some (.exc (Str.ofString "NoThing")):=zdu _ _;refine zot (J:=[.exc (Str.ofString "NoThing")]) q.sb (jh rfl (zh (zq (zlq (ds:=[]) a_n (z6n _))) (zh (zuf (zpd (zeg (a_c (e_v rfl) (a_c (e_v rfl) (a_c (e_v rfl) (a_c (e_v rfl) a_n)))) c1)) ((znd (a_c (e_v rfl) (a_c (e_v rfl) (a_c (e_v rfl) (a_c (e_v rfl) a_n))))).trans c2) (by decide +kernel) (zh (zq (e_a (a_c (e_v rfl) (a_c (x4 (a_c e_k (a_c e_k (a_c e_k (a_c e_k (a_c e_k (a_c e_k (a_c e_k (a_c e_k (a_c e_k (a_c e_k a_n)))))))))) (z5u rfl)) a_n)) (isx hx (b:=false) (by decide +kernel)))) (zq (zlq (a_c (e_a (a_c (e_v rfl) (a_c e_k a_n)) (isx hx (b:=true) (by decide +kernel))) (a_c (e_a (a_c (e_v rfl) (a_c e_k a_n)) (isx hx (b:=true) (by decide +kernel))) (a_c (e_v rfl) a_n))) (z5u rfl))))) (zv (e_v rfl))))) rfl
theorem zia{κ:Int}(b:Bl f)(h0:0<=κ)(h1:κ<8)(tx:zau κ x)(s:Ste k (TP κ) (ltp κ) d ts h)(hl:ts.length<=2000)(hn:noCS S=true)(hk:S[2]? = some tK)(hm:y∈ts)(e:cp κ y=cc κ x)(uni:∀z∈ts,cp κ z=cp κ y->z=y):ya [d,x,.clo f [.int κ]] S=some (sn y,S):=by
 have B:=zl7 (k:=k) b h0 h1;have tp:=zp7 tx;have cx:cp κ (.tup [x,.non])=cc κ x:=rfl;have g:hs (ltp κ) ts (.tup [x,.non])=true:=hs_iff.mpr ⟨y,hm,alk_p.mpr (e.trans cx.symm)⟩;have c1:=zs2 B hn tp s hl g;obtain⟨z,hz,r⟩:=(zok B.sw tp s.al s.sr).mp g;have hd:z∈ts.drop (cb (ltp κ) ts (.tup [x,.non])):=z6b (i:=0) (by rw[z88,Nat.add_zero];exact hz);have ak:alk (ltp κ) z (.tup [x,.non]):=⟨(zbi B.sw tp s.al s.sr).2 z hd,r⟩
 have ck:=alk_p.mp ak;have ez:z=y:=uni z (z6b hz) ((ck.trans cx).trans e.symm);rw[ez]at hz;have av:(aC (eV 0) (aC (zm yu (aC (eV 1) aN)) (aC (zm xo (aC (eV 2) aN)) aN))) [some d,some x,some (.clo f [.int κ])] S=some ([d,.tup [x,.non],.clo lt_0 [.clo f [.int κ]]],S):=a_c (e_v rfl) (a_c (zi (a_c (e_v rfl) a_n) zg0) (a_c (zi (a_c (e_v rfl) a_n) (zpo hk _)) a_n));have c2:=z0s s.mm hl hz S;have e1:zm zzv (aC (eV 0) (aC (zm q8 (aC (eV 0) (aC (zm yu (aC (eV 1) aN)) (aC (zm xo (aC (eV 2) aN)) aN)))) aN)) [some d,some x,some (.clo f [.int κ])] S=some (y,S):=zi (a_c (e_v rfl) (a_c (zi av c1) a_n)) c2;obtain⟨a,v,rfl,ha,hv⟩:=s.al y hm;have e2:ya [d,x,.clo f [.int κ]] S=some (v,S):=jh rfl (zv (qm e1 e_k rfl));exact e2
theorem zmg{κ v:Int}(b:Bl f)(h0:0<=κ)(h1:κ<8)(hk:S[2]? = some tK)(hn:noCS S=true)(tx:zau κ x)(s:Ste k (TP κ) (ltp κ) d ts h)(hl:ts.length<=2000){S2:Sto}{c1 c2:C}
   (hc:sIf (bE (zm qy (aC (eV 1) (aC (eV 7) (aC (eV 5) (aC (eV 6) aN)))))) c1 ja [some (.obj 5),some d,some x,some (.int v),some (.clo f [.int κ]),some (.tup [x,.int v]),some (.clo lt_0 [.clo f [.int κ]]),some (.int (cb (ltp κ) ts (.tup [x,.int v]):Nat))] S=some (.rt d0,S2)\/z5 (sIf (bE (zm qy (aC (eV 1) (aC (eV 7) (aC (eV 5) (aC (eV 6) aN)))))) c1 ja) c2 [some (.obj 5),some d,some x,some (.int v),some (.clo f [.int κ]),some (.tup [x,.int v]),some (.clo lt_0 [.clo f [.int κ]]),some (.int (cb (ltp κ) ts (.tup [x,.int v]):Nat))] S=some (.rt d0,S2)) :
   (z5 (qo 5 (yn (aC (eV 2) (aC (eV 3) aN)))) (z5 (qo 6 (zm xo (aC (eV 4) aN))) (z5 (qo 7 (zm xx (aC (eV 1) (aC (eV 5) (aC (eV 6) aN))))) (z5 (sIf (bE (zm qy (aC (eV 1) (aC (eV 7) (aC (eV 5) (aC (eV 6) aN)))))) c1 ja) c2)))) [some (.obj 5),some d,some x,some (.int v),some (.clo f [.int κ]),none,none,none] S=some (.rt d0,S2):=by
 have cp:=zdk (zl7 (k:=k) b h0 h1) hn (zms (v:=v) tx) s hl;have last:z5 (sIf (bE (zm qy (aC (eV 1) (aC (eV 7) (aC (eV 5) (aC (eV 6) aN)))))) c1 ja) c2 [some (.obj 5),some d,some x,some (.int v),some (.clo f [.int κ]),some (.tup [x,.int v]),some (.clo lt_0 [.clo f [.int κ]]),some (.int (cb (ltp κ) ts (.tup [x,.int v]):Nat))] S=some (.rt d0,S2):=hc.elim (fun z=>qg z) id;exact zh (zq (x4 (a_c (e_v rfl) (a_c (e_v rfl) a_n)) (z5u rfl))) (zh (zq (zi (a_c (e_v rfl) a_n) (zpo hk _))) (zh (zq (zi (a_c (e_v rfl) (a_c (e_v rfl) (a_c (e_v rfl) a_n))) cp)) last))
theorem zp4{κ v:Int}(b:Bl f)(h0:0<=κ)(h1:κ<8)(q:Rk R)(tx:zau κ x)(s:Ste k (TP κ) (ltp κ) d ts h)(hl:ts.length<2000)(g:hs (ltp κ) ts (.tup [x,.int v])=false):∃d' h' n',x9 [.obj 5,d,x,.int v,.clo f [.int κ]] (Z k n R)=some (d',Z k n' R)/\Mk k d' (ts.take (cb (ltp κ) ts (.tup [x,.int v]))++.tup [x,.int v]::ts.drop (cb (ltp κ) ts (.tup [x,.int v]))) h':=by have c2:=zdd (zl7 (k:=k) b h0 h1) (q.noCS (k:=k) (n:=n)) (zms (v:=v) tx) s (by omega);rw[g]at c2;obtain⟨d',h',new,T1,c,rr,few⟩:=zx1 (k:=k) (i:=5) (S:=Z k n R) (n:=n) (p:=cb (ltp κ) ts (.tup [x,.int v])) (x:=.tup [x,.int v]) rfl s.mm hl (zwh ts _) (zp9 ⟨x,v,rfl,tx⟩) (zpv s.mm);have eT:=zsj rr.wt;subst eT;exact⟨d',h',_,jh rfl (zmg b h0 h1 rfl q.noCS tx s (by omega) (.inr (zh (zn (qk (zi (a_c (e_v rfl) (a_c (e_v rfl) (a_c (e_v rfl) (a_c (e_v rfl) a_n)))) c2))) (zv (zi (a_c (e_v rfl) (a_c (e_v rfl) (a_c (e_v rfl) (a_c (e_v rfl) a_n)))) c))))),rr.mm⟩
theorem zp3{κ v:Int}(b:Bl f)(h0:0<=κ)(h1:κ<8)(q:Rk R)(tx:zau κ x)(s:Ste k (TP κ) (ltp κ) d ts h)(hl:ts.length<=2000)(g:hs (ltp κ) ts (.tup [x,.int v])=true):∃d' h' n',x9 [.obj 5,d,x,.int v,.clo f [.int κ]] (Z k n R)=some (d',Z k n' R)/\Mk k d' (ts.set (cb (ltp κ) ts (.tup [x,.int v])) (.tup [x,.int v])) h':=by have c2:=zdd (zl7 (k:=k) b h0 h1) (q.noCS (k:=k) (n:=n)) (zms (v:=v) tx) s (by omega);rw[g]at c2;obtain⟨y,hy,_⟩:=(zok (zwt κ) (zms (v:=v) tx) s.al s.sr).mp g;have hp:=(z5q.mp hy).1;obtain⟨d',new,T1,c,rr,few⟩:=zk0 (k:=k) (i:=5) (S:=Z k n R) (n:=n) (p:=cb (ltp κ) ts (.tup [x,.int v])) (x:=.tup [x,.int v]) rfl s.mm hl hp (zp9 ⟨x,v,rfl,tx⟩) (zpv s.mm);have eT:=zsj rr.wt;subst eT;exact⟨d',h,_,jh rfl (zmg (c2:=ql (zm zre (aC (eV 0) (aC (eV 1) (aC (eV 7) (aC (eV 5) aN)))))) b h0 h1 rfl q.noCS tx s hl (.inl (z9 (qk (zi (a_c (e_v rfl) (a_c (e_v rfl) (a_c (e_v rfl) (a_c (e_v rfl) a_n)))) c2)) (zv (zi (a_c (e_v rfl) (a_c (e_v rfl) (a_c (e_v rfl) (a_c (e_v rfl) a_n)))) c))))),rr.mm⟩
theorem zny(h:Ky x):noC x=true:=by rcases h with⟨i,rfl⟩ | ⟨z,rfl,_⟩<;>rfl
theorem zgq{q:Nat}:∀{l:List D},(∀d∈l,bnd q d=true)->bndL q l=true
 | [],_=>rfl
 |x::l,h=>by unfold bndL;rw[h x (z5x ..),zgq fun y hy=>h y (z5n _ hy)];rfl
theorem zjn(h:∀x∈ts,Thing k x)(q:Nat):noC (zag k ts)=true/\bnd q (zag k ts)=true:=by
 by_cases hk:k=0
 · subst hk;rw[zdg];exact⟨rfl,rfl⟩
 · cases ts with
   |nil=>exact⟨rfl,rfl⟩
   | cons x r=>
     obtain⟨_,xs,e,_,hx⟩:=zgy hk (by simp) h;rw[e];exact⟨zdo fun z hz=>zny (hx z hz),zgq fun z hz=>by rcases hx z hz with⟨i,rfl⟩ | ⟨w,rfl,_⟩<;>rfl⟩
theorem ztb(hx:Thing k x):noC x=true:=by obtain⟨_,a,i,rfl,ha⟩:=hx;show(noC a&&true)=true;rw[zny ha];rfl
theorem zn1(m:Mk k d ts h):noC d=true:=by
 induction m with
 |non=>rfl
 | @node num a l t r lt rt lh rh ml mr ht h1 h2 i1 i2=>
   have ta:∀x∈ord a (lt++t::rt),Thing k x:=(Mk.node (num:=num) (a:=a) ml mr ht h1 h2).things;have tb:∀x∈(ord a (lt++t::rt)).reverse,Thing k x:=zm8 ta;unfold mkD;show noCL _=true;simp only[noCL,i1,i2,ztb ht,(zjn ta 0).1,(zjn tb 0).1,F.noC,z8q]
theorem zy1(m:Mk k d ts h)(q:Nat):bnd q d=true:=by
 induction m with
 |non=>rfl
 | @node num a l t r lt rt lh rh ml mr ht h1 h2 i1 i2=>
   have ta:∀x∈ord a (lt++t::rt),Thing k x:=(Mk.node (num:=num) (a:=a) ml mr ht h1 h2).things;have tb:∀x∈(ord a (lt++t::rt)).reverse,Thing k x:=zm8 ta;unfold mkD;show bndL q _=true;simp only[bndL,i1,i2,zem ht,(zjn ta q).2,(zjn tb q).2,bnd,z8q]
end Pg
namespace Pg
open PySem L2 F
noncomputable section
def z0p:C :=
 (z5 (qo 1 (e2 q9 (zm qh (aC (eV 0) (aC (eK (.int 0)) aN))) (eK (.int 8)))) (z5 (qo 2 (eK .non)) (z5 (sIf (bE (e2 kl (e2 q9 (zm qh (aC (eV 0) (aC (eK (.int 1)) aN))) (eK (.int 3))) (eK (.int 0)))) (qo 2 (zrw 4 "law" lt_4)) ja) (z5 (qo 3 (zlr "Wood" jb (aC (eV 2) aN))) (z5 (qo 4 (zm ki (aC (eV 0) (aC (eV 1) aN)))) (z5 (qo 5 (zm kh (aC (eV 0) (aC (eV 3) (aC (eV 4) aN))))) (z5 (qo 6 (zi1 (aC (yn (aC (eV 5) (aC (zeb (aC (eV 4) aN)) aN))) aN))) (z5 (zg2 7 (eK (.int 3)) (e2 qu (eK (.int 15)) (e2 q9 (zm qh (aC (eV 0) (aC (eK (.int 53)) aN))) (eK (.int 19)))) (z5 (qo 8 (zm qh (aC (eV 0) (aC (eV 7) aN)))) (z5 (qo 9 (zm jp (aC (eV 1) (aC (e2 zbj (eV 8) (eK (.int 6))) aN)))) (z5 (sIf (zsd (bE (e2 zp0 (e2 q9 (eV 8) (eK (.int 6))) (yn (aC (eK (.int 1)) (aC (eK (.int 2)) (aC (eK (.int 3)) aN)))))) (bE (e2 zgv (eV 4) (zmd aN)))) (z5 (qo 9 (e2s qb (e2s qb (eV 4) (e2 q9 (e2 zbj (eV 8) (eK (.int 6))) (eA zer (aC (eV 4) aN)))) (eK (.int 0)))) (sIf (bE (e2 kl (e2 q9 (eV 8) (eK (.int 6))) (eK (.int 2)))) (qo 9 (zm ym (aC (eV 1) (aC (eV 9) aN)))) ja)) ja) (z5 (qo 10 (zm yk (aC (eV 3) (aC (eV 5) (aC (eV 4) (aC (eV 9) (aC (e2 q9 (eV 8) (eK (.int 1000))) (aC (eV 1) (aC (e2 zp0 (e2 q9 (eV 8) (eK (.int 6))) (yn (aC (eK (.int 2)) (aC (eK (.int 5)) aN)))) aN))))))))) (z5 (sIf (bE (e2 zdm (eV 10) (eK .non))) (ql (eK (.bl false))) ja) (z5 (zxp [5,4] (eV 10)) (z5 (sIf (bOr (zcx (bE (zm (xy 40) (aC (eV 5) (aC (eV 2) aN))))) (bE (e2 zgv (zm xj (aC (eV 5) aN)) (eV 4)))) (ql (eK (.bl false))) ja) (zaz (eV 6) (yn (aC (eV 5) (aC (zeb (aC (eV 4) aN)) aN)))))))))))) (z5 (zg3 [11,12] (eV 6) (sIf (zcx (bE (zm xp (aC (eV 11) (aC (eV 12) (aC (eV 1) aN)))))) (ql (eK (.bl false))) ja)) (ql (eK (.bl true))))))))))))
def g_law:G:=qa 13 1 z0p
end
end Pg
namespace Pg
open PySem L2 F Mt
variable {k:Nat} [Kd k] {d d0 l r t x y:D}{ts us rt:List D}{h i j g rh p:Nat}{n:Int}{S S0 S1 R:Sto}{ev:Ev}{T:D->Prop}{lt:D->D->Bool}{f:LT}{vs:List D}
theorem srt_map{κ:Int}:Srt (ltp κ) ts↔(ts.map (cp κ)).Pairwise (· < ·):=by rw[z8r];exact⟨fun h=>h.imp fun q=>z7h q,fun h=>h.imp fun q=>z6d q⟩
theorem zsr{κ:Int}(s:Srt (ltp κ) ts):ts.Pairwise fun x y=>cp κ x≠cp κ y:=s.imp fun {x y} q e=>by have q:cp κ x<cp κ y:=z7h q;rw[e]at q;exact z8i _ q
theorem zw7{κ:Int}(s:Srt (ltp κ) ts){x y:D}(hx:x∈ts)(hy:y∈ts)(e:cp κ x=cp κ y):x=y:=by
 obtain⟨i,hi,rfl⟩:=z61 hx;obtain⟨j,hj,rfl⟩:=z61 hy;have q:=z7j.mp (zsr s);rcases Nat.lt_trichotomy i j with h | h | h
 · exact absurd e (q i j hi hj h)
 · subst h;rfl
 · exact absurd e.symm (q j i hj hi h)
def oth(κ:Int)(x:D)(ts:List D):List D:=ts.filter fun z=>!decide (cp κ z=cc κ x)
theorem zs6{κ:Int}{P:D}(hP:cp κ P=cc κ x)(g:hs (ltp κ) ts P=false):oth κ x ts=ts:=z8f.mpr fun z hz=>by have:¬ cp κ z=cc κ x:=fun e=>hs_no.mp g z hz (alk_p.mpr (e.trans hP.symm));rw[z5w this];rfl
theorem zs7{κ:Int}{P:D}(hP:cp κ P=cc κ x)(tP:TP κ P)(al:Al (TP κ) ts)(s:Srt (ltp κ) ts)(g:hs (ltp κ) ts P=true):∃(hp:cb (ltp κ) ts P<ts.length),cp κ ts[cb (ltp κ) ts P]=cc κ x/\oth κ x ts=ts.take (cb (ltp κ) ts P)++ts.drop (cb (ltp κ) ts P+1):=by
 obtain⟨y,hy,r⟩:=(zok (zwt κ) tP al s).mp g;obtain⟨hp,ey⟩:=z5q.mp hy;have hd:y∈ts.drop (cb (ltp κ) ts P):=z6b (i:=0) (by rw[z88,Nat.add_zero];exact hy);have ak:alk (ltp κ) y P:=⟨(zbi (zwt κ) tP al s).2 y hd,r⟩
 have ck:=(alk_p.mp ak).trans hP;rw[<-ey]at ck;refine⟨hp,ck,?_⟩;generalize cb (ltp κ) ts P=p at hp ck;have q:=z7j.mp (zsr s);have e:ts=ts.take p++ts[p]::ts.drop (p+1):=by rw[<-z67 hp,z63]
 have e1:(ts.take p).filter (fun z=>!decide (cp κ z=cc κ x))=ts.take p:=z8f.mpr fun z hz=>by obtain⟨i,hi,rfl⟩:=z61 hz;rw[z56]at hi;rw[z9h];have:=q i p (by omega) hp (by omega);rw[z5w (fun z=>this (z.trans ck.symm))];rfl
 have e2:(ts.drop (p+1)).filter (fun z=>!decide (cp κ z=cc κ x))=ts.drop (p+1):=z8f.mpr fun z hz=>by obtain⟨i,hi,rfl⟩:=z61 hz;rw[z6k]at hi;rw[z96];have:=q p (p+1+i) hp (by omega) (by omega);rw[z5w (fun z=>this (ck.trans z.symm))];rfl
 have e3:(ts.take p++ts[p]::ts.drop (p+1)).filter (fun z=>!decide (cp κ z=cc κ x))=ts.take p++ts.drop (p+1):=by rw[z90,z89 (by rw[z6d ck];simp),e1,e2]
 rw[<-e]at e3;exact e3
theorem znr{κ:Int}{P:D}(hP:cp κ P=cc κ x)(tP:TP κ P)(al:Al (TP κ) ts)(s:Srt (ltp κ) ts):(oth κ x ts).filter (fun z=>ltk κ (fs z) x)=ts.take (cb (ltp κ) ts P):=by
 rw[<-zrn (zwt κ) tP al s];unfold oth;rw[List.filter_filter];refine List.filter_congr fun z hz=>?_;have e:ltk κ (fs z) x=ltp κ z P:=by show decide (cp κ z<cc κ x)=decide (cp κ z<cp κ P);rw[hP]
 rw[e];cases q:ltp κ z P with
 |false=>rfl
 | true=>
   have q:cp κ z<cp κ P:=z7h q;have:¬ cp κ z=cc κ x:=fun e=>by rw[e,<-hP]at q;exact z8i _ q
   rw[z5w this];rfl
def nT:B:=(bE (e2 zgv (zm qi (aC (eV 1) (aC (e2s qb (eV 0) (eK (.int 0))) aN))) (zm qi (aC (eV 1) (aC (eV 2) aN)))))
theorem z2f{κ:Int}(h0:0<=κ)(h1:κ<8)(ty:TP κ y)(tx:zau κ x):nT [some y,some (.int κ),some x] S=some (!decide (cp κ y=cc κ x),S):=by
 obtain⟨a,v,rfl,ha,hv⟩:=ty;have ne:zgv (zes κ a) (zes κ x)=some (.bl !decide (cc κ a=cc κ x)):=by obtain⟨c,e1,e2⟩:=zah (zte h0 h1 ha tx);have e2:c=decide (cc κ a=cc κ x):=D.bl.inj e2.symm |>.symm;unfold zgv;rw[e1,e2];rfl
 exact qk (e_2 (zi (a_c (e_v rfl) (a_c (qm (e_v rfl) e_k rfl) a_n)) (zdw h0 h1 ha)) (zi (a_c (e_v rfl) (a_c (e_v rfl) a_n)) (zdw h0 h1 tx)) ne)
def Ed(d:D)(ts:List D)(x:D)(v κ:Int)(b:Bool)(cl:zLA)(o8 o9:Option D):Ev:=[some (.obj 5),some d,some (.lst ts),some x,some (.int v),some (.int κ),some (.bl b),some (.lam { lt_1 with cl:=cl }),o8,o9]
theorem zxd{κ:Int}(s:Ste k (TP κ) (ltp κ) d ts h):Al (TI κ) ts:=fun x hx=>by obtain⟨a,v,rfl,ha,hv⟩:=s.al x hx;obtain⟨_,b,i,e,_⟩:=s.mm.things _ hx;injection e with e;injection e with e1 e2;injection e2 with e2 _;exact⟨a,i,by rw[e2],ha⟩
theorem zwg{κ v:Int}(h0:0<=κ)(h1:κ<8)(q:Rk R)(s:Ste k (TP κ) (ltp κ) d ts h)(hl:ts.length<2000)(tx:zau κ x)(b:Bool):∃d' ts' h' n',yk [.obj 5,d,.lst ts,x,.int v,.int κ,.bl b] (Z k n R)=some (.tup [d',.lst ts'],Z k n' R)/\Ste k (TP κ) (ltp κ) d' ts' h'/\ts'.length<=ts.length+1:=by
 have l1:∀{cl},qo 7 (zrw 3 "_law_done" { lt_1 with cl:=cl }) [some (.obj 5),some d,some (.lst ts),some x,some (.int v),some (.int κ),some (.bl b),none,none,none] (Z k n R)=some (.nx (Ed d ts x v κ b cl none none),Z k n R):=zq (zvn (y:="_law_done") rfl rfl);have rst:∀{cl},qo 8 (xr [5,3] (zmc (eV 2)) nT (eV 0)) (Ed d ts x v κ b cl none none) (Z k n R)=some (.nx (Ed d ts x v κ b cl (some (.lst (oth κ x ts))) none),Z k n R):=zq (zty (p:=fun z=>!decide (cp κ z=cc κ x)) (e_v rfl) fun z hz=>z2f h0 h1 (s.al z hz) tx);have tN:=zp7 tx;have tV:=zms (v:=v) tx;cases b with
 | true=>
   cases g:hs (ltp κ) ts (.tup [x,.non]) with
   | false=>
     have eo:=zs6 (x:=x) (P:=.tup [x,.non]) rfl g;have cr:=zk7 (n:=n) bl1 h0 h1 q tx s (by omega) g;rw[eo]at rst;refine⟨d,ts,h,n,zrh fun cl=>?_,s,by omega⟩;exact jh rfl (zh l1 (zh rst (qg (z9 (zen (qk (e_v rfl)) (qk (e_2 (e_a (a_c (e_v rfl) a_n) rfl) (e_a (a_c (e_v rfl) a_n) rfl) (zwc rfl)))) (zh (zn (qk (e_2 (zgg (a_c (e_v rfl) (a_c (e_v rfl) (a_c (e_v rfl) a_n))) rfl rfl cr rfl q.noCS) (zlq (a_c e_k (a_c e_k (a_c e_k a_n))) (z5u rfl)) rfl))) (zv (x4 (a_c (e_v rfl) (a_c (e_v rfl) a_n)) (z5u rfl))))))))
   | true=>
     obtain⟨hp,ck,eo⟩:=zs7 (x:=x) (P:=.tup [x,.non]) rfl tN s.al s.sr g;obtain⟨d',h',n',cd,m'⟩:=zkv (n:=n) bl1 h0 h1 q tx s (by omega) g;have eE:ts.eraseIdx (cb (ltp κ) ts (.tup [x,.non]))=oth κ x ts:=by rw[eo,List.eraseIdx_eq_take_drop_succ]
     rw[eE]at m';have lo:(oth κ x ts).length+1=ts.length:=by rw[eo,z5l,z56,z6k];omega
     have sub:∀z∈oth κ x ts,z∈ts:=fun z hz=>(z9s.mp hz).1;refine⟨d',oth κ x ts,h',n',zrh fun cl=>?_,⟨m',fun z hz=>s.al z (sub z hz),List.Pairwise.filter _ s.sr⟩,by omega⟩;have nle:kl (.int ((oth κ x ts).length:Int)) (.int (ts.length:Int))=some (.bl false):=(zwa _ _).trans (by rw[z5w (by omega)]);exact jh rfl (zh l1 (zh rst (zh (zn (zen (qk (e_v rfl)) (qk (e_2 (e_a (a_c (e_v rfl) a_n) rfl) (e_a (a_c (e_v rfl) a_n) rfl) nle)))) (qg (z9 (qk (e_v rfl)) (zv (x4 (a_c (zgg (a_c (e_v rfl) (a_c (e_v rfl) (a_c (e_v rfl) a_n))) rfl rfl cd (zn1 m') q.noCS) (a_c (e_v rfl) a_n)) (z5u rfl))))))))
 | false=>
   have key:∃d' h' n',x9 [.obj 5,d,x,.int v,.clo lt_1 [.int κ]] (Z k n R)=some (d',Z k n' R)/\Ste k (TP κ) (ltp κ) d' (ts.take (cb (ltp κ) ts (.tup [x,.int v]))++.tup [x,.int v]::(oth κ x ts).drop (cb (ltp κ) ts (.tup [x,.int v]))) h'/\cb (ltp κ) ts (.tup [x,.int v])<=(oth κ x ts).length:=by
     cases g:hs (ltp κ) ts (.tup [x,.int v]) with
     | false=>
       have eo:=zs6 (x:=x) (P:=.tup [x,.int v]) rfl g;obtain⟨d',h',n',c,m'⟩:=zp4 (n:=n) bl1 h0 h1 q tx s hl g;rw[eo];refine⟨d',h',n',c,⟨m',fun z hz=>?_,zuw (zwt κ) tV s.al s.sr g⟩,zwh ts _⟩;rcases z6e.mp hz with w | w
       · exact s.al z (z6l w)
       · rcases z51.mp w with rfl | w
         · exact tV
         · exact s.al z (z76 w)
     | true=>
       obtain⟨hp,ck,eo⟩:=zs7 (x:=x) (P:=.tup [x,.int v]) rfl tV s.al s.sr g;obtain⟨d',h',n',c,m'⟩:=zp3 (n:=n) bl1 h0 h1 q tx s (by omega) g;generalize cb (ltp κ) ts (.tup [x,.int v])=p at *;have lt':(ts.take p).length=p:=by rw[z56];omega
       have ed:(oth κ x ts).drop p=ts.drop (p+1):=by rw[eo,z7t (by omega),z8j (by omega),List.nil_append]
       have es:ts.set p (.tup [x,.int v])=ts.take p++.tup [x,.int v]::ts.drop (p+1):=by rw[List.set_eq_take_append_cons_drop,z6a hp]
       rw[es]at m';rw[ed];refine⟨d',h',n',c,⟨m',fun z hz=>?_,?_⟩,by rw[eo,z5l,lt'];omega⟩
       · rcases z6e.mp hz with w | w
         · exact s.al z (z6l w)
         · rcases z51.mp w with rfl | w
           · exact tV
           · exact s.al z (z76 w)
       · refine srt_map.mpr ?_;have e0:ts=ts.take p++ts[p]::ts.drop (p+1):=by rw[<-z67 hp,z63]
         have e1:(ts.take p++.tup [x,.int v]::ts.drop (p+1)).map (cp κ)=ts.map (cp κ):=by
           conv=>rhs;rw[e0]
           rw[List.map_append,List.map_append,z5v,z5v,ck];rfl
         rw[e1];exact srt_map.mp s.sr
   obtain⟨d',h',n',cw,s',lp⟩:=key;have eA:=znr (x:=x) (P:=.tup [x,.int v]) rfl tV s.al s.sr;have lo:(oth κ x ts).length<=ts.length:=List.length_filter_le ..;have pl:=zwh (lt:=ltp κ) ts (.tup [x,.int v]);generalize cb (ltp κ) ts (.tup [x,.int v])=p at *;have lt':(ts.take p).length=p:=by rw[z56];omega
   refine⟨d',_,h',n',zrh fun cl=>?_,s',by rw[z5l,lt',List.length_cons,z6k];omega⟩;have ahd:zls [5] (fun kv=>xr [7,3] (zmc (eV 8)) (bE (zfe zwx 1 lt_1 cl kv (aC (e2s qb (eV 0) (eK (.int 0))) (aC (eV 2) aN)))) (eV 0)) (Ed d ts x v κ false cl (some (.lst (oth κ x ts))) none) (Z k n R)=some (.lst (ts.take p),Z k n R):=by rw[<-eA];refine z0m (kv:=[.int κ]) rfl rfl (zty (p:=fun z=>ltk κ (fs z) x) (e_v rfl) fun z hz=>?_);obtain⟨a,w,rfl,ha,hw⟩:=s.al z (z9s.mp hz).1;refine qk (zwi (ds:=[a,x]) rfl (a_c (qm (e_v rfl) e_k rfl) (a_c (e_v rfl) a_n)) ?_ rfl (zoo h0 h1 ha tx) rfl q.noCS);rw[q.noCS];simp only[noCL,ze4 ha,ze4 tx,noC,z8q]
   have ad:qu (.lst (ts.take p++[.tup [x,.int v]])) (.lst ((oth κ x ts).drop p))=some (.lst (ts.take p++.tup [x,.int v]::(oth κ x ts).drop p)):=by rw[zgt (by simp only[z5l,z56,z6k,List.length_cons,List.length_nil];omega)];simp
   exact jh rfl (zh l1 (zh rst (zh (zn (zpt (qk (e_v rfl)))) (zh (zn (qk (e_v rfl))) (zh (zq ahd) (zv (x4 (a_c (zgg (a_c (e_v rfl) (a_c (e_v rfl) (a_c (e_v rfl) (a_c (e_v rfl) a_n)))) rfl rfl cw (zn1 s'.mm) q.noCS) (a_c (e_2 (e_2 (e_v rfl) (zlq (a_c (x4 (a_c (e_v rfl) (a_c (e_v rfl) a_n)) (z5u rfl)) a_n) (z5u rfl)) (zgt (by rw[lt'];simp;omega))) (z1d (e_v rfl) (p_e (e_a (a_c (e_v rfl) a_n) (show zer _ [.lst (ts.take p)]=some (.int (p:Nat)) by show some (D.int ((ts.take p).length:Int))=_;rw[lt']))) p_n (zmz lp)) ad) a_n)) (z5u rfl))))))))
def vB(cl:zLA):C:=(sIf (bE (e2 zgv (zcc ya (aC (eV 0) (aC (eV 4) aN)) 3 lt_3 cl [2]) (eV 5))) (ql (eK (.bl false))) ja)
theorem zsk{κ:Int}{cl:zLA}(h0:0<=κ)(h1:κ<8)(q:Rk R)(s:Ste k (TP κ) (ltp κ) d ts h)(hl:ts.length<=2000):∀(l:List D),(∀z∈l,z∈ts)->∀o4 o5,∃o4' o5',zcp [4,5] (vB cl) l [some d,some (.lst ts),some (.int κ),some (.lam { lt_3 with cl:=cl }),o4,o5] (Z k n R)=some (.nx [some d,some (.lst ts),some (.int κ),some (.lam { lt_3 with cl:=cl }),o4',o5'],Z k n R)
 | [],_,o4,o5=>⟨o4,o5,rfl⟩
 | z::l,hz,o4,o5=>by have mz:=hz z (z5x ..);obtain⟨a,i,rfl,ha⟩:=zxd s z mz;obtain⟨p4,p5,ih⟩:=zsk h0 h1 q s hl l (fun w hw=>hz w (z5n _ hw)) (some a) (some (.int i));have cv:ya [d,a,.clo lt_3 [.int κ]] (Z k n R)=some (.int i,Z k n R):=zia (S:=Z k n R) bl3 h0 h1 ha s hl q.noCS rfl mz rfl fun w hw e=>zw7 s.sr hw mz e;have c:vB cl [some d,some (.lst ts),some (.int κ),some (.lam { lt_3 with cl:=cl }),some a,some (.int i)] (Z k n R)=some (.nx [some d,some (.lst ts),some (.int κ),some (.lam { lt_3 with cl:=cl }),some a,some (.int i)],Z k n R):=zn (qk (e_2 (zgg (a_c (e_v rfl) (a_c (e_v rfl) a_n)) rfl rfl cv rfl q.noCS) (e_v rfl) (zyv rfl)));refine⟨p4,p5,?_⟩;unfold zcp;show(vB cl [some d,some (.lst ts),some (.int κ),some (.lam { lt_3 with cl:=cl }),some a,some (.int i)] (Z k n R)).bind _=_;rw[c];exact ih
theorem zqf{is:List Nat}{f:E}{b:C}{ds:List D}{o:Out}{S2:Sto}(h:f ev S=some (.lst ds,S1))(q:zcp is b ds ev S1=some (o,S2)):zjo is f b ev S=some (o,S2):=by simp only[zjo,h,Option.bind_some,q]
theorem zml{κ:Int}(h0:0<=κ)(h1:κ<8)(q:Rk R)(s:Ste k (TP κ) (ltp κ) d ts h)(hl:ts.length<=2000):xp [d,.lst ts,.int κ] (Z k n R)=some (.bl true,Z k n R):=by refine zrh fun cl=>?_;obtain⟨o4,o5,lp⟩:=zsk (n:=n) (cl:=cl) h0 h1 q s hl ts (fun z hz=>hz) none none;exact jh rfl (zh (zq (zvn (y:="_law_valued") rfl rfl)) (zh (zqf (b:=vB cl) (e_v rfl) lp) (zv (e_2 (zi (a_c (e_v rfl) a_n) (zcn s.mm hl q.sb)) (e_v rfl) (zwc (zik (by decide) (zs3 s.mm.things)))))))
def Kp(k:Nat)[Kd k](κ:Int)(ks:List D):Prop:=∀e∈ks,∃d ts h,e=.tup [d,.lst ts]/\Ste k (TP κ) (ltp κ) d ts h/\ts.length<=2000
theorem Kp.rk{κ:Int}{ks:List D}(hm:Kp k κ ks):Rk [.lst ks]:=by
 refine⟨?_,fun m hq=>?_⟩
 · show(noCL ks&&true)=true;rw[zdo fun e he=>?_];rfl;obtain⟨d,ts,h,rfl,s,_⟩:=hm e he;show(noC d&&(noCL ts&&true))=true;rw[zn1 s.mm,zdo fun x hx=>ztb (s.mm.things x hx)];rfl
 · rw[z55.mp hq];refine zgq fun e he=>?_;obtain⟨d,ts,h,rfl,s,_⟩:=hm e he;show(bnd _ d&&(bndL _ ts&&true))=true;rw[zy1 s.mm,zgq fun x hx=>zem (s.mm.things x hx)];rfl
theorem Kp.app{κ:Int}{ks:List D}(hm:Kp k κ ks)(s:Ste k (TP κ) (ltp κ) d ts h)(hl:ts.length<=2000):Kp k κ (ks++[.tup [d,.lst ts]]):=fun e he=>(z6e.mp he).elim (hm e) fun z=>⟨d,ts,h,z55.mp z,s,hl⟩
theorem zn6{f:E}(h:f ev S=some (.lst ts,S1)):zeb (aC f aN) ev S=some (.lst ts,S1):=by simp[zeb,aC,aN,h]
def El(ns:List Int)(κ:Int)(k:Nat)[Kd k](ts:List D)(d:D)(o7 o8 o9 o10 o11 o12:Option D):Ev:=[some (.lst (ns.map D.int)),some (.int κ),some (y4 k),some (.obj 5),some (.lst ts),some d,some (.obj 6),o7,o8,o9,o10,o11,o12]
def mC:C:=(sIf (zsd (bE (e2 zp0 (e2 q9 (eV 8) (eK (.int 6))) (yn (aC (eK (.int 1)) (aC (eK (.int 2)) (aC (eK (.int 3)) aN)))))) (bE (e2 zgv (eV 4) (zmd aN)))) (z5 (qo 9 (e2s qb (e2s qb (eV 4) (e2 q9 (e2 zbj (eV 8) (eK (.int 6))) (eA zer (aC (eV 4) aN)))) (eK (.int 0)))) (sIf (bE (e2 kl (e2 q9 (eV 8) (eK (.int 6))) (eK (.int 2)))) (qo 9 (zm ym (aC (eV 1) (aC (eV 9) aN)))) ja)) ja)
def oB:C:=(z5 (qo 8 (zm qh (aC (eV 0) (aC (eV 7) aN)))) (z5 (qo 9 (zm jp (aC (eV 1) (aC (e2 zbj (eV 8) (eK (.int 6))) aN)))) (z5 mC (z5 (qo 10 (zm yk (aC (eV 3) (aC (eV 5) (aC (eV 4) (aC (eV 9) (aC (e2 q9 (eV 8) (eK (.int 1000))) (aC (eV 1) (aC (e2 zp0 (e2 q9 (eV 8) (eK (.int 6))) (yn (aC (eK (.int 2)) (aC (eK (.int 5)) aN)))) aN))))))))) (z5 (sIf (bE (e2 zdm (eV 10) (eK .non))) (ql (eK (.bl false))) ja) (z5 (zxp [5,4] (eV 10)) (z5 (sIf (bOr (zcx (bE (zm (xy 40) (aC (eV 5) (aC (eV 2) aN))))) (bE (e2 zgv (zm xj (aC (eV 5) aN)) (eV 4)))) (ql (eK (.bl false))) ja) (zaz (eV 6) (yn (aC (eV 5) (aC (zeb (aC (eV 4) aN)) aN)))))))))))
theorem zzp(c:Int)(ds:List Int):∃b:Bool,zp0 (.int c) (.tup (ds.map D.int))=some (.bl b):=by
 have e:∀l:List Int,zlo (l.map D.int)=some (l.map V.int):=fun l=>by
   induction l with
   |nil=>rfl
   |cons a l ih=>rw[z5v,z5v];unfold zlo;rw[ih];rfl
 refine⟨inV (.int c) (ds.map V.int),?_⟩;show(match zcz (.int c),zlo (ds.map D.int)with | some x,some xs=>some (D.bl (inV x xs)) | _,_=>none)=_;rw[e];rfl
theorem zvi(ns:List Int){κ c:Int}(h0:0<=κ)(h1:κ<8)(tx:zau κ x)(s:Ste k (TP κ) (ltp κ) d ts h)(o7 o10 o11 o12:Option D):∃y,zau κ y/\mC (El ns κ k ts d o7 (some (.int c)) (some x) o10 o11 o12) S=some (.nx (El ns κ k ts d o7 (some (.int c)) (some y) o10 o11 o12),S):=by
 obtain⟨b,hb⟩:=zzp (c%6) [1,2,3];have t1:∀S:Sto,bE (e2 zp0 (e2 q9 (eV 8) (eK (.int 6))) (yn (aC (eK (.int 1)) (aC (eK (.int 2)) (aC (eK (.int 3)) aN))))) (El ns κ k ts d o7 (some (.int c)) (some x) o10 o11 o12) S=some (b,S):=fun S=>qk (e_2 (e_2 (e_v rfl) e_k (yf (by decide))) (x4 (a_c e_k (a_c e_k (a_c e_k a_n))) (z5u rfl)) hb);have t2:bE (e2 zgv (eV 4) (zmd aN)) (El ns κ k ts d o7 (some (.int c)) (some x) o10 o11 o12) S=some (!ts.isEmpty,S):=qk (e_2 (e_v rfl) (zlq (ds:=[]) a_n (z6n _)) (zyx _));cases b with
 |false=>exact⟨x,tx,zn (zpt (t1 S))⟩
 | true=>
   by_cases e:ts=[]
   · refine⟨x,tx,zn (zen (t1 S) (t2.trans ?_))⟩;rw[e];rfl
   · have he:ts.isEmpty=false:=by cases ts with | nil=>exact absurd rfl e | cons _ _=>rfl
     rw[he]at t2;have hp:0<ts.length:=z69.mpr e;obtain⟨p,hp2,ep⟩:=zfu (c/6) (c:=ts.length) hp;obtain⟨a,v,ea,ha,hv⟩:=s.al _ (z9n hp2);have st9:qo 9 (e2s qb (e2s qb (eV 4) (e2 q9 (e2 zbj (eV 8) (eK (.int 6))) (eA zer (aC (eV 4) aN)))) (eK (.int 0))) (El ns κ k ts d o7 (some (.int c)) (some x) o10 o11 o12) S=some (.nx (El ns κ k ts d o7 (some (.int c)) (some a) o10 o11 o12),S):=zq (qm (qm (e_v rfl) (e_2 (e_2 (e_v rfl) e_k (zhq (by decide))) (e_a (a_c (e_v rfl) a_n) rfl) ep) (zgr (z5s hp2))) e_k (by rw[ea];rfl));by_cases c2:c%6=2
     · obtain⟨y,ty,cy⟩:=zwm h0 h1 ha;exact⟨y,ty,z9 (zen (t1 S) t2) (zh st9 (z9 (qk (e_2 (e_2 (e_v rfl) e_k (yf (by decide))) e_k ((zwa _ _).trans (by rw[z6d c2])))) (zq (zi (a_c (e_v rfl) (a_c (e_v rfl) a_n)) (cy _)))))⟩
     · exact⟨a,ha,z9 (zen (t1 S) t2) (zh st9 (zn (qk (e_2 (e_2 (e_v rfl) e_k (yf (by decide))) e_k ((zwa _ _).trans (by rw[z5w c2]))))))⟩
theorem turn_ok(ns:List Int)(hn:ns.length<=63){κ:Int}(h0:0<=κ)(h1:κ<8){i:Int}(i0:0<=i)(i1:i<10000){ks:List D}(hm:Kp k κ ks)(lk:ks.length<1000)(s:Ste k (TP κ) (ltp κ) d ts h)(hl:ts.length<1000)(o8 o9 o10:Option D) :
   ∃d' ts' h' n' o8' o9' o10',Ste k (TP κ) (ltp κ) d' ts' h'/\ts'.length<=ts.length+1/\Kp k κ (ks++[.tup [d',.lst ts']])/\oB (El ns κ k ts d (some (.int i)) o8 o9 o10 none none) (Z k n [.lst ks])=some (.nx (El ns κ k ts' d' (some (.int i)) o8' o9' o10' none none),Z k n' [.lst (ks++[.tup [d',.lst ts']])]):=by
 obtain⟨c,c0,c1,hc⟩:=zap ns hn (q:=i) i0 (by omega);obtain⟨x0,tx0,cx⟩:=zjj h0 h1 (c/6) (by omega) (by omega);obtain⟨x,tx,s3⟩:=zvi (S:=Z k n [.lst ks]) ns (c:=c) h0 h1 tx0 s (some (.int i)) o10 none none;obtain⟨b,hb⟩:=zzp (c%6) [2,5];obtain⟨d',ts',h',n',cd,s',l'⟩:=zwg (n:=n) (v:=c%1000) h0 h1 hm.rk s (by omega) tx b;have km:=hm.app s' (by omega);have ir:xy 40 [d',y4 k] (Z k n' [.lst ks])=some (.bl true,Z k n' [.lst ks]):=zis s'.mm (n:=40) (by have:=h15 s'.mm (by omega);omega) (by omega) _;refine⟨d',ts',h',n',some (.int c),some x,some (.tup [d',.lst ts']),s',l',km,?_⟩;refine zh (zq (zi (a_c (e_v rfl) (a_c (e_v rfl) a_n)) (hc _))) (zh (zq (zi (a_c (e_v rfl) (a_c (e_2 (e_v rfl) e_k (zhq (by decide))) a_n)) (cx _))) (zh s3 (zh (zq (zi (a_c (e_v rfl) (a_c (e_v rfl) (a_c (e_v rfl) (a_c (e_v rfl) (a_c (e_2 (e_v rfl) e_k (yf (by decide))) (a_c (e_v rfl) (a_c (e_2 (e_2 (e_v rfl) e_k (yf (by decide))) (x4 (a_c e_k (a_c e_k a_n)) (z5u rfl)) hb) a_n))))))) cd)) (zh (zn (qk (e_2 (e_v rfl) e_k (zhf _)))) (zh (zue (e_v rfl)) (zh (zn (z0r (zsc (qk (zi (a_c (e_v rfl) (a_c (e_v rfl) a_n)) ir))) (qk (e_2 (zi (a_c (e_v rfl) a_n) (zcn s'.mm (by omega) hm.rk.sb)) (e_v rfl) (zyv (zik (by decide) (zs3 s'.mm.things))))))) ?_))))));exact zdh (j:=6) (us:=ks) (S:=Z k n' [.lst ks]) rfl rfl (x4 (a_c (e_v rfl) (a_c (zn6 (e_v rfl)) a_n)) (z5u rfl)) (by omega)
theorem zn4(ns:List Int)(hn:ns.length<=63){κ:Int}(h0:0<=κ)(h1:κ<8):∀(js:List D),(∀x∈js,∃i:Int,x=.int i/\0<=i/\i<10000)->∀{n:Int}{d:D}{ts ks:List D}{h:Nat} (o7 o8 o9 o10:Option D),Kp k κ ks->Ste k (TP κ) (ltp κ) d ts h->ks.length+js.length<1000->ts.length+js.length<1000 ->
   ∃d' ts' n' ks' o7' o8' o9' o10',Kp k κ ks'/\zbq 7 oB js (El ns κ k ts d o7 o8 o9 o10 none none) (Z k n [.lst ks])=some (.nx (El ns κ k ts' d' o7' o8' o9' o10' none none),Z k n' [.lst ks'])
 | [],_,n,d,ts,ks,h,o7,o8,o9,o10,hm,s,_,_=>⟨d,ts,n,ks,o7,o8,o9,o10,hm,rfl⟩
 | jj::js,hj,n,d,ts,ks,h,o7,o8,o9,o10,hm,s,lk,lt'=>by obtain⟨i,rfl,i0,i1⟩:=hj jj (z5x ..);rw[List.length_cons]at lk lt';obtain⟨d1,ts1,h1',n1,a8,a9,a10,s1,l1,km,c1⟩:=turn_ok (n:=n) ns hn h0 h1 i0 i1 hm (by omega) s (by omega) o8 o9 o10;obtain⟨d2,ts2,n2,ks2,b7,b8,b9,b10,km2,ih⟩:=zn4 ns hn h0 h1 js (fun x hx=>hj x (z5n _ hx)) (n:=n1) (some (.int i)) a8 a9 a10 km s1 (by simp;omega) (by omega);exact⟨d2,ts2,n2,ks2,b7,b8,b9,b10,km2,zfx c1 ih⟩
def kB:C:=(sIf (zcx (bE (zm xp (aC (eV 11) (aC (eV 12) (aC (eV 1) aN)))))) (ql (eK (.bl false))) ja)
theorem zob{ks:List D}{ns:List Int}{κ:Int}(h0:0<=κ)(h1:κ<8)(hm:Kp k κ ks):∀(q j:Nat),ks.length-j<q->∀(o7 o8 o9 o10 o11 o12:Option D),∃o11' o12',zbo 6 [11,12] kB q j (El ns κ k ts d o7 o8 o9 o10 o11 o12) (Z k n [.lst ks])=some (.nx (El ns κ k ts d o7 o8 o9 o10 o11' o12'),Z k n [.lst ks])
 |0,j,hq,_,_,_,_,_,_=>absurd hq (z8a _)
 | q+1,j,hq,o7,o8,o9,o10,o11,o12=>by
   have hk:(Z k n [.lst ks])[6]? = some (.lst ks):=rfl;by_cases hj:j<ks.length
   · obtain⟨e,us,h,ee,s,ll⟩:=hm ks[j] (z9n hj);obtain⟨p11,p12,ih⟩:=zob h0 h1 hm q (j+1) (by omega) o7 o8 o9 o10 (some e) (some (.lst us));refine⟨p11,p12,?_⟩;unfold zbo;simp only[hk,z5s hj,ee];show(kB (El ns κ k ts d o7 o8 o9 o10 (some e) (some (.lst us))) (Z k n [.lst ks])).bind _=_;have c:kB (El ns κ k ts d o7 o8 o9 o10 (some e) (some (.lst us))) (Z k n [.lst ks])=some (.nx (El ns κ k ts d o7 o8 o9 o10 (some e) (some (.lst us))),Z k n [.lst ks]):=zn (zsc (qk (zi (a_c (e_v rfl) (a_c (e_v rfl) (a_c (e_v rfl) a_n))) (zml h0 h1 hm.rk s ll))));rw[c];exact ih
   · refine⟨o11,o12,?_⟩;unfold zbo;simp only[hk,List.getElem?_eq_none (z79.mp hj)]
theorem zqe{is:List Nat}{f:E}{b:C}{a:Nat}{ds:List D}{o':Out}{S2:Sto}(h:f ev S=some (.obj a,S1))(ha:S1[a]? = some (.lst ds))(q:zbo a is b (ds.length+1) 0 ev S1=some (o',S2)):zg3 is f b ev S=some (o',S2):=by simp only[zg3,h,Option.bind_some,ha,q]
theorem zqd{i:Nat}{f g:E}{b:C}{a c:Int}{o:Out}{S2:Sto}(h:f ev S=some (.int a,S))(h':g ev S=some (.int c,S))(a0:0<=a)(a1:a<1000)(c0:0<=c)(c1:c<1000)(q:zbq i b (jm a (c-a).toNat) ev S=some (o,S2)):zg2 i f g b ev S=some (o,S2):=by
 have cnd:-(2^62)<=a/\a<2^62/\-(2^62)<=c/\c<2^62:=by omega
 simp only[zg2,h,h',Option.bind_some,z6a cnd,q]
theorem z4v{c:Nat}(h:c<=1000):∀x∈jm 3 c,∃i:Int,x=.int i/\0<=i/\i<10000:=fun x hx=>by obtain⟨j,hj,rfl⟩:=z7o.mp hx;have:=qag.mp hj;exact⟨_,rfl,by omega,by omega⟩
theorem zna(ns:List Int)(hn:ns.length<=63){κ:Int}(h0:0<=κ)(h1:κ<8):∃S',(z5 (qo 3 (zlr "Wood" jb (aC (eV 2) aN))) (z5 (qo 4 (zm ki (aC (eV 0) (aC (eV 1) aN)))) (z5 (qo 5 (zm kh (aC (eV 0) (aC (eV 3) (aC (eV 4) aN))))) (z5 (qo 6 (zi1 (aC (yn (aC (eV 5) (aC (zeb (aC (eV 4) aN)) aN))) aN))) (z5 (zg2 7 (eK (.int 3)) (e2 qu (eK (.int 15)) (e2 q9 (zm qh (aC (eV 0) (aC (eK (.int 53)) aN))) (eK (.int 19)))) oB) (z5 (zg3 [11,12] (eV 6) kB) (ql (eK (.bl true))))))))) [some (.lst (ns.map D.int)),some (.int κ),some (y4 k),none,none,none,none,none,none,none,none,none,none] Tb=some (.rt (.bl true),S'):=by
 obtain⟨ts,al,sr,tl,cs⟩:=zq1 (S:=Z k 0 []) ns hn h0 h1 Rk.nil.sb Rk.nil.noCS rfl (by show 1<6;decide);obtain⟨d,h,n',mm,cd⟩:=zqa (k:=k) (R:=[]) (n:=0) ns hn (ts:=ts) (fun x hx=>zp9 (al x hx)) (by omega);have s:Ste k (TP κ) (ltp κ) d ts h:=⟨mm,fun x hx=>zt7 (al x hx),sr⟩
 have k0:Kp k κ [.tup [d,.lst ts]]:=fun e he=>⟨d,ts,h,z55.mp he,s,by omega⟩
 obtain⟨c7,_,_,hc7⟩:=zap ns hn (q:=53) (by decide) (by decide);obtain⟨e,he,ee⟩:=zfu c7 (c:=19) (by decide);obtain⟨d2,ts2,n2,ks2,o7,o8,o9,o10,km,lp⟩:=zn4 ns hn h0 h1 (jm 3 (12+e)) (z4v (by omega)) (n:=n') none none none none k0 s (by simp[jm];omega) (by simp[jm];omega);obtain⟨o11,o12,lo⟩:=zob (n:=n2) (d:=d2) (ts:=ts2) (ns:=ns) h0 h1 km (ks2.length+1) 0 (by omega) o7 o8 o9 o10 none none;refine⟨Z k n2 [.lst ks2],zh (zq (zw5 (e_v rfl))) (zh (zq (zi (a_c (e_v rfl) (a_c (e_v rfl) a_n)) cs)) (zh (zq (zi (a_c (e_v rfl) (a_c (e_v rfl) (a_c (e_v rfl) a_n))) cd)) (zh (zq (zpa (S1:=Z k n' []) (a_c (x4 (a_c (e_v rfl) (a_c (zn6 (e_v rfl)) a_n)) (z5u rfl)) a_n) (z5u rfl))) (zh (zqd (b:=oB) (a:=3) (c:=15+(e:Int)) (S:=Z k n' [.lst [.tup [d,.lst ts]]]) e_k (e_2 e_k (e_2 (zi (a_c (e_v rfl) (a_c e_k a_n)) (hc7 _)) e_k ee) (add_int _ _)) (by decide) (by decide) (by omega) (by omega) (by rw[show(15+(e:Int)-3).toNat=12+e by omega];exact lp)) (zh (zqe (a:=6) (ds:=ks2) (e_v rfl) rfl lo) (zv e_k))))))⟩
theorem law_ok:zt3 tabs g_law:=by
 intro ns hn;obtain⟨c0,_,_,hc0⟩:=zap ns hn (q:=0) (by decide) (by decide);obtain⟨c1,_,_,hc1⟩:=zap ns hn (q:=1) (by decide) (by decide);have h0:=z7p c0 (show(8:Int)≠0 by decide);have h1:=z66 c0 (show(0:Int)<8 by decide);generalize hκ:c0%8=κ at *;have fst:∀{c:C}{o:Out}{S'},c [some (.lst (ns.map D.int)),some (.int κ),some .non,none,none,none,none,none,none,none,none,none,none] Tb=some (o,S')->(z5 (qo 1 (e2 q9 (zm qh (aC (eV 0) (aC (eK (.int 0)) aN))) (eK (.int 8)))) (z5 (qo 2 (eK .non)) c)) [some (.lst (ns.map D.int)),none,none,none,none,none,none,none,none,none,none,none,none] Tb=some (o,S'):=fun hc=>
   zh (zq (d:=.int κ) (e_2 (zi (a_c (e_v rfl) (a_c e_k a_n)) (hc0 _)) e_k ((yf (by decide)).trans (by rw[hκ])))) (zh (zq e_k) hc)
 have t6:∀S,bE (e2 kl (e2 q9 (zm qh (aC (eV 0) (aC (eK (.int 1)) aN))) (eK (.int 3))) (eK (.int 0))) [some (.lst (ns.map D.int)),some (.int κ),some .non,none,none,none,none,none,none,none,none,none,none] S=some (decide (c1%3=0),S):=fun S=>qk (e_2 (e_2 (zi (a_c (e_v rfl) (a_c e_k a_n)) (hc1 _)) e_k (yf (by decide))) e_k (zwa _ _));by_cases q:c1%3=0
 · obtain⟨S',c⟩:=zna (k:=5) ns hn h0 h1;exact⟨S',jh rfl (fst (zh (z9 ((t6 _).trans (by rw[z6d q])) (zq (zvn (y:="law") rfl rfl))) c))⟩
 · obtain⟨S',c⟩:=zna (k:=0) ns hn h0 h1;exact⟨S',jh rfl (fst (zh (zn ((t6 _).trans (by rw[z5w q]))) c))⟩
end Pg
namespace Pg
open PySem L2 F PySem.Spec PyProof.Rows
variable {P:Program}{w:World}{K:zFr}{mg:zMg}{base:Heap}{f:Addr}{cdv:Value}{A:Around}{outer:List Env}{s:Shared}{H:Hp}{E:XK}
seal F.FE F.FB F.FW F.FA F.FS F.FSs F.FPt F.RE F.RS F.RSs F.RTs
def top(i:Nat):Stmt:=PySem.Challenge.pw_ownshelf_k24_whole_tables_changed.main.body.getD i (.Pass ⟨0,0,0,0⟩)
theorem _root_.L2.FnScope.auto7{N P:List Str}{sc:Scope}(h1:sc.kind=.function:=by rfl)(h2:sc.isCoroutine=false:=by rfl)(h3:sc.isGenerator=false:=by rfl)(h4:N.Nodup:=by decide +kernel)(h5:N.take P.length=P:=by rfl)(h6:∀x∈P,sc.names.lookup x=some .local\/sc.names.lookup x=some .cell:=by decide +kernel)(h7:∀y∈sc.names,y.2≠.free:=by decide +kernel):L2.FnScope N P sc:=⟨h1,h2,h3,h4,h5,h6,h7⟩
theorem _root_.L2.Room.rmd{j k:Nat}{A:Around}(r:Room k A)(h:j<=k:=by decide):Room j A:=r.mono h
abbrev s_Wood___init__:Stmt:=zf3 (top 54) 0
abbrev s__law_bent:Stmt:=top 91
abbrev s__law_cell:Stmt:=top 88
abbrev s__law_key:Stmt:=top 89
abbrev s_by_key:Stmt:=top 82
abbrev s_check_place:Stmt:=top 56
abbrev s_size:Stmt:=top 16
abbrev s_Wood_numbered:Stmt:=zf3 (top 54) 4
abbrev s_check_room:Stmt:=top 53
abbrev s_height:Stmt:=top 17
abbrev s_height_above:Stmt:=top 23
abbrev s_in_balance:Stmt:=top 24
abbrev s_size_above:Stmt:=top 22
abbrev s_back:Stmt:=top 19
abbrev s_backward_sum:Stmt:=top 27
abbrev s_total:Stmt:=top 18
abbrev s_onward_sum:Stmt:=top 26
abbrev s_sums_above:Stmt:=top 25
abbrev s_Wood_node:Stmt:=zf3 (top 54) 2
abbrev s_Wood_turned:Stmt:=zf3 (top 54) 3
abbrev s_parts:Stmt:=top 20
abbrev s_lifted_left:Stmt:=top 36
abbrev s_lifted_right:Stmt:=top 37
abbrev s_balanced:Stmt:=top 35
abbrev s_joined:Stmt:=top 34
abbrev s_seen:Stmt:=top 21
abbrev s_thing_at:Stmt:=top 63
abbrev s_laid_together:Stmt:=top 70
abbrev s_taken_out:Stmt:=top 67
abbrev s_out:Stmt:=top 66
abbrev s_at:Stmt:=top 62
abbrev s_is_alike_at:Stmt:=top 76
abbrev s_count_before:Stmt:=top 75
abbrev s_place_of:Stmt:=top 74
abbrev s_place_of_alike:Stmt:=top 78
abbrev s_dropped:Stmt:=top 77
abbrev s_sought:Stmt:=top 83
abbrev s_without:Stmt:=top 86
abbrev s__law_refusal:Stmt:=top 92
abbrev s_put_in:Stmt:=top 65
abbrev s_put:Stmt:=top 64
abbrev s_given:Stmt:=top 69
abbrev s_swapped:Stmt:=top 68
abbrev s_with_value:Stmt:=top 85
abbrev s__law_done:Stmt:=top 93
abbrev s__law_thing:Stmt:=top 90
abbrev s__law_pairs:Stmt:=top 94
abbrev s_built:Stmt:=top 59
abbrev s_make_of:Stmt:=top 58
abbrev s_check_stretch:Stmt:=top 57
abbrev s_cut_ahead:Stmt:=top 71
abbrev s_turned_part:Stmt:=top 72
abbrev s__law_table:Stmt:=top 95
abbrev s_gather:Stmt:=top 61
abbrev s_things_of:Stmt:=top 60
abbrev s_value_of:Stmt:=top 84
abbrev s__law_valued:Stmt:=top 96
abbrev s_is_whole:Stmt:=top 30
abbrev s_has_form:Stmt:=top 29
abbrev s_has_right_measures:Stmt:=top 31
abbrev s_has_right_sums:Stmt:=top 32
abbrev s_is_right:Stmt:=top 28
abbrev s_law:Stmt:=top 97
structure TX (K:zFr) (mg:zMg) (base:Heap):Prop where
 ud7:mg "ValueError"=none
 ug2:mg "abs"=none
 ufu:mg "bool"=none
 uhy:mg "int"=none
 uaj:mg "isinstance"=none
 ual:mg "len"=none
 ubu:mg "list"=none
 uhx:mg "max"=none
 uc7:mg "range"=none
 ucn:mg "reversed"=none
 ugz:mg "sorted"=none
 ug8:mg "tuple"=none
 ubk:∃t,mg "ABOUT"=some (.int 1 t)
 uaa:∃t,mg "AHEAD"=some (.int 0 t)
 uea:∃t,mg "BACK"=some (.int 8 t)
 uac:∃t,mg "BEHIND"=some (.int 2 t)
 ub5:∃t,mg "HEIGHT"=some (.int 6 t)
 ug3:∃t,mg "KEY"=some (.int 0 t)
 ua4:∃t,mg "LEFT"=some (.int 2 t)
 uad:∃t,mg "MIDDLE"=some (.int 1 t)
 udj:∃t,mg "MOST_THINGS"=some (.int 2000 t)
 ugj:∃t,mg "NUMBER"=some (.int 0 t)
 uaq:∃t,mg "RIGHT"=some (.int 4 t)
 ud2:∃t,mg "SIZE"=some (.int 5 t)
 ua7:∃t,mg "THING"=some (.int 3 t)
 ucz:∃t,mg "TOTAL"=some (.int 7 t)
 ua0:∃t,mg "TURNED"=some (.int 3 t)
 uhd:∃t,mg "VALUE"=some (.int 1 t)
 ubt:∃t,mg "VALUES_OF_A_NODE"=some (.int 9 t)
 ubq:Fld K mg "Wood" "adding"
 uan:Fld K mg "Wood" "nodes_made"
 uga:∃f,mg "Changed"=some (.ref f)
 ue4:∃f,mg "NoBalance"=some (.ref f)
 ugy:∃f,mg "NoMore"=some (.ref f)
 ugv:∃f,mg "NoName"=some (.ref f)
 ufh:∃f,mg "NoNumber"=some (.ref f)
 uf4:∃f,mg "NoPlace"=some (.ref f)
 ug5:∃f,mg "NoRow"=some (.ref f)
 ug4:∃f,mg "NoSum"=some (.ref f)
 ugd:∃f,mg "NoThing"=some (.ref f)
 uhf:∃f,mg "NoWay"=some (.ref f)
 uf6:∃f,mg "TooMany"=some (.ref f)
 ufv:ExcCls K mg "NoThing"
 up:UpOk K mg up
 blt:zmb base mg
 ucj:HasMk K mg "Wood" "Wood.__init__" s_Wood___init__ 1
 ue2:HasDef K mg "_law_bent" s__law_bent 0
 uey:HasDef K mg "_law_cell" s__law_cell 0
 ufm:HasDef K mg "_law_key" s__law_key 0
 ug0:HasDef K mg "by_key" s_by_key 0
 udk:HasDef K mg "check_place" s_check_place 0
 uhp:HasDef K mg "size" s_size 0
 uco:HasMth K mg "Wood" "numbered" "Wood.numbered" s_Wood_numbered
 uen:HasDef K mg "check_room" s_check_room 0
 ugp:HasDef K mg "height" s_height 0
 uc5:HasDef K mg "height_above" s_height_above 0
 uef:HasDef K mg "in_balance" s_in_balance 0
 udz:HasDef K mg "size_above" s_size_above 0
 uhk:HasDef K mg "back" s_back 0
 uc2:HasDef K mg "backward_sum" s_backward_sum 0
 uhb:HasDef K mg "total" s_total 0
 uek:HasDef K mg "onward_sum" s_onward_sum 0
 uec:HasDef K mg "sums_above" s_sums_above 0
 uez:HasMth K mg "Wood" "node" "Wood.node" s_Wood_node
 udq:HasMth K mg "Wood" "turned" "Wood.turned" s_Wood_turned
 uhc:HasDef K mg "parts" s_parts 0
 udn:HasDef K mg "lifted_left" s_lifted_left 0
 ucw:HasDef K mg "lifted_right" s_lifted_right 0
 ufp:HasDef K mg "balanced" s_balanced 0
 ueh:HasDef K mg "joined" s_joined 0
 uhs:HasDef K mg "seen" s_seen 0
 ucp:HasDef K mg "thing_at" s_thing_at 0
 ucm:HasDef K mg "laid_together" s_laid_together 0
 ub3:HasDef K mg "taken_out" s_taken_out 0
 uhz:HasDef K mg "out" s_out 0
 uh0:HasDef K mg "at" s_at 0
 udr:HasDef K mg "is_alike_at" s_is_alike_at 0
 ubi:HasDef K mg "count_before" s_count_before 0
 ufl:HasDef K mg "place_of" s_place_of 0
 uba:HasDef K mg "place_of_alike" s_place_of_alike 0
 ude:HasDef K mg "dropped" s_dropped 0
 ugw:HasDef K mg "sought" s_sought 0
 udd:HasDef K mg "without" s_without 0
 uc9:HasDef K mg "_law_refusal" s__law_refusal 0
 uep:HasDef K mg "put_in" s_put_in 0
 uhu:HasDef K mg "put" s_put 0
 ue6:HasDef K mg "given" s_given 0
 ufw:HasDef K mg "swapped" s_swapped 0
 ued:HasDef K mg "with_value" s_with_value 0
 ueq:HasDef K mg "_law_done" s__law_done 0
 ud9:HasDef K mg "_law_thing" s__law_thing 0
 uel:HasDef K mg "_law_pairs" s__law_pairs 0
 ue7:HasDef K mg "built" s_built 0
 uf0:HasDef K mg "make_of" s_make_of 0
 uch:HasDef K mg "check_stretch" s_check_stretch 0
 ub1:HasDef K mg "cut_ahead" s_cut_ahead 0
 udw:HasDef K mg "turned_part" s_turned_part 0
 uee:HasDef K mg "_law_table" s__law_table 0
 ud3:HasDef K mg "gather" s_gather 0
 ueu:HasDef K mg "things_of" s_things_of 0
 ufo:HasDef K mg "value_of" s_value_of 0
 udu:HasDef K mg "_law_valued" s__law_valued 0
 ufb:HasDef K mg "is_whole" s_is_whole 0
 ufe:HasDef K mg "has_form" s_has_form 0
 ubm:HasDef K mg "has_right_measures" s_has_right_measures 0
 ub6:HasDef K mg "has_right_sums" s_has_right_sums 0
 ucq:HasDef K mg "is_right" s_is_right 1
 uh1:HasDef K mg "law" s_law 0
theorem z4r:CloScope ["one", "other"] ["before"] lt_0.scope:=⟨rfl,rfl,rfl,by decide +kernel,(z5z.mpr ⟨rfl,(z5z.mpr ⟨rfl,(fun _ h=>nomatch h)⟩)⟩),(z5z.mpr ⟨rfl,(fun _ h=>nomatch h)⟩),by decide +kernel,by decide +kernel⟩
theorem z5a(T:TX K mg base)(hct1:∀t g,zgd t=some g->CCal P w K mg base 2 t g){a c:Addr}{cl:zLA}{A:Around}{outer:List Env}{s:Shared}{H H1:Hp}{E:XK}(hr:Room 2 (A.deeper (PySem.W.envX lt_0.qual lt_0.scope s.heap.objs.size a (.ref c) cl))) :
   FE (cxC P w K mg base ["one", "other", "before"] lt_0.qual lt_0.scope a (.ref c) cl A outer s H H1 E).nox lt_0.body z2y:=by
 exact(zf9 (fun _ _ h=>by cases h) (fun _ _ h=>by cases h) hct1 hr.rmd (zf 2) (zb (zu (zf 0) (zw T.ug3)) (zb (zu (zf 1) (zw T.ug3)) zd)))
theorem z42(T:TX K mg base)(hct1:∀t g,zgd t=some g->CCal P w K mg base 2 t g):CCal P w K mg base 3 lt_0 zzs:=CCal.of (t:=lt_0) (ps:=["one", "other"]) (k:=2) (f:=z2y) z4r rfl (fun _ _ _ _=>ls2 fun _ _=>rfl) (fun a c cl A outer s H H1 E hr=>z5a T hct1 hr)
theorem z4q:CloScope ["_law_one", "_law_other"] ["_law_kind"] lt_1.scope:=⟨rfl,rfl,rfl,by decide +kernel,(z5z.mpr ⟨rfl,(z5z.mpr ⟨rfl,(fun _ h=>nomatch h)⟩)⟩),(z5z.mpr ⟨rfl,(fun _ h=>nomatch h)⟩),by decide +kernel,by decide +kernel⟩
theorem z49(T:TX K mg base)(uae:Cal P w K mg base 1 "_law_key" qi){a c:Addr}{cl:zLA}{A:Around}{outer:List Env}{s:Shared}{H H1:Hp}{E:XK}(hr:Room 1 (A.deeper (PySem.W.envX lt_1.qual lt_1.scope s.heap.objs.size a (.ref c) cl))) :
   FE (cxC P w K mg base ["_law_one", "_law_other", "_law_kind"] lt_1.qual lt_1.scope a (.ref c) cl A outer s H H1 E).nox lt_1.body z1b:=by
 exact(ztl hr (zg uae hr.rmd (zb (zf 2) (zb (zf 0) zd))) (zg uae hr.rmd (zb (zf 2) (zb (zf 1) zd))))
theorem z32(T:TX K mg base)(uae:Cal P w K mg base 1 "_law_key" qi):CCal P w K mg base 2 lt_1 zwx:=CCal.of (t:=lt_1) (ps:=["_law_one", "_law_other"]) (k:=1) (f:=z1b) z4q rfl (fun _ _ _ _=>ls2 fun _ _=>rfl) (fun a c cl A outer s H H1 E hr=>z49 T uae hr)
theorem z4p:CloScope ["_law_pair"] ["_law_kind"] lt_2.scope:=⟨rfl,rfl,rfl,by decide +kernel,(z5z.mpr ⟨rfl,(fun _ h=>nomatch h)⟩),(z5z.mpr ⟨rfl,(fun _ h=>nomatch h)⟩),by decide +kernel,by decide +kernel⟩
theorem z48(T:TX K mg base)(uae:Cal P w K mg base 1 "_law_key" qi){a c:Addr}{cl:zLA}{A:Around}{outer:List Env}{s:Shared}{H H1:Hp}{E:XK}(hr:Room 1 (A.deeper (PySem.W.envX lt_2.qual lt_2.scope s.heap.objs.size a (.ref c) cl))) :
   FE (cxC P w K mg base ["_law_pair", "_law_kind"] lt_2.qual lt_2.scope a (.ref c) cl A outer s H H1 E).nox lt_2.body z1a:=by
 exact(zg uae hr.rmd (zb (zf 1) (zb (zu (zf 0) zo) zd)))
theorem z31(T:TX K mg base)(uae:Cal P w K mg base 1 "_law_key" qi):CCal P w K mg base 2 lt_2 z08:=CCal.of (t:=lt_2) (ps:=["_law_pair"]) (k:=1) (f:=z1a) z4p rfl (fun _ _ _ _=>ls1 fun _=>rfl) (fun a c cl A outer s H H1 E hr=>z48 T uae hr)
theorem z4o:CloScope ["_law_one", "_law_other"] ["_law_kind"] lt_3.scope:=⟨rfl,rfl,rfl,by decide +kernel,(z5z.mpr ⟨rfl,(z5z.mpr ⟨rfl,(fun _ h=>nomatch h)⟩)⟩),(z5z.mpr ⟨rfl,(fun _ h=>nomatch h)⟩),by decide +kernel,by decide +kernel⟩
theorem z47(T:TX K mg base)(uae:Cal P w K mg base 1 "_law_key" qi){a c:Addr}{cl:zLA}{A:Around}{outer:List Env}{s:Shared}{H H1:Hp}{E:XK}(hr:Room 1 (A.deeper (PySem.W.envX lt_3.qual lt_3.scope s.heap.objs.size a (.ref c) cl))) :
   FE (cxC P w K mg base ["_law_one", "_law_other", "_law_kind"] lt_3.qual lt_3.scope a (.ref c) cl A outer s H H1 E).nox lt_3.body z2x:=by
 exact(ztl hr (zg uae hr.rmd (zb (zf 2) (zb (zf 0) zd))) (zg uae hr.rmd (zb (zf 2) (zb (zf 1) zd))))
theorem z41(T:TX K mg base)(uae:Cal P w K mg base 1 "_law_key" qi):CCal P w K mg base 2 lt_3 z2w:=CCal.of (t:=lt_3) (ps:=["_law_one", "_law_other"]) (k:=1) (f:=z2x) z4o rfl (fun _ _ _ _=>ls2 fun _ _=>rfl) (fun a c cl A outer s H H1 E hr=>z47 T uae hr)
theorem sl_4:FnScope ["_law_one", "_law_other"] ["_law_one", "_law_other"] lt_4.scope:=.auto7
theorem z46(T:TX K mg base){a c:Addr}{A:Around}{outer:List Env}{s:Shared}{H:Hp}{E:XK}(hr:Room 0 (A.deeper (envOfC lt_4.qual lt_4.scope s.heap.objs.size a (.ref c)))) :
   FE (zbl CX0 P w K mg base ["_law_one", "_law_other"] lt_4.qual lt_4.scope a (.ref c) A outer s H E).nox lt_4.body z33:=by
 have nd:=sl_4.nd;exact(qx (zf 0) (zf 1))
theorem z40(T:TX K mg base):LCal P w K mg base 1 lt_4 z2v:=LCal.of sl_4 (fun _ _ _=>ls2 fun _ _=>rfl) (fun a c A outer s H E hr=>z46 T hr)
theorem sc_Wood___init__:FnScope ["self", "add"] ["self", "add"] (zj s_Wood___init__):=.auto7
theorem sc__law_bent:FnScope ["_law_kind", "_law_thing_here"] ["_law_kind", "_law_thing_here"] (zj s__law_bent):=.auto7
theorem sc__law_cell:FnScope ["_law_script", "_law_k", "_law_cell_here"] ["_law_script", "_law_k"] (zj s__law_cell):=.auto7
theorem sc__law_key:FnScope ["_law_kind", "_law_thing_here"] ["_law_kind", "_law_thing_here"] (zj s__law_key):=.auto7
theorem zm5:FnScope ["before"] ["before"] (zj s_by_key):=.auto7
theorem zn9(T:TX K mg base):Cal P w K mg base 2 "by_key" xo:=T.ug0.calR zm5 (fun _ _ _ _ _ _=>ls1 fun _=>rfl) rfl (fun f cdv hco A outer s H E=>⟨_,(CapsOk.mk rfl rfl (z5z.mpr ⟨rfl,(fun _ h=>nomatch h)⟩) (by decide +kernel) rfl (z5z.mpr ⟨rfl,(fun _ h=>nomatch h)⟩) (fun _ _=>rfl)),zs5 2 hco T.blt rfl⟩)
theorem sc_check_place:FnScope ["place", "end"] ["place", "end"] (zj s_check_place):=.auto7
theorem sc_size:FnScope ["make"] ["make"] (zj s_size):=.auto7
theorem sc_Wood_numbered:FnScope ["self", "rest", "number"] ["self", "rest"] (zj s_Wood_numbered):=.auto7
theorem sc_check_room:FnScope ["things"] ["things"] (zj s_check_room):=.auto7
theorem sc_height:FnScope ["make"] ["make"] (zj s_height):=.auto7
theorem sc_height_above:FnScope ["left", "right"] ["left", "right"] (zj s_height_above):=.auto7
theorem sc_in_balance:FnScope ["left", "right"] ["left", "right"] (zj s_in_balance):=.auto7
theorem sc_size_above:FnScope ["left", "right"] ["left", "right"] (zj s_size_above):=.auto7
theorem sc_back:FnScope ["make"] ["make"] (zj s_back):=.auto7
theorem sc_backward_sum:FnScope ["add", "left", "thing", "right", "result"] ["add", "left", "thing", "right"] (zj s_backward_sum):=.auto7
theorem sc_total:FnScope ["make"] ["make"] (zj s_total):=.auto7
theorem sc_onward_sum:FnScope ["add", "left", "thing", "right", "result"] ["add", "left", "thing", "right"] (zj s_onward_sum):=.auto7
theorem sc_sums_above:FnScope ["add", "left", "thing", "right"] ["add", "left", "thing", "right"] (zj s_sums_above):=.auto7
theorem sc_Wood_node:FnScope ["self", "left", "thing", "right", "things", "measures", "sums"] ["self", "left", "thing", "right"] (zj s_Wood_node):=.auto7
theorem sc_Wood_turned:FnScope ["self", "make", "row"] ["self", "make"] (zj s_Wood_turned):=.auto7
theorem sc_parts:FnScope ["wood", "make", "ahead", "behind"] ["wood", "make"] (zj s_parts):=.auto7
theorem sc_lifted_left:FnScope ["wood", "left", "thing", "right", "outer", "inner", "ahead", "behind"] ["wood", "left", "thing", "right"] (zj s_lifted_left):=.auto7
theorem sc_lifted_right:FnScope ["wood", "left", "thing", "right", "outer", "inner", "ahead", "behind"] ["wood", "left", "thing", "right"] (zj s_lifted_right):=.auto7
theorem sc_balanced:FnScope ["wood", "left", "thing", "right"] ["wood", "left", "thing", "right"] (zj s_balanced):=.auto7
theorem sc_joined:FnScope ["wood", "left", "thing", "right", "row"] ["wood", "left", "thing", "right"] (zj s_joined):=.auto7
theorem sc_seen:FnScope ["make", "turned"] ["make", "turned"] (zj s_seen):=.auto7
theorem sc_thing_at:FnScope ["make", "turned", "place", "row", "middle"] ["make", "turned", "place"] (zj s_thing_at):=.auto7
theorem sc_laid_together:FnScope ["wood", "one", "other"] ["wood", "one", "other"] (zj s_laid_together):=.auto7
theorem zec(T:TX K mg base)(ua1:Cal P w K mg base (7+40) "joined" (kx 40))(uam:Cal P w K mg base (2+40) "thing_at" (xl 40)){self:G}{n:Nat}(hself:Cal P w K mg base (48+2*n) "taken_out" self)(hr0:Room (48+2*n) (A.deeper (envOfC "laid_together" (zj s_laid_together) s.heap.objs.size f cdv))) :
   FSs (zbl CX0 P w K mg base ["wood", "one", "other"] "laid_together" (zj s_laid_together) f cdv A outer s H E).nox (jg s_laid_together) (za9 self):=by
 have nd:=sc_laid_together.nd;have hr:=hr0.mono (z54 48 (2*n));exact(ze (qj (zcl (zf 1) je) (zk (zp (zf 2))) zt) (ze (qj (zcl (zf 2) je) (zk (zp (zf 1))) zt) (zk (zp (zg ua1 hr.rmd (zb (zf 0) (zb (zf 1) (zb (zg uam hr.rmd (zb (zf 2) (zb y9 (zb zo zd)))) (zb (zg hself hr0 (zb (zf 0) (zb (zf 2) (zb zo zd)))) zd)))))))))
theorem zas(T:TX K mg base)(ua1:Cal P w K mg base (7+40) "joined" (kx 40))(uam:Cal P w K mg base (2+40) "thing_at" (xl 40)){self:G}{n:Nat}(hself:Cal P w K mg base (48+2*n) "taken_out" self):Cal P w K mg base (48+2*n+1) "laid_together" (ju self):=T.ucm.cal sc_laid_together (fun _ _ _ _ _ _=>ls3 fun _ _ _=>rfl) (fun f cdv A outer s H E hr=>zec T ua1 uam hself hr)
theorem sc_taken_out:FnScope ["wood", "make", "place", "row", "middle"] ["wood", "make", "place"] (zj s_taken_out):=.auto7
theorem zi2(T:TX K mg base)(uau:Cal P w K mg base 6 "balanced" jx)(uby:Cal P w K mg base 3 "parts" xb)(uce:Cal P w K mg base 1 "size" xa){self aux:G}{n:Nat}(hself:Cal P w K mg base (48+2*n) "taken_out" self)(haux:Cal P w K mg base (48+2*n+1) "laid_together" aux)(hr0:Room (48+2*n+1) (A.deeper (envOfC "taken_out" (zj s_taken_out) s.heap.objs.size f cdv))) :
   FSs (zbl CX0 P w K mg base ["wood", "make", "place", "row", "middle"] "taken_out" (zj s_taken_out) f cdv A outer s H E).nox (jg s_taken_out) (zei self aux):=by
 have nd:=sc_taken_out.nd;have hr1:=hr0.mono (z9f (48+2*n));have hr:=hr1.mono (z54 48 (2*n));exact(ze (zx 3 (zg uby hr.rmd (zb (zf 0) (zb (zf 1) zd))) nd) (ze (zx 4 (zg uce hr.rmd (zb (zu (zf 3) (zw T.uaa)) zd)) nd) (ze (qj (zo2 (zf 2) (zf 4)) (zk (zp (zg uau hr.rmd (zb (zf 0) (zb (zg hself hr1 (zb (zf 0) (zb (zu (zf 3) (zw T.uaa)) (zb (zf 2) zd)))) (zb (zu (zf 3) (zw T.uad)) (zb (zu (zf 3) (zw T.uac)) zd))))))) zt) (ze (qj (ziy (zf 2) (zf 4)) (zk (zp (zg uau hr.rmd (zb (zf 0) (zb (zu (zf 3) (zw T.uaa)) (zb (zu (zf 3) (zw T.uad)) (zb (zg hself hr1 (zb (zf 0) (zb (zu (zf 3) (zw T.uac)) (zb (kj (kj (zf 2) (zf 4)) zo) zd)))) zd))))))) zt) (zk (zp (zg haux hr0 (zb (zf 0) (zb (zu (zf 3) (zw T.uaa)) (zb (zu (zf 3) (zw T.uac)) zd))))))))))
theorem zcr(T:TX K mg base)(uau:Cal P w K mg base 6 "balanced" jx)(uby:Cal P w K mg base 3 "parts" xb)(uce:Cal P w K mg base 1 "size" xa)(ua1:Cal P w K mg base (7+40) "joined" (kx 40))(uam:Cal P w K mg base (2+40) "thing_at" (xl 40)):∀n:Nat,Cal P w K mg base (48+2*n) "taken_out" (jt n)
 |0=>T.ub3.none0 (ps:=["wood", "make", "place"]) (fun _ _ _ _ _ _=>ls3 fun _ _ _=>rfl)
 | n+1=>by have ih:=zcr T uau uby uce ua1 uam n;exact(show Cal P w K mg base ((48+2*n+1)+1) "taken_out" (jt (n+1))from T.ub3.cal sc_taken_out (fun _ _ _ _ _ _=>ls3 fun _ _ _=>rfl) (fun f cdv A outer s H E hr=>zi2 T uau uby uce ih (zas T ua1 uam ih) hr))
theorem sc_out:FnScope ["wood", "make", "place"] ["wood", "make", "place"] (zj s_out):=.auto7
theorem sc_at:FnScope ["make", "place"] ["make", "place"] (zj s_at):=.auto7
theorem sc_is_alike_at:FnScope ["make", "place", "thing", "before"] ["make", "place", "thing", "before"] (zj s_is_alike_at):=.auto7
theorem sc_count_before:FnScope ["make", "turned", "thing", "before", "row"] ["make", "turned", "thing", "before"] (zj s_count_before):=.auto7
theorem sc_place_of:FnScope ["make", "thing", "before"] ["make", "thing", "before"] (zj s_place_of):=.auto7
theorem sc_place_of_alike:FnScope ["make", "thing", "before", "place"] ["make", "thing", "before"] (zj s_place_of_alike):=.auto7
theorem sc_dropped:FnScope ["wood", "make", "thing", "before"] ["wood", "make", "thing", "before"] (zj s_dropped):=.auto7
theorem sc_sought:FnScope ["key"] ["key"] (zj s_sought):=.auto7
theorem sc_without:FnScope ["wood", "make", "key", "before"] ["wood", "make", "key", "before"] (zj s_without):=.auto7
theorem sc__law_refusal:FnScope ["_law_wood", "_law_make", "_law_mark", "_law_before", "_law_heard", "e", "_law_others"] ["_law_wood", "_law_make", "_law_mark", "_law_before"] (zj s__law_refusal):=.auto7
theorem sc_put_in:FnScope ["wood", "make", "place", "thing", "row", "middle"] ["wood", "make", "place", "thing"] (zj s_put_in):=.auto7
theorem sc_put:FnScope ["wood", "make", "place", "thing"] ["wood", "make", "place", "thing"] (zj s_put):=.auto7
theorem sc_given:FnScope ["wood", "make", "place", "thing", "row", "middle"] ["wood", "make", "place", "thing"] (zj s_given):=.auto7
theorem sc_swapped:FnScope ["wood", "make", "place", "thing"] ["wood", "make", "place", "thing"] (zj s_swapped):=.auto7
theorem sc_with_value:FnScope ["wood", "make", "key", "value", "before", "pair", "order", "place"] ["wood", "make", "key", "value", "before"] (zj s_with_value):=.auto7
theorem sc__law_done:FnScope ["_law_wood", "_law_make", "_law_pairs_here", "_law_mark", "_law_value", "_law_kind", "_law_drop", "_law_before", "_law_rest", "_law_ahead"] ["_law_wood", "_law_make", "_law_pairs_here", "_law_mark", "_law_value", "_law_kind", "_law_drop"] (zj s__law_done):=.auto7
theorem sc__law_thing:FnScope ["_law_kind", "_law_cell_here", "_law_text", "_law_k"] ["_law_kind", "_law_cell_here"] (zj s__law_thing):=.auto7
theorem sc__law_pairs:FnScope ["_law_script", "_law_kind", "_law_pairs_here", "_law_k", "_law_cell_here", "_law_mark"] ["_law_script", "_law_kind"] (zj s__law_pairs):=.auto7
theorem sc_built:FnScope ["wood", "things", "start", "end", "middle", "left", "right"] ["wood", "things", "start", "end"] (zj s_built):=.auto7
theorem sc_make_of:FnScope ["wood", "things"] ["wood", "things"] (zj s_make_of):=.auto7
theorem sc_check_stretch:FnScope ["make", "start", "end"] ["make", "start", "end"] (zj s_check_stretch):=.auto7
theorem sc_cut_ahead:FnScope ["wood", "make", "place", "row", "middle", "halves"] ["wood", "make", "place"] (zj s_cut_ahead):=.auto7
theorem sc_turned_part:FnScope ["wood", "make", "start", "end", "behind", "ahead", "begin"] ["wood", "make", "start", "end"] (zj s_turned_part):=.auto7
theorem sc__law_table:FnScope ["_law_script", "_law_wood", "_law_pairs_here", "_law_way", "_law_start", "_law_end", "_law_amid"] ["_law_script", "_law_wood", "_law_pairs_here"] (zj s__law_table):=.auto7
theorem sc_gather:FnScope ["make", "turned", "found", "row"] ["make", "turned", "found"] (zj s_gather):=.auto7
theorem sc_things_of:FnScope ["make", "found"] ["make"] (zj s_things_of):=.auto7
theorem sc_value_of:FnScope ["make", "key", "before"] ["make", "key", "before"] (zj s_value_of):=.auto7
theorem sc__law_valued:FnScope ["_law_make", "_law_pairs_here", "_law_kind", "_law_before", "_law_mark", "_law_value"] ["_law_make", "_law_pairs_here", "_law_kind"] (zj s__law_valued):=.auto7
theorem sc_is_whole:FnScope ["value"] ["value"] (zj s_is_whole):=.auto7
theorem sc_has_form:FnScope ["make"] ["make"] (zj s_has_form):=.auto7
theorem sc_has_right_measures:FnScope ["make", "left", "right"] ["make"] (zj s_has_right_measures):=.auto7
theorem sc_has_right_sums:FnScope ["make", "add", "asked"] ["make", "add"] (zj s_has_right_sums):=.auto7
theorem sc_is_right:FnScope ["make", "add"] ["make", "add"] (zj s_is_right):=.auto7
theorem sc_law:FnScope ["_law_script", "_law_kind", "_law_add", "_law_wood", "_law_pairs_here", "_law_make", "_law_kept", "_law_k", "_law_cell_here", "_law_mark", "_law_told", "_law_one", "_law_due"] ["_law_script"] (zj s_law):=.auto7
structure CX_law (P:Program) (w:World) (K:zFr) (mg:zMg) (base:Heap):Prop where
 mk ::
 uar:Mak P w K mg base 1 "Wood" jb
 ubg:Cal P w K mg base 1 "_law_bent" ym
 uaf:Cal P w K mg base 1 "_law_cell" qh
 ubf:Cal P w K mg base 133 "_law_done" yk
 ua9:Cal P w K mg base 5 "_law_pairs" ki
 ubb:Cal P w K mg base 131 "_law_table" kh
 uax:Cal P w K mg base 1 "_law_thing" jp
 ua5:Cal P w K mg base 48 "_law_valued" xp
 uav:Cal P w K mg base (5+40) "is_right" (xy 40)
 ua2:Cal P w K mg base 43 "things_of" xj
theorem z3b(T:TX K mg base)(C:CX_law P w K mg base){f:Addr}{cdv:Value}(hco:zbc K mg "law" cdv){A:Around}{outer:List Env}{s:Shared}{H:Hp}{E:XK}(hr:Room 133 (A.deeper (envOfC "law" (zj s_law) s.heap.objs.size f cdv))) :
   FSs (zbl CX0 P w K mg base ["_law_script", "_law_kind", "_law_add", "_law_wood", "_law_pairs_here", "_law_make", "_law_kept", "_law_k", "_law_cell_here", "_law_mark", "_law_told", "_law_one", "_law_due"] "law" (zj s_law) f cdv A outer s H E).nox (jg s_law) z0p:=by
 have nd:=sc_law.nd;exact(ze (zx 1 (jw (zg C.uaf hr.rmd (zb (zf 0) (zb zo zd))) zo) nd) (ze (zx 2 je nd) (ze (qj (zaa hr (jw (zg C.uaf hr.rmd (zb (zf 0) (zb zo zd))) zo) zo) (zk (zx 2 (zz4 4 hco T.blt) nd)) zt) (ze (zx 3 (zv4 C.uar hr.rmd (zb (zf 2) zd)) nd) (ze (zx 4 (zg C.ua9 hr.rmd (zb (zf 0) (zb (zf 1) zd))) nd) (ze (zx 5 (zg C.ubb hr.rmd (zb (zf 0) (zb (zf 3) (zb (zf 4) zd)))) nd) (ze (zx 6 (ziv (zb (jc (zb (zf 5) (zb (zkd T.ubu (zb (zf 4) zd)) zd))) zd)) nd) (ze (zri 7 nd T.uc7 zo (qx zo (jw (zg C.uaf hr.rmd (zb (zf 0) (zb zo zd))) zo)) (ze (zx 8 (zg C.uaf hr.rmd (zb (zf 0) (zb (zf 7) zd))) nd) (ze (zx 9 (zg C.uax hr.rmd (zb (zf 1) (zb (zcs (zf 8) zo) zd))) nd) (ze (qj (zwy (zoq (z27 (jw (zf 8) zo) (jc (zb zo (zb zo (zb zo zd))))) (ziu (zlp hr (zf 4) (zfa zd))))) (ze (zx 9 (zu (zu (zf 4) (jw (zcs (zf 8) zo) (zae T.ual (zb (zf 4) zd)))) zo) nd) (zk (qj (zaa hr (jw (zf 8) zo) zo) (zk (zx 9 (zg C.ubg hr.rmd (zb (zf 1) (zb (zf 9) zd))) nd)) zt))) zt) (ze (zx 10 (zg C.ubf hr.rmd (zb (zf 3) (zb (zf 5) (zb (zf 4) (zb (zf 9) (zb (jw (zf 8) zo) (zb (zf 1) (zb (z24 (jw (zf 8) zo) (jc (zb zo (zb zo zd)))) zd)))))))) nd) (ze (qj (zcl (zf 10) je) (zk (zp y9)) zt) (ze (zzx [5,4] (kz 5 nd (kz 4 nd Names.nil)) (zf 10)) (ze (qj (zwy (zvy (yw (xn (zg C.uav hr.rmd (zb (zf 5) (zb (zf 2) zd))))) (zop (zlp hr (zg C.ua2 hr.rmd (zb (zf 5) zd)) (zf 4))))) (zk (zp y9)) zt) (zk (zd7 (zf 6) (jc (zb (zf 5) (zb (zkd T.ubu (zb (zf 4) zd)) zd)))))))))))) z9a) (ze (zrj [11,12] (kz 11 nd (kz 12 nd Names.nil)) (zf 6) (zk (qj (yw (xn (zg C.ua5 hr.rmd (zb (zf 11) (zb (zf 12) (zb (zf 1) zd)))))) (zk (zp y9)) zt)) z9a) (zk (zp y9)))))))))))
theorem law_fn{P:Program}{w:World}{K:zFr}{mg:zMg}(T0:HasDef K mg "law" s_law 0)(C:∀base,zmb base mg->TX K mg base/\CX_law P w K mg base):∃fa fd,mg "law"=some (.ref fa)/\(∀(s:Shared) (v:Value),BindsTo s fd ⟨[v],[]⟩ [("_law_script",v)])/\∀base,zmb base mg->FnOk P w K mg base CX0 134 fa fd ["_law_script"] (spG K mg g_law):=by obtain⟨f,fd,dV,F,hm,rfl⟩:=T0.ex;have B:=F.binds0 (ps:=["_law_script"]) (fun _ _ _ _ _ _=>ls1 fun _=>rfl);refine⟨f,fd,hm,?_,fun base hB=>F.okL hm sc_law fun cdv co A outer s H E hr=>z3b (C base hB).1 (C base hB).2 co hr⟩;obtain⟨oc,od,kV,doc,pm,an,cdv,ct,osl,rfl,lk,hcd⟩:=F.ex;exact fun s v=>.of_eq rfl
theorem law_all{P:Program}{w:World}{K:zFr}{mg:zMg}(T:∀base,zmb base mg->TX K mg base)(T0:HasDef K mg "law" s_law 0):∃fa fd,mg "law"=some (.ref fa)/\(∀(s:Shared) (v:Value),BindsTo s fd ⟨[v],[]⟩ [("_law_script",v)])/\∀base,zmb base mg->FnOk P w K mg base CX0 134 fa fd ["_law_script"] (spG K mg g_law):=by
 refine law_fn T0 fun base hB=>?_;have T:=T base hB;have uar:Mak P w K mg base 1 "Wood" jb:=T.ucj.mk1 sc_Wood___init__ (fun _ _ _ _ _ _ _=>ls2 fun _ _=>⟨_,rfl,rfl⟩) (fun f cdv A outer s H E hr=>by as_aux_lemma=>
   have nd:=sc_Wood___init__.nd;exact(ze (zos T.ubq (zf 0) (zf 1)) (zk (zos T.uan (zf 0) zo))))
 have ubg:Cal P w K mg base 1 "_law_bent" ym:=(T.ue2.cal sc__law_bent (fun _ _ _ _ _ _=>ls2 fun _ _=>rfl) (fun f cdv A outer s H E hr=>by as_aux_lemma=>
   have nd:=sc__law_bent.nd;exact(ze (qj (zaa hr (zf 0) zo) (zk (zp (qx (zb8 (zcs (zf 1) zo) zo) (jw (qx (zf 1) zo) zo)))) zt) (ze (qj (zaa hr (zf 0) zo) (zk (zp (kj zo (zf 1)))) zt) (ze (qj (zaa hr (zf 0) zo) (zk (zp (qx (zhj (zf 1) zd8 (zbs zo)) zkb))) zt) (zk (zp (zf 1))))))))
 have uaf:Cal P w K mg base 1 "_law_cell" qh:=(T.uey.cal sc__law_cell (fun _ _ _ _ _ _=>ls2 fun _ _=>rfl) (fun f cdv A outer s H E hr=>by as_aux_lemma=>
   have nd:=sc__law_cell.nd;exact(ze (zx 2 (qx (zb8 (zb8 (zf 1) (zf 1)) zo) zo) nd) (ze (qj (ziy (zae T.ual (zb (zf 0) zd)) zo) (zk (zx 2 (qx (jw (zu (zf 0) (jw (zf 1) (zae T.ual (zb (zf 0) zd)))) (zkc zo zo)) (zb8 (zcs (zf 1) (zae T.ual (zb (zf 0) zd))) zo)) nd)) zt) (zk (zp (jw (zb8 (jw (qx (zb8 (zf 2) zo) (zb8 (zf 1) zo)) zo) (qx (jw (zf 2) zo) zo)) zo)))))))
 have uai:Cal P w K mg base 1 "_law_key" qi:=(T.ufm.cal sc__law_key (fun _ _ _ _ _ _=>ls2 fun _ _=>rfl) (fun f cdv A outer s H E hr=>by as_aux_lemma=>
   have nd:=sc__law_key.nd;exact(ze (qj (zaa hr (zf 0) zo) (zk (zp (kj zo (zf 1)))) zt) (ze (qj (zaa hr (zf 0) zo) (zk (zp (jc (zb (jw (zf 1) zo) (zb (zf 1) zd))))) zt) (ze (qj (zaa hr (zf 0) zo) (zk (zp (zcs (zf 1) zo))) zt) (ze (qj (zaa hr (zf 0) zo) (zk (zp (ztn T.ug2 (zb (zf 1) zd)))) zt) (ze (qj (zaa hr (zf 0) zo) (zk (zp (jc (zb (zae T.ual (zb (zf 1) zd)) (zb (zf 1) zd))))) zt) (ze (qj (zaa hr (zf 0) zo) (zk (zp (zhj (zf 1) zd8 (zbs zo)))) zt) (zk (zp (zf 1)))))))))))
 have ubn:=zn9 (P:=P) (w:=w) (base:=base) T ;have uao:Cal P w K mg base 1 "check_place" j9:=(T.udk.cal sc_check_place (fun _ _ _ _ _ _=>ls2 fun _ _=>rfl) (fun f cdv A outer s H E hr=>by as_aux_lemma=>
   have nd:=sc_check_place.nd;exact(zk (qj (yw (zv5 zo (zf 0) (zf 1))) (zk zb6) zt))))
 have uah:Cal P w K mg base 1 "size" xa:=(T.uhp.cal sc_size (fun _ _ _ _ _ _=>ls1 fun _=>rfl) (fun f cdv A outer s H E hr=>by as_aux_lemma=>
   have nd:=sc_size.nd;exact(ze (qj (zcl (zf 0) je) (zk (zp zo)) zt) (zk (zp (zu (zf 0) (zw T.ud2)))))))
 have ube:Mth P w K mg base 1 "Wood" "numbered" j7:=T.uco.mth sc_Wood_numbered (fun _ _ _ _ _ _=>ls2 fun _ _=>rfl) (fun f cdv A outer s H E hr=>by as_aux_lemma=>
   have nd:=sc_Wood_numbered.nd;exact(ze (zx 2 (ztm T.uan (zf 0)) nd) (ze (zos T.uan (zf 0) (qx (zf 2) zo)) (zk (zp (qx (jc (zb (zf 2) zd)) (zf 1)))))))
 have ua8:Cal P w K mg base 1 "check_room" kg:=(T.uen.cal sc_check_room (fun _ _ _ _ _ _=>ls1 fun _=>rfl) (fun f cdv A outer s H E hr=>by as_aux_lemma=>
   have nd:=sc_check_room.nd;exact(zk (qj (ziy (zf 0) (zw T.udj)) (zk zb6) zt))))
 have uag:Cal P w K mg base 1 "height" jk:=(T.ugp.cal sc_height (fun _ _ _ _ _ _=>ls1 fun _=>rfl) (fun f cdv A outer s H E hr=>by as_aux_lemma=>
   have nd:=sc_height.nd;exact(ze (qj (zcl (zf 0) je) (zk (zp zo)) zt) (zk (zp (zu (zf 0) (zw T.ub5)))))))
 have ubj:Cal P w K mg base 2 "height_above" xf:=(T.uc5.cal sc_height_above (fun _ _ _ _ _ _=>ls2 fun _ _=>rfl) (fun f cdv A outer s H E hr=>by as_aux_lemma=>
   have nd:=sc_height_above.nd;exact(zk (zp (qx zo (zz3 T.uhx (zb (zg uag hr.rmd (zb (zf 0) zd)) (zb (zg uag hr.rmd (zb (zf 1) zd)) zd))))))))
 have uaw:Cal P w K mg base 2 "in_balance" j6:=(T.uef.cal sc_in_balance (fun _ _ _ _ _ _=>ls2 fun _ _=>rfl) (fun f cdv A outer s H E hr=>by as_aux_lemma=>
   have nd:=sc_in_balance.nd;exact(zk (zp (z23 (ztn T.ug2 (zb (kj (zg uag hr.rmd (zb (zf 0) zd)) (zg uag hr.rmd (zb (zf 1) zd))) zd)) zo)))))
 have ubx:Cal P w K mg base 2 "size_above" ke:=(T.udz.cal sc_size_above (fun _ _ _ _ _ _=>ls2 fun _ _=>rfl) (fun f cdv A outer s H E hr=>by as_aux_lemma=>
   have nd:=sc_size_above.nd;exact(zk (zp (qx (qx (zg uah hr.rmd (zb (zf 0) zd)) zo) (zg uah hr.rmd (zb (zf 1) zd)))))))
 have ueb:Cal P w K mg base 1 "back" zd6:=(T.uhk.cal sc_back (fun _ _ _ _ _ _=>ls1 fun _=>rfl) (fun f cdv A outer s H E hr=>by as_aux_lemma=>
   have nd:=sc_back.nd;exact(ze (qj (zcl (zf 0) je) (zk (zp je)) zt) (zk (zp (zu (zf 0) (zw T.uea)))))))
 have hlt:∀t g,zhd t=some g->LCal P w K mg base 1 t g:=by
   intro t g e;unfold zhd at e;split at e
   · rename_i hx;cases e;subst hx;exact(z40 T).mono (by decide)
   cases e
 have hft:∀x g,ft x=some g->Cal P w K mg base 1 x g:=by intro x g e;unfold ft at e;cases e
 have ucx:Cal P w K mg base 2 "backward_sum" y7:=(T.uc2.cal sc_backward_sum (fun _ _ _ _ _ _=>ls4 fun _ _ _ _=>rfl) (fun f cdv A outer s H E hr=>by as_aux_lemma=>
   have nd:=sc_backward_sum.nd;exact(ze (zx 4 (zf 2) nd) (ze (qj (zc9 (zf 3) je) (zk (zx 4 (zbh hft hlt hr.rmd (zf 0) (zb (zg ueb hr.rmd (zb (zf 3) zd)) (zb (zf 4) zd))) nd)) zt) (ze (qj (zc9 (zf 1) je) (zk (zx 4 (zbh hft hlt hr.rmd (zf 0) (zb (zf 4) (zb (zg ueb hr.rmd (zb (zf 1) zd)) zd))) nd)) zt) (zk (zp (zf 4))))))))
 have uc0:Cal P w K mg base 1 "total" zam:=(T.uhb.cal sc_total (fun _ _ _ _ _ _=>ls1 fun _=>rfl) (fun f cdv A outer s H E hr=>by as_aux_lemma=>
   have nd:=sc_total.nd;exact(ze (qj (zcl (zf 0) je) (zk (zp je)) zt) (zk (zp (zu (zf 0) (zw T.ucz)))))))
 have ud4:Cal P w K mg base 2 "onward_sum" za5:=(T.uek.cal sc_onward_sum (fun _ _ _ _ _ _=>ls4 fun _ _ _ _=>rfl) (fun f cdv A outer s H E hr=>by as_aux_lemma=>
   have nd:=sc_onward_sum.nd;exact(ze (zx 4 (zf 2) nd) (ze (qj (zc9 (zf 1) je) (zk (zx 4 (zbh hft hlt hr.rmd (zf 0) (zb (zg uc0 hr.rmd (zb (zf 1) zd)) (zb (zf 4) zd))) nd)) zt) (ze (qj (zc9 (zf 3) je) (zk (zx 4 (zbh hft hlt hr.rmd (zf 0) (zb (zf 4) (zb (zg uc0 hr.rmd (zb (zf 3) zd)) zd))) nd)) zt) (zk (zp (zf 4))))))))
 have ubs:Cal P w K mg base 3 "sums_above" xm:=(T.uec.cal sc_sums_above (fun _ _ _ _ _ _=>ls4 fun _ _ _ _=>rfl) (fun f cdv A outer s H E hr=>by as_aux_lemma=>
   have nd:=sc_sums_above.nd;exact(ze (qj (zcl (zf 0) je) (zk (zp (jc (zb je (zb je zd))))) zt) (zk (zp (jc (zb (zg ud4 hr.rmd (zb (zf 0) (zb (zf 1) (zb (zf 2) (zb (zf 3) zd))))) (zb (zg ucx hr.rmd (zb (zf 0) (zb (zf 1) (zb (zf 2) (zb (zf 3) zd))))) zd))))))))
 have uab:Mth P w K mg base 4 "Wood" "node" qd:=T.uez.mth sc_Wood_node (fun _ _ _ _ _ _=>ls4 fun _ _ _ _=>rfl) (fun f cdv A outer s H E hr=>by as_aux_lemma=>
   have nd:=sc_Wood_node.nd;exact(ze (zx 4 (zg ubx hr.rmd (zb (zf 1) (zb (zf 3) zd))) nd) (ze (ko (zg ua8 hr.rmd (zb (zf 4) zd))) (ze (qj (yw (xn (zg uaw hr.rmd (zb (zf 1) (zb (zf 3) zd))))) (zk zb6) zt) (ze (zx 5 (jc (zb (zf 4) (zb (zg ubj hr.rmd (zb (zf 1) (zb (zf 3) zd))) zd))) nd) (ze (zx 6 (zg ubs hr.rmd (zb (ztm T.ubq (zf 0)) (zb (zf 1) (zb (zf 2) (zb (zf 3) zd))))) nd) (zk (zp (jd ube hr.rmd (zf 0) (zb (qx (qx (jc (zb y9 (zb (zf 1) (zb (zf 2) (zb (zf 3) zd))))) (zf 5)) (zf 6)) zd))))))))))
 have uap:Mth P w K mg base 2 "Wood" "turned" qv:=T.udq.mth sc_Wood_turned (fun _ _ _ _ _ _=>ls2 fun _ _=>rfl) (fun f cdv A outer s H E hr=>by as_aux_lemma=>
   have nd:=sc_Wood_turned.nd;exact(ze (qj (zcl (zf 1) je) (zk (zp je)) zt) (ze (zx 2 (jc (zb (zu (zf 1) (zw T.ua4)) (zb (zu (zf 1) (zw T.ua7)) (zb (zu (zf 1) (zw T.uaq)) zd)))) nd) (zk (zp (jd ube hr.rmd (zf 0) (zb (qx (qx (jc (zb (zo0 (zu (zf 1) (zw T.ubk))) zd)) (zf 2)) (jc (zb (zg uah hr.rmd (zb (zf 1) zd)) (zb (zg uag hr.rmd (zb (zf 1) zd)) (zb (zg ueb hr.rmd (zb (zf 1) zd)) (zb (zg uc0 hr.rmd (zb (zf 1) zd)) zd)))))) zd)))))))
 have uak:Cal P w K mg base 3 "parts" xb:=(T.uhc.cal sc_parts (fun _ _ _ _ _ _=>ls2 fun _ _=>rfl) (fun f cdv A outer s H E hr=>by as_aux_lemma=>
   have nd:=sc_parts.nd;exact(ze (qj (yw (xn (zu (zf 1) (zw T.ubk)))) (zk (zp (jc (zb (zu (zf 1) (zw T.ua4)) (zb (zu (zf 1) (zw T.ua7)) (zb (zu (zf 1) (zw T.uaq)) zd)))))) zt) (ze (zx 2 (jd uap hr.rmd (zf 0) (zb (zu (zf 1) (zw T.uaq)) zd)) nd) (ze (zx 3 (jd uap hr.rmd (zf 0) (zb (zu (zf 1) (zw T.ua4)) zd)) nd) (zk (zp (jc (zb (zf 2) (zb (zu (zf 1) (zw T.ua7)) (zb (zf 3) zd)))))))))))
 have udl:Cal P w K mg base 5 "lifted_left" zan:=(T.udn.cal sc_lifted_left (fun _ _ _ _ _ _=>ls4 fun _ _ _ _=>rfl) (fun f cdv A outer s H E hr=>by as_aux_lemma=>
   have nd:=sc_lifted_left.nd;exact(ze (zx 4 (zg uak hr.rmd (zb (zf 0) (zb (zf 1) zd))) nd) (ze (qj (zz8 (zg uag hr.rmd (zb (zu (zf 4) (zw T.uaa)) zd)) (zg uag hr.rmd (zb (zu (zf 4) (zw T.uac)) zd))) (zk (zp (jd uab hr.rmd (zf 0) (zb (zu (zf 4) (zw T.uaa)) (zb (zu (zf 4) (zw T.uad)) (zb (jd uab hr.rmd (zf 0) (zb (zu (zf 4) (zw T.uac)) (zb (zf 2) (zb (zf 3) zd)))) zd)))))) zt) (ze (zx 5 (zg uak hr.rmd (zb (zf 0) (zb (zu (zf 4) (zw T.uac)) zd))) nd) (ze (zx 6 (jd uab hr.rmd (zf 0) (zb (zu (zf 4) (zw T.uaa)) (zb (zu (zf 4) (zw T.uad)) (zb (zu (zf 5) (zw T.uaa)) zd)))) nd) (ze (zx 7 (jd uab hr.rmd (zf 0) (zb (zu (zf 5) (zw T.uac)) (zb (zf 2) (zb (zf 3) zd)))) nd) (zk (zp (jd uab hr.rmd (zf 0) (zb (zf 6) (zb (zu (zf 5) (zw T.uad)) (zb (zf 7) zd)))))))))))))
 have uc4:Cal P w K mg base 5 "lifted_right" y6:=(T.ucw.cal sc_lifted_right (fun _ _ _ _ _ _=>ls4 fun _ _ _ _=>rfl) (fun f cdv A outer s H E hr=>by as_aux_lemma=>
   have nd:=sc_lifted_right.nd;exact(ze (zx 4 (zg uak hr.rmd (zb (zf 0) (zb (zf 3) zd))) nd) (ze (qj (zz8 (zg uag hr.rmd (zb (zu (zf 4) (zw T.uac)) zd)) (zg uag hr.rmd (zb (zu (zf 4) (zw T.uaa)) zd))) (zk (zp (jd uab hr.rmd (zf 0) (zb (jd uab hr.rmd (zf 0) (zb (zf 1) (zb (zf 2) (zb (zu (zf 4) (zw T.uaa)) zd)))) (zb (zu (zf 4) (zw T.uad)) (zb (zu (zf 4) (zw T.uac)) zd)))))) zt) (ze (zx 5 (zg uak hr.rmd (zb (zf 0) (zb (zu (zf 4) (zw T.uaa)) zd))) nd) (ze (zx 6 (jd uab hr.rmd (zf 0) (zb (zf 1) (zb (zf 2) (zb (zu (zf 5) (zw T.uaa)) zd)))) nd) (ze (zx 7 (jd uab hr.rmd (zf 0) (zb (zu (zf 5) (zw T.uac)) (zb (zu (zf 4) (zw T.uad)) (zb (zu (zf 4) (zw T.uac)) zd)))) nd) (zk (zp (jd uab hr.rmd (zf 0) (zb (zf 6) (zb (zu (zf 5) (zw T.uad)) (zb (zf 7) zd)))))))))))))
 have uas:Cal P w K mg base 6 "balanced" jx:=(T.ufp.cal sc_balanced (fun _ _ _ _ _ _=>ls4 fun _ _ _ _=>rfl) (fun f cdv A outer s H E hr=>by as_aux_lemma=>
   have nd:=sc_balanced.nd;exact(ze (qj (xn (zg uaw hr.rmd (zb (zf 1) (zb (zf 3) zd)))) (zk (zp (jd uab hr.rmd (zf 0) (zb (zf 1) (zb (zf 2) (zb (zf 3) zd)))))) zt) (ze (qj (ziy (zg uag hr.rmd (zb (zf 1) zd)) (zg uag hr.rmd (zb (zf 3) zd))) (zk (zp (zg udl hr.rmd (zb (zf 0) (zb (zf 1) (zb (zf 2) (zb (zf 3) zd))))))) zt) (zk (zp (zg uc4 hr.rmd (zb (zf 0) (zb (zf 1) (zb (zf 2) (zb (zf 3) zd)))))))))))
 have uay:∀n:Nat,Cal P w K mg base (7+n) "joined" (kx n):=fun n=>by
   induction n with
   |zero=>exact T.ueh.none0 (ps:=["wood", "left", "thing", "right"]) (fun _ _ _ _ _ _=>ls4 fun _ _ _ _=>rfl)
   | succ n hself=>exact T.ueh.cal sc_joined (fun _ _ _ _ _ _=>ls4 fun _ _ _ _=>rfl) (fun f cdv A outer s H E hr0=>by as_aux_lemma=>
     have nd:=sc_joined.nd;have hr:=hr0.mono (z54 7 n);exact(ze (qj (xn (zg uaw hr.rmd (zb (zf 1) (zb (zf 3) zd)))) (zk (zp (jd uab hr.rmd (zf 0) (zb (zf 1) (zb (zf 2) (zb (zf 3) zd)))))) zt) (ze (qj (ziy (zg uag hr.rmd (zb (zf 1) zd)) (zg uag hr.rmd (zb (zf 3) zd))) (ze (zx 4 (zg uak hr.rmd (zb (zf 0) (zb (zf 1) zd))) nd) (zk (zp (zg uas hr.rmd (zb (zf 0) (zb (zu (zf 4) (zw T.uaa)) (zb (zu (zf 4) (zw T.uad)) (zb (zg hself hr0 (zb (zf 0) (zb (zu (zf 4) (zw T.uac)) (zb (zf 2) (zb (zf 3) zd))))) zd)))))))) zt) (ze (zx 4 (zg uak hr.rmd (zb (zf 0) (zb (zf 3) zd))) nd) (zk (zp (zg uas hr.rmd (zb (zf 0) (zb (zg hself hr0 (zb (zf 0) (zb (zf 1) (zb (zf 2) (zb (zu (zf 4) (zw T.uaa)) zd))))) (zb (zu (zf 4) (zw T.uad)) (zb (zu (zf 4) (zw T.uac)) zd)))))))))))
 have uay:=uay 40;have uej:Cal P w K mg base 1 "seen" zhg:=(T.uhs.cal sc_seen (fun _ _ _ _ _ _=>ls2 fun _ _=>rfl) (fun f cdv A outer s H E hr=>by as_aux_lemma=>
   have nd:=sc_seen.nd;exact(ze (qj (zaa hr (zu (zf 0) (zw T.ubk)) (zf 1)) (zk (zp (jc (zb (zu (zf 0) (zw T.ua4)) (zb (zu (zf 0) (zw T.ua7)) (zb (zu (zf 0) (zw T.uaq)) (zb y9 zd))))))) zt) (zk (zp (jc (zb (zu (zf 0) (zw T.uaq)) (zb (zu (zf 0) (zw T.ua7)) (zb (zu (zf 0) (zw T.ua4)) (zb y9 zd))))))))))
 have uat:∀n:Nat,Cal P w K mg base (2+n) "thing_at" (xl n):=fun n=>by
   induction n with
   |zero=>exact T.ucp.none0 (ps:=["make", "turned", "place"]) (fun _ _ _ _ _ _=>ls3 fun _ _ _=>rfl)
   | succ n hself=>exact T.ucp.cal sc_thing_at (fun _ _ _ _ _ _=>ls3 fun _ _ _=>rfl) (fun f cdv A outer s H E hr0=>by as_aux_lemma=>
     have nd:=sc_thing_at.nd;have hr:=hr0.mono (z54 2 n);exact(ze (zx 3 (zg uej hr.rmd (zb (zf 0) (zb (zf 1) zd))) nd) (ze (zx 4 (zg uah hr.rmd (zb (zu (zf 3) (zw T.uaa)) zd)) nd) (ze (qj (zo2 (zf 2) (zf 4)) (zk (zp (zg hself hr0 (zb (zu (zf 3) (zw T.uaa)) (zb (zu (zf 3) (zw T.ua0)) (zb (zf 2) zd)))))) zt) (ze (qj (ziy (zf 2) (zf 4)) (zk (zp (zg hself hr0 (zb (zu (zf 3) (zw T.uac)) (zb (zu (zf 3) (zw T.ua0)) (zb (kj (kj (zf 2) (zf 4)) zo) zd)))))) zt) (zk (zp (zu (zf 3) (zw T.uad)))))))))
 have uat:=uat 40;have ub2:=zcr (P:=P) (w:=w) (base:=base) T uas uak uah uay uat 40;have ubd:=zas (P:=P) (w:=w) (base:=base) T uay uat ub2;have ug1:Cal P w K mg base 129 "out" zrf:=(T.uhz.cal sc_out (fun _ _ _ _ _ _=>ls3 fun _ _ _=>rfl) (fun f cdv A outer s H E hr=>by as_aux_lemma=>
   have nd:=sc_out.nd;exact(ze (ko (zg uao hr.rmd (zb (zf 2) (zb (zg uah hr.rmd (zb (zf 1) zd)) zd)))) (zk (zp (zg ub2 hr.rmd (zb (zf 0) (zb (zf 1) (zb (zf 2) zd)))))))))
 have uht:Cal P w K mg base 43 "at" zzv:=(T.uh0.cal sc_at (fun _ _ _ _ _ _=>ls2 fun _ _=>rfl) (fun f cdv A outer s H E hr=>by as_aux_lemma=>
   have nd:=sc_at.nd;exact(ze (ko (zg uao hr.rmd (zb (zf 1) (zb (zg uah hr.rmd (zb (zf 0) zd)) zd)))) (zk (zp (zg uat hr.rmd (zb (zf 0) (zb y9 (zb (zf 1) zd)))))))))
 have hct1:∀t g,zgd t=some g->CCal P w K mg base 2 t g:=by
   intro t g e;unfold zgd at e;split at e
   · rename_i hx;cases e;subst hx;exact(z32 T uai).mono (by decide)
   split at e
   · rename_i hx;cases e;subst hx;exact(z31 T uai).mono (by decide)
   split at e
   · rename_i hx;cases e;subst hx;exact(z41 T uai).mono (by decide)
   cases e
 have hct:∀t g,zr2 t=some g->CCal P w K mg base 3 t g:=by
   intro t g e;unfold zr2 at e;split at e
   · rename_i hx;cases e;subst hx;exact(z42 T hct1).mono (by decide)
   cases e
 have ua6:Cal P w K mg base 44 "is_alike_at" qy:=(T.udr.cal sc_is_alike_at (fun _ _ _ _ _ _=>ls4 fun _ _ _ _=>rfl) (fun f cdv A outer s H E hr=>by as_aux_lemma=>
   have nd:=sc_is_alike_at.nd;exact(zk (zp (zct (z22 (zf 1) (zg uah hr.rmd (zb (zf 0) zd))) (zd9 (zo0 (zf9 (fun x g e=>(hft x g e).mono (by decide)) (fun t g e=>(hlt t g e).mono (by decide)) hct hr.rmd (zf 3) (zb (zf 2) (zb (zg uht hr.rmd (zb (zf 0) (zb (zf 1) zd))) zd))))))))))
 have uaz:∀n:Nat,Cal P w K mg base (4+n) "count_before" (x5 n):=fun n=>by
   induction n with
   |zero=>exact T.ubi.none0 (ps:=["make", "turned", "thing", "before"]) (fun _ _ _ _ _ _=>ls4 fun _ _ _ _=>rfl)
   | succ n hself=>exact T.ubi.cal sc_count_before (fun _ _ _ _ _ _=>ls4 fun _ _ _ _=>rfl) (fun f cdv A outer s H E hr0=>by as_aux_lemma=>
     have nd:=sc_count_before.nd;have hr:=hr0.mono (z54 4 n);exact(ze (qj (zcl (zf 0) je) (zk (zp zo)) zt) (ze (zx 4 (zg uej hr.rmd (zb (zf 0) (zb (zf 1) zd))) nd) (ze (qj (xn (zf9 (fun x g e=>(hft x g e).mono (by decide)) (fun t g e=>(hlt t g e).mono (by decide)) hct hr.rmd (zf 3) (zb (zu (zf 4) (zw T.uad)) (zb (zf 2) zd)))) (zk (zp (qx (qx (zg uah hr.rmd (zb (zu (zf 4) (zw T.uaa)) zd)) zo) (zg hself hr0 (zb (zu (zf 4) (zw T.uac)) (zb (zu (zf 4) (zw T.ua0)) (zb (zf 2) (zb (zf 3) zd)))))))) zt) (zk (zp (zg hself hr0 (zb (zu (zf 4) (zw T.uaa)) (zb (zu (zf 4) (zw T.ua0)) (zb (zf 2) (zb (zf 3) zd)))))))))))
 have uaz:=uaz 40;have ubp:Cal P w K mg base 45 "place_of" xx:=(T.ufl.cal sc_place_of (fun _ _ _ _ _ _=>ls3 fun _ _ _=>rfl) (fun f cdv A outer s H E hr=>by as_aux_lemma=>
   have nd:=sc_place_of.nd;exact(zk (zp (zg uaz hr.rmd (zb (zf 0) (zb y9 (zb (zf 1) (zb (zf 2) zd)))))))))
 have ubc:Cal P w K mg base 46 "place_of_alike" q8:=(T.uba.cal sc_place_of_alike (fun _ _ _ _ _ _=>ls3 fun _ _ _=>rfl) (fun f cdv A outer s H E hr=>by as_aux_lemma=>
   have nd:=sc_place_of_alike.nd;exact(ze (zx 3 (zg ubp hr.rmd (zb (zf 0) (zb (zf 1) (zb (zf 2) zd)))) nd) (ze (qj (yw (xn (zg ua6 hr.rmd (zb (zf 0) (zb (zf 3) (zb (zf 1) (zb (zf 2) zd))))))) (zk zb6) zt) (zk (zp (zf 3)))))))
 have jf:RCal P w K mg base 46 "place_of_alike" jf:=T.uba.rcal sc_place_of_alike (fun _ _ _ _ _ _=>ls3 fun _ _ _=>rfl) (fun f cdv A outer s H E hr=>by as_aux_lemma=>
   have nd:=sc_place_of_alike.nd;exact(zqn (zx 3 (zg ubp hr.rmd (zb (zf 0) (zb (zf 1) (zb (zf 2) zd)))) nd) (zxt (yw (xn (zg ua6 hr.rmd (zb (zf 0) (zb (zf 3) (zb (zf 1) (zb (zf 2) zd))))))) (zfn (zqo T.ufv (zb zkb zd))) zqm)))
 have uf3:Cal P w K mg base 130 "dropped" zb5:=(T.ude.cal sc_dropped (fun _ _ _ _ _ _=>ls4 fun _ _ _ _=>rfl) (fun f cdv A outer s H E hr=>by as_aux_lemma=>
   have nd:=sc_dropped.nd;exact(zk (zp (zg ug1 hr.rmd (zb (zf 0) (zb (zf 1) (zb (zg ubc hr.rmd (zb (zf 1) (zb (zf 2) (zb (zf 3) zd)))) zd))))))))
 have zad:RCal P w K mg base 130 "dropped" zad:=T.ude.rcal sc_dropped (fun _ _ _ _ _ _=>ls4 fun _ _ _ _=>rfl) (fun f cdv A outer s H E hr=>by as_aux_lemma=>
   have nd:=sc_dropped.nd;exact(zfn (zsv (zqr ug1 (znc (zf 0) (znc (zf 1) (zus (zii jf hr.rmd (zb (zf 1) (zb (zf 2) (zb (zf 3) zd)))))))))))
 have ub8:Cal P w K mg base 1 "sought" yu:=(T.ugw.cal sc_sought (fun _ _ _ _ _ _=>ls1 fun _=>rfl) (fun f cdv A outer s H E hr=>by as_aux_lemma=>
   have nd:=sc_sought.nd;exact(zk (zp (jc (zb (zf 0) (zb je zd)))))))
 have udc:Cal P w K mg base 131 "without" za4:=(T.udd.cal sc_without (fun _ _ _ _ _ _=>ls4 fun _ _ _ _=>rfl) (fun f cdv A outer s H E hr=>by as_aux_lemma=>
   have nd:=sc_without.nd;exact(zk (zp (zg uf3 hr.rmd (zb (zf 0) (zb (zf 1) (zb (zg ub8 hr.rmd (zb (zf 2) zd)) (zb (zg ubn hr.rmd (zb (zf 3) zd)) zd)))))))))
 have zac:RCal P w K mg base 131 "without" zac:=T.udd.rcal sc_without (fun _ _ _ _ _ _=>ls4 fun _ _ _ _=>rfl) (fun f cdv A outer s H E hr=>by as_aux_lemma=>
   have nd:=sc_without.nd;exact(zfn (zsv (zii zad hr.rmd (zb (zf 0) (zb (zf 1) (zb (zg ub8 hr.rmd (zb (zf 2) zd)) (zb (zg ubn hr.rmd (zb (zf 3) zd)) zd))))))))
 have uct:Cal P w K mg base 132 "_law_refusal" y8:=(T.uc9.cal sc__law_refusal (fun _ _ _ _ _ _=>ls4 fun _ _ _ _=>rfl) (fun f cdv A outer s H E hr=>by as_aux_lemma=>
   have nd:=sc__law_refusal.nd;exact(ze (zx 4 (zfa zd) nd) (ze (zzy 5 (fun _=>(zk (ko (zg udc hr.rmd (zb (zf 0) (zb (zf 1) (zb (zf 2) (zb (zf 3) zd)))))))) (fun _=>(zql (zur (zii zac hr.rmd (zb (zf 0) (zb (zf 1) (zb (zf 2) (zb (zf 3) zd)))))))) (fun _ _=>(ze (zx 6 (zo1 T.up T.uaj (zb (zf 5) (zb (jc (zb (zea T.uga) (zb (zea T.ue4) (zb (zea T.ugy) (zb (zea T.ugv) (zb (zea T.ufh) (zb (zea T.uf4) (zb (zea T.ug5) (zb (zea T.ug4) (zb (zea T.uhf) (zb (zea T.uf6) zd))))))))))) zd))) nd) (zk (zx 4 (zfa (zb (zo1 T.up T.uaj (zb (zf 5) (zb (zea T.ugd) zd))) (zb (zo1 T.up T.uaj (zb (zf 5) (zb (zhl "ValueError" T.ud7 F.boot_ValueError) zd))) (zb (zf 6) zd)))) nd)))) nd T.up.cat) (zk (zp (zf 4))))))).frz
 have ucc:∀n:Nat,Cal P w K mg base (7+n) "put_in" (zc5 n):=fun n=>by
   induction n with
   |zero=>exact T.uep.none0 (ps:=["wood", "make", "place", "thing"]) (fun _ _ _ _ _ _=>ls4 fun _ _ _ _=>rfl)
   | succ n hself=>exact T.uep.cal sc_put_in (fun _ _ _ _ _ _=>ls4 fun _ _ _ _=>rfl) (fun f cdv A outer s H E hr0=>by as_aux_lemma=>
     have nd:=sc_put_in.nd;have hr:=hr0.mono (z54 7 n);exact(ze (qj (zcl (zf 1) je) (zk (zp (jd uab hr.rmd (zf 0) (zb je (zb (zf 3) (zb je zd)))))) zt) (ze (zx 4 (zg uak hr.rmd (zb (zf 0) (zb (zf 1) zd))) nd) (ze (zx 5 (zg uah hr.rmd (zb (zu (zf 4) (zw T.uaa)) zd)) nd) (ze (qj (zz7 (zf 2) (zf 5)) (zk (zp (zg uas hr.rmd (zb (zf 0) (zb (zg hself hr0 (zb (zf 0) (zb (zu (zf 4) (zw T.uaa)) (zb (zf 2) (zb (zf 3) zd))))) (zb (zu (zf 4) (zw T.uad)) (zb (zu (zf 4) (zw T.uac)) zd))))))) zt) (zk (zp (zg uas hr.rmd (zb (zf 0) (zb (zu (zf 4) (zw T.uaa)) (zb (zu (zf 4) (zw T.uad)) (zb (zg hself hr0 (zb (zf 0) (zb (zu (zf 4) (zw T.uac)) (zb (kj (kj (zf 2) (zf 5)) zo) (zb (zf 3) zd))))) zd))))))))))))
 have ucc:=ucc 40;have uhw:Cal P w K mg base 48 "put" zre:=(T.uhu.cal sc_put (fun _ _ _ _ _ _=>ls4 fun _ _ _ _=>rfl) (fun f cdv A outer s H E hr=>by as_aux_lemma=>
   have nd:=sc_put.nd;exact(ze (ko (zg uao hr.rmd (zb (zf 2) (zb (qx (zg uah hr.rmd (zb (zf 1) zd)) zo) zd)))) (ze (ko (zg ua8 hr.rmd (zb (qx (zg uah hr.rmd (zb (zf 1) zd)) zo) zd))) (zk (zp (zg ucc hr.rmd (zb (zf 0) (zb (zf 1) (zb (zf 2) (zb (zf 3) zd)))))))))))
 have ucu:∀n:Nat,Cal P w K mg base (5+n) "given" (zf6 n):=fun n=>by
   induction n with
   |zero=>exact T.ue6.none0 (ps:=["wood", "make", "place", "thing"]) (fun _ _ _ _ _ _=>ls4 fun _ _ _ _=>rfl)
   | succ n hself=>exact T.ue6.cal sc_given (fun _ _ _ _ _ _=>ls4 fun _ _ _ _=>rfl) (fun f cdv A outer s H E hr0=>by as_aux_lemma=>
     have nd:=sc_given.nd;have hr:=hr0.mono (z54 5 n);exact(ze (zx 4 (zg uak hr.rmd (zb (zf 0) (zb (zf 1) zd))) nd) (ze (zx 5 (zg uah hr.rmd (zb (zu (zf 4) (zw T.uaa)) zd)) nd) (ze (qj (zo2 (zf 2) (zf 5)) (zk (zp (jd uab hr.rmd (zf 0) (zb (zg hself hr0 (zb (zf 0) (zb (zu (zf 4) (zw T.uaa)) (zb (zf 2) (zb (zf 3) zd))))) (zb (zu (zf 4) (zw T.uad)) (zb (zu (zf 4) (zw T.uac)) zd)))))) zt) (ze (qj (ziy (zf 2) (zf 5)) (zk (zp (jd uab hr.rmd (zf 0) (zb (zu (zf 4) (zw T.uaa)) (zb (zu (zf 4) (zw T.uad)) (zb (zg hself hr0 (zb (zf 0) (zb (zu (zf 4) (zw T.uac)) (zb (kj (kj (zf 2) (zf 5)) zo) (zb (zf 3) zd))))) zd)))))) zt) (zk (zp (jd uab hr.rmd (zf 0) (zb (zu (zf 4) (zw T.uaa)) (zb (zf 3) (zb (zu (zf 4) (zw T.uac)) zd)))))))))))
 have ucu:=ucu 40;have ugb:Cal P w K mg base 46 "swapped" zd5:=(T.ufw.cal sc_swapped (fun _ _ _ _ _ _=>ls4 fun _ _ _ _=>rfl) (fun f cdv A outer s H E hr=>by as_aux_lemma=>
   have nd:=sc_swapped.nd;exact(ze (ko (zg uao hr.rmd (zb (zf 2) (zb (zg uah hr.rmd (zb (zf 1) zd)) zd)))) (zk (zp (zg ucu hr.rmd (zb (zf 0) (zb (zf 1) (zb (zf 2) (zb (zf 3) zd))))))))))
 have ueg:Cal P w K mg base 49 "with_value" x9:=(T.ued.cal sc_with_value (fun _ _ _ _ _ _=>ls5 fun _ _ _ _ _=>rfl) (fun f cdv A outer s H E hr=>by as_aux_lemma=>
   have nd:=sc_with_value.nd;exact(ze (zx 5 (jc (zb (zf 2) (zb (zf 3) zd))) nd) (ze (zx 6 (zg ubn hr.rmd (zb (zf 4) zd)) nd) (ze (zx 7 (zg ubp hr.rmd (zb (zf 1) (zb (zf 5) (zb (zf 6) zd)))) nd) (ze (qj (xn (zg ua6 hr.rmd (zb (zf 1) (zb (zf 7) (zb (zf 5) (zb (zf 6) zd)))))) (zk (zp (zg ugb hr.rmd (zb (zf 0) (zb (zf 1) (zb (zf 7) (zb (zf 5) zd))))))) zt) (zk (zp (zg uhw hr.rmd (zb (zf 0) (zb (zf 1) (zb (zf 7) (zb (zf 5) zd)))))))))))))
 have ubf:Cal P w K mg base 133 "_law_done" yk:=(T.ueq.calA sc__law_done (fun _ _ _ _ _ _=>ls7 fun _ _ _ _ _ _ _=>rfl) (fun f cdv co A outer s H E hr=>by as_aux_lemma=>
   have nd:=sc__law_done.nd;apply Exists.intro;exact(ze (zx 7 (ziw 3 co T.blt rfl) nd) (ze (by exact z20 8 (zee (x:="_law_pair") (N':=["_law_kind", "_law_mark"]) (fr:=[5,3]) (by decide +kernel) rfl rfl rfl rfl rfl) (zug (zf 2)) (fun _ _ _ _=>.one (zlp hr (zg uai hr.rmd (zb (zf 1) (zb (zu (zf 0) zo) zd))) (zg uai hr.rmd (zb (zf 1) (zb (zf 2) zd))))) (fun _ _ _ _=>(zf 0)) nd) (ze (qj (zwy (zoq (xn (zf 6)) (ziu (zaa hr (zae T.ual (zb (zf 8) zd)) (zae T.ual (zb (zf 2) zd)))))) (ze (qj (zlp hr (by exact(zc8 uct (CapsOk.mk rfl rfl (z5z.mpr ⟨rfl,(fun _ h=>nomatch h)⟩) (by decide +kernel) rfl (z5z.mpr ⟨rfl,(fun _ h=>nomatch h)⟩) (fun _ _=>rfl)) hr.rmd (xg (zf 0) (xg (zf 1) (xg (zf 3) (zda (zf 7))))))) (zfa (zb y9 (zb y9 (zb y9 zd))))) (zk (zp je)) zt) (zk (zp (jc (zb (zf 1) (zb (zf 2) zd)))))) zt) (ze (qj (xn (zf 6)) (zk (zp (jc (zb (by exact(zc8 udc (CapsOk.mk rfl rfl (z5z.mpr ⟨rfl,(fun _ h=>nomatch h)⟩) (by decide +kernel) rfl (z5z.mpr ⟨rfl,(fun _ h=>nomatch h)⟩) (fun _ _=>rfl)) hr.rmd (xg (zf 0) (xg (zf 1) (xg (zf 3) (zda (zf 7))))))) (zb (zf 8) zd))))) zt) (ze (by exact z2z 9 (t:=lt_1) (zee (x:="_law_pair") (N':=["_law_before", "_law_mark"]) (fr:=[7,3]) (by decide +kernel) rfl rfl rfl rfl rfl) (zug (zf 8)) (CapsOk.mk rfl rfl (z5z.mpr ⟨rfl,(fun _ h=>nomatch h)⟩) (by decide +kernel) rfl (z5z.mpr ⟨rfl,(fun _ h=>nomatch h)⟩) (fun _ _=>rfl)) (fun kv _ _ _ _ fc=>.one (xn (zrs (z32 T uai) fc hr.rmd (zf 1) (zb (zu (zf 0) zo) (zb (zf 2) zd))))) (fun _ _ _ _=>(zf 0)) nd) (zk (zp (jc (zb (by exact(zc8 ueg (CapsOk.mk rfl rfl (z5z.mpr ⟨rfl,(fun _ h=>nomatch h)⟩) (by decide +kernel) rfl (z5z.mpr ⟨rfl,(fun _ h=>nomatch h)⟩) (fun _ _=>rfl)) hr.rmd (xg (zf 0) (xg (zf 1) (xg (zf 3) (xg (zf 4) (zda (zf 7)))))))) (zb (qx (qx (zf 9) (zfa (zb (jc (zb (zf 3) (zb (zf 4) zd))) zd))) (zc7 (zf 8) (zbs (zae T.ual (zb (zf 9) zd))) zd8)) zd))))))))))))
 have uax:Cal P w K mg base 1 "_law_thing" jp:=(T.ud9.cal sc__law_thing (fun _ _ _ _ _ _=>ls2 fun _ _=>rfl) (fun f cdv A outer s H E hr=>by as_aux_lemma=>
   have nd:=sc__law_thing.nd;exact(ze (qj (zwy (zoq (zo2 (zf 0) zo) (ziu (zaa hr (jw (zf 1) zo) zo)))) (zk (zp (kj (qx (jw (zb8 (qx (zf 1) zo) (zkc zo zo)) (kj (zb8 zo (zkc zo zo)) zo)) zo) (zkc zo zo)))) zt) (ze (qj (zo2 (zf 0) zo) (zk (zp (kj (jw (zcs (zf 1) zo) zo) zo))) zt) (ze (zx 2 zkb nd) (ze (zor 3 nd T.uc7 (qx zo (jw (zf 1) zo)) (zk (zx 2 (qx (zf 2) (zu zkb (jw (zcs (zf 1) (zu (jc (zb zo (zb zo (zb zo (zb zo (zb zo (zb zo (zb zo (zb zo zd))))))))) (zf 3))) zo))) nd)) z9a) (zk (zp (zf 2)))))))))
 have ua9:Cal P w K mg base 5 "_law_pairs" ki:=(T.uel.calL sc__law_pairs (fun _ _ _ _ _ _=>ls2 fun _ _=>rfl) (fun f cdv co A outer s H E hr=>by as_aux_lemma=>
   have nd:=sc__law_pairs.nd;exact(ze (zx 2 (ziv zd) nd) (ze (zor 3 nd T.uc7 (jw (zg uaf hr.rmd (zb (zf 0) (zb zo zd))) zo) (ze (zx 4 (zg uaf hr.rmd (zb (zf 0) (zb (qx zo (zf 3)) zd))) nd) (ze (zx 5 (zg uax hr.rmd (zb (zf 1) (zb (zf 4) zd))) nd) (zk (qj (zaa hr (by exact z25 (zee (x:="_law_pair") (N':=["_law_kind", "_law_mark"]) (fr:=[1,5]) (by decide +kernel) rfl rfl rfl rfl rfl) (zug (zf 2)) (fun _ _ _ _=>.one (zaa hr (zg uai hr.rmd (zb (zf 1) (zb (zu (zf 0) zo) zd))) (zg uai hr.rmd (zb (zf 1) (zb (zf 2) zd))))) (fun _ _ _ _=>(zf 0))) (zfa zd)) (zk (zd7 (zf 2) (jc (zb (zf 5) (zb (jw (zf 4) zo) zd))))) zt)))) z9a) (zk (zp (zrp (z31 T uai) (CapsOk.mk rfl rfl (z5z.mpr ⟨rfl,(fun _ h=>nomatch h)⟩) (by decide +kernel) rfl (z5z.mpr ⟨rfl,(fun _ h=>nomatch h)⟩) (fun _ _=>rfl)) hr.rmd (zf 2) (zs5 1 co T.blt rfl) T.ugz))))))).frz
 have uc1:∀n:Nat,Cal P w K mg base (5+n) "built" (zf7 n):=fun n=>by
   induction n with
   |zero=>exact T.ue7.none0 (ps:=["wood", "things", "start", "end"]) (fun _ _ _ _ _ _=>ls4 fun _ _ _ _=>rfl)
   | succ n hself=>exact T.ue7.cal sc_built (fun _ _ _ _ _ _=>ls4 fun _ _ _ _=>rfl) (fun f cdv A outer s H E hr0=>by as_aux_lemma=>
     have nd:=sc_built.nd;have hr:=hr0.mono (z54 5 n);exact(ze (qj (zaa hr (zf 2) (zf 3)) (zk (zp je)) zt) (ze (zx 4 (zcs (qx (zf 2) (zf 3)) zo) nd) (ze (zx 5 (zg hself hr0 (zb (zf 0) (zb (zf 1) (zb (zf 2) (zb (zf 4) zd))))) nd) (ze (zx 6 (zg hself hr0 (zb (zf 0) (zb (zf 1) (zb (qx (zf 4) zo) (zb (zf 3) zd))))) nd) (zk (zp (jd uab hr.rmd (zf 0) (zb (zf 5) (zb (zu (zf 1) (zf 4)) (zb (zf 6) zd)))))))))))
 have uc1:=uc1 40;have ubv:Cal P w K mg base 46 "make_of" za6:=(T.uf0.cal sc_make_of (fun _ _ _ _ _ _=>ls2 fun _ _=>rfl) (fun f cdv A outer s H E hr=>by as_aux_lemma=>
   have nd:=sc_make_of.nd;exact(ze (ko (zg ua8 hr.rmd (zb (zae T.ual (zb (zf 1) zd)) zd))) (zk (zp (zg uc1 hr.rmd (zb (zf 0) (zb (zf 1) (zb zo (zb (zae T.ual (zb (zf 1) zd)) zd))))))))))
 have ucr:Cal P w K mg base 2 "check_stretch" yj:=(T.uch.cal sc_check_stretch (fun _ _ _ _ _ _=>ls3 fun _ _ _=>rfl) (fun f cdv A outer s H E hr=>by as_aux_lemma=>
   have nd:=sc_check_stretch.nd;exact(zk (qj (yw (zo3 zo (zf 1) (zf 2) (zg uah hr.rmd (zb (zf 0) zd)))) (zk zb6) zt))))
 have ua3:∀n:Nat,Cal P w K mg base (48+n) "cut_ahead" (yi n):=fun n=>by
   induction n with
   |zero=>exact T.ub1.none0 (ps:=["wood", "make", "place"]) (fun _ _ _ _ _ _=>ls3 fun _ _ _=>rfl)
   | succ n hself=>exact T.ub1.cal sc_cut_ahead (fun _ _ _ _ _ _=>ls3 fun _ _ _=>rfl) (fun f cdv A outer s H E hr0=>by as_aux_lemma=>
     have nd:=sc_cut_ahead.nd;have hr:=hr0.mono (z54 48 n);exact(ze (qj (zaa hr (zf 2) zo) (zk (zp (jc (zb je (zb (zf 1) zd))))) zt) (ze (qj (zaa hr (zf 2) (zg uah hr.rmd (zb (zf 1) zd))) (zk (zp (jc (zb (zf 1) (zb je zd))))) zt) (ze (zx 3 (zg uak hr.rmd (zb (zf 0) (zb (zf 1) zd))) nd) (ze (zx 4 (zg uah hr.rmd (zb (zu (zf 3) (zw T.uaa)) zd)) nd) (ze (qj (zz7 (zf 2) (zf 4)) (ze (zx 5 (zg hself hr0 (zb (zf 0) (zb (zu (zf 3) (zw T.uaa)) (zb (zf 2) zd)))) nd) (zk (zp (jc (zb (zu (zf 5) zo) (zb (zg uay hr.rmd (zb (zf 0) (zb (zu (zf 5) zo) (zb (zu (zf 3) (zw T.uad)) (zb (zu (zf 3) (zw T.uac)) zd))))) zd)))))) zt) (ze (zx 5 (zg hself hr0 (zb (zf 0) (zb (zu (zf 3) (zw T.uac)) (zb (kj (kj (zf 2) (zf 4)) zo) zd)))) nd) (zk (zp (jc (zb (zg uay hr.rmd (zb (zf 0) (zb (zu (zf 3) (zw T.uaa)) (zb (zu (zf 3) (zw T.uad)) (zb (zu (zf 5) zo) zd))))) (zb (zu (zf 5) zo) zd))))))))))))
 have ua3:=ua3 40;have uds:Cal P w K mg base 130 "turned_part" zal:=(T.udw.cal sc_turned_part (fun _ _ _ _ _ _=>ls4 fun _ _ _ _=>rfl) (fun f cdv A outer s H E hr=>by as_aux_lemma=>
   have nd:=sc_turned_part.nd;exact(ze (ko (zg ucr hr.rmd (zb (zf 1) (zb (zf 2) (zb (zf 3) zd))))) (ze (zx 4 (zg ua3 hr.rmd (zb (zf 0) (zb (zf 1) (zb (zf 3) zd)))) nd) (ze (zx 5 (zg ua3 hr.rmd (zb (zf 0) (zb (zu (zf 4) zo) (zb (zf 2) zd)))) nd) (ze (zx 6 (zg ubd hr.rmd (zb (zf 0) (zb (zu (zf 5) zo) (zb (jd uap hr.rmd (zf 0) (zb (zu (zf 5) zo) zd)) zd)))) nd) (zk (zp (zg ubd hr.rmd (zb (zf 0) (zb (zf 6) (zb (zu (zf 4) zo) zd))))))))))))
 have ubb:Cal P w K mg base 131 "_law_table" kh:=(T.uee.cal sc__law_table (fun _ _ _ _ _ _=>ls3 fun _ _ _=>rfl) (fun f cdv A outer s H E hr=>by as_aux_lemma=>
   have nd:=sc__law_table.nd;exact(ze (zx 3 (jw (zg uaf hr.rmd (zb (zf 0) (zb zo zd))) zo) nd) (ze (qj (zaa hr (zf 3) zo) (zk (zp (zg ubv hr.rmd (zb (zf 1) (zb (zrq T.ubu (zb (zf 2) zd)) zd))))) zt) (ze (qj (zaa hr (zf 3) zo) (zk (zp (jd uap hr.rmd (zf 1) (zb (zg ubv hr.rmd (zb (zf 1) (zb (zfb T.ubu T.ucn (zf 2)) zd))) zd)))) zt) (ze (zx 4 (jw (zg uaf hr.rmd (zb (zf 0) (zb zo zd))) (qx (zae T.ual (zb (zf 2) zd)) zo)) nd) (ze (zx 5 (qx (zf 4) (jw (zg uaf hr.rmd (zb (zf 0) (zb zo zd))) (kj (qx (zae T.ual (zb (zf 2) zd)) zo) (zf 4)))) nd) (ze (zx 6 (zfb T.ubu T.ucn (zc7 (zf 2) (zbs (zf 4)) (zbs (zf 5)))) nd) (zk (zp (zg uds hr.rmd (zb (zf 1) (zb (zg ubv hr.rmd (zb (zf 1) (zb (qx (qx (zc7 (zf 2) zd8 (zbs (zf 4))) (zf 6)) (zc7 (zf 2) (zbs (zf 5)) zd8)) zd))) (zb (zf 4) (zb (zf 5) zd)))))))))))))))
 have ub9:∀n:Nat,Cal P w K mg base (2+n) "gather" (zc6 n):=fun n=>by
   induction n with
   |zero=>exact T.ud3.none0 (ps:=["make", "turned", "found"]) (fun _ _ _ _ _ _=>ls3 fun _ _ _=>rfl)
   | succ n hself=>exact T.ud3.cal sc_gather (fun _ _ _ _ _ _=>ls3 fun _ _ _=>rfl) (fun f cdv A outer s H E hr0=>by as_aux_lemma=>
     have nd:=sc_gather.nd;have hr:=hr0.mono (z54 2 n);exact(ze (qj (zcl (zf 0) je) (zk zvz) zt) (ze (zx 3 (zg uej hr.rmd (zb (zf 0) (zb (zf 1) zd))) nd) (ze (ko (zg hself hr0 (zb (zu (zf 3) (zw T.uaa)) (zb (zu (zf 3) (zw T.ua0)) (zb (zf 2) zd))))) (ze (zd7 (zf 2) (zu (zf 3) (zw T.uad))) (zk (ko (zg hself hr0 (zb (zu (zf 3) (zw T.uac)) (zb (zu (zf 3) (zw T.ua0)) (zb (zf 2) zd)))))))))))
 have ub9:=ub9 40;have ua2:Cal P w K mg base 43 "things_of" xj:=(T.ueu.cal sc_things_of (fun _ _ _ _ _ _=>ls1 fun _=>rfl) (fun f cdv A outer s H E hr=>by as_aux_lemma=>
   have nd:=sc_things_of.nd;exact(ze (zx 1 (ziv zd) nd) (ze (ko (zg ub9 hr.rmd (zb (zf 0) (zb y9 (zb (zf 1) zd))))) (zk (zp (zf 1))))))).frz
 have ufd:Cal P w K mg base 47 "value_of" ya:=(T.ufo.cal sc_value_of (fun _ _ _ _ _ _=>ls3 fun _ _ _=>rfl) (fun f cdv A outer s H E hr=>by as_aux_lemma=>
   have nd:=sc_value_of.nd;exact(zk (zp (zu (zg uht hr.rmd (zb (zf 0) (zb (zg ubc hr.rmd (zb (zf 0) (zb (zg ub8 hr.rmd (zb (zf 1) zd)) (zb (zg ubn hr.rmd (zb (zf 2) zd)) zd)))) zd))) (zw T.uhd))))))
 have ua5:Cal P w K mg base 48 "_law_valued" xp:=(T.udu.calA sc__law_valued (fun _ _ _ _ _ _=>ls3 fun _ _ _=>rfl) (fun f cdv co A outer s H E hr=>by as_aux_lemma=>
   have nd:=sc__law_valued.nd;apply Exists.intro;exact(ze (zx 3 (ziw 0 co T.blt rfl) nd) (ze (zrk [4,5] (kz 4 nd (kz 5 nd Names.nil)) (zf 1) (zk (qj (zlp hr (by exact(zc8 ufd (CapsOk.mk rfl rfl (z5z.mpr ⟨rfl,(fun _ h=>nomatch h)⟩) (by decide +kernel) rfl (z5z.mpr ⟨rfl,(fun _ h=>nomatch h)⟩) (fun _ _=>rfl)) hr.rmd (xg (zf 0) (xg (zf 4) (zda (zf 3)))))) (zf 5)) (zk (zp y9)) zt)) z9a) (zk (zp (zix hr (zg ua2 hr.rmd (zb (zf 0) zd)) (zf 1))))))))
 have ubo:Cal P w K mg base 1 "is_whole" zbg:=(T.ufb.cal sc_is_whole (fun _ _ _ _ _ _=>ls1 fun _=>rfl) (fun f cdv A outer s H E hr=>by as_aux_lemma=>
   have nd:=sc_is_whole.nd;exact(zk (zp (zct (zke T.uaj (zb (zf 0) (zb (zhl "int" T.uhy F.boot_int) zd))) (zd9 (zo0 (zke T.uaj (zb (zf 0) (zb (zhl "bool" T.ufu F.boot_bool) zd))))))))))
 have ufg:Cal P w K mg base 2 "has_form" zck:=(T.ufe.cal sc_has_form (fun _ _ _ _ _ _=>ls1 fun _=>rfl) (fun f cdv A outer s H E hr=>by as_aux_lemma=>
   have nd:=sc_has_form.nd;exact(ze (qj (zwy (zvy (yw (xn (zke T.uaj (zb (zf 0) (zb (zhl "tuple" T.ug8 F.boot_tuple) zd))))) (zop (zlp hr (zae T.ual (zb (zf 0) zd)) (zw T.ubt))))) (zk (zp y9)) zt) (ze (qj (yw (xn (zke T.uaj (zb (zu (zf 0) (zw T.ubk)) (zb (zhl "bool" T.ufu F.boot_bool) zd))))) (zk (zp y9)) zt) (zk (zp (zct (zg ubo hr.rmd (zb (zu (zf 0) (zw T.ugj)) zd)) (zct (zg ubo hr.rmd (zb (zu (zf 0) (zw T.ud2)) zd)) (zd9 (zg ubo hr.rmd (zb (zu (zf 0) (zw T.ub5)) zd)))))))))))
 have ubl:Cal P w K mg base 3 "has_right_measures" jl:=(T.ubm.cal sc_has_right_measures (fun _ _ _ _ _ _=>ls1 fun _=>rfl) (fun f cdv A outer s H E hr=>by as_aux_lemma=>
   have nd:=sc_has_right_measures.nd;exact(ze (zx 1 (zu (zf 0) (zw T.ua4)) nd) (ze (zx 2 (zu (zf 0) (zw T.uaq)) nd) (ze (qj (yw (xn (zg uaw hr.rmd (zb (zf 1) (zb (zf 2) zd))))) (zk (zp y9)) zt) (zk (zp (zct (zix hr (zu (zf 0) (zw T.ud2)) (zg ubx hr.rmd (zb (zf 1) (zb (zf 2) zd)))) (zd9 (zix hr (zu (zf 0) (zw T.ub5)) (zg ubj hr.rmd (zb (zf 1) (zb (zf 2) zd)))))))))))))
 have uca:Cal P w K mg base 4 "has_right_sums" jv:=(T.ub6.cal sc_has_right_sums (fun _ _ _ _ _ _=>ls2 fun _ _=>rfl) (fun f cdv A outer s H E hr=>by as_aux_lemma=>
   have nd:=sc_has_right_sums.nd;exact(ze (zx 2 (zg ubs hr.rmd (zb (zf 1) (zb (zu (zf 0) (zw T.ua4)) (zb (zu (zf 0) (zw T.ua7)) (zb (zu (zf 0) (zw T.uaq)) zd))))) nd) (ze (qj (xn (zu (zf 0) (zw T.ubk))) (zk (zp (zct (zix hr (zu (zf 0) (zw T.ucz)) (zu (zf 2) zo)) (zd9 (zix hr (zu (zf 0) (zw T.uea)) (zu (zf 2) zo)))))) zt) (zk (zp (zct (zix hr (zu (zf 0) (zw T.ucz)) (zu (zf 2) zo)) (zd9 (zix hr (zu (zf 0) (zw T.uea)) (zu (zf 2) zo))))))))))
 have uav:∀n:Nat,Cal P w K mg base (5+n) "is_right" (xy n):=fun n=>by
   induction n with
   |zero=>exact T.ucq.none1 (ps:=["make", "add"]) (fun _ _ _ _ _ _ _=>ls2 fun _ _=>⟨_,rfl,rfl⟩)
   | succ n hself=>exact T.ucq.cal1 sc_is_right (fun _ _ _ _ _ _ _=>ls2 fun _ _=>⟨_,rfl,rfl⟩) (fun f cdv A outer s H E hr0=>by as_aux_lemma=>
     have nd:=sc_is_right.nd;have hr:=hr0.mono (z54 5 n);exact(ze (qj (zcl (zf 0) je) (zk (zp y9)) zt) (ze (qj (yw (xn (zg ufg hr.rmd (zb (zf 0) zd)))) (zk (zp y9)) zt) (ze (qj (zwy (zvy (yw (xn (zg hself hr0 (zb (zu (zf 0) (zw T.ua4)) (zb (zf 1) zd))))) (zop (yw (xn (zg hself hr0 (zb (zu (zf 0) (zw T.uaq)) (zb (zf 1) zd)))))))) (zk (zp y9)) zt) (zk (zp (zct (zg ubl hr.rmd (zb (zf 0) zd)) (zd9 (zg uca hr.rmd (zb (zf 0) (zb (zf 1) zd)))))))))))
 have uav:=uav 40;exact⟨T,⟨uar,ubg,uaf,ubf,ua9,ubb,uax,ua5,uav,ua2⟩⟩
end Pg
open PySem PySem.W L2 F PySem.Spec PyProof.Rows
namespace PySem.W.Fast
def tw11514323638457506379:=()
def tw14454875878286055586:=()
def tw13337790820779840303:=()
def tw3099639158831104132:=()
def tw16208204471129323631:=()
def tw16944563672885986257:=()
def tw14664548526871597226:=()
def tw12339329641335024306:=()
def tw13620712231719735193:=()
def tw4224641184410355027:=()
def tw6172790437353287807:=()
def tw2988504591757097880:=()
def tw7278225173816312712:=()
def tw4025651349095792205:=()
def tw519705876664227652:=()
def tw3983278530449028523:=()
def tw3832220185119900806:=()
def tw588189493341297924:=()
def tw9157014916784027495:=()
def tw16503263752288468693:=()
def tw5641451247217970996:=()
def tw11738127521722021711:=()
def tw4452428554720118736:=()
def tw12513107977260230965:=()
def tw18187810108490805918:=()
def tw5433045773177181993:=()
def tw1853308421857729210:=()
def tw18250070351147935353:=()
def tw16817989507536159399:=()
def tw8608223425469858268:=()
def tw15115254959057157517:=()
def tw15448022658957286182:=()
def tw2315473158877205713:=()
def tw3326092656582460339:=()
def tw10927446118113196590:=()
def tw6072220019287611292:=()
def tw13476411023222926185:=()
def tw11734842560137313093:=()
def tw11853533522030760564:=()
def tw4154180459296998965:=()
def tw4145172921610497817:=()
def tw5587009794747787960:=()
def tw15661578592444779290:=()
def tw15291121851024217269:=()
def tw15685074923866788081:=()
def tw13962439539536037775:=()
def tw11407262708678534990:=()
def tw10126636332834480366:=()
def tw5632281984339405243:=()
def tw6009010944886902517:=()
def tw4176935599920087775:=()
def tw11437954752762916230:=()
def tw10872391128590883342:=()
def tw12189261123020349353:=()
def tw11651783391127456573:=()
def tw15912461323023912627:=()
def tw7801350154273254986:=()
def tw9978960386588372226:=()
def tw741320365997931718:=()
def tw4036942347781102618:=()
def tw17379853191126924934:=()
def tw10863530359520104371:=()
def tw10150709759330084366:=()
def tw7609005360705458117:=()
def tw4320711151742048717:=()
def tw3888316603356633843:=()
def tw17387514491256840753:=()
def tw17935278458122538724:=()
def tw5506131222999760441:=()
def tw15697590697427903758:=()
def tw11777229800578371280:=()
def tw3872992574904121263:=()
def tw12022288782081140590:=()
def tw17781034032847972477:=()
def tw18420952430961355400:=()
def tw3426438546129825201:=()
def tw18202049798946782903:=()
def tw8364135310957010871:=()
def tw12225396907516753690:=()
def tw16953787805447499593:=()
def tw7787076019510161323:=()
def tw11640876689282647561:=()
def tw7966933269972392392:=()
def tw17001517720443584931:=()
def tw6820710685511922289:=()
def tw2537884247229056670:=()
def tw3191426275008496009:=()
def tw3899436946875719246:=()
def tw12970301135544993187:=()
def tw16475628960610478446:=()
def tw17416345272172747651:=()
def tw1196083169879618130:=()
def tw6505382215981229057:=()
def tw11018833679110439787:=()
def tw15818218110526655660:=()
def tw1308098503172558527:=()
def tw1600661005123234111:=()
def tw2284278766515727737:=()
def tw15470806007878942385:=()
def tw5076783749847008957:=()
def tw12031440820639643197:=()
def tw7838502020573285546:=()
def tw12922819415333915801:=()
def tw5395158701901451596:=()
def tw692729491350198699:=()
def tw13743988560074961714:=()
def tw18120347379860030911:=()
def tw1528131682149025351:=()
def tw16717282719057309845:=()
def tw9733744759240536301:=()
def tw1922164223886304205:=()
def tw17562925596530257216:=()
def tw10068554053223273274:=()
def tw14350644560343304575:=()
def tw5704012434729400601:=()
def tw10299505035749097960:=()
def tw519990963770318148:=()
def tw8665824666458875544:=()
def tw17182009693850672790:=()
def tw10688800433537711016:=()
def tw5840512480114096555:=()
def tw6235217449930350005:=()
def tw9390471351907575439:=()
def tw8349671252766562768:=()
def tw9657655852813126473:=()
def tw15102001813100372000:=()
def tw16987177225462291586:=()
def tw1899463848161415362:=()
def tw17740197937636661811:=()
def tw12222898680898051122:=()
def tw18002623605697270879:=()
def tw15826973674218183586:=()
def tw16421626041742685588:=()
def tw13614924594000235611:=()
def tw16968549117180101405:=()
def tw15624670600451983345:=()
def tw2568632980427570213:=()
def tw11476947481267680100:=()
def tw15091045816344684400:=()
def tw10736121145405424717:=()
def tw13402336509400104524:=()
def tw12730595655303162929:=()
def tw10772798241227711903:=()
def tw6552003829445225726:=()
def tw12232252670851459817:=()
def tw3780070046188180292:=()
def tw2624757067606594131:=()
def tw729380564668979795:=()
def tw15515365877104326656:=()
def tw11703068238180124302:=()
def tw1624627240719990699:=()
def tw962152013878563277:=()
def tw4128587739461534634:=()
def tw10772954771789612562:=()
def tw16061562834373669055:=()
def tw2619827956874504725:=()
def tw2853644542706134902:=()
def tw6204848294346094525:=()
def tw6189348586849835237:=()
def tw14634338495183302095:=()
def tw6846880291925645771:=()
def tw3799889439741080977:=()
def tw14462755528123938911:=()
def tw5439766400537526424:=()
def tw12175169820810511524:=()
def tw10622896423675734026:=()
def tw12315566419837015275:=()
def tw1560152972848078723:=()
def tw2498598137755864777:=()
def tw11109800815906574081:=()
def tw17222459178298992986:=()
def tw6175668182131745465:=()
def tw12904529168125301402:=()
def tw12600204949936970910:=()
def tw17414122962867716783:=()
def tw14691385246635264820:=()
def tw8570673422268453821:=()
def tw6035460802780317083:=()
def tw16278284974811055933:=()
def tw9405220549952059754:=()
def tw16822811485856101574:=()
def tw945323061324318728:=()
def tw11032357135075397016:=()
def tw13415117619774000715:=()
def tw12332705134976054186:=()
def tw6606407618564389786:=()
def tw13797661858805143598:=()
def tw6263187442240525614:=()
def tw14409171246592607996:=()
def tw17745336742339796355:=()
def tw13083560153962967882:=()
def tw1406323074065552194:=()
def tw4169400619412320068:=()
def tw1493084981065702428:=()
def tw6361925695036054521:=()
def tw14575773917065928134:=()
def tw10555668813908192358:=()
def tw13815451689514477916:=()
def tw614257994699302154:=()
def tw17404994797794477537:=()
def tw2187158700909421075:=()
def tw33603054098634782:=()
def tw17264371097676699809:=()
def tw5019872663378093671:=()
def tw8506366126460277012:=()
def tw14770756965605941619:=()
def tw1258931450126199285:=()
def tw7750528805288754330:=()
def tw11812821436325691962:=()
def tw4443409012635985998:=()
def tw12006657942423008678:=()
def tw14314572715833220821:=()
def tw9404578455619381481:=()
def tw14202719453285563831:=()
def tw14046514805546578577:=()
def tw3104535158590152518:=()
def tw15031577957464750037:=()
def tw6656481397098467348:=()
def tw9233932404650700387:=()
def tw3704052398129485809:=()
def tw1909603161500869021:=()
def tw15717745508594221306:=()
def tw2661850299259550110:=()
def tw3820950399704993213:=()
def tw10272345576442102848:=()
def tw2570357825168441061:=()
def tw13558532235575673897:=()
def tw1557124059911733069:=()
def tw9144860294125895400:=()
def tw6335138616628940459:=()
def tw7853524293128714010:=()
def tw13006567260602425368:=()
def tw14208137781896657220:=()
def tw11691299629194511377:=()
def tw15992970161898532762:=()
def tw12380793587079392604:=()
def tw16252127677081237744:=()
def tw13418499194692740470:=()
def tw444519792179648942:=()
def tw9442160256322353251:=()
def tw676149910732958025:=()
def tw8847369260184928187:=()
def tw7169844936380436386:=()
def tw9592947967184236466:=()
def tw14329966332712315960:=()
def tw3472437384685975634:=()
def tw8793955710635901554:=()
def tw8468141880989453725:=()
def tw2787001594772913997:=()
def tw13800083714703388895:=()
def tw7386092021950974322:=()
def tw1465770926819508438:=()
def tw7156941578317081966:=()
def tw6346550416716191389:=()
def tw11215177499817882951:=()
def tw171479617851600650:=()
def tw17115364017199712800:=()
def tw13193254660965772868:=()
def tw8741848064914920489:=()
def tw3469763493802143884:=()
def tw17167265269409506195:=()
def tw7199809496251129559:=()
def tw13412064624052697340:=()
def tw10673902170560242676:=()
def tw6423518001618027693:=()
def tw6703254740514226485:=()
def tw13661335203046165567:=()
def tw12163434657018594242:=()
def tw1473672823913493103:=()
def tw11288879519817680973:=()
def tw11456166536866149168:=()
def tw11280072825442060684:=()
def tw12192428360811961984:=()
def tw6896838404587684869:=()
def tw5052616797794535994:=()
def tw12464861948498459990:=()
def tw14746060993916448395:=()
def tw7553110212461760870:=()
def tw17995506434113624108:=()
def tw13473276208438044914:=()
def tw14654459207122821370:=()
def tw2864683703692142998:=()
def tw10357715374873382442:=()
def tw17920568684172085818:=()
def tw9331313996444554555:=()
def tw5845028140739303427:=()
def tw13362279657753999129:=()
def tw2921022275050777659:=()
def tw11215320728083409622:=()
def tw13976340192105013562:=()
def tw15478863026618283654:=()
def tw5937549695780911626:=()
def tw17801418081890730753:=()
def tw1902800410804003573:=()
def tw7377908334645657205:=()
def tw12945699254265891350:=()
def tw14915611489328486985:=()
def tw7144719507934356606:=()
def tw16933539212735981682:=()
def tw482224244107245786:=()
def tw13076819039950967545:=()
def tw775277426705527599:=()
def tw14931215902395480294:=()
def tw7989926539895211901:=()
def tw18085706294043185137:=()
def tw3710120903079316387:=()
def tw10640897844941182811:=()
def tw16829821551847428733:=()
def tw11840042337734669136:=()
def tw15187957211938033937:=()
def tw11667032185765564277:=()
def tw2484031334836883235:=()
def tw7989532915213991484:=()
def tw3382159378678297323:=()
def tw1974303070965764061:=()
def tw2042749316192917399:=()
def tw14069245153565270197:=()
def tw15260007214604054313:=()
def tw991321475168922532:=()
def tw6648030414623802319:=()
def tw11758994434162658472:=()
def tw8508197891728658845:=()
def tw17440206578432548314:=()
def tw2798408072570084967:=()
def tw7617149939117351054:=()
def tw1214182732539815683:=()
def tw13228669752766467577:=()
def tw2584273786326105784:=()
def tw16658861350632660273:=()
def tw8199054580599454178:=()
def tw6022080744344713488:=()
def tw6582638704065185960:=()
def tw14236526430795587222:=()
def tw10922294483499215879:=()
def tw13930434623823639674:=()
def tw12212946496697143115:=()
def tw15548302651346114889:=()
def tw11115896510576255610:=()
def tw3412273491700941318:=()
def tw6021020616159664994:=()
def tw11984050706582620612:=()
def tw5852847566950178138:=()
def tw7636503887563879840:=()
def tw4989611432049225092:=()
def tw83688599085965847:=()
def tw13537561358310460264:=()
def tw7797565762036870735:=()
def tw14740625171679440710:=()
def tw131335548007485164:=()
def tw13568565475072546676:=()
def tw3212720514737323236:=()
def tw2318724243055868711:=()
def tw10811026892948109107:=()
def tw8145191688973666139:=()
def tw17238266775033995287:=()
def tw8110581701878104084:=()
def tw389721724130603370:=()
def tw12717205450770125099:=()
def tw12632489692810924692:=()
def tw10001206466864499349:=()
def tw11732721137826844233:=()
def tw3720354639167599361:=()
def tw8049785342515859911:=()
def tw4249911036822108933:=()
def tw15285626421343454543:=()
def tw9003222308176853390:=()
def tw6359511016141173299:=()
def tw14210993104332114442:=()
def tw8991509518948627271:=()
def tw3333534133301293940:=()
def tw5738513951226544012:=()
def tw3187084695469855613:=()
def tw16432623160938246915:=()
def tw369913901007139259:=()
def tw7211571722256981498:=()
def tw16108570999352773849:=()
def tw9648645694711272860:=()
def tw14433250769886318065:=()
def tw9259415883578169169:=()
def tw8323964829117663924:=()
def tw8481373431362977989:=()
def tw15881048237706944628:=()
def tw12126430226923723955:=()
def tw445555868604926219:=()
def tw958645982151226391:=()
def tw6457045284351241017:=()
def tw12937549310001929525:=()
def tw10659537977872206669:=()
def tw17063274006317111304:=()
def tw7364760425969275490:=()
def tw15903817831222645391:=()
end PySem.W.Fast
set_option maxRecDepth 100000 in
set_option maxHeartbeats 0 in
theorem PySem.Challenge.cw_ownshelf_k24_whole_tables_changed_holds : PySem.Challenge.rw_ownshelf_k24_whole_tables_changed.Holds := by
 w_on;o_law;k_head;(case hw=>w_witness2)
 k_fill
 refine F.law_walkT (l:=PySem.Challenge.rw_ownshelf_k24_whole_tables_changed) (k:=134) (g:=Pg.g_law) (x:="_law_script") Pg.tabs rfl rfl ⟨rfl,by decide,by decide⟩ (by decide) (by decide) rfl Pg.law_ok ?F
 case F=>
   intro w mg fa h KX G hmg;have udy:mg "ValueError"=none:=by refine' z6r KX G ?a_7;k_is
   have uhm:mg "abs"=none:=by refine' z6r KX G ?a_8;k_is
   have ug9:mg "bool"=none:=by refine' z6r KX G ?a_9;k_is
   have uhn:mg "int"=none:=by refine' z6r KX G ?a_10;k_is
   have udf:mg "isinstance"=none:=by refine' z6r KX G ?a_11;k_is
   have uhq:mg "len"=none:=by refine' z6r KX G ?a_12;k_is
   have ug7:mg "list"=none:=by refine' z6r KX G ?a_13;k_is
   have uhr:mg "max"=none:=by refine' z6r KX G ?a_14;k_is
   have ugt:mg "range"=none:=by refine' z6r KX G ?a_15;k_is
   have ue3:mg "reversed"=none:=by refine' z6r KX G ?a_16;k_is
   have uf5:mg "sorted"=none:=by refine' z6r KX G ?a_17;k_is
   have ugs:mg "tuple"=none:=by refine' z6r KX G ?a_18;k_is
   have ugq:∃t,mg "ABOUT"=some (.int 1 t):=by refine' F.has_int KX G ?a_19;(case a_19=>k_is)
   have ugh:∃t,mg "AHEAD"=some (.int 0 t):=by refine' F.has_int KX G ?a_20;(case a_20=>k_is)
   have uhg:∃t,mg "BACK"=some (.int 8 t):=by refine' F.has_int KX G ?a_21;(case a_21=>k_is)
   have ufs:∃t,mg "BEHIND"=some (.int 2 t):=by refine' F.has_int KX G ?a_22;(case a_22=>k_is)
   have ugc:∃t,mg "HEIGHT"=some (.int 6 t):=by refine' F.has_int KX G ?a_23;(case a_23=>k_is)
   have uhj:∃t,mg "KEY"=some (.int 0 t):=by refine' F.has_int KX G ?a_24;(case a_24=>k_is)
   have ug6:∃t,mg "LEFT"=some (.int 2 t):=by refine' F.has_int KX G ?a_25;(case a_25=>k_is)
   have uge:∃t,mg "MIDDLE"=some (.int 1 t):=by refine' F.has_int KX G ?a_26;(case a_26=>k_is)
   have ucy:∃t,mg "MOST_THINGS"=some (.int 2000 t):=by refine' F.has_int KX G ?a_27;(case a_27=>k_is)
   have ufz:∃t,mg "NUMBER"=some (.int 0 t):=by refine' F.has_int KX G ?a_28;(case a_28=>k_is)
   have ugm:∃t,mg "RIGHT"=some (.int 4 t):=by refine' F.has_int KX G ?a_29;(case a_29=>k_is)
   have uhh:∃t,mg "SIZE"=some (.int 5 t):=by refine' F.has_int KX G ?a_30;(case a_30=>k_is)
   have ugx:∃t,mg "THING"=some (.int 3 t):=by refine' F.has_int KX G ?a_31;(case a_31=>k_is)
   have ugn:∃t,mg "TOTAL"=some (.int 7 t):=by refine' F.has_int KX G ?a_32;(case a_32=>k_is)
   have uft:∃t,mg "TURNED"=some (.int 3 t):=by refine' F.has_int KX G ?a_33;(case a_33=>k_is)
   have ugu:∃t,mg "VALUE"=some (.int 1 t):=by refine' F.has_int KX G ?a_34;(case a_34=>k_is)
   have ubr:∃t,mg "VALUES_OF_A_NODE"=some (.int 9 t):=by refine' F.has_int KX G ?a_35;(case a_35=>k_is)
   have ufk:∃f,mg "Changed"=some (.ref f):=by refine' F.has_val KX G ?a_36;(case a_36=>k_is)
   have uei:∃f,mg "NoBalance"=some (.ref f):=by refine' F.has_val KX G ?a_37;(case a_37=>k_is)
   have uf7:∃f,mg "NoMore"=some (.ref f):=by refine' F.has_val KX G ?a_38;(case a_38=>k_is)
   have ufq:∃f,mg "NoName"=some (.ref f):=by refine' F.has_val KX G ?a_39;(case a_39=>k_is)
   have uet:∃f,mg "NoNumber"=some (.ref f):=by refine' F.has_val KX G ?a_40;(case a_40=>k_is)
   have ue9:∃f,mg "NoPlace"=some (.ref f):=by refine' F.has_val KX G ?a_41;(case a_41=>k_is)
   have ugo:∃f,mg "NoRow"=some (.ref f):=by refine' F.has_val KX G ?a_42;(case a_42=>k_is)
   have ugi:∃f,mg "NoSum"=some (.ref f):=by refine' F.has_val KX G ?a_43;(case a_43=>k_is)
   have ufn:∃f,mg "NoThing"=some (.ref f):=by refine' F.has_val KX G ?a_44;(case a_44=>k_is)
   have ugg:∃f,mg "NoWay"=some (.ref f):=by refine' F.has_val KX G ?a_45;(case a_45=>k_is)
   have ufa:∃f,mg "TooMany"=some (.ref f):=by refine' F.has_val KX G ?a_46;(case a_46=>k_is)
   have ufc:F.ExcCls (L2.KOf KX) mg "NoThing":=by refine' F.has_exc KX G ?a_47 ?q_47;(case a_47=>k_is);(case q_47=>k_exc)
   have he_NoThing:F.ExcI (L2.KOf KX) mg "NoThing":=by refine' F.has_ei KX G ?a_48 ?h1_48 ?h2_48 ?h3_48 ?h4_48 ?h5_48 ?h6_48 ?h7_48 ?h8_48 ?h9_48;(case a_48=>k_is);(case h1_48=>k_is);(case h2_48=>k_is);(case h3_48=>k_is);(case h4_48=>k_is);(case h5_48=>k_is);(case h6_48=>k_is);(case h7_48=>k_is);(case h8_48=>k_is);(case h9_48=>kit_is)
   have hc_NoThing:F.Cat (L2.KOf KX) mg "NoThing" "ShelfError":=by refine' F.has_cat KX G ?a_49 ?b_49 ?h1_49 ?h2_49 ?h3_49 ?h4_49;(case a_49=>k_is);(case b_49=>k_is);(case h1_49=>k_is);(case h2_49=>k_is);(case h3_49=>k_is);(case h4_49=>k_is)
   have hq_NoThing_Changed:F.IsF (L2.KOf KX) mg "NoThing" "Changed" false:=by refine' F.has_is KX G ?a_50 ?b_50 ?q_50;(case a_50=>k_is);(case b_50=>k_is);(case q_50=>kit_is)
   have hq_NoThing_NoBalance:F.IsF (L2.KOf KX) mg "NoThing" "NoBalance" false:=by refine' F.has_is KX G ?a_51 ?b_51 ?q_51;(case a_51=>k_is);(case b_51=>k_is);(case q_51=>kit_is)
   have hq_NoThing_NoMore:F.IsF (L2.KOf KX) mg "NoThing" "NoMore" false:=by refine' F.has_is KX G ?a_52 ?b_52 ?q_52;(case a_52=>k_is);(case b_52=>k_is);(case q_52=>kit_is)
   have hq_NoThing_NoName:F.IsF (L2.KOf KX) mg "NoThing" "NoName" false:=by refine' F.has_is KX G ?a_53 ?b_53 ?q_53;(case a_53=>k_is);(case b_53=>k_is);(case q_53=>kit_is)
   have hq_NoThing_NoNumber:F.IsF (L2.KOf KX) mg "NoThing" "NoNumber" false:=by refine' F.has_is KX G ?a_54 ?b_54 ?q_54;(case a_54=>k_is);(case b_54=>k_is);(case q_54=>kit_is)
   have hq_NoThing_NoPlace:F.IsF (L2.KOf KX) mg "NoThing" "NoPlace" false:=by refine' F.has_is KX G ?a_55 ?b_55 ?q_55;(case a_55=>k_is);(case b_55=>k_is);(case q_55=>kit_is)
   have hq_NoThing_NoRow:F.IsF (L2.KOf KX) mg "NoThing" "NoRow" false:=by refine' F.has_is KX G ?a_56 ?b_56 ?q_56;(case a_56=>k_is);(case b_56=>k_is);(case q_56=>kit_is)
   have hq_NoThing_NoSum:F.IsF (L2.KOf KX) mg "NoThing" "NoSum" false:=by refine' F.has_is KX G ?a_57 ?b_57 ?q_57;(case a_57=>k_is);(case b_57=>k_is);(case q_57=>kit_is)
   have hq_NoThing_NoThing:F.IsF (L2.KOf KX) mg "NoThing" "NoThing" true:=by refine' F.has_is KX G ?a_58 ?b_58 ?q_58;(case a_58=>k_is);(case b_58=>k_is);(case q_58=>kit_is)
   have hq_NoThing_NoWay:F.IsF (L2.KOf KX) mg "NoThing" "NoWay" false:=by refine' F.has_is KX G ?a_59 ?b_59 ?q_59;(case a_59=>k_is);(case b_59=>k_is);(case q_59=>kit_is)
   have hq_NoThing_TooMany:F.IsF (L2.KOf KX) mg "NoThing" "TooMany" false:=by refine' F.has_is KX G ?a_60 ?b_60 ?q_60;(case a_60=>k_is);(case b_60=>k_is);(case q_60=>kit_is)
   have hup:F.UpOk (L2.KOf KX) mg Pg.up:=⟨(F.all_cons (hc_NoThing) F.all_nil),(F.all_cons (he_NoThing) F.all_nil),(F.all_cons ((F.all_cons (F.is_of hq_NoThing_Changed) (F.all_cons (F.is_of hq_NoThing_NoBalance) (F.all_cons (F.is_of hq_NoThing_NoMore) (F.all_cons (F.is_of hq_NoThing_NoName) (F.all_cons (F.is_of hq_NoThing_NoNumber) (F.all_cons (F.is_of hq_NoThing_NoPlace) (F.all_cons (F.is_of hq_NoThing_NoRow) (F.all_cons (F.is_of hq_NoThing_NoSum) (F.all_cons (F.is_of hq_NoThing_NoThing) (F.all_cons (F.is_of hq_NoThing_NoWay) (F.all_cons (F.is_of hq_NoThing_TooMany) F.all_nil)))))))))))) F.all_nil)⟩
   have uc3:F.Fld (L2.KOf KX) mg "Wood" "adding":=by refine' F.has_fld KX G ?aC_62 (F.has_cls KX G ?aC_62 ?pg_62 ?hd_62 ?po_62 ?sa_62) ?n_62;(case aC_62=>k_is);(case pg_62=>k_is);(case hd_62=>k_is);(case po_62=>k_is);(case sa_62=>k_is);(case n_62=>k_is)
   have ubw:F.Fld (L2.KOf KX) mg "Wood" "nodes_made":=by refine' F.has_fld KX G ?aC_63 (F.has_cls KX G ?aC_63 ?pg_63 ?hd_63 ?po_63 ?sa_63) ?n_63;(case aC_63=>k_is);(case pg_63=>k_is);(case hd_63=>k_is);(case po_63=>k_is);(case sa_63=>k_is);(case n_63=>k_is)
   have ub7:F.HasMk (L2.KOf KX) mg "Wood" "Wood.__init__" Pg.s_Wood___init__ 1:=by refine' F.has_mk1 KX G ?aC_64 ?mk_64 ?kc_64 ?a_64 ?i_64 ?l_64 ?c_64 ?k_64 ?t_64;(case aC_64=>k_is);(case mk_64=>k_is);(case kc_64=>k_is);(case a_64=>k_is);(case i_64=>k_is);(case l_64=>k_is);(case c_64=>k_is);(case k_64=>k_is);(case t_64=>k_is)
   have uem:F.HasDef (L2.KOf KX) mg "_law_bent" Pg.s__law_bent 0:=by refine' F.has_def KX G ?a_65 ?l_65 ?c_65 ?k_65;(case a_65=>k_is);(case l_65=>k_is);(case c_65=>k_is);(case k_65=>k_is)
   have ueo:F.HasDef (L2.KOf KX) mg "_law_cell" Pg.s__law_cell 0:=by refine' F.has_def KX G ?a_66 ?l_66 ?c_66 ?k_66;(case a_66=>k_is);(case l_66=>k_is);(case c_66=>k_is);(case k_66=>k_is)
   have uew:F.HasDef (L2.KOf KX) mg "_law_key" Pg.s__law_key 0:=by refine' F.has_def KX G ?a_67 ?l_67 ?c_67 ?k_67;(case a_67=>k_is);(case l_67=>k_is);(case c_67=>k_is);(case k_67=>k_is)
   have ufy:F.HasDef (L2.KOf KX) mg "by_key" Pg.s_by_key 0:=by refine' F.has_def KX G ?a_68 ?l_68 ?c_68 ?k_68;(case a_68=>k_is);(case l_68=>k_is);(case c_68=>k_is);(case k_68=>k_is)
   have ucs:F.HasDef (L2.KOf KX) mg "check_place" Pg.s_check_place 0:=by refine' F.has_def KX G ?a_69 ?l_69 ?c_69 ?k_69;(case a_69=>k_is);(case l_69=>k_is);(case c_69=>k_is);(case k_69=>k_is)
   have uha:F.HasDef (L2.KOf KX) mg "size" Pg.s_size 0:=by refine' F.has_def KX G ?a_70 ?l_70 ?c_70 ?k_70;(case a_70=>k_is);(case l_70=>k_is);(case c_70=>k_is);(case k_70=>k_is)
   have ucd:F.HasMth (L2.KOf KX) mg "Wood" "numbered" "Wood.numbered" Pg.s_Wood_numbered:=by refine' F.has_mth KX G ?aC_71 (F.has_cls KX G ?aC_71 ?pg_71 ?hd_71 ?po_71 ?sa_71) ?a_71 ?i_71 ?l_71 ?c_71 ?k_71;(case aC_71=>k_is);(case pg_71=>k_is);(case hd_71=>k_is);(case po_71=>k_is);(case sa_71=>k_is);(case a_71=>k_is);(case i_71=>k_is);(case l_71=>k_is);(case c_71=>k_is);(case k_71=>k_is)
   have udo:F.HasDef (L2.KOf KX) mg "check_room" Pg.s_check_room 0:=by refine' F.has_def KX G ?a_72 ?l_72 ?c_72 ?k_72;(case a_72=>k_is);(case l_72=>k_is);(case c_72=>k_is);(case k_72=>k_is)
   have uf8:F.HasDef (L2.KOf KX) mg "height" Pg.s_height 0:=by refine' F.has_def KX G ?a_73 ?l_73 ?c_73 ?k_73;(case a_73=>k_is);(case l_73=>k_is);(case c_73=>k_is);(case k_73=>k_is)
   have ucl:F.HasDef (L2.KOf KX) mg "height_above" Pg.s_height_above 0:=by refine' F.has_def KX G ?a_74 ?l_74 ?c_74 ?k_74;(case a_74=>k_is);(case l_74=>k_is);(case c_74=>k_is);(case k_74=>k_is)
   have udt:F.HasDef (L2.KOf KX) mg "in_balance" Pg.s_in_balance 0:=by refine' F.has_def KX G ?a_75 ?l_75 ?c_75 ?k_75;(case a_75=>k_is);(case l_75=>k_is);(case c_75=>k_is);(case k_75=>k_is)
   have udg:F.HasDef (L2.KOf KX) mg "size_above" Pg.s_size_above 0:=by refine' F.has_def KX G ?a_76 ?l_76 ?c_76 ?k_76;(case a_76=>k_is);(case l_76=>k_is);(case c_76=>k_is);(case k_76=>k_is)
   have uhi:F.HasDef (L2.KOf KX) mg "back" Pg.s_back 0:=by refine' F.has_def KX G ?a_77 ?l_77 ?c_77 ?k_77;(case a_77=>k_is);(case l_77=>k_is);(case c_77=>k_is);(case k_77=>k_is)
   have uck:F.HasDef (L2.KOf KX) mg "backward_sum" Pg.s_backward_sum 0:=by refine' F.has_def KX G ?a_78 ?l_78 ?c_78 ?k_78;(case a_78=>k_is);(case l_78=>k_is);(case c_78=>k_is);(case k_78=>k_is)
   have ugk:F.HasDef (L2.KOf KX) mg "total" Pg.s_total 0:=by refine' F.has_def KX G ?a_79 ?l_79 ?c_79 ?k_79;(case a_79=>k_is);(case l_79=>k_is);(case c_79=>k_is);(case k_79=>k_is)
   have udp:F.HasDef (L2.KOf KX) mg "onward_sum" Pg.s_onward_sum 0:=by refine' F.has_def KX G ?a_80 ?l_80 ?c_80 ?k_80;(case a_80=>k_is);(case l_80=>k_is);(case c_80=>k_is);(case k_80=>k_is)
   have udi:F.HasDef (L2.KOf KX) mg "sums_above" Pg.s_sums_above 0:=by refine' F.has_def KX G ?a_81 ?l_81 ?c_81 ?k_81;(case a_81=>k_is);(case l_81=>k_is);(case c_81=>k_is);(case k_81=>k_is)
   have ud8:F.HasMth (L2.KOf KX) mg "Wood" "node" "Wood.node" Pg.s_Wood_node:=by refine' F.has_mth KX G ?aC_82 (F.has_cls KX G ?aC_82 ?pg_82 ?hd_82 ?po_82 ?sa_82) ?a_82 ?i_82 ?l_82 ?c_82 ?k_82;(case aC_82=>k_is);(case pg_82=>k_is);(case hd_82=>k_is);(case po_82=>k_is);(case sa_82=>k_is);(case a_82=>k_is);(case i_82=>k_is);(case l_82=>k_is);(case c_82=>k_is);(case k_82=>k_is)
   have udb:F.HasMth (L2.KOf KX) mg "Wood" "turned" "Wood.turned" Pg.s_Wood_turned:=by refine' F.has_mth KX G ?aC_83 (F.has_cls KX G ?aC_83 ?pg_83 ?hd_83 ?po_83 ?sa_83) ?a_83 ?i_83 ?l_83 ?c_83 ?k_83;(case aC_83=>k_is);(case pg_83=>k_is);(case hd_83=>k_is);(case po_83=>k_is);(case sa_83=>k_is);(case a_83=>k_is);(case i_83=>k_is);(case l_83=>k_is);(case c_83=>k_is);(case k_83=>k_is)
   have ugf:F.HasDef (L2.KOf KX) mg "parts" Pg.s_parts 0:=by refine' F.has_def KX G ?a_84 ?l_84 ?c_84 ?k_84;(case a_84=>k_is);(case l_84=>k_is);(case c_84=>k_is);(case k_84=>k_is)
   have uc6:F.HasDef (L2.KOf KX) mg "lifted_left" Pg.s_lifted_left 0:=by refine' F.has_def KX G ?a_85 ?l_85 ?c_85 ?k_85;(case a_85=>k_is);(case l_85=>k_is);(case c_85=>k_is);(case k_85=>k_is)
   have uci:F.HasDef (L2.KOf KX) mg "lifted_right" Pg.s_lifted_right 0:=by refine' F.has_def KX G ?a_86 ?l_86 ?c_86 ?k_86;(case a_86=>k_is);(case l_86=>k_is);(case c_86=>k_is);(case k_86=>k_is)
   have ue5:F.HasDef (L2.KOf KX) mg "balanced" Pg.s_balanced 0:=by refine' F.has_def KX G ?a_87 ?l_87 ?c_87 ?k_87;(case a_87=>k_is);(case l_87=>k_is);(case c_87=>k_is);(case k_87=>k_is)
   have ufx:F.HasDef (L2.KOf KX) mg "joined" Pg.s_joined 0:=by refine' F.has_def KX G ?a_88 ?l_88 ?c_88 ?k_88;(case a_88=>k_is);(case l_88=>k_is);(case c_88=>k_is);(case k_88=>k_is)
   have uhe:F.HasDef (L2.KOf KX) mg "seen" Pg.s_seen 0:=by refine' F.has_def KX G ?a_89 ?l_89 ?c_89 ?k_89;(case a_89=>k_is);(case l_89=>k_is);(case c_89=>k_is);(case k_89=>k_is)
   have uev:F.HasDef (L2.KOf KX) mg "thing_at" Pg.s_thing_at 0:=by refine' F.has_def KX G ?a_90 ?l_90 ?c_90 ?k_90;(case a_90=>k_is);(case l_90=>k_is);(case c_90=>k_is);(case k_90=>k_is)
   have ucb:F.HasDef (L2.KOf KX) mg "laid_together" Pg.s_laid_together 0:=by refine' F.has_def KX G ?a_91 ?l_91 ?c_91 ?k_91;(case a_91=>k_is);(case l_91=>k_is);(case c_91=>k_is);(case k_91=>k_is)
   have ud0:F.HasDef (L2.KOf KX) mg "taken_out" Pg.s_taken_out 0:=by refine' F.has_def KX G ?a_92 ?l_92 ?c_92 ?k_92;(case a_92=>k_is);(case l_92=>k_is);(case c_92=>k_is);(case k_92=>k_is)
   have uho:F.HasDef (L2.KOf KX) mg "out" Pg.s_out 0:=by refine' F.has_def KX G ?a_93 ?l_93 ?c_93 ?k_93;(case a_93=>k_is);(case l_93=>k_is);(case c_93=>k_is);(case k_93=>k_is)
   have uhv:F.HasDef (L2.KOf KX) mg "at" Pg.s_at 0:=by refine' F.has_def KX G ?a_94 ?l_94 ?c_94 ?k_94;(case a_94=>k_is);(case l_94=>k_is);(case c_94=>k_is);(case k_94=>k_is)
   have uda:F.HasDef (L2.KOf KX) mg "is_alike_at" Pg.s_is_alike_at 0:=by refine' F.has_def KX G ?a_95 ?l_95 ?c_95 ?k_95;(case a_95=>k_is);(case l_95=>k_is);(case c_95=>k_is);(case k_95=>k_is)
   have ucf:F.HasDef (L2.KOf KX) mg "count_before" Pg.s_count_before 0:=by refine' F.has_def KX G ?a_96 ?l_96 ?c_96 ?k_96;(case a_96=>k_is);(case l_96=>k_is);(case c_96=>k_is);(case k_96=>k_is)
   have ues:F.HasDef (L2.KOf KX) mg "place_of" Pg.s_place_of 0:=by refine' F.has_def KX G ?a_97 ?l_97 ?c_97 ?k_97;(case a_97=>k_is);(case l_97=>k_is);(case c_97=>k_is);(case k_97=>k_is)
   have ub0:F.HasDef (L2.KOf KX) mg "place_of_alike" Pg.s_place_of_alike 0:=by refine' F.has_def KX G ?a_98 ?l_98 ?c_98 ?k_98;(case a_98=>k_is);(case l_98=>k_is);(case c_98=>k_is);(case k_98=>k_is)
   have uff:F.HasDef (L2.KOf KX) mg "dropped" Pg.s_dropped 0:=by refine' F.has_def KX G ?a_99 ?l_99 ?c_99 ?k_99;(case a_99=>k_is);(case l_99=>k_is);(case c_99=>k_is);(case k_99=>k_is)
   have uf2:F.HasDef (L2.KOf KX) mg "sought" Pg.s_sought 0:=by refine' F.has_def KX G ?a_100 ?l_100 ?c_100 ?k_100;(case a_100=>k_is);(case l_100=>k_is);(case c_100=>k_is);(case k_100=>k_is)
   have ufj:F.HasDef (L2.KOf KX) mg "without" Pg.s_without 0:=by refine' F.has_def KX G ?a_101 ?l_101 ?c_101 ?k_101;(case a_101=>k_is);(case l_101=>k_is);(case c_101=>k_is);(case k_101=>k_is)
   have ucg:F.HasDef (L2.KOf KX) mg "_law_refusal" Pg.s__law_refusal 0:=by refine' F.has_def KX G ?a_102 ?l_102 ?c_102 ?k_102;(case a_102=>k_is);(case l_102=>k_is);(case c_102=>k_is);(case k_102=>k_is)
   have uf9:F.HasDef (L2.KOf KX) mg "put_in" Pg.s_put_in 0:=by refine' F.has_def KX G ?a_103 ?l_103 ?c_103 ?k_103;(case a_103=>k_is);(case l_103=>k_is);(case c_103=>k_is);(case k_103=>k_is)
   have uhl:F.HasDef (L2.KOf KX) mg "put" Pg.s_put 0:=by refine' F.has_def KX G ?a_104 ?l_104 ?c_104 ?k_104;(case a_104=>k_is);(case l_104=>k_is);(case c_104=>k_is);(case k_104=>k_is)
   have ugr:F.HasDef (L2.KOf KX) mg "given" Pg.s_given 0:=by refine' F.has_def KX G ?a_105 ?l_105 ?c_105 ?k_105;(case a_105=>k_is);(case l_105=>k_is);(case c_105=>k_is);(case k_105=>k_is)
   have ue8:F.HasDef (L2.KOf KX) mg "swapped" Pg.s_swapped 0:=by refine' F.has_def KX G ?a_106 ?l_106 ?c_106 ?k_106;(case a_106=>k_is);(case l_106=>k_is);(case c_106=>k_is);(case k_106=>k_is)
   have udm:F.HasDef (L2.KOf KX) mg "with_value" Pg.s_with_value 0:=by refine' F.has_def KX G ?a_107 ?l_107 ?c_107 ?k_107;(case a_107=>k_is);(case l_107=>k_is);(case c_107=>k_is);(case k_107=>k_is)
   have ud1:F.HasDef (L2.KOf KX) mg "_law_done" Pg.s__law_done 0:=by refine' F.has_def KX G ?a_108 ?l_108 ?c_108 ?k_108;(case a_108=>k_is);(case l_108=>k_is);(case c_108=>k_is);(case k_108=>k_is)
   have udx:F.HasDef (L2.KOf KX) mg "_law_thing" Pg.s__law_thing 0:=by refine' F.has_def KX G ?a_109 ?l_109 ?c_109 ?k_109;(case a_109=>k_is);(case l_109=>k_is);(case c_109=>k_is);(case k_109=>k_is)
   have udh:F.HasDef (L2.KOf KX) mg "_law_pairs" Pg.s__law_pairs 0:=by refine' F.has_def KX G ?a_110 ?l_110 ?c_110 ?k_110;(case a_110=>k_is);(case l_110=>k_is);(case c_110=>k_is);(case k_110=>k_is)
   have ugl:F.HasDef (L2.KOf KX) mg "built" Pg.s_built 0:=by refine' F.has_def KX G ?a_111 ?l_111 ?c_111 ?k_111;(case a_111=>k_is);(case l_111=>k_is);(case c_111=>k_is);(case k_111=>k_is)
   have ufi:F.HasDef (L2.KOf KX) mg "make_of" Pg.s_make_of 0:=by refine' F.has_def KX G ?a_112 ?l_112 ?c_112 ?k_112;(case a_112=>k_is);(case l_112=>k_is);(case c_112=>k_is);(case k_112=>k_is)
   have ub4:F.HasDef (L2.KOf KX) mg "check_stretch" Pg.s_check_stretch 0:=by refine' F.has_def KX G ?a_113 ?l_113 ?c_113 ?k_113;(case a_113=>k_is);(case l_113=>k_is);(case c_113=>k_is);(case k_113=>k_is)
   have ud5:F.HasDef (L2.KOf KX) mg "cut_ahead" Pg.s_cut_ahead 0:=by refine' F.has_def KX G ?a_114 ?l_114 ?c_114 ?k_114;(case a_114=>k_is);(case l_114=>k_is);(case c_114=>k_is);(case k_114=>k_is)
   have uc8:F.HasDef (L2.KOf KX) mg "turned_part" Pg.s_turned_part 0:=by refine' F.has_def KX G ?a_115 ?l_115 ?c_115 ?k_115;(case a_115=>k_is);(case l_115=>k_is);(case c_115=>k_is);(case k_115=>k_is)
   have udv:F.HasDef (L2.KOf KX) mg "_law_table" Pg.s__law_table 0:=by refine' F.has_def KX G ?a_116 ?l_116 ?c_116 ?k_116;(case a_116=>k_is);(case l_116=>k_is);(case c_116=>k_is);(case k_116=>k_is)
   have ufr:F.HasDef (L2.KOf KX) mg "gather" Pg.s_gather 0:=by refine' F.has_def KX G ?a_117 ?l_117 ?c_117 ?k_117;(case a_117=>k_is);(case l_117=>k_is);(case c_117=>k_is);(case k_117=>k_is)
   have ud6:F.HasDef (L2.KOf KX) mg "things_of" Pg.s_things_of 0:=by refine' F.has_def KX G ?a_118 ?l_118 ?c_118 ?k_118;(case a_118=>k_is);(case l_118=>k_is);(case c_118=>k_is);(case k_118=>k_is)
   have ue1:F.HasDef (L2.KOf KX) mg "value_of" Pg.s_value_of 0:=by refine' F.has_def KX G ?a_119 ?l_119 ?c_119 ?k_119;(case a_119=>k_is);(case l_119=>k_is);(case c_119=>k_is);(case k_119=>k_is)
   have ucv:F.HasDef (L2.KOf KX) mg "_law_valued" Pg.s__law_valued 0:=by refine' F.has_def KX G ?a_120 ?l_120 ?c_120 ?k_120;(case a_120=>k_is);(case l_120=>k_is);(case c_120=>k_is);(case k_120=>k_is)
   have ue0:F.HasDef (L2.KOf KX) mg "is_whole" Pg.s_is_whole 0:=by refine' F.has_def KX G ?a_121 ?l_121 ?c_121 ?k_121;(case a_121=>k_is);(case l_121=>k_is);(case c_121=>k_is);(case k_121=>k_is)
   have uer:F.HasDef (L2.KOf KX) mg "has_form" Pg.s_has_form 0:=by refine' F.has_def KX G ?a_122 ?l_122 ?c_122 ?k_122;(case a_122=>k_is);(case l_122=>k_is);(case c_122=>k_is);(case k_122=>k_is)
   have ubh:F.HasDef (L2.KOf KX) mg "has_right_measures" Pg.s_has_right_measures 0:=by refine' F.has_def KX G ?a_123 ?l_123 ?c_123 ?k_123;(case a_123=>k_is);(case l_123=>k_is);(case c_123=>k_is);(case k_123=>k_is)
   have ubz:F.HasDef (L2.KOf KX) mg "has_right_sums" Pg.s_has_right_sums 0:=by refine' F.has_def KX G ?a_124 ?l_124 ?c_124 ?k_124;(case a_124=>k_is);(case l_124=>k_is);(case c_124=>k_is);(case k_124=>k_is)
   have uex:F.HasDef (L2.KOf KX) mg "is_right" Pg.s_is_right 1:=by refine' F.has_def1 KX G ?a_125 ?l_125 ?c_125 ?k_125 ?t_125;(case a_125=>k_is);(case l_125=>k_is);(case c_125=>k_is);(case k_125=>k_is);(case t_125=>k_is)
   have uf1:F.HasDef (L2.KOf KX) mg "law" Pg.s_law 0:=by refine' F.has_def KX G ?a_126 ?l_126 ?c_126 ?k_126;(case a_126=>k_is);(case l_126=>k_is);(case c_126=>k_is);(case k_126=>k_is)
   obtain⟨fa',fd,hm,hb,hF⟩:=Pg.law_all (P:=(PySem.Challenge.rw_ownshelf_k24_whole_tables_changed).prog) (w:=w) (fun base hB=>⟨udy,uhm,ug9,uhn,udf,uhq,ug7,uhr,ugt,ue3,uf5,ugs,ugq,ugh,uhg,ufs,ugc,uhj,ug6,uge,ucy,ufz,ugm,uhh,ugx,ugn,uft,ugu,ubr,uc3,ubw,ufk,uei,uf7,ufq,uet,ue9,ugo,ugi,ufn,ugg,ufa,ufc,hup,hB,ub7,uem,ueo,uew,ufy,ucs,uha,ucd,udo,uf8,ucl,udt,udg,uhi,uck,ugk,udp,udi,ud8,udb,ugf,uc6,uci,ue5,ufx,uhe,uev,ucb,ud0,uho,uhv,uda,ucf,ues,ub0,uff,uf2,ufj,ucg,uf9,uhl,ugr,ue8,udm,ud1,udx,udh,ugl,ufi,ub4,ud5,uc8,udv,ufr,ud6,ue1,ucv,ue0,uer,ubh,ubz,uex,uf1⟩) uf1;have e:=hmg.symm.trans hm;cases e;refine⟨fun i p Q e1 e2=>?_,fd,hb,fun base _ _ hB=>hF base hB⟩
   match i,e1,e2 with
   | 0,e1,e2=>
     cases e1;cases e2;refine' F.has_tab (st:=Pg.s__law_valued) KX G ?ta0_128 ?tl0_128 ?tz0_128;(case ta0_128=>k_is);(case tl0_128=>k_is);(case tz0_128=>kernel_rfl)
   | 1,e1,e2=>
     cases e1;cases e2;refine' F.has_tab (st:=Pg.s__law_pairs) KX G ?ta1_128 ?tl1_128 ?tz1_128;(case ta1_128=>k_is);(case tl1_128=>k_is);(case tz1_128=>kernel_rfl)
   | 2,e1,e2=>
     cases e1;cases e2;refine' F.has_tab (st:=Pg.s_by_key) KX G ?ta2_128 ?tl2_128 ?tz2_128;(case ta2_128=>k_is);(case tl2_128=>k_is);(case tz2_128=>kernel_rfl)
   | 3,e1,e2=>
     cases e1;cases e2;refine' F.has_tab (st:=Pg.s__law_done) KX G ?ta3_128 ?tl3_128 ?tz3_128;(case ta3_128=>k_is);(case tl3_128=>k_is);(case tz3_128=>kernel_rfl)
   | 4,e1,e2=>
     cases e1;cases e2;refine' F.has_tab (st:=Pg.s_law) KX G ?ta4_128 ?tl4_128 ?tz4_128;(case ta4_128=>k_is);(case tl4_128=>k_is);(case tz4_128=>kernel_rfl)
   |i+5,e1,_=>cases e1
