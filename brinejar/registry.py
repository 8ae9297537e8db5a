"""The registry of the brands that can be written and made."""

from brinejar.atoms import is_free_brand, is_integer
from brinejar.brands import AllowedBrand, EnteredBrand
from brinejar.errors import BrandTaken, InvalidBrand, InvalidTakes, UnknownBrand

TAKES_LIMIT = 20


class Registry:
    """Brands with the rules or the hooks for their things."""

    def __init__(self, *brands):
        self._known = {}
        for brand in brands:
            self.allow(brand)

    def allow(self, brand):
        """Make a brand known whose things need no hooks."""
        self._require_new(brand)
        self._known[brand] = AllowedBrand(brand)

    def enter(self, brand, make, reduce, *, takes=0, build=None):
        """Make a brand known with its hooks and its number of arguments."""
        self._require_new(brand)
        if not is_integer(takes) or not 0 <= takes <= TAKES_LIMIT:
            raise InvalidTakes(takes)
        self._known[brand] = EnteredBrand(brand, make, reduce, takes, build)

    def forget(self, brand):
        """Make a brand unknown."""
        self._require_known(brand)
        del self._known[brand]

    def takes_of(self, brand):
        """Return the number of arguments that a brand takes."""
        return self.entry_of(brand).takes

    def entry_of(self, brand):
        """Return what is known of a brand."""
        self._require_known(brand)
        return self._known[brand]

    @property
    def brands(self):
        """The ascending tuple of the brands."""
        return tuple(sorted(self._known))

    def twin(self):
        """Return an independent registry with the same brands and hooks."""
        other = Registry()
        other._known = dict(self._known)
        return other

    def __contains__(self, brand):
        return isinstance(brand, str) and brand in self._known

    def __len__(self):
        return len(self._known)

    def _require_new(self, brand):
        if not is_free_brand(brand):
            raise InvalidBrand(brand)
        if brand in self._known:
            raise BrandTaken(brand)

    def _require_known(self, brand):
        if brand not in self:
            raise UnknownBrand(brand)


def registry_or_empty(registry):
    """Return the registry, or an empty one in the place of None."""
    # A registry without brands is not true.
    return Registry() if registry is None else registry
