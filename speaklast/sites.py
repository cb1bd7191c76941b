"""Sites: where rows of a table are made or shown."""

from speaklast.errors import InvalidSite
from speaklast.filters import Filter
from speaklast.kinds import are_names, is_name, sequence_of


class Site:
    """A name, some columns, a policy and, at a home, the region."""

    POLICIES = ("wait", "skip", "put", "shares", "stamped")

    def __init__(self, name, *columns, policy="put", home=None):
        if not is_name(name):
            raise InvalidSite("name")
        if not are_names(columns):
            raise InvalidSite("columns")
        self.name = name
        self.columns = columns
        self.policy = policy
        if not (home is None or isinstance(home, Filter)):
            raise InvalidSite("home")
        self.home = home

    @classmethod
    def of(cls, name, columns, *, policy="put", home=None):
        """The site with these columns, a list or a tuple."""
        names = sequence_of(columns)
        return Site(name, *names, policy=policy, home=home)

    @property
    def policy(self):
        """The word for how the site treats messages."""
        return self._policy

    @policy.setter
    def policy(self, value):
        if not (isinstance(value, str) and value in Site.POLICIES):
            raise InvalidSite("policy")
        self._policy = value

    def change_policy(self, word):
        """Assigns the policy."""
        self.policy = word


def copy_of_site(site):
    """A site of its own with the same parts."""
    return Site.of(site.name, site.columns, policy=site.policy, home=site.home)
