"""Houses that own shares of one another, reckoned in fractions."""
